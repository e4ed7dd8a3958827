import Derived.Test.YtojiemadoogjlaaSomF
import Derived.Deep.DeepCutAuto
import Derived.Deep.Light
namespace Go.Proofs.Ytojiemadoogjlaa
open Go.RowKit Go.Deep
set_option linter.unusedSimpArgs false
set_option linter.unusedVariables false

theorem infoStep : (Try.prog.info? 85).map (fun i => (i.zero, i.size, i.bytes)) = some (some (.agg #[.int .i64 0, .bool false]), 2, 16) := by kernel_rfl
theorem run_make_steps (n : Nat) (hn : n ≤ 10) (w : World) :
    (Instr.makeSlice 77 (.int .i64 (n : Int)) (.int .i64 (n : Int))).run Try.prog w = .ok (.slice (some ⟨w.heap.size, 0, none⟩) n n) (w.alloc (.cells (madeCells #[.int .i64 0, .bool false] (n * 2)) 85)) := by
  obtain ⟨i, hi, hz0, hz1, hz2⟩ := info_parts infoStep
  have hr := run_make (P := Try.prog) w 77 85 i _ Try.underlying77 hi hz0 .i64 .i64 n n (by omega) (Int.le_refl _) (by rw [hz2]; omega) (by omega)
  simp only [Int.toNat_natCast, hz1] at hr
  exact hr
theorem made_steps (w : World) (n b : Nat) (hb : w.heap.size = b) : (w.alloc (.cells (madeCells #[.int .i64 0, .bool false] (n * 2)) 85)).rowIs b 85 (n * 2) (lastF (fun _ => zS)) := by
  subst hb
  refine ⟨_, blk_alloc_new _ _, size_madeCells _ _, fun i hi => ?_⟩
  unfold lastF
  simp only [madeCells, Array.getElem?_map, Array.getElem?_range, hi, if_true, Option.map_some]
  by_cases h : i % 2 = 0
  · rw [if_pos h]
    simp [h, zS]
  · have h1 : i % 2 = 1 := by omega
    rw [if_neg h]
    simp [h1, zS]
theorem made_bools (w : World) (n b : Nat) (hb : w.heap.size = b) : (w.alloc (.cells (madeCells #[.bool false] n) 4)).rowIs b 4 n (fun _ => .bool false) := by
  subst hb
  exact World.rowIs_made _ _ _ _

theorem bools_1 (w : World) (n : Nat) (o p : Obj) : (((w.alloc (.cells (madeCells #[.bool false] n) 4)).alloc o).alloc p).rowIs w.heap.size 4 n (fun _ => .bool false) := ((made_bools w n _ rfl).alloc _).alloc _
theorem bools_2 (w : World) (n : Nat) (o p : Obj) : (((w.alloc o).alloc (.cells (madeCells #[.bool false] n) 4)).alloc p).rowIs (w.heap.size + 1) 4 n (fun _ => .bool false) := (made_bools (w.alloc o) n _ (by simp)).alloc _
theorem bools_3 (w : World) (n : Nat) (o p : Obj) : (((w.alloc o).alloc p).alloc (.cells (madeCells #[.bool false] n) 4)).rowIs (w.heap.size + 1 + 1) 4 n (fun _ => .bool false) := made_bools ((w.alloc o).alloc p) n _ (by simp)
theorem steps_1 (w : World) (n : Nat) (o p : Obj) : (((w.alloc (.cells (madeCells #[.int .i64 0, .bool false] (n * 2)) 85)).alloc o).alloc p).rowIs w.heap.size 85 (n * 2) (lastF (fun _ => zS)) := ((made_steps w n _ rfl).alloc _).alloc _
theorem steps_2 (w : World) (n : Nat) (o p : Obj) : (((w.alloc o).alloc (.cells (madeCells #[.int .i64 0, .bool false] (n * 2)) 85)).alloc p).rowIs (w.heap.size + 1) 85 (n * 2) (lastF (fun _ => zS)) := (made_steps (w.alloc o) n _ (by simp)).alloc _
theorem steps_3 (w : World) (n : Nat) (o p : Obj) : (((w.alloc o).alloc p).alloc (.cells (madeCells #[.int .i64 0, .bool false] (n * 2)) 85)).rowIs (w.heap.size + 1 + 1) 85 (n * 2) (lastF (fun _ => zS)) := made_steps ((w.alloc o).alloc p) n _ (by simp)

/-- Nobody is reached yet. -/
theorem reach_new (W : World) (K rb sb tb ab n : Nat) (hrb : W.heap.size = rb) (rs : W.rowIs sb 4 n (fun _ => .bool false)) (rt : W.rowIs tb 4 n (fun _ => .bool false)) (ra : W.rowIs ab 85 (n * 2) (lastF (fun _ => zS))) (h1 : K ≤ sb ∧ K ≤ tb ∧ K ≤ ab) (h2 : sb ≠ tb ∧ sb ≠ ab ∧ tb ≠ ab) :
    Reach (W.alloc (.cells #[.slice (some ⟨sb, 0, none⟩) n n, .slice none 0 0, .slice (some ⟨tb, 0, none⟩) n n, .slice (some ⟨ab, 0, none⟩) n n] 79)).drew K (rb + 1) rb sb tb ab n none 0 (fun _ => false) (fun _ => false) [] (fun _ => zS) := by
  subst hrb
  have l1 := rs.lt
  have l2 := rt.lt
  have l3 := ra.lt
  refine ⟨(World.rowIs_alloc _ _ _ _ ?_).drew, (rs.alloc _).drew, (rt.alloc _).drew, (ra.alloc _).drew, World.ownsRow_nil _ _ _ _, by omega, by omega, by omega, by simp [World.drew], by omega⟩
  intro i hi
  simp only [List.size_toArray, List.length_cons, List.length_nil] at hi
  rcases i with _ | _ | _ | _ | i
  · rfl
  · rfl
  · rfl
  · rfl
  · omega

/-- A new one, whatever order its lists were made in. -/
def NewReach (w : World) (n : Nat) (r : Value) (wx : World) : Prop :=
  ∃ rb G sb tb ab, r = .pointer (some ⟨rb, 0, none⟩) ∧ Reach wx w.heap.size G rb sb tb ab n none 0 (fun _ => false) (fun _ => false) [] (fun _ => zS) ∧ Below w.heap.size w wx
theorem below4 (w : World) (a b c d : Obj) : Below w.heap.size w ((((w.alloc a).alloc b).alloc c).alloc d).drew :=
  (((((Below.refl _ _).alloc (Nat.le_refl _) _).alloc (by simp) _).alloc (by simp; omega) _).alloc (by simp; omega) _).drew
theorem new_1 (w : World) (n : Nat) : NewReach w n (.pointer (some ⟨w.heap.size + 1 + 1 + 1, 0, none⟩)) ((((w.alloc (.cells (madeCells #[.bool false] n) 4)).alloc (.cells (madeCells #[.bool false] n) 4)).alloc (.cells (madeCells #[.int .i64 0, .bool false] (n * 2)) 85)).alloc (.cells #[.slice (some ⟨w.heap.size, 0, none⟩) n n, .slice none 0 0, .slice (some ⟨w.heap.size + 1, 0, none⟩) n n, .slice (some ⟨w.heap.size + 1 + 1, 0, none⟩) n n] 79)).drew :=
  ⟨_, _, _, _, _, rfl, reach_new _ _ _ _ _ _ _ (by simp) (bools_1 _ _ _ _) (bools_2 _ _ _ _) (steps_3 _ _ _ _) (by omega) (by omega), below4 _ _ _ _ _⟩
theorem new_2 (w : World) (n : Nat) : NewReach w n (.pointer (some ⟨w.heap.size + 1 + 1 + 1, 0, none⟩)) ((((w.alloc (.cells (madeCells #[.bool false] n) 4)).alloc (.cells (madeCells #[.int .i64 0, .bool false] (n * 2)) 85)).alloc (.cells (madeCells #[.bool false] n) 4)).alloc (.cells #[.slice (some ⟨w.heap.size, 0, none⟩) n n, .slice none 0 0, .slice (some ⟨w.heap.size + 1 + 1, 0, none⟩) n n, .slice (some ⟨w.heap.size + 1, 0, none⟩) n n] 79)).drew :=
  ⟨_, _, _, _, _, rfl, reach_new _ _ _ _ _ _ _ (by simp) (bools_1 _ _ _ _) (bools_3 _ _ _ _) (steps_2 _ _ _ _) (by omega) (by omega), below4 _ _ _ _ _⟩
theorem new_3 (w : World) (n : Nat) : NewReach w n (.pointer (some ⟨w.heap.size + 1 + 1 + 1, 0, none⟩)) ((((w.alloc (.cells (madeCells #[.bool false] n) 4)).alloc (.cells (madeCells #[.bool false] n) 4)).alloc (.cells (madeCells #[.int .i64 0, .bool false] (n * 2)) 85)).alloc (.cells #[.slice (some ⟨w.heap.size + 1, 0, none⟩) n n, .slice none 0 0, .slice (some ⟨w.heap.size, 0, none⟩) n n, .slice (some ⟨w.heap.size + 1 + 1, 0, none⟩) n n] 79)).drew :=
  ⟨_, _, _, _, _, rfl, reach_new _ _ _ _ _ _ _ (by simp) (bools_2 _ _ _ _) (bools_1 _ _ _ _) (steps_3 _ _ _ _) (by omega) (by omega), below4 _ _ _ _ _⟩
theorem new_4 (w : World) (n : Nat) : NewReach w n (.pointer (some ⟨w.heap.size + 1 + 1 + 1, 0, none⟩)) ((((w.alloc (.cells (madeCells #[.bool false] n) 4)).alloc (.cells (madeCells #[.int .i64 0, .bool false] (n * 2)) 85)).alloc (.cells (madeCells #[.bool false] n) 4)).alloc (.cells #[.slice (some ⟨w.heap.size + 1 + 1, 0, none⟩) n n, .slice none 0 0, .slice (some ⟨w.heap.size, 0, none⟩) n n, .slice (some ⟨w.heap.size + 1, 0, none⟩) n n] 79)).drew :=
  ⟨_, _, _, _, _, rfl, reach_new _ _ _ _ _ _ _ (by simp) (bools_3 _ _ _ _) (bools_1 _ _ _ _) (steps_2 _ _ _ _) (by omega) (by omega), below4 _ _ _ _ _⟩
theorem new_5 (w : World) (n : Nat) : NewReach w n (.pointer (some ⟨w.heap.size + 1 + 1 + 1, 0, none⟩)) ((((w.alloc (.cells (madeCells #[.int .i64 0, .bool false] (n * 2)) 85)).alloc (.cells (madeCells #[.bool false] n) 4)).alloc (.cells (madeCells #[.bool false] n) 4)).alloc (.cells #[.slice (some ⟨w.heap.size + 1, 0, none⟩) n n, .slice none 0 0, .slice (some ⟨w.heap.size + 1 + 1, 0, none⟩) n n, .slice (some ⟨w.heap.size, 0, none⟩) n n] 79)).drew :=
  ⟨_, _, _, _, _, rfl, reach_new _ _ _ _ _ _ _ (by simp) (bools_2 _ _ _ _) (bools_3 _ _ _ _) (steps_1 _ _ _ _) (by omega) (by omega), below4 _ _ _ _ _⟩
theorem new_6 (w : World) (n : Nat) : NewReach w n (.pointer (some ⟨w.heap.size + 1 + 1 + 1, 0, none⟩)) ((((w.alloc (.cells (madeCells #[.int .i64 0, .bool false] (n * 2)) 85)).alloc (.cells (madeCells #[.bool false] n) 4)).alloc (.cells (madeCells #[.bool false] n) 4)).alloc (.cells #[.slice (some ⟨w.heap.size + 1 + 1, 0, none⟩) n n, .slice none 0 0, .slice (some ⟨w.heap.size + 1, 0, none⟩) n n, .slice (some ⟨w.heap.size, 0, none⟩) n n] 79)).drew :=
  ⟨_, _, _, _, _, rfl, reach_new _ _ _ _ _ _ _ (by simp) (bools_3 _ _ _ _) (bools_2 _ _ _ _) (steps_1 _ _ _ _) (by omega) (by omega), below4 _ _ _ _ _⟩

theorem intCells_at' (l : List Int) (j : Nat) (h : j < l.length) : (intCells l)[j]? = some (.int .i64 (l.getD j 0)) := by
  simp [intCells, List.getD, h]
theorem own_ints {w : World} {base : Nat} {oa : Option Addr} {oc : Nat} {l : List Int} (h : w.ownsRow base 3 1 (.slice oa l.length oc) l.length (intCells l)) (hs : l.length ≤ 17592186044416) (hb : ∀ x ∈ l, -9223372036854775808 ≤ x ∧ x ≤ 9223372036854775807) : Ints w oa l.length l := by
  obtain ⟨a, c, e, hI, _⟩ := ints_of_own h rfl hs hb
  cases e
  exact hI
theorem RInv.ints {es : List A5} {fl lf : List Int} {n : Nat} {seen start : Nat → Bool} {order : List Int} {last : Nat → St} {pos : Nat → Nat} (h : RInv es fl lf n seen start order last pos) (hn : n ≤ 10) : ∀ x ∈ order, -9223372036854775808 ≤ x ∧ x ≤ 9223372036854775807 := by
  intro x hx
  obtain ⟨i, hi, rfl⟩ := mem_of_getD 0 order x hx
  have := h.ord i hi
  omega

/-- What 'reached' answers. -/
def Found (es : List A5) (fl lf : List Int) (K n rb : Nat) (w' : World) : Prop :=
  ∃ G sb tb ab oa oc seen start order last pos, Reach w' K G rb sb tb ab n oa oc seen start order last ∧ RInv es fl lf n seen start order last pos ∧ (∀ v, v < n → 0 < lf.getD v 0 → start v = true) ∧ (∀ v : Nat, v < n → seen v = true → Shut es fl seen (v : Int) es.length)

def FoundA (es : List A5) (fl lf : List Int) (K G rb sb tb ab n k : Nat) (w' : World) : Prop :=
  ∃ oa oc seen start order last pos, Reach w' K G rb sb tb ab n oa oc seen start order last ∧ RInv es fl lf n seen start order last pos ∧ (∀ v, seen v = true → v < k) ∧ (∀ v, v < k → 0 < lf.getD v 0 → start v = true)
def FoundB (es : List A5) (fl lf : List Int) (K G rb sb tb ab n q : Nat) (w' : World) : Prop :=
  ∃ oa oc seen start order last pos, Reach w' K G rb sb tb ab n oa oc seen start order last ∧ RInv es fl lf n seen start order last pos ∧ (∀ v, v < n → 0 < lf.getD v 0 → start v = true) ∧ q ≤ order.length ∧ (∀ j, j < q → Shut es fl seen (order.getD j 0) es.length)

set_option maxRecDepth 100000 in
set_option maxHeartbeats 4000000 in
theorem rReached_any (lb fb vb : Nat) (sa aa : Option Addr) (sn sc an ac : Nat) (xs fl lf : List Int) (es : List A5) (wz w : World)
    (hn : NetOK xs es) (hxn : xs.length = sn) (hL : Load w lb fb vb sa sn sc aa an ac fl lf) (hA0 : Arcs wz aa an es) (hB0 : Below wz.heap.size wz w) (hm : Mild fl es.length) (hrm : ∀ s : St, s.arc < es.length → 0 ≤ roomOf es fl s) :
    Calls Try.prog 55 #[.pointer (some ⟨lb, 0, none⟩)] w fun e w' => ∃ rb, e = .returned (.pointer (some ⟨rb, 0, none⟩)) ∧ Below w.heap.size w w' ∧ Found es fl lf w.heap.size sn rb w' := by
  have k3 := hL.c3
  have HL := hide hL
  have HA := hide hA0
  have hten : sn ≤ 10 := by rw [← hxn]; exact hn.ten
  have hlk : Hid (lb < w.heap.size ∧ fb < w.heap.size ∧ vb < w.heap.size) := ⟨hL.lt, hL.flt.1, hL.flt.2⟩
  have hmb := run_make_row' (P := Try.prog) 72 4 (.bool false) 1 Try.underlying72 infoBool rfl .i64 .i64 sn (by omega) (by omega)
  have hms := run_make_steps sn hten
  clear hL hA0
  go_enter Try.func55, Try.ntmps55
  go_upto_region 2 with fail
  go_cut [4] (fun r wx => NewReach w sn r wx)
  case first =>
    go_region
    all_goals (go_wp2_with fail; go_meet)
    · exact new_1 _ _
    · exact new_2 _ _
    · exact new_3 _ _
    · exact new_4 _ _
    · exact new_5 _ _
    · exact new_6 _ _
  case rest =>
  obtain ⟨rb, G, sb, tb, ab, rfl, hR0, hb0⟩ := hcut
  clear hmb hms k3
  have HA1 : Hid (FoundA es fl lf w.heap.size G rb sb tb ab sn 0 wc) := ⟨none, 0, _, _, _, _, _, hR0, RInv.none es fl lf sn, (fun v h => by cases h), (fun v hv => by omega)⟩
  have k3 := (HL.out.below hb0 hlk.out.1 hlk.out.2.1 hlk.out.2.2).c3
  clear hR0
  go_wp2
  go_loopw [5, 6, 27] (fun nd lft i wr => ∃ k : Nat, k ≤ sn ∧ i = .int .i64 k ∧ Hid (FoundA es fl lf w.heap.size G rb sb tb ab sn k wr) ∧ Below w.heap.size w wr) (fun _ _ i _ => sn - (intOf i).toNat)
  case atStart => exact ⟨0, Nat.zero_le _, rfl, HA1.out, hb0⟩
  case round =>
    clear k3 HA1 hb0
    obtain ⟨k, hk, rfl, hF, hb⟩ := hrel
    have hLr := HL.out.below hb hlk.out.1 hlk.out.2.1 hlk.out.2.2
    by_cases hlt : k < sn
    · obtain ⟨oa, oc, seen, start, order, last, pos, hR, hI, hsk, hst⟩ := hF.out
      have hlt3 : (k : Int) < (sn : Int) := by omega
      have cv := hLr.rl.cell hlt
      have k2 := hR.c2
      have ct := hR.rt.cell hlt
      have ft := hR.rt.frozen k
      have hsm := hI.small
      have hR1 := hide (hR.setStart k)
      have HRR := hide hR
      have hI0 := hide hI
      have hSK := hide hsk
      have hST := hide hst
      have htb : w.heap.size ≤ tb := hR.lo.2.2.1
      clear hLr hF hI hsk hst hR
      by_cases hpos : 0 < lf.getD k 0
      · have hP := hide hpos
        generalize hxx : lf.getD k 0 = x at cv hpos
        clear hxx
        go_wp2_with fail
        refine (rSee_any w.heap.size G rb sb tb ab sn oa oc seen (upd start k true) order last k _ hR1.out hlt (by omega)).mono ?_
        rintro e w2 ⟨rfl, oa', oc', hR2, hb2⟩
        clear cv k2 ct ft
        go_wp2
        go_roundw
        case rel =>
          refine ⟨k + 1, by omega, by go_num, ?_, (hb.setCell (p := ⟨tb, k, none⟩) htb _).trans hb2⟩
          refine ⟨oa', oc', _, _, _, last, _, hR2, hI0.out.see hlt ?_ (upd start k true) last (fun u hu => upd_ne _ _ hu) (fun _ _ => rfl) (fun _ => hP.out) (hI0.out.arcs k hlt) (fun h => ?_), ?_, ?_⟩
          · cases hs : seen k with
            | false => rfl
            | true => have := hSK.out k hs; omega
          · rw [upd_same] at h; cases h
          · intro v hv
            by_cases e : v = k
            · omega
            · rw [upd_ne _ _ e] at hv
              have := hSK.out v hv; omega
          · intro v hv hp
            by_cases e : v = k
            · subst e; exact upd_same _ _ _
            · rw [upd_ne _ _ e]; exact hST.out v (by omega) hp
        case measure => simp [intOf]; omega
      · have hpf : decide (0 < lf.getD k 0) = false := decide_eq_false hpos
        have HP := hide hpos
        clear hpos k2 ct ft
        generalize hxx : lf.getD k 0 = x at cv hpf
        clear hxx
        go_wp2
        all_goals first
          | (exfalso; simp at hpf; omega)
          | (go_roundw
             case rel =>
               refine ⟨k + 1, by omega, by go_num, ?_, hb⟩
               refine ⟨oa, oc, seen, start, order, last, pos, HRR.out, hI0.out, (fun v hv => by have := hSK.out v hv; omega), fun v hv hp => ?_⟩
               by_cases e : v = k
               · subst e; exact absurd hp HP.out
               · exact hST.out v (by omega) hp
             case measure => simp [intOf]; omega)
    · have hkn : k = sn := by omega
      subst hkn
      have HB1 : Hid (FoundB es fl lf w.heap.size G rb sb tb ab k 0 wr) := by
        obtain ⟨oa, oc, seen, start, order, last, pos, hR, hI, hsk, hst⟩ := hF.out
        exact ⟨oa, oc, seen, start, order, last, pos, hR, hI, hst, Nat.zero_le _, fun j hj => by omega⟩
      clear hF hLr
      go_wp2
      go_loopw [7, 8] (fun i nd wr => ∃ q : Nat, q ≤ k ∧ i = .int .i64 q ∧ Hid (FoundB es fl lf w.heap.size G rb sb tb ab k q wr) ∧ Below w.heap.size w wr) (fun i _ _ => k - (intOf i).toNat)
      case atStart => exact ⟨0, Nat.zero_le _, rfl, HB1.out, hb⟩
      case round =>
        clear HB1 hb
        obtain ⟨q, hq, rfl, hF, hb⟩ := hrel
        obtain ⟨oa, oc, seen, start, order, last, pos, hR, hI, hst, hql, hsh⟩ := hF.out
        have hsm := hI.small
        have k1 := hR.c1
        by_cases hlt2 : q < order.length
        · obtain ⟨bo, oo, x, rfl, hX, hbo, cx⟩ := (own_ints hR.ro (by omega) (hI.ints hten)).get hlt2
          obtain ⟨o1, o2, o3⟩ := hI.ord q hlt2
          rw [hX] at o1 o2 o3
          obtain ⟨v, rfl⟩ := nat_of o1
          rw [Int.toNat_natCast] at o3
          have hvk : v < k := by omega
          have hlt4 : (q : Int) < (order.length : Int) := by omega
          have hLr := HL.out.below hb hlk.out.1 hlk.out.2.1 hlk.out.2.2
          have cS : n0 (Calls Try.prog 65 #[.pointer (some ⟨lb, 0, none⟩), .pointer (some ⟨rb, 0, none⟩), .int .i64 v] wr fun e w' => e = .returned (.tuple #[]) ∧
              Seen es fl lf w.heap.size G rb sb tb ab k seen start order wr w' (fun seen' => Shut es fl seen' v es.length)) :=
            rSpread_any w.heap.size G rb sb tb ab k (some ⟨bo, oo, none⟩) oc seen start order last pos lb fb vb sa aa k sc an ac xs fl lf es v wz wr hn hxn hLr hlk.out HA.out (hB0.trans (hb.mono hB0.size)) hB0.size hm hrm hR hI hvk o3
          have HX := hide hX
          have HSH := hide hsh
          have HST := hide hst
          clear hLr hR hI hsh hst hF hX o1 o2 o3
          go_wp2_with fail
          refine Calls.mono cS.out ?_
          rintro e w2 ⟨rfl, oa2, oc2, seen2, order2, last2, pos2, hR2, hI2, hE2, hb2, hP2⟩
          clear cS k1 cx
          go_wp2
          go_roundw
          case rel =>
            refine ⟨q + 1, by omega, by go_num, ⟨oa2, oc2, seen2, start, order2, last2, pos2, hR2, hI2, HST.out, by have := hE2.len; omega, fun j hj => ?_⟩, hb.trans hb2⟩
            have hj1 : j < order.length := by omega
            rw [(hE2.at hj1).1]
            by_cases e : j = q
            · subst e; rw [HX.out]; exact hP2
            · exact (HSH.out j (by omega)).ext hE2
          case measure => simp [intOf]; omega
        · have hqe : q = order.length := by omega
          have HF : Hid (Found es fl lf w.heap.size k rb wr) := ⟨G, sb, tb, ab, oa, oc, seen, start, order, last, pos, hR, hI, hst, fun v hv hs => by
            obtain ⟨j, hj, e⟩ := inB_iff.1 (hI.cover v hv hs)
            have := hsh j (by omega)
            rw [e] at this
            exact this⟩
          subst hqe
          clear hR hI hst hsh hF
          go_wp2
          go_ret
          exact ⟨rb, rfl, hb, HF.out⟩
end Go.Proofs.Ytojiemadoogjlaa
