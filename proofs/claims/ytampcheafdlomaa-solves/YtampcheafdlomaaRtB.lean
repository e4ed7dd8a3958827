import Derived.Test.YtampcheafdlomaaRtA
namespace Go.Proofs.Ytampcheafdlomaa
open Go.RowKit Go.Deep
set_option linter.unusedSimpArgs false
set_option linter.unusedVariables false

/-- What a round leaves behind. -/
def Round (es : List A5) (fl : List Int) (n : Nat) (S : Nat → Bool) (K rb sb cb ab : Nat) (c r : Nat) (more : Nat) (w w' : World) : Prop :=
  ∃ seen cost last T R c' nw, Ways w' K rb sb cb ab n seen cost last nw ∧ WInv es fl n S seen cost last T R c' (r + 1) (fun _ => False) ∧ New n R r nw ∧ (∀ v, v < n → R v < r + 1) ∧ c' ≤ c + more ∧ Below K w w'

set_option maxHeartbeats 2000000 in
theorem rGoRound_any (K rb sb cb ab n : Nat) (S seen : Nat → Bool) (cost : Nat → Int) (last : Nat → St) (nw : Int) (T R : Nat → Nat) (c r : Nat) (lb fb vb : Nat) (sa aa : Option Addr) (sn sc an ac : Nat) (xs fl lf : List Int) (es : List A5) (wz w : World)
    (hn : NetOK xs es) (hxn : xs.length = n) (hL : Load w lb fb vb sa sn sc aa an ac fl lf) (hlk : lb < K ∧ fb < K ∧ vb < K) (hA0 : Arcs wz aa an es) (hB0 : Below wz.heap.size wz w) (hk0 : wz.heap.size ≤ K) (hm : Mild fl es.length) (hrm : ∀ s : St, s.arc < es.length → 0 ≤ roomOf es fl s) (hKw : K ≤ w.heap.size)
    (hW : Ways w K rb sb cb ab n seen cost last nw) (hI : WInv es fl n S seen cost last T R c r (fun _ => False)) (hR : ∀ v, v < n → R v < r) (hr1 : 1 ≤ r) (hc : c ≤ 500) :
    Calls Try.prog 77 #[.pointer (some ⟨lb, 0, none⟩), .pointer (some ⟨rb, 0, none⟩)] w fun e w' => e = .returned (.tuple #[]) ∧ Round es fl n S K rb sb cb ab c r (2 * an) w w' := by
  have hal : Hid (es.length = an) := hA0.len
  have h24 : an ≤ 24 := by rw [← hal.out]; exact hn.arcs
  have k3 := hW.c3
  have f3 := hW.rr.frozen 3
  have hrb := hW.rr.lt
  have hW0 := hW.setNew (-1)
  have hb0 : Below K w (w.setCell ⟨rb, 3, none⟩ (.int .i64 (-1))) := (Below.refl _ _).setCell (p := ⟨rb, 3, none⟩) hW.lo.1 _
  have hsz0 : (w.setCell ⟨rb, 3, none⟩ (.int .i64 (-1))).heap.size = w.heap.size := by simp [World.setCell]
  have hL0 := hL.below hb0 hlk.1 hlk.2.1 hlk.2.2
  have k1 := hL0.c1
  have HG : Hid (Gone es fl n S K rb sb cb ab c r (fun s => s.arc < 0) 0 w (w.setCell ⟨rb, 3, none⟩ (.int .i64 (-1)))) :=
    ⟨seen, cost, last, T, R, c, -1, hW0, hI.mono (fun s h => by omega), .inl ⟨rfl, hR⟩, Nat.le_refl _, hb0⟩
  have HL := hide hL
  have HA := hide hA0
  clear hL hA0 hW hW0 hL0 hI hR hb0 hsz0
  go_enter Try.func77, Try.ntmps77
  go_wp2
  go_loopw [4, 14] (fun nm i wr => ∃ k : Nat, k ≤ an ∧ i = .int .i64 k ∧ Hid (Gone es fl n S K rb sb cb ab c r (fun s => s.arc < k) (2 * k) w wr)) (fun _ i _ => an - (intOf i).toNat)
  case atStart => exact ⟨0, Nat.zero_le _, rfl, HG.out⟩
  case round =>
    clear k1 k3 f3 HG
    obtain ⟨k, hk, rfl, hG⟩ := hrel
    by_cases hlt : k < an
    · obtain ⟨seen1, cost1, last1, T1, R1, c1, nw1, hW1, hI1, hN1, hc1, hb1⟩ := hG.out
      have hlt3 : (k : Int) < (an : Int) := by omega
      have hKr : K ≤ wr.heap.size := Nat.le_trans hKw hb1.size
      have cA : n0 (Calls Try.prog 90 #[.pointer (some ⟨lb, 0, none⟩), .pointer (some ⟨rb, 0, none⟩), .agg #[.int .i64 k, .bool false]] wr fun e w' => e = .returned (.tuple #[]) ∧
        Gone es fl n S K rb sb cb ab c1 r (fun x => x.arc < k ∨ x = ⟨k, false⟩) 1 wr w') :=
        rGoOn_any K rb sb cb ab n S seen1 cost1 last1 nw1 T1 R1 c1 r _ lb fb vb sa aa sn sc an ac xs fl lf es k false wr hn hxn (HL.out.below hb1 hlk.1 hlk.2.1 hlk.2.2) hlk (HA.out.below (hB0.trans (hb1.mono hk0))) hm hrm hKr hW1 hI1 hN1 hr1 (by omega) hlt
      clear hW1 hI1 hN1 hG
      go_wp2_with fail
      refine Calls.mono cA.out ?_
      rintro e w2 ⟨rfl, seen2, cost2, last2, T2, R2, c2, nw2, hW2, hI2, hN2, hc2, hb2⟩
      clear cA
      have hb12 := hb1.trans hb2
      have cB : n0 (Calls Try.prog 90 #[.pointer (some ⟨lb, 0, none⟩), .pointer (some ⟨rb, 0, none⟩), .agg #[.int .i64 k, .bool true]] w2 fun e w' => e = .returned (.tuple #[]) ∧
        Gone es fl n S K rb sb cb ab c2 r (fun x => (x.arc < k ∨ x = ⟨k, false⟩) ∨ x = ⟨k, true⟩) 1 w2 w') :=
        rGoOn_any K rb sb cb ab n S seen2 cost2 last2 nw2 T2 R2 c2 r _ lb fb vb sa aa sn sc an ac xs fl lf es k true w2 hn hxn (HL.out.below hb12 hlk.1 hlk.2.1 hlk.2.2) hlk (HA.out.below (hB0.trans (hb12.mono hk0))) hm hrm (Nat.le_trans hKw hb12.size) hW2 hI2 hN2 hr1 (by omega) hlt
      clear hW2 hI2 hN2
      go_wp2_with fail
      refine Calls.mono cB.out ?_
      rintro e w3 ⟨rfl, seen3, cost3, last3, T3, R3, c3, nw3, hW3, hI3, hN3, hc3, hb3⟩
      clear cB
      have HI3 := hide (hI3.mono (done' := fun s => s.arc < k + 1) (by
        rintro ⟨a, b⟩ h
        have h' : a < k + 1 := h
        by_cases e : a = k
        · subst e; cases b
          · exact .inl (.inr rfl)
          · exact .inr rfl
        · exact .inl (.inl (show a < k by omega))))
      have HW3 := hide hW3
      have HN3 := hide hN3
      clear hI3 hW3 hN3
      go_wp2
      go_roundw
      case rel => exact ⟨k + 1, by omega, by go_num, seen3, cost3, last3, T3, R3, c3, nw3, HW3.out, HI3.out, HN3.out, by omega, hb12.trans hb3⟩
      case measure => simp [intOf]; omega
    · have hkn : k = an := by omega
      subst hkn
      have HF : Hid (Round es fl n S K rb sb cb ab c r (2 * k) w wr) := by
        obtain ⟨seen1, cost1, last1, T1, R1, c1, nw1, hW1, hI1, hN1, hc1, hb1⟩ := hG.out
        exact ⟨seen1, cost1, last1, T1, R1, c1, nw1, hW1, hI1.next (fun s hs => by rw [hal.out] at hs; exact hs), hN1, fun v hv => by have := (hI1.rnd v hv).1; omega, hc1, hb1⟩
      clear hG
      go_wp2
      go_end0
      exact ⟨rfl, HF.out⟩

/-! ### new ways -/
theorem infoStep : (Try.prog.info? 86).map (fun i => (i.zero, i.size, i.bytes)) = some (some (.agg #[.int .i64 0, .bool false]), 2, 16) := by kernel_rfl
theorem run_make_steps (n : Nat) (hn : n ≤ 10) (w : World) :
    (Instr.makeSlice 79 (.int .i64 (n : Int)) (.int .i64 (n : Int))).run Try.prog w = .ok (.slice (some ⟨w.heap.size, 0, none⟩) n n) (w.alloc (.cells (madeCells #[.int .i64 0, .bool false] (n * 2)) 86)) := by
  obtain ⟨i, hi, hz0, hz1, hz2⟩ := info_parts infoStep
  have hr := run_make (P := Try.prog) w 79 86 i _ Try.underlying79 hi hz0 .i64 .i64 n n (by omega) (Int.le_refl _) (by rw [hz2]; omega) (by omega)
  simp only [Int.toNat_natCast, hz1] at hr
  exact hr
theorem made_steps (w : World) (n b : Nat) (hb : w.heap.size = b) : (w.alloc (.cells (madeCells #[.int .i64 0, .bool false] (n * 2)) 86)).rowIs b 86 (n * 2) (lastF (fun _ => zS)) := by
  subst hb
  refine ⟨_, blk_alloc_new _ _, size_madeCells _ _, fun i hi => ?_⟩
  unfold lastF
  simp only [madeCells, Array.getElem?_map, Array.getElem?_range, hi, if_true, Option.map_some]
  by_cases h : i % 2 = 0
  · rw [if_pos h]
    simp [h, zS]
  · have h1 : i % 2 = 1 := by omega
    rw [if_neg h]
    simp [h1, zS]
theorem made_bools (w : World) (n b : Nat) (hb : w.heap.size = b) : (w.alloc (.cells (madeCells #[.bool false] n) 4)).rowIs b 4 n (fun _ => .bool false) := by
  subst hb
  exact World.rowIs_made _ _ _ _
theorem made_ints (w : World) (n b : Nat) (hb : w.heap.size = b) : (w.alloc (.cells (madeCells #[.int .i64 0] n) 3)).rowIs b 3 n (fun _ => .int .i64 0) := by
  subst hb
  exact World.rowIs_made _ _ _ _
def oB (n : Nat) : Obj := .cells (madeCells #[.bool false] n) 4
def oI (n : Nat) : Obj := .cells (madeCells #[.int .i64 0] n) 3
def oS (n : Nat) : Obj := .cells (madeCells #[.int .i64 0, .bool false] (n * 2)) 86

theorem ways_new (W : World) (K rb sb cb ab n : Nat) (hrb : W.heap.size = rb) (rs : W.rowIs sb 4 n (fun _ => .bool false)) (rc : W.rowIs cb 3 n (fun _ => .int .i64 0)) (ra : W.rowIs ab 86 (n * 2) (lastF (fun _ => zS))) (h1 : K ≤ sb ∧ K ≤ cb ∧ K ≤ ab) (h2 : sb ≠ cb ∧ sb ≠ ab ∧ cb ≠ ab) :
    Ways (W.alloc (.cells #[.slice (some ⟨sb, 0, none⟩) n n, .slice (some ⟨cb, 0, none⟩) n n, .slice (some ⟨ab, 0, none⟩) n n, .int .i64 (-1)] 81)).drew K rb sb cb ab n (fun _ => false) (fun _ => 0) (fun _ => zS) (-1) := by
  subst hrb
  have l1 := rs.lt
  have l2 := rc.lt
  have l3 := ra.lt
  refine ⟨(World.rowIs_alloc _ _ _ _ ?_).drew, (rs.alloc _).drew, (rc.alloc _).drew, (ra.alloc _).drew, by omega, by omega⟩
  intro i hi
  simp only [List.size_toArray, List.length_cons, List.length_nil] at hi
  rcases i with _ | _ | _ | _ | i
  · rfl
  · rfl
  · rfl
  · rfl
  · omega

/-- A new one, whatever order its lists were made in. -/
def NewWays (w : World) (n : Nat) (r : Value) (wx : World) : Prop :=
  ∃ rb sb cb ab, r = .pointer (some ⟨rb, 0, none⟩) ∧ Ways wx w.heap.size rb sb cb ab n (fun _ => false) (fun _ => 0) (fun _ => zS) (-1) ∧ Below w.heap.size w wx
theorem below4 (w : World) (a b c d : Obj) : Below w.heap.size w ((((w.alloc a).alloc b).alloc c).alloc d).drew :=
  (((((Below.refl _ _).alloc (Nat.le_refl _) _).alloc (by simp) _).alloc (by simp; omega) _).alloc (by simp; omega) _).drew
section
variable (w : World) (n : Nat)
theorem nw_1 : NewWays w n (.pointer (some ⟨w.heap.size + 1 + 1 + 1, 0, none⟩)) ((((w.alloc (.cells (madeCells #[.bool false] n) 4)).alloc (.cells (madeCells #[.int .i64 0] n) 3)).alloc (.cells (madeCells #[.int .i64 0, .bool false] (n * 2)) 86)).alloc (.cells #[.slice (some ⟨w.heap.size, 0, none⟩) n n, .slice (some ⟨w.heap.size + 1, 0, none⟩) n n, .slice (some ⟨w.heap.size + 1 + 1, 0, none⟩) n n, .int .i64 (-1)] 81)).drew :=
  ⟨_, _, _, _, rfl, ways_new _ _ _ _ _ _ _ (by simp) (((made_bools w n _ rfl).alloc _).alloc _) ((made_ints (w.alloc _) n _ (by simp)).alloc _) (made_steps ((w.alloc _).alloc _) n _ (by simp)) (by omega) (by omega), below4 _ _ _ _ _⟩
theorem nw_2 : NewWays w n (.pointer (some ⟨w.heap.size + 1 + 1 + 1, 0, none⟩)) ((((w.alloc (.cells (madeCells #[.bool false] n) 4)).alloc (.cells (madeCells #[.int .i64 0, .bool false] (n * 2)) 86)).alloc (.cells (madeCells #[.int .i64 0] n) 3)).alloc (.cells #[.slice (some ⟨w.heap.size, 0, none⟩) n n, .slice (some ⟨w.heap.size + 1 + 1, 0, none⟩) n n, .slice (some ⟨w.heap.size + 1, 0, none⟩) n n, .int .i64 (-1)] 81)).drew :=
  ⟨_, _, _, _, rfl, ways_new _ _ _ _ _ _ _ (by simp) (((made_bools w n _ rfl).alloc _).alloc _) (made_ints ((w.alloc _).alloc _) n _ (by simp)) ((made_steps (w.alloc _) n _ (by simp)).alloc _) (by omega) (by omega), below4 _ _ _ _ _⟩
theorem nw_3 : NewWays w n (.pointer (some ⟨w.heap.size + 1 + 1 + 1, 0, none⟩)) ((((w.alloc (.cells (madeCells #[.int .i64 0] n) 3)).alloc (.cells (madeCells #[.bool false] n) 4)).alloc (.cells (madeCells #[.int .i64 0, .bool false] (n * 2)) 86)).alloc (.cells #[.slice (some ⟨w.heap.size + 1, 0, none⟩) n n, .slice (some ⟨w.heap.size, 0, none⟩) n n, .slice (some ⟨w.heap.size + 1 + 1, 0, none⟩) n n, .int .i64 (-1)] 81)).drew :=
  ⟨_, _, _, _, rfl, ways_new _ _ _ _ _ _ _ (by simp) ((made_bools (w.alloc _) n _ (by simp)).alloc _) (((made_ints w n _ rfl).alloc _).alloc _) (made_steps ((w.alloc _).alloc _) n _ (by simp)) (by omega) (by omega), below4 _ _ _ _ _⟩
theorem nw_4 : NewWays w n (.pointer (some ⟨w.heap.size + 1 + 1 + 1, 0, none⟩)) ((((w.alloc (.cells (madeCells #[.int .i64 0] n) 3)).alloc (.cells (madeCells #[.int .i64 0, .bool false] (n * 2)) 86)).alloc (.cells (madeCells #[.bool false] n) 4)).alloc (.cells #[.slice (some ⟨w.heap.size + 1 + 1, 0, none⟩) n n, .slice (some ⟨w.heap.size, 0, none⟩) n n, .slice (some ⟨w.heap.size + 1, 0, none⟩) n n, .int .i64 (-1)] 81)).drew :=
  ⟨_, _, _, _, rfl, ways_new _ _ _ _ _ _ _ (by simp) (made_bools ((w.alloc _).alloc _) n _ (by simp)) (((made_ints w n _ rfl).alloc _).alloc _) ((made_steps (w.alloc _) n _ (by simp)).alloc _) (by omega) (by omega), below4 _ _ _ _ _⟩
theorem nw_5 : NewWays w n (.pointer (some ⟨w.heap.size + 1 + 1 + 1, 0, none⟩)) ((((w.alloc (.cells (madeCells #[.int .i64 0, .bool false] (n * 2)) 86)).alloc (.cells (madeCells #[.bool false] n) 4)).alloc (.cells (madeCells #[.int .i64 0] n) 3)).alloc (.cells #[.slice (some ⟨w.heap.size + 1, 0, none⟩) n n, .slice (some ⟨w.heap.size + 1 + 1, 0, none⟩) n n, .slice (some ⟨w.heap.size, 0, none⟩) n n, .int .i64 (-1)] 81)).drew :=
  ⟨_, _, _, _, rfl, ways_new _ _ _ _ _ _ _ (by simp) ((made_bools (w.alloc _) n _ (by simp)).alloc _) (made_ints ((w.alloc _).alloc _) n _ (by simp)) (((made_steps w n _ rfl).alloc _).alloc _) (by omega) (by omega), below4 _ _ _ _ _⟩
theorem nw_6 : NewWays w n (.pointer (some ⟨w.heap.size + 1 + 1 + 1, 0, none⟩)) ((((w.alloc (.cells (madeCells #[.int .i64 0, .bool false] (n * 2)) 86)).alloc (.cells (madeCells #[.int .i64 0] n) 3)).alloc (.cells (madeCells #[.bool false] n) 4)).alloc (.cells #[.slice (some ⟨w.heap.size + 1 + 1, 0, none⟩) n n, .slice (some ⟨w.heap.size + 1, 0, none⟩) n n, .slice (some ⟨w.heap.size, 0, none⟩) n n, .int .i64 (-1)] 81)).drew :=
  ⟨_, _, _, _, rfl, ways_new _ _ _ _ _ _ _ (by simp) (made_bools ((w.alloc _).alloc _) n _ (by simp)) ((made_ints (w.alloc _) n _ (by simp)).alloc _) (((made_steps w n _ rfl).alloc _).alloc _) (by omega) (by omega), below4 _ _ _ _ _⟩
end

/-- What 'cheapest' answers. -/
def Cheap (es : List A5) (fl : List Int) (n : Nat) (S : Nat → Bool) (K rb : Nat) (w' : World) : Prop :=
  ∃ sb cb ab seen cost last T R c nw, Ways w' K rb sb cb ab n seen cost last nw ∧ WInv es fl n S seen cost last T R c (n + 1) (fun _ => False) ∧ New n R n nw ∧ c ≤ 480

/-- Behind q rounds. -/
def Rounds (es : List A5) (fl : List Int) (n : Nat) (S : Nat → Bool) (K rb sb cb ab an q : Nat) (w' : World) : Prop :=
  ∃ seen cost last T R c nw, Ways w' K rb sb cb ab n seen cost last nw ∧ WInv es fl n S seen cost last T R c (q + 1) (fun _ => False) ∧ (∀ v, v < n → R v < q + 1) ∧ (q = 0 ∨ New n R q nw) ∧ c ≤ q * (2 * an)

theorem WInv.congr {es : List A5} {fl : List Int} {n : Nat} {S S' : Nat → Bool} {seen : Nat → Bool} {cost : Nat → Int} {last : Nat → St} {T R : Nat → Nat} {c r : Nat} {done : St → Prop} (h : WInv es fl n S seen cost last T R c r done) (hS : ∀ v, v < n → S' v = S v) : WInv es fl n S' seen cost last T R c r done :=
  ⟨fun v hv h1 => h.start v hv (by rw [← hS v hv]; exact h1), fun v hv h1 h2 => by rw [hS v hv]; exact h.root v hv h1 h2, h.way, h.time, h.rnd, h.bd, h.arcs, h.sat⟩
/-- Ways whose first nodes are seen as they may start. -/
theorem WInv.init' (es : List A5) (fl : List Int) (n : Nat) (S seen : Nat → Bool) (hS : ∀ v, v < n → seen v = S v) : WInv es fl n S seen (fun _ => 0) (fun _ => zS) (fun _ => 0) (fun _ => 0) 0 1 (fun _ => False) :=
  (WInv.init es fl n seen).congr (fun v hv => (hS v hv).symm)

set_option maxRecDepth 100000 in
set_option maxHeartbeats 4000000 in
theorem rCheapest_any (lb fb vb : Nat) (sa aa : Option Addr) (sn sc an ac : Nat) (xs fl lf : List Int) (es : List A5) (S : Nat → Bool) (tb : Nat) (wz w : World)
    (hn : NetOK xs es) (hxn : xs.length = sn) (hL : Load w lb fb vb sa sn sc aa an ac fl lf) (hA0 : Arcs wz aa an es) (hB0 : Below wz.heap.size wz w) (hm : Mild fl es.length) (hrm : ∀ s : St, s.arc < es.length → 0 ≤ roomOf es fl s) (hT : w.rowIs tb 4 sn (fun i => .bool (S i))) :
    Calls Try.prog 57 #[.pointer (some ⟨lb, 0, none⟩), .slice (some ⟨tb, 0, none⟩) sn sn] w fun e w' => ∃ rb, e = .returned (.pointer (some ⟨rb, 0, none⟩)) ∧ Below w.heap.size w w' ∧ Cheap es fl sn S w.heap.size rb w' := by
  have HL := hide hL
  have HA := hide hA0
  have hten : sn ≤ 10 := by rw [← hxn]; exact hn.ten
  have hone : 1 ≤ sn := by rw [← hxn]; exact hn.one
  have h24 : an ≤ 24 := by rw [← hA0.len]; exact hn.arcs
  have hlk : Hid (lb < w.heap.size ∧ fb < w.heap.size ∧ vb < w.heap.size) := ⟨hL.lt, hL.flt.1, hL.flt.2⟩
  have hmb := run_make_row' (P := Try.prog) 75 4 (.bool false) 1 Try.underlying75 infoBool rfl .i64 .i64 sn (by omega) (by omega)
  have hmi := run_make_row' (P := Try.prog) 22 3 (.int .i64 0) 8 Try.underlying22 infoInt rfl .i64 .i64 sn (by omega) (by omega)
  have hms := run_make_steps sn hten
  have HT := hide hT
  have htb : tb < w.heap.size := hT.lt
  clear hL hA0 hT
  go_enter Try.func57, Try.ntmps57
  go_upto_region 2 with fail
  go_cut [6] (fun r wx => NewWays w sn r wx)
  case first =>
    go_region
    all_goals (go_wp2_with fail; go_meet)
    · exact nw_1 _ _
    · exact nw_2 _ _
    · exact nw_3 _ _
    · exact nw_4 _ _
    · exact nw_5 _ _
    · exact nw_6 _ _
  case rest =>
  obtain ⟨rb, sb, cb, ab, rfl, hW0, hb0⟩ := hcut
  clear hmb hmi hms
  have HW0 := hide hW0
  clear hW0
  go_wp2
  go_loopw [7, 8, 22] (fun nd st i wr => ∃ k : Nat, k ≤ sn ∧ i = .int .i64 k ∧ (∃ seen, Hid (Ways wr w.heap.size rb sb cb ab sn seen (fun _ => 0) (fun _ => zS) (-1)) ∧ Hid (∀ v, v < k → seen v = S v)) ∧ Below w.heap.size w wr) (fun _ _ i _ => sn - (intOf i).toNat)
  case atStart => exact ⟨0, Nat.zero_le _, rfl, ⟨_, HW0.out, fun v hv => by omega⟩, hb0⟩
  case round =>
    clear HW0 hb0
    obtain ⟨k, hk, rfl, ⟨seen, hW, hS⟩, hb⟩ := hrel
    by_cases hlt : k < sn
    · have hlt3 : (k : Int) < (sn : Int) := by omega
      have ct := (below_blk hb htb).trans (HT.out.cell hlt)
      have k0 := hW.out.c0
      have cs := hW.out.rs.cell hlt
      have fs := hW.out.rs.frozen k
      have hlo := hW.out.lo.2.1
      have HW1 := hide (hW.out.setSeen k (S k))
      have HB1 := hide (hb.setCell (p := ⟨sb, k, none⟩) hlo (.bool (S k)))
      clear hW hb
      go_wp2
      go_roundw
      case rel =>
        refine ⟨k + 1, by omega, by go_num, ⟨_, HW1.out, fun v hv => ?_⟩, HB1.out⟩
        by_cases e : v = k
        · subst e; exact upd_same _ _ _
        · rw [upd_ne _ _ e]; exact hS.out v (by omega)
      case measure => simp [intOf]; omega
    · have hkn : k = sn := by omega
      subst hkn
      have HR : Hid (Rounds es fl k S w.heap.size rb sb cb ab an 0 wr) :=
        ⟨_, _, _, _, _, _, _, hW.out, WInv.init' es fl k S seen hS.out, fun v hv => by omega, .inl rfl, by omega⟩
      clear hW hS
      go_wp2
      go_loopw [9] (fun i wq => ∃ q : Nat, q ≤ k ∧ i = .int .i64 q ∧ Hid (Rounds es fl k S w.heap.size rb sb cb ab an q wq) ∧ Below w.heap.size w wq) (fun i _ => k - (intOf i).toNat)
      case atStart => exact ⟨0, Nat.zero_le _, rfl, HR.out, hb⟩
      case round =>
        clear HR hb
        obtain ⟨q, hq, rfl, hF, hb⟩ := hrel
        by_cases hlt2 : q < k
        · obtain ⟨seen, cost, last, T, R, c, nw, hW, hI, hR, hN, hc⟩ := hF.out
          have hlt3 : (q : Int) < (k : Int) := by omega
          have hqa : q * (2 * an) + 2 * an ≤ 480 := by
            have : (q + 1) * (2 * an) ≤ 10 * 48 := Nat.mul_le_mul (by omega) (by omega)
            rw [Nat.add_mul] at this
            omega
          have cG : n0 (Calls Try.prog 77 #[.pointer (some ⟨lb, 0, none⟩), .pointer (some ⟨rb, 0, none⟩)] wr fun e w' => e = .returned (.tuple #[]) ∧ Round es fl k S w.heap.size rb sb cb ab c (q + 1) (2 * an) wr w') :=
            rGoRound_any w.heap.size rb sb cb ab k S seen cost last nw T R c (q + 1) lb fb vb sa aa k sc an ac xs fl lf es wz wr hn hxn (HL.out.below hb hlk.out.1 hlk.out.2.1 hlk.out.2.2) hlk.out HA.out (hB0.trans (hb.mono hB0.size)) hB0.size hm hrm hb.size hW hI hR (by omega) (by omega)
          clear hW hI hR hN hF
          go_wp2_with fail
          refine Calls.mono cG.out ?_
          rintro e w2 ⟨rfl, seen2, cost2, last2, T2, R2, c2, nw2, hW2, hI2, hN2, hR2, hc2, hb2⟩
          clear cG
          have HF2 : Hid (Rounds es fl k S w.heap.size rb sb cb ab an (q + 1) w2) :=
            ⟨seen2, cost2, last2, T2, R2, c2, nw2, hW2, hI2, hR2, .inr hN2, by rw [Nat.add_mul]; omega⟩
          clear hW2 hI2 hN2 hR2
          go_wp2
          go_roundw
          case rel => exact ⟨q + 1, by omega, by go_num, HF2.out, hb.trans hb2⟩
          case measure => simp [intOf]; omega
        · have hqe : q = k := by omega
          have HC : Hid (Cheap es fl k S w.heap.size rb wr) := by
            obtain ⟨seen, cost, last, T, R, c, nw, hW, hI, hR, hN, hc⟩ := hF.out
            subst hqe
            refine ⟨sb, cb, ab, seen, cost, last, T, R, c, nw, hW, hI, hN.resolve_left (by omega), ?_⟩
            have : q * (2 * an) ≤ 10 * 48 := Nat.mul_le_mul (by omega) (by omega)
            omega
          subst hqe
          clear hF
          go_wp2
          go_ret
          exact ⟨rb, rfl, hb, HC.out⟩
end Go.Proofs.Ytampcheafdlomaa
