import Derived.Test.YtampcheafdlomaaAccE
import Derived.Deep.OwnRows
namespace Go.Proofs.Ytampcheafdlomaa
open Go.RowKit Go.Deep
set_option linter.unusedSimpArgs false
set_option linter.unusedVariables false

theorem infoBool : (Try.prog.info? 4).map (fun i => (i.zero, i.size, i.bytes)) = some (some (.bool false), 1, 1) := by kernel_rfl

theorem inB_take_succ {l : List Int} {k : Nat} (hk : k < l.length) (v : Int) : inB (l.take (k + 1)) v = (inB (l.take k) v || (l.getD k 0 == v)) := by
  unfold inB
  rw [List.take_succ_eq_append_getElem hk, List.any_append]
  simp [List.getD, hk]

set_option maxHeartbeats 1000000 in
theorem gMembersOf_any (ca : Option Addr) (cn cc m : Nat) (cut : List Int) (w : World) (hc : Ints w ca cn cut) (hr : risB cut m = true) (hm : m ≤ 10) :
    Calls Try.prog 83 #[.int .i64 m, .slice ca cn cc] w fun e w' => e = .returned (.slice (some ⟨w.heap.size, 0, none⟩) m m) ∧ w'.rowIs w.heap.size 4 m (fun i => .bool (inB cut i)) ∧ Below w.heap.size w w' := by
  have hL : Hid (cut.length = cn) := hc.len
  have hR := hide hr
  have hsm := hc.small
  have hmk := run_make_row' (P := Try.prog) 75 4 (.bool false) 1 Try.underlying75 infoBool rfl .i64 .i64 m (by omega) (by omega)
  clear hr
  go_enter Try.func83, Try.ntmps83
  go_wp2
  go_loopw [12] (fun i wr => ∃ k : Nat, k ≤ cn ∧ i = .int .i64 k ∧ Hid (wr.rowIs w.heap.size 4 m (fun i => .bool (inB (cut.take k) i))) ∧ Below w.heap.size w wr) (fun i _ => cn - (intOf i).toNat)
  case atStart => exact ⟨0, Nat.zero_le _, rfl, World.rowIs_made _ _ _ _, (Below.refl _ _).alloc (Nat.le_refl _) _⟩
  case round =>
    clear hmk
    obtain ⟨k, hk, rfl, hrow, hbel⟩ := hrel
    by_cases hlt : k < cn
    · have hri := ris_out hR.out (i := k) (by rw [hL.out]; exact hlt)
      obtain ⟨b, off, x, rfl, hX, hb, ex⟩ := (hc.below hbel).get hlt
      rw [hX] at hri
      obtain ⟨v, rfl⟩ := nat_of hri.1
      have hvm : v < m := by omega
      have cv := hrow.out.cell hvm
      have fv := hrow.out.frozen v
      have HX := hide hX
      clear hX hri
      have hlt3 : (k : Int) < (cn : Int) := by omega
      have hlt4 : (v : Int) < (m : Int) := by omega
      go_wp2
      refine ⟨⟨k + 1, by omega, by go_num, ?_, hbel.setCell (Nat.le_refl _) _⟩, by simp [intOf]; omega⟩
      refine (hrow.out.set v (.bool true)).congr ?_
      intro i hi
      rw [inB_take_succ (by rw [hL.out]; exact hlt), HX.out]
      by_cases hiv : i = v
      · subst hiv; simp
      · simp [hiv]; omega
    · have hkn : k = cn := by omega
      subst hkn
      go_wp2
      go_ret
      refine ⟨rfl, hrow.out.congr ?_, hbel⟩
      intro i hi
      rw [List.take_of_length_le (by rw [hL.out]; exact Nat.le_refl _)]

set_option maxHeartbeats 1000000 in
theorem gNeedOf_any (sa aa ca : Option Addr) (sn sc an ac cn cc : Nat) (xs : List Int) (es : List A5) (cut : List Int) (w : World) (hx : Ints w sa sn xs) (hc : Ints w ca cn cut) (hn : NetOK xs es) (hr : risB cut xs.length = true) :
    Calls Try.prog 84 #[.agg #[.slice sa sn sc, .slice aa an ac], .slice ca cn cc] w fun e w' => e = .returned (.int .i64 (needTo xs cut cut.length)) ∧ Below w.heap.size w w' := by
  have hL : Hid (xs.length = sn ∧ cut.length = cn) := ⟨hx.len, hc.len⟩
  have hN := hide hn
  have hR := hide hr
  have hsm := hc.small
  have h10 : sn ≤ 10 := by rw [← hx.len]; exact hn.ten
  clear hn hr
  go_enter Try.func84, Try.ntmps84
  go_wp2
  go_loop [5, 10] (fun v i => ∃ k : Nat, k ≤ cn ∧ i = .int .i64 k ∧ v = .int .i64 (needTo xs cut k)) (fun _ i => cn - (intOf i).toNat)
  case atStart => exact ⟨0, Nat.zero_le _, rfl, rfl⟩
  case round =>
    obtain ⟨k, hk, rfl, rfl⟩ := hrel
    have bd := need_bd hN.out cut k
    by_cases hlt : k < cn
    · have hri := ris_out hR.out (i := k) (by rw [hL.out.2]; exact hlt)
      rw [hL.out.1] at hri
      obtain ⟨b, off, x, rfl, hX, hb, ex⟩ := hc.get hlt
      rw [hX] at hri
      obtain ⟨v, rfl⟩ := nat_of hri.1
      have hvs : v < sn := by omega
      obtain ⟨b', off', y, rfl, hY, hb', ey⟩ := hx.get hvs
      have by1 := getD_bd hN.out v
      rw [hY] at by1
      have HS := hide (need_step hX hY)
      clear hX hY hri
      generalize needTo xs cut k = nd at *
      have hlt3 : (k : Int) < (cn : Int) := by omega
      have hlt4 : (v : Int) < (sn : Int) := by omega
      go_wp2
      exact ⟨⟨k + 1, by omega, by go_num, val_i HS.out.symm⟩, by simp [intOf]; omega⟩
    · have hkn : k = cn := by omega
      subst hkn
      go_wp2
      go_ret
      exact ⟨ret_i (by rw [hL.out.2]), (Below.refl _ _).alloc (Nat.le_refl _) _⟩

set_option maxHeartbeats 1000000 in
theorem gWidened_any (lo ca : Int) (op : Bool) (f t l c q : Int) (w : World) (h1 : 0 ≤ lo) (h2 : lo ≤ 100000) (h3 : 0 ≤ ca) (h4 : ca ≤ 100000) (h5 : 0 ≤ l) (h6 : l ≤ 60) (h7 : c = -1 ∨ (0 ≤ c ∧ c ≤ 60)) :
    Calls Try.prog 91 #[.agg #[.int .i64 lo, .int .i64 ca, .bool op], .agg #[.int .i64 f, .int .i64 t, .int .i64 l, .int .i64 c, .int .i64 q]] w fun e w' =>
      e = .returned (.agg #[.int .i64 (lo + l), .int .i64 (if c = -1 then ca else ca + c), .bool (op || (c == -1))]) ∧ Below w.heap.size w w' := by
  by_cases hc : c = -1
  · subst hc
    clear h7
    go_enter Try.func91, Try.ntmps91
    go_wp2
    exact bodyPost_ret (v := .agg #[.int .i64 (lo + l), .int .i64 ca, .bool true]) (by simp [results, Try.results91, go_sem]) rfl ⟨by simp, (((Joins.below_alloc3 _ _ _ _).alloc (by simp; omega) _))⟩
  · have hcc : (c == -1) = false := by simpa using hc
    have h8 : 0 ≤ c := by omega
    have h9 : c ≤ 60 := by omega
    have HC := hide hc
    clear h7 hc
    go_enter Try.func91, Try.ntmps91
    go_wp2
    exact bodyPost_ret (v := .agg #[.int .i64 (lo + l), .int .i64 (ca + c), .bool op]) (by simp [results, Try.results91, go_sem]) rfl ⟨by simp [HC.out, hcc], (((Joins.below_alloc3 _ _ _ _).alloc (by simp; omega) _))⟩

/-- The three cells of a sum over what crosses. -/
def crossRow (lo ca : Int) (op : Bool) : Nat → Value
  | 0 => .int .i64 lo
  | 1 => .int .i64 ca
  | _ => .bool op
theorem crossRow_alloc (w : World) (lo ca : Int) (op : Bool) (t : TypeId) : (w.alloc (.cells #[.int .i64 lo, .int .i64 ca, .bool op] t)).rowIs w.heap.size t 3 (crossRow lo ca op) := by
  have := World.rowIs_alloc w #[.int .i64 lo, .int .i64 ca, .bool op] t (crossRow lo ca op) (fun i hi => by
    match i, hi with
    | 0, _ => rfl
    | 1, _ => rfl
    | 2, _ => rfl)
  simpa using this
theorem crossRow_set {w : World} {g : Nat} {t : TypeId} {f : Nat → Value} (h : w.rowIs g t 3 f) (lo ca : Int) (op : Bool) : (((w.setCell ⟨g, 0, none⟩ (.int .i64 lo)).setCell ⟨g, 1, none⟩ (.int .i64 ca)).setCell ⟨g, 2, none⟩ (.bool op)).rowIs g t 3 (crossRow lo ca op) := by
  refine (((h.set 0 (.int .i64 lo)).set 1 (.int .i64 ca)).set 2 (.bool op)).congr ?_
  intro i hi
  match i, hi with
  | 0, _ => rfl
  | 1, _ => rfl
  | 2, _ => rfl

theorem blockBelow {B : Nat} {w w' : World} (h : Below B w w') {g : Nat} (hg : g < B) {t : TypeId} {n : Nat} {f : Nat → Value} (hr : w.rowIs g t n f) : w'.rowIs g t n f := hr.of_block (h.block g hg)

set_option maxHeartbeats 2000000 in
theorem gCrossingOf_any (sa aa : Option Addr) (g sn sc an ac : Nat) (xs : List Int) (es : List A5) (cut : List Int) (outward : Bool) (w : World) (he : Arcs w aa an es) (hrow : w.rowIs g 4 sn (fun i => .bool (inB cut i))) (hn : NetOK xs es) (hsn : xs.length = sn) :
    Calls Try.prog 85 #[.agg #[.slice sa sn sc, .slice aa an ac], .slice (some ⟨g, 0, none⟩) sn sn, .bool outward] w fun e w' =>
      e = .returned (.agg #[.int .i64 (lowsTo es cut (!outward) es.length), .int .i64 (capsTo es cut (!outward) es.length), .bool (openTo es cut (!outward) es.length)]) ∧ Below w.heap.size w w' := by
  have hL : Hid (xs.length = sn ∧ es.length = an) := ⟨hsn, he.len⟩
  have hN := hide hn
  have HR := hide hrow
  have hgw : g < w.heap.size := hrow.lt
  have h24 : an ≤ 24 := by rw [← he.len]; exact hn.arcs
  have h10 : sn ≤ 10 := by rw [← hsn]; exact hn.ten
  clear hn hrow hsn
  obtain ⟨back, hback⟩ : ∃ b, (!outward) = b := ⟨_, rfl⟩
  rw [hback]
  have HBK := hide hback
  clear hback
  go_enter Try.func85, Try.ntmps85
  go_wp2
  go_loopw [14] (fun i wr => ∃ k : Nat, k ≤ an ∧ i = .int .i64 k ∧ Hid (wr.rowIs (w.heap.size + 1 + 1) 98 3 (crossRow (lowsTo es cut back k) (capsTo es cut back k) (openTo es cut back k))) ∧ Hid (wr.rowIs (w.heap.size + 1) 98 3 (crossRow 0 0 false)) ∧ Below w.heap.size w wr) (fun i _ => an - (intOf i).toNat)
  case atStart =>
    refine ⟨0, Nat.zero_le _, rfl, ?_, ?_, Joins.below_alloc3 _ _ _ _⟩
    · have := crossRow_alloc ((w.alloc (.cells #[.slice sa sn sc, .slice aa an ac] 25)).alloc (.cells #[.int .i64 0, .int .i64 0, .bool false] 98)) 0 0 false 98
      simp at this
      exact this
    · have := (crossRow_alloc (w.alloc (.cells #[.slice sa sn sc, .slice aa an ac] 25)) 0 0 false 98).alloc (.cells #[.int .i64 0, .int .i64 0, .bool false] 98)
      simp at this
      exact this
  case round =>
    obtain ⟨k, hk, rfl, hS, hZ, hbel⟩ := hrel
    have hsS := hS.out.lt
    have cS0 := hS.out.cell (i := 0) (by omega)
    have cS1 := hS.out.cell (i := 1) (by omega)
    have cS2 := hS.out.cell (i := 2) (by omega)
    have fS0 := hS.out.frozen 0
    have fS1 := hS.out.frozen 1
    have fS2 := hS.out.frozen 2
    simp only [crossRow] at cS0 cS1 cS2
    by_cases hlt : k < an
    · have bl := lows_bd hN.out cut back k (by rw [hL.out.2]; exact hk)
      have bc := caps_bd hN.out cut back k (by rw [hL.out.2]; exact hk)
      have ba := arcB_out (hN.out.arc k (by rw [hL.out.2]; exact hlt))
      rw [hL.out.1] at ba
      obtain ⟨b, off, f, t, l, c, q, rfl, hA, hb, e0, e1, e2, e3, e4⟩ := (he.below hbel).get hlt
      rw [hA] at ba
      simp only [] at ba
      obtain ⟨f, rfl⟩ := nat_of ba.1
      obtain ⟨t, rfl⟩ := nat_of ba.2.2.1
      obtain ⟨-, ba1, -, ba2, ba5, ba6, ba7, ba3, ba4⟩ := ba
      have hrow := blockBelow hbel hgw HR.out
      have cF := hrow.cell (i := f) (by omega)
      have cT := hrow.cell (i := t) (by omega)
      have hgr : g < wr.heap.size := hrow.lt
      obtain ⟨B, hB⟩ : ∃ B, crossB cut back ⟨f, t, l, c, q⟩ = B := ⟨_, rfl⟩
      have HS := hide (lows_step hA hB)
      unfold crossB at hB
      clear hA hrow
      generalize lowsTo es cut back k = LO at *
      generalize capsTo es cut back k = CA at *
      generalize openTo es cut back k = OP at *
      generalize inB cut f = F at *
      generalize inB cut t = T at *
      have hlt3 : (k : Int) < (an : Int) := by omega
      have hlt4 : (f : Int) < (sn : Int) := by omega
      have hlt5 : (t : Int) < (sn : Int) := by omega
      by_cases hcr : F = outward ∧ T = !outward
      · obtain ⟨rfl, rfl⟩ := hcr
        have hBt : B = true := by rw [← hB, ← HBK.out]; cases F <;> simp
        subst hBt
        clear hB
        have fin : Hid (lowsTo es cut back (k + 1) = LO + l ∧ capsTo es cut back (k + 1) = (if c = -1 then CA else CA + c) ∧ openTo es cut back (k + 1) = (OP || (c == -1))) := by
          obtain ⟨g1, g2, g3⟩ := HS.out
          refine ⟨by rw [g1]; simp, ?_, by rw [g3]; simp⟩
          rw [g2]; by_cases hc : c = -1 <;> simp [hc]
        clear HS
        have go2 : ∀ w2 : World, Below wr.heap.size wr w2 → Hid (w2.rowIs (w.heap.size + 1 + 1) 98 3 (crossRow LO CA OP) ∧ w2.rowIs (w.heap.size + 1) 98 3 (crossRow 0 0 false) ∧ Below w.heap.size w w2) := fun w2 h2 => ⟨blockBelow h2 hsS hS.out, blockBelow h2 hZ.out.lt hZ.out, hbel.trans (h2.mono hbel.size)⟩
        cases F
        all_goals
          go_wp2_with fail
          refine (gWidened_any LO CA OP f t l c q _ bl.1 (by omega) bc.1 (by omega) ba5 ba6 (by omega)).mono ?_
          rintro e w2 ⟨rfl, hb2⟩
          obtain ⟨r1, r2, r3⟩ := (go2 w2 (((Below.refl _ _).alloc (Nat.le_refl _) _).trans (hb2.mono (by simp)))).out
          have R1 := hide r1
          have R2 := hide r2
          have cS0' := r1.cell (i := 0) (by omega)
          have cS1' := r1.cell (i := 1) (by omega)
          have cS2' := r1.cell (i := 2) (by omega)
          have fS0' := r1.frozen 0
          have fS1' := r1.frozen 1
          have fS2' := r1.frozen 2
          have ls2 := r1.lt
          simp only [crossRow] at cS0' cS1' cS2'
          obtain ⟨ca2, hca2⟩ : ∃ v, (if c = -1 then CA else CA + c) = v := ⟨_, rfl⟩
          obtain ⟨op2, hop2⟩ : ∃ v, (OP || (c == -1)) = v := ⟨_, rfl⟩
          rw [hca2, hop2]
          have HC2 := hide hca2
          have HO2 := hide hop2
          clear r1 r2 hb2 cS0 cS1 cS2 fS0 fS1 fS2 e0 e1 e2 e3 e4 cF cT hca2 hop2 go2
          go_wp2
          refine ⟨⟨k + 1, by omega, by go_num, ?_, ?_, ?_⟩, by simp [intOf]; omega⟩
          · obtain ⟨g1, g2, g3⟩ := fin.out
            rw [g1, g2, g3, HC2.out, HO2.out]
            exact crossRow_set R1.out _ _ _
          · exact ((R2.out.setOther (by show w.heap.size + 1 ≠ w.heap.size + 1 + 1; omega) _).setOther (by show w.heap.size + 1 ≠ w.heap.size + 1 + 1; omega) _).setOther (by show w.heap.size + 1 ≠ w.heap.size + 1 + 1; omega) _
          · exact ((r3.setCell (by show w.heap.size ≤ w.heap.size + 1 + 1; omega) _).setCell (by show w.heap.size ≤ w.heap.size + 1 + 1; omega) _).setCell (by show w.heap.size ≤ w.heap.size + 1 + 1; omega) _
      · have hBf : B = false := by
          rw [← hB, ← HBK.out]
          revert hcr
          cases outward <;> cases F <;> cases T <;> simp
        subst hBf
        clear hB
        have fin : Hid (lowsTo es cut back (k + 1) = LO ∧ capsTo es cut back (k + 1) = CA ∧ openTo es cut back (k + 1) = OP) := by
          obtain ⟨g1, g2, g3⟩ := HS.out
          exact ⟨by rw [g1]; simp, by rw [g2]; simp, by rw [g3]; simp⟩
        clear HS
        have HCR := hide hcr
        clear hcr
        cases outward <;> cases F <;> cases T <;> first | exact absurd ⟨rfl, rfl⟩ HCR.out | skip
        all_goals
          go_wp2
          refine ⟨⟨k + 1, by omega, by go_num, ?_, hZ.out.alloc _, hbel.alloc hbel.size _⟩, by simp [intOf]; omega⟩
          obtain ⟨g1, g2, g3⟩ := fin.out
          rw [g1, g2, g3]
          exact hS.out.alloc _
    · have hkn : k = an := by omega
      subst hkn
      have cZ0 := hZ.out.cell (i := 0) (by omega)
      have cZ1 := hZ.out.cell (i := 1) (by omega)
      have cZ2 := hZ.out.cell (i := 2) (by omega)
      have fZ0 := hZ.out.frozen 0
      have fZ1 := hZ.out.frozen 1
      have fZ2 := hZ.out.frozen 2
      simp only [crossRow] at cZ0 cZ1 cZ2
      have lz := hZ.out.lt
      go_wp2
      have R := crossRow_set hZ.out (lowsTo es cut back k) (capsTo es cut back k) (openTo es cut back k)
      have q0 := R.cell (i := 0) (by omega)
      have q1 := R.cell (i := 1) (by omega)
      have q2 := R.cell (i := 2) (by omega)
      simp only [crossRow] at q0 q1 q2
      refine bodyPost_ret (v := .agg #[.int .i64 (lowsTo es cut back k), .int .i64 (capsTo es cut back k), .bool (openTo es cut back k)]) (by simp [results, Try.results85, go_sem, q0, q1, q2]) rfl ⟨by rw [hL.out.2], ?_⟩
      exact ((hbel.setCell (by show w.heap.size ≤ w.heap.size + 1; omega) _).setCell (by show w.heap.size ≤ w.heap.size + 1; omega) _).setCell (by show w.heap.size ≤ w.heap.size + 1; omega) _

set_option maxHeartbeats 2000000 in
theorem gViolated_any (sa aa ca : Option Addr) (sn sc an ac cn cc : Nat) (xs : List Int) (es : List A5) (cut : List Int) (w : World) (hx : Ints w sa sn xs) (he : Arcs w aa an es) (hc : Ints w ca cn cut) (hn : NetOK xs es) (hr : risB cut xs.length = true) :
    Calls Try.prog 67 #[.agg #[.slice sa sn sc, .slice aa an ac], .slice ca cn cc] w fun e w' => e = .returned (.bool (violB xs es cut)) ∧ Below w.heap.size w w' := by
  have hL : Hid (xs.length = sn) := hx.len
  have hN := hide hn
  have hR := hide hr
  have h10 : sn ≤ 10 := by rw [← hx.len]; exact hn.ten
  have h24 : es.length ≤ 24 := hn.arcs
  have hb0 : Below w.heap.size w (w.alloc (.cells #[.slice sa sn sc, .slice aa an ac] 25)) := (Below.refl _ _).alloc (Nat.le_refl _) _
  clear hn hr
  go_enter Try.func67, Try.ntmps67
  go_wp2_with fail
  refine (gMembersOf_any ca cn cc sn cut _ (hc.below hb0) (by rw [← hL.out]; exact hR.out) h10).mono ?_
  rintro e w1 ⟨rfl, hrow, hb1⟩
  have k0 : w1.cell? ⟨w.heap.size, 0, none⟩ = some (.slice sa sn sc) := (hb1.cell (by simp)).trans (by go_simp)
  have k1 : w1.cell? ⟨w.heap.size, 1, none⟩ = some (.slice aa an ac) := (hb1.cell (by simp)).trans (by go_simp)
  have hz1 : w.heap.size < w1.heap.size := by have := hb1.size; simp at this; omega
  have hB1 : Below w.heap.size w w1 := hb0.trans (hb1.mono (by simp))
  have hrow1 : Hid (w1.rowIs (w.heap.size + 1) 4 sn (fun i => .bool (inB cut i))) := by simpa using hide hrow
  clear hb1 hb0 hrow
  go_wp2_with fail
  refine (gNeedOf_any sa aa ca sn sc an ac cn cc xs es cut _ (hx.below hB1) (hc.below hB1) hN.out hR.out).mono ?_
  rintro e w2 ⟨rfl, hb2⟩
  have l0 := (hb2.cell (p := ⟨w.heap.size, 0, none⟩) hz1).trans k0
  have l1 := (hb2.cell (p := ⟨w.heap.size, 1, none⟩) hz1).trans k1
  have hB2 : Below w.heap.size w w2 := hB1.trans (hb2.mono (by omega))
  have hrow2 : Hid (w2.rowIs (w.heap.size + 1) 4 sn (fun i => .bool (inB cut i))) := blockBelow hb2 hrow1.out.lt hrow1.out
  have hz2 : w.heap.size + 1 < w2.heap.size := hrow2.out.lt
  clear hb2 k0 k1 hrow1 hz1 hB1
  go_wp2_with fail
  refine (gCrossingOf_any sa aa (w.heap.size + 1) sn sc an ac xs es cut true _ (he.below hB2) hrow2.out hN.out hL.out).mono ?_
  rintro e w3 ⟨rfl, hb3⟩
  have m0 := (hb3.cell (p := ⟨w.heap.size, 0, none⟩) (show w.heap.size < w2.heap.size by omega)).trans l0
  have m1 := (hb3.cell (p := ⟨w.heap.size, 1, none⟩) (show w.heap.size < w2.heap.size by omega)).trans l1
  have hB3 : Below w.heap.size w w3 := hB2.trans (hb3.mono (by omega))
  have hrow3 : Hid (w3.rowIs (w.heap.size + 1) 4 sn (fun i => .bool (inB cut i))) := blockBelow hb3 hrow2.out.lt hrow2.out
  have hz3 : w.heap.size + 1 < w3.heap.size := hrow3.out.lt
  have hz3' : w.heap.size < w3.heap.size := by omega
  clear hb3 l0 l1 hrow2 hz2 hB2
  simp only [Bool.not_true]
  go_wp2_with fail
  refine (gCrossingOf_any sa aa (w.heap.size + 1) sn sc an ac xs es cut false _ (he.below (hB3.alloc hB3.size _)) (hrow3.out.alloc _) hN.out hL.out).mono ?_
  rintro e w4 ⟨rfl, hb4⟩
  simp only [Bool.not_false]
  have hB4 : Below w.heap.size w w4 := (hB3.alloc hB3.size _).trans (hb4.mono (by simp; omega))
  have x0 : w4.cell? ⟨w3.heap.size, 0, none⟩ = some (.int .i64 (lowsTo es cut false es.length)) := (hb4.cell (by simp)).trans (by go_simp)
  have x1 : w4.cell? ⟨w3.heap.size, 1, none⟩ = some (.int .i64 (capsTo es cut false es.length)) := (hb4.cell (by simp)).trans (by go_simp)
  have x2 : w4.cell? ⟨w3.heap.size, 2, none⟩ = some (.bool (openTo es cut false es.length)) := (hb4.cell (by simp)).trans (by go_simp)
  have hz4 : w3.heap.size < w4.heap.size := by have := hb4.size; simp at this; omega
  have b1 := lows_bd hN.out cut false es.length (Nat.le_refl _)
  have b2 := lows_bd hN.out cut true es.length (Nat.le_refl _)
  have b3 := caps_bd hN.out cut false es.length (Nat.le_refl _)
  have b4 := caps_bd hN.out cut true es.length (Nat.le_refl _)
  have HV := hide (violV_eq xs es cut)
  clear hx he hc hN hR hL m0 m1 hrow3 hb4 hB3
  generalize needTo xs cut cut.length = nd at *
  generalize lowsTo es cut false es.length = lo at *
  generalize lowsTo es cut true es.length = li at *
  generalize capsTo es cut false es.length = cap at *
  generalize capsTo es cut true es.length = ci at *
  generalize openTo es cut false es.length = oo at *
  generalize openTo es cut true es.length = oi at *
  cases oo <;> cases oi <;> go_wp2
  all_goals
    go_ret
    refine ⟨ret_b ?_, hB4.alloc hB4.size _⟩
    rw [HV.out]
    simp [violV, *] <;> omega
end Go.Proofs.Ytampcheafdlomaa
