import Derived.Test.YtampcheafdlomaaRtE
namespace Go.Proofs.Ytampcheafdlomaa
open Go.RowKit Go.Deep
set_option linter.unusedSimpArgs false
set_option linter.unusedVariables false

def supK (xs : List Int) (k : Nat) : List Int := (List.range xs.length).map fun v => if v < k then xs.getD v 0 else 0
theorem supK_len (xs : List Int) (k : Nat) : (supK xs k).length = xs.length := by simp [supK]
theorem supK_at (xs : List Int) (k : Nat) {v : Nat} (hv : v < xs.length) : (supK xs k).getD v 0 = if v < k then xs.getD v 0 else 0 := by simp [supK, List.getD, hv]
theorem supK_all (xs : List Int) (es : List A5) : supK xs xs.length = leftOf xs es (lowsK es 0) :=
  ext_getD (by rw [supK_len, leftOf_len]) (fun i hi => by rw [supK_len] at hi; rw [supK_at _ _ hi, if_pos hi, leftOf_zero _ _ hi])
theorem Load.setL {w : World} {lb fb vb : Nat} {sa : Option Addr} {sn sc : Nat} {aa : Option Addr} {an ac : Nat} {fl lf : List Int} (h : Load w lb fb vb sa sn sc aa an ac fl lf) (a : Nat) (x : Int) {lf' : List Int} (hl : ∀ i, i < sn → lf'.getD i 0 = if i = a then x else lf.getD i 0) :
    Load (w.setCell ⟨vb, a, none⟩ (.int .i64 x)) lb fb vb sa sn sc aa an ac fl lf' := by
  obtain ⟨n1, n2, n3⟩ := h.ne
  refine ⟨(set_blk n2).trans h.c0, (set_blk n2).trans h.c1, (set_blk n2).trans h.c2, (set_blk n2).trans h.c3, h.rf.setOther n3 _, (h.rl.set a _).congr ?_, by have := h.lt; simpa [World.setCell] using this, h.ne⟩
  intro i hi
  rw [hl i hi]
  split <;> rfl
theorem load_new (W : World) (lb fb vb : Nat) (sa aa : Option Addr) (sn sc an ac : Nat) (xs : List Int) (es : List A5) (hxn : xs.length = sn) (hen : es.length = an) (hlb : W.heap.size = lb) (rf : W.rowIs fb 3 an (fun _ => .int .i64 0)) (rl : W.rowIs vb 3 sn (fun _ => .int .i64 0)) (hne : fb ≠ vb) :
    Load (W.alloc (.cells #[.slice sa sn sc, .slice aa an ac, .slice (some ⟨fb, 0, none⟩) an an, .slice (some ⟨vb, 0, none⟩) sn sn] 70)).drew lb fb vb sa sn sc aa an ac (lowsK es 0) (supK xs 0) := by
  subst hlb
  have h1 := rf.lt
  have h2 := rl.lt
  refine Load.grow (w := W.alloc (.cells #[.slice sa sn sc, .slice aa an ac, .slice (some ⟨fb, 0, none⟩) an an, .slice (some ⟨vb, 0, none⟩) sn sn] 70)) ⟨by simp, by simp, by simp, by simp, (rf.alloc _).congr (fun i hi => ?_), (rl.alloc _).congr (fun i hi => ?_), by simp, by omega⟩ ((Below.refl _ _).drew)
  · rw [lowsK_at _ _ (by omega), if_neg (by omega)]
  · rw [supK_at _ _ (by omega), if_neg (by omega)]

/-- A new load, whatever order its lists were made in. -/
def NewLoad (w : World) (sa aa : Option Addr) (sn sc an ac : Nat) (xs : List Int) (es : List A5) (r : Value) (wx : World) : Prop :=
  ∃ lb fb vb, r = .pointer (some ⟨lb, 0, none⟩) ∧ Load wx lb fb vb sa sn sc aa an ac (lowsK es 0) (supK xs 0) ∧ (w.heap.size < lb ∧ w.heap.size < fb ∧ w.heap.size < vb) ∧ wx.cell? ⟨w.heap.size, 0, none⟩ = some (.slice sa sn sc) ∧ wx.cell? ⟨w.heap.size, 1, none⟩ = some (.slice aa an ac) ∧ Below w.heap.size w wx
theorem below4' (w : World) (a b c d : Obj) : Below (w.alloc a).heap.size (w.alloc a) ((((w.alloc a).alloc b).alloc c).alloc d).drew :=
  ((((Below.refl _ _).alloc (Nat.le_refl _) _).alloc (by simp) _).alloc (by simp <;> omega) _).drew
theorem box_cells (w : World) (sa aa : Option Addr) (sn sc an ac : Nat) {wx : World} (h : Below (w.alloc (.cells #[.slice sa sn sc, .slice aa an ac] 25)).heap.size (w.alloc (.cells #[.slice sa sn sc, .slice aa an ac] 25)) wx) : wx.cell? ⟨w.heap.size, 0, none⟩ = some (.slice sa sn sc) ∧ wx.cell? ⟨w.heap.size, 1, none⟩ = some (.slice aa an ac) :=
  ⟨(h.cell (p := ⟨w.heap.size, 0, none⟩) (by simp)).trans (by simp), (h.cell (p := ⟨w.heap.size, 1, none⟩) (by simp)).trans (by simp)⟩
theorem nl_1 (w : World) (sa aa : Option Addr) (sn sc an ac : Nat) (xs : List Int) (es : List A5) (hxn : xs.length = sn) (hen : es.length = an) :
    NewLoad w sa aa sn sc an ac xs es (.pointer (some ⟨w.heap.size + 1 + 1 + 1, 0, none⟩)) ((((w.alloc (.cells #[.slice sa sn sc, .slice aa an ac] 25)).alloc (.cells (madeCells #[.int .i64 0] an) 3)).alloc (.cells (madeCells #[.int .i64 0] sn) 3)).alloc (.cells #[.slice sa sn sc, .slice aa an ac, .slice (some ⟨w.heap.size + 1, 0, none⟩) an an, .slice (some ⟨w.heap.size + 1 + 1, 0, none⟩) sn sn] 70)).drew :=
  ⟨_, _, _, rfl, load_new _ _ _ _ _ _ _ _ _ _ _ _ hxn hen (by simp) ((made_ints (w.alloc _) an _ (by simp)).alloc _) (made_ints ((w.alloc _).alloc _) sn _ (by simp)) (by omega), ⟨by omega, by omega, by omega⟩, (box_cells w sa aa sn sc an ac (below4' _ _ _ _ _)).1, (box_cells w sa aa sn sc an ac (below4' _ _ _ _ _)).2, below4 _ _ _ _ _⟩
theorem nl_2 (w : World) (sa aa : Option Addr) (sn sc an ac : Nat) (xs : List Int) (es : List A5) (hxn : xs.length = sn) (hen : es.length = an) :
    NewLoad w sa aa sn sc an ac xs es (.pointer (some ⟨w.heap.size + 1 + 1 + 1, 0, none⟩)) ((((w.alloc (.cells #[.slice sa sn sc, .slice aa an ac] 25)).alloc (.cells (madeCells #[.int .i64 0] sn) 3)).alloc (.cells (madeCells #[.int .i64 0] an) 3)).alloc (.cells #[.slice sa sn sc, .slice aa an ac, .slice (some ⟨w.heap.size + 1 + 1, 0, none⟩) an an, .slice (some ⟨w.heap.size + 1, 0, none⟩) sn sn] 70)).drew :=
  ⟨_, _, _, rfl, load_new _ _ _ _ _ _ _ _ _ _ _ _ hxn hen (by simp) (made_ints ((w.alloc _).alloc _) an _ (by simp)) ((made_ints (w.alloc _) sn _ (by simp)).alloc _) (by omega), ⟨by omega, by omega, by omega⟩, (box_cells w sa aa sn sc an ac (below4' _ _ _ _ _)).1, (box_cells w sa aa sn sc an ac (below4' _ _ _ _ _)).2, below4 _ _ _ _ _⟩

theorem take_below {wz w w1 w2 w' : World} {K fb vb : Nat} (hB : Below K wz w) (h1 : Below w.heap.size w w1) (h2 : w1.grownBy w2 (some vb)) (h3 : w2.grownBy w' (some fb)) (hK : K ≤ w.heap.size) (hf : K ≤ fb) (hv : K ≤ vb) : Below K wz w' :=
  ((hB.trans (h1.mono hK)).grown h2 (Nat.le_trans hK h1.size) (fun k h => by cases h; exact hv)).grown h3 (Nat.le_trans hK (Nat.le_trans h1.size h2.size)) (fun k h => by cases h; exact hf)

set_option maxRecDepth 100000 in
set_option maxHeartbeats 4000000 in
theorem rAtLows_any (sa aa : Option Addr) (sn sc an ac : Nat) (xs : List Int) (es : List A5) (w : World) (hn : NetOK xs es) (hx : Ints w sa sn xs) (he : Arcs w aa an es) :
    Calls Try.prog 52 #[.agg #[.slice sa sn sc, .slice aa an ac]] w fun e w' => ∃ lb fb vb, e = .returned (.pointer (some ⟨lb, 0, none⟩)) ∧ Load w' lb fb vb sa sn sc aa an ac (lowsL es) (leftOf xs es (lowsL es)) ∧ (w.heap.size ≤ lb ∧ w.heap.size ≤ fb ∧ w.heap.size ≤ vb) ∧ Below w.heap.size w w' := by
  have hxl : Hid (xs.length = sn ∧ es.length = an) := ⟨hx.len, he.len⟩
  have h24 : an ≤ 24 := by rw [← hxl.out.2]; exact hn.arcs
  have h10 : sn ≤ 10 := by rw [← hxl.out.1]; exact hn.ten
  have hmA := run_make_row' (P := Try.prog) 22 3 (.int .i64 0) 8 Try.underlying22 infoInt rfl .i64 .i64 an (by omega) (by omega)
  have hmS := run_make_row' (P := Try.prog) 22 3 (.int .i64 0) 8 Try.underlying22 infoInt rfl .i64 .i64 sn (by omega) (by omega)
  have HX := hide hx
  have HE := hide he
  clear hx he
  go_enter Try.func52, Try.ntmps52
  go_upto_region 1 with fail
  go_cut [3] (fun r wx => NewLoad w sa aa sn sc an ac xs es r wx)
  case first =>
    go_region
    all_goals (go_wp2_with fail; go_meet)
    · exact nl_1 _ _ _ _ _ _ _ _ _ hxl.out.1 hxl.out.2
    · exact nl_2 _ _ _ _ _ _ _ _ _ hxl.out.1 hxl.out.2
  case rest =>
  obtain ⟨lb, fb, vb, rfl, hL0, hgt, m0, m1, hb0⟩ := hcut
  clear hmA hmS
  have HL0 := hide hL0
  clear hL0
  obtain ⟨g1, g2, g3⟩ := hgt
  go_wp2
  go_loopw [4, 5, 22] (fun nd su i wr => ∃ k : Nat, k ≤ sn ∧ i = .int .i64 k ∧ Hid (Load wr lb fb vb sa sn sc aa an ac (lowsK es 0) (supK xs k)) ∧ wr.cell? ⟨w.heap.size, 1, none⟩ = some (.slice aa an ac) ∧ Below w.heap.size w wr) (fun _ _ i _ => sn - (intOf i).toNat)
  case atStart => exact ⟨0, Nat.zero_le _, rfl, HL0.out, m1, hb0⟩
  case round =>
    clear HL0 m0 m1 hb0
    obtain ⟨k, hk, rfl, hL, m1, hb⟩ := hrel
    by_cases hlt : k < sn
    · have hlt3 : (k : Int) < (sn : Int) := by omega
      obtain ⟨b, off, x, rfl, hX, hbb, cx⟩ := (HX.out.below hb).get hlt
      have k3 := hL.out.c3
      have cv := hL.out.rl.cell hlt
      have fv := hL.out.rl.frozen k
      have HL1 := hide (hL.out.setL k x (lf' := supK xs (k + 1)) (fun i hi => by
        rw [supK_at _ _ (by rw [hxl.out.1]; exact hi), supK_at _ _ (by rw [hxl.out.1]; exact hi)]
        by_cases e : i = k
        · subst e; rw [if_pos (by omega), if_pos rfl, hX]
        · rw [if_neg e]
          by_cases e2 : i < k
          · rw [if_pos e2, if_pos (by omega)]
          · rw [if_neg e2, if_neg (by omega)]))
      have HB1 := hide (hb.setCell (p := ⟨vb, k, none⟩) (by show w.heap.size ≤ vb; omega) (.int .i64 x))
      have HM1 := hide ((set_blk (w := wr) (b := w.heap.size) (b' := vb) (o := 1) (o' := k) (u := .int .i64 x) (by omega)).trans m1)
      clear hL hb hX m1
      go_wp2
      go_roundw
      case rel => exact ⟨k + 1, by omega, by go_num, HL1.out, HM1.out, HB1.out⟩
      case measure => simp [intOf]; omega
    · have hkn : k = sn := by omega
      subst hkn
      have HL1 : Hid (Load wr lb fb vb sa k sc aa an ac (lowsK es 0) (leftOf xs es (lowsK es 0))) := by
        have h := hL.out
        rw [show supK xs k = leftOf xs es (lowsK es 0) from by rw [← supK_all, hxl.out.1]] at h
        exact h
      clear hL
      go_wp2
      go_loopw [6, 7, 38] (fun nu ap i wq => ∃ j : Nat, j ≤ an ∧ i = .int .i64 j ∧ Hid (Load wq lb fb vb sa k sc aa an ac (lowsK es j) (leftOf xs es (lowsK es j))) ∧ Below w.heap.size w wq) (fun _ _ i _ => an - (intOf i).toNat)
      case atStart => exact ⟨0, Nat.zero_le _, rfl, HL1.out, hb⟩
      case round =>
        clear HL1 m1 hb
        obtain ⟨j, hj, rfl, hL, hb⟩ := hrel
        by_cases hlt2 : j < an
        · have hlt3 : (j : Int) < (an : Int) := by omega
          obtain ⟨b, off, f, t, l, c, q, rfl, hA, hbb, e0, e1, e2, e3, e4⟩ := (HE.out.below hb).get hlt2
          have hok := arcB_out (hn.arc j (by rw [hxl.out.2]; exact hlt2))
          rw [hA] at hok
          simp only [] at hok
          have hb1 := Joins.below_alloc1 wr (.cells #[.int .i64 f, .int .i64 t, .int .i64 l, .int .i64 c, .int .i64 q] 54)
          have cT : n0 (Calls Try.prog 71 #[.pointer (some ⟨lb, 0, none⟩), .agg #[.int .i64 j, .bool false], .int .i64 l] (wr.alloc (.cells #[.int .i64 f, .int .i64 t, .int .i64 l, .int .i64 c, .int .i64 q] 54)) fun e w' => e = .returned (.tuple #[]) ∧ Load w' lb fb vb sa k sc (some ⟨b, off, none⟩) an ac (lowsK es (j + 1)) (leftOf xs es (lowsK es (j + 1))) ∧ Below w.heap.size w w') := by
            refine (rTake_any lb fb vb sa (some ⟨b, off, none⟩) k sc an ac xs (lowsK es j) es j false l _ hn hxl.out.1 (hL.out.grow hb1) (HE.out.below (hb.trans (hb1.mono hb.size))) (by rw [lowsK_len]; exact hxl.out.2) hlt2 (fun i hi => by have := lowsK_bd hn j i hi; omega) (by omega)).mono ?_
            rintro e w' ⟨rfl, h1, w1, w2, h2, h3, h4⟩
            have hs : addAt (lowsK es j) j (stD ⟨j, false⟩ l) = lowsK es (j + 1) := by
              have := lowsK_succ es (k := j) (by rw [hxl.out.2]; exact hlt2)
              rw [hA] at this
              exact this
            rw [hs] at h1
            exact ⟨rfl, h1, take_below (hb.trans (hb1.mono hb.size)) h2 h3 h4 (Nat.le_trans hb.size hb1.size) (by omega) (by omega)⟩
          clear hA hL hb hb1 hok
          go_wp2_with fail
          refine Calls.mono cT.out ?_
          rintro e w2 ⟨rfl, hL2, hb2⟩
          have HL2 := hide hL2
          clear cT hL2 e0 e1 e2 e3 e4
          go_wp2
          go_roundw
          case rel => exact ⟨j + 1, by omega, by go_num, HL2.out, hb2⟩
          case measure => simp [intOf]; omega
        · have hjn : j = an := by omega
          subst hjn
          have HF : Hid (Load wr lb fb vb sa k sc aa j ac (lowsL es) (leftOf xs es (lowsL es))) := by
            have h := hL.out
            unfold lowsL
            rw [hxl.out.2]
            exact h
          clear hL
          go_wp2
          go_ret
          exact ⟨lb, fb, vb, rfl, HF.out, ⟨by omega, by omega, by omega⟩, hb⟩

set_option maxHeartbeats 4000000 in
theorem rFill_any (lb fb vb : Nat) (sa aa pa : Option Addr) (sn sc an ac pc : Nat) (xs po : List Int) (es : List A5) (wz w : World) (hn : NetOK xs es) (hxn : xs.length = sn) (hL : Load w lb fb vb sa sn sc aa an ac (lowsL es) (leftOf xs es (lowsL es))) (hzl : wz.heap.size ≤ lb ∧ wz.heap.size ≤ fb ∧ wz.heap.size ≤ vb) (hA0 : Arcs wz aa an es) (hB0 : Below wz.heap.size wz w) (hp : Ints wz pa sn po) (hpot : ∀ i, i < sn → -1000000 ≤ po.getD i 0 ∧ po.getD i 0 ≤ 1000000) (hu : ∀ i, i < es.length → (es.getD i zA).cap = -1 → 0 ≤ driftAt es po i) :
    Calls Try.prog 80 #[.pointer (some ⟨lb, 0, none⟩), .slice pa sn pc] w fun e w' => e = .returned (.tuple #[]) ∧ Load w' lb fb vb sa sn sc aa an ac (fillK es po es.length) (leftOf xs es (fillK es po es.length)) ∧ Below wz.heap.size wz w' := by
  have hal : Hid (es.length = an) := hA0.len
  have h24 : an ≤ 24 := by rw [← hal.out]; exact hn.arcs
  have k1 := hL.c1
  have HL0 : Hid (Load w lb fb vb sa sn sc aa an ac (fillK es po 0) (leftOf xs es (fillK es po 0))) := by rw [fillK_zero]; exact hL
  have HA := hide hA0
  have HP := hide hp
  have HPB := hide hpot
  have HU := hide hu
  have HXN := hide hxn
  clear hL hA0 hp hpot hu hxn
  go_enter Try.func80, Try.ntmps80
  go_wp2
  go_loopw [4, 5, 6, 7, 8, 15] (fun nu ap dr sp ro i wr => ∃ k : Nat, k ≤ an ∧ i = .int .i64 k ∧ Hid (Load wr lb fb vb sa sn sc aa an ac (fillK es po k) (leftOf xs es (fillK es po k))) ∧ Below wz.heap.size wz wr) (fun _ _ _ _ _ i _ => an - (intOf i).toNat)
  case atStart => exact ⟨0, Nat.zero_le _, rfl, HL0.out, hB0⟩
  case round =>
    clear k1 HL0 hB0
    obtain ⟨k, hk, rfl, hL, hb⟩ := hrel
    by_cases hlt : k < an
    · have hlt3 : (k : Int) < (an : Int) := by omega
      have hke : k < es.length := by rw [hal.out]; exact hlt
      have hok := hn.arc k hke
      have ba := arcB_out hok
      obtain ⟨b, off, f, t, l, c, q, rfl, hA, hbb, e0, e1, e2, e3, e4⟩ := (HA.out.below hb).get hlt
      rw [hA] at ba
      simp only [] at ba
      obtain ⟨f, rfl⟩ := nat_of ba.1
      obtain ⟨t, rfl⟩ := nat_of ba.2.2.1
      rw [HXN.out] at ba
      have hb1 := Joins.below_alloc1 wr (.cells #[.int .i64 (f : Int), .int .i64 (t : Int), .int .i64 l, .int .i64 c, .int .i64 q] 54)
      have hB1 := hb.trans (hb1.mono hb.size)
      have hD : driftAt es po k = q + po.getD f 0 - po.getD t 0 := by simp only [driftAt, hA, Int.toNat_natCast]
      have hfb := HPB.out f (by omega)
      have htb := HPB.out t (by omega)
      have cD : n0 (Calls Try.prog 81 #[.agg #[.int .i64 (f : Int), .int .i64 (t : Int), .int .i64 l, .int .i64 c, .int .i64 q], .slice pa sn pc] (wr.alloc (.cells #[.int .i64 (f : Int), .int .i64 (t : Int), .int .i64 l, .int .i64 c, .int .i64 q] 54)) fun e w' => e = .returned (.int .i64 (driftAt es po k)) ∧ Below (wr.alloc (.cells #[.int .i64 (f : Int), .int .i64 (t : Int), .int .i64 l, .int .i64 c, .int .i64 q] 54)).heap.size (wr.alloc (.cells #[.int .i64 (f : Int), .int .i64 (t : Int), .int .i64 l, .int .i64 c, .int .i64 q] 54)) w') := by
        rw [hD]
        exact gDrift_any pa sn pc f t l c q po _ (HP.out.below hB1) (by omega) (by omega) (by omega) HPB.out
      have HUk := hide (HU.out k hke)
      have HAA := hide hA
      have hcap : c = -1 ∨ (l ≤ c ∧ c ≤ 60) := ba.2.2.2.2.2.2.1
      have hl0 : 0 ≤ l := by omega
      have HOK := hide hok
      clear hA hok ba hfb htb hD
      obtain ⟨d, hd⟩ : ∃ d, driftAt es po k = d := ⟨_, rfl⟩
      have HD := hide hd
      rw [hd] at cD
      clear hd
      go_wp2_with fail
      refine Calls.mono cD.out ?_
      rintro e w2 ⟨rfl, hb2⟩
      clear cD e0 e1 e2 e3 e4
      have hB2 : Below wz.heap.size wz w2 := hB1.trans (hb2.mono (Nat.le_trans hb.size hb1.size))
      have hL2 := (hL.out.grow hb1).grow hb2
      have HL2 := hide hL2
      clear hb2 hL2 hL hb hb1 hB1
      by_cases hneg : d < 0
      · have hcn : c ≠ -1 := fun e => by
          have := HUk.out (by rw [HAA.out]; exact e)
          rw [HD.out] at this
          omega
        have hroom : roomOf es (fillK es po k) ⟨k, false⟩ = c - l := by
          simp only [roomOf, Bool.false_eq_true, if_false]
          rw [HAA.out, if_neg hcn, fillK_at _ _ _ hke, if_neg (show ¬ (k < k ∧ driftAt es po k < 0) by omega), HAA.out]
        have hfk : 0 ≤ (fillK es po k).getD k 0 ∧ (fillK es po k).getD k 0 ≤ 1000000 := by
          rw [fillK_at _ _ _ hke, if_neg (by omega), HAA.out]; simp only []; omega
        have hb3 := Joins.below_alloc1 w2 (.cells #[.int .i64 (k : Int), .bool false] 86)
        have hB3 := hB2.trans (hb3.mono hB2.size)
        have cR : n0 (Calls Try.prog 89 #[.pointer (some ⟨lb, 0, none⟩), .agg #[.int .i64 k, .bool false]] (w2.alloc (.cells #[.int .i64 (k : Int), .bool false] 86)) fun e w' => e = .returned (.int .i64 (c - l)) ∧ Below (w2.alloc (.cells #[.int .i64 (k : Int), .bool false] 86)).heap.size (w2.alloc (.cells #[.int .i64 (k : Int), .bool false] 86)) w') := by
          rw [← hroom]
          exact rRoom_any lb fb vb sa (some ⟨b, off, none⟩) sn sc an ac (fillK es po k) _ es k false _ _ (HL2.out.grow hb3) (HA.out.below hB3) hlt HOK.out hfk
        clear hroom hfk
        go_wp2_with fail
        refine Calls.mono cR.out ?_
        rintro e w3 ⟨rfl, hb4⟩
        clear cR
        have d0 : w3.cell? ⟨w2.heap.size, 0, none⟩ = some (.int .i64 k) := (hb4.cell (by simp)).trans (by go_simp)
        have d1 : w3.cell? ⟨w2.heap.size, 1, none⟩ = some (.bool false) := (hb4.cell (by simp)).trans (by go_simp)
        have hB4 : Below wz.heap.size wz w3 := hB3.trans (hb4.mono (Nat.le_trans hB2.size hb3.size))
        have hL4 := (HL2.out.grow hb3).grow hb4
        have cT : n0 (Calls Try.prog 71 #[.pointer (some ⟨lb, 0, none⟩), .agg #[.int .i64 k, .bool false], .int .i64 (c - l)] w3 fun e w' => e = .returned (.tuple #[]) ∧ Load w' lb fb vb sa sn sc (some ⟨b, off, none⟩) an ac (fillK es po (k + 1)) (leftOf xs es (fillK es po (k + 1))) ∧ Below wz.heap.size wz w') := by
          refine (rTake_any lb fb vb sa (some ⟨b, off, none⟩) sn sc an ac xs (fillK es po k) es k false (c - l) w3 hn HXN.out hL4 (HA.out.below hB4) (by rw [fillK_len]; exact hal.out) hlt (fun i hi => by have := fillK_bd hn HU.out k i hi; have := arcB_out (hn.arc i hi); omega) (by omega)).mono ?_
          rintro e w' ⟨rfl, h1, w1, w2, h2, h3, h4⟩
          have hs : addAt (fillK es po k) k (stD ⟨k, false⟩ (c - l)) = fillK es po (k + 1) := by
            have := fillK_move es po hke (by rw [HD.out]; exact hneg)
            rw [HAA.out] at this
            exact this
          rw [hs] at h1
          exact ⟨rfl, h1, take_below hB4 h2 h3 h4 hB4.size hzl.2.1 hzl.2.2⟩
        clear hb4 hb3 hB3 hL4 HL2
        go_wp2_with fail
        refine Calls.mono cT.out ?_
        rintro e w4 ⟨rfl, hL5, hb5⟩
        have HL5 := hide hL5
        clear cT hL5 d0 d1
        go_wp2
        go_roundw
        case rel => exact ⟨k + 1, by omega, by go_num, HL5.out, hb5⟩
        case measure => simp [intOf]; omega
      · have hdf : decide (d < 0) = false := decide_eq_false hneg
        have HL3 : Hid (Load w2 lb fb vb sa sn sc (some ⟨b, off, none⟩) an ac (fillK es po (k + 1)) (leftOf xs es (fillK es po (k + 1)))) := by
          rw [fillK_stay es po hke (by rw [HD.out]; exact hneg)]; exact HL2.out
        clear HL2
        go_wp2
        all_goals first
          | (exfalso; omega)
          | (go_roundw
             case rel => exact ⟨k + 1, by omega, by go_num, HL3.out, hB2⟩
             case measure => simp [intOf]; omega)
    · have hkn : k = an := by omega
      subst hkn
      have HF : Hid (Load wr lb fb vb sa sn sc aa k ac (fillK es po es.length) (leftOf xs es (fillK es po es.length))) := by rw [hal.out]; exact hL.out
      clear hL
      go_wp2
      go_end0
      exact ⟨rfl, HF.out, hb⟩
end Go.Proofs.Ytampcheafdlomaa
