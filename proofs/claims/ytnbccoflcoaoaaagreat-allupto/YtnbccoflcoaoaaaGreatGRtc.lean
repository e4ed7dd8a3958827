import Derived.Test.YtnbccoflcoaoaaaGreatGRtb
import Derived.Test.YtnbccoflcoaoaaaGreatRtX
import Derived.Deep.DeepCutAuto
import Derived.Deep.Light
namespace Go.Proofs.YtnbccoflcoaoaaaGreat
open Go.RowKit Go.Deep
set_option linter.unusedSimpArgs false
set_option linter.unusedVariables false

def lastF (last : Nat → St) (j : Nat) : Value := if j % 2 = 0 then .int .i64 (last (j / 2)).arc else .bool (last (j / 2)).back
theorem lastEven (last : Nat → St) (v : Nat) : lastF last (v * 2) = .int .i64 (last v).arc := by
  unfold lastF; rw [if_pos (by omega), show v * 2 / 2 = v from by omega]
theorem lastOdd (last : Nat → St) (v : Nat) : lastF last (v * 2 + 1) = .bool (last v).back := by
  unfold lastF; rw [if_neg (by omega), show (v * 2 + 1) / 2 = v from by omega]
def wFs (sb cb ab n : Nat) (nw : Int) (i : Nat) : Value := if i = 0 then .slice (some ⟨sb, 0, none⟩) n n else if i = 1 then .slice (some ⟨cb, 0, none⟩) n n else if i = 2 then .slice (some ⟨ab, 0, none⟩) n n else .int .i64 nw

/-- The memory of ways: the struct at rb, its lists at sb, cb, ab. -/
structure Ways (w : World) (K rb sb cb ab n : Nat) (seen : Nat → Bool) (cost : Nat → Int) (last : Nat → St) (nw : Int) : Prop where
  rr : w.rowIs rb 116 4 (wFs sb cb ab n nw)
  rs : w.rowIs sb 4 n (fun i => .bool (seen i))
  rc : w.rowIs cb 3 n (fun i => .int .i64 (cost i))
  ra : w.rowIs ab 121 (n * 2) (lastF last)
  lo : K ≤ rb ∧ K ≤ sb ∧ K ≤ cb ∧ K ≤ ab
  ne : rb ≠ sb ∧ rb ≠ cb ∧ rb ≠ ab ∧ sb ≠ cb ∧ sb ≠ ab ∧ cb ≠ ab

section
variable {w w' : World} {K rb sb cb ab n : Nat} {seen : Nat → Bool} {cost : Nat → Int} {last : Nat → St} {nw : Int}
theorem Ways.grow (h : Ways w K rb sb cb ab n seen cost last nw) (hb : Below w.heap.size w w') : Ways w' K rb sb cb ab n seen cost last nw :=
  ⟨below_row hb h.rr h.rr.lt, below_row hb h.rs h.rs.lt, below_row hb h.rc h.rc.lt, below_row hb h.ra h.ra.lt, h.lo, h.ne⟩
theorem Ways.kept (h : Ways w K rb sb cb ab n seen cost last nw) {row : Nat} (hg : w.grownBy w' (some row)) (hr : row < K) : Ways w' K rb sb cb ab n seen cost last nw := by
  obtain ⟨l1, l2, l3, l4⟩ := h.lo
  have q : ∀ b, K ≤ b → some b ≠ some row := fun b hb e => by cases e; omega
  exact ⟨grown_row hg h.rr (q _ l1), grown_row hg h.rs (q _ l2), grown_row hg h.rc (q _ l3), grown_row hg h.ra (q _ l4), h.lo, h.ne⟩
theorem Ways.c0 (h : Ways w K rb sb cb ab n seen cost last nw) : w.cell? ⟨rb, 0, none⟩ = some (.slice (some ⟨sb, 0, none⟩) n n) := h.rr.cell (i := 0) (by omega)
theorem Ways.c1 (h : Ways w K rb sb cb ab n seen cost last nw) : w.cell? ⟨rb, 1, none⟩ = some (.slice (some ⟨cb, 0, none⟩) n n) := h.rr.cell (i := 1) (by omega)
theorem Ways.c2 (h : Ways w K rb sb cb ab n seen cost last nw) : w.cell? ⟨rb, 2, none⟩ = some (.slice (some ⟨ab, 0, none⟩) n n) := h.rr.cell (i := 2) (by omega)
theorem Ways.c3 (h : Ways w K rb sb cb ab n seen cost last nw) : w.cell? ⟨rb, 3, none⟩ = some (.int .i64 nw) := h.rr.cell (i := 3) (by omega)
theorem Ways.setNew (h : Ways w K rb sb cb ab n seen cost last nw) (x : Int) : Ways (w.setCell ⟨rb, 3, none⟩ (.int .i64 x)) K rb sb cb ab n seen cost last x := by
  obtain ⟨n1, n2, n3, n4, n5, n6⟩ := h.ne
  refine ⟨(h.rr.set 3 _).congr ?_, h.rs.setOther n1.symm _, h.rc.setOther n2.symm _, h.ra.setOther n3.symm _, h.lo, h.ne⟩
  intro i hi
  unfold wFs
  by_cases e : i = 3
  · subst e; simp
  · rw [if_neg e]
    by_cases e0 : i = 0
    · rw [if_pos e0, if_pos e0]
    · by_cases e1 : i = 1
      · rw [if_neg e0, if_neg e0, if_pos e1, if_pos e1]
      · rw [if_neg e0, if_neg e0, if_neg e1, if_neg e1, if_pos (by omega), if_pos (by omega)]
theorem Ways.setSeen (h : Ways w K rb sb cb ab n seen cost last nw) (v : Nat) (x : Bool) : Ways (w.setCell ⟨sb, v, none⟩ (.bool x)) K rb sb cb ab n (upd seen v x) cost last nw := by
  obtain ⟨n1, n2, n3, n4, n5, n6⟩ := h.ne
  exact ⟨h.rr.setOther n1 _, (h.rs.set v _).congr (fun i _ => by unfold upd; split <;> rfl), h.rc.setOther n4.symm _, h.ra.setOther n5.symm _, h.lo, h.ne⟩
theorem Ways.setCost (h : Ways w K rb sb cb ab n seen cost last nw) (v : Nat) (x : Int) : Ways (w.setCell ⟨cb, v, none⟩ (.int .i64 x)) K rb sb cb ab n seen (upd cost v x) last nw := by
  obtain ⟨n1, n2, n3, n4, n5, n6⟩ := h.ne
  exact ⟨h.rr.setOther n2 _, h.rs.setOther n4 _, (h.rc.set v _).congr (fun i _ => by unfold upd; split <;> rfl), h.ra.setOther n6.symm _, h.lo, h.ne⟩
theorem Ways.setLast (h : Ways w K rb sb cb ab n seen cost last nw) (v : Nat) (s : St) : Ways ((w.setCell ⟨ab, v * 2, none⟩ (.int .i64 s.arc)).setCell ⟨ab, v * 2 + 1, none⟩ (.bool s.back)) K rb sb cb ab n seen cost (upd last v s) nw := by
  obtain ⟨n1, n2, n3, n4, n5, n6⟩ := h.ne
  refine ⟨(h.rr.setOther n3 _).setOther n3 _, (h.rs.setOther n5 _).setOther n5 _, (h.rc.setOther n6 _).setOther n6 _, ((h.ra.set (v * 2) _).set (v * 2 + 1) _).congr ?_, h.lo, h.ne⟩
  intro i hi
  unfold lastF upd
  by_cases e1 : i = v * 2 + 1
  · subst e1
    rw [if_pos rfl, if_neg (by omega), if_pos (by omega)]
  · by_cases e2 : i = v * 2
    · subst e2
      rw [if_neg e1, if_pos rfl, if_pos (by omega), if_pos (by omega)]
    · rw [if_neg e1, if_neg e2, if_neg (show ¬ i / 2 = v by omega)]
end

/-- What a step leaves behind. -/
def Gone (es : List A5) (fl : List Int) (n : Nat) (S : Nat → Bool) (K rb sb cb ab : Nat) (c r : Nat) (done : St → Prop) (more : Nat) (y : Wy) (w w' : World) : Prop :=
  ∃ seen cost last T R c' nw, Ways w' K rb sb cb ab n seen cost last nw ∧ WInv es fl n S seen cost last T R c' r done ∧ New n R r nw ∧ c' ≤ c + more ∧ Below K w w' ∧ (⟨seen, cost, last, nw⟩ : Wy) = y

theorem WInv.mono {es : List A5} {fl : List Int} {n : Nat} {S seen : Nat → Bool} {cost : Nat → Int} {last : Nat → St} {T R : Nat → Nat} {c r : Nat} {done done' : St → Prop} (h : WInv es fl n S seen cost last T R c r done) (hd : ∀ s, done' s → done s) : WInv es fl n S seen cost last T R c r done' :=
  ⟨h.start, h.root, h.way, h.time, h.rnd, h.bd, h.arcs, fun s h1 h2 h3 h4 => h.sat s h1 h2 h3 (h4.imp id fun h => ⟨h.1, hd s h.2⟩)⟩
theorem New.upd {n : Nat} {R : Nat → Nat} {r : Nat} (v : Nat) (hv : v < n) : New n (upd R v r) r (v : Int) := .inr ⟨v, hv, rfl, upd_same _ _ _⟩

set_option maxHeartbeats 4000000 in
theorem rGoOn_any (K rb sb cb ab n : Nat) (S seen : Nat → Bool) (cost : Nat → Int) (last : Nat → St) (nw : Int) (T R : Nat → Nat) (c r : Nat) (done : St → Prop) (lb fb vb : Nat) (sa aa : Option Addr) (sn sc an ac : Nat) (xs fl lf : List Int) (es : List A5) (a : Nat) (bk : Bool) (w : World)
    (hn : NetW xs es) (hxn : xs.length = n) (hL : Load w lb fb vb sa sn sc aa an ac fl lf) (hlk : lb < K ∧ fb < K ∧ vb < K) (he : Arcs w aa an es) (hm : Mild fl es.length) (hrm : ∀ s : St, s.arc < es.length → 0 ≤ roomOf es fl s) (hKw : K ≤ w.heap.size)
    (hW : Ways w K rb sb cb ab n seen cost last nw) (hI : WInv es fl n S seen cost last T R c r done) (hN : New n R r nw) (hr1 : 1 ≤ r) (hc : c ≤ 4000) (ha : a < an) :
    Calls Tryz.prog 116 #[.pointer (some ⟨lb, 0, none⟩), .pointer (some ⟨rb, 0, none⟩), .agg #[.int .i64 a, .bool bk]] w fun e w' => e = .returned (.tuple #[]) ∧
      Gone es fl n S K rb sb cb ab c r (fun x => done x ∨ x = ⟨a, bk⟩) 1 (relaxF es fl ⟨seen, cost, last, nw⟩ ⟨a, bk⟩) w w' := by
  have hael : a < es.length := by rw [he.len]; exact ha
  obtain ⟨e1, e2, hsl, hdl⟩ := st_ends hn (s := ⟨a, bk⟩) hael
  rw [hxn] at hsl hdl
  have hroom := hrm ⟨a, bk⟩ hael
  have hok := hn.arc a hael
  have hpr := price_bd hn ⟨a, bk⟩
  have hcb := cost_bdW hn a
  have hfa := hm a hael
  have stay : Hid (∀ w', Below w.heap.size w w' → (seen ((St.mk a bk).srcN es) = true → 0 < roomOf es fl ⟨a, bk⟩ → Sat es seen cost ⟨a, bk⟩) → Gone es fl n S K rb sb cb ab c r (fun x => done x ∨ x = ⟨a, bk⟩) 1 (relaxF es fl ⟨seen, cost, last, nw⟩ ⟨a, bk⟩) w w') :=
    fun w' hb hP => ⟨seen, cost, last, T, R, c, nw, hW.grow hb, hI.pass ⟨a, bk⟩ hP, hN, by omega, hb.mono hKw, (stay_relax hP).symm⟩
  have go : Hid (∀ w', Ways w' K rb sb cb ab n (upd seen ((St.mk a bk).dstN es) true) (upd cost ((St.mk a bk).dstN es) (cost ((St.mk a bk).srcN es) + priceOf es ⟨a, bk⟩)) (upd last ((St.mk a bk).dstN es) ⟨a, bk⟩) ((St.mk a bk).dstN es : Int) → Below K w w' → 0 < roomOf es fl ⟨a, bk⟩ → seen ((St.mk a bk).srcN es) = true → ¬ Sat es seen cost ⟨a, bk⟩ → Gone es fl n S K rb sb cb ab c r (fun x => done x ∨ x = ⟨a, bk⟩) 1 (relaxF es fl ⟨seen, cost, last, nw⟩ ⟨a, bk⟩) w w') :=
    fun w' hW' hb h1 h2 h3 => ⟨_, _, _, _, _, c + 1, _, hW', hI.relax hn hxn hr1 ⟨a, bk⟩ hael h1 h2 h3, New.upd _ hdl, Nat.le_refl _, hb, (go_relax (y := ⟨seen, cost, last, nw⟩) h1 h2 h3).symm⟩
  have hcu := hI.bd _ hsl
  have hcv := hI.bd _ hdl
  obtain ⟨u, hu⟩ : ∃ u, (St.mk a bk).srcN es = u := ⟨_, rfl⟩
  obtain ⟨v, hv⟩ : ∃ v, (St.mk a bk).dstN es = v := ⟨_, rfl⟩
  obtain ⟨rm, hrm'⟩ : ∃ r, roomOf es fl ⟨a, bk⟩ = r := ⟨_, rfl⟩
  obtain ⟨pr, hpr'⟩ : ∃ r, priceOf es ⟨a, bk⟩ = r := ⟨_, rfl⟩
  have cE : n0 (∀ w0, Load w0 lb fb vb sa sn sc aa an ac fl lf → Arcs w0 aa an es → Calls Tryz.prog 106 #[.pointer (some ⟨lb, 0, none⟩), .agg #[.int .i64 a, .bool bk]] w0 fun e w' => e = .returned (.tuple #[.int .i64 (u : Int), .int .i64 (v : Int)]) ∧ Below w0.heap.size w0 w') :=
    fun w0 h1 h2 => by rw [← hu, ← hv, ← e1, ← e2]; exact rEnds_any lb fb vb sa aa sn sc an ac fl lf es a bk w0 h1 h2 ha
  have cR : n0 (∀ w0, Load w0 lb fb vb sa sn sc aa an ac fl lf → Arcs w0 aa an es → Calls Tryz.prog 109 #[.pointer (some ⟨lb, 0, none⟩), .agg #[.int .i64 a, .bool bk]] w0 fun e w' => e = .returned (.int .i64 rm) ∧ Below w0.heap.size w0 w') :=
    fun w0 h1 h2 => by rw [← hrm']; exact rRoom_any lb fb vb sa aa sn sc an ac fl lf es a bk _ w0 h1 h2 ha hok hfa
  have cP : n0 (∀ w0, Load w0 lb fb vb sa sn sc aa an ac fl lf → Arcs w0 aa an es → Calls Tryz.prog 118 #[.pointer (some ⟨lb, 0, none⟩), .agg #[.int .i64 a, .bool bk]] w0 fun e w' => e = .returned (.int .i64 pr) ∧ Below w0.heap.size w0 w') :=
    fun w0 h1 h2 => by rw [← hpr']; exact rPrice_any lb fb vb sa aa sn sc an ac fl lf es a bk w0 h1 h2 ha hcb
  unfold Sat at stay go
  rw [hu, hv, hrm', hpr'] at stay go
  rw [hu] at hsl hcu
  rw [hv] at hdl hcv
  rw [hrm'] at hroom
  rw [hpr'] at hpr
  have HL := hide hL
  have HE := hide he
  have HW := hide hW
  have hbox : Below w.heap.size w (w.alloc (.cells #[.int .i64 a, .bool bk] 121)) := Joins.below_alloc1 _ _
  clear hL he hW hI hN hu hv hrm' hpr' e1 e2 hok hfa hm hrm hn hcb
  go_enter Tryz.func116, Tryz.ntmps116
  go_wp2_with fail
  refine (cE.out _ (HL.out.grow hbox) (HE.out.below hbox)).mono ?_
  rintro e w1 ⟨rfl, hb1⟩
  have d0 : w1.cell? ⟨w.heap.size, 0, none⟩ = some (.int .i64 a) := (hb1.cell (by simp)).trans (by go_simp)
  have d1 : w1.cell? ⟨w.heap.size, 1, none⟩ = some (.bool bk) := (hb1.cell (by simp)).trans (by go_simp)
  have hs1 : w.heap.size < w1.heap.size := by have := hb1.size; simp at this; omega
  have hB1 : Below w.heap.size w w1 := hbox.trans (hb1.mono (by simp))
  clear hb1 cE hbox
  have hW1 := HW.out.grow hB1
  have k0 := hW1.c0
  have cs := hW1.rs.cell hsl
  have hu2 : (u : Int) < (n : Int) := by omega
  have hv2 : (v : Int) < (n : Int) := by omega
  cases hsu : seen u with
  | false =>
    rw [hsu] at cs
    clear hW1
    go_wp2
    (try simp only [Exit.inBlock, Exit.then]); refine bodyPost_ret (results_none rfl _ _ _) rfl ?_
    exact ⟨rfl, stay.out _ hB1 (fun h => by rw [hsu] at h; cases h)⟩
  | true =>
    rw [hsu] at cs
    have HSU := hide hsu
    clear hsu hW1
    go_wp2_with fail
    refine (cR.out _ (HL.out.grow hB1) (HE.out.below hB1)).mono ?_
    rintro e w2 ⟨rfl, hb2⟩
    have hB2 : Below w.heap.size w w2 := hB1.trans (hb2.mono hB1.size)
    have e0 := (hb2.cell (p := ⟨w.heap.size, 0, none⟩) hs1).trans d0
    have e1 := (hb2.cell (p := ⟨w.heap.size, 1, none⟩) hs1).trans d1
    have hs2 : w.heap.size < w2.heap.size := Nat.lt_of_lt_of_le hs1 hb2.size
    clear hb2 cR k0 cs d0 d1 hB1
    by_cases hr0 : rm = 0
    · subst hr0
      go_wp2
      (try simp only [Exit.inBlock, Exit.then]); refine bodyPost_ret (results_none rfl _ _ _) rfl ?_
      exact ⟨rfl, stay.out _ hB2 (fun _ h => by omega)⟩
    · have hrb : (rm == 0) = false := by simpa using hr0
      have HR0 : Hid (0 < rm) := by show 0 < rm; omega
      have hW2 := HW.out.grow hB2
      have k1 := hW2.c1
      have cc := hW2.rc.cell hsl
      obtain ⟨cu, hcu'⟩ : ∃ x, cost u = x := ⟨_, rfl⟩
      rw [hcu'] at cc hcu
      have HCU := hide hcu'
      obtain ⟨u1, u2⟩ := hcu
      obtain ⟨p1, p2⟩ := hpr
      have hb5 : -210000 ≤ cu := by omega
      have hb6 : cu ≤ 210000 := by omega
      have HL2 := hide (HL.out.grow hB2)
      have HE2 := hide (HE.out.below hB2)
      have hbv : -210000 ≤ cost v ∧ cost v ≤ 210000 := by omega
      clear hr0 hcu' hW2 hcv u1 u2
      have cQ : ∀ d' os, Calls Tryz.prog 118 #[.pointer (some ⟨lb, 0, none⟩), .agg #[.int .i64 a, .bool bk]] (Sort.grow (redrawn w2 d') os) fun e w'' => e = .returned (.int .i64 pr) ∧ ∃ p : Regrown, w'' = Sort.grow (redrawn w2 p.d) p.os :=
        fun d' os => Calls.regrown_of (cP.out _ (HL2.out.grow (below_regrown w2 d' os)) (HE2.out.below (below_regrown w2 d' os)))
      have r1 := cell_regrown (w := w2) (a := ⟨rb, 1, none⟩) k1
      have r2 := cell_regrown (w := w2) (a := ⟨cb, u, none⟩) cc
      have r3 := cell_regrown (w := w2) (a := ⟨w.heap.size, 0, none⟩) e0
      have r4 := cell_regrown (w := w2) (a := ⟨w.heap.size, 1, none⟩) e1
      clear cP HL2 HE2
      go_wp2_with fail
      refine wp_region_quiet_below (by kernel_rfl) (by kernel_rfl) ?_
      repeat (quiet_step (first | exact cQ _ _))
      refine wpQuiet_nil ?_
      intro _ hw'
      obtain ⟨⟨dq, osq⟩, hw''⟩ := hw'
      subst hw''
      have hbr := below_regrown w2 dq osq
      generalize Sort.grow (redrawn w2 dq) osq = w3 at *
      clear cQ r1 r2 r3 r4
      have g0 := (hbr.cell (p := ⟨w.heap.size, 0, none⟩) hs2).trans e0
      have g1 := (hbr.cell (p := ⟨w.heap.size, 1, none⟩) hs2).trans e1
      have hB3 : Below w.heap.size w w3 := hB2.trans (hbr.mono hB2.size)
      clear hbr e0 e1 k1 cc hB2
      have hW3 := HW.out.grow hB3
      have m0 := hW3.c0
      have cs := hW3.rs.cell hdl
      have hlo := hW3.lo
      have fs := hW3.rs.frozen v
      have m1 := hW3.c1
      have cv := hW3.rc.cell hdl
      obtain ⟨lv, hlv⟩ : ∃ x, cost v = x := ⟨_, rfl⟩
      rw [hlv] at cv hbv
      obtain ⟨v1, v2⟩ := hbv
      have HLV := hide hlv
      clear hlv
      obtain ⟨nc, hnc⟩ : ∃ x, cu + pr = x := ⟨_, rfl⟩
      have n1 : -211000 ≤ nc := by omega
      have n2 : nc ≤ 211000 := by omega
      rw [HCU.out, hnc] at go
      rw [HCU.out, hnc] at stay
      rw [HLV.out] at stay go
      by_cases hsat : seen v = true ∧ lv ≤ nc
      · obtain ⟨hsv, hle⟩ := hsat
        have HSV := hide hsv
        rw [hsv] at cs
        clear hsv hW3
        have hled : decide (lv ≤ nc) = true := decide_eq_true hle
        rw [hnc]
        clear hnc
        go_wp2
        (try simp only [Exit.inBlock, Exit.then]); refine bodyPost_ret (results_none rfl _ _ _) rfl ?_
        exact ⟨rfl, stay.out _ hB3 (fun _ _ => ⟨HSV.out, hle⟩)⟩
      · have HNS := hide hsat
        have hA1 := hW3.setSeen v true
        have m1b := hA1.c1
        have cvb := hA1.rc.cell hdl
        have fvb := hA1.rc.frozen v
        have hA2 := hA1.setCost v nc
        have m2b := hA2.c2
        have cab1 := hA2.ra.cell (i := v * 2) (by omega)
        have cab2 := hA2.ra.cell (i := v * 2 + 1) (by omega)
        rw [lastEven] at cab1
        rw [lastOdd] at cab2
        have fab1 := hA2.ra.frozen (v * 2)
        have fab2 := hA2.ra.frozen (v * 2 + 1)
        have hA3 := (hA2.setLast v ⟨a, bk⟩).grow (w' := ((((w3.setCell ⟨sb, v, none⟩ (.bool true)).setCell ⟨cb, v, none⟩ (.int .i64 nc)).setCell ⟨ab, v * 2, none⟩ (.int .i64 a)).setCell ⟨ab, v * 2 + 1, none⟩ (.bool bk)).drew) ((Below.refl _ _).drew)
        have hA3c := hA3.rr.cell (i := 3) (by omega)
        have hA3f := hA3.rr.frozen 3
        have hA4 := hA3.setNew (v : Int)
        have hB4 : Below K w ((((((w3.setCell ⟨sb, v, none⟩ (.bool true)).setCell ⟨cb, v, none⟩ (.int .i64 nc)).setCell ⟨ab, v * 2, none⟩ (.int .i64 a)).setCell ⟨ab, v * 2 + 1, none⟩ (.bool bk)).drew).setCell ⟨rb, 3, none⟩ (.int .i64 (v : Int))) :=
          ((((((hB3.mono hKw).setCell (p := ⟨sb, v, none⟩) hlo.2.1 _).setCell (p := ⟨cb, v, none⟩) hlo.2.2.1 _).setCell (p := ⟨ab, v * 2, none⟩) hlo.2.2.2 _).setCell (p := ⟨ab, v * 2 + 1, none⟩) hlo.2.2.2 _).drew).setCell (p := ⟨rb, 3, none⟩) hlo.1 _
        have hne := hW3.ne
        have g0b : ((w3.setCell ⟨sb, v, none⟩ (.bool true)).setCell ⟨cb, v, none⟩ (.int .i64 nc)).cell? ⟨w.heap.size, 0, none⟩ = some (.int .i64 a) := ((set_blk (by have := HW.out.rc.lt; omega)).trans (set_blk (by have := HW.out.rs.lt; omega))).trans g0
        have g1b : ((w3.setCell ⟨sb, v, none⟩ (.bool true)).setCell ⟨cb, v, none⟩ (.int .i64 nc)).cell? ⟨w.heap.size, 1, none⟩ = some (.bool bk) := ((set_blk (by have := HW.out.rc.lt; omega)).trans (set_blk (by have := HW.out.rs.lt; omega))).trans g1
        have HFIN := hide (go.out _ hA4 hB4 HR0.out HSU.out HNS.out)
        clear hW3 hA1 hA2 hA3 hA4 hB4 go stay HNS HW HL HE
        rw [hnc]
        clear hnc
        cases hsv : seen v with
        | true =>
          have hled : decide (lv ≤ nc) = false := decide_eq_false (fun h => hsat ⟨hsv, h⟩)
          rw [hsv] at cs
          clear hsat hsv
          go_wp2
          go_region
          go_wp2
          go_end0
          exact ⟨rfl, HFIN.out⟩
        | false =>
          rw [hsv] at cs
          clear hsat hsv
          go_wp2
          go_region
          go_wp2
          go_end0
          exact ⟨rfl, HFIN.out⟩
end Go.Proofs.YtnbccoflcoaoaaaGreat

namespace Go.Proofs.YtnbccoflcoaoaaaGreat
open Go.RowKit Go.Deep
set_option linter.unusedSimpArgs false
set_option linter.unusedVariables false

/-- What a round leaves behind. -/
def Round (es : List A5) (fl : List Int) (n : Nat) (S : Nat → Bool) (K rb sb cb ab : Nat) (c r : Nat) (more : Nat) (y : Wy) (w w' : World) : Prop :=
  ∃ seen cost last T R c' nw, Ways w' K rb sb cb ab n seen cost last nw ∧ WInv es fl n S seen cost last T R c' (r + 1) (fun _ => False) ∧ New n R r nw ∧ (∀ v, v < n → R v < r + 1) ∧ c' ≤ c + more ∧ Below K w w' ∧ (⟨seen, cost, last, nw⟩ : Wy) = y

set_option maxHeartbeats 2000000 in
theorem rGoRound_any (K rb sb cb ab n : Nat) (S seen : Nat → Bool) (cost : Nat → Int) (last : Nat → St) (nw : Int) (T R : Nat → Nat) (c r : Nat) (lb fb vb : Nat) (sa aa : Option Addr) (sn sc an ac : Nat) (xs fl lf : List Int) (es : List A5) (wz w : World)
    (hn : NetW xs es) (hxn : xs.length = n) (hL : Load w lb fb vb sa sn sc aa an ac fl lf) (hlk : lb < K ∧ fb < K ∧ vb < K) (hA0 : Arcs wz aa an es) (hB0 : Below wz.heap.size wz w) (hk0 : wz.heap.size ≤ K) (hm : Mild fl es.length) (hrm : ∀ s : St, s.arc < es.length → 0 ≤ roomOf es fl s) (hKw : K ≤ w.heap.size)
    (hW : Ways w K rb sb cb ab n seen cost last nw) (hI : WInv es fl n S seen cost last T R c r (fun _ => False)) (hR : ∀ v, v < n → R v < r) (hr1 : 1 ≤ r) (hc : c ≤ 3000) :
    Calls Tryz.prog 107 #[.pointer (some ⟨lb, 0, none⟩), .pointer (some ⟨rb, 0, none⟩)] w fun e w' => e = .returned (.tuple #[]) ∧ Round es fl n S K rb sb cb ab c r (2 * an) (roundF es fl ⟨seen, cost, last, nw⟩ an) w w' := by
  have hal : Hid (es.length = an) := hA0.len
  have h24 : an ≤ 64 := by rw [← hal.out]; exact hn.arcs
  have k3 := hW.c3
  have f3 := hW.rr.frozen 3
  have hrb := hW.rr.lt
  have hW0 := hW.setNew (-1)
  have hb0 : Below K w (w.setCell ⟨rb, 3, none⟩ (.int .i64 (-1))) := (Below.refl _ _).setCell (p := ⟨rb, 3, none⟩) hW.lo.1 _
  have hsz0 : (w.setCell ⟨rb, 3, none⟩ (.int .i64 (-1))).heap.size = w.heap.size := by simp [World.setCell]
  have hL0 := hL.below hb0 hlk.1 hlk.2.1 hlk.2.2
  have k1 := hL0.c1
  have HG : Hid (Gone es fl n S K rb sb cb ab c r (fun s => s.arc < 0) 0 (roundF es fl ⟨seen, cost, last, nw⟩ 0) w (w.setCell ⟨rb, 3, none⟩ (.int .i64 (-1)))) :=
    ⟨seen, cost, last, T, R, c, -1, hW0, hI.mono (fun s h => by omega), .inl ⟨rfl, hR⟩, Nat.le_refl _, hb0, rfl⟩
  have HL := hide hL
  have HA := hide hA0
  clear hL hA0 hW hW0 hL0 hI hR hb0 hsz0
  go_enter Tryz.func107, Tryz.ntmps107
  go_wp2
  go_loopw [4, 14] (fun nm i wr => ∃ k : Nat, k ≤ an ∧ i = .int .i64 k ∧ Hid (Gone es fl n S K rb sb cb ab c r (fun s => s.arc < k) (2 * k) (roundF es fl ⟨seen, cost, last, nw⟩ k) w wr)) (fun _ i _ => an - (intOf i).toNat)
  case atStart => exact ⟨0, Nat.zero_le _, rfl, HG.out⟩
  case round =>
    clear k1 k3 f3 HG
    obtain ⟨k, hk, rfl, hG⟩ := hrel
    by_cases hlt : k < an
    · obtain ⟨seen1, cost1, last1, T1, R1, c1, nw1, hW1, hI1, hN1, hc1, hb1, hY1⟩ := hG.out
      have hlt3 : (k : Int) < (an : Int) := by omega
      have hKr : K ≤ wr.heap.size := Nat.le_trans hKw hb1.size
      have cA : n0 (Calls Tryz.prog 116 #[.pointer (some ⟨lb, 0, none⟩), .pointer (some ⟨rb, 0, none⟩), .agg #[.int .i64 k, .bool false]] wr fun e w' => e = .returned (.tuple #[]) ∧
        Gone es fl n S K rb sb cb ab c1 r (fun x => x.arc < k ∨ x = ⟨k, false⟩) 1 (relaxF es fl ⟨seen1, cost1, last1, nw1⟩ ⟨k, false⟩) wr w') :=
        rGoOn_any K rb sb cb ab n S seen1 cost1 last1 nw1 T1 R1 c1 r _ lb fb vb sa aa sn sc an ac xs fl lf es k false wr hn hxn (HL.out.below hb1 hlk.1 hlk.2.1 hlk.2.2) hlk (HA.out.below (hB0.trans (hb1.mono hk0))) hm hrm hKr hW1 hI1 hN1 hr1 (by omega) hlt
      clear hW1 hI1 hN1 hG
      go_wp2_with fail
      refine Calls.mono cA.out ?_
      rintro e w2 ⟨rfl, seen2, cost2, last2, T2, R2, c2, nw2, hW2, hI2, hN2, hc2, hb2, hY2⟩
      clear cA
      have hb12 := hb1.trans hb2
      have cB : n0 (Calls Tryz.prog 116 #[.pointer (some ⟨lb, 0, none⟩), .pointer (some ⟨rb, 0, none⟩), .agg #[.int .i64 k, .bool true]] w2 fun e w' => e = .returned (.tuple #[]) ∧
        Gone es fl n S K rb sb cb ab c2 r (fun x => (x.arc < k ∨ x = ⟨k, false⟩) ∨ x = ⟨k, true⟩) 1 (relaxF es fl ⟨seen2, cost2, last2, nw2⟩ ⟨k, true⟩) w2 w') :=
        rGoOn_any K rb sb cb ab n S seen2 cost2 last2 nw2 T2 R2 c2 r _ lb fb vb sa aa sn sc an ac xs fl lf es k true w2 hn hxn (HL.out.below hb12 hlk.1 hlk.2.1 hlk.2.2) hlk (HA.out.below (hB0.trans (hb12.mono hk0))) hm hrm (Nat.le_trans hKw hb12.size) hW2 hI2 hN2 hr1 (by omega) hlt
      clear hW2 hI2 hN2
      go_wp2_with fail
      refine Calls.mono cB.out ?_
      rintro e w3 ⟨rfl, seen3, cost3, last3, T3, R3, c3, nw3, hW3, hI3, hN3, hc3, hb3, hY3⟩
      clear cB
      have HY3 : Hid ((⟨seen3, cost3, last3, nw3⟩ : Wy) = roundF es fl ⟨seen, cost, last, nw⟩ (k + 1)) := by
        show _ = _
        rw [hY3, hY2, hY1]
        rfl
      clear hY1 hY2 hY3
      have HI3 := hide (hI3.mono (done' := fun s => s.arc < k + 1) (by
        rintro ⟨a, b⟩ h
        have h' : a < k + 1 := h
        by_cases e : a = k
        · subst e; cases b
          · exact .inl (.inr rfl)
          · exact .inr rfl
        · exact .inl (.inl (show a < k by omega))))
      have HW3 := hide hW3
      have HN3 := hide hN3
      clear hI3 hW3 hN3
      go_wp2
      go_roundw
      case rel => exact ⟨k + 1, by omega, by go_num, seen3, cost3, last3, T3, R3, c3, nw3, HW3.out, HI3.out, HN3.out, by omega, hb12.trans hb3, HY3.out⟩
      case measure => simp [intOf]; omega
    · have hkn : k = an := by omega
      subst hkn
      have HF : Hid (Round es fl n S K rb sb cb ab c r (2 * k) (roundF es fl ⟨seen, cost, last, nw⟩ k) w wr) := by
        obtain ⟨seen1, cost1, last1, T1, R1, c1, nw1, hW1, hI1, hN1, hc1, hb1, hY1⟩ := hG.out
        exact ⟨seen1, cost1, last1, T1, R1, c1, nw1, hW1, hI1.next (fun s hs => by rw [hal.out] at hs; exact hs), hN1, fun v hv => by have := (hI1.rnd v hv).1; omega, hc1, hb1, hY1⟩
      clear hG
      go_wp2
      go_end0
      exact ⟨rfl, HF.out⟩

/-! ### new ways -/
theorem infoStep : (Tryz.prog.info? 121).map (fun i => (i.zero, i.size, i.bytes)) = some (some (.agg #[.int .i64 0, .bool false]), 2, 16) := by kernel_rfl
theorem run_make_steps (n : Nat) (hn : n ≤ 16) (w : World) :
    (Instr.makeSlice 114 (.int .i64 (n : Int)) (.int .i64 (n : Int))).run Tryz.prog w = .ok (.slice (some ⟨w.heap.size, 0, none⟩) n n) (w.alloc (.cells (madeCells #[.int .i64 0, .bool false] (n * 2)) 121)) := by
  obtain ⟨i, hi, hz0, hz1, hz2⟩ := info_parts infoStep
  have hr := run_make (P := Tryz.prog) w 114 121 i _ Tryz.underlying114 hi hz0 .i64 .i64 n n (by omega) (Int.le_refl _) (by rw [hz2]; omega) (by omega)
  simp only [Int.toNat_natCast, hz1] at hr
  exact hr
theorem made_steps (w : World) (n b : Nat) (hb : w.heap.size = b) : (w.alloc (.cells (madeCells #[.int .i64 0, .bool false] (n * 2)) 121)).rowIs b 121 (n * 2) (lastF (fun _ => zS)) := by
  subst hb
  refine ⟨_, blk_alloc_new _ _, size_madeCells _ _, fun i hi => ?_⟩
  unfold lastF
  simp only [madeCells, Array.getElem?_map, Array.getElem?_range, hi, if_true, Option.map_some]
  by_cases h : i % 2 = 0
  · rw [if_pos h]
    simp [h, zS]
  · have h1 : i % 2 = 1 := by omega
    rw [if_neg h]
    simp [h1, zS]
theorem made_bools (w : World) (n b : Nat) (hb : w.heap.size = b) : (w.alloc (.cells (madeCells #[.bool false] n) 4)).rowIs b 4 n (fun _ => .bool false) := by
  subst hb
  exact World.rowIs_made _ _ _ _
theorem made_ints (w : World) (n b : Nat) (hb : w.heap.size = b) : (w.alloc (.cells (madeCells #[.int .i64 0] n) 3)).rowIs b 3 n (fun _ => .int .i64 0) := by
  subst hb
  exact World.rowIs_made _ _ _ _
def oB (n : Nat) : Obj := .cells (madeCells #[.bool false] n) 4
def oI (n : Nat) : Obj := .cells (madeCells #[.int .i64 0] n) 3
def oS (n : Nat) : Obj := .cells (madeCells #[.int .i64 0, .bool false] (n * 2)) 121

theorem ways_new (W : World) (K rb sb cb ab n : Nat) (hrb : W.heap.size = rb) (rs : W.rowIs sb 4 n (fun _ => .bool false)) (rc : W.rowIs cb 3 n (fun _ => .int .i64 0)) (ra : W.rowIs ab 121 (n * 2) (lastF (fun _ => zS))) (h1 : K ≤ sb ∧ K ≤ cb ∧ K ≤ ab) (h2 : sb ≠ cb ∧ sb ≠ ab ∧ cb ≠ ab) :
    Ways (W.alloc (.cells #[.slice (some ⟨sb, 0, none⟩) n n, .slice (some ⟨cb, 0, none⟩) n n, .slice (some ⟨ab, 0, none⟩) n n, .int .i64 (-1)] 116)).drew K rb sb cb ab n (fun _ => false) (fun _ => 0) (fun _ => zS) (-1) := by
  subst hrb
  have l1 := rs.lt
  have l2 := rc.lt
  have l3 := ra.lt
  refine ⟨(World.rowIs_alloc _ _ _ _ ?_).drew, (rs.alloc _).drew, (rc.alloc _).drew, (ra.alloc _).drew, by omega, by omega⟩
  intro i hi
  simp only [List.size_toArray, List.length_cons, List.length_nil] at hi
  rcases i with _ | _ | _ | _ | i
  · rfl
  · rfl
  · rfl
  · rfl
  · omega

/-- A new one, whatever order its lists were made in. -/
def NewWays (w : World) (n : Nat) (r : Value) (wx : World) : Prop :=
  ∃ rb sb cb ab, r = .pointer (some ⟨rb, 0, none⟩) ∧ Ways wx w.heap.size rb sb cb ab n (fun _ => false) (fun _ => 0) (fun _ => zS) (-1) ∧ Below w.heap.size w wx
theorem below4 (w : World) (a b c d : Obj) : Below w.heap.size w ((((w.alloc a).alloc b).alloc c).alloc d).drew :=
  (((((Below.refl _ _).alloc (Nat.le_refl _) _).alloc (by simp) _).alloc (by simp; omega) _).alloc (by simp; omega) _).drew
section
variable (w : World) (n : Nat)
theorem nw_1 : NewWays w n (.pointer (some ⟨w.heap.size + 1 + 1 + 1, 0, none⟩)) ((((w.alloc (.cells (madeCells #[.bool false] n) 4)).alloc (.cells (madeCells #[.int .i64 0] n) 3)).alloc (.cells (madeCells #[.int .i64 0, .bool false] (n * 2)) 121)).alloc (.cells #[.slice (some ⟨w.heap.size, 0, none⟩) n n, .slice (some ⟨w.heap.size + 1, 0, none⟩) n n, .slice (some ⟨w.heap.size + 1 + 1, 0, none⟩) n n, .int .i64 (-1)] 116)).drew :=
  ⟨_, _, _, _, rfl, ways_new _ _ _ _ _ _ _ (by simp) (((made_bools w n _ rfl).alloc _).alloc _) ((made_ints (w.alloc _) n _ (by simp)).alloc _) (made_steps ((w.alloc _).alloc _) n _ (by simp)) (by omega) (by omega), below4 _ _ _ _ _⟩
theorem nw_2 : NewWays w n (.pointer (some ⟨w.heap.size + 1 + 1 + 1, 0, none⟩)) ((((w.alloc (.cells (madeCells #[.bool false] n) 4)).alloc (.cells (madeCells #[.int .i64 0, .bool false] (n * 2)) 121)).alloc (.cells (madeCells #[.int .i64 0] n) 3)).alloc (.cells #[.slice (some ⟨w.heap.size, 0, none⟩) n n, .slice (some ⟨w.heap.size + 1 + 1, 0, none⟩) n n, .slice (some ⟨w.heap.size + 1, 0, none⟩) n n, .int .i64 (-1)] 116)).drew :=
  ⟨_, _, _, _, rfl, ways_new _ _ _ _ _ _ _ (by simp) (((made_bools w n _ rfl).alloc _).alloc _) (made_ints ((w.alloc _).alloc _) n _ (by simp)) ((made_steps (w.alloc _) n _ (by simp)).alloc _) (by omega) (by omega), below4 _ _ _ _ _⟩
theorem nw_3 : NewWays w n (.pointer (some ⟨w.heap.size + 1 + 1 + 1, 0, none⟩)) ((((w.alloc (.cells (madeCells #[.int .i64 0] n) 3)).alloc (.cells (madeCells #[.bool false] n) 4)).alloc (.cells (madeCells #[.int .i64 0, .bool false] (n * 2)) 121)).alloc (.cells #[.slice (some ⟨w.heap.size + 1, 0, none⟩) n n, .slice (some ⟨w.heap.size, 0, none⟩) n n, .slice (some ⟨w.heap.size + 1 + 1, 0, none⟩) n n, .int .i64 (-1)] 116)).drew :=
  ⟨_, _, _, _, rfl, ways_new _ _ _ _ _ _ _ (by simp) ((made_bools (w.alloc _) n _ (by simp)).alloc _) (((made_ints w n _ rfl).alloc _).alloc _) (made_steps ((w.alloc _).alloc _) n _ (by simp)) (by omega) (by omega), below4 _ _ _ _ _⟩
theorem nw_4 : NewWays w n (.pointer (some ⟨w.heap.size + 1 + 1 + 1, 0, none⟩)) ((((w.alloc (.cells (madeCells #[.int .i64 0] n) 3)).alloc (.cells (madeCells #[.int .i64 0, .bool false] (n * 2)) 121)).alloc (.cells (madeCells #[.bool false] n) 4)).alloc (.cells #[.slice (some ⟨w.heap.size + 1 + 1, 0, none⟩) n n, .slice (some ⟨w.heap.size, 0, none⟩) n n, .slice (some ⟨w.heap.size + 1, 0, none⟩) n n, .int .i64 (-1)] 116)).drew :=
  ⟨_, _, _, _, rfl, ways_new _ _ _ _ _ _ _ (by simp) (made_bools ((w.alloc _).alloc _) n _ (by simp)) (((made_ints w n _ rfl).alloc _).alloc _) ((made_steps (w.alloc _) n _ (by simp)).alloc _) (by omega) (by omega), below4 _ _ _ _ _⟩
theorem nw_5 : NewWays w n (.pointer (some ⟨w.heap.size + 1 + 1 + 1, 0, none⟩)) ((((w.alloc (.cells (madeCells #[.int .i64 0, .bool false] (n * 2)) 121)).alloc (.cells (madeCells #[.bool false] n) 4)).alloc (.cells (madeCells #[.int .i64 0] n) 3)).alloc (.cells #[.slice (some ⟨w.heap.size + 1, 0, none⟩) n n, .slice (some ⟨w.heap.size + 1 + 1, 0, none⟩) n n, .slice (some ⟨w.heap.size, 0, none⟩) n n, .int .i64 (-1)] 116)).drew :=
  ⟨_, _, _, _, rfl, ways_new _ _ _ _ _ _ _ (by simp) ((made_bools (w.alloc _) n _ (by simp)).alloc _) (made_ints ((w.alloc _).alloc _) n _ (by simp)) (((made_steps w n _ rfl).alloc _).alloc _) (by omega) (by omega), below4 _ _ _ _ _⟩
theorem nw_6 : NewWays w n (.pointer (some ⟨w.heap.size + 1 + 1 + 1, 0, none⟩)) ((((w.alloc (.cells (madeCells #[.int .i64 0, .bool false] (n * 2)) 121)).alloc (.cells (madeCells #[.int .i64 0] n) 3)).alloc (.cells (madeCells #[.bool false] n) 4)).alloc (.cells #[.slice (some ⟨w.heap.size + 1 + 1, 0, none⟩) n n, .slice (some ⟨w.heap.size + 1, 0, none⟩) n n, .slice (some ⟨w.heap.size, 0, none⟩) n n, .int .i64 (-1)] 116)).drew :=
  ⟨_, _, _, _, rfl, ways_new _ _ _ _ _ _ _ (by simp) (made_bools ((w.alloc _).alloc _) n _ (by simp)) ((made_ints (w.alloc _) n _ (by simp)).alloc _) (((made_steps w n _ rfl).alloc _).alloc _) (by omega) (by omega), below4 _ _ _ _ _⟩
end

/-- What 'cheapest' answers. -/
def Cheap (es : List A5) (fl : List Int) (n : Nat) (S : Nat → Bool) (K rb : Nat) (w' : World) : Prop :=
  ∃ sb cb ab seen cost last T R c nw, Ways w' K rb sb cb ab n seen cost last nw ∧ WInv es fl n S seen cost last T R c (n + 1) (fun _ => False) ∧ New n R n nw ∧ c ≤ 2048 ∧ (⟨seen, cost, last, nw⟩ : Wy) = cheapF es fl n S

/-- Behind q rounds. -/
def Rounds (es : List A5) (fl : List Int) (n : Nat) (S : Nat → Bool) (K rb sb cb ab an q : Nat) (w' : World) : Prop :=
  ∃ seen cost last T R c nw, Ways w' K rb sb cb ab n seen cost last nw ∧ WInv es fl n S seen cost last T R c (q + 1) (fun _ => False) ∧ (∀ v, v < n → R v < q + 1) ∧ (q = 0 ∨ New n R q nw) ∧ c ≤ q * (2 * an) ∧ (⟨seen, cost, last, nw⟩ : Wy) = roundsF es fl an ⟨S, fun _ => 0, fun _ => zS, -1⟩ q

theorem WInv.congr {es : List A5} {fl : List Int} {n : Nat} {S S' : Nat → Bool} {seen : Nat → Bool} {cost : Nat → Int} {last : Nat → St} {T R : Nat → Nat} {c r : Nat} {done : St → Prop} (h : WInv es fl n S seen cost last T R c r done) (hS : ∀ v, v < n → S' v = S v) : WInv es fl n S' seen cost last T R c r done :=
  ⟨fun v hv h1 => h.start v hv (by rw [← hS v hv]; exact h1), fun v hv h1 h2 => by rw [hS v hv]; exact h.root v hv h1 h2, h.way, h.time, h.rnd, h.bd, h.arcs, h.sat⟩
/-- Ways whose first nodes are seen as they may start. -/
theorem WInv.init' (es : List A5) (fl : List Int) (n : Nat) (S seen : Nat → Bool) (hS : ∀ v, v < n → seen v = S v) : WInv es fl n S seen (fun _ => 0) (fun _ => zS) (fun _ => 0) (fun _ => 0) 0 1 (fun _ => False) :=
  (WInv.init es fl n seen).congr (fun v hv => (hS v hv).symm)

set_option maxRecDepth 100000 in
set_option maxHeartbeats 4000000 in
theorem rCheapest_any (lb fb vb : Nat) (sa aa : Option Addr) (sn sc an ac : Nat) (xs fl lf : List Int) (es : List A5) (S : Nat → Bool) (tb : Nat) (wz w : World)
    (hn : NetW xs es) (hxn : xs.length = sn) (hL : Load w lb fb vb sa sn sc aa an ac fl lf) (hA0 : Arcs wz aa an es) (hB0 : Below wz.heap.size wz w) (hm : Mild fl es.length) (hrm : ∀ s : St, s.arc < es.length → 0 ≤ roomOf es fl s) (hT : w.rowIs tb 4 sn (fun i => .bool (S i))) :
    Calls Tryz.prog 89 #[.pointer (some ⟨lb, 0, none⟩), .slice (some ⟨tb, 0, none⟩) sn sn] w fun e w' => ∃ rb, e = .returned (.pointer (some ⟨rb, 0, none⟩)) ∧ Below w.heap.size w w' ∧ Cheap es fl sn S w.heap.size rb w' := by
  have HL := hide hL
  have HA := hide hA0
  have hten : sn ≤ 16 := by rw [← hxn]; exact hn.ten
  have hone : 1 ≤ sn := by rw [← hxn]; exact hn.one
  have h24 : an ≤ 64 := by rw [← hA0.len]; exact hn.arcs
  have hlk : Hid (lb < w.heap.size ∧ fb < w.heap.size ∧ vb < w.heap.size) := ⟨hL.lt, hL.flt.1, hL.flt.2⟩
  have hmb := run_make_row' (P := Tryz.prog) 113 4 (.bool false) 1 Tryz.underlying113 infoBool rfl .i64 .i64 sn (by omega) (by omega)
  have hmi := run_make_row' (P := Tryz.prog) 32 3 (.int .i64 0) 8 Tryz.underlying32 infoInt rfl .i64 .i64 sn (by omega) (by omega)
  have hms := run_make_steps sn hten
  have HT := hide hT
  have htb : tb < w.heap.size := hT.lt
  clear hL hA0 hT
  go_enter Tryz.func89, Tryz.ntmps89
  go_upto_region 2 with fail
  go_cut [6] (fun r wx => NewWays w sn r wx)
  case first =>
    go_region
    all_goals (go_wp2_with fail; go_meet)
    · exact nw_1 _ _
    · exact nw_2 _ _
    · exact nw_3 _ _
    · exact nw_4 _ _
    · exact nw_5 _ _
    · exact nw_6 _ _
  case rest =>
  obtain ⟨rb, sb, cb, ab, rfl, hW0, hb0⟩ := hcut
  clear hmb hmi hms
  have HW0 := hide hW0
  clear hW0
  go_wp2
  go_loopw [7, 8, 22] (fun nd st i wr => ∃ k : Nat, k ≤ sn ∧ i = .int .i64 k ∧ (∃ seen, Hid (Ways wr w.heap.size rb sb cb ab sn seen (fun _ => 0) (fun _ => zS) (-1)) ∧ Hid (∀ v, v < k → seen v = S v)) ∧ Below w.heap.size w wr) (fun _ _ i _ => sn - (intOf i).toNat)
  case atStart => exact ⟨0, Nat.zero_le _, rfl, ⟨_, HW0.out, fun v hv => by omega⟩, hb0⟩
  case round =>
    clear HW0 hb0
    obtain ⟨k, hk, rfl, ⟨seen, hW, hS⟩, hb⟩ := hrel
    by_cases hlt : k < sn
    · have hlt3 : (k : Int) < (sn : Int) := by omega
      have ct := (below_blk hb htb).trans (HT.out.cell hlt)
      have k0 := hW.out.c0
      have cs := hW.out.rs.cell hlt
      have fs := hW.out.rs.frozen k
      have hlo := hW.out.lo.2.1
      have HW1 := hide (hW.out.setSeen k (S k))
      have HB1 := hide (hb.setCell (p := ⟨sb, k, none⟩) hlo (.bool (S k)))
      clear hW hb
      go_wp2
      go_roundw
      case rel =>
        refine ⟨k + 1, by omega, by go_num, ⟨_, HW1.out, fun v hv => ?_⟩, HB1.out⟩
        by_cases e : v = k
        · subst e; exact upd_same _ _ _
        · rw [upd_ne _ _ e]; exact hS.out v (by omega)
      case measure => simp [intOf]; omega
    · have hkn : k = sn := by omega
      subst hkn
      have HR : Hid (Rounds es fl k S w.heap.size rb sb cb ab an 0 wr) :=
        ⟨S, _, _, _, _, _, _, ⟨hW.out.rr, hW.out.rs.congr (fun i hi => by rw [hS.out i hi]), hW.out.rc, hW.out.ra, hW.out.lo, hW.out.ne⟩, WInv.init es fl k S, fun v hv => by omega, .inl rfl, by omega, rfl⟩
      clear hW hS
      go_wp2
      go_loopw [9] (fun i wq => ∃ q : Nat, q ≤ k ∧ i = .int .i64 q ∧ Hid (Rounds es fl k S w.heap.size rb sb cb ab an q wq) ∧ Below w.heap.size w wq) (fun i _ => k - (intOf i).toNat)
      case atStart => exact ⟨0, Nat.zero_le _, rfl, HR.out, hb⟩
      case round =>
        clear HR hb
        obtain ⟨q, hq, rfl, hF, hb⟩ := hrel
        by_cases hlt2 : q < k
        · obtain ⟨seen, cost, last, T, R, c, nw, hW, hI, hR, hN, hc, hY⟩ := hF.out
          have hlt3 : (q : Int) < (k : Int) := by omega
          have hqa : q * (2 * an) + 2 * an ≤ 2048 := by
            have : (q + 1) * (2 * an) ≤ 16 * 128 := Nat.mul_le_mul (by omega) (by omega)
            rw [Nat.add_mul] at this
            omega
          have cG : n0 (Calls Tryz.prog 107 #[.pointer (some ⟨lb, 0, none⟩), .pointer (some ⟨rb, 0, none⟩)] wr fun e w' => e = .returned (.tuple #[]) ∧ Round es fl k S w.heap.size rb sb cb ab c (q + 1) (2 * an) (roundF es fl ⟨seen, cost, last, nw⟩ an) wr w') :=
            rGoRound_any w.heap.size rb sb cb ab k S seen cost last nw T R c (q + 1) lb fb vb sa aa k sc an ac xs fl lf es wz wr hn hxn (HL.out.below hb hlk.out.1 hlk.out.2.1 hlk.out.2.2) hlk.out HA.out (hB0.trans (hb.mono hB0.size)) hB0.size hm hrm hb.size hW hI hR (by omega) (by omega)
          clear hW hI hR hN hF
          go_wp2_with fail
          refine Calls.mono cG.out ?_
          rintro e w2 ⟨rfl, seen2, cost2, last2, T2, R2, c2, nw2, hW2, hI2, hN2, hR2, hc2, hb2, hY2⟩
          clear cG
          have HF2 : Hid (Rounds es fl k S w.heap.size rb sb cb ab an (q + 1) w2) :=
            ⟨seen2, cost2, last2, T2, R2, c2, nw2, hW2, hI2, hR2, .inr hN2, by rw [Nat.add_mul]; omega, by rw [hY2, hY]; rfl⟩
          clear hY hY2 hW2 hI2 hN2 hR2
          go_wp2
          go_roundw
          case rel => exact ⟨q + 1, by omega, by go_num, HF2.out, hb.trans hb2⟩
          case measure => simp [intOf]; omega
        · have hqe : q = k := by omega
          have HC : Hid (Cheap es fl k S w.heap.size rb wr) := by
            obtain ⟨seen, cost, last, T, R, c, nw, hW, hI, hR, hN, hc, hY⟩ := hF.out
            subst hqe
            refine ⟨sb, cb, ab, seen, cost, last, T, R, c, nw, hW, hI, hN.resolve_left (by omega), ?_, by rw [hY]; unfold cheapF; rw [HA.out.len]⟩
            have : q * (2 * an) ≤ 16 * 128 := Nat.mul_le_mul (by omega) (by omega)
            omega
          subst hqe
          clear hF
          go_wp2
          go_ret
          exact ⟨rb, rfl, hb, HC.out⟩
end Go.Proofs.YtnbccoflcoaoaaaGreat

namespace Go.Proofs.YtnbccoflcoaoaaaGreat
open Go.RowKit Go.Deep
set_option linter.unusedSimpArgs false
set_option linter.unusedVariables false

/-! ### goods that are left, added up -/
set_option maxHeartbeats 1000000 in
theorem rUnsent_any (lb fb vb : Nat) (sa aa : Option Addr) (sn sc an ac : Nat) (fl lf : List Int) (w : World) (hL : Load w lb fb vb sa sn sc aa an ac fl lf) (hl : sn ≤ 16) (hb : ∀ v, v < sn → -64001441 ≤ lf.getD v 0 ∧ lf.getD v 0 ≤ 64001441) :
    Calls Tryz.prog 87 #[.pointer (some ⟨lb, 0, none⟩)] w fun e w' => e = .returned (.int .i64 (posTo lf sn)) ∧ w' = w := by
  have k3 := hL.c3
  have HL := hide hL
  have HB := hide hb
  clear hL hb
  go_enter Tryz.func87, Tryz.ntmps87
  go_wp2
  go_loop [3, 5, 11] (fun s lft i => ∃ k : Nat, k ≤ sn ∧ i = .int .i64 k ∧ s = .int .i64 (posTo lf k)) (fun _ _ i => sn - (intOf i).toNat)
  case atStart => exact ⟨0, Nat.zero_le _, rfl, rfl⟩
  case round =>
    clear k3
    obtain ⟨k, hk, rfl, rfl⟩ := hrel
    by_cases hlt : k < sn
    · have hlt3 : (k : Int) < (sn : Int) := by omega
      have cv := HL.out.rl.cell hlt
      have hbd := HB.out k hlt
      have hp0 := pos_nonneg lf k
      have hp1 := pos_le lf k 64001441 (by omega) (fun v hv => (HB.out v (by omega)).2)
      have hnx : Hid (posTo lf (k + 1) = posTo lf k + (if 0 < lf.getD k 0 then lf.getD k 0 else 0)) := rfl
      generalize lf.getD k 0 = x at *
      generalize posTo lf k = p at *
      obtain ⟨hx0, hx1⟩ := hbd
      have hp2 : p ≤ 2000000000 := by omega
      clear hp1
      by_cases hpos : 0 < x
      · go_wp2
        refine ⟨⟨k + 1, by omega, by go_num, ?_⟩, by simp [intOf]; omega⟩
        rw [hnx.out, if_pos hpos]
      · have hpf : decide (0 < x) = false := decide_eq_false hpos
        go_wp2
        all_goals first
          | (exfalso; omega)
          | (refine ⟨⟨k + 1, by omega, by go_num, ?_⟩, by simp [intOf]; omega⟩
             rw [hnx.out, if_neg hpos]; simp)
    · have hkn : k = sn := by omega
      subst hkn
      go_wp2
      go_ret
      exact ⟨rfl, rfl⟩

set_option maxHeartbeats 1000000 in
theorem rSum_any (sa : Option Addr) (sn sc : Nat) (xs : List Int) (w : World) (hx : Ints w sa sn xs) (hl : sn ≤ 10) (hb : ∀ v, v < sn → -100 ≤ xs.getD v 0 ∧ xs.getD v 0 ≤ 100) :
    Calls Tryz.prog 76 #[.slice sa sn sc] w fun e w' => e = .returned (.int .i64 (sumTo (fun v => xs.getD v 0) sn)) ∧ w' = w := by
  have HX := hide hx
  have HB := hide hb
  clear hx hb
  go_enter Tryz.func76, Tryz.ntmps76
  go_wp2
  go_loop [3, 5, 8] (fun s lft i => ∃ k : Nat, k ≤ sn ∧ i = .int .i64 k ∧ s = .int .i64 (sumTo (fun v => xs.getD v 0) k) ∧ Hid (-(100 * (k : Int)) ≤ sumTo (fun v => xs.getD v 0) k ∧ sumTo (fun v => xs.getD v 0) k ≤ 100 * (k : Int))) (fun _ _ i => sn - (intOf i).toNat)
  case atStart => exact ⟨0, Nat.zero_le _, rfl, rfl, by simp [Hid, sumTo]⟩
  case round =>
    obtain ⟨k, hk, rfl, rfl, hbd⟩ := hrel
    by_cases hlt : k < sn
    · have hlt3 : (k : Int) < (sn : Int) := by omega
      obtain ⟨b, off, x, rfl, hX, hbb, cx⟩ := HX.out.get hlt
      have hx1 := HB.out k hlt
      rw [hX] at hx1
      have hnx : Hid (sumTo (fun v => xs.getD v 0) (k + 1) = sumTo (fun v => xs.getD v 0) k + x) := by simp only [Hid, sumTo, hX]
      have hb2 := hbd.out
      clear hX
      generalize sumTo (fun v => xs.getD v 0) k = p at *
      obtain ⟨b1, b2⟩ := hb2
      obtain ⟨x1, x2⟩ := hx1
      have b3 : -1000 ≤ p := by omega
      have b4 : p ≤ 1000 := by omega
      go_wp2
      refine ⟨⟨k + 1, by omega, by go_num, ?_, ?_⟩, by simp [intOf]; omega⟩
      · rw [hnx.out]
      · rw [hnx.out]; simp only [Hid]; omega
    · have hkn : k = sn := by omega
      subst hkn
      go_wp2
      go_ret
      exact ⟨rfl, rfl⟩

theorem seenTo_yes {seen : Nat → Bool} {k : Nat} (h : seen k = true) : seenTo seen (k + 1) = seenTo seen k ++ [(k : Int)] := by simp only [seenTo, h, if_true]
theorem seenTo_no {seen : Nat → Bool} {k : Nat} (h : seen k = false) : seenTo seen (k + 1) = seenTo seen k := by simp [seenTo, h]

set_option maxHeartbeats 1000000 in
theorem rEvery_any (m : Nat) (w : World) (hm : m ≤ 10) :
    Calls Tryz.prog 77 #[.int .i64 m] w fun e w' => ∃ v, e = .returned v ∧ OwnL w' w.heap.size v (seenTo (fun _ => true) m) ∧ Below w.heap.size w w' := by
  go_enter Tryz.func77, Tryz.ntmps77
  go_wp2
  go_loopw [3, 4] (fun v i wr => ∃ k : Nat, k ≤ m ∧ i = .int .i64 k ∧ Hid (OwnL wr w.heap.size v (seenTo (fun _ => true) k)) ∧ Below w.heap.size w wr) (fun _ i _ => m - (intOf i).toNat)
  case atStart => exact ⟨0, Nat.zero_le _, rfl, OwnL.lit w, (Below.refl _ _).alloc (Nat.le_refl _) _⟩
  case round =>
    obtain ⟨k, hk, rfl, hO, hb⟩ := hrel
    obtain ⟨oa, oc, rfl, hown⟩ := hO.out
    have HO := hide hown
    have hsz := hb.size
    have hlen : (seenTo (fun _ => true) k).length ≤ 1000 := by have := seen_len (fun _ => true) k; omega
    have hnx : Hid (seenTo (fun _ => true) (k + 1) = seenTo (fun _ => true) k ++ [(k : Int)]) := seenTo_yes rfl
    clear hown
    by_cases hlt : k < m
    · have hlt3 : (k : Int) < (m : Int) := by omega
      generalize hLL : seenTo (fun _ => true) k = L at *
      clear hLL
      go_wp2_with (at_builtin; refine wpList_push_int rfl (.tmp 11) (.tmp 13) rfl w.heap.size oa oc L rfl ?_ wr.heap.size k 1 rfl ?_ hlen ?_ ?_)
      · exact HO.out.alloc _
      · go_simp
      · simp; omega
      intro g' c' w2 hown2 hgr
      have hblk := (HO.out.alloc (.cells #[.int .i64 k] 3)).lt
      have hb2 : Below w.heap.size w w2 := (hb.alloc hsz _).grown hgr (by simp; omega) (fun b hb' => (hblk b hb').1)
      go_wp2
      go_roundw
      case rel =>
        refine ⟨k + 1, by omega, by go_num, ?_, hb2⟩
        rw [hnx.out]
        exact OwnL.push hown2
      case measure => simp [intOf]; omega
    · have hkn : k = m := by omega
      subst hkn
      go_wp2
      go_ret
      exact ⟨_, rfl, hO.out, hb⟩


/-! ### lists of nodes -/
set_option maxHeartbeats 1000000 in
theorem rNodes_any (K rb sb cb ab n : Nat) (seen : Nat → Bool) (cost : Nat → Int) (last : Nat → St) (nw : Int) (w : World) (hW : Ways w K rb sb cb ab n seen cost last nw) (hn : n ≤ 16) :
    Calls Tryz.prog 91 #[.pointer (some ⟨rb, 0, none⟩)] w fun e w' => ∃ v, e = .returned v ∧ OwnL w' w.heap.size v (seenTo seen n) ∧ Below w.heap.size w w' := by
  have k0 := hW.c0
  have hrb := hW.rr.lt
  have hsb := hW.rs.lt
  have HW := hide hW
  clear hW
  go_enter Tryz.func91, Tryz.ntmps91
  go_wp2
  go_loopw [3, 4, 5, 12] (fun v nd sn i wr => ∃ k : Nat, k ≤ n ∧ i = .int .i64 k ∧ Hid (OwnL wr w.heap.size v (seenTo seen k)) ∧ Below w.heap.size w wr) (fun _ _ _ i _ => n - (intOf i).toNat)
  case atStart => exact ⟨0, Nat.zero_le _, rfl, OwnL.lit w, (Below.refl _ _).alloc (Nat.le_refl _) _⟩
  case round =>
    clear k0
    obtain ⟨k, hk, rfl, hO, hb⟩ := hrel
    obtain ⟨la, lc, rfl, hown⟩ := hO.out
    have HO := hide hown
    have hsz := hb.size
    have hlen : (seenTo seen k).length ≤ 1000 := by have := seen_len seen k; omega
    clear hown
    by_cases hlt : k < n
    · have hlt3 : (k : Int) < (n : Int) := by omega
      have cs := (below_blk hb hsb).trans (HW.out.rs.cell hlt)
      cases hs : seen k with
      | true =>
        have hnx : Hid (seenTo seen (k + 1) = seenTo seen k ++ [(k : Int)]) := seenTo_yes hs
        rw [hs] at cs
        generalize hLL : seenTo seen k = L at *
        clear hLL hs
        go_wp2_with (at_builtin; refine wpList_push_int rfl (.tmp 18) (.tmp 20) rfl w.heap.size la lc L rfl ?_ wr.heap.size k 1 rfl ?_ hlen ?_ ?_)
        · exact HO.out.alloc _
        · go_simp
        · simp; omega
        intro g' c' w2 hown2 hgr
        have hblk := (HO.out.alloc (.cells #[.int .i64 k] 3)).lt
        have hb2 : Below w.heap.size w w2 := (hb.alloc hsz _).grown hgr (by simp; omega) (fun b hb' => (hblk b hb').1)
        go_wp2
        go_roundw
        case rel =>
          refine ⟨k + 1, by omega, by go_num, ?_, hb2⟩
          rw [hnx.out]
          exact OwnL.push hown2
        case measure => simp [intOf]; omega
      | false =>
        have hnx : Hid (seenTo seen (k + 1) = seenTo seen k) := seenTo_no hs
        rw [hs] at cs
        go_wp2
        go_roundw
        case rel => exact ⟨k + 1, by omega, by go_num, by rw [hnx.out]; exact hO.out, hb⟩
        case measure => simp [intOf]; omega
    · have hkn : k = n := by omega
      subst hkn
      go_wp2
      go_ret
      exact ⟨_, rfl, hO.out, hb⟩

set_option maxHeartbeats 1000000 in
theorem rWanting_any (K rb sb cb ab : Nat) (seen : Nat → Bool) (cost : Nat → Int) (last : Nat → St) (nw : Int) (lb fb vb : Nat) (sa aa : Option Addr) (sn sc an ac : Nat) (fl lf : List Int) (w : World) (hL : Load w lb fb vb sa sn sc aa an ac fl lf)
    (hW : Ways w K rb sb cb ab sn seen cost last nw) (hn : sn ≤ 16) :
    Calls Tryz.prog 90 #[.pointer (some ⟨lb, 0, none⟩), .pointer (some ⟨rb, 0, none⟩)] w fun e w' => w' = w ∧
      ((∃ v : Nat, v < sn ∧ seen v = true ∧ lf.getD v 0 < 0 ∧ (∀ u, u < v → seen u = true → 0 ≤ lf.getD u 0) ∧ e = .returned (.tuple #[.int .i64 v, .bool true])) ∨ (e = .returned (.tuple #[.int .i64 0, .bool false]) ∧ ∀ v, v < sn → seen v = true → 0 ≤ lf.getD v 0)) := by
  have k0 := hW.c0
  have k3 := hL.c3
  have HL := hide hL
  have HW := hide hW
  clear hL hW
  go_enter Tryz.func90, Tryz.ntmps90
  go_wp2
  go_loop [6, 7, 13] (fun nd lft i => ∃ k : Nat, k ≤ sn ∧ i = .int .i64 k ∧ Hid (∀ j, j < k → seen j = true → 0 ≤ lf.getD j 0)) (fun _ _ i => sn - (intOf i).toNat)
  case atStart => exact ⟨0, Nat.zero_le _, rfl, fun j hj => by omega⟩
  case round =>
    clear k3
    obtain ⟨k, hk, rfl, hG⟩ := hrel
    by_cases hlt : k < sn
    · have hlt3 : (k : Int) < (sn : Int) := by omega
      have cv := HL.out.rl.cell hlt
      have cs := HW.out.rs.cell hlt
      by_cases hneg : lf.getD k 0 < 0
      · have HN := hide hneg
        cases hs : seen k with
        | true =>
          rw [hs] at cs
          generalize hxx : lf.getD k 0 = x at cv hneg
          clear hxx
          go_wp2
          go_ret2
          exact ⟨rfl, .inl ⟨k, hlt, hs, HN.out, hG.out, rfl⟩⟩
        | false =>
          rw [hs] at cs
          have HS := hide hs
          generalize hxx : lf.getD k 0 = x at cv hneg
          clear hxx hs
          go_wp2
          refine ⟨⟨k + 1, by omega, by go_num, ?_⟩, by simp [intOf]; omega⟩
          intro j hj hsj
          by_cases e : j = k
          · subst e; rw [HS.out] at hsj; cases hsj
          · exact hG.out j (by omega) hsj
      · have HN := hide hneg
        have hnf : decide (lf.getD k 0 < 0) = false := decide_eq_false hneg
        clear hneg
        generalize hxx : lf.getD k 0 = x at cv hnf
        clear hxx
        go_wp2
        all_goals first
          | (exfalso; simp at hnf; omega)
          | (refine ⟨⟨k + 1, by omega, by go_num, ?_⟩, by simp [intOf]; omega⟩
             intro j hj hsj
             by_cases e : j = k
             · subst e; have := HN.out; omega
             · exact hG.out j (by omega) hsj)
    · have hkn : k = sn := by omega
      subst hkn
      go_wp2
      go_ret2
      exact ⟨rfl, .inr ⟨rfl, fun v hv hs => hG.out v hv hs⟩⟩


set_option maxHeartbeats 1000000 in
theorem rReady_any (lb fb vb : Nat) (sa aa : Option Addr) (sn sc an ac : Nat) (fl lf : List Int) (w : World) (hL : Load w lb fb vb sa sn sc aa an ac fl lf) (hn : sn ≤ 16) :
    Calls Tryz.prog 88 #[.pointer (some ⟨lb, 0, none⟩)] w fun e w' => ∃ tb, e = .returned (.slice (some ⟨tb, 0, none⟩) sn sn) ∧ w'.rowIs tb 4 sn (fun i => .bool (readyF lf i)) ∧ w.heap.size ≤ tb ∧ Below w.heap.size w w' := by
  have k3 := hL.c3
  have hvb := hL.flt.2
  have HL := hide hL
  have hlb := hL.lt
  have hmb := run_make_row' (P := Tryz.prog) 113 4 (.bool false) 1 Tryz.underlying113 infoBool rfl .i64 .i64 sn (by omega) (by omega)
  clear hL
  go_enter Tryz.func88, Tryz.ntmps88
  go_wp2
  go_loopw [4, 5, 17] (fun nd lft i wr => ∃ k : Nat, k ≤ sn ∧ i = .int .i64 k ∧ Hid (wr.rowIs w.heap.size 4 sn (fun i => .bool (if i < k then readyF lf i else false))) ∧ Below w.heap.size w wr) (fun _ _ i _ => sn - (intOf i).toNat)
  case atStart => exact ⟨0, Nat.zero_le _, rfl, (World.rowIs_made w (.bool false) sn 4).congr (fun i _ => by simp), (Below.refl _ _).alloc (Nat.le_refl _) _⟩
  case round =>
    clear k3 hmb
    obtain ⟨k, hk, rfl, hR, hb⟩ := hrel
    by_cases hlt : k < sn
    · have hlt3 : (k : Int) < (sn : Int) := by omega
      have cv := (below_blk hb hvb).trans (HL.out.rl.cell hlt)
      have ct := hR.out.cell hlt
      have ft := hR.out.frozen k
      obtain ⟨x, hx⟩ : ∃ x, lf.getD k 0 = x := ⟨_, rfl⟩
      rw [hx] at cv
      have HRD : Hid (readyF lf k = decide (0 < x)) := by show _ = _; unfold readyF; rw [hx]
      have HR1 := hide (hR.out.set k (.bool (decide (0 < x))))
      have HB1 := hide (hb.setCell (p := ⟨w.heap.size, k, none⟩) (Nat.le_refl _) (.bool (decide (0 < x))))
      clear hR hb hx
      go_wp2
      go_roundw
      case rel =>
        refine ⟨k + 1, by omega, by go_num, ?_, HB1.out⟩
        refine HR1.out.congr ?_
        intro i hi
        by_cases e : i = k
        · subst e; rw [if_pos rfl, if_pos (by omega), HRD.out]
        · rw [if_neg e]
          by_cases e2 : i < k
          · rw [if_pos e2, if_pos (by omega)]
          · rw [if_neg e2, if_neg (by omega)]
      case measure => simp [intOf]; omega
    · have hkn : k = sn := by omega
      subst hkn
      go_wp2
      go_ret
      exact ⟨_, rfl, hR.out.congr (fun i hi => by rw [if_pos hi]), Nat.le_refl _, hb⟩

end Go.Proofs.YtnbccoflcoaoaaaGreat
