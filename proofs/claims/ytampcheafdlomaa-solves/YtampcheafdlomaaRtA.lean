import Derived.Test.YtampcheafdlomaaRtM
import Derived.Deep.DeepCutAuto
import Derived.Deep.Light
namespace Go.Proofs.Ytampcheafdlomaa
open Go.RowKit Go.Deep
set_option linter.unusedSimpArgs false
set_option linter.unusedVariables false

def lastF (last : Nat → St) (j : Nat) : Value := if j % 2 = 0 then .int .i64 (last (j / 2)).arc else .bool (last (j / 2)).back
theorem lastEven (last : Nat → St) (v : Nat) : lastF last (v * 2) = .int .i64 (last v).arc := by
  unfold lastF; rw [if_pos (by omega), show v * 2 / 2 = v from by omega]
theorem lastOdd (last : Nat → St) (v : Nat) : lastF last (v * 2 + 1) = .bool (last v).back := by
  unfold lastF; rw [if_neg (by omega), show (v * 2 + 1) / 2 = v from by omega]
def wFs (sb cb ab n : Nat) (nw : Int) (i : Nat) : Value := if i = 0 then .slice (some ⟨sb, 0, none⟩) n n else if i = 1 then .slice (some ⟨cb, 0, none⟩) n n else if i = 2 then .slice (some ⟨ab, 0, none⟩) n n else .int .i64 nw

/-- The memory of ways: the struct at rb, its lists at sb, cb, ab. -/
structure Ways (w : World) (K rb sb cb ab n : Nat) (seen : Nat → Bool) (cost : Nat → Int) (last : Nat → St) (nw : Int) : Prop where
  rr : w.rowIs rb 81 4 (wFs sb cb ab n nw)
  rs : w.rowIs sb 4 n (fun i => .bool (seen i))
  rc : w.rowIs cb 3 n (fun i => .int .i64 (cost i))
  ra : w.rowIs ab 86 (n * 2) (lastF last)
  lo : K ≤ rb ∧ K ≤ sb ∧ K ≤ cb ∧ K ≤ ab
  ne : rb ≠ sb ∧ rb ≠ cb ∧ rb ≠ ab ∧ sb ≠ cb ∧ sb ≠ ab ∧ cb ≠ ab

section
variable {w w' : World} {K rb sb cb ab n : Nat} {seen : Nat → Bool} {cost : Nat → Int} {last : Nat → St} {nw : Int}
theorem Ways.grow (h : Ways w K rb sb cb ab n seen cost last nw) (hb : Below w.heap.size w w') : Ways w' K rb sb cb ab n seen cost last nw :=
  ⟨below_row hb h.rr h.rr.lt, below_row hb h.rs h.rs.lt, below_row hb h.rc h.rc.lt, below_row hb h.ra h.ra.lt, h.lo, h.ne⟩
theorem Ways.kept (h : Ways w K rb sb cb ab n seen cost last nw) {row : Nat} (hg : w.grownBy w' (some row)) (hr : row < K) : Ways w' K rb sb cb ab n seen cost last nw := by
  obtain ⟨l1, l2, l3, l4⟩ := h.lo
  have q : ∀ b, K ≤ b → some b ≠ some row := fun b hb e => by cases e; omega
  exact ⟨grown_row hg h.rr (q _ l1), grown_row hg h.rs (q _ l2), grown_row hg h.rc (q _ l3), grown_row hg h.ra (q _ l4), h.lo, h.ne⟩
theorem Ways.c0 (h : Ways w K rb sb cb ab n seen cost last nw) : w.cell? ⟨rb, 0, none⟩ = some (.slice (some ⟨sb, 0, none⟩) n n) := h.rr.cell (i := 0) (by omega)
theorem Ways.c1 (h : Ways w K rb sb cb ab n seen cost last nw) : w.cell? ⟨rb, 1, none⟩ = some (.slice (some ⟨cb, 0, none⟩) n n) := h.rr.cell (i := 1) (by omega)
theorem Ways.c2 (h : Ways w K rb sb cb ab n seen cost last nw) : w.cell? ⟨rb, 2, none⟩ = some (.slice (some ⟨ab, 0, none⟩) n n) := h.rr.cell (i := 2) (by omega)
theorem Ways.c3 (h : Ways w K rb sb cb ab n seen cost last nw) : w.cell? ⟨rb, 3, none⟩ = some (.int .i64 nw) := h.rr.cell (i := 3) (by omega)
theorem Ways.setNew (h : Ways w K rb sb cb ab n seen cost last nw) (x : Int) : Ways (w.setCell ⟨rb, 3, none⟩ (.int .i64 x)) K rb sb cb ab n seen cost last x := by
  obtain ⟨n1, n2, n3, n4, n5, n6⟩ := h.ne
  refine ⟨(h.rr.set 3 _).congr ?_, h.rs.setOther n1.symm _, h.rc.setOther n2.symm _, h.ra.setOther n3.symm _, h.lo, h.ne⟩
  intro i hi
  unfold wFs
  by_cases e : i = 3
  · subst e; simp
  · rw [if_neg e]
    by_cases e0 : i = 0
    · rw [if_pos e0, if_pos e0]
    · by_cases e1 : i = 1
      · rw [if_neg e0, if_neg e0, if_pos e1, if_pos e1]
      · rw [if_neg e0, if_neg e0, if_neg e1, if_neg e1, if_pos (by omega), if_pos (by omega)]
theorem Ways.setSeen (h : Ways w K rb sb cb ab n seen cost last nw) (v : Nat) (x : Bool) : Ways (w.setCell ⟨sb, v, none⟩ (.bool x)) K rb sb cb ab n (upd seen v x) cost last nw := by
  obtain ⟨n1, n2, n3, n4, n5, n6⟩ := h.ne
  exact ⟨h.rr.setOther n1 _, (h.rs.set v _).congr (fun i _ => by unfold upd; split <;> rfl), h.rc.setOther n4.symm _, h.ra.setOther n5.symm _, h.lo, h.ne⟩
theorem Ways.setCost (h : Ways w K rb sb cb ab n seen cost last nw) (v : Nat) (x : Int) : Ways (w.setCell ⟨cb, v, none⟩ (.int .i64 x)) K rb sb cb ab n seen (upd cost v x) last nw := by
  obtain ⟨n1, n2, n3, n4, n5, n6⟩ := h.ne
  exact ⟨h.rr.setOther n2 _, h.rs.setOther n4 _, (h.rc.set v _).congr (fun i _ => by unfold upd; split <;> rfl), h.ra.setOther n6.symm _, h.lo, h.ne⟩
theorem Ways.setLast (h : Ways w K rb sb cb ab n seen cost last nw) (v : Nat) (s : St) : Ways ((w.setCell ⟨ab, v * 2, none⟩ (.int .i64 s.arc)).setCell ⟨ab, v * 2 + 1, none⟩ (.bool s.back)) K rb sb cb ab n seen cost (upd last v s) nw := by
  obtain ⟨n1, n2, n3, n4, n5, n6⟩ := h.ne
  refine ⟨(h.rr.setOther n3 _).setOther n3 _, (h.rs.setOther n5 _).setOther n5 _, (h.rc.setOther n6 _).setOther n6 _, ((h.ra.set (v * 2) _).set (v * 2 + 1) _).congr ?_, h.lo, h.ne⟩
  intro i hi
  unfold lastF upd
  by_cases e1 : i = v * 2 + 1
  · subst e1
    rw [if_pos rfl, if_neg (by omega), if_pos (by omega)]
  · by_cases e2 : i = v * 2
    · subst e2
      rw [if_neg e1, if_pos rfl, if_pos (by omega), if_pos (by omega)]
    · rw [if_neg e1, if_neg e2, if_neg (show ¬ i / 2 = v by omega)]
end

/-- What a step leaves behind. -/
def Gone (es : List A5) (fl : List Int) (n : Nat) (S : Nat → Bool) (K rb sb cb ab : Nat) (c r : Nat) (done : St → Prop) (more : Nat) (w w' : World) : Prop :=
  ∃ seen cost last T R c' nw, Ways w' K rb sb cb ab n seen cost last nw ∧ WInv es fl n S seen cost last T R c' r done ∧ New n R r nw ∧ c' ≤ c + more ∧ Below K w w'

theorem WInv.mono {es : List A5} {fl : List Int} {n : Nat} {S seen : Nat → Bool} {cost : Nat → Int} {last : Nat → St} {T R : Nat → Nat} {c r : Nat} {done done' : St → Prop} (h : WInv es fl n S seen cost last T R c r done) (hd : ∀ s, done' s → done s) : WInv es fl n S seen cost last T R c r done' :=
  ⟨h.start, h.root, h.way, h.time, h.rnd, h.bd, h.arcs, fun s h1 h2 h3 h4 => h.sat s h1 h2 h3 (h4.imp id fun h => ⟨h.1, hd s h.2⟩)⟩
theorem New.upd {n : Nat} {R : Nat → Nat} {r : Nat} (v : Nat) (hv : v < n) : New n (upd R v r) r (v : Int) := .inr ⟨v, hv, rfl, upd_same _ _ _⟩

set_option maxHeartbeats 4000000 in
theorem rGoOn_any (K rb sb cb ab n : Nat) (S seen : Nat → Bool) (cost : Nat → Int) (last : Nat → St) (nw : Int) (T R : Nat → Nat) (c r : Nat) (done : St → Prop) (lb fb vb : Nat) (sa aa : Option Addr) (sn sc an ac : Nat) (xs fl lf : List Int) (es : List A5) (a : Nat) (bk : Bool) (w : World)
    (hn : NetOK xs es) (hxn : xs.length = n) (hL : Load w lb fb vb sa sn sc aa an ac fl lf) (hlk : lb < K ∧ fb < K ∧ vb < K) (he : Arcs w aa an es) (hm : Mild fl es.length) (hrm : ∀ s : St, s.arc < es.length → 0 ≤ roomOf es fl s) (hKw : K ≤ w.heap.size)
    (hW : Ways w K rb sb cb ab n seen cost last nw) (hI : WInv es fl n S seen cost last T R c r done) (hN : New n R r nw) (hr1 : 1 ≤ r) (hc : c ≤ 1000) (ha : a < an) :
    Calls Try.prog 90 #[.pointer (some ⟨lb, 0, none⟩), .pointer (some ⟨rb, 0, none⟩), .agg #[.int .i64 a, .bool bk]] w fun e w' => e = .returned (.tuple #[]) ∧
      Gone es fl n S K rb sb cb ab c r (fun x => done x ∨ x = ⟨a, bk⟩) 1 w w' := by
  have hael : a < es.length := by rw [he.len]; exact ha
  obtain ⟨e1, e2, hsl, hdl⟩ := st_ends hn (s := ⟨a, bk⟩) hael
  rw [hxn] at hsl hdl
  have hroom := hrm ⟨a, bk⟩ hael
  have hok := hn.arc a hael
  have hpr := price_bd hn ⟨a, bk⟩
  have hcb := cost_bd1 hn a
  have hfa := hm a hael
  have stay : Hid (∀ w', Below w.heap.size w w' → (seen ((St.mk a bk).srcN es) = true → 0 < roomOf es fl ⟨a, bk⟩ → Sat es seen cost ⟨a, bk⟩) → Gone es fl n S K rb sb cb ab c r (fun x => done x ∨ x = ⟨a, bk⟩) 1 w w') :=
    fun w' hb hP => ⟨seen, cost, last, T, R, c, nw, hW.grow hb, hI.pass ⟨a, bk⟩ hP, hN, by omega, hb.mono hKw⟩
  have go : Hid (∀ w', Ways w' K rb sb cb ab n (upd seen ((St.mk a bk).dstN es) true) (upd cost ((St.mk a bk).dstN es) (cost ((St.mk a bk).srcN es) + priceOf es ⟨a, bk⟩)) (upd last ((St.mk a bk).dstN es) ⟨a, bk⟩) ((St.mk a bk).dstN es : Int) → Below K w w' → 0 < roomOf es fl ⟨a, bk⟩ → seen ((St.mk a bk).srcN es) = true → ¬ Sat es seen cost ⟨a, bk⟩ → Gone es fl n S K rb sb cb ab c r (fun x => done x ∨ x = ⟨a, bk⟩) 1 w w') :=
    fun w' hW' hb h1 h2 h3 => ⟨_, _, _, _, _, c + 1, _, hW', hI.relax hn hxn hr1 ⟨a, bk⟩ hael h1 h2 h3, New.upd _ hdl, Nat.le_refl _, hb⟩
  have hcu := hI.bd _ hsl
  have hcv := hI.bd _ hdl
  obtain ⟨u, hu⟩ : ∃ u, (St.mk a bk).srcN es = u := ⟨_, rfl⟩
  obtain ⟨v, hv⟩ : ∃ v, (St.mk a bk).dstN es = v := ⟨_, rfl⟩
  obtain ⟨rm, hrm'⟩ : ∃ r, roomOf es fl ⟨a, bk⟩ = r := ⟨_, rfl⟩
  obtain ⟨pr, hpr'⟩ : ∃ r, priceOf es ⟨a, bk⟩ = r := ⟨_, rfl⟩
  have cE : n0 (∀ w0, Load w0 lb fb vb sa sn sc aa an ac fl lf → Arcs w0 aa an es → Calls Try.prog 87 #[.pointer (some ⟨lb, 0, none⟩), .agg #[.int .i64 a, .bool bk]] w0 fun e w' => e = .returned (.tuple #[.int .i64 (u : Int), .int .i64 (v : Int)]) ∧ Below w0.heap.size w0 w') :=
    fun w0 h1 h2 => by rw [← hu, ← hv, ← e1, ← e2]; exact rEnds_any lb fb vb sa aa sn sc an ac fl lf es a bk w0 h1 h2 ha
  have cR : n0 (∀ w0, Load w0 lb fb vb sa sn sc aa an ac fl lf → Arcs w0 aa an es → Calls Try.prog 89 #[.pointer (some ⟨lb, 0, none⟩), .agg #[.int .i64 a, .bool bk]] w0 fun e w' => e = .returned (.int .i64 rm) ∧ Below w0.heap.size w0 w') :=
    fun w0 h1 h2 => by rw [← hrm']; exact rRoom_any lb fb vb sa aa sn sc an ac fl lf es a bk _ w0 h1 h2 ha hok hfa
  have cP : n0 (∀ w0, Load w0 lb fb vb sa sn sc aa an ac fl lf → Arcs w0 aa an es → Calls Try.prog 92 #[.pointer (some ⟨lb, 0, none⟩), .agg #[.int .i64 a, .bool bk]] w0 fun e w' => e = .returned (.int .i64 pr) ∧ Below w0.heap.size w0 w') :=
    fun w0 h1 h2 => by rw [← hpr']; exact rPrice_any lb fb vb sa aa sn sc an ac fl lf es a bk w0 h1 h2 ha hcb
  unfold Sat at stay go
  rw [hu, hv, hrm', hpr'] at stay go
  rw [hu] at hsl hcu
  rw [hv] at hdl hcv
  rw [hrm'] at hroom
  rw [hpr'] at hpr
  have HL := hide hL
  have HE := hide he
  have HW := hide hW
  have hbox : Below w.heap.size w (w.alloc (.cells #[.int .i64 a, .bool bk] 86)) := Joins.below_alloc1 _ _
  clear hL he hW hI hN hu hv hrm' hpr' e1 e2 hok hfa hm hrm hn hcb
  go_enter Try.func90, Try.ntmps90
  go_wp2_with fail
  refine (cE.out _ (HL.out.grow hbox) (HE.out.below hbox)).mono ?_
  rintro e w1 ⟨rfl, hb1⟩
  have d0 : w1.cell? ⟨w.heap.size, 0, none⟩ = some (.int .i64 a) := (hb1.cell (by simp)).trans (by go_simp)
  have d1 : w1.cell? ⟨w.heap.size, 1, none⟩ = some (.bool bk) := (hb1.cell (by simp)).trans (by go_simp)
  have hs1 : w.heap.size < w1.heap.size := by have := hb1.size; simp at this; omega
  have hB1 : Below w.heap.size w w1 := hbox.trans (hb1.mono (by simp))
  clear hb1 cE hbox
  have hW1 := HW.out.grow hB1
  have k0 := hW1.c0
  have cs := hW1.rs.cell hsl
  have hu2 : (u : Int) < (n : Int) := by omega
  have hv2 : (v : Int) < (n : Int) := by omega
  cases hsu : seen u with
  | false =>
    rw [hsu] at cs
    clear hW1
    go_wp2
    (try simp only [Exit.inBlock, Exit.then]); refine bodyPost_ret (results_none rfl _ _ _) rfl ?_
    exact ⟨rfl, stay.out _ hB1 (fun h => by rw [hsu] at h; cases h)⟩
  | true =>
    rw [hsu] at cs
    have HSU := hide hsu
    clear hsu hW1
    go_wp2_with fail
    refine (cR.out _ (HL.out.grow hB1) (HE.out.below hB1)).mono ?_
    rintro e w2 ⟨rfl, hb2⟩
    have hB2 : Below w.heap.size w w2 := hB1.trans (hb2.mono hB1.size)
    have e0 := (hb2.cell (p := ⟨w.heap.size, 0, none⟩) hs1).trans d0
    have e1 := (hb2.cell (p := ⟨w.heap.size, 1, none⟩) hs1).trans d1
    have hs2 : w.heap.size < w2.heap.size := Nat.lt_of_lt_of_le hs1 hb2.size
    clear hb2 cR k0 cs d0 d1 hB1
    by_cases hr0 : rm = 0
    · subst hr0
      go_wp2
      (try simp only [Exit.inBlock, Exit.then]); refine bodyPost_ret (results_none rfl _ _ _) rfl ?_
      exact ⟨rfl, stay.out _ hB2 (fun _ h => by omega)⟩
    · have hrb : (rm == 0) = false := by simpa using hr0
      have HR0 : Hid (0 < rm) := by show 0 < rm; omega
      have hW2 := HW.out.grow hB2
      have k1 := hW2.c1
      have cc := hW2.rc.cell hsl
      obtain ⟨cu, hcu'⟩ : ∃ x, cost u = x := ⟨_, rfl⟩
      rw [hcu'] at cc hcu
      have HCU := hide hcu'
      obtain ⟨u1, u2⟩ := hcu
      obtain ⟨p1, p2⟩ := hpr
      have hb5 : -60000 ≤ cu := by omega
      have hb6 : cu ≤ 60000 := by omega
      have HL2 := hide (HL.out.grow hB2)
      have HE2 := hide (HE.out.below hB2)
      have hbv : -60000 ≤ cost v ∧ cost v ≤ 60000 := by omega
      clear hr0 hcu' hW2 hcv u1 u2
      have cQ : ∀ d' os, Calls Try.prog 92 #[.pointer (some ⟨lb, 0, none⟩), .agg #[.int .i64 a, .bool bk]] (Sort.grow (redrawn w2 d') os) fun e w'' => e = .returned (.int .i64 pr) ∧ ∃ p : Regrown, w'' = Sort.grow (redrawn w2 p.d) p.os :=
        fun d' os => Calls.regrown_of (cP.out _ (HL2.out.grow (below_regrown w2 d' os)) (HE2.out.below (below_regrown w2 d' os)))
      have r1 := cell_regrown (w := w2) (a := ⟨rb, 1, none⟩) k1
      have r2 := cell_regrown (w := w2) (a := ⟨cb, u, none⟩) cc
      have r3 := cell_regrown (w := w2) (a := ⟨w.heap.size, 0, none⟩) e0
      have r4 := cell_regrown (w := w2) (a := ⟨w.heap.size, 1, none⟩) e1
      clear cP HL2 HE2
      go_wp2_with fail
      refine wp_region_quiet_below (by kernel_rfl) (by kernel_rfl) ?_
      repeat (quiet_step (first | exact cQ _ _))
      refine wpQuiet_nil ?_
      intro _ hw'
      obtain ⟨⟨dq, osq⟩, hw''⟩ := hw'
      subst hw''
      have hbr := below_regrown w2 dq osq
      generalize Sort.grow (redrawn w2 dq) osq = w3 at *
      clear cQ r1 r2 r3 r4
      have g0 := (hbr.cell (p := ⟨w.heap.size, 0, none⟩) hs2).trans e0
      have g1 := (hbr.cell (p := ⟨w.heap.size, 1, none⟩) hs2).trans e1
      have hB3 : Below w.heap.size w w3 := hB2.trans (hbr.mono hB2.size)
      clear hbr e0 e1 k1 cc hB2
      have hW3 := HW.out.grow hB3
      have m0 := hW3.c0
      have cs := hW3.rs.cell hdl
      have hlo := hW3.lo
      have fs := hW3.rs.frozen v
      have m1 := hW3.c1
      have cv := hW3.rc.cell hdl
      obtain ⟨lv, hlv⟩ : ∃ x, cost v = x := ⟨_, rfl⟩
      rw [hlv] at cv hbv
      obtain ⟨v1, v2⟩ := hbv
      have HLV := hide hlv
      clear hlv
      obtain ⟨nc, hnc⟩ : ∃ x, cu + pr = x := ⟨_, rfl⟩
      have n1 : -61000 ≤ nc := by omega
      have n2 : nc ≤ 61000 := by omega
      rw [HCU.out, hnc] at go
      rw [HCU.out, hnc] at stay
      rw [HLV.out] at stay go
      by_cases hsat : seen v = true ∧ lv ≤ nc
      · obtain ⟨hsv, hle⟩ := hsat
        have HSV := hide hsv
        rw [hsv] at cs
        clear hsv hW3
        have hled : decide (lv ≤ nc) = true := decide_eq_true hle
        rw [hnc]
        clear hnc
        go_wp2
        (try simp only [Exit.inBlock, Exit.then]); refine bodyPost_ret (results_none rfl _ _ _) rfl ?_
        exact ⟨rfl, stay.out _ hB3 (fun _ _ => ⟨HSV.out, hle⟩)⟩
      · have HNS := hide hsat
        have hA1 := hW3.setSeen v true
        have m1b := hA1.c1
        have cvb := hA1.rc.cell hdl
        have fvb := hA1.rc.frozen v
        have hA2 := hA1.setCost v nc
        have m2b := hA2.c2
        have cab1 := hA2.ra.cell (i := v * 2) (by omega)
        have cab2 := hA2.ra.cell (i := v * 2 + 1) (by omega)
        rw [lastEven] at cab1
        rw [lastOdd] at cab2
        have fab1 := hA2.ra.frozen (v * 2)
        have fab2 := hA2.ra.frozen (v * 2 + 1)
        have hA3 := (hA2.setLast v ⟨a, bk⟩).grow (w' := ((((w3.setCell ⟨sb, v, none⟩ (.bool true)).setCell ⟨cb, v, none⟩ (.int .i64 nc)).setCell ⟨ab, v * 2, none⟩ (.int .i64 a)).setCell ⟨ab, v * 2 + 1, none⟩ (.bool bk)).drew) ((Below.refl _ _).drew)
        have hA3c := hA3.rr.cell (i := 3) (by omega)
        have hA3f := hA3.rr.frozen 3
        have hA4 := hA3.setNew (v : Int)
        have hB4 : Below K w ((((((w3.setCell ⟨sb, v, none⟩ (.bool true)).setCell ⟨cb, v, none⟩ (.int .i64 nc)).setCell ⟨ab, v * 2, none⟩ (.int .i64 a)).setCell ⟨ab, v * 2 + 1, none⟩ (.bool bk)).drew).setCell ⟨rb, 3, none⟩ (.int .i64 (v : Int))) :=
          ((((((hB3.mono hKw).setCell (p := ⟨sb, v, none⟩) hlo.2.1 _).setCell (p := ⟨cb, v, none⟩) hlo.2.2.1 _).setCell (p := ⟨ab, v * 2, none⟩) hlo.2.2.2 _).setCell (p := ⟨ab, v * 2 + 1, none⟩) hlo.2.2.2 _).drew).setCell (p := ⟨rb, 3, none⟩) hlo.1 _
        have hne := hW3.ne
        have g0b : ((w3.setCell ⟨sb, v, none⟩ (.bool true)).setCell ⟨cb, v, none⟩ (.int .i64 nc)).cell? ⟨w.heap.size, 0, none⟩ = some (.int .i64 a) := ((set_blk (by have := HW.out.rc.lt; omega)).trans (set_blk (by have := HW.out.rs.lt; omega))).trans g0
        have g1b : ((w3.setCell ⟨sb, v, none⟩ (.bool true)).setCell ⟨cb, v, none⟩ (.int .i64 nc)).cell? ⟨w.heap.size, 1, none⟩ = some (.bool bk) := ((set_blk (by have := HW.out.rc.lt; omega)).trans (set_blk (by have := HW.out.rs.lt; omega))).trans g1
        have HFIN := hide (go.out _ hA4 hB4 HR0.out HSU.out HNS.out)
        clear hW3 hA1 hA2 hA3 hA4 hB4 go stay HNS HW HL HE
        rw [hnc]
        clear hnc
        cases hsv : seen v with
        | true =>
          have hled : decide (lv ≤ nc) = false := decide_eq_false (fun h => hsat ⟨hsv, h⟩)
          rw [hsv] at cs
          clear hsat hsv
          go_wp2
          go_region
          go_wp2
          go_end0
          exact ⟨rfl, HFIN.out⟩
        | false =>
          rw [hsv] at cs
          clear hsat hsv
          go_wp2
          go_region
          go_wp2
          go_end0
          exact ⟨rfl, HFIN.out⟩
end Go.Proofs.Ytampcheafdlomaa
