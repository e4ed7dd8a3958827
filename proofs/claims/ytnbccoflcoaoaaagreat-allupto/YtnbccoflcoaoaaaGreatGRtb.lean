import Derived.Test.YtnbccoflcoaoaaaGreatGRta
import Derived.Test.YtnbccoflcoaoaaaGreatGSol
import Derived.BigRegion
import Derived.Deep.RegionWith
import Derived.Test.YtnbccoflcoaoaaaGreatGBas
namespace Go.Proofs.YtnbccoflcoaoaaaGreat
open Go.RowKit Go.Deep
set_option linter.unusedSimpArgs false
set_option linter.unusedVariables false

theorem grown_row {w w' : World} {row : Option Nat} (h : w.grownBy w' row) {b : Nat} {t : TypeId} {n : Nat} {f : Nat → Value} (hr : w.rowIs b t n f) (hne : some b ≠ row) : w'.rowIs b t n f := hr.of_block (h.block b hr.lt hne)
theorem below_row {w w' : World} {K : Nat} (h : Below K w w') {b : Nat} {t : TypeId} {n : Nat} {f : Nat → Value} (hr : w.rowIs b t n f) (hb : b < K) : w'.rowIs b t n f := hr.of_block (h.block b hb)
theorem below_blk {w w' : World} {K : Nat} (h : Below K w w') {b o : Nat} (hb : b < K) : w'.cell? ⟨b, o, none⟩ = w.cell? ⟨b, o, none⟩ := h.cell (p := ⟨b, o, none⟩) hb

/-- A load's memory: the struct at lb, its flow at fb, what is left at vb. -/
structure Load (w : World) (lb fb vb : Nat) (sa : Option Addr) (sn sc : Nat) (aa : Option Addr) (an ac : Nat) (fl lf : List Int) : Prop where
  c0 : w.cell? ⟨lb, 0, none⟩ = some (.slice sa sn sc)
  c1 : w.cell? ⟨lb, 1, none⟩ = some (.slice aa an ac)
  c2 : w.cell? ⟨lb, 2, none⟩ = some (.slice (some ⟨fb, 0, none⟩) an an)
  c3 : w.cell? ⟨lb, 3, none⟩ = some (.slice (some ⟨vb, 0, none⟩) sn sn)
  rf : w.rowIs fb 3 an (fun i => .int .i64 (fl.getD i 0))
  rl : w.rowIs vb 3 sn (fun i => .int .i64 (lf.getD i 0))
  lt : lb < w.heap.size
  ne : lb ≠ fb ∧ lb ≠ vb ∧ fb ≠ vb

theorem Load.below {w w' : World} {lb fb vb : Nat} {sa : Option Addr} {sn sc : Nat} {aa : Option Addr} {an ac : Nat} {fl lf : List Int} (h : Load w lb fb vb sa sn sc aa an ac fl lf) {K : Nat} (hb : Below K w w') (h1 : lb < K) (h2 : fb < K) (h3 : vb < K) :
    Load w' lb fb vb sa sn sc aa an ac fl lf :=
  ⟨(below_blk hb h1).trans h.c0, (below_blk hb h1).trans h.c1, (below_blk hb h1).trans h.c2, (below_blk hb h1).trans h.c3, below_row hb h.rf h2, below_row hb h.rl h3, Nat.lt_of_lt_of_le h.lt hb.size, h.ne⟩
theorem Load.flt {w : World} {lb fb vb : Nat} {sa : Option Addr} {sn sc : Nat} {aa : Option Addr} {an ac : Nat} {fl lf : List Int} (h : Load w lb fb vb sa sn sc aa an ac fl lf) : fb < w.heap.size ∧ vb < w.heap.size := ⟨h.rf.lt, h.rl.lt⟩
theorem Load.grow {w w' : World} {lb fb vb : Nat} {sa : Option Addr} {sn sc : Nat} {aa : Option Addr} {an ac : Nat} {fl lf : List Int} (h : Load w lb fb vb sa sn sc aa an ac fl lf) (hb : Below w.heap.size w w') :
    Load w' lb fb vb sa sn sc aa an ac fl lf := h.below hb h.lt h.flt.1 h.flt.2

theorem set_blk {w : World} {b b' o o' : Nat} {u : Value} (h : b ≠ b') : (w.setCell ⟨b', o', none⟩ u).cell? ⟨b, o, none⟩ = w.cell? ⟨b, o, none⟩ := World.cell?_of_block (Below.heap_setCell _ _ _ _ h)

/-- A number of the flow is written. -/
theorem Load.setFlow {w : World} {lb fb vb : Nat} {sa : Option Addr} {sn sc : Nat} {aa : Option Addr} {an ac : Nat} {fl lf : List Int} (h : Load w lb fb vb sa sn sc aa an ac fl lf) {a : Nat} (ha : a < an) (hl : fl.length = an) (d : Int) :
    Load (w.setCell ⟨fb, a, none⟩ (.int .i64 (fl.getD a 0 + d))) lb fb vb sa sn sc aa an ac (addAt fl a d) lf := by
  obtain ⟨n1, n2, n3⟩ := h.ne
  refine ⟨(set_blk n1).trans h.c0, (set_blk n1).trans h.c1, (set_blk n1).trans h.c2, (set_blk n1).trans h.c3, (h.rf.set a _).congr ?_, h.rl.setOther (fun e => n3 e.symm) _, by have := h.lt; simpa [World.setCell] using this, h.ne⟩
  intro i hi
  rw [addAt_at _ _ _ _ (by omega)]
  split <;> rfl
theorem Load.setLeft {w : World} {lb fb vb : Nat} {sa : Option Addr} {sn sc : Nat} {aa : Option Addr} {an ac : Nat} {fl lf : List Int} (h : Load w lb fb vb sa sn sc aa an ac fl lf) {a : Nat} (ha : a < sn) (hl : lf.length = sn) (d : Int) :
    Load (w.setCell ⟨vb, a, none⟩ (.int .i64 (lf.getD a 0 + d))) lb fb vb sa sn sc aa an ac fl (addAt lf a d) := by
  obtain ⟨n1, n2, n3⟩ := h.ne
  refine ⟨(set_blk n2).trans h.c0, (set_blk n2).trans h.c1, (set_blk n2).trans h.c2, (set_blk n2).trans h.c3, h.rf.setOther n3 _, (h.rl.set a _).congr ?_, by have := h.lt; simpa [World.setCell] using this, h.ne⟩
  intro i hi
  rw [addAt_at _ _ _ _ (by omega)]
  split <;> rfl

set_option maxHeartbeats 1000000 in
theorem rEnds_any (lb fb vb : Nat) (sa aa : Option Addr) (sn sc an ac : Nat) (fl lf : List Int) (es : List A5) (a : Nat) (bk : Bool) (w : World) (hL : Load w lb fb vb sa sn sc aa an ac fl lf) (he : Arcs w aa an es) (ha : a < an) :
    Calls Tryz.prog 106 #[.pointer (some ⟨lb, 0, none⟩), .agg #[.int .i64 a, .bool bk]] w fun e w' => e = .returned (.tuple #[.int .i64 ((St.mk a bk).src es), .int .i64 ((St.mk a bk).dst es)]) ∧ Below w.heap.size w w' := by
  have k1 := hL.c1
  have hlt := hL.lt
  obtain ⟨b, off, f, t, l, c, q, rfl, hA, hb, e0, e1, e2, e3, e4⟩ := he.get ha
  have hS : Hid ((St.mk a bk).src es = (if bk = true then t else f) ∧ (St.mk a bk).dst es = (if bk = true then f else t)) := by
    simp only [Hid, St.src, St.dst, hA]; exact ⟨trivial, trivial⟩
  clear hL he hA
  have ha2 : (a : Int) < (an : Int) := by omega
  go_enter Tryz.func106, Tryz.ntmps106
  rw [hS.out.1, hS.out.2]
  clear hS
  go_wp2
  go_region
  cases bk with
  | true =>
    go_wp2
    go_region
    go_wp2
    go_ret2
    exact ⟨rfl, ((Joins.below_alloc2 _ _ _).drew).drew⟩
  | false =>
    go_wp2
    go_region
    go_wp2
    go_ret2
    exact ⟨rfl, ((Joins.below_alloc2 _ _ _).drew).drew⟩

set_option maxHeartbeats 2000000 in
theorem rRoom_any (lb fb vb : Nat) (sa aa : Option Addr) (sn sc an ac : Nat) (fl lf : List Int) (es : List A5) (a : Nat) (bk : Bool) (m : Int) (w : World) (hL : Load w lb fb vb sa sn sc aa an ac fl lf) (he : Arcs w aa an es) (ha : a < an) (hok : arcB (es.getD a zA) m = true) (hfl : 0 ≤ fl.getD a 0 ∧ fl.getD a 0 ≤ 1000000) :
    Calls Tryz.prog 109 #[.pointer (some ⟨lb, 0, none⟩), .agg #[.int .i64 a, .bool bk]] w fun e w' => e = .returned (.int .i64 (roomOf es fl ⟨a, bk⟩)) ∧ Below w.heap.size w w' := by
  have k1 := hL.c1
  have k2 := hL.c2
  have hlt := hL.lt
  have cf := hL.rf.cell ha
  have hfb := hL.flt.1
  obtain ⟨b, off, f, t, l, c, q, rfl, hA, hb, e0, e1, e2, e3, e4⟩ := he.get ha
  have hok2 := arcB_out hok
  have hS : Hid (roomOf es fl ⟨a, bk⟩ = (if bk = true then fl.getD a 0 - l else if c = -1 then 1000000 - fl.getD a 0 else c - fl.getD a 0)) := by
    simp only [Hid, roomOf, hA]
  rw [hA] at hok2
  simp only [] at hok2
  clear hL he hA hok
  generalize fl.getD a 0 = x at *
  obtain ⟨hx0, hx1⟩ := hfl
  have hl0 : 0 ≤ l := by omega
  have hl1 : l ≤ 60 := by omega
  have hc0 : -1 ≤ c := by omega
  have hc1 : c ≤ 60 := by omega
  clear hok2
  have ha2 : (a : Int) < (an : Int) := by omega
  go_enter Tryz.func109, Tryz.ntmps109
  rw [hS.out]
  clear hS
  go_wp2
  go_region
  cases bk with
  | true =>
    go_wp2
    go_ret
    exact ⟨rfl, (Joins.below_alloc2 _ _ _).drew⟩
  | false =>
    have cU : n0 (∀ w0, Calls Tryz.prog 68 #[.agg #[.int .i64 f, .int .i64 t, .int .i64 l, .int .i64 c, .int .i64 q]] w0 fun e w' => e = .returned (.bool (c == -1)) ∧ Below w0.heap.size w0 w') := fun w0 => gUnlimited_any f t l c q w0
    go_wp2_with fail
    refine (cU.out _).mono ?_
    rintro e w1 ⟨rfl, hb1⟩
    have hB : Below w.heap.size w w1 := ((Joins.below_alloc2 _ _ _).drew).trans (hb1.mono (by simp; omega))
    have d3 := (hb1.cell (p := ⟨w.heap.size + 1, 3, none⟩) (by simp)).trans (show _ = some (Value.int .i64 c) by go_simp)
    clear hb1 e0 e1 e2 e3 e4 k1 k2 cU cf
    by_cases hcc : c = -1
    · subst hcc
      go_wp2
      go_ret
      exact ⟨rfl, hB⟩
    · have hcb : (c == -1) = false := by simpa using hcc
      have HC := hide hcc
      clear hcc
      go_wp2
      go_ret
      exact ⟨rfl, hB⟩


/-- What is left stays what is left of the flow; two blocks are written. -/
theorem Load.take {w : World} {lb fb vb : Nat} {sa : Option Addr} {sn sc : Nat} {aa : Option Addr} {an ac : Nat} {xs fl : List Int} {es : List A5} (hn : NetW xs es) (hxn : xs.length = sn) (hen : es.length = an) (hl : fl.length = an) (h : Load w lb fb vb sa sn sc aa an ac fl (leftOf xs es fl)) (s : St) (hs : s.arc < an) (x : Int) :
    Load (((w.setCell ⟨vb, s.srcN es, none⟩ (.int .i64 ((leftOf xs es fl).getD (s.srcN es) 0 - x))).setCell ⟨vb, s.dstN es, none⟩ (.int .i64 ((addAt (leftOf xs es fl) (s.srcN es) (-x)).getD (s.dstN es) 0 + x))).setCell ⟨fb, s.arc, none⟩ (.int .i64 (fl.getD s.arc 0 + stD s x))) lb fb vb sa sn sc aa an ac (addAt fl s.arc (stD s x)) (leftOf xs es (addAt fl s.arc (stD s x))) := by
  subst hxn hen
  obtain ⟨-, -, hsl, hdl⟩ := st_ends hn hs
  have h1 := h.setLeft hsl (leftOf_len _ _ _) (-x)
  rw [← Int.sub_eq_add_neg] at h1
  have h2 := h1.setLeft hdl (by rw [addAt_len, leftOf_len]) x
  rw [leftOf_take hn hl hs] at h2
  exact h2.setFlow hs hl _

set_option maxHeartbeats 2000000 in
theorem rPrice_any (lb fb vb : Nat) (sa aa : Option Addr) (sn sc an ac : Nat) (fl lf : List Int) (es : List A5) (a : Nat) (bk : Bool) (w : World) (hL : Load w lb fb vb sa sn sc aa an ac fl lf) (he : Arcs w aa an es) (ha : a < an) (hc : -50 ≤ (es.getD a zA).cost ∧ (es.getD a zA).cost ≤ 50) :
    Calls Tryz.prog 118 #[.pointer (some ⟨lb, 0, none⟩), .agg #[.int .i64 a, .bool bk]] w fun e w' => e = .returned (.int .i64 (priceOf es ⟨a, bk⟩)) ∧ Below w.heap.size w w' := by
  have k1 := hL.c1
  have hlt := hL.lt
  obtain ⟨b, off, f, t, l, c, q, rfl, hA, hb, e0, e1, e2, e3, e4⟩ := he.get ha
  have hS : Hid (priceOf es ⟨a, bk⟩ = (if bk = true then -q else q)) := by simp only [Hid, priceOf, hA]
  rw [hA] at hc
  simp only [] at hc
  obtain ⟨q1, q2⟩ := hc
  clear hL he hA
  have ha2 : (a : Int) < (an : Int) := by omega
  go_enter Tryz.func118, Tryz.ntmps118
  rw [hS.out]
  clear hS
  go_wp2
  go_region
  cases bk with
  | true =>
    go_wp2
    go_ret
    exact ⟨rfl, (Joins.below_alloc1 _ _).drew⟩
  | false =>
    go_wp2
    go_ret
    exact ⟨rfl, (Joins.below_alloc1 _ _).drew⟩

end Go.Proofs.YtnbccoflcoaoaaaGreat

namespace Go.Proofs.YtnbccoflcoaoaaaGreat
open Go.RowKit Go.Deep
set_option linter.unusedSimpArgs false
set_option linter.unusedVariables false

theorem grown_set (w : World) (b o : Nat) (u : Value) : w.grownBy (w.setCell ⟨b, o, none⟩ u) (some b) :=
  ⟨rfl, rfl, rfl, by simp [World.setCell], fun k hk hne => Below.heap_setCell _ _ _ _ (fun e => hne (by rw [e]))⟩

set_option maxHeartbeats 4000000 in
theorem rTake_any (lb fb vb : Nat) (sa aa : Option Addr) (sn sc an ac : Nat) (xs fl : List Int) (es : List A5) (a : Nat) (bk : Bool) (x : Int) (w : World) (hn : NetW xs es) (hxn : xs.length = sn) (hL : Load w lb fb vb sa sn sc aa an ac fl (leftOf xs es fl)) (he : Arcs w aa an es) (hl : fl.length = an) (ha : a < an) (hm : Mild fl es.length) (hx : 0 ≤ x ∧ x ≤ 1000000) :
    Calls Tryz.prog 86 #[.pointer (some ⟨lb, 0, none⟩), .agg #[.int .i64 a, .bool bk], .int .i64 x] w fun e w' => e = .returned (.tuple #[]) ∧ Load w' lb fb vb sa sn sc aa an ac (addAt fl a (stD ⟨a, bk⟩ x)) (leftOf xs es (addAt fl a (stD ⟨a, bk⟩ x))) ∧ ∃ w1 w2, Below w.heap.size w w1 ∧ w1.grownBy w2 (some vb) ∧ w2.grownBy w' (some fb) := by
  have hen := he.len
  obtain ⟨e1, e2, hsl, hdl⟩ := st_ends hn (s := ⟨a, bk⟩) (show a < es.length by omega)
  have hfa := hm a (by omega)
  have hbs := leftOf_bd hn hm ((St.mk a bk).srcN es)
  have hbd := leftOf_bd hn hm ((St.mk a bk).dstN es)
  have HT : Hid (∀ w0, Load w0 lb fb vb sa sn sc aa an ac fl (leftOf xs es fl) → _) := fun w0 h0 => Load.take hn hxn hen hl h0 ⟨a, bk⟩ ha x
  have hdv : Hid ((addAt (leftOf xs es fl) ((St.mk a bk).srcN es) (-x)).getD ((St.mk a bk).dstN es) 0 = if (St.mk a bk).dstN es = (St.mk a bk).srcN es then (leftOf xs es fl).getD ((St.mk a bk).srcN es) 0 - x else (leftOf xs es fl).getD ((St.mk a bk).dstN es) 0) := by
    show _ = _
    rw [addAt_at _ _ _ _ (by rw [leftOf_len]; exact hsl)]
    split <;> omega
  have cE : n0 (∀ w0, Load w0 lb fb vb sa sn sc aa an ac fl (leftOf xs es fl) → Arcs w0 aa an es → Calls Tryz.prog 106 #[.pointer (some ⟨lb, 0, none⟩), .agg #[.int .i64 a, .bool bk]] w0 fun e w' => e = .returned (.tuple #[.int .i64 ((St.mk a bk).srcN es : Int), .int .i64 ((St.mk a bk).dstN es : Int)]) ∧ Below w0.heap.size w0 w') :=
    fun w0 h1 h2 => by rw [← e1, ← e2]; exact rEnds_any lb fb vb sa aa sn sc an ac fl (leftOf xs es fl) es a bk w0 h1 h2 ha
  rw [hxn] at hsl hdl
  obtain ⟨u, hu⟩ : ∃ u, (St.mk a bk).srcN es = u := ⟨_, rfl⟩
  obtain ⟨v, hv⟩ : ∃ v, (St.mk a bk).dstN es = v := ⟨_, rfl⟩
  rw [hu] at hsl hbs cE hdv
  rw [hv] at hdl hbd cE hdv
  obtain ⟨lu, hlu⟩ : ∃ y, (leftOf xs es fl).getD u 0 = y := ⟨_, rfl⟩
  obtain ⟨lv, hlv⟩ : ∃ y, (addAt (leftOf xs es fl) u (-x)).getD v 0 = y := ⟨_, rfl⟩
  have hvb : -66001441 ≤ lv ∧ lv ≤ 66001441 := by
    rw [← hlv, hdv.out]
    split <;> omega
  rw [hlu] at hbs
  have HL := hide hL
  have HE := hide he
  have HLU := hide hlu
  have HLV := hide hlv
  have HU := hide hu
  have HV := hide hv
  have hbox : Below w.heap.size w (w.alloc (.cells #[.int .i64 a, .bool bk] 121)) := Joins.below_alloc1 _ _
  have hDV := hide hdv.out
  clear hL he hu hv hlu hlv e1 e2 hm hn hdv
  obtain ⟨u1, u2⟩ := hbs
  obtain ⟨v1, v2⟩ := hvb
  obtain ⟨x0, x1⟩ := hx
  clear hbd
  go_enter Tryz.func86, Tryz.ntmps86
  go_wp2_with fail
  refine (cE.out _ (HL.out.grow hbox) (HE.out.below hbox)).mono ?_
  rintro e wa ⟨rfl, hb1⟩
  have d0 : wa.cell? ⟨w.heap.size, 0, none⟩ = some (.int .i64 a) := (hb1.cell (by simp)).trans (by go_simp)
  have d1 : wa.cell? ⟨w.heap.size, 1, none⟩ = some (.bool bk) := (hb1.cell (by simp)).trans (by go_simp)
  have hs1 : w.heap.size < wa.heap.size := by have := hb1.size; simp at this; omega
  have hB1 : Below w.heap.size w wa := hbox.trans (hb1.mono (by simp))
  clear hb1 cE hbox
  have hLa := HL.out.grow hB1
  have k2 := hLa.c2
  have k3 := hLa.c3
  have hlt := hLa.lt
  have cu := hLa.rl.cell hsl
  have fu := hLa.rl.frozen u
  rw [HLU.out] at cu
  have HT2 := hide (HT.out wa hLa)
  have hne := hLa.ne
  have cf := hLa.rf.cell ha
  have ff := hLa.rf.frozen a
  have hS1 := hLa.setLeft hsl (by rw [leftOf_len]; exact hxn) (-x)
  rw [← Int.sub_eq_add_neg, HLU.out] at hS1
  have cv := hS1.rl.cell hdl
  rw [HLV.out] at cv
  have fv := hS1.rl.frozen v
  have hS2 := hS1.setLeft hdl (by rw [addAt_len, leftOf_len]; exact hxn) x
  rw [HLV.out] at hS2
  have cf2 := hS2.rf.cell ha
  have ff2 := hS2.rf.frozen a
  have m2 := hS1.c2
  have m3 := hS1.c3
  have p2 := hS2.c2
  have p3 := hS2.c3
  have hbl := HL.out.flt
  have hbl2 := HL.out.lt
  have d0b : ((wa.setCell ⟨vb, u, none⟩ (.int .i64 (lu - x))).setCell ⟨vb, v, none⟩ (.int .i64 (lv + x))).cell? ⟨w.heap.size, 0, none⟩ = some (.int .i64 a) := ((set_blk (by omega)).trans (set_blk (by omega))).trans d0
  have d1b : ((wa.setCell ⟨vb, u, none⟩ (.int .i64 (lu - x))).setCell ⟨vb, v, none⟩ (.int .i64 (lv + x))).cell? ⟨w.heap.size, 1, none⟩ = some (.bool bk) := ((set_blk (by omega)).trans (set_blk (by omega))).trans d1
  have HG : Hid (∀ d : Int, wa.grownBy ((wa.setCell ⟨vb, u, none⟩ (.int .i64 (lu - x))).setCell ⟨vb, v, none⟩ (.int .i64 (lv + x))) (some vb) ∧ ((wa.setCell ⟨vb, u, none⟩ (.int .i64 (lu - x))).setCell ⟨vb, v, none⟩ (.int .i64 (lv + x))).grownBy (((wa.setCell ⟨vb, u, none⟩ (.int .i64 (lu - x))).setCell ⟨vb, v, none⟩ (.int .i64 (lv + x))).setCell ⟨fb, a, none⟩ (.int .i64 d)).drew (some fb)) := by
    intro d
    refine ⟨⟨rfl, rfl, rfl, by simp [World.setCell], fun k hk hne => ?_⟩, ⟨rfl, rfl, rfl, by simp [World.setCell, World.drew], fun k hk hne => ?_⟩⟩
    · rw [Below.heap_setCell _ _ _ _ (fun e => hne (by rw [e])), Below.heap_setCell _ _ _ _ (fun e => hne (by rw [e]))]
    · exact Below.heap_setCell _ _ _ _ (fun e => hne (by rw [e]))
  clear hLa hS1 hS2
  generalize hy : fl.getD a 0 = y at *
  obtain ⟨y0, y1⟩ := hfa
  have ha2 : (a : Int) < (an : Int) := by omega
  have hu2 : (u : Int) < (sn : Int) := by omega
  have hv2 : (v : Int) < (sn : Int) := by omega
  have HT3 : Hid (Load ((((wa.setCell ⟨vb, u, none⟩ (.int .i64 (lu - x))).setCell ⟨vb, v, none⟩ (.int .i64 (lv + x))).setCell ⟨fb, a, none⟩ (.int .i64 (y + stD ⟨a, bk⟩ x)))) lb fb vb sa sn sc aa an ac (addAt fl a (stD ⟨a, bk⟩ x)) (leftOf xs es (addAt fl a (stD ⟨a, bk⟩ x)))) := by
    have h := HT2.out
    rw [HU.out, HV.out, HLU.out, HLV.out] at h
    exact h
  clear HT HT2 hy HLU HLV HU HV hDV HL HE
  cases bk with
  | true =>
    have hE : y + stD ⟨a, true⟩ x = y - x := by simp [stD]; omega
    rw [hE] at HT3
    clear hE
    go_wp2
    go_region
    go_wp2
    (try simp only [Exit.inBlock, Exit.then]); refine bodyPost_ret (results_none rfl _ _ _) rfl ?_
    exact ⟨rfl, HT3.out.grow ((Below.refl _ _).drew), _, _, hB1, (HG.out 0).1, (HG.out _).2⟩
  | false =>
    have hE : y + stD ⟨a, false⟩ x = y + x := by simp [stD]
    rw [hE] at HT3
    clear hE
    go_wp2
    go_region
    go_wp2
    go_end0
    exact ⟨rfl, HT3.out.grow ((Below.refl _ _).drew), _, _, hB1, (HG.out 0).1, (HG.out _).2⟩
end Go.Proofs.YtnbccoflcoaoaaaGreat

namespace Go.Proofs.YtnbccoflcoaoaaaGreat
open Go.RowKit Go.Deep
set_option linter.unusedSimpArgs false
set_option linter.unusedVariables false

/-- A list of arcs of the call's own. -/
def OwnAr (w : World) (base : Nat) (v : Value) (l : List A5) : Prop := ∃ oa oc, v = .slice oa l.length oc ∧ w.ownsRow base 67 5 (.slice oa l.length oc) l.length (arcCells l)
theorem OwnAr.lit (w : World) : OwnAr (w.alloc (.cells #[] 67)) w.heap.size (.slice (some ⟨w.heap.size, 0, none⟩) 0 0) [] :=
  ⟨_, _, rfl, World.ownsRow_lit w #[] 0 (Nat.le_refl _) (by unfold maxLen; omega) rfl⟩
theorem take_snocA (l : List A5) {k : Nat} (hk : k < l.length) : l.take (k + 1) = l.take k ++ [l.getD k zA] := by
  rw [List.take_add_one]
  congr 1
  simp [List.getD, hk]

/-- Arcs that a copy of the net's begins with, a result that is still empty, the net's box. -/
structure Made (w wr : World) (sa aa : Option Addr) (sn sc an ac : Nat) (v : Value) (l : List A5) : Prop where
  rn : wr.rowIs w.heap.size 48 2 (fun i => if i = 0 then .slice sa sn sc else .slice aa an ac)
  rr : wr.rowIs (w.heap.size + 1) 48 2 (fun _ => .slice none 0 0)
  ro : OwnAr wr (w.heap.size + 2) v l
  be : Below w.heap.size w wr
  sz : w.heap.size + 2 ≤ wr.heap.size

theorem Made.start (w : World) (sa aa : Option Addr) (sn sc an ac : Nat) :
    Made w (((w.alloc (.cells #[.slice sa sn sc, .slice aa an ac] 48)).alloc (.cells #[.slice none 0 0, .slice none 0 0] 48)).alloc (.cells #[] 67)) sa aa sn sc an ac (.slice (some ⟨w.heap.size + 2, 0, none⟩) 0 0) [] := by
  refine ⟨?_, ?_, ?_, ((((Below.refl _ _).alloc (Nat.le_refl _) _).alloc (by simp) _).alloc (by simp <;> omega) _), by simp <;> omega⟩
  · refine ((World.rowIs_alloc w #[.slice sa sn sc, .slice aa an ac] 48 _ ?_).alloc _).alloc _
    intro i hi
    rcases i with _ | _ | i
    · rfl
    · rfl
    · simp at hi; omega
  · have h := (World.rowIs_alloc (w.alloc (.cells #[.slice sa sn sc, .slice aa an ac] 48)) #[.slice none 0 0, .slice none 0 0] 48 (fun _ => .slice none 0 0) (by
      intro i hi
      rcases i with _ | _ | i
      · rfl
      · rfl
      · simp at hi; omega)).alloc (.cells #[] 67)
    simpa using h
  · have h := OwnAr.lit ((w.alloc (.cells #[.slice sa sn sc, .slice aa an ac] 48)).alloc (.cells #[.slice none 0 0, .slice none 0 0] 48))
    simpa using h
/-- One arc more. -/
theorem Made.push {w wr X w2 : World} {sa aa : Option Addr} {sn sc an ac : Nat} {oa : Option Addr} {oc : Nat} {l : List A5} (h : Made w wr sa aa sn sc an ac (.slice oa l.length oc) l) (hX : Below wr.heap.size wr X) {g' c' n : Nat} (hn : l.length = n) {y : A5} (ho : w2.ownsRow (w.heap.size + 2) 67 5 (.slice (some ⟨g', 0, none⟩) (n + 1) c') (n + 1) (arcCells (l ++ [y]))) (hg : X.grownBy w2 (Value.slice oa n oc).ownBlock) :
    Made w w2 sa aa sn sc an ac (.slice (some ⟨g', 0, none⟩) (n + 1) c') (l ++ [y]) := by
  subst hn
  obtain ⟨oa', oc', e, hown⟩ := h.ro
  cases e
  have hblk := hown.lt
  have hne : ∀ b, b < w.heap.size + 2 → some b ≠ (Value.slice oa l.length oc).ownBlock := fun b hb e => by have := hblk b e.symm; omega
  refine ⟨grown_row hg (below_row hX h.rn h.rn.lt) (hne _ (by omega)), grown_row hg (below_row hX h.rr h.rr.lt) (hne _ (by omega)), ⟨some ⟨g', 0, none⟩, c', by simp, by rw [List.length_append]; exact ho⟩, ?_, by have := h.sz; have := hX.size; have := hg.size; omega⟩
  exact (h.be.trans (hX.mono h.be.size)).grown hg (Nat.le_trans h.be.size hX.size) (fun b hb => by have := hblk b hb; omega)
theorem Made.own {w wr : World} {sa aa : Option Addr} {sn sc an ac : Nat} {oa : Option Addr} {oc n : Nat} {l : List A5} (h : Made w wr sa aa sn sc an ac (.slice oa n oc) l) (hn : l.length = n) : wr.ownsRow (w.heap.size + 2) 67 5 (.slice oa n oc) n (arcCells l) := by
  obtain ⟨oa', oc', e, hown⟩ := h.ro
  cases e
  rw [hn] at hown
  exact hown
/-- It is told. -/
theorem Made.done {w wr : World} {sa aa : Option Addr} {sn sc an ac : Nat} {oa : Option Addr} {oc : Nat} {l : List A5} (h : Made w wr sa aa sn sc an ac (.slice oa l.length oc) l) (hl : l.length ≤ 24) (hb : ∀ i, i < l.length → ∀ j, -1000000 ≤ (l.getD i zA).at j ∧ (l.getD i zA).at j ≤ 1000000) :
    Arcs ((wr.setCell ⟨w.heap.size + 1, 0, none⟩ (.slice sa sn sc)).setCell ⟨w.heap.size + 1, 1, none⟩ (.slice oa l.length oc)) oa l.length l ∧ Below w.heap.size w ((wr.setCell ⟨w.heap.size + 1, 0, none⟩ (.slice sa sn sc)).setCell ⟨w.heap.size + 1, 1, none⟩ (.slice oa l.length oc)) := by
  obtain ⟨oa', oc', e, hown⟩ := h.ro
  cases e
  have h1 := ownsRow_setCell_below (ownsRow_setCell_below hown (a := ⟨w.heap.size + 1, 0, none⟩) (by show w.heap.size + 1 < w.heap.size + 2; omega) (.slice sa sn sc)) (a := ⟨w.heap.size + 1, 1, none⟩) (by show w.heap.size + 1 < w.heap.size + 2; omega) (.slice oa l.length oc)
  obtain ⟨a, c, e, hA, _⟩ := arcs_of_own h1 rfl (by omega) (fun x hx j => by obtain ⟨i, hi, rfl⟩ := mem_of_getD zA l x hx; have := hb i hi j; omega)
  cases e
  exact ⟨hA, (h.be.setCell (p := ⟨w.heap.size + 1, 0, none⟩) (by show w.heap.size ≤ w.heap.size + 1; omega) _).setCell (p := ⟨w.heap.size + 1, 1, none⟩) (by show w.heap.size ≤ w.heap.size + 1; omega) _⟩

theorem arc_small {a : A5} {n : Int} (hn : n ≤ 10) (h : arcB a n = true) : ∀ j, -1000000 ≤ a.at j ∧ a.at j ≤ 1000000 := by
  have := arcB_out h
  intro j
  unfold A5.at
  split <;> omega

set_option maxHeartbeats 2000000 in
theorem rCostless_any (sa aa : Option Addr) (sn sc an ac : Nat) (xs : List Int) (es : List A5) (w : World) (hn : NetOK xs es) (he : Arcs w aa an es) :
    Calls Tryz.prog 78 #[.agg #[.slice sa sn sc, .slice aa an ac]] w fun e w' => ∃ ca cc, e = .returned (.agg #[.slice sa sn sc, .slice ca an cc]) ∧ Arcs w' ca an (costlessL es) ∧ Below w.heap.size w w' := by
  have hal : Hid (es.length = an) := he.len
  have h24 : an ≤ 24 := by rw [← hal.out]; exact hn.arcs
  have HE := hide he
  have HM0 := hide (Made.start w sa aa sn sc an ac)
  clear he
  go_enter Tryz.func78, Tryz.ntmps78
  go_wp2
  go_loopw [3, 5, 10] (fun v ap i wr => ∃ k : Nat, k ≤ an ∧ i = .int .i64 k ∧ Hid (Made w wr sa aa sn sc an ac v ((costlessL es).take k))) (fun _ _ i _ => an - (intOf i).toNat)
  case atStart => exact ⟨0, Nat.zero_le _, rfl, HM0.out⟩
  case round =>
    clear HM0
    obtain ⟨k, hk, rfl, hM⟩ := hrel
    have hbe := hM.out.be
    obtain ⟨oa, oc, rfl, _⟩ := hM.out.ro
    have hlen : ((costlessL es).take k).length = k := by rw [List.length_take, costlessL_len, hal.out]; omega
    rw [hlen] at hM ⊢
    by_cases hlt : k < an
    · have hlt3 : (k : Int) < (an : Int) := by omega
      obtain ⟨b, off, f, t, l, c, q, rfl, hA, hbb, e0, e1, e2, e3, e4⟩ := (HE.out.below hbe).get hlt
      have hnx : Hid ((costlessL es).take (k + 1) = (costlessL es).take k ++ [⟨f, t, l, c, 0⟩]) := by
        show _ = _
        rw [take_snocA _ (by rw [costlessL_len, hal.out]; exact hlt), costlessL_at, hA]
      have hsz := hM.out.sz
      generalize hLL : (costlessL es).take k = L at *
      clear hLL hA
      go_wp2_with (at_builtin; refine wpList_push_arc rfl (.tmp 15) (.tmp 17) rfl (w.heap.size + 2) oa oc L k hlen rfl ?_ (wr.heap.size + 1) ⟨f, t, l, c, 0⟩ 1 rfl ?_ (by omega) ?_ ?_)
      · exact ((hM.out.own hlen).alloc _).alloc _
      · intro j hj
        match j, hj with
        | 0, _ => go_simp <;> rfl
        | 1, _ => go_simp <;> rfl
        | 2, _ => go_simp <;> rfl
        | 3, _ => go_simp <;> rfl
        | 4, _ => go_simp <;> rfl
      · simp; omega
      intro g' c' w2 hown2 hgr
      have HM2 := hide (Made.push (oa := oa) (oc := oc) (by rw [hlen]; exact hM.out) (Joins.below_alloc2 wr _ _) hlen hown2 hgr)
      clear hM hown2 hgr e0 e1 e2 e3 e4
      go_wp2
      go_roundw
      case rel => exact ⟨k + 1, by omega, by go_num, by rw [hnx.out]; exact HM2.out⟩
      case measure => simp [intOf]; omega
    · have hkn : k = an := by omega
      subst hkn
      have hall : (costlessL es).take k = costlessL es := List.take_of_length_le (by rw [costlessL_len, hal.out]; exact Nat.le_refl _)
      have hle2 : (costlessL es).length = k := by rw [costlessL_len]; exact hal.out
      rw [hall] at hM
      have c0 := hM.out.rn.cell (i := 0) (by omega)
      have r0 := hM.out.rr.cell (i := 0) (by omega)
      have r1 := hM.out.rr.cell (i := 1) (by omega)
      have f0 := hM.out.rr.frozen 0
      have f1 := hM.out.rr.frozen 1
      have hsz := hM.out.sz
      have HD := hide (Made.done (oa := oa) (oc := oc) (by rw [hle2]; exact hM.out) (by omega) (fun i hi => arc_small (by have := hn.ten; omega) ((costless_ok hn.wide).arc i hi)))
      rw [hle2] at HD
      simp only [if_true] at c0
      clear hM hall
      go_wp2
      have q0 : (wr.setCell ⟨w.heap.size + 1, 0, none⟩ (Value.slice sa sn sc)).cell? ⟨w.heap.size + 1, 0, none⟩ = some (.slice sa sn sc) := by go_simp
      have q1 : ((wr.setCell ⟨w.heap.size + 1, 0, none⟩ (Value.slice sa sn sc)).setCell ⟨w.heap.size + 1, 1, none⟩ (Value.slice oa k oc)).cell? ⟨w.heap.size + 1, 1, none⟩ = some (.slice oa k oc) := by go_simp
      refine bodyPost_ret (v := .agg #[.slice sa sn sc, .slice oa k oc]) (by simp [results, Tryz.results78, go_sem, q0, q1]) rfl ⟨oa, oc, rfl, HD.out.1, HD.out.2⟩

set_option maxHeartbeats 2000000 in
theorem rStiff_any (sa aa : Option Addr) (sn sc an ac : Nat) (xs : List Int) (es : List A5) (w : World) (hn : NetOK xs es) (he : Arcs w aa an es) :
    Calls Tryz.prog 79 #[.agg #[.slice sa sn sc, .slice aa an ac]] w fun e w' => ∃ ca cc, e = .returned (.agg #[.slice sa sn sc, .slice ca an cc]) ∧ Arcs w' ca an (stiffL es) ∧ Below w.heap.size w w' := by
  have hal : Hid (es.length = an) := he.len
  have h24 : an ≤ 24 := by rw [← hal.out]; exact hn.arcs
  have HE := hide he
  have HM0 := hide (Made.start w sa aa sn sc an ac)
  clear he
  go_enter Tryz.func79, Tryz.ntmps79
  go_wp2
  go_loopw [3, 5, 10] (fun v ap i wr => ∃ k : Nat, k ≤ an ∧ i = .int .i64 k ∧ Hid (Made w wr sa aa sn sc an ac v ((stiffL es).take k))) (fun _ _ i _ => an - (intOf i).toNat)
  case atStart => exact ⟨0, Nat.zero_le _, rfl, HM0.out⟩
  case round =>
    clear HM0
    obtain ⟨k, hk, rfl, hM⟩ := hrel
    have hbe := hM.out.be
    obtain ⟨oa, oc, rfl, _⟩ := hM.out.ro
    have hlen : ((stiffL es).take k).length = k := by rw [List.length_take, stiffL_len, hal.out]; omega
    rw [hlen] at hM ⊢
    by_cases hlt : k < an
    · have hlt3 : (k : Int) < (an : Int) := by omega
      obtain ⟨b, off, f, t, l, c, q, rfl, hA, hbb, e0, e1, e2, e3, e4⟩ := (HE.out.below hbe).get hlt
      have hnx : Hid ((stiffL es).take (k + 1) = (stiffL es).take k ++ [if c = -1 then ⟨f, t, l, c, q⟩ else ⟨f, t, l, l, q⟩]) := by
        show _ = _
        rw [take_snocA _ (by rw [stiffL_len, hal.out]; exact hlt), stiffL_at, hA]
      have hsz := hM.out.sz
      generalize hLL : (stiffL es).take k = L at *
      clear hLL hA
      have cU : n0 (∀ w0, Calls Tryz.prog 68 #[.agg #[.int .i64 f, .int .i64 t, .int .i64 l, .int .i64 c, .int .i64 q]] w0 fun e w' => e = .returned (.bool (c == -1)) ∧ Below w0.heap.size w0 w') := fun w0 => gUnlimited_any f t l c q w0
      go_wp2_with fail
      refine (cU.out _).mono ?_
      rintro e w1 ⟨rfl, hb1⟩
      have d0 : w1.cell? ⟨wr.heap.size, 0, none⟩ = some (.int .i64 f) := (hb1.cell (by simp)).trans (by go_simp)
      have d1 : w1.cell? ⟨wr.heap.size, 1, none⟩ = some (.int .i64 t) := (hb1.cell (by simp)).trans (by go_simp)
      have d2 : w1.cell? ⟨wr.heap.size, 2, none⟩ = some (.int .i64 l) := (hb1.cell (by simp)).trans (by go_simp)
      have d3 : w1.cell? ⟨wr.heap.size, 3, none⟩ = some (.int .i64 c) := (hb1.cell (by simp)).trans (by go_simp)
      have d4 : w1.cell? ⟨wr.heap.size, 4, none⟩ = some (.int .i64 q) := (hb1.cell (by simp)).trans (by go_simp)
      have g3 : w1.frozen? ⟨wr.heap.size, 3, none⟩ = false := (hb1.frozen (by simp)).trans (by go_simp)
      have hz1 : wr.heap.size < w1.heap.size := by have := hb1.size; simp at this; omega
      have hB1 : Below wr.heap.size wr w1 := (Joins.below_alloc1 _ _).trans (hb1.mono (by simp))
      clear hb1 cU e0 e1 e2 e3 e4
      by_cases hcc : c = -1
      · subst hcc
        rw [if_pos rfl] at hnx
        go_wp2_with (at_builtin; refine wpList_push_arc rfl (.tmp 20) (.tmp 22) rfl (w.heap.size + 2) oa oc L k hlen rfl ?_ w1.heap.size ⟨f, t, l, -1, q⟩ 1 rfl ?_ (by omega) ?_ ?_)
        · exact ((hM.out.own hlen).kept (grown_of_below hB1 none) (by cases oa <;> simp [Value.ownBlock])).alloc _
        · intro j hj
          match j, hj with
          | 0, _ => go_simp <;> rfl
          | 1, _ => go_simp <;> rfl
          | 2, _ => go_simp <;> rfl
          | 3, _ => go_simp <;> rfl
          | 4, _ => go_simp <;> rfl
        · simp; omega
        intro g' c' w2 hown2 hgr
        have HM2 := hide (Made.push (oa := oa) (oc := oc) (by rw [hlen]; exact hM.out) (hB1.trans ((Joins.below_alloc1 w1 _).mono (Nat.le_of_lt hz1))) hlen hown2 hgr)
        clear hM hown2 hgr d0 d1 d2 d3 d4 g3
        go_wp2
        go_roundw
        case rel => exact ⟨k + 1, by omega, by go_num, by rw [hnx.out]; exact HM2.out⟩
        case measure => simp [intOf]; omega
      · have hcb : (c == -1) = false := by simpa using hcc
        rw [if_neg hcc] at hnx
        have HCC := hide hcc
        clear hcc
        have hB2 : Below wr.heap.size wr (w1.setCell ⟨wr.heap.size, 3, none⟩ (.int .i64 l)) := hB1.setCell (p := ⟨wr.heap.size, 3, none⟩) (Nat.le_refl _) _
        go_wp2_with (at_builtin; refine wpList_push_arc rfl (.tmp 20) (.tmp 22) rfl (w.heap.size + 2) oa oc L k hlen rfl ?_ w1.heap.size ⟨f, t, l, l, q⟩ 1 rfl ?_ (by omega) ?_ ?_)
        · exact ((hM.out.own hlen).kept (grown_of_below hB2 none) (by cases oa <;> simp [Value.ownBlock])).alloc _
        · intro j hj
          match j, hj with
          | 0, _ => go_simp <;> rfl
          | 1, _ => go_simp <;> rfl
          | 2, _ => go_simp <;> rfl
          | 3, _ => go_simp <;> rfl
          | 4, _ => go_simp <;> rfl
        · simp; omega
        intro g' c' w2 hown2 hgr
        have HM2 := hide (Made.push (oa := oa) (oc := oc) (by rw [hlen]; exact hM.out) (hB2.trans ((Joins.below_alloc1 _ _).mono (by simp [World.setCell]; omega))) hlen hown2 hgr)
        clear hM hown2 hgr d0 d1 d2 d3 d4 g3
        go_wp2
        go_roundw
        case rel => exact ⟨k + 1, by omega, by go_num, by rw [hnx.out]; exact HM2.out⟩
        case measure => simp [intOf]; omega
    · have hkn : k = an := by omega
      subst hkn
      have hall : (stiffL es).take k = stiffL es := List.take_of_length_le (by rw [stiffL_len, hal.out]; exact Nat.le_refl _)
      have hle2 : (stiffL es).length = k := by rw [stiffL_len]; exact hal.out
      rw [hall] at hM
      have c0 := hM.out.rn.cell (i := 0) (by omega)
      have r0 := hM.out.rr.cell (i := 0) (by omega)
      have r1 := hM.out.rr.cell (i := 1) (by omega)
      have f0 := hM.out.rr.frozen 0
      have f1 := hM.out.rr.frozen 1
      have hsz := hM.out.sz
      have HD := hide (Made.done (oa := oa) (oc := oc) (by rw [hle2]; exact hM.out) (by omega) (fun i hi => arc_small (by have := hn.ten; omega) ((stiff_ok hn.wide).arc i hi)))
      rw [hle2] at HD
      simp only [if_true] at c0
      clear hM hall
      go_wp2
      have q0 : (wr.setCell ⟨w.heap.size + 1, 0, none⟩ (Value.slice sa sn sc)).cell? ⟨w.heap.size + 1, 0, none⟩ = some (.slice sa sn sc) := by go_simp
      have q1 : ((wr.setCell ⟨w.heap.size + 1, 0, none⟩ (Value.slice sa sn sc)).setCell ⟨w.heap.size + 1, 1, none⟩ (Value.slice oa k oc)).cell? ⟨w.heap.size + 1, 1, none⟩ = some (.slice oa k oc) := by go_simp
      refine bodyPost_ret (v := .agg #[.slice sa sn sc, .slice oa k oc]) (by simp [results, Tryz.results79, go_sem, q0, q1]) rfl ⟨oa, oc, rfl, HD.out.1, HD.out.2⟩
end Go.Proofs.YtnbccoflcoaoaaaGreat
