import Derived.Test.YtampcheafdlomaaRtQ
import Derived.Test.YtampcheafdlomaaOwnK
import Derived.BigRegion
import Derived.Deep.RegionWith
namespace Go.Proofs.Ytampcheafdlomaa
open Go.RowKit Go.Deep
set_option linter.unusedSimpArgs false
set_option linter.unusedVariables false

theorem grown_row {w w' : World} {row : Option Nat} (h : w.grownBy w' row) {b : Nat} {t : TypeId} {n : Nat} {f : Nat → Value} (hr : w.rowIs b t n f) (hne : some b ≠ row) : w'.rowIs b t n f := hr.of_block (h.block b hr.lt hne)
theorem below_row {w w' : World} {K : Nat} (h : Below K w w') {b : Nat} {t : TypeId} {n : Nat} {f : Nat → Value} (hr : w.rowIs b t n f) (hb : b < K) : w'.rowIs b t n f := hr.of_block (h.block b hb)
theorem below_blk {w w' : World} {K : Nat} (h : Below K w w') {b o : Nat} (hb : b < K) : w'.cell? ⟨b, o, none⟩ = w.cell? ⟨b, o, none⟩ := h.cell (p := ⟨b, o, none⟩) hb

/-- A load's memory: the struct at lb, its flow at fb, what is left at vb. -/
structure Load (w : World) (lb fb vb : Nat) (sa : Option Addr) (sn sc : Nat) (aa : Option Addr) (an ac : Nat) (fl lf : List Int) : Prop where
  c0 : w.cell? ⟨lb, 0, none⟩ = some (.slice sa sn sc)
  c1 : w.cell? ⟨lb, 1, none⟩ = some (.slice aa an ac)
  c2 : w.cell? ⟨lb, 2, none⟩ = some (.slice (some ⟨fb, 0, none⟩) an an)
  c3 : w.cell? ⟨lb, 3, none⟩ = some (.slice (some ⟨vb, 0, none⟩) sn sn)
  rf : w.rowIs fb 3 an (fun i => .int .i64 (fl.getD i 0))
  rl : w.rowIs vb 3 sn (fun i => .int .i64 (lf.getD i 0))
  lt : lb < w.heap.size
  ne : lb ≠ fb ∧ lb ≠ vb ∧ fb ≠ vb

theorem Load.below {w w' : World} {lb fb vb : Nat} {sa : Option Addr} {sn sc : Nat} {aa : Option Addr} {an ac : Nat} {fl lf : List Int} (h : Load w lb fb vb sa sn sc aa an ac fl lf) {K : Nat} (hb : Below K w w') (h1 : lb < K) (h2 : fb < K) (h3 : vb < K) :
    Load w' lb fb vb sa sn sc aa an ac fl lf :=
  ⟨(below_blk hb h1).trans h.c0, (below_blk hb h1).trans h.c1, (below_blk hb h1).trans h.c2, (below_blk hb h1).trans h.c3, below_row hb h.rf h2, below_row hb h.rl h3, Nat.lt_of_lt_of_le h.lt hb.size, h.ne⟩
theorem Load.flt {w : World} {lb fb vb : Nat} {sa : Option Addr} {sn sc : Nat} {aa : Option Addr} {an ac : Nat} {fl lf : List Int} (h : Load w lb fb vb sa sn sc aa an ac fl lf) : fb < w.heap.size ∧ vb < w.heap.size := ⟨h.rf.lt, h.rl.lt⟩
theorem Load.grow {w w' : World} {lb fb vb : Nat} {sa : Option Addr} {sn sc : Nat} {aa : Option Addr} {an ac : Nat} {fl lf : List Int} (h : Load w lb fb vb sa sn sc aa an ac fl lf) (hb : Below w.heap.size w w') :
    Load w' lb fb vb sa sn sc aa an ac fl lf := h.below hb h.lt h.flt.1 h.flt.2

theorem set_blk {w : World} {b b' o o' : Nat} {u : Value} (h : b ≠ b') : (w.setCell ⟨b', o', none⟩ u).cell? ⟨b, o, none⟩ = w.cell? ⟨b, o, none⟩ := World.cell?_of_block (Below.heap_setCell _ _ _ _ h)

/-- A number of the flow is written. -/
theorem Load.setFlow {w : World} {lb fb vb : Nat} {sa : Option Addr} {sn sc : Nat} {aa : Option Addr} {an ac : Nat} {fl lf : List Int} (h : Load w lb fb vb sa sn sc aa an ac fl lf) {a : Nat} (ha : a < an) (hl : fl.length = an) (d : Int) :
    Load (w.setCell ⟨fb, a, none⟩ (.int .i64 (fl.getD a 0 + d))) lb fb vb sa sn sc aa an ac (addAt fl a d) lf := by
  obtain ⟨n1, n2, n3⟩ := h.ne
  refine ⟨(set_blk n1).trans h.c0, (set_blk n1).trans h.c1, (set_blk n1).trans h.c2, (set_blk n1).trans h.c3, (h.rf.set a _).congr ?_, h.rl.setOther (fun e => n3 e.symm) _, by have := h.lt; simpa [World.setCell] using this, h.ne⟩
  intro i hi
  rw [addAt_at _ _ _ _ (by omega)]
  split <;> rfl
theorem Load.setLeft {w : World} {lb fb vb : Nat} {sa : Option Addr} {sn sc : Nat} {aa : Option Addr} {an ac : Nat} {fl lf : List Int} (h : Load w lb fb vb sa sn sc aa an ac fl lf) {a : Nat} (ha : a < sn) (hl : lf.length = sn) (d : Int) :
    Load (w.setCell ⟨vb, a, none⟩ (.int .i64 (lf.getD a 0 + d))) lb fb vb sa sn sc aa an ac fl (addAt lf a d) := by
  obtain ⟨n1, n2, n3⟩ := h.ne
  refine ⟨(set_blk n2).trans h.c0, (set_blk n2).trans h.c1, (set_blk n2).trans h.c2, (set_blk n2).trans h.c3, h.rf.setOther n3 _, (h.rl.set a _).congr ?_, by have := h.lt; simpa [World.setCell] using this, h.ne⟩
  intro i hi
  rw [addAt_at _ _ _ _ (by omega)]
  split <;> rfl

set_option maxHeartbeats 1000000 in
theorem rEnds_any (lb fb vb : Nat) (sa aa : Option Addr) (sn sc an ac : Nat) (fl lf : List Int) (es : List A5) (a : Nat) (bk : Bool) (w : World) (hL : Load w lb fb vb sa sn sc aa an ac fl lf) (he : Arcs w aa an es) (ha : a < an) :
    Calls Try.prog 87 #[.pointer (some ⟨lb, 0, none⟩), .agg #[.int .i64 a, .bool bk]] w fun e w' => e = .returned (.tuple #[.int .i64 ((St.mk a bk).src es), .int .i64 ((St.mk a bk).dst es)]) ∧ Below w.heap.size w w' := by
  have k1 := hL.c1
  have hlt := hL.lt
  obtain ⟨b, off, f, t, l, c, q, rfl, hA, hb, e0, e1, e2, e3, e4⟩ := he.get ha
  have hS : Hid ((St.mk a bk).src es = (if bk = true then t else f) ∧ (St.mk a bk).dst es = (if bk = true then f else t)) := by
    simp only [Hid, St.src, St.dst, hA]; exact ⟨trivial, trivial⟩
  clear hL he hA
  have ha2 : (a : Int) < (an : Int) := by omega
  go_enter Try.func87, Try.ntmps87
  rw [hS.out.1, hS.out.2]
  clear hS
  go_wp2
  go_region
  cases bk with
  | true =>
    go_wp2
    go_region
    go_wp2
    go_ret2
    exact ⟨rfl, ((Joins.below_alloc2 _ _ _).drew).drew⟩
  | false =>
    go_wp2
    go_region
    go_wp2
    go_ret2
    exact ⟨rfl, ((Joins.below_alloc2 _ _ _).drew).drew⟩

set_option maxHeartbeats 2000000 in
theorem rRoom_any (lb fb vb : Nat) (sa aa : Option Addr) (sn sc an ac : Nat) (fl lf : List Int) (es : List A5) (a : Nat) (bk : Bool) (m : Int) (w : World) (hL : Load w lb fb vb sa sn sc aa an ac fl lf) (he : Arcs w aa an es) (ha : a < an) (hok : arcB (es.getD a zA) m = true) (hfl : 0 ≤ fl.getD a 0 ∧ fl.getD a 0 ≤ 1000000) :
    Calls Try.prog 89 #[.pointer (some ⟨lb, 0, none⟩), .agg #[.int .i64 a, .bool bk]] w fun e w' => e = .returned (.int .i64 (roomOf es fl ⟨a, bk⟩)) ∧ Below w.heap.size w w' := by
  have k1 := hL.c1
  have k2 := hL.c2
  have hlt := hL.lt
  have cf := hL.rf.cell ha
  have hfb := hL.flt.1
  obtain ⟨b, off, f, t, l, c, q, rfl, hA, hb, e0, e1, e2, e3, e4⟩ := he.get ha
  have hok2 := arcB_out hok
  have hS : Hid (roomOf es fl ⟨a, bk⟩ = (if bk = true then fl.getD a 0 - l else if c = -1 then 1000000 - fl.getD a 0 else c - fl.getD a 0)) := by
    simp only [Hid, roomOf, hA]
  rw [hA] at hok2
  simp only [] at hok2
  clear hL he hA hok
  generalize fl.getD a 0 = x at *
  obtain ⟨hx0, hx1⟩ := hfl
  have hl0 : 0 ≤ l := by omega
  have hl1 : l ≤ 60 := by omega
  have hc0 : -1 ≤ c := by omega
  have hc1 : c ≤ 60 := by omega
  clear hok2
  have ha2 : (a : Int) < (an : Int) := by omega
  go_enter Try.func89, Try.ntmps89
  rw [hS.out]
  clear hS
  go_wp2
  go_region
  cases bk with
  | true =>
    go_wp2
    go_ret
    exact ⟨rfl, (Joins.below_alloc2 _ _ _).drew⟩
  | false =>
    have cU : n0 (∀ w0, Calls Try.prog 61 #[.agg #[.int .i64 f, .int .i64 t, .int .i64 l, .int .i64 c, .int .i64 q]] w0 fun e w' => e = .returned (.bool (c == -1)) ∧ Below w0.heap.size w0 w') := fun w0 => gUnlimited_any f t l c q w0
    go_wp2_with fail
    refine (cU.out _).mono ?_
    rintro e w1 ⟨rfl, hb1⟩
    have hB : Below w.heap.size w w1 := ((Joins.below_alloc2 _ _ _).drew).trans (hb1.mono (by simp; omega))
    have d3 := (hb1.cell (p := ⟨w.heap.size + 1, 3, none⟩) (by simp)).trans (show _ = some (Value.int .i64 c) by go_simp)
    clear hb1 e0 e1 e2 e3 e4 k1 k2 cU cf
    by_cases hcc : c = -1
    · subst hcc
      go_wp2
      go_ret
      exact ⟨rfl, hB⟩
    · have hcb : (c == -1) = false := by simpa using hcc
      have HC := hide hcc
      clear hcc
      go_wp2
      go_ret
      exact ⟨rfl, hB⟩


/-- What is left stays what is left of the flow; two blocks are written. -/
theorem Load.take {w : World} {lb fb vb : Nat} {sa : Option Addr} {sn sc : Nat} {aa : Option Addr} {an ac : Nat} {xs fl : List Int} {es : List A5} (hn : NetOK xs es) (hxn : xs.length = sn) (hen : es.length = an) (hl : fl.length = an) (h : Load w lb fb vb sa sn sc aa an ac fl (leftOf xs es fl)) (s : St) (hs : s.arc < an) (x : Int) :
    Load (((w.setCell ⟨vb, s.srcN es, none⟩ (.int .i64 ((leftOf xs es fl).getD (s.srcN es) 0 - x))).setCell ⟨vb, s.dstN es, none⟩ (.int .i64 ((addAt (leftOf xs es fl) (s.srcN es) (-x)).getD (s.dstN es) 0 + x))).setCell ⟨fb, s.arc, none⟩ (.int .i64 (fl.getD s.arc 0 + stD s x))) lb fb vb sa sn sc aa an ac (addAt fl s.arc (stD s x)) (leftOf xs es (addAt fl s.arc (stD s x))) := by
  subst hxn hen
  obtain ⟨-, -, hsl, hdl⟩ := st_ends hn hs
  have h1 := h.setLeft hsl (leftOf_len _ _ _) (-x)
  rw [← Int.sub_eq_add_neg] at h1
  have h2 := h1.setLeft hdl (by rw [addAt_len, leftOf_len]) x
  rw [leftOf_take hn hl hs] at h2
  exact h2.setFlow hs hl _

set_option maxHeartbeats 2000000 in
theorem rPrice_any (lb fb vb : Nat) (sa aa : Option Addr) (sn sc an ac : Nat) (fl lf : List Int) (es : List A5) (a : Nat) (bk : Bool) (w : World) (hL : Load w lb fb vb sa sn sc aa an ac fl lf) (he : Arcs w aa an es) (ha : a < an) (hc : -50 ≤ (es.getD a zA).cost ∧ (es.getD a zA).cost ≤ 50) :
    Calls Try.prog 92 #[.pointer (some ⟨lb, 0, none⟩), .agg #[.int .i64 a, .bool bk]] w fun e w' => e = .returned (.int .i64 (priceOf es ⟨a, bk⟩)) ∧ Below w.heap.size w w' := by
  have k1 := hL.c1
  have hlt := hL.lt
  obtain ⟨b, off, f, t, l, c, q, rfl, hA, hb, e0, e1, e2, e3, e4⟩ := he.get ha
  have hS : Hid (priceOf es ⟨a, bk⟩ = (if bk = true then -q else q)) := by simp only [Hid, priceOf, hA]
  rw [hA] at hc
  simp only [] at hc
  obtain ⟨q1, q2⟩ := hc
  clear hL he hA
  have ha2 : (a : Int) < (an : Int) := by omega
  go_enter Try.func92, Try.ntmps92
  rw [hS.out]
  clear hS
  go_wp2
  go_region
  cases bk with
  | true =>
    go_wp2
    go_ret
    exact ⟨rfl, (Joins.below_alloc1 _ _).drew⟩
  | false =>
    go_wp2
    go_ret
    exact ⟨rfl, (Joins.below_alloc1 _ _).drew⟩

end Go.Proofs.Ytampcheafdlomaa
