import Derived.Test.YtojiemadoogjlaaSomR
import Derived.BigRegion
import Derived.Deep.RegionWith
namespace Go.Proofs.Ytojiemadoogjlaa
open Go.RowKit Go.Deep
set_option linter.unusedSimpArgs false
set_option linter.unusedVariables false

theorem grown_row {w w' : World} {row : Option Nat} (h : w.grownBy w' row) {b : Nat} {t : TypeId} {n : Nat} {f : Nat → Value} (hr : w.rowIs b t n f) (hne : some b ≠ row) : w'.rowIs b t n f := hr.of_block (h.block b hr.lt hne)
theorem below_row {w w' : World} {K : Nat} (h : Below K w w') {b : Nat} {t : TypeId} {n : Nat} {f : Nat → Value} (hr : w.rowIs b t n f) (hb : b < K) : w'.rowIs b t n f := hr.of_block (h.block b hb)
theorem below_blk {w w' : World} {K : Nat} (h : Below K w w') {b o : Nat} (hb : b < K) : w'.cell? ⟨b, o, none⟩ = w.cell? ⟨b, o, none⟩ := h.cell (p := ⟨b, o, none⟩) hb

/-- A load's memory: the struct at lb, its flow at fb, what is left at vb. -/
structure Load (w : World) (lb fb vb : Nat) (sa : Option Addr) (sn sc : Nat) (aa : Option Addr) (an ac : Nat) (fl lf : List Int) : Prop where
  c0 : w.cell? ⟨lb, 0, none⟩ = some (.slice sa sn sc)
  c1 : w.cell? ⟨lb, 1, none⟩ = some (.slice aa an ac)
  c2 : w.cell? ⟨lb, 2, none⟩ = some (.slice (some ⟨fb, 0, none⟩) an an)
  c3 : w.cell? ⟨lb, 3, none⟩ = some (.slice (some ⟨vb, 0, none⟩) sn sn)
  rf : w.rowIs fb 3 an (fun i => .int .i64 (fl.getD i 0))
  rl : w.rowIs vb 3 sn (fun i => .int .i64 (lf.getD i 0))
  lt : lb < w.heap.size
  ne : lb ≠ fb ∧ lb ≠ vb ∧ fb ≠ vb

theorem Load.below {w w' : World} {lb fb vb : Nat} {sa : Option Addr} {sn sc : Nat} {aa : Option Addr} {an ac : Nat} {fl lf : List Int} (h : Load w lb fb vb sa sn sc aa an ac fl lf) {K : Nat} (hb : Below K w w') (h1 : lb < K) (h2 : fb < K) (h3 : vb < K) :
    Load w' lb fb vb sa sn sc aa an ac fl lf :=
  ⟨(below_blk hb h1).trans h.c0, (below_blk hb h1).trans h.c1, (below_blk hb h1).trans h.c2, (below_blk hb h1).trans h.c3, below_row hb h.rf h2, below_row hb h.rl h3, Nat.lt_of_lt_of_le h.lt hb.size, h.ne⟩
theorem Load.flt {w : World} {lb fb vb : Nat} {sa : Option Addr} {sn sc : Nat} {aa : Option Addr} {an ac : Nat} {fl lf : List Int} (h : Load w lb fb vb sa sn sc aa an ac fl lf) : fb < w.heap.size ∧ vb < w.heap.size := ⟨h.rf.lt, h.rl.lt⟩
theorem Load.grow {w w' : World} {lb fb vb : Nat} {sa : Option Addr} {sn sc : Nat} {aa : Option Addr} {an ac : Nat} {fl lf : List Int} (h : Load w lb fb vb sa sn sc aa an ac fl lf) (hb : Below w.heap.size w w') :
    Load w' lb fb vb sa sn sc aa an ac fl lf := h.below hb h.lt h.flt.1 h.flt.2

theorem set_blk {w : World} {b b' o o' : Nat} {u : Value} (h : b ≠ b') : (w.setCell ⟨b', o', none⟩ u).cell? ⟨b, o, none⟩ = w.cell? ⟨b, o, none⟩ := World.cell?_of_block (Below.heap_setCell _ _ _ _ h)

/-- A number of the flow is written. -/
theorem Load.setFlow {w : World} {lb fb vb : Nat} {sa : Option Addr} {sn sc : Nat} {aa : Option Addr} {an ac : Nat} {fl lf : List Int} (h : Load w lb fb vb sa sn sc aa an ac fl lf) {a : Nat} (ha : a < an) (hl : fl.length = an) (d : Int) :
    Load (w.setCell ⟨fb, a, none⟩ (.int .i64 (fl.getD a 0 + d))) lb fb vb sa sn sc aa an ac (addAt fl a d) lf := by
  obtain ⟨n1, n2, n3⟩ := h.ne
  refine ⟨(set_blk n1).trans h.c0, (set_blk n1).trans h.c1, (set_blk n1).trans h.c2, (set_blk n1).trans h.c3, (h.rf.set a _).congr ?_, h.rl.setOther (fun e => n3 e.symm) _, by have := h.lt; simpa [World.setCell] using this, h.ne⟩
  intro i hi
  rw [addAt_at _ _ _ _ (by omega)]
  split <;> rfl
theorem Load.setLeft {w : World} {lb fb vb : Nat} {sa : Option Addr} {sn sc : Nat} {aa : Option Addr} {an ac : Nat} {fl lf : List Int} (h : Load w lb fb vb sa sn sc aa an ac fl lf) {a : Nat} (ha : a < sn) (hl : lf.length = sn) (d : Int) :
    Load (w.setCell ⟨vb, a, none⟩ (.int .i64 (lf.getD a 0 + d))) lb fb vb sa sn sc aa an ac fl (addAt lf a d) := by
  obtain ⟨n1, n2, n3⟩ := h.ne
  refine ⟨(set_blk n2).trans h.c0, (set_blk n2).trans h.c1, (set_blk n2).trans h.c2, (set_blk n2).trans h.c3, h.rf.setOther n3 _, (h.rl.set a _).congr ?_, by have := h.lt; simpa [World.setCell] using this, h.ne⟩
  intro i hi
  rw [addAt_at _ _ _ _ (by omega)]
  split <;> rfl

set_option maxHeartbeats 1000000 in
theorem rEnds_any (lb fb vb : Nat) (sa aa : Option Addr) (sn sc an ac : Nat) (fl lf : List Int) (es : List A5) (a : Nat) (bk : Bool) (w : World) (hL : Load w lb fb vb sa sn sc aa an ac fl lf) (he : Arcs w aa an es) (ha : a < an) :
    Calls Try.prog 71 #[.pointer (some ⟨lb, 0, none⟩), .agg #[.int .i64 a, .bool bk]] w fun e w' => e = .returned (.tuple #[.int .i64 ((St.mk a bk).src es), .int .i64 ((St.mk a bk).dst es)]) ∧ Below w.heap.size w w' := by
  have k1 := hL.c1
  have hlt := hL.lt
  obtain ⟨b, off, f, t, l, c, q, rfl, hA, hb, e0, e1, e2, e3, e4⟩ := he.get ha
  have hS : Hid ((St.mk a bk).src es = (if bk = true then t else f) ∧ (St.mk a bk).dst es = (if bk = true then f else t)) := by
    simp only [Hid, St.src, St.dst, hA]; exact ⟨trivial, trivial⟩
  clear hL he hA
  have ha2 : (a : Int) < (an : Int) := by omega
  go_enter Try.func71, Try.ntmps71
  rw [hS.out.1, hS.out.2]
  clear hS
  go_wp2
  go_region
  cases bk with
  | true =>
    go_wp2
    go_region
    go_wp2
    go_ret2
    exact ⟨rfl, ((Joins.below_alloc2 _ _ _).drew).drew⟩
  | false =>
    go_wp2
    go_region
    go_wp2
    go_ret2
    exact ⟨rfl, ((Joins.below_alloc2 _ _ _).drew).drew⟩
end Go.Proofs.Ytojiemadoogjlaa
