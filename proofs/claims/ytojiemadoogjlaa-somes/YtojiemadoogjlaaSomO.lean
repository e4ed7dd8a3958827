import Derived.Test.YtojiemadoogjlaaSomN
import Derived.Test.YtojiemadoogjlaaCopy
namespace Go.Proofs.Ytojiemadoogjlaa
open Go.RowKit Go.Deep
set_option linter.unusedSimpArgs false
set_option linter.unusedVariables false

theorem grown_of_below {w w' : World} (h : Below w.heap.size w w') (row : Option Nat) : w.grownBy w' row := ⟨h.os, h.tape, h.output, h.size, fun k hk _ => h.block k hk⟩

/-- In the walk: append(l, y), l a row of numbers of the call's own. -/
theorem wpList_push_int {w : World} {ops : Array Oper} {rest : List Oper} {o : Oper} {a : Act} {Q : Exit → Act → World → Prop} (hgd : o.guard = none) (s x : Operand)
    (ho : o.op = .call { callee := .builtin .append, args := #[s, x], argTypes := #[22, 22] }) (base : Nat) (oa : Option Addr) (oc : Nat) (l : List Int)
    (hs : a.eval s = .slice oa l.length oc) (hown : w.ownsRow base 3 1 (.slice oa l.length oc) l.length (intCells l)) (g : Nat) (y : Int) (c : Nat) (hx : a.eval x = .slice (some ⟨g, 0, none⟩) 1 c) (hy : w.cell? ⟨g, 0, none⟩ = some (.int .i64 y))
    (hl : l.length ≤ 1000) (hb : base ≤ w.heap.size)
    (h : ∀ g' c' w', w'.ownsRow base 3 1 (.slice (some ⟨g', 0, none⟩) (l.length + 1) c') (l.length + 1) (intCells (l ++ [y])) → w.grownBy w' (Value.slice oa l.length oc).ownBlock → wpList Try.prog ops Q rest (a.put o.dst (.slice (some ⟨g', 0, none⟩) (l.length + 1) c')) w') : wpList Try.prog ops Q (o :: rest) a w := by
  obtain ⟨i0, hi, hz0, hz1, hz2⟩ := info_parts infoInt
  refine wpList_append_own w hgd s x 22 ho base 3 i0 _ 1 8 Try.underlying22 hi hz0 hz1 hz2 rfl (by decide) _ l.length (intCells l) hs hown ⟨g, 0, none⟩ 1 c [.int .i64 y] hx rfl ?_ ?_ (by unfold maxLen; omega) (by omega) hb ?_
  · intro j u hj
    cases j with
    | zero => simp at hj; subst hj; simpa [Addr.add] using hy
    | succ j => simp at hj
  · intro u hu; simp at hu; subst hu; rfl
  · intro v' w' hown' hgr _
    have hlen : intCells (l ++ [y]) = intCells l ++ [.int .i64 y] := by simp [intCells]
    rcases hown'.2 with ⟨_, h0⟩ | ⟨g', cap, cur, rfl, r⟩
    · omega
    · exact h g' cap w' (by rw [hlen]; exact hown') hgr

def rF (sb tb ab n : Nat) (ov : Value) (i : Nat) : Value := if i = 0 then .slice (some ⟨sb, 0, none⟩) n n else if i = 1 then ov else if i = 2 then .slice (some ⟨tb, 0, none⟩) n n else .slice (some ⟨ab, 0, none⟩) n n
def lastF (last : Nat → St) (j : Nat) : Value := if j % 2 = 0 then .int .i64 (last (j / 2)).arc else .bool (last (j / 2)).back

/-- The memory of those who are reached: the struct at rb, its lists at sb, tb, ab, the order among the blocks from G on. -/
structure Reach (w : World) (K G rb sb tb ab n : Nat) (oa : Option Addr) (oc : Nat) (seen start : Nat → Bool) (order : List Int) (last : Nat → St) : Prop where
  rr : w.rowIs rb 79 4 (rF sb tb ab n (.slice oa order.length oc))
  rs : w.rowIs sb 4 n (fun i => .bool (seen i))
  rt : w.rowIs tb 4 n (fun i => .bool (start i))
  ra : w.rowIs ab 85 (n * 2) (lastF last)
  ro : w.ownsRow G 3 1 (.slice oa order.length oc) order.length (intCells order)
  lo : K ≤ rb ∧ K ≤ sb ∧ K ≤ tb ∧ K ≤ ab
  hi : rb < G ∧ sb < G ∧ tb < G ∧ ab < G
  ne : rb ≠ sb ∧ rb ≠ tb ∧ rb ≠ ab ∧ sb ≠ tb ∧ sb ≠ ab ∧ tb ≠ ab
  size : G ≤ w.heap.size
  kg : K ≤ G

section
variable {w w' : World} {K G rb sb tb ab n : Nat} {oa : Option Addr} {oc : Nat} {seen start : Nat → Bool} {order : List Int} {last : Nat → St}
theorem Reach.grow (h : Reach w K G rb sb tb ab n oa oc seen start order last) (hb : Below w.heap.size w w') : Reach w' K G rb sb tb ab n oa oc seen start order last :=
  ⟨below_row hb h.rr h.rr.lt, below_row hb h.rs h.rs.lt, below_row hb h.rt h.rt.lt, below_row hb h.ra h.ra.lt, h.ro.kept (grown_of_below hb none) (by cases oa <;> simp [Value.ownBlock]), h.lo, h.hi, h.ne, Nat.le_trans h.size hb.size, h.kg⟩
theorem Reach.c0 (h : Reach w K G rb sb tb ab n oa oc seen start order last) : w.cell? ⟨rb, 0, none⟩ = some (.slice (some ⟨sb, 0, none⟩) n n) := h.rr.cell (i := 0) (by omega)
theorem Reach.c1 (h : Reach w K G rb sb tb ab n oa oc seen start order last) : w.cell? ⟨rb, 1, none⟩ = some (.slice oa order.length oc) := h.rr.cell (i := 1) (by omega)
theorem Reach.c2 (h : Reach w K G rb sb tb ab n oa oc seen start order last) : w.cell? ⟨rb, 2, none⟩ = some (.slice (some ⟨tb, 0, none⟩) n n) := h.rr.cell (i := 2) (by omega)
theorem Reach.c3 (h : Reach w K G rb sb tb ab n oa oc seen start order last) : w.cell? ⟨rb, 3, none⟩ = some (.slice (some ⟨ab, 0, none⟩) n n) := h.rr.cell (i := 3) (by omega)
theorem ownsRow_set_below {base : Nat} {e : TypeId} {size : Nat} {v : Value} {m : Nat} {xs : List Value} (h : w.ownsRow base e size v m xs) {b o : Nat} (ha : b < base) (u : Value) : (w.setCell ⟨b, o, none⟩ u).ownsRow base e size v m xs := ownsRow_setCell_below h ha u
theorem Reach.setSeen (h : Reach w K G rb sb tb ab n oa oc seen start order last) (v : Nat) : Reach (w.setCell ⟨sb, v, none⟩ (.bool true)) K G rb sb tb ab n oa oc (upd seen v true) start order last := by
  obtain ⟨n1, n2, n3, n4, n5, n6⟩ := h.ne
  exact ⟨h.rr.setOther n1 _, (h.rs.set v _).congr (fun i _ => by unfold upd; split <;> rfl), h.rt.setOther (fun e => n4 e.symm) _, h.ra.setOther (fun e => n5 e.symm) _, ownsRow_set_below h.ro h.hi.2.1 _, h.lo, h.hi, h.ne, by have := h.size; simpa [World.setCell] using this, h.kg⟩
theorem Reach.setStart (h : Reach w K G rb sb tb ab n oa oc seen start order last) (v : Nat) : Reach (w.setCell ⟨tb, v, none⟩ (.bool true)) K G rb sb tb ab n oa oc seen (upd start v true) order last := by
  obtain ⟨n1, n2, n3, n4, n5, n6⟩ := h.ne
  exact ⟨h.rr.setOther n2 _, h.rs.setOther n4 _, (h.rt.set v _).congr (fun i _ => by unfold upd; split <;> rfl), h.ra.setOther (fun e => n6 e.symm) _, ownsRow_set_below h.ro h.hi.2.2.1 _, h.lo, h.hi, h.ne, by have := h.size; simpa [World.setCell] using this, h.kg⟩
theorem Reach.setLast (h : Reach w K G rb sb tb ab n oa oc seen start order last) (v : Nat) (s : St) : Reach ((w.setCell ⟨ab, v * 2, none⟩ (.int .i64 s.arc)).setCell ⟨ab, v * 2 + 1, none⟩ (.bool s.back)) K G rb sb tb ab n oa oc seen start order (upd last v s) := by
  obtain ⟨n1, n2, n3, n4, n5, n6⟩ := h.ne
  refine ⟨(h.rr.setOther n3 _).setOther n3 _, (h.rs.setOther n5 _).setOther n5 _, (h.rt.setOther n6 _).setOther n6 _, ((h.ra.set (v * 2) _).set (v * 2 + 1) _).congr ?_, ownsRow_set_below (ownsRow_set_below h.ro h.hi.2.2.2 _) h.hi.2.2.2 _, h.lo, h.hi, h.ne, by have := h.size; simpa [World.setCell] using this, h.kg⟩
  intro i hi
  unfold lastF upd
  by_cases e1 : i = v * 2 + 1
  · subst e1
    rw [if_pos rfl, if_neg (by omega), if_pos (by omega)]
  · by_cases e2 : i = v * 2
    · subst e2
      rw [if_neg e1, if_pos rfl, if_pos (by omega), if_pos (by omega)]
    · rw [if_neg e1, if_neg e2, if_neg (show ¬ i / 2 = v by omega)]
/-- The order is another now. -/
theorem Reach.setOrder (h : Reach w K G rb sb tb ab n oa oc seen start order last) (hg : w.grownBy w' (Value.slice oa order.length oc).ownBlock) {oa' : Option Addr} {oc' : Nat} {order' : List Int} (ho : w'.ownsRow G 3 1 (.slice oa' order'.length oc') order'.length (intCells order')) :
    Reach (w'.setCell ⟨rb, 1, none⟩ (.slice oa' order'.length oc')) K G rb sb tb ab n oa' oc' seen start order' last := by
  obtain ⟨n1, n2, n3, n4, n5, n6⟩ := h.ne
  obtain ⟨i1, i2, i3, i4⟩ := h.hi
  have hno : ∀ b, b < G → some b ≠ (Value.slice oa order.length oc).ownBlock := by
    intro b hb e
    have := h.ro.lt b e.symm
    omega
  refine ⟨((grown_row hg h.rr (hno _ i1)).set 1 _).congr ?_, (grown_row hg h.rs (hno _ i2)).setOther n1.symm _, (grown_row hg h.rt (hno _ i3)).setOther n2.symm _, (grown_row hg h.ra (hno _ i4)).setOther n3.symm _, ownsRow_set_below ho i1 _, h.lo, h.hi, h.ne, by have := h.size; have := hg.size; simp [World.setCell]; omega, h.kg⟩
  intro i hi
  unfold rF
  by_cases e1 : i = 1
  · subst e1; simp
  · rw [if_neg e1, if_neg e1, if_neg e1]
theorem Reach.oblk (h : Reach w K G rb sb tb ab n oa oc seen start order last) : ∀ k, (Value.slice oa order.length oc).ownBlock = some k → K ≤ k := by
  intro k hk
  have := h.ro.lt k hk
  have := h.kg
  omega
end

set_option maxHeartbeats 1000000 in
theorem rSee_any (K G rb sb tb ab n : Nat) (oa : Option Addr) (oc : Nat) (seen start : Nat → Bool) (order : List Int) (last : Nat → St) (v : Nat) (w : World) (hR : Reach w K G rb sb tb ab n oa oc seen start order last) (hv : v < n) (ho : order.length ≤ 1000) :
    Calls Try.prog 64 #[.pointer (some ⟨rb, 0, none⟩), .int .i64 v] w fun e w' => e = .returned (.tuple #[]) ∧ ∃ oa' oc', Reach w' K G rb sb tb ab n oa' oc' (upd seen v true) start (order ++ [(v : Int)]) last ∧ Below K w w' := by
  have k0 := hR.c0
  have cv := hR.rs.cell hv
  have fv := hR.rs.frozen v
  have hR1 := hR.setSeen v
  have hb1 : Below K w (w.setCell ⟨sb, v, none⟩ (.bool true)) := (Below.refl _ _).setCell (p := ⟨sb, v, none⟩) hR.lo.2.1 _
  have k1 := hR1.c1
  have hG := hR.size
  have hsz : (w.setCell ⟨sb, v, none⟩ (.bool true)).heap.size = w.heap.size := by simp [World.setCell]
  have HSZ := hide hsz
  clear hsz
  have HR1 := hide hR1
  have hrb : K ≤ rb := hR.lo.1
  have hkg := hR.kg
  clear hR hR1
  have hv2 : (v : Int) < (n : Int) := by omega
  go_enter Try.func64, Try.ntmps64
  go_wp2_with (at_builtin; refine wpList_push_int rfl (.tmp 14) (.tmp 16) rfl G oa oc order rfl ?_ w.heap.size v 1 rfl ?_ ho ?_ ?_)
  · exact HR1.out.ro.alloc _
  · go_simp
  · simp; omega
  intro g' c' w2 hown hgr
  have hlen : (order ++ [(v : Int)]).length = order.length + 1 := by simp
  have hR2 := HR1.out.grow (Joins.below_alloc1 _ (.cells #[.int .i64 v] 3))
  have hfin := hR2.setOrder hgr (oa' := some ⟨g', 0, none⟩) (oc' := c') (order' := order ++ [(v : Int)]) (by rw [hlen]; exact hown)
  rw [hlen] at hfin
  have hb2 : Below K w w2 := (hb1.alloc (by rw [HSZ.out]; omega) _).grown hgr (by simp; omega) hR2.oblk
  have hrow := grown_row hgr hR2.rr (fun e => by have := hR2.ro.lt _ e.symm; have := hR2.hi.1; omega)
  have q1 := hrow.cell (i := 1) (by omega)
  have qf := hrow.frozen 1
  clear hrow k0 k1 cv fv
  go_wp2
  go_end0
  exact ⟨rfl, _, _, hfin, hb2.setCell (p := ⟨rb, 1, none⟩) hrb _⟩
end Go.Proofs.Ytojiemadoogjlaa
