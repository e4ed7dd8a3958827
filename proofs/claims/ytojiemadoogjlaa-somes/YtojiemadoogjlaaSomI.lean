import Derived.Test.YtojiemadoogjlaaSomH
namespace Go.Proofs.Ytojiemadoogjlaa
open Go.RowKit Go.Deep
set_option linter.unusedSimpArgs false
set_option linter.unusedVariables false

def stCells : List St → List Value
  | [] => []
  | s :: r => .int .i64 s.arc :: .bool s.back :: stCells r
theorem stCells_len (l : List St) : (stCells l).length = l.length * 2 := by
  induction l with
  | nil => rfl
  | cons s r ih => simp only [stCells, List.length_cons, ih]; omega
theorem stCells_snoc (l : List St) (s : St) : stCells (l ++ [s]) = stCells l ++ [.int .i64 s.arc, .bool s.back] := by
  induction l with
  | nil => rfl
  | cons t r ih => simp only [List.cons_append, stCells, ih]
theorem stCells_at (l : List St) (k : Nat) (hk : k < l.length) : (stCells l)[k * 2]? = some (.int .i64 (l.getD k zS).arc) ∧ (stCells l)[k * 2 + 1]? = some (.bool (l.getD k zS).back) := by
  induction l generalizing k with
  | nil => simp at hk
  | cons s r ih =>
    cases k with
    | zero => exact ⟨rfl, rfl⟩
    | succ k =>
      have h := ih k (by simpa using hk)
      simp only [stCells, List.getD_cons_succ]
      rw [show (k + 1) * 2 = k * 2 + 1 + 1 from by omega]
      simpa only [List.getElem?_cons_succ] using h

/-- A list of steps of the call's own. -/
def OwnS (w : World) (base : Nat) (v : Value) (l : List St) : Prop := ∃ oa oc, v = .slice oa l.length oc ∧ w.ownsRow base 85 2 (.slice oa l.length oc) l.length (stCells l)
theorem OwnS.lit (w : World) : OwnS (w.alloc (.cells #[] 85)) w.heap.size (.slice (some ⟨w.heap.size, 0, none⟩) 0 0) [] :=
  ⟨_, _, rfl, World.ownsRow_lit w #[] 0 (Nat.le_refl _) (by unfold maxLen; omega) rfl⟩
theorem OwnS.get {w : World} {base : Nat} {v : Value} {l : List St} (h : OwnS w base v l) {k : Nat} (hk : k < l.length) :
    ∃ b c, v = .slice (some ⟨b, 0, none⟩) l.length c ∧ base ≤ b ∧ b < w.heap.size ∧ w.cell? ⟨b, k * 2, none⟩ = some (.int .i64 (l.getD k zS).arc) ∧ w.cell? ⟨b, k * 2 + 1, none⟩ = some (.bool (l.getD k zS).back) := by
  obtain ⟨oa, oc, rfl, ho⟩ := h
  rcases ho.2 with ⟨_, h0⟩ | ⟨g, cap, cur, e, hg, hh, hn, hm, hc, ht⟩
  · omega
  · cases e
    obtain ⟨a1, a2⟩ := stCells_at l k hk
    have hlt := (ho.lt g rfl).2
    exact ⟨g, oc, rfl, hg, hlt, by rw [ho.cellAt _ (by omega)]; exact a1, by rw [ho.cellAt _ (by omega)]; exact a2⟩
theorem OwnS.kept {w w' : World} {base : Nat} {v : Value} {l : List St} (h : OwnS w base v l) {row : Option Nat} (hg : w.grownBy w' row) (hr : ∀ k, row = some k → k < base) : OwnS w' base v l := by
  obtain ⟨oa, oc, rfl, ho⟩ := h
  refine ⟨oa, oc, rfl, ho.kept hg ?_⟩
  cases hb : (Value.slice oa l.length oc).ownBlock with
  | none => exact .inl rfl
  | some k =>
    right
    intro e
    have h1 := (ho.lt k hb).1
    have h2 := hr k e.symm
    omega

theorem OwnS.blk {w : World} {base : Nat} {v : Value} {l : List St} (h : OwnS w base v l) : ∀ k, v.ownBlock = some k → base ≤ k ∧ k < w.heap.size := by
  obtain ⟨oa, oc, rfl, ho⟩ := h
  exact fun k hk => ho.lt k hk

theorem wpList_push_step {w : World} {ops : Array Oper} {rest : List Oper} {o : Oper} {a : Act} {Q : Exit → Act → World → Prop} (hgd : o.guard = none) (s x : Operand)
    (ho : o.op = .call { callee := .builtin .append, args := #[s, x], argTypes := #[77, 77] }) (base : Nat) (v : Value) (l : List St)
    (hs : a.eval s = v) (hown : OwnS w base v l) (g : Nat) (y : St) (c : Nat) (hx : a.eval x = .slice (some ⟨g, 0, none⟩) 1 c) (hy : w.cell? ⟨g, 0, none⟩ = some (.int .i64 y.arc)) (hy2 : w.cell? ⟨g, 1, none⟩ = some (.bool y.back))
    (hl : l.length ≤ 1000) (hb : base ≤ w.heap.size)
    (h : ∀ v' w', OwnS w' base v' (l ++ [y]) → w.grownBy w' v.ownBlock → wpList Try.prog ops Q rest (a.put o.dst v') w') : wpList Try.prog ops Q (o :: rest) a w := by
  obtain ⟨oa, oc, rfl, hown⟩ := hown
  obtain ⟨i0, hi, hz0, hz1, hz2⟩ := info_parts infoStep
  refine wpList_append_own w hgd s x 77 ho base 85 i0 _ 2 16 Try.underlying77 hi hz0 hz1 hz2 rfl (by decide) _ l.length (stCells l) hs hown ⟨g, 0, none⟩ 1 c [.int .i64 y.arc, .bool y.back] hx rfl ?_ ?_ (by unfold maxLen; omega) (by omega) hb ?_
  · intro j u hj
    rcases j with _ | _ | j
    · simp at hj; subst hj; simpa [Addr.add] using hy
    · simp at hj; subst hj; simpa [Addr.add] using hy2
    · simp at hj
  · intro u hu; simp at hu; rcases hu with rfl | rfl <;> rfl
  · intro v' w' hown' hgr _
    rcases hown'.2 with ⟨_, h0⟩ | ⟨g', cap, cur, rfl, r⟩
    · omega
    · refine h _ w' ⟨some ⟨g', 0, none⟩, cap, by simp, ?_⟩ hgr
      rw [stCells_snoc, List.length_append]
      exact hown'

set_option maxHeartbeats 2000000 in
theorem rWayTo_any (K G rb sb tb ab : Nat) (oa : Option Addr) (oc : Nat) (seen start : Nat → Bool) (order : List Int) (last : Nat → St) (pos : Nat → Nat) (lb fb vb : Nat) (sa aa : Option Addr) (sn sc an ac : Nat) (xs fl lf : List Int) (es : List A5) (e0 : Nat) (w : World)
    (hn : NetOK xs es) (hxn : xs.length = sn) (hL : Load w lb fb vb sa sn sc aa an ac fl lf) (he : Arcs w aa an es)
    (hR : Reach w K G rb sb tb ab sn oa oc seen start order last) (hI : RInv es fl lf sn seen start order last pos) (hel : e0 < sn) (hes : seen e0 = true) :
    Calls Try.prog 66 #[.pointer (some ⟨lb, 0, none⟩), .pointer (some ⟨rb, 0, none⟩), .int .i64 e0] w fun e w' => ∃ (s : Nat) (v : Value) (way : List St), e = .returned (.tuple #[.int .i64 s, v]) ∧ s < sn ∧ start s = true ∧ BackOK es fl pos way e0 s ∧ way.length ≤ 10 ∧ OwnS w' w.heap.size v way ∧ Below w.heap.size w w' := by
  have HL := hide hL
  have HE := hide he
  have HR := hide hR
  have HI := hide hI
  have hal : Hid (es.length = an) := he.len
  have h10 : sn ≤ 10 := by rw [← hxn]; exact hn.ten
  have hsm := hI.small
  have hpe := hI.posb e0 hel hes
  have HES := hide hes
  clear hL he hR hI hes
  go_enter Try.func66, Try.ntmps66
  go_wp2
  go_loopw [8, 9, 10] (fun v i p wr => ∃ (a : Nat) (way : List St), i = .int .i64 a ∧ a < sn ∧ Hid (seen a = true) ∧ Hid (BackOK es fl pos way e0 a) ∧ Hid (OwnS wr w.heap.size v way) ∧ Below w.heap.size w wr) (fun _ i _ _ => pos (intOf i).toNat)
  case atStart => exact ⟨e0, [], rfl, hel, HES.out, BackOK.start _ _ _ _, OwnS.lit w, (Below.refl _ _).alloc (Nat.le_refl _) _⟩
  case round =>
    obtain ⟨a, way, rfl, ha, hs, hW, hO, hb⟩ := hrel
    have hR1 := HR.out.grow hb
    have k2 := hR1.c2
    have ct := hR1.rt.cell ha
    have ha2 : (a : Int) < (sn : Int) := by omega
    have hwl : way.length ≤ 10 := by have := hW.out.short; omega
    cases hst : start a with
    | true =>
      rw [hst] at ct
      clear hR1
      go_wp2
      go_ret2
      exact ⟨a, _, way, rfl, ha, hst, hW.out, hwl, hO.out, hb⟩
    | false =>
      rw [hst] at ct
      subst hxn
      obtain ⟨p, hp, hpl, hps, hpp, hW2⟩ := hW.out.next hn HI.out ha hs.out hst
      have harc := (HI.out.way a ha hs.out hst).1
      rw [hal.out] at harc
      have k3 := hR1.c3
      have c1 := hR1.ra.cell (i := a * 2) (by omega)
      have c2 := hR1.ra.cell (i := a * 2 + 1) (by omega)
      rw [lastEven] at c1
      rw [lastOdd] at c2
      obtain ⟨⟨la, lk⟩, hlast⟩ : ∃ s, last a = s := ⟨_, rfl⟩
      rw [hlast] at c1 c2 hW2 harc hp
      simp only [] at c1 c2 harc
      have HP := hide hp
      have HW2 := hide hW2
      have HPS := hide hps
      have HPP := hide hpp
      have hsz := hb.size
      have hO2 := hide (hO.out.kept (grown_of_below (Joins.below_alloc2 wr (.cells #[.int .i64 la, .bool lk] 85) (.cells #[.int .i64 la, .bool lk] 85)) none) (fun k h => by cases h))
      clear hp hW2 hps hpp hR1 hst hlast
      go_wp2_with (at_builtin; refine wpList_push_step rfl (.tmp 28) (.tmp 30) rfl w.heap.size _ way rfl ?_ (wr.heap.size + 1) ⟨la, lk⟩ 1 rfl ?_ ?_ (by omega) ?_ ?_)
      · exact hO2.out
      · simp; omega
      intro v' w2 hO3 hgr
      have hb2 : Below w.heap.size w w2 := ((hb.alloc hsz _).alloc (by simp; omega) _).grown hgr (by simp; omega) (fun k hk => (hO.out.blk k hk).1)
      have d0 : w2.cell? ⟨wr.heap.size, 0, none⟩ = some (.int .i64 la) := hgr.cell (a := ⟨wr.heap.size, 0, none⟩) (by go_simp) (fun e => by have := (hO.out.blk _ e.symm).2; simp at this)
      have d1 : w2.cell? ⟨wr.heap.size, 1, none⟩ = some (.bool lk) := hgr.cell (a := ⟨wr.heap.size, 1, none⟩) (by go_simp) (fun e => by have := (hO.out.blk _ e.symm).2; simp at this)
      clear k2 k3 ct c1 c2
      go_wp2_with fail
      refine (rEnds_any lb fb vb sa aa xs.length sc an ac fl lf es la lk _ (HL.out.grow hb2) (HE.out.below hb2) harc).mono ?_
      rintro e w3 ⟨rfl, hb3⟩
      rw [HP.out]
      have hb4 : Below w.heap.size w w3 := hb2.trans (hb3.mono hb2.size)
      have hO4 := hide (hO3.kept (grown_of_below hb3 none) (fun k h => by cases h))
      clear d0 d1
      go_wp2
      go_roundw
      case rel => exact ⟨p, _, rfl, hpl, HPS.out, HW2.out, hO4.out, hb4⟩
      case measure => simp [intOf]; exact HPP.out
end Go.Proofs.Ytojiemadoogjlaa
