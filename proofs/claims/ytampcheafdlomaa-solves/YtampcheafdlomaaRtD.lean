import Derived.Test.YtampcheafdlomaaRtB
import Derived.Test.YtampcheafdlomaaRtC
namespace Go.Proofs.Ytampcheafdlomaa
open Go.RowKit Go.Deep
set_option linter.unusedSimpArgs false
set_option linter.unusedVariables false

def stCells : List St → List Value
  | [] => []
  | s :: r => .int .i64 s.arc :: .bool s.back :: stCells r
theorem stCells_len (l : List St) : (stCells l).length = l.length * 2 := by
  induction l with
  | nil => rfl
  | cons s r ih => simp only [stCells, List.length_cons, ih]; omega
theorem stCells_snoc (l : List St) (s : St) : stCells (l ++ [s]) = stCells l ++ [.int .i64 s.arc, .bool s.back] := by
  induction l with
  | nil => rfl
  | cons t r ih => simp only [List.cons_append, stCells, ih]
theorem stCells_at (l : List St) (k : Nat) (hk : k < l.length) : (stCells l)[k * 2]? = some (.int .i64 (l.getD k zS).arc) ∧ (stCells l)[k * 2 + 1]? = some (.bool (l.getD k zS).back) := by
  induction l generalizing k with
  | nil => simp at hk
  | cons s r ih =>
    cases k with
    | zero => exact ⟨rfl, rfl⟩
    | succ k =>
      have h := ih k (by simpa using hk)
      simp only [stCells, List.getD_cons_succ]
      rw [show (k + 1) * 2 = k * 2 + 1 + 1 from by omega]
      simpa only [List.getElem?_cons_succ] using h

/-- A list of steps of the call's own. -/
def OwnS (w : World) (base : Nat) (v : Value) (l : List St) : Prop := ∃ oa oc, v = .slice oa l.length oc ∧ w.ownsRow base 86 2 (.slice oa l.length oc) l.length (stCells l)
theorem OwnS.lit (w : World) : OwnS (w.alloc (.cells #[] 86)) w.heap.size (.slice (some ⟨w.heap.size, 0, none⟩) 0 0) [] :=
  ⟨_, _, rfl, World.ownsRow_lit w #[] 0 (Nat.le_refl _) (by unfold maxLen; omega) rfl⟩
theorem OwnS.get {w : World} {base : Nat} {v : Value} {l : List St} (h : OwnS w base v l) {k : Nat} (hk : k < l.length) :
    ∃ b c, v = .slice (some ⟨b, 0, none⟩) l.length c ∧ base ≤ b ∧ b < w.heap.size ∧ w.cell? ⟨b, k * 2, none⟩ = some (.int .i64 (l.getD k zS).arc) ∧ w.cell? ⟨b, k * 2 + 1, none⟩ = some (.bool (l.getD k zS).back) := by
  obtain ⟨oa, oc, rfl, ho⟩ := h
  rcases ho.2 with ⟨_, h0⟩ | ⟨g, cap, cur, e, hg, hh, hn, hm, hc, ht⟩
  · omega
  · cases e
    obtain ⟨a1, a2⟩ := stCells_at l k hk
    have hlt := (ho.lt g rfl).2
    exact ⟨g, oc, rfl, hg, hlt, by rw [ho.cellAt _ (by omega)]; exact a1, by rw [ho.cellAt _ (by omega)]; exact a2⟩
theorem OwnS.kept {w w' : World} {base : Nat} {v : Value} {l : List St} (h : OwnS w base v l) {row : Option Nat} (hg : w.grownBy w' row) (hr : ∀ k, row = some k → k < base) : OwnS w' base v l := by
  obtain ⟨oa, oc, rfl, ho⟩ := h
  refine ⟨oa, oc, rfl, ho.kept hg ?_⟩
  cases hb : (Value.slice oa l.length oc).ownBlock with
  | none => exact .inl rfl
  | some k =>
    right
    intro e
    have h1 := (ho.lt k hb).1
    have h2 := hr k e.symm
    omega

theorem OwnS.blk {w : World} {base : Nat} {v : Value} {l : List St} (h : OwnS w base v l) : ∀ k, v.ownBlock = some k → base ≤ k ∧ k < w.heap.size := by
  obtain ⟨oa, oc, rfl, ho⟩ := h
  exact fun k hk => ho.lt k hk

theorem wpList_push_step {w : World} {ops : Array Oper} {rest : List Oper} {o : Oper} {a : Act} {Q : Exit → Act → World → Prop} (hgd : o.guard = none) (s x : Operand)
    (ho : o.op = .call { callee := .builtin .append, args := #[s, x], argTypes := #[79, 79] }) (base : Nat) (v : Value) (l : List St)
    (hs : a.eval s = v) (hown : OwnS w base v l) (g : Nat) (y : St) (c : Nat) (hx : a.eval x = .slice (some ⟨g, 0, none⟩) 1 c) (hy : w.cell? ⟨g, 0, none⟩ = some (.int .i64 y.arc)) (hy2 : w.cell? ⟨g, 1, none⟩ = some (.bool y.back))
    (hl : l.length ≤ 1000) (hb : base ≤ w.heap.size)
    (h : ∀ v' w', OwnS w' base v' (l ++ [y]) → w.grownBy w' v.ownBlock → wpList Try.prog ops Q rest (a.put o.dst v') w') : wpList Try.prog ops Q (o :: rest) a w := by
  obtain ⟨oa, oc, rfl, hown⟩ := hown
  obtain ⟨i0, hi, hz0, hz1, hz2⟩ := info_parts infoStep
  refine wpList_append_own w hgd s x 79 ho base 86 i0 _ 2 16 Try.underlying79 hi hz0 hz1 hz2 rfl (by decide) _ l.length (stCells l) hs hown ⟨g, 0, none⟩ 1 c [.int .i64 y.arc, .bool y.back] hx rfl ?_ ?_ (by unfold maxLen; omega) (by omega) hb ?_
  · intro j u hj
    rcases j with _ | _ | j
    · simp at hj; subst hj; simpa [Addr.add] using hy
    · simp at hj; subst hj; simpa [Addr.add] using hy2
    · simp at hj
  · intro u hu; simp at hu; rcases hu with rfl | rfl <;> rfl
  · intro v' w' hown' hgr _
    rcases hown'.2 with ⟨_, h0⟩ | ⟨g', cap, cur, rfl, r⟩
    · omega
    · refine h _ w' ⟨some ⟨g', 0, none⟩, cap, by simp, ?_⟩ hgr
      rw [stCells_snoc, List.length_append]
      exact hown'


set_option maxHeartbeats 1000000 in
theorem rBefore_any (K rb sb cb ab : Nat) (seen : Nat → Bool) (cost : Nat → Int) (last : Nat → St) (nw : Int) (lb fb vb : Nat) (sa aa : Option Addr) (sn sc an ac : Nat) (xs fl lf : List Int) (es : List A5) (v : Nat) (w : World)
    (hn : NetOK xs es) (hL : Load w lb fb vb sa sn sc aa an ac fl lf) (he : Arcs w aa an es) (hW : Ways w K rb sb cb ab sn seen cost last nw) (hv : v < sn) (ha : (last v).arc < an) :
    Calls Try.prog 78 #[.pointer (some ⟨lb, 0, none⟩), .pointer (some ⟨rb, 0, none⟩), .int .i64 v] w fun e w' => e = .returned (.int .i64 ((last v).srcN es : Int)) ∧ Below w.heap.size w w' := by
  have k2 := hW.c2
  have c1 := hW.ra.cell (i := v * 2) (by omega)
  have c2 := hW.ra.cell (i := v * 2 + 1) (by omega)
  rw [lastEven] at c1
  rw [lastOdd] at c2
  have hends := (st_ends hn (s := last v) (by rw [he.len]; exact ha)).1
  obtain ⟨⟨la, lk⟩, hlast⟩ : ∃ s, last v = s := ⟨_, rfl⟩
  rw [hlast] at c1 c2 ha hends ⊢
  simp only [] at c1 c2 ha
  have cE : n0 (Calls Try.prog 87 #[.pointer (some ⟨lb, 0, none⟩), .agg #[.int .i64 la, .bool lk]] w fun e w' => e = .returned (.tuple #[.int .i64 ((St.mk la lk).srcN es : Int), .int .i64 ((St.mk la lk).dst es)]) ∧ Below w.heap.size w w') := by
    rw [← hends]; exact rEnds_any lb fb vb sa aa sn sc an ac fl lf es la lk w hL he ha
  have hv2 : (v : Int) < (sn : Int) := by omega
  clear hL he hW hlast hends
  go_enter Try.func78, Try.ntmps78
  go_wp2_with fail
  refine Calls.mono cE.out ?_
  rintro e w1 ⟨rfl, hb1⟩
  clear cE k2 c1 c2
  go_wp2
  go_ret
  exact ⟨rfl, hb1⟩

def lenOf : Value → Nat
  | .slice _ n _ => n
  | _ => 0
theorem ready_not {lf : List Int} {v : Nat} (h : lf.getD v 0 ≤ 0) : readyF lf v = false := decide_eq_false (by omega)

set_option maxHeartbeats 2000000 in
theorem rWayTo_any (K rb sb cb ab : Nat) (seen : Nat → Bool) (cost : Nat → Int) (last : Nat → St) (nw : Int) (T R : Nat → Nat) (c r : Nat) (done : St → Prop) (lb fb vb : Nat) (sa aa : Option Addr) (sn sc an ac : Nat) (xs fl lf : List Int) (es : List A5) (p : Nat → Int) (e0 : Nat) (w : World)
    (hn : NetOK xs es) (hxn : xs.length = sn) (hL : Load w lb fb vb sa sn sc aa an ac fl lf) (he : Arcs w aa an es) (hp : Pot es fl p)
    (hW : Ways w K rb sb cb ab sn seen cost last nw) (hI : WInv es fl sn (readyF lf) seen cost last T R c r done) (hel : e0 < sn) (hes : seen e0 = true) :
    Calls Try.prog 88 #[.pointer (some ⟨lb, 0, none⟩), .pointer (some ⟨rb, 0, none⟩), .int .i64 e0] w fun e w' => ∃ (k : Nat) (v : Value), e = .returned (.tuple #[.int .i64 (bk es last e0 k : Int), v]) ∧ k < sn ∧ 0 < lf.getD (bk es last e0 k) 0 ∧ (∀ j, j < k → T (bk es last e0 j) ≠ 0) ∧ OwnS w' w.heap.size v (wayL es last e0 k) ∧ Below w.heap.size w w' := by
  have HL := hide hL
  have HE := hide he
  have HW := hide hW
  have HI := hide hI
  have HP := hide hp
  have hal : Hid (es.length = an) := he.len
  have h10 : sn ≤ 10 := by rw [← hxn]; exact hn.ten
  have HES := hide hes
  clear hL he hW hI hes hp
  go_enter Try.func88, Try.ntmps88
  go_wp2
  go_loopw [8, 9] (fun v i wr => ∃ (k : Nat), i = .int .i64 (bk es last e0 k : Int) ∧ Hid (∀ j, j < k → T (bk es last e0 j) ≠ 0) ∧ Hid (seen (bk es last e0 k) = true) ∧ Hid (OwnS wr w.heap.size v (wayL es last e0 k)) ∧ Below w.heap.size w wr ∧ k < sn ∧ lenOf v = k) (fun v _ _ => sn - lenOf v)
  case atStart => exact ⟨0, rfl, fun j hj => by omega, HES.out, OwnS.lit w, (Below.refl _ _).alloc (Nat.le_refl _) _, by omega, rfl⟩
  case round =>
    obtain ⟨k, rfl, hT, hs, hO, hb, hks, hlv⟩ := hrel
    have hkn := HI.out.bk_short HP.out hel k hT.out
    have hal' := HI.out.bk_lt hel k hT.out k (Nat.le_refl _)
    obtain ⟨a, haa⟩ : ∃ a, bk es last e0 k = a := ⟨_, rfl⟩
    have HAA := hide haa
    rw [haa] at hal' hs ⊢
    have hL1 := HL.out.grow hb
    have hW1 := HW.out.grow hb
    have k3 := hL1.c3
    have ca := hL1.rl.cell hal'
    have k2 := hW1.c2
    have ha2 : (a : Int) < (sn : Int) := by omega
    have hlen : (wayL es last e0 k).length = k := wayL_len _ _ _ _
    by_cases hpos : 0 < lf.getD a 0
    · have HPOS : Hid (0 < lf.getD (bk es last e0 k) 0) := by rw [HAA.out]; exact hpos
      have hdec : decide (lf.getD a 0 ≤ 0) = false := decide_eq_false (by omega)
      obtain ⟨wa, wc, hv, _⟩ := hO.out
      subst hv
      generalize hxx : lf.getD a 0 = x at ca hpos hdec
      clear hxx hL1 hW1 haa
      go_wp2
      all_goals first
        | (exfalso; omega)
        | (go_ret2
           exact ⟨k, .slice wa (wayL es last e0 k).length wc, by rw [HAA.out]; rfl, hkn, HPOS.out, hT.out, hO.out, hb⟩)
    · have hTa : T a ≠ 0 := fun e => by
        have h1 := HI.out.root a hal' hs.out e
        rw [ready_not (by omega)] at h1
        cases h1
      have hway := HI.out.way a hal' hTa
      have harc := hway.2.1
      have hseen := hway.2.2.2.2.2.1
      rw [hal.out] at harc
      have hdec : decide (lf.getD a 0 ≤ 0) = true := decide_eq_true (by omega)
      have hT2 : Hid (∀ j, j < k + 1 → T (bk es last e0 j) ≠ 0) := fun j hj => by
        by_cases e : j = k
        · subst e; rw [HAA.out]; exact hTa
        · exact hT.out j (by omega)
      have hk2 := HI.out.bk_short HP.out hel (k + 1) hT2.out
      have hnx : Hid (bk es last e0 (k + 1) = (last a).srcN es) := by show _ = _; rw [← HAA.out]; rfl
      have hsn2 : Hid (wayL es last e0 (k + 1) = wayL es last e0 k ++ [last a]) := by show _ = _; rw [wayL_snoc, HAA.out]
      have c1 := hW1.ra.cell (i := a * 2) (by omega)
      have c2 := hW1.ra.cell (i := a * 2 + 1) (by omega)
      rw [lastEven] at c1
      rw [lastOdd] at c2
      have HSEEN := hide hseen
      obtain ⟨⟨la, lk⟩, hlast⟩ : ∃ s, last a = s := ⟨_, rfl⟩
      have hsz := hb.size
      have HLAST := hide hlast
      rw [hlast] at c1 c2 hsn2
      simp only [] at c1 c2
      obtain ⟨wa, wc, hv, _⟩ := hO.out
      have hO2 := hide (hO.out.kept (grown_of_below (Joins.below_alloc1 wr (.cells #[.int .i64 la, .bool lk] 86)) none) (fun k h => by cases h))
      subst hv
      rw [hlen] at hO2
      have hO0 := hO.out
      rw [hlen] at hO0
      have HO0 := hide hO0
      generalize hxx : lf.getD a 0 = x at ca hpos hdec
      clear hxx hL1 hW1 haa hlast hway hTa hO0 hO hseen
      rw [hlen]
      have hkk : (k : Int) < (sn : Int) := by omega
      generalize hLL : wayL es last e0 k = L at *
      clear hLL
      go_wp2_with (at_builtin; refine wpList_push_step rfl (.tmp 30) (.tmp 38) rfl w.heap.size _ L rfl ?_ wr.heap.size ⟨la, lk⟩ 1 rfl ?_ ?_ (by omega) ?_ ?_)
      · exact hO2.out
      · omega
      intro v' w2 hO3 hgr
      have hb2 : Below w.heap.size w w2 := (hb.alloc hsz _).grown hgr (by simp; omega) (fun k hk => (HO0.out.blk k hk).1)
      clear k2 k3 ca c1 c2
      have cB : n0 (Calls Try.prog 78 #[.pointer (some ⟨lb, 0, none⟩), .pointer (some ⟨rb, 0, none⟩), .int .i64 a] w2 fun e w' => e = .returned (.int .i64 ((last a).srcN es : Int)) ∧ Below w2.heap.size w2 w') :=
        rBefore_any K rb sb cb ab seen cost last nw lb fb vb sa aa sn sc an ac xs fl lf es a w2 hn (HL.out.grow hb2) (HE.out.below hb2) (HW.out.grow hb2) hal' harc
      have HO3 := hide hO3
      obtain ⟨wa', wc', hv', _⟩ := hO3
      subst hv'
      go_wp2_with fail
      refine Calls.mono cB.out ?_
      rintro e w3 ⟨rfl, hb3⟩
      have hb4 : Below w.heap.size w w3 := hb2.trans (hb3.mono hb2.size)
      have hO4 := hide (HO3.out.kept (grown_of_below hb3 none) (fun k h => by cases h))
      clear cB
      go_wp2
      go_roundw
      case rel =>
        refine ⟨k + 1, by rw [hnx.out], hT2.out, ?_, ?_, hb4, hk2, ?_⟩
        · rw [hnx.out]; exact HSEEN.out
        · rw [hsn2.out]
          have h := hO4.out
          rw [show (L ++ [St.mk la lk]).length = k + 1 from by simp [hlen]] at h
          exact h
        · simp [lenOf, hlen]
      case measure => simp [lenOf, hlen]; omega
end Go.Proofs.Ytampcheafdlomaa
