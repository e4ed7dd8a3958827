import Derived.Test.YtnbccoflcoaoaaaGreatGRtc
import Derived.Test.YtnbccoflcoaoaaaGreatGRtb
import Derived.Test.YtnbccoflcoaoaaaGreatRtY
namespace Go.Proofs.YtnbccoflcoaoaaaGreat
open Go.RowKit Go.Deep
set_option linter.unusedSimpArgs false
set_option linter.unusedVariables false

def stCells : List St → List Value
  | [] => []
  | s :: r => .int .i64 s.arc :: .bool s.back :: stCells r
theorem stCells_len (l : List St) : (stCells l).length = l.length * 2 := by
  induction l with
  | nil => rfl
  | cons s r ih => simp only [stCells, List.length_cons, ih]; omega
theorem stCells_snoc (l : List St) (s : St) : stCells (l ++ [s]) = stCells l ++ [.int .i64 s.arc, .bool s.back] := by
  induction l with
  | nil => rfl
  | cons t r ih => simp only [List.cons_append, stCells, ih]
theorem stCells_at (l : List St) (k : Nat) (hk : k < l.length) : (stCells l)[k * 2]? = some (.int .i64 (l.getD k zS).arc) ∧ (stCells l)[k * 2 + 1]? = some (.bool (l.getD k zS).back) := by
  induction l generalizing k with
  | nil => simp at hk
  | cons s r ih =>
    cases k with
    | zero => exact ⟨rfl, rfl⟩
    | succ k =>
      have h := ih k (by simpa using hk)
      simp only [stCells, List.getD_cons_succ]
      rw [show (k + 1) * 2 = k * 2 + 1 + 1 from by omega]
      simpa only [List.getElem?_cons_succ] using h

/-- A list of steps of the call's own. -/
def OwnS (w : World) (base : Nat) (v : Value) (l : List St) : Prop := ∃ oa oc, v = .slice oa l.length oc ∧ w.ownsRow base 121 2 (.slice oa l.length oc) l.length (stCells l)
theorem OwnS.lit (w : World) : OwnS (w.alloc (.cells #[] 121)) w.heap.size (.slice (some ⟨w.heap.size, 0, none⟩) 0 0) [] :=
  ⟨_, _, rfl, World.ownsRow_lit w #[] 0 (Nat.le_refl _) (by unfold maxLen; omega) rfl⟩
theorem OwnS.get {w : World} {base : Nat} {v : Value} {l : List St} (h : OwnS w base v l) {k : Nat} (hk : k < l.length) :
    ∃ b c, v = .slice (some ⟨b, 0, none⟩) l.length c ∧ base ≤ b ∧ b < w.heap.size ∧ w.cell? ⟨b, k * 2, none⟩ = some (.int .i64 (l.getD k zS).arc) ∧ w.cell? ⟨b, k * 2 + 1, none⟩ = some (.bool (l.getD k zS).back) := by
  obtain ⟨oa, oc, rfl, ho⟩ := h
  rcases ho.2 with ⟨_, h0⟩ | ⟨g, cap, cur, e, hg, hh, hn, hm, hc, ht⟩
  · omega
  · cases e
    obtain ⟨a1, a2⟩ := stCells_at l k hk
    have hlt := (ho.lt g rfl).2
    exact ⟨g, oc, rfl, hg, hlt, by rw [ho.cellAt _ (by omega)]; exact a1, by rw [ho.cellAt _ (by omega)]; exact a2⟩
theorem OwnS.kept {w w' : World} {base : Nat} {v : Value} {l : List St} (h : OwnS w base v l) {row : Option Nat} (hg : w.grownBy w' row) (hr : ∀ k, row = some k → k < base) : OwnS w' base v l := by
  obtain ⟨oa, oc, rfl, ho⟩ := h
  refine ⟨oa, oc, rfl, ho.kept hg ?_⟩
  cases hb : (Value.slice oa l.length oc).ownBlock with
  | none => exact .inl rfl
  | some k =>
    right
    intro e
    have h1 := (ho.lt k hb).1
    have h2 := hr k e.symm
    omega

theorem OwnS.blk {w : World} {base : Nat} {v : Value} {l : List St} (h : OwnS w base v l) : ∀ k, v.ownBlock = some k → base ≤ k ∧ k < w.heap.size := by
  obtain ⟨oa, oc, rfl, ho⟩ := h
  exact fun k hk => ho.lt k hk

theorem wpList_push_step {w : World} {ops : Array Oper} {rest : List Oper} {o : Oper} {a : Act} {Q : Exit → Act → World → Prop} (hgd : o.guard = none) (s x : Operand)
    (ho : o.op = .call { callee := .builtin .append, args := #[s, x], argTypes := #[114, 114] }) (base : Nat) (v : Value) (l : List St)
    (hs : a.eval s = v) (hown : OwnS w base v l) (g : Nat) (y : St) (c : Nat) (hx : a.eval x = .slice (some ⟨g, 0, none⟩) 1 c) (hy : w.cell? ⟨g, 0, none⟩ = some (.int .i64 y.arc)) (hy2 : w.cell? ⟨g, 1, none⟩ = some (.bool y.back))
    (hl : l.length ≤ 1000) (hb : base ≤ w.heap.size)
    (h : ∀ v' w', OwnS w' base v' (l ++ [y]) → w.grownBy w' v.ownBlock → wpList Tryz.prog ops Q rest (a.put o.dst v') w') : wpList Tryz.prog ops Q (o :: rest) a w := by
  obtain ⟨oa, oc, rfl, hown⟩ := hown
  obtain ⟨i0, hi, hz0, hz1, hz2⟩ := info_parts infoStep
  refine wpList_append_own w hgd s x 114 ho base 121 i0 _ 2 16 Tryz.underlying114 hi hz0 hz1 hz2 rfl (by decide) _ l.length (stCells l) hs hown ⟨g, 0, none⟩ 1 c [.int .i64 y.arc, .bool y.back] hx rfl ?_ ?_ (by unfold maxLen; omega) (by omega) hb ?_
  · intro j u hj
    rcases j with _ | _ | j
    · simp at hj; subst hj; simpa [Addr.add] using hy
    · simp at hj; subst hj; simpa [Addr.add] using hy2
    · simp at hj
  · intro u hu; simp at hu; rcases hu with rfl | rfl <;> rfl
  · intro v' w' hown' hgr _
    rcases hown'.2 with ⟨_, h0⟩ | ⟨g', cap, cur, rfl, r⟩
    · omega
    · refine h _ w' ⟨some ⟨g', 0, none⟩, cap, by simp, ?_⟩ hgr
      rw [stCells_snoc, List.length_append]
      exact hown'


set_option maxHeartbeats 1000000 in
theorem rBefore_any (K rb sb cb ab : Nat) (seen : Nat → Bool) (cost : Nat → Int) (last : Nat → St) (nw : Int) (lb fb vb : Nat) (sa aa : Option Addr) (sn sc an ac : Nat) (xs fl lf : List Int) (es : List A5) (v : Nat) (w : World)
    (hn : NetW xs es) (hL : Load w lb fb vb sa sn sc aa an ac fl lf) (he : Arcs w aa an es) (hW : Ways w K rb sb cb ab sn seen cost last nw) (hv : v < sn) (ha : (last v).arc < an) :
    Calls Tryz.prog 102 #[.pointer (some ⟨lb, 0, none⟩), .pointer (some ⟨rb, 0, none⟩), .int .i64 v] w fun e w' => e = .returned (.int .i64 ((last v).srcN es : Int)) ∧ Below w.heap.size w w' := by
  have k2 := hW.c2
  have c1 := hW.ra.cell (i := v * 2) (by omega)
  have c2 := hW.ra.cell (i := v * 2 + 1) (by omega)
  rw [lastEven] at c1
  rw [lastOdd] at c2
  have hends := (st_ends hn (s := last v) (by rw [he.len]; exact ha)).1
  obtain ⟨⟨la, lk⟩, hlast⟩ : ∃ s, last v = s := ⟨_, rfl⟩
  rw [hlast] at c1 c2 ha hends ⊢
  simp only [] at c1 c2 ha
  have cE : n0 (Calls Tryz.prog 106 #[.pointer (some ⟨lb, 0, none⟩), .agg #[.int .i64 la, .bool lk]] w fun e w' => e = .returned (.tuple #[.int .i64 ((St.mk la lk).srcN es : Int), .int .i64 ((St.mk la lk).dst es)]) ∧ Below w.heap.size w w') := by
    rw [← hends]; exact rEnds_any lb fb vb sa aa sn sc an ac fl lf es la lk w hL he ha
  have hv2 : (v : Int) < (sn : Int) := by omega
  clear hL he hW hlast hends
  go_enter Tryz.func102, Tryz.ntmps102
  go_wp2_with fail
  refine Calls.mono cE.out ?_
  rintro e w1 ⟨rfl, hb1⟩
  clear cE k2 c1 c2
  go_wp2
  go_ret
  exact ⟨rfl, hb1⟩

def lenOf : Value → Nat
  | .slice _ n _ => n
  | _ => 0
theorem ready_not {lf : List Int} {v : Nat} (h : lf.getD v 0 ≤ 0) : readyF lf v = false := decide_eq_false (by omega)

set_option maxHeartbeats 2000000 in
theorem rWayTo_any (K rb sb cb ab : Nat) (seen : Nat → Bool) (cost : Nat → Int) (last : Nat → St) (nw : Int) (T R : Nat → Nat) (c r : Nat) (done : St → Prop) (lb fb vb : Nat) (sa aa : Option Addr) (sn sc an ac : Nat) (xs fl lf : List Int) (es : List A5) (p : Nat → Int) (e0 : Nat) (w : World)
    (hn : NetW xs es) (hxn : xs.length = sn) (hL : Load w lb fb vb sa sn sc aa an ac fl lf) (he : Arcs w aa an es) (hp : Pot es fl p)
    (hW : Ways w K rb sb cb ab sn seen cost last nw) (hI : WInv es fl sn (readyF lf) seen cost last T R c r done) (hel : e0 < sn) (hes : seen e0 = true) :
    Calls Tryz.prog 108 #[.pointer (some ⟨lb, 0, none⟩), .pointer (some ⟨rb, 0, none⟩), .int .i64 e0] w fun e w' => ∃ (k : Nat) (v : Value), e = .returned (.tuple #[.int .i64 (bk es last e0 k : Int), v]) ∧ k < sn ∧ 0 < lf.getD (bk es last e0 k) 0 ∧ (∀ j, j < k → lf.getD (bk es last e0 j) 0 ≤ 0) ∧ (∀ j, j < k → T (bk es last e0 j) ≠ 0) ∧ OwnS w' w.heap.size v (wayL es last e0 k) ∧ Below w.heap.size w w' := by
  have HL := hide hL
  have HE := hide he
  have HW := hide hW
  have HI := hide hI
  have HP := hide hp
  have hal : Hid (es.length = an) := he.len
  have h10 : sn ≤ 16 := by rw [← hxn]; exact hn.ten
  have HES := hide hes
  clear hL he hW hI hes hp
  go_enter Tryz.func108, Tryz.ntmps108
  go_wp2
  go_loopw [8, 9] (fun v i wr => ∃ (k : Nat), i = .int .i64 (bk es last e0 k : Int) ∧ Hid (∀ j, j < k → lf.getD (bk es last e0 j) 0 ≤ 0) ∧ Hid (∀ j, j < k → T (bk es last e0 j) ≠ 0) ∧ Hid (seen (bk es last e0 k) = true) ∧ Hid (OwnS wr w.heap.size v (wayL es last e0 k)) ∧ Below w.heap.size w wr ∧ k < sn ∧ lenOf v = k) (fun v _ _ => sn - lenOf v)
  case atStart => exact ⟨0, rfl, fun j hj => by omega, fun j hj => by omega, HES.out, OwnS.lit w, (Below.refl _ _).alloc (Nat.le_refl _) _, by omega, rfl⟩
  case round =>
    obtain ⟨k, rfl, hSh, hT, hs, hO, hb, hks, hlv⟩ := hrel
    have hkn := HI.out.bk_short HP.out hel k hT.out
    have hal' := HI.out.bk_lt hel k hT.out k (Nat.le_refl _)
    obtain ⟨a, haa⟩ : ∃ a, bk es last e0 k = a := ⟨_, rfl⟩
    have HAA := hide haa
    rw [haa] at hal' hs ⊢
    have hL1 := HL.out.grow hb
    have hW1 := HW.out.grow hb
    have k3 := hL1.c3
    have ca := hL1.rl.cell hal'
    have k2 := hW1.c2
    have ha2 : (a : Int) < (sn : Int) := by omega
    have hlen : (wayL es last e0 k).length = k := wayL_len _ _ _ _
    by_cases hpos : 0 < lf.getD a 0
    · have HPOS : Hid (0 < lf.getD (bk es last e0 k) 0) := by rw [HAA.out]; exact hpos
      have hdec : decide (lf.getD a 0 ≤ 0) = false := decide_eq_false (by omega)
      obtain ⟨wa, wc, hv, _⟩ := hO.out
      subst hv
      generalize hxx : lf.getD a 0 = x at ca hpos hdec
      clear hxx hL1 hW1 haa
      go_wp2
      all_goals first
        | (exfalso; omega)
        | (go_ret2
           exact ⟨k, .slice wa (wayL es last e0 k).length wc, by rw [HAA.out]; rfl, hkn, HPOS.out, hSh.out, hT.out, hO.out, hb⟩)
    · have hTa : T a ≠ 0 := fun e => by
        have h1 := HI.out.root a hal' hs.out e
        rw [ready_not (by omega)] at h1
        cases h1
      have hway := HI.out.way a hal' hTa
      have harc := hway.2.1
      have hseen := hway.2.2.2.2.2.1
      rw [hal.out] at harc
      have hdec : decide (lf.getD a 0 ≤ 0) = true := decide_eq_true (by omega)
      have hSh2 : Hid (∀ j, j < k + 1 → lf.getD (bk es last e0 j) 0 ≤ 0) := fun j hj => by
        by_cases e : j = k
        · subst e; rw [HAA.out]; omega
        · exact hSh.out j (by omega)
      have hT2 : Hid (∀ j, j < k + 1 → T (bk es last e0 j) ≠ 0) := fun j hj => by
        by_cases e : j = k
        · subst e; rw [HAA.out]; exact hTa
        · exact hT.out j (by omega)
      have hk2 := HI.out.bk_short HP.out hel (k + 1) hT2.out
      have hnx : Hid (bk es last e0 (k + 1) = (last a).srcN es) := by show _ = _; rw [← HAA.out]; rfl
      have hsn2 : Hid (wayL es last e0 (k + 1) = wayL es last e0 k ++ [last a]) := by show _ = _; rw [wayL_snoc, HAA.out]
      have c1 := hW1.ra.cell (i := a * 2) (by omega)
      have c2 := hW1.ra.cell (i := a * 2 + 1) (by omega)
      rw [lastEven] at c1
      rw [lastOdd] at c2
      have HSEEN := hide hseen
      obtain ⟨⟨la, lk⟩, hlast⟩ : ∃ s, last a = s := ⟨_, rfl⟩
      have hsz := hb.size
      have HLAST := hide hlast
      rw [hlast] at c1 c2 hsn2
      simp only [] at c1 c2
      obtain ⟨wa, wc, hv, _⟩ := hO.out
      have hO2 := hide (hO.out.kept (grown_of_below (Joins.below_alloc1 wr (.cells #[.int .i64 la, .bool lk] 121)) none) (fun k h => by cases h))
      subst hv
      rw [hlen] at hO2
      have hO0 := hO.out
      rw [hlen] at hO0
      have HO0 := hide hO0
      generalize hxx : lf.getD a 0 = x at ca hpos hdec
      clear hxx hL1 hW1 haa hlast hway hTa hO0 hO hseen
      rw [hlen]
      have hkk : (k : Int) < (sn : Int) := by omega
      generalize hLL : wayL es last e0 k = L at *
      clear hLL
      go_wp2_with (at_builtin; refine wpList_push_step rfl (.tmp 30) (.tmp 38) rfl w.heap.size _ L rfl ?_ wr.heap.size ⟨la, lk⟩ 1 rfl ?_ ?_ (by omega) ?_ ?_)
      · exact hO2.out
      · omega
      intro v' w2 hO3 hgr
      have hb2 : Below w.heap.size w w2 := (hb.alloc hsz _).grown hgr (by simp; omega) (fun k hk => (HO0.out.blk k hk).1)
      clear k2 k3 ca c1 c2
      have cB : n0 (Calls Tryz.prog 102 #[.pointer (some ⟨lb, 0, none⟩), .pointer (some ⟨rb, 0, none⟩), .int .i64 a] w2 fun e w' => e = .returned (.int .i64 ((last a).srcN es : Int)) ∧ Below w2.heap.size w2 w') :=
        rBefore_any K rb sb cb ab seen cost last nw lb fb vb sa aa sn sc an ac xs fl lf es a w2 hn (HL.out.grow hb2) (HE.out.below hb2) (HW.out.grow hb2) hal' harc
      have HO3 := hide hO3
      obtain ⟨wa', wc', hv', _⟩ := hO3
      subst hv'
      go_wp2_with fail
      refine Calls.mono cB.out ?_
      rintro e w3 ⟨rfl, hb3⟩
      have hb4 : Below w.heap.size w w3 := hb2.trans (hb3.mono hb2.size)
      have hO4 := hide (HO3.out.kept (grown_of_below hb3 none) (fun k h => by cases h))
      clear cB
      go_wp2
      go_roundw
      case rel =>
        refine ⟨k + 1, by rw [hnx.out], hSh2.out, hT2.out, ?_, ?_, hb4, hk2, ?_⟩
        · rw [hnx.out]; exact HSEEN.out
        · rw [hsn2.out]
          have h := hO4.out
          rw [show (L ++ [St.mk la lk]).length = k + 1 from by simp [hlen]] at h
          exact h
        · simp [lenOf, hlen]
      case measure => simp [lenOf, hlen]; omega
end Go.Proofs.YtnbccoflcoaoaaaGreat

namespace Go.Proofs.YtnbccoflcoaoaaaGreat
open Go.RowKit Go.Deep
set_option linter.unusedSimpArgs false
set_option linter.unusedVariables false

/-- A sending, exactly. -/
structure Sent (lf fl : List Int) (es : List A5) (last : Nat → St) (e0 : Nat) (x : Int) (fl' : List Int) (k : Nat) : Prop where
  short : ∀ j, j < k → lf.getD (bk es last e0 j) 0 ≤ 0
  pos : 0 < lf.getD (bk es last e0 k) 0
  le1 : x ≤ lf.getD (bk es last e0 k) 0
  le2 : x ≤ -lf.getD e0 0
  le3 : ∀ j, j < k → x ≤ roomOf es fl (last (bk es last e0 j))
  eq : x = lf.getD (bk es last e0 k) 0 ∨ x = -lf.getD e0 0 ∨ ∃ j, j < k ∧ x = roomOf es fl (last (bk es last e0 j))
  flow : fl' = takeTo fl (wayL es last e0 k) x k
/-- What is left is nearer to 0 than it was, on its own side. -/
def Nearer (a b : List Int) (n : Nat) : Prop := ∀ v, v < n → (0 ≤ a.getD v 0 → 0 ≤ b.getD v 0 ∧ b.getD v 0 ≤ a.getD v 0) ∧ (a.getD v 0 ≤ 0 → a.getD v 0 ≤ b.getD v 0 ∧ b.getD v 0 ≤ 0)
theorem Nearer.refl (a : List Int) (n : Nat) : Nearer a a n := fun v _ => by omega
theorem Nearer.trans {a b c : List Int} {n : Nat} (h : Nearer a b n) (h2 : Nearer b c n) : Nearer a c n := fun v hv => by
  have := h v hv
  have := h2 v hv
  omega
theorem near_send {lf : List Int} {s e n : Nat} {x : Int} (hl : lf.length = n) (hs : s < n) (he : e < n) (hx : 0 < x) (h1 : x ≤ lf.getD s 0) (h2 : x ≤ -lf.getD e 0) : Nearer lf (addAt (addAt lf s (-x)) e x) n := by
  intro v hv
  rw [addAt_at _ _ _ _ (by rw [addAt_len]; omega), addAt_at _ _ _ _ (by omega), addAt_at _ _ _ _ (by omega)]
  by_cases e1 : v = e
  · subst e1
    rw [if_pos rfl, if_neg (by intro h; subst h; omega)]
    omega
  · rw [if_neg e1]
    by_cases e2 : v = s
    · subst e2; rw [if_pos rfl]; omega
    · rw [if_neg e2]; omega

theorem LInv.room {xs : List Int} {es : List A5} (hn : NetW xs es) {fl lf : List Int} {t : Int} (h : LInv xs es fl lf t) (s : St) (hs : s.arc < es.length) : 0 ≤ roomOf es fl s ∧ roomOf es fl s ≤ 1000000 := by
  have h1 := h.bd s.arc hs
  have h2 := arcB_out (hn.arc s.arc hs)
  have h3 := h.mild hn s.arc hs
  have h4 : 0 ≤ t := by rw [h.go]; exact pos_nonneg _ _
  unfold roomOf
  split
  · omega
  · split <;> omega
/-- All along a way that is taken the numbers stay small. -/
theorem take_mild {xs : List Int} {es : List A5} (hn : NetW xs es) {fl lf : List Int} {t : Int} (h : LInv xs es fl lf t) {way : List St} {e : Int} (hw : WayOK es fl way e) {x : Int} (hx : 0 ≤ x) (hr : ∀ j, j < way.length → x ≤ roomOf es fl (way.getD j zS)) (k : Nat) (hk : k ≤ way.length) : Mild (takeTo fl way x k) es.length := by
  intro i hi
  have hm := h.mild hn i hi
  by_cases hon : ∃ j, j < k ∧ (way.getD j zS).arc = i
  · obtain ⟨j, hj, rfl⟩ := hon
    rw [take_on hw h.len x j k hk hj]
    have h1 := hr j (by omega)
    have h2 := arcB_out (hn.arc _ hi)
    unfold roomOf at h1
    unfold stD
    by_cases hb : (way.getD j zS).back = true
    · rw [if_pos hb] at h1 ⊢; omega
    · rw [if_neg hb] at h1 ⊢
      split at h1 <;> omega
  · rw [take_off hw h.len x i k hk (fun j hj he => hon ⟨j, hj, he⟩)]
    exact hm

set_option maxRecDepth 100000 in
set_option maxHeartbeats 4000000 in
theorem rSend_any (K rb sb cb ab : Nat) (seen : Nat → Bool) (cost : Nat → Int) (last : Nat → St) (nw : Int) (T R : Nat → Nat) (c r : Nat) (done : St → Prop) (lb fb vb : Nat) (sa aa : Option Addr) (sn sc an ac : Nat) (xs fl : List Int) (es : List A5) (t : Int) (p : Nat → Int) (e0 : Nat) (wz w : World)
    (hn : NetW xs es) (hxn : xs.length = sn) (hV : LInv xs es fl (leftOf xs es fl) t) (hL : Load w lb fb vb sa sn sc aa an ac fl (leftOf xs es fl)) (hzl : wz.heap.size ≤ fb ∧ wz.heap.size ≤ vb) (hA0 : Arcs wz aa an es) (hB0 : Below wz.heap.size wz w) (hp : Pot es fl p)
    (hW : Ways w K rb sb cb ab sn seen cost last nw) (hI : WInv es fl sn (readyF (leftOf xs es fl)) seen cost last T R c r done) (hcl : ∀ s : St, s.arc < es.length → 0 < roomOf es fl s → seen (s.srcN es) = true → s.srcN es < sn → Sat es seen cost s) (hel : e0 < sn) (hes : seen e0 = true) (hneg : (leftOf xs es fl).getD e0 0 < 0) :
    Calls Tryz.prog 92 #[.pointer (some ⟨lb, 0, none⟩), .pointer (some ⟨rb, 0, none⟩), .int .i64 e0] w fun e w' => ∃ (x : Int) (fl' : List Int), e = .returned (.int .i64 x) ∧ 0 < x ∧ LInv xs es fl' (leftOf xs es fl') (t - x) ∧ (∃ p', Pot es fl' p') ∧ Nearer (leftOf xs es fl) (leftOf xs es fl') sn ∧ (∃ k, Sent (leftOf xs es fl) fl es last e0 x fl' k) ∧ Load w' lb fb vb sa sn sc aa an ac fl' (leftOf xs es fl') ∧ Below wz.heap.size wz w' := by
  have HL := hide hL
  have HA := hide hA0
  have HV := hide hV
  have hal : Hid (es.length = an) := hA0.len
  have hfbw := hL.flt
  have hlbw := hL.lt
  have hll : Hid (fl.length = an) := by show _ = _; rw [hV.len]; exact hA0.len
  have cW : n0 (Calls Tryz.prog 108 #[.pointer (some ⟨lb, 0, none⟩), .pointer (some ⟨rb, 0, none⟩), .int .i64 e0] w fun e w' => ∃ (k : Nat) (v : Value), e = .returned (.tuple #[.int .i64 (bk es last e0 k : Int), v]) ∧ k < sn ∧ 0 < (leftOf xs es fl).getD (bk es last e0 k) 0 ∧ (∀ j, j < k → (leftOf xs es fl).getD (bk es last e0 j) 0 ≤ 0) ∧ (∀ j, j < k → T (bk es last e0 j) ≠ 0) ∧ OwnS w' w.heap.size v (wayL es last e0 k) ∧ Below w.heap.size w w') :=
    rWayTo_any K rb sb cb ab seen cost last nw T R c r done lb fb vb sa aa sn sc an ac xs fl (leftOf xs es fl) es p e0 w hn hxn hL (hA0.below hB0) hp hW hI hel hes
  have HWY : Hid (∀ k, (∀ j, j < k → T (bk es last e0 j) ≠ 0) → bk es last e0 k < sn ∧ WayOK es fl (wayL es last e0 k) (e0 : Int) ∧ atK es (wayL es last e0 k) (e0 : Int) k = (bk es last e0 k : Int) ∧ ∀ x : Int, ∃ p', Pot es (takeTo fl (wayL es last e0 k) x (wayL es last e0 k).length) p') := by
    intro k hk
    obtain ⟨h1, h2⟩ := hI.wayOK hn hxn hp hel k hk
    refine ⟨hI.bk_lt hel k hk k (Nat.le_refl _), h1, h2, fun x => ?_⟩
    refine pot_send hn hV.len hp (seen := seen) (cost := cost) (by rw [hxn]; exact hcl) h1 (fun j hj => ?_) x
    rw [wayL_len] at hj
    rw [wayL_at _ _ _ _ hj]
    exact hI.tight hcl (hI.bk_lt hel k hk j (by omega)) (hk j hj)
  clear hL hA0 hW hI hes hV hcl hp
  go_enter Tryz.func92, Tryz.ntmps92
  go_wp2_with fail
  refine Calls.mono cW.out ?_
  rintro e w1 ⟨kw, v, rfl, hkw, hpos, hSh, hT, hO, hb1⟩
  clear cW
  obtain ⟨hs, hWay, hAt, hPot⟩ := HWY.out kw hT
  clear HWY hT
  have HSH := hide hSh
  clear hSh
  have hwlen : (wayL es last e0 kw).length = kw := wayL_len _ _ _ _
  have hwl : kw ≤ 16 := by have := hn.ten; omega
  obtain ⟨s, hsb⟩ : ∃ s, bk es last e0 kw = s := ⟨_, rfl⟩
  rw [hsb] at hs hAt hpos ⊢
  obtain ⟨way, hway⟩ : ∃ way, wayL es last e0 kw = way := ⟨_, rfl⟩
  rw [hway] at hO hWay hAt hPot hwlen
  have HPOT := hide hPot
  have HSB := hide hsb
  have HWAY := hide hway
  clear hsb hway hPot
  have hL1 := HL.out.grow hb1
  have k3 := hL1.c3
  have cs := hL1.rl.cell hs
  have ce := hL1.rl.cell hel
  have hbs := HV.out.left_bd hn s (by omega)
  have hbe := HV.out.left_bd hn e0 (by omega)
  have HW := hide hWay
  have HAT := hide hAt
  have hse : s ≠ e0 := by intro h; subst h; omega
  have hB1 : Below wz.heap.size wz w1 := hB0.trans (hb1.mono hB0.size)
  have HO := hide hO
  have HL1 := hide hL1
  have hs2 : (s : Int) < (sn : Int) := by omega
  have he2 : (e0 : Int) < (sn : Int) := by omega
  obtain ⟨wa, wc, rfl, _⟩ := hO
  clear hL1 hWay hAt HL
  generalize hls : (leftOf xs es fl).getD s 0 = ls at cs hpos hbs
  generalize hle : (leftOf xs es fl).getD e0 0 = le at ce hneg hbe
  have HLS := hide hls
  have HLE := hide hle
  clear hls hle
  obtain ⟨b1, b2⟩ := hbs
  obtain ⟨b3, b4⟩ := hbe
  subst hwlen
  by_cases hc : -le < ls
  all_goals
    go_wp2
    go_loopw [9, 11, 12, 49] (fun am p r i wr => ∃ (k : Nat) (x : Int), k ≤ way.length ∧ i = .int .i64 k ∧ am = .int .i64 x ∧ 0 < x ∧ x ≤ ls ∧ x ≤ -le ∧ Hid (∀ j, j < k → x ≤ roomOf es fl (way.getD j zS)) ∧ Hid (x = ls ∨ x = -le ∨ ∃ j, j < k ∧ x = roomOf es fl (way.getD j zS)) ∧ Below w1.heap.size w1 wr) (fun _ _ _ i _ => way.length - (intOf i).toNat)
    case atStart => exact ⟨0, _, Nat.zero_le _, rfl, rfl, by omega, by omega, by omega, fun j hj => by omega, by simp [Hid], Below.refl _ _⟩
    case round =>
      clear k3 cs ce
      obtain ⟨k, x, hk, rfl, rfl, hx0, hx1, hx2, hm, hEq, hb⟩ := hrel
      by_cases hlt : k < way.length
      · have hO1 := HO.out.kept (grown_of_below hb none) (fun k h => by cases h)
        obtain ⟨wb, wcc, e, hwb, hwlt, c0, c1⟩ := hO1.get hlt
        cases e
        obtain ⟨⟨ar, bk⟩, hstp⟩ : ∃ s, way.getD k zS = s := ⟨_, rfl⟩
        have har := HW.out.inr k hlt
        have hrp := HW.out.room k hlt
        rw [hstp] at c0 c1 har hrp
        simp only [] at c0 c1 har
        have hr1 := (HV.out.room hn ⟨ar, bk⟩ har).2
        have hok := hn.arc ar har
        have hfa := HV.out.mild hn ar har
        rw [hal.out] at har
        have HST := hide hstp
        obtain ⟨r, hr⟩ : ∃ r, roomOf es fl ⟨ar, bk⟩ = r := ⟨_, rfl⟩
        rw [hr] at hrp hr1
        have cR : n0 (∀ w0, Load w0 lb fb vb sa sn sc aa an ac fl (leftOf xs es fl) → Arcs w0 aa an es → Calls Tryz.prog 109 #[.pointer (some ⟨lb, 0, none⟩), .agg #[.int .i64 ar, .bool bk]] w0 fun e w' => e = .returned (.int .i64 r) ∧ Below w0.heap.size w0 w') :=
          fun w0 h1 h2 => by rw [← hr]; exact rRoom_any lb fb vb sa aa sn sc an ac fl (leftOf xs es fl) es ar bk _ w0 h1 h2 har hok hfa
        have HRR := hide hr
        clear hstp hr hO1 hok hfa
        have hlt3 : (k : Int) < (way.length : Int) := by omega
        have hba : Below w1.heap.size w1 (wr.alloc (.cells #[.int .i64 ar, .bool bk] 121)) := hb.alloc hb.size _
        have hLa := HL1.out.grow hba
        have hAa := HA.out.below (hB1.trans (hba.mono hB1.size))
        go_wp2_with fail
        refine (cR.out _ hLa hAa).mono ?_
        rintro e w2 ⟨rfl, hb2⟩
        have hb3 : Below w1.heap.size w1 w2 := hba.trans (hb2.mono hba.size)
        clear cR c0 c1 hLa hAa hba hb2 hwb hwlt
        by_cases hrx : r < x
        · go_wp2
          go_roundw
          case rel =>
            refine ⟨k + 1, r, by omega, by go_num, rfl, by omega, by omega, by omega, ?_, .inr (.inr ⟨k, by omega, by rw [HST.out, HRR.out]⟩), hb3⟩
            intro j hj
            by_cases ej : j = k
            · subst ej; rw [HST.out, HRR.out]; omega
            · have := hm.out j (by omega); omega
          case measure => simp [intOf]; omega
        · have hrf : decide (r < x) = false := decide_eq_false hrx
          go_wp2
          all_goals first
            | (exfalso; omega)
            | (go_roundw
               case rel =>
                 refine ⟨k + 1, x, by omega, by go_num, rfl, by omega, by omega, by omega, ?_, hEq.out.imp id (Or.imp id fun ⟨j, h1, h2⟩ => ⟨j, by omega, h2⟩), hb3⟩
                 intro j hj
                 by_cases ej : j = k
                 · subst ej; rw [HST.out, HRR.out]; omega
                 · exact hm.out j (by omega)
               case measure => simp [intOf]; omega)
      · have hkn : k = way.length := by omega
        subst hkn
        have hL2 := hide (HL1.out.grow hb)
        have hO2 := hide (HO.out.kept (grown_of_below hb none) (fun k h => by cases h))
        have hB2 : Below wz.heap.size wz wr := hB1.trans (hb.mono hB1.size)
        clear hb hlt
        go_wp2
        go_loopw [14, 63] (fun p i wr => ∃ (k : Nat), k ≤ way.length ∧ i = .int .i64 k ∧ Hid (Load wr lb fb vb sa sn sc aa an ac (takeTo fl way x k) (leftOf xs es (takeTo fl way x k))) ∧ Hid (OwnS wr w.heap.size (.slice wa way.length wc) way) ∧ Below wz.heap.size wz wr) (fun _ i _ => way.length - (intOf i).toNat)
        case atStart => exact ⟨0, Nat.zero_le _, rfl, hL2.out, hO2.out, hB2⟩
        case round =>
          clear hL2 hO2 hB2
          obtain ⟨k, hk, rfl, hL2, hO2, hB2⟩ := hrel
          by_cases hlt : k < way.length
          · obtain ⟨wb, wcc, e, hwb, hwlt, c0, c1⟩ := hO2.out.get hlt
            cases e
            obtain ⟨⟨ar, bk⟩, hstp⟩ : ∃ s, way.getD k zS = s := ⟨_, rfl⟩
            have har := HW.out.inr k hlt
            have hxr := hm.out k hlt
            rw [hstp] at c0 c1 har hxr
            simp only [] at c0 c1 har
            have hr1 := (HV.out.room hn ⟨ar, bk⟩ har).2
            have hmild := take_mild hn HV.out HW.out (show 0 ≤ x by omega) hm.out k hk
            rw [hal.out] at har
            have hnx : Hid (takeTo fl way x (k + 1) = addAt (takeTo fl way x k) ar (stD ⟨ar, bk⟩ x)) := by show takeTo fl way x (k + 1) = _; simp only [takeTo, hstp]
            clear hstp
            have hlt3 : (k : Int) < (way.length : Int) := by omega
            have hb0 := Joins.below_alloc1 wr (.cells #[.int .i64 ar, .bool bk] 121)
            have hLa := hL2.out.grow hb0
            have hAa := HA.out.below (hB2.trans (hb0.mono hB2.size))
            have cT : n0 (Calls Tryz.prog 86 #[.pointer (some ⟨lb, 0, none⟩), .agg #[.int .i64 ar, .bool bk], .int .i64 x] (wr.alloc (.cells #[.int .i64 ar, .bool bk] 121)) fun e w' => e = .returned (.tuple #[]) ∧ Load w' lb fb vb sa sn sc aa an ac (addAt (takeTo fl way x k) ar (stD ⟨ar, bk⟩ x)) (leftOf xs es (addAt (takeTo fl way x k) ar (stD ⟨ar, bk⟩ x))) ∧ ∃ w1' w2, Below (wr.alloc (.cells #[.int .i64 ar, .bool bk] 121)).heap.size (wr.alloc (.cells #[.int .i64 ar, .bool bk] 121)) w1' ∧ w1'.grownBy w2 (some vb) ∧ w2.grownBy w' (some fb)) :=
              rTake_any lb fb vb sa aa sn sc an ac xs (takeTo fl way x k) es ar bk x _ hn hxn hLa hAa (by rw [take_len]; exact hll.out) har hmild (by omega)
            go_wp2_with fail
            refine Calls.mono cT.out ?_
            rintro e w4 ⟨rfl, hL3, w2, w3, hg1, hg2, hg3⟩
            have hO3 := hide (((hO2.out.kept (grown_of_below hb0 none) (fun k h => by cases h)).kept (grown_of_below hg1 none) (fun k h => by cases h)).kept hg2 (fun k h => by cases h; exact hfbw.2))
            have hO4 := hide (hO3.out.kept hg3 (fun k h => by cases h; exact hfbw.1))
            have hBx : Below wz.heap.size wz w2 := (hB2.trans (hb0.mono hB2.size)).trans (hg1.mono (Nat.le_trans hB2.size hb0.size))
            have hB3 : Below wz.heap.size wz w4 := (hBx.grown hg2 hBx.size (fun k h => by cases h; exact hzl.2)).grown hg3 (Nat.le_trans hBx.size hg2.size) (fun k h => by cases h; exact hzl.1)
            rw [← hnx.out] at hL3
            have HL3 := hide hL3
            clear c0 c1 hLa hL3 hg1 hg2 hg3 hwb hwlt cT hAa hmild hb0 hO3
            go_wp2
            go_roundw
            case rel => exact ⟨k + 1, by omega, by go_num, HL3.out, hO4.out, hB3⟩
            case measure => simp [intOf]; omega
          · have hkn : k = way.length := by omega
            subst hkn
            have HS0 := HV.out.send hn HW.out HAT.out (by omega) (by omega) hx0 (by rw [HLS.out]; exact hx1) (by rw [HLE.out]; exact hx2) hm.out
            have hlf := HS0.lf_eq
            rw [hlf] at HS0
            have HS := hide HS0
            have hnr := near_send (lf := leftOf xs es fl) (s := s) (e := e0) (n := sn) (x := x) (by rw [leftOf_len]; exact hxn) (by omega) (by omega) hx0 (by rw [HLS.out]; exact hx1) (by rw [HLE.out]; exact hx2)
            rw [hlf] at hnr
            have HNR := hide hnr
            have hwj : ∀ j, j < way.length → way.getD j zS = last (bk es last e0 j) := fun j hj => (congrArg (fun l => l.getD j zS) HWAY.out).symm.trans (wayL_at es last e0 way.length hj)
            have HSENT : Hid (Sent (leftOf xs es fl) fl es last e0 x (takeTo fl way x way.length) way.length) := by
              refine ⟨HSH.out, by rw [HSB.out, HLS.out]; exact hpos, by rw [HSB.out, HLS.out]; exact hx1, by rw [HLE.out]; exact hx2, fun j hj => by rw [← hwj j hj]; exact hm.out j hj, ?_, by rw [show wayL es last e0 way.length = way from HWAY.out]⟩
              rw [HSB.out, HLS.out, HLE.out]
              exact hEq.out.imp id (Or.imp id fun ⟨j, h1, h2⟩ => ⟨j, h1, by rw [← hwj j h1]; exact h2⟩)
            clear hwj
            clear HS0 hlf hO2 hnr
            go_wp2
            go_ret
            exact ⟨x, _, rfl, hx0, HS.out, HPOT.out x, HNR.out, ⟨_, HSENT.out⟩, hL2.out, hB2⟩
end Go.Proofs.YtnbccoflcoaoaaaGreat

namespace Go.Proofs.YtnbccoflcoaoaaaGreat
open Go.RowKit Go.Deep
set_option linter.unusedSimpArgs false
set_option linter.unusedVariables false

/-- What is known where no more can go. -/
structure Stuck (xs : List Int) (es : List A5) (lf0 fl : List Int) (seen : Nat → Bool) : Prop where
  inv : ∃ t, 0 < t ∧ LInv xs es fl (leftOf xs es fl) t
  near : Nearer lf0 (leftOf xs es fl) xs.length
  st : ∀ v, v < xs.length → 0 < (leftOf xs es fl).getD v 0 → seen v = true
  nn : ∀ v, v < xs.length → seen v = true → 0 ≤ (leftOf xs es fl).getD v 0
  cl : ∀ s : St, s.arc < es.length → seen (s.src es).toNat = true → seen (s.dst es).toNat = false → roomOf es fl s = 0

/-- What 'settle' leaves. -/
def Settled (xs : List Int) (es : List A5) (fl0 lf0 : List Int) (lb fb vb : Nat) (sa : Option Addr) (sn sc : Nat) (aa : Option Addr) (an ac : Nat) (k0 : Nat) (v : Value) (w' : World) : Prop :=
  ∃ fl', Load w' lb fb vb sa sn sc aa an ac fl' (leftOf xs es fl') ∧ fl'.length = es.length ∧ ((v = .slice none 0 0 ∧ Fits xs es fl' ∧ (∃ t, LInv xs es fl' (leftOf xs es fl') t) ∧ (∃ p, Pot es fl' p) ∧ SettR xs es fl0 fl' none) ∨ ∃ cut, OwnL w' k0 v cut ∧ 0 < cut.length ∧ cut.length ≤ xs.length ∧ risB cut xs.length = true ∧ violB xs es cut = true ∧ ∃ seen, cut = seenTo seen xs.length ∧ Stuck xs es lf0 fl' seen ∧ SettR xs es fl0 fl' (some cut) ∧ ∀ b, v.ownBlock = some b → fb < b)

set_option maxHeartbeats 2000000 in
theorem rSettle_any (fl0 lf0 : List Int) (lb fb vb : Nat) (sa aa : Option Addr) (sn sc an ac : Nat) (xs fl : List Int) (es : List A5) (wz w : World)
    (hn : NetW xs es) (hxn : xs.length = sn) (hs0 : sumTo (fun v => xs.getD v 0) xs.length = 0) (hV : LInv xs es fl (leftOf xs es fl) (posTo (leftOf xs es fl) sn)) (hP : ∃ p, Pot es fl p) (hL : Load w lb fb vb sa sn sc aa an ac fl (leftOf xs es fl)) (hzl : wz.heap.size ≤ lb ∧ wz.heap.size ≤ fb ∧ wz.heap.size ≤ vb) (hA0 : Arcs wz aa an es) (hB0 : Below wz.heap.size wz w) (hN0 : Nearer lf0 (leftOf xs es fl) sn) (hR0 : ∃ m, Reach xs es m fl0 fl) :
    Calls Tryz.prog 64 #[.pointer (some ⟨lb, 0, none⟩)] w fun e w' => ∃ v, e = .returned v ∧ Settled xs es fl0 lf0 lb fb vb sa sn sc aa an ac wz.heap.size v w' ∧ Below wz.heap.size wz w' := by
  have h10 : sn ≤ 16 := by rw [← hxn]; exact hn.ten
  have HA := hide hA0
  have HS0 := hide hs0
  have cU : n0 (Calls Tryz.prog 87 #[.pointer (some ⟨lb, 0, none⟩)] w fun e w' => e = .returned (.int .i64 (posTo (leftOf xs es fl) sn)) ∧ w' = w) :=
    rUnsent_any lb fb vb sa aa sn sc an ac fl (leftOf xs es fl) w hL h10 (fun v hv => hV.left_bd hn v (by omega))
  have HV := hide hV
  have HL := hide hL
  have HP := hide hP
  have HXN := hide hxn
  have HN0 := hide hN0
  have HR0 := hide hR0
  clear hV hL hA0 hs0 hxn hP hN0 hR0
  go_enter Tryz.func64, Tryz.ntmps64
  go_wp2_with fail
  refine Calls.mono cU.out ?_
  rintro e w1 ⟨rfl, rfl⟩
  clear cU
  go_wp2
  go_loopw [3, 4, 5, 6, 7, 8] (fun tg re ws en fo se wr => ∃ (fl : List Int) (t : Int), tg = .int .i64 t ∧ Hid (LInv xs es fl (leftOf xs es fl) t) ∧ Hid (∃ p, Pot es fl p) ∧ Hid (Nearer lf0 (leftOf xs es fl) sn) ∧ Hid (∃ m, Reach xs es m fl0 fl) ∧ Hid (Load wr lb fb vb sa sn sc aa an ac fl (leftOf xs es fl)) ∧ Below wz.heap.size wz wr) (fun tg _ _ _ _ _ _ => (intOf tg).toNat)
  case atStart => exact ⟨fl, _, rfl, HV.out, HP.out, HN0.out, HR0.out, HL.out, hB0⟩
  case round =>
    clear HV HL hB0 HP HN0 HR0
    obtain ⟨fl, t, rfl, hV, hP, hNr, hRe, hL, hB⟩ := hrel
    have ht0 : 0 ≤ t := by rw [hV.out.go]; exact pos_nonneg _ _
    have ht1 : t ≤ 2000000000 := by
      have h1 := pos_le (leftOf xs es fl) xs.length 64001441 (by omega) (fun v hv => (hV.out.left_bd hn v hv).2)
      have h2 := hn.ten
      have h3 := hV.out.go
      omega
    by_cases hpos : 0 < t
    · have cR : n0 (Calls Tryz.prog 88 #[.pointer (some ⟨lb, 0, none⟩)] wr fun e w' => ∃ tb, e = .returned (.slice (some ⟨tb, 0, none⟩) sn sn) ∧ w'.rowIs tb 4 sn (fun i => .bool (readyF (leftOf xs es fl) i)) ∧ wr.heap.size ≤ tb ∧ Below wr.heap.size wr w') :=
        rReady_any lb fb vb sa aa sn sc an ac fl (leftOf xs es fl) wr hL.out h10
      go_wp2_with fail
      refine Calls.mono cR.out ?_
      rintro e w2 ⟨tb, rfl, hTb, -, hb2⟩
      clear cR
      have hL2 := hL.out.grow hb2
      have hB2 : Below wz.heap.size wz w2 := hB.trans (hb2.mono hB.size)
      have cC : n0 (Calls Tryz.prog 89 #[.pointer (some ⟨lb, 0, none⟩), .slice (some ⟨tb, 0, none⟩) sn sn] w2 fun e w' => ∃ rb, e = .returned (.pointer (some ⟨rb, 0, none⟩)) ∧ Below w2.heap.size w2 w' ∧ Cheap es fl sn (readyF (leftOf xs es fl)) w2.heap.size rb w') :=
        rCheapest_any lb fb vb sa aa sn sc an ac xs fl (leftOf xs es fl) es (readyF (leftOf xs es fl)) tb wz w2 hn HXN.out hL2 HA.out hB2 (hV.out.mild hn) (fun s hs => (hV.out.room hn s hs).1) hTb
      have HL2 := hide hL2
      clear hTb hL2 hL
      go_wp2_with fail
      refine Calls.mono cC.out ?_
      rintro e w3 ⟨rb, rfl, hb3, sb, cb, ab, seen, cost, last, T, R, c, nw, hW, hI, hN, hc, hY⟩
      clear cC
      have HY : Hid ((⟨seen, cost, last, nw⟩ : Wy) = cheapF es fl xs.length (readyF (leftOf xs es fl))) := by show _ = _; rw [HXN.out]; exact hY
      clear hY
      have hL3 := HL2.out.grow hb3
      have hB3 : Below wz.heap.size wz w3 := hB2.trans (hb3.mono hB2.size)
      obtain ⟨p, hp⟩ := hP.out
      have hcl := hI.closed hN (hI.none_new hN hp)
      have HL3 := hide hL3
      have HW := hide hW
      have HI := hide hI
      have HPP := hide hp
      have HCL := hide hcl
      have cWn : n0 (Calls Tryz.prog 90 #[.pointer (some ⟨lb, 0, none⟩), .pointer (some ⟨rb, 0, none⟩)] w3 fun e w' => w' = w3 ∧
        ((∃ v : Nat, v < sn ∧ seen v = true ∧ (leftOf xs es fl).getD v 0 < 0 ∧ (∀ u, u < v → seen u = true → 0 ≤ (leftOf xs es fl).getD u 0) ∧ e = .returned (.tuple #[.int .i64 v, .bool true])) ∨ (e = .returned (.tuple #[.int .i64 0, .bool false]) ∧ ∀ v, v < sn → seen v = true → 0 ≤ (leftOf xs es fl).getD v 0))) :=
        rWanting_any w2.heap.size rb sb cb ab seen cost last nw lb fb vb sa aa sn sc an ac fl (leftOf xs es fl) w3 hL3 hW h10
      clear hL3 hW hI hp hcl HL2 hb2 hb3 hB2 hB hP hN
      go_wp2_with fail
      refine Calls.mono cWn.out ?_
      rintro e w4 ⟨rfl, h⟩
      clear cWn
      rcases h with ⟨v, hv, hsv, hlv, hfst, rfl⟩ | ⟨rfl, hnn⟩
      · have cS : n0 (Calls Tryz.prog 92 #[.pointer (some ⟨lb, 0, none⟩), .pointer (some ⟨rb, 0, none⟩), .int .i64 v] w4 fun e w' => ∃ (x : Int) (fl' : List Int), e = .returned (.int .i64 x) ∧ 0 < x ∧ LInv xs es fl' (leftOf xs es fl') (t - x) ∧ (∃ p', Pot es fl' p') ∧ Nearer (leftOf xs es fl) (leftOf xs es fl') sn ∧ (∃ k, Sent (leftOf xs es fl) fl es last v x fl' k) ∧ Load w' lb fb vb sa sn sc aa an ac fl' (leftOf xs es fl') ∧ Below wz.heap.size wz w') :=
          rSend_any w2.heap.size rb sb cb ab seen cost last nw T R c (sn + 1) (fun _ => False) lb fb vb sa aa sn sc an ac xs fl es t p v wz w4 hn HXN.out hV.out HL3.out hzl.2 HA.out hB3 HPP.out HW.out HI.out HCL.out hv hsv hlv
        have HVV : Hid (v < xs.length ∧ seen v = true ∧ (leftOf xs es fl).getD v 0 < 0 ∧ ∀ u, u < v → seen u = true → 0 ≤ (leftOf xs es fl).getD u 0) := ⟨by rw [HXN.out]; exact hv, hsv, hlv, hfst⟩
        clear HW HI HPP HCL HL3 hsv hlv hfst
        go_wp2_with fail
        refine Calls.mono cS.out ?_
        rintro e w5 ⟨x, fl', rfl, hx, hV', hP', hNr', ⟨ks, hSe⟩, hL', hB'⟩
        clear cS
        have hx2 : x ≤ t := by
          have h1 : 0 ≤ t - x := by rw [hV'.go]; exact pos_nonneg _ _
          omega
        have HV' := hide hV'
        have HL' := hide hL'
        have HP' := hide hP'
        have HNR' := hide (hNr.out.trans hNr')
        have HRE' : Hid (∃ m, Reach xs es m fl0 fl') := by
          obtain ⟨m, hm⟩ := hRe.out
          refine ⟨m + 1, fl, hm, by have := hV.out.go; omega, v, ks, x, ⟨seen, cost, last, nw⟩, HY.out, HVV.out.1, HVV.out.2.1, HVV.out.2.2.1, HVV.out.2.2.2, hSe.short, hSe.pos, hSe.le1, hSe.le2, hSe.le3, hSe.eq, hSe.flow⟩
        clear hV' hL' hP' hNr' hSe
        go_wp2
        go_roundw
        case rel => exact ⟨fl', t - x, rfl, HV'.out, HP'.out, HNR'.out, HRE'.out, HL'.out, hB'⟩
        case measure => simp [intOf]; omega
      · have hcl2 : ∀ s : St, s.arc < es.length → seen (s.src es).toNat = true → seen (s.dst es).toNat = false → roomOf es fl s = 0 := fun s hs h1 h2 => by
          have hr := (hV.out.room hn s hs).1
          by_cases h0 : 0 < roomOf es fl s
          · have h3 := (HCL.out s hs h0 h1 (by rw [← HXN.out]; exact (st_ends hn hs).2.2.1)).1
            have h2' : seen (s.dstN es) = false := h2
            rw [h2'] at h3; cases h3
          · omega
        have hst2 : ∀ v, v < xs.length → 0 < (leftOf xs es fl).getD v 0 → seen v = true := fun v hv hp => HI.out.start v (by rw [← HXN.out]; exact hv) (decide_eq_true hp)
        have hnn2 : ∀ v, v < xs.length → seen v = true → 0 ≤ (leftOf xs es fl).getD v 0 := fun v hv hs => hnn v (by rw [← HXN.out]; exact hv) hs
        have HST : Hid (Stuck xs es lf0 fl seen) := ⟨⟨t, hpos, hV.out⟩, by rw [HXN.out]; exact hNr.out, hst2, hnn2, hcl2⟩
        have HEN : Hid (SettR xs es fl0 fl (some (seenTo seen xs.length))) := by
          obtain ⟨m, hm⟩ := hRe.out
          refine ⟨m, hm, .inr ⟨by have := hV.out.go; omega, fun v hv hs => hnn2 v hv (by rw [← HY.out] at hs; exact hs), by rw [← HY.out]⟩⟩
        have hcut := hV.out.cut hn hpos seen hst2 hnn2 hcl2
        clear hst2 hnn2 hcl2
        have HC := hide hcut
        have cN : n0 (Calls Tryz.prog 91 #[.pointer (some ⟨rb, 0, none⟩)] w4 fun e w' => ∃ v, e = .returned v ∧ OwnL w' w4.heap.size v (seenTo seen sn) ∧ Below w4.heap.size w4 w') :=
          rNodes_any w2.heap.size rb sb cb ab sn seen cost last nw w4 HW.out h10
        clear hcut HW HI HPP HCL hnn
        go_wp2_with fail
        refine Calls.mono cN.out ?_
        rintro e w5 ⟨v, rfl, hO, hb5⟩
        clear cN
        have hlen := seen_len seen sn
        have hB5 : Below wz.heap.size wz w5 := hB3.trans (hb5.mono hB3.size)
        have HFIN : Hid (Settled xs es fl0 lf0 lb fb vb sa sn sc aa an ac wz.heap.size v w5) := by
          refine ⟨fl, HL3.out.grow hb5, hV.out.len, .inr ⟨seenTo seen sn, hO.mono hB3.size, ?_, by rw [HXN.out]; exact hlen, ?_, ?_, seen, by rw [HXN.out], HST.out, by have := HEN.out; rw [HXN.out] at this; exact this, fun b hb => by have := (hO.blkGe b hb).1; have := HL3.out.flt.1; omega⟩⟩
          · have := HC.out.1; rw [HXN.out] at this; exact this
          · have := HC.out.2.1; rw [HXN.out] at this ⊢; exact this
          · have := HC.out.2.2; rw [HXN.out] at this; exact this
        clear hO HL3 HC HST HEN
        go_wp2
        go_ret
        exact ⟨v, rfl, HFIN.out, hB5⟩
    · have ht : t = 0 := by omega
      subst ht
      have HFIN : Hid (Settled xs es fl0 lf0 lb fb vb sa sn sc aa an ac wz.heap.size (.slice none 0 0) wr) := ⟨fl, hL.out, hV.out.len, .inl ⟨rfl, hV.out.done hn HS0.out (Int.le_refl _), ⟨_, hV.out⟩, hP.out, by obtain ⟨m, hm⟩ := hRe.out; exact ⟨m, hm, .inl ⟨by have := hV.out.go; rw [HXN.out] at this ⊢; omega, rfl⟩⟩⟩⟩
      clear hL
      go_wp2
      go_ret
      exact ⟨_, rfl, HFIN.out, hB⟩
end Go.Proofs.YtnbccoflcoaoaaaGreat

namespace Go.Proofs.YtnbccoflcoaoaaaGreat
open Go.RowKit Go.Deep
set_option linter.unusedSimpArgs false
set_option linter.unusedVariables false

def supK (xs : List Int) (k : Nat) : List Int := (List.range xs.length).map fun v => if v < k then xs.getD v 0 else 0
theorem supK_len (xs : List Int) (k : Nat) : (supK xs k).length = xs.length := by simp [supK]
theorem supK_at (xs : List Int) (k : Nat) {v : Nat} (hv : v < xs.length) : (supK xs k).getD v 0 = if v < k then xs.getD v 0 else 0 := by simp [supK, List.getD, hv]
theorem supK_all (xs : List Int) (es : List A5) : supK xs xs.length = leftOf xs es (lowsK es 0) :=
  ext_getD (by rw [supK_len, leftOf_len]) (fun i hi => by rw [supK_len] at hi; rw [supK_at _ _ hi, if_pos hi, leftOf_zero _ _ hi])
theorem Load.setL {w : World} {lb fb vb : Nat} {sa : Option Addr} {sn sc : Nat} {aa : Option Addr} {an ac : Nat} {fl lf : List Int} (h : Load w lb fb vb sa sn sc aa an ac fl lf) (a : Nat) (x : Int) {lf' : List Int} (hl : ∀ i, i < sn → lf'.getD i 0 = if i = a then x else lf.getD i 0) :
    Load (w.setCell ⟨vb, a, none⟩ (.int .i64 x)) lb fb vb sa sn sc aa an ac fl lf' := by
  obtain ⟨n1, n2, n3⟩ := h.ne
  refine ⟨(set_blk n2).trans h.c0, (set_blk n2).trans h.c1, (set_blk n2).trans h.c2, (set_blk n2).trans h.c3, h.rf.setOther n3 _, (h.rl.set a _).congr ?_, by have := h.lt; simpa [World.setCell] using this, h.ne⟩
  intro i hi
  rw [hl i hi]
  split <;> rfl
theorem load_new (W : World) (lb fb vb : Nat) (sa aa : Option Addr) (sn sc an ac : Nat) (xs : List Int) (es : List A5) (hxn : xs.length = sn) (hen : es.length = an) (hlb : W.heap.size = lb) (rf : W.rowIs fb 3 an (fun _ => .int .i64 0)) (rl : W.rowIs vb 3 sn (fun _ => .int .i64 0)) (hne : fb ≠ vb) :
    Load (W.alloc (.cells #[.slice sa sn sc, .slice aa an ac, .slice (some ⟨fb, 0, none⟩) an an, .slice (some ⟨vb, 0, none⟩) sn sn] 108)).drew lb fb vb sa sn sc aa an ac (lowsK es 0) (supK xs 0) := by
  subst hlb
  have h1 := rf.lt
  have h2 := rl.lt
  refine Load.grow (w := W.alloc (.cells #[.slice sa sn sc, .slice aa an ac, .slice (some ⟨fb, 0, none⟩) an an, .slice (some ⟨vb, 0, none⟩) sn sn] 108)) ⟨by simp, by simp, by simp, by simp, (rf.alloc _).congr (fun i hi => ?_), (rl.alloc _).congr (fun i hi => ?_), by simp, by omega⟩ ((Below.refl _ _).drew)
  · rw [lowsK_at _ _ (by omega), if_neg (by omega)]
  · rw [supK_at _ _ (by omega), if_neg (by omega)]

/-- A new load, whatever order its lists were made in. -/
def NewLoad (w : World) (sa aa : Option Addr) (sn sc an ac : Nat) (xs : List Int) (es : List A5) (r : Value) (wx : World) : Prop :=
  ∃ lb fb vb, r = .pointer (some ⟨lb, 0, none⟩) ∧ Load wx lb fb vb sa sn sc aa an ac (lowsK es 0) (supK xs 0) ∧ (w.heap.size < lb ∧ w.heap.size < fb ∧ w.heap.size < vb) ∧ wx.cell? ⟨w.heap.size, 0, none⟩ = some (.slice sa sn sc) ∧ wx.cell? ⟨w.heap.size, 1, none⟩ = some (.slice aa an ac) ∧ Below w.heap.size w wx
theorem below4' (w : World) (a b c d : Obj) : Below (w.alloc a).heap.size (w.alloc a) ((((w.alloc a).alloc b).alloc c).alloc d).drew :=
  ((((Below.refl _ _).alloc (Nat.le_refl _) _).alloc (by simp) _).alloc (by simp <;> omega) _).drew
theorem box_cells (w : World) (sa aa : Option Addr) (sn sc an ac : Nat) {wx : World} (h : Below (w.alloc (.cells #[.slice sa sn sc, .slice aa an ac] 48)).heap.size (w.alloc (.cells #[.slice sa sn sc, .slice aa an ac] 48)) wx) : wx.cell? ⟨w.heap.size, 0, none⟩ = some (.slice sa sn sc) ∧ wx.cell? ⟨w.heap.size, 1, none⟩ = some (.slice aa an ac) :=
  ⟨(h.cell (p := ⟨w.heap.size, 0, none⟩) (by simp)).trans (by simp), (h.cell (p := ⟨w.heap.size, 1, none⟩) (by simp)).trans (by simp)⟩
theorem nl_1 (w : World) (sa aa : Option Addr) (sn sc an ac : Nat) (xs : List Int) (es : List A5) (hxn : xs.length = sn) (hen : es.length = an) :
    NewLoad w sa aa sn sc an ac xs es (.pointer (some ⟨w.heap.size + 1 + 1 + 1, 0, none⟩)) ((((w.alloc (.cells #[.slice sa sn sc, .slice aa an ac] 48)).alloc (.cells (madeCells #[.int .i64 0] an) 3)).alloc (.cells (madeCells #[.int .i64 0] sn) 3)).alloc (.cells #[.slice sa sn sc, .slice aa an ac, .slice (some ⟨w.heap.size + 1, 0, none⟩) an an, .slice (some ⟨w.heap.size + 1 + 1, 0, none⟩) sn sn] 108)).drew :=
  ⟨_, _, _, rfl, load_new _ _ _ _ _ _ _ _ _ _ _ _ hxn hen (by simp) ((made_ints (w.alloc _) an _ (by simp)).alloc _) (made_ints ((w.alloc _).alloc _) sn _ (by simp)) (by omega), ⟨by omega, by omega, by omega⟩, (box_cells w sa aa sn sc an ac (below4' _ _ _ _ _)).1, (box_cells w sa aa sn sc an ac (below4' _ _ _ _ _)).2, below4 _ _ _ _ _⟩
theorem nl_2 (w : World) (sa aa : Option Addr) (sn sc an ac : Nat) (xs : List Int) (es : List A5) (hxn : xs.length = sn) (hen : es.length = an) :
    NewLoad w sa aa sn sc an ac xs es (.pointer (some ⟨w.heap.size + 1 + 1 + 1, 0, none⟩)) ((((w.alloc (.cells #[.slice sa sn sc, .slice aa an ac] 48)).alloc (.cells (madeCells #[.int .i64 0] sn) 3)).alloc (.cells (madeCells #[.int .i64 0] an) 3)).alloc (.cells #[.slice sa sn sc, .slice aa an ac, .slice (some ⟨w.heap.size + 1 + 1, 0, none⟩) an an, .slice (some ⟨w.heap.size + 1, 0, none⟩) sn sn] 108)).drew :=
  ⟨_, _, _, rfl, load_new _ _ _ _ _ _ _ _ _ _ _ _ hxn hen (by simp) (made_ints ((w.alloc _).alloc _) an _ (by simp)) ((made_ints (w.alloc _) sn _ (by simp)).alloc _) (by omega), ⟨by omega, by omega, by omega⟩, (box_cells w sa aa sn sc an ac (below4' _ _ _ _ _)).1, (box_cells w sa aa sn sc an ac (below4' _ _ _ _ _)).2, below4 _ _ _ _ _⟩

theorem take_below {wz w w1 w2 w' : World} {K fb vb : Nat} (hB : Below K wz w) (h1 : Below w.heap.size w w1) (h2 : w1.grownBy w2 (some vb)) (h3 : w2.grownBy w' (some fb)) (hK : K ≤ w.heap.size) (hf : K ≤ fb) (hv : K ≤ vb) : Below K wz w' :=
  ((hB.trans (h1.mono hK)).grown h2 (Nat.le_trans hK h1.size) (fun k h => by cases h; exact hv)).grown h3 (Nat.le_trans hK (Nat.le_trans h1.size h2.size)) (fun k h => by cases h; exact hf)

set_option maxRecDepth 100000 in
set_option maxHeartbeats 4000000 in
theorem rAtLows_any (sa aa : Option Addr) (sn sc an ac : Nat) (xs : List Int) (es : List A5) (w : World) (hn : NetW xs es) (hx : Ints w sa sn xs) (he : Arcs w aa an es) :
    Calls Tryz.prog 62 #[.agg #[.slice sa sn sc, .slice aa an ac]] w fun e w' => ∃ lb fb vb, e = .returned (.pointer (some ⟨lb, 0, none⟩)) ∧ Load w' lb fb vb sa sn sc aa an ac (lowsL es) (leftOf xs es (lowsL es)) ∧ (w.heap.size ≤ lb ∧ w.heap.size ≤ fb ∧ w.heap.size ≤ vb) ∧ Below w.heap.size w w' := by
  have hxl : Hid (xs.length = sn ∧ es.length = an) := ⟨hx.len, he.len⟩
  have h24 : an ≤ 64 := by rw [← hxl.out.2]; exact hn.arcs
  have h10 : sn ≤ 16 := by rw [← hxl.out.1]; exact hn.ten
  have hmA := run_make_row' (P := Tryz.prog) 32 3 (.int .i64 0) 8 Tryz.underlying32 infoInt rfl .i64 .i64 an (by omega) (by omega)
  have hmS := run_make_row' (P := Tryz.prog) 32 3 (.int .i64 0) 8 Tryz.underlying32 infoInt rfl .i64 .i64 sn (by omega) (by omega)
  have HX := hide hx
  have HE := hide he
  clear hx he
  go_enter Tryz.func62, Tryz.ntmps62
  go_upto_region 1 with fail
  go_cut [3] (fun r wx => NewLoad w sa aa sn sc an ac xs es r wx)
  case first =>
    go_region
    all_goals (go_wp2_with fail; go_meet)
    · exact nl_1 _ _ _ _ _ _ _ _ _ hxl.out.1 hxl.out.2
    · exact nl_2 _ _ _ _ _ _ _ _ _ hxl.out.1 hxl.out.2
  case rest =>
  obtain ⟨lb, fb, vb, rfl, hL0, hgt, m0, m1, hb0⟩ := hcut
  clear hmA hmS
  have HL0 := hide hL0
  clear hL0
  obtain ⟨g1, g2, g3⟩ := hgt
  go_wp2
  go_loopw [4, 5, 22] (fun nd su i wr => ∃ k : Nat, k ≤ sn ∧ i = .int .i64 k ∧ Hid (Load wr lb fb vb sa sn sc aa an ac (lowsK es 0) (supK xs k)) ∧ wr.cell? ⟨w.heap.size, 1, none⟩ = some (.slice aa an ac) ∧ Below w.heap.size w wr) (fun _ _ i _ => sn - (intOf i).toNat)
  case atStart => exact ⟨0, Nat.zero_le _, rfl, HL0.out, m1, hb0⟩
  case round =>
    clear HL0 m0 m1 hb0
    obtain ⟨k, hk, rfl, hL, m1, hb⟩ := hrel
    by_cases hlt : k < sn
    · have hlt3 : (k : Int) < (sn : Int) := by omega
      obtain ⟨b, off, x, rfl, hX, hbb, cx⟩ := (HX.out.below hb).get hlt
      have k3 := hL.out.c3
      have cv := hL.out.rl.cell hlt
      have fv := hL.out.rl.frozen k
      have HL1 := hide (hL.out.setL k x (lf' := supK xs (k + 1)) (fun i hi => by
        rw [supK_at _ _ (by rw [hxl.out.1]; exact hi), supK_at _ _ (by rw [hxl.out.1]; exact hi)]
        by_cases e : i = k
        · subst e; rw [if_pos (by omega), if_pos rfl, hX]
        · rw [if_neg e]
          by_cases e2 : i < k
          · rw [if_pos e2, if_pos (by omega)]
          · rw [if_neg e2, if_neg (by omega)]))
      have HB1 := hide (hb.setCell (p := ⟨vb, k, none⟩) (by show w.heap.size ≤ vb; omega) (.int .i64 x))
      have HM1 := hide ((set_blk (w := wr) (b := w.heap.size) (b' := vb) (o := 1) (o' := k) (u := .int .i64 x) (by omega)).trans m1)
      clear hL hb hX m1
      go_wp2
      go_roundw
      case rel => exact ⟨k + 1, by omega, by go_num, HL1.out, HM1.out, HB1.out⟩
      case measure => simp [intOf]; omega
    · have hkn : k = sn := by omega
      subst hkn
      have HL1 : Hid (Load wr lb fb vb sa k sc aa an ac (lowsK es 0) (leftOf xs es (lowsK es 0))) := by
        have h := hL.out
        rw [show supK xs k = leftOf xs es (lowsK es 0) from by rw [← supK_all, hxl.out.1]] at h
        exact h
      clear hL
      go_wp2
      go_loopw [6, 7, 38] (fun nu ap i wq => ∃ j : Nat, j ≤ an ∧ i = .int .i64 j ∧ Hid (Load wq lb fb vb sa k sc aa an ac (lowsK es j) (leftOf xs es (lowsK es j))) ∧ Below w.heap.size w wq) (fun _ _ i _ => an - (intOf i).toNat)
      case atStart => exact ⟨0, Nat.zero_le _, rfl, HL1.out, hb⟩
      case round =>
        clear HL1 m1 hb
        obtain ⟨j, hj, rfl, hL, hb⟩ := hrel
        by_cases hlt2 : j < an
        · have hlt3 : (j : Int) < (an : Int) := by omega
          obtain ⟨b, off, f, t, l, c, q, rfl, hA, hbb, e0, e1, e2, e3, e4⟩ := (HE.out.below hb).get hlt2
          have hok := arcB_out (hn.arc j (by rw [hxl.out.2]; exact hlt2))
          rw [hA] at hok
          simp only [] at hok
          have hb1 := Joins.below_alloc1 wr (.cells #[.int .i64 f, .int .i64 t, .int .i64 l, .int .i64 c, .int .i64 q] 67)
          have cT : n0 (Calls Tryz.prog 86 #[.pointer (some ⟨lb, 0, none⟩), .agg #[.int .i64 j, .bool false], .int .i64 l] (wr.alloc (.cells #[.int .i64 f, .int .i64 t, .int .i64 l, .int .i64 c, .int .i64 q] 67)) fun e w' => e = .returned (.tuple #[]) ∧ Load w' lb fb vb sa k sc (some ⟨b, off, none⟩) an ac (lowsK es (j + 1)) (leftOf xs es (lowsK es (j + 1))) ∧ Below w.heap.size w w') := by
            refine (rTake_any lb fb vb sa (some ⟨b, off, none⟩) k sc an ac xs (lowsK es j) es j false l _ hn hxl.out.1 (hL.out.grow hb1) (HE.out.below (hb.trans (hb1.mono hb.size))) (by rw [lowsK_len]; exact hxl.out.2) hlt2 (fun i hi => by have := lowsK_bd hn j i hi; omega) (by omega)).mono ?_
            rintro e w' ⟨rfl, h1, w1, w2, h2, h3, h4⟩
            have hs : addAt (lowsK es j) j (stD ⟨j, false⟩ l) = lowsK es (j + 1) := by
              have := lowsK_succ es (k := j) (by rw [hxl.out.2]; exact hlt2)
              rw [hA] at this
              exact this
            rw [hs] at h1
            exact ⟨rfl, h1, take_below (hb.trans (hb1.mono hb.size)) h2 h3 h4 (Nat.le_trans hb.size hb1.size) (by omega) (by omega)⟩
          clear hA hL hb hb1 hok
          go_wp2_with fail
          refine Calls.mono cT.out ?_
          rintro e w2 ⟨rfl, hL2, hb2⟩
          have HL2 := hide hL2
          clear cT hL2 e0 e1 e2 e3 e4
          go_wp2
          go_roundw
          case rel => exact ⟨j + 1, by omega, by go_num, HL2.out, hb2⟩
          case measure => simp [intOf]; omega
        · have hjn : j = an := by omega
          subst hjn
          have HF : Hid (Load wr lb fb vb sa k sc aa j ac (lowsL es) (leftOf xs es (lowsL es))) := by
            have h := hL.out
            unfold lowsL
            rw [hxl.out.2]
            exact h
          clear hL
          go_wp2
          go_ret
          exact ⟨lb, fb, vb, rfl, HF.out, ⟨by omega, by omega, by omega⟩, hb⟩

set_option maxHeartbeats 4000000 in
theorem rFill_any (lb fb vb : Nat) (sa aa pa : Option Addr) (sn sc an ac pc : Nat) (xs po : List Int) (es : List A5) (wz w : World) (hn : NetW xs es) (hxn : xs.length = sn) (hL : Load w lb fb vb sa sn sc aa an ac (lowsL es) (leftOf xs es (lowsL es))) (hzl : wz.heap.size ≤ lb ∧ wz.heap.size ≤ fb ∧ wz.heap.size ≤ vb) (hA0 : Arcs wz aa an es) (hB0 : Below wz.heap.size wz w) (hp : Ints wz pa sn po) (hpot : ∀ i, i < sn → -1000000 ≤ po.getD i 0 ∧ po.getD i 0 ≤ 1000000) (hu : ∀ i, i < es.length → (es.getD i zA).cap = -1 → 0 ≤ driftAt es po i) :
    Calls Tryz.prog 104 #[.pointer (some ⟨lb, 0, none⟩), .slice pa sn pc] w fun e w' => e = .returned (.tuple #[]) ∧ Load w' lb fb vb sa sn sc aa an ac (fillK es po es.length) (leftOf xs es (fillK es po es.length)) ∧ Below wz.heap.size wz w' := by
  have hal : Hid (es.length = an) := hA0.len
  have h24 : an ≤ 64 := by rw [← hal.out]; exact hn.arcs
  have k1 := hL.c1
  have HL0 : Hid (Load w lb fb vb sa sn sc aa an ac (fillK es po 0) (leftOf xs es (fillK es po 0))) := by rw [fillK_zero]; exact hL
  have HA := hide hA0
  have HP := hide hp
  have HPB := hide hpot
  have HU := hide hu
  have HXN := hide hxn
  clear hL hA0 hp hpot hu hxn
  go_enter Tryz.func104, Tryz.ntmps104
  go_wp2
  go_loopw [4, 5, 6, 7, 8, 15] (fun nu ap dr sp ro i wr => ∃ k : Nat, k ≤ an ∧ i = .int .i64 k ∧ Hid (Load wr lb fb vb sa sn sc aa an ac (fillK es po k) (leftOf xs es (fillK es po k))) ∧ Below wz.heap.size wz wr) (fun _ _ _ _ _ i _ => an - (intOf i).toNat)
  case atStart => exact ⟨0, Nat.zero_le _, rfl, HL0.out, hB0⟩
  case round =>
    clear k1 HL0 hB0
    obtain ⟨k, hk, rfl, hL, hb⟩ := hrel
    by_cases hlt : k < an
    · have hlt3 : (k : Int) < (an : Int) := by omega
      have hke : k < es.length := by rw [hal.out]; exact hlt
      have hok := hn.arc k hke
      have ba := arcB_out hok
      obtain ⟨b, off, f, t, l, c, q, rfl, hA, hbb, e0, e1, e2, e3, e4⟩ := (HA.out.below hb).get hlt
      rw [hA] at ba
      simp only [] at ba
      obtain ⟨f, rfl⟩ := nat_of ba.1
      obtain ⟨t, rfl⟩ := nat_of ba.2.2.1
      rw [HXN.out] at ba
      have hb1 := Joins.below_alloc1 wr (.cells #[.int .i64 (f : Int), .int .i64 (t : Int), .int .i64 l, .int .i64 c, .int .i64 q] 67)
      have hB1 := hb.trans (hb1.mono hb.size)
      have hD : driftAt es po k = q + po.getD f 0 - po.getD t 0 := by simp only [driftAt, hA, Int.toNat_natCast]
      have hfb := HPB.out f (by omega)
      have htb := HPB.out t (by omega)
      have cD : n0 (Calls Tryz.prog 110 #[.agg #[.int .i64 (f : Int), .int .i64 (t : Int), .int .i64 l, .int .i64 c, .int .i64 q], .slice pa sn pc] (wr.alloc (.cells #[.int .i64 (f : Int), .int .i64 (t : Int), .int .i64 l, .int .i64 c, .int .i64 q] 67)) fun e w' => e = .returned (.int .i64 (driftAt es po k)) ∧ Below (wr.alloc (.cells #[.int .i64 (f : Int), .int .i64 (t : Int), .int .i64 l, .int .i64 c, .int .i64 q] 67)).heap.size (wr.alloc (.cells #[.int .i64 (f : Int), .int .i64 (t : Int), .int .i64 l, .int .i64 c, .int .i64 q] 67)) w') := by
        rw [hD]
        exact gDrift_any pa sn pc f t l c q po _ (HP.out.below hB1) (by omega) (by omega) (by omega) HPB.out
      have HUk := hide (HU.out k hke)
      have HAA := hide hA
      have hcap : c = -1 ∨ (l ≤ c ∧ c ≤ 60) := ba.2.2.2.2.2.2.1
      have hl0 : 0 ≤ l := by omega
      have HOK := hide hok
      clear hA hok ba hfb htb hD
      obtain ⟨d, hd⟩ : ∃ d, driftAt es po k = d := ⟨_, rfl⟩
      have HD := hide hd
      rw [hd] at cD
      clear hd
      go_wp2_with fail
      refine Calls.mono cD.out ?_
      rintro e w2 ⟨rfl, hb2⟩
      clear cD e0 e1 e2 e3 e4
      have hB2 : Below wz.heap.size wz w2 := hB1.trans (hb2.mono (Nat.le_trans hb.size hb1.size))
      have hL2 := (hL.out.grow hb1).grow hb2
      have HL2 := hide hL2
      clear hb2 hL2 hL hb hb1 hB1
      by_cases hneg : d < 0
      · have hcn : c ≠ -1 := fun e => by
          have := HUk.out (by rw [HAA.out]; exact e)
          rw [HD.out] at this
          omega
        have hroom : roomOf es (fillK es po k) ⟨k, false⟩ = c - l := by
          simp only [roomOf, Bool.false_eq_true, if_false]
          rw [HAA.out, if_neg hcn, fillK_at _ _ _ hke, if_neg (show ¬ (k < k ∧ driftAt es po k < 0) by omega), HAA.out]
        have hfk : 0 ≤ (fillK es po k).getD k 0 ∧ (fillK es po k).getD k 0 ≤ 1000000 := by
          rw [fillK_at _ _ _ hke, if_neg (by omega), HAA.out]; simp only []; omega
        have hb3 := Joins.below_alloc1 w2 (.cells #[.int .i64 (k : Int), .bool false] 121)
        have hB3 := hB2.trans (hb3.mono hB2.size)
        have cR : n0 (Calls Tryz.prog 109 #[.pointer (some ⟨lb, 0, none⟩), .agg #[.int .i64 k, .bool false]] (w2.alloc (.cells #[.int .i64 (k : Int), .bool false] 121)) fun e w' => e = .returned (.int .i64 (c - l)) ∧ Below (w2.alloc (.cells #[.int .i64 (k : Int), .bool false] 121)).heap.size (w2.alloc (.cells #[.int .i64 (k : Int), .bool false] 121)) w') := by
          rw [← hroom]
          exact rRoom_any lb fb vb sa (some ⟨b, off, none⟩) sn sc an ac (fillK es po k) _ es k false _ _ (HL2.out.grow hb3) (HA.out.below hB3) hlt HOK.out hfk
        clear hroom hfk
        go_wp2_with fail
        refine Calls.mono cR.out ?_
        rintro e w3 ⟨rfl, hb4⟩
        clear cR
        have d0 : w3.cell? ⟨w2.heap.size, 0, none⟩ = some (.int .i64 k) := (hb4.cell (by simp)).trans (by go_simp)
        have d1 : w3.cell? ⟨w2.heap.size, 1, none⟩ = some (.bool false) := (hb4.cell (by simp)).trans (by go_simp)
        have hB4 : Below wz.heap.size wz w3 := hB3.trans (hb4.mono (Nat.le_trans hB2.size hb3.size))
        have hL4 := (HL2.out.grow hb3).grow hb4
        have cT : n0 (Calls Tryz.prog 86 #[.pointer (some ⟨lb, 0, none⟩), .agg #[.int .i64 k, .bool false], .int .i64 (c - l)] w3 fun e w' => e = .returned (.tuple #[]) ∧ Load w' lb fb vb sa sn sc (some ⟨b, off, none⟩) an ac (fillK es po (k + 1)) (leftOf xs es (fillK es po (k + 1))) ∧ Below wz.heap.size wz w') := by
          refine (rTake_any lb fb vb sa (some ⟨b, off, none⟩) sn sc an ac xs (fillK es po k) es k false (c - l) w3 hn HXN.out hL4 (HA.out.below hB4) (by rw [fillK_len]; exact hal.out) hlt (fun i hi => by have := fillK_bd hn HU.out k i hi; have := arcB_out (hn.arc i hi); omega) (by omega)).mono ?_
          rintro e w' ⟨rfl, h1, w1, w2, h2, h3, h4⟩
          have hs : addAt (fillK es po k) k (stD ⟨k, false⟩ (c - l)) = fillK es po (k + 1) := by
            have := fillK_move es po hke (by rw [HD.out]; exact hneg)
            rw [HAA.out] at this
            exact this
          rw [hs] at h1
          exact ⟨rfl, h1, take_below hB4 h2 h3 h4 hB4.size hzl.2.1 hzl.2.2⟩
        clear hb4 hb3 hB3 hL4 HL2
        go_wp2_with fail
        refine Calls.mono cT.out ?_
        rintro e w4 ⟨rfl, hL5, hb5⟩
        have HL5 := hide hL5
        clear cT hL5 d0 d1
        go_wp2
        go_roundw
        case rel => exact ⟨k + 1, by omega, by go_num, HL5.out, hb5⟩
        case measure => simp [intOf]; omega
      · have hdf : decide (d < 0) = false := decide_eq_false hneg
        have HL3 : Hid (Load w2 lb fb vb sa sn sc (some ⟨b, off, none⟩) an ac (fillK es po (k + 1)) (leftOf xs es (fillK es po (k + 1)))) := by
          rw [fillK_stay es po hke (by rw [HD.out]; exact hneg)]; exact HL2.out
        clear HL2
        go_wp2
        all_goals first
          | (exfalso; omega)
          | (go_roundw
             case rel => exact ⟨k + 1, by omega, by go_num, HL3.out, hB2⟩
             case measure => simp [intOf]; omega)
    · have hkn : k = an := by omega
      subst hkn
      have HF : Hid (Load wr lb fb vb sa sn sc aa k ac (fillK es po es.length) (leftOf xs es (fillK es po es.length))) := by rw [hal.out]; exact hL.out
      clear hL
      go_wp2
      go_end0
      exact ⟨rfl, HF.out, hb⟩
end Go.Proofs.YtnbccoflcoaoaaaGreat

namespace Go.Proofs.YtnbccoflcoaoaaaGreat
open Go.RowKit Go.Deep
set_option linter.unusedSimpArgs false
set_option linter.unusedVariables false

set_option maxHeartbeats 2000000 in
theorem rEverywhere_any (lb fb vb : Nat) (sa aa : Option Addr) (sn sc an ac : Nat) (xs fl lf : List Int) (es : List A5) (wz w : World)
    (hn : NetW xs es) (hxn : xs.length = sn) (hL : Load w lb fb vb sa sn sc aa an ac fl lf) (hA0 : Arcs wz aa an es) (hB0 : Below wz.heap.size wz w) (hm : Mild fl es.length) (hrm : ∀ s : St, s.arc < es.length → 0 ≤ roomOf es fl s) :
    Calls Tryz.prog 80 #[.pointer (some ⟨lb, 0, none⟩)] w fun e w' => ∃ rb, e = .returned (.pointer (some ⟨rb, 0, none⟩)) ∧ Below w.heap.size w w' ∧ Cheap es fl sn (fun _ => true) w.heap.size rb w' := by
  have h16 : sn ≤ 16 := by rw [← hxn]; exact hn.ten
  have hmb := run_make_row' (P := Tryz.prog) 113 4 (.bool false) 1 Tryz.underlying113 infoBool rfl .i64 .i64 sn (by omega) (by omega)
  have k3 := hL.c3
  have HL := hide hL
  have HA := hide hA0
  have HXN := hide hxn
  have HM := hide hm
  have HRM := hide hrm
  clear hL hA0 hxn hm hrm
  go_enter Tryz.func80, Tryz.ntmps80
  go_wp2
  go_loopw [4, 13] (fun nd i wr => ∃ k : Nat, k ≤ sn ∧ i = .int .i64 k ∧ Hid (wr.rowIs w.heap.size 4 sn (fun i => .bool (decide (i < k)))) ∧ Below w.heap.size w wr) (fun _ i _ => sn - (intOf i).toNat)
  case atStart =>
    refine ⟨0, Nat.zero_le _, rfl, ?_, Joins.below_alloc1 _ _⟩
    exact (World.rowIs_made w (.bool false) sn 4).congr (fun i _ => by simp)
  case round =>
    clear hmb k3
    obtain ⟨k, hk, rfl, hR, hb⟩ := hrel
    by_cases hlt : k < sn
    · have hlt3 : (k : Int) < (sn : Int) := by omega
      have ct := hR.out.cell hlt
      have ft := hR.out.frozen k
      have HR1 := hide (hR.out.set k (.bool true))
      have HB1 := hide (hb.setCell (p := ⟨w.heap.size, k, none⟩) (by show w.heap.size ≤ w.heap.size; omega) (.bool true))
      clear hR hb
      go_wp2
      go_roundw
      case rel =>
        refine ⟨k + 1, by omega, by go_num, ?_, HB1.out⟩
        refine HR1.out.congr ?_
        intro i hi
        by_cases e : i = k
        · subst e; rw [if_pos rfl, decide_eq_true (by omega)]
        · rw [if_neg e, show decide (i < k) = decide (i < k + 1) from decide_eq_decide.2 (by omega)]
      case measure => simp [intOf]; omega
    · have hkn : k = sn := by omega
      subst hkn
      have hB : Below wz.heap.size wz wr := hB0.trans (hb.mono hB0.size)
      have cC : n0 (Calls Tryz.prog 89 #[.pointer (some ⟨lb, 0, none⟩), .slice (some ⟨w.heap.size, 0, none⟩) k k] wr fun e w' => ∃ rb, e = .returned (.pointer (some ⟨rb, 0, none⟩)) ∧ Below wr.heap.size wr w' ∧ Cheap es fl k (fun _ => true) wr.heap.size rb w') :=
        rCheapest_any lb fb vb sa aa k sc an ac xs fl lf es (fun _ => true) w.heap.size wz wr hn HXN.out (HL.out.grow hb) HA.out hB HM.out HRM.out (hR.out.congr (fun i hi => by rw [decide_eq_true hi]))
      clear hR
      go_wp2_with fail
      refine Calls.mono cC.out ?_
      rintro e w2 ⟨rb, rfl, hb2, hC⟩
      have HC := hide hC
      clear cC hC
      go_wp2
      go_ret
      obtain ⟨sb, cb, ab, seen, cost, last, T, R, c, nw, hW, hI, hN, hc, hY⟩ := HC.out
      exact ⟨rb, rfl, hb.trans (hb2.mono hb.size), sb, cb, ab, seen, cost, last, T, R, c, nw, ⟨hW.rr, hW.rs, hW.rc, hW.ra, ⟨Nat.le_trans hb.size hW.lo.1, Nat.le_trans hb.size hW.lo.2.1, Nat.le_trans hb.size hW.lo.2.2.1, Nat.le_trans hb.size hW.lo.2.2.2⟩, hW.ne⟩, hI, hN, hc, hY⟩

set_option maxHeartbeats 1000000 in
theorem rPots_any (lb fb vb : Nat) (sa aa : Option Addr) (sn sc an ac : Nat) (xs fl : List Int) (es : List A5) (wz w : World)
    (hn : NetW xs es) (hxn : xs.length = sn) (hL : Load w lb fb vb sa sn sc aa an ac fl (leftOf xs es fl)) (hA0 : Arcs wz aa an es) (hB0 : Below wz.heap.size wz w) (hm : Mild fl es.length) (hrm : ∀ s : St, s.arc < es.length → 0 ≤ roomOf es fl s) (hP : ∃ p, Pot es fl p) :
    Calls Tryz.prog 93 #[.pointer (some ⟨lb, 0, none⟩)] w fun e w' => ∃ cb cost, e = .returned (.slice (some ⟨cb, 0, none⟩) sn sn) ∧ w.heap.size ≤ cb ∧ w'.rowIs cb 3 sn (fun i => .int .i64 (cost i)) ∧ Pot es fl cost ∧ (∀ v, v < sn → -102400 ≤ cost v ∧ cost v ≤ 102400) ∧ Below w.heap.size w w' ∧ cost = (cheapF es fl sn (fun _ => true)).cost := by
  have cE : n0 (Calls Tryz.prog 80 #[.pointer (some ⟨lb, 0, none⟩)] w fun e w' => ∃ rb, e = .returned (.pointer (some ⟨rb, 0, none⟩)) ∧ Below w.heap.size w w' ∧ Cheap es fl sn (fun _ => true) w.heap.size rb w') :=
    rEverywhere_any lb fb vb sa aa sn sc an ac xs fl _ es wz w hn hxn hL hA0 hB0 hm hrm
  have HP := hide hP
  have HXN := hide hxn
  clear hL hA0 hB0 hP hxn
  go_enter Tryz.func93, Tryz.ntmps93
  go_wp2_with fail
  refine Calls.mono cE.out ?_
  rintro e w1 ⟨rb, rfl, hb1, sb, cb, ab, seen, cost, last, T, R, c, nw, hW, hI, hN, hc, hY⟩
  clear cE
  obtain ⟨p, hp⟩ := HP.out
  have hcl := hI.closed hN (hI.none_new hN hp)
  have HPC : Hid (Pot es fl cost) := fun s hs hr => by
    have hsl := (st_ends hn hs).2.2.1
    rw [HXN.out] at hsl
    have := (hcl s hs hr (hI.start _ hsl rfl) hsl).2
    omega
  have HBD : Hid (∀ v, v < sn → -102400 ≤ cost v ∧ cost v ≤ 102400) := fun v hv => by
    have := hI.bd v hv
    omega
  have q1 := hW.c1
  have HW := hide hW
  have HYC : Hid (cost = (cheapF es fl sn (fun _ => true)).cost) := by show _ = _; rw [← hY]
  clear hW hI hN hcl hp hY
  go_wp2
  go_ret
  exact ⟨cb, cost, rfl, HW.out.lo.2.2.1, HW.out.rc, HPC.out, HBD.out, hb1, HYC.out⟩
end Go.Proofs.YtnbccoflcoaoaaaGreat
