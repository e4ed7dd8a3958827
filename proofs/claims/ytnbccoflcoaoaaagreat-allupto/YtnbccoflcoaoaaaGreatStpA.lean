import Derived.Test.YtnbccoflcoaoaaaGreatAllX
import Derived.Test.YtnbccoflcoaoaaaGreatAllZ
import Derived.Test.YtnbccoflcoaoaaaGreatAllU
import Derived.Test.YtnbccoflcoaoaaaGreatAllDf
namespace Go.Proofs.YtnbccoflcoaoaaaGreat
open Go.RowKit Go.Deep
set_option linter.unusedSimpArgs false
set_option linter.unusedVariables false

/-! ### what step leans on -/
theorem Arcs.old {w0 w : World} {a : Option Addr} {n : Nat} {es : List A5} (h : Arcs w0 a n es) (ho : Old w0 w) : Arcs w a n es :=
  ⟨h.len, h.small, h.wf, h.lies.imp id fun ⟨b, off, e, hl, hc⟩ => ⟨b, off, e, Nat.lt_of_lt_of_le hl ho.size, fun i hi j hj => by rw [ho.cell hl]; exact hc i hi j hj⟩⟩
/-- The nets that came in. -/
def NetsAt (w0 : World) (v : Value) (nn : Nat) (nets : Nat → List Int × List A5) : Prop :=
  ∃ a c, v = .slice a nn c ∧ nn ≤ 2097152 ∧ (nn = 0 ∨ ∃ b off, a = some ⟨b, off, none⟩ ∧ b < w0.heap.size ∧ ∀ i, i < nn → ∃ sa sc aa ac, w0.cell? ⟨b, off + i * 2, none⟩ = some (.slice sa (nets i).1.length sc) ∧ w0.cell? ⟨b, off + i * 2 + 1, none⟩ = some (.slice aa (nets i).2.length ac) ∧ Ints w0 sa (nets i).1.length (nets i).1 ∧ Arcs w0 aa (nets i).2.length (nets i).2 ∧ (nets i).1.length ≤ 2097152 ∧ (nets i).2.length ≤ 2097152)
/-- What a call tells that is kept in mind. -/
def SaidRel (nn : Nat) (nets : Nat → List Int × List A5) (nt : Nat) (tabs : Nat → List (List Int)) (o s : List Int) : Prop :=
  (o.getD 0 0 = 4 ∧ SaidSome (nets (pickS (o.getD 1 0) nn)).1 (nets (pickS (o.getD 1 0) nn)).2 s) ∨
  (o.getD 0 0 = 5 ∧ SaidSolve (nets (pickS (o.getD 1 0) nn)).1 (nets (pickS (o.getD 1 0) nn)).2 s) ∨
  (o.getD 0 0 = 6 ∧ SaidMost (nets (pickS (o.getD 1 0) nn)).1 (nets (pickS (o.getD 1 0) nn)).2 (o.getD 2 0) (o.getD 3 0) s) ∨
  (o.getD 0 0 = 7 ∧ SaidT nt tabs (o.getD 1 0) s)
theorem SaidRel.same {nn : Nat} {nets : Nat → List Int × List A5} {nt : Nat} {tabs : Nat → List (List Int)} {o o' s s' : List Int} (h : SaidRel nn nets nt tabs o s) (k : SaidRel nn nets nt tabs o' s') (he : ∀ j, j < 4 → o.getD j 0 = o'.getD j 0) : s = s' := by
  have e0 := he 0 (by omega)
  have e1 := he 1 (by omega)
  have e2 := he 2 (by omega)
  have e3 := he 3 (by omega)
  unfold SaidRel at h
  rw [e0, e1, e2, e3] at h
  rcases h with ⟨h0, h⟩ | ⟨h0, h⟩ | ⟨h0, h⟩ | ⟨h0, h⟩ <;> rcases k with ⟨k0, k⟩ | ⟨k0, k⟩ | ⟨k0, k⟩ | ⟨k0, k⟩ <;> first | (exfalso; omega) | exact h.same k
/-- What is told, and waits to be kept. -/
structure Tld (w : World) (tb base0 : Nat) (P : Nat → Prop) (o s : List Int) (sv : Value) : Prop where
  told : w.rowIs tb 44 5 (toldF o sv)
  said : w.ownsRow base0 3 1 sv s.length (intCells s)
  saidP : ∀ b, sv.ownBlock = some b → ¬ P b
  len : s.length ≤ 1000
  wf : ∀ x ∈ s, -9223372036854775808 ≤ x ∧ x ≤ 9223372036854775807
theorem Tld.touch {w w' : World} {tb base0 : Nat} {P : Nat → Prop} {o s : List Int} {sv : Value} (h : Tld w tb base0 P o s sv) {g : Nat} {t : TypeId} (hg : w.grownBy w' (some g)) (ht : Typed w g t) (hn : t ≠ 44) (hsv : sv.ownBlock ≠ some g) : Tld w' tb base0 P o s sv :=
  ⟨h.told.of_block (hg.block tb h.told.lt (fun e => by cases e; exact hn (ht.uniq (row_typed h.told)))), own_blk h.said (fun b e => hg.block b (own_typed h.said b e).2.2 (fun e2 => by cases e2; exact hsv e)), h.saidP, h.len, h.wf⟩
theorem Past.push {w : World} {base0 : Nat} {P : Nat → Prop} {np : Nat} {pst : Nat → List Int × List Int} {pcs : List Value} {pv sv : Value} {o s : List Int} (hlen : pcs.length = np * 5) (hown : w.ownsRow base0 44 5 pv (np + 1) (pcs ++ toldCells o sv)) (hp : PastP w P pcs np pst) (hsv : w.ownsRow base0 3 1 sv s.length (intCells s)) (hsP : ∀ b, sv.ownBlock = some b → P b) (hl : s.length ≤ 1000) (hw : ∀ x ∈ s, -9223372036854775808 ≤ x ∧ x ≤ 9223372036854775807) : Past w base0 P pv (np + 1) (fun i => if i = np then (o, s) else pst i) := by
  obtain ⟨pa, pc, epv⟩ : ∃ pa pc, pv = .slice pa (np + 1) pc := by
    rcases hown.2 with ⟨_, h0⟩ | ⟨g, cap, cur, e, _⟩
    · omega
    · exact ⟨_, _, e⟩
  refine ⟨⟨pa, pc, _, epv, by rw [← epv]; exact hown, fun i hi => ?_⟩⟩
  by_cases e : i = np
  · subst e
    simp only [if_true]
    refine ⟨fun j hj => ?_, ?_⟩
    · rw [List.getElem?_append_right (by omega), show i * 5 + j - pcs.length = j by omega]
      match j, hj with
      | 0, _ => rfl
      | 1, _ => rfl
      | 2, _ => rfl
      | 3, _ => rfl
    · rcases hsv.2 with ⟨e1, h0⟩ | ⟨g, cap, cur, e1, _⟩
      · refine ⟨none, 0, ?_, ?_, fun b off e => by cases e⟩
        · rw [List.getElem?_append_right (by omega), show i * 5 + 4 - pcs.length = 4 by omega, h0, ← e1]; rfl
        · exact own_ints (by rw [e1, ← h0] at hsv; exact hsv) (by omega) hw
      · refine ⟨some ⟨g, 0, none⟩, cap, ?_, ?_, fun b off e => hsP b ?_⟩
        · rw [List.getElem?_append_right (by omega), show i * 5 + 4 - pcs.length = 4 by omega, ← e1]; rfl
        · exact own_ints (by rw [e1] at hsv; exact hsv) (by omega) hw
        · cases e; rw [e1]; rfl
  · simp only [if_neg e]
    obtain ⟨h1, a, c, h2, h3, h4⟩ := hp i (by omega)
    exact ⟨fun j hj => by rw [List.getElem?_append_left (by omega)]; exact h1 j hj, a, c, by rw [List.getElem?_append_left (by omega)]; exact h2, h3, h4⟩
theorem steady_st (w : World) (wb tb base0 : Nat) (P : Nat → Prop) (nl nf na np : Nat) (fw : Nat → Value) (fls : Nat → List Int) (anss : Nat → A6) (pst : Nat → List Int × List Int) (o s : List Int) (sv : Value) (h : AllS w wb base0 P nl nf na np fw fls anss pst) (ht : Tld w tb base0 P o s sv) (hnp : np ≤ 1073741824) (hdet : ∀ i, i < np → (∀ j, j < 4 → (pst i).1.getD j 0 = o.getD j 0) → (pst i).2 = s) :
    Calls Tryz.prog 9 #[.pointer (some ⟨wb, 0, none⟩), .pointer (some ⟨tb, 0, none⟩)] w fun e w' => e = .returned (.bool true) ∧ ∃ P' fw', AllS w' wb base0 P' nl nf na (np + 1) fw' fls anss (fun i => if i = np then (o, s) else pst i) ∧ (∀ i, i ≠ 5 → fw' i = fw i) ∧ (∀ b, b < base0 → w'.heap[b]? = w.heap[b]?) ∧ w.heap.size ≤ w'.heap.size ∧ w'.os = w.os ∧ w'.tape = w.tape ∧ w'.output = w.output := by
  obtain ⟨pa, pc, pcs, e5, hps, hst⟩ := h.past.row
  have hb0 : base0 ≤ w.heap.size := Nat.le_trans h.lst.wlo (Nat.le_of_lt h.lst.box.lt)
  refine (aSteady_any wb tb base0 base0 fw pa np pc pcs pst o s sv w h.lst.box e5 hps (by omega) hb0 hst.at_ hdet ht.told ht.said ht.len ht.wf).mono ?_
  rintro e w' ⟨rfl, pv', hbox, hown, hfr, hsz, hos, htp, hout⟩
  have hpT : ∀ b, (Value.slice pa np pc).ownBlock = some b → Typed w b 44 := fun b hb => (own_typed hps b hb).1
  have hk : ∀ {b : Nat} {t : TypeId}, Typed w b t → t ≠ 31 → t ≠ 44 → b < w.heap.size → w'.heap[b]? = w.heap[b]? := fun hT h1 h2 hl => hfr _ hl (fun e => by subst e; exact h1 (hT.uniq (row_typed h.lst.box))) (fun e => h2 (hT.uniq (hpT _ e.symm)))
  have hPk : ∀ b, P b → w'.heap[b]? = w.heap[b]? := fun b hb => by
    refine hfr b (h.lst.safe.lt b hb) (fun e => ?_) (fun e => ?_)
    · subst e; exact h.lst.safe.not h.lst.wlo (row_typed h.lst.box) (by decide) (by decide) hb
    · exact h.lst.safe.not (own_typed hps b e.symm).2.1 (hpT b e.symm) (by decide) (by decide) hb
  have hsT : ∀ b, sv.ownBlock = some b → Typed w b 3 ∧ base0 ≤ b ∧ b < w.heap.size := own_typed ht.said
  have hsk : ∀ b, sv.ownBlock = some b → w'.heap[b]? = w.heap[b]? := fun b hb => hk (hsT b hb).1 (by decide) (by decide) (hsT b hb).2.2
  refine ⟨rfl, fun b => P b ∨ sv.ownBlock = some b, fun i => if i = 5 then pv' else fw i, ⟨⟨hbox, ?_, ⟨?_, ?_⟩, h.lst.wlo⟩, ?_, ?_, ?_, fun b hb => .inl (h.low b hb)⟩, fun i hi => if_neg hi, fun b hb => hPk b (h.low b hb), hsz, hos, htp, hout⟩
  · obtain ⟨la, lc, lcs, h1, h2, h3⟩ := h.lst.arr
    refine ⟨la, lc, lcs, by rw [if_neg (by decide)]; exact h1, own_blk h2 (fun k e => hk (own_typed h2 k e).1 (by decide) (by decide) (own_typed h2 k e).2.2), fun p hp => ?_⟩
    obtain ⟨v, ev, hv⟩ := h3 p hp
    exact ⟨v, ev, hv.keep hPk (fun b hb => .inl hb)⟩
  · rintro b (hb | hb)
    · exact Nat.lt_of_lt_of_le (h.lst.safe.lt b hb) hsz
    · exact Nat.lt_of_lt_of_le (hsT b hb).2.2 hsz
  · rintro b (hb | hb)
    · exact (h.lst.safe.keep hsz hPk).ty b hb
    · obtain ⟨c, ec⟩ := (hsT b hb).1
      exact .inr (.inl ⟨c, by rw [hsk b hb]; exact ec⟩)
  · show Flo w' base0 _ (if (1 : Nat) = 5 then pv' else fw 1) nf fls
    rw [if_neg (by decide)]
    refine h.flo.keep hsz hPk (fun b hb => .inl hb) (fun b e => ⟨hk (h.flo.ty b e).1 (by decide) (by decide) (h.flo.ty b e).2.2, ?_⟩)
    rintro (hp | hp)
    · exact h.flo.out b e hp
    · exact absurd ((h.flo.ty b e).1.uniq (hsT b hp).1) (by decide)
  · show Anz w' base0 _ (if (2 : Nat) = 5 then pv' else fw 2) na anss
    rw [if_neg (by decide)]
    exact h.anz.keep hsz hPk (fun b hb => .inl hb) (fun b e => hk (h.anz.ty b e).1 (by decide) (by decide) (h.anz.ty b e).2.2)
  · show Past w' base0 _ (if (5 : Nat) = 5 then pv' else fw 5) (np + 1) _
    rw [if_pos rfl]
    exact Past.push (by have := hps.1; omega) hown (hst.keep hsz hPk (fun b hb => .inl hb)) (own_blk ht.said hsk) (fun b hb => .inr hb) ht.len ht.wf
end Go.Proofs.YtnbccoflcoaoaaaGreat
