import Derived.Test.YtampcheafdlomaaRtP
namespace Go.Proofs.Ytampcheafdlomaa
open Go.RowKit
set_option linter.unusedSimpArgs false
set_option linter.unusedVariables false

theorem ext_getD {l m : List Int} (hl : l.length = m.length) (h : ∀ i, i < l.length → l.getD i 0 = m.getD i 0) : l = m := by
  apply List.ext_getElem?
  intro i
  by_cases hi : i < l.length
  · have h1 := h i hi
    simp only [List.getD, List.getElem?_eq_getElem hi, List.getElem?_eq_getElem (show i < m.length by omega), Option.getD_some] at h1 ⊢
    rw [h1]
  · rw [List.getElem?_eq_none (by omega), List.getElem?_eq_none (by omega)]

/-! ### the way back, as a list of steps -/
def wayL (es : List A5) (last : Nat → St) (v k : Nat) : List St := (List.range k).map fun j => last (bk es last v j)
theorem wayL_len (es : List A5) (last : Nat → St) (v k : Nat) : (wayL es last v k).length = k := by simp [wayL]
theorem wayL_at (es : List A5) (last : Nat → St) (v k : Nat) {j : Nat} (hj : j < k) : (wayL es last v k).getD j zS = last (bk es last v j) := by simp [wayL, List.getD, hj]
theorem wayL_snoc (es : List A5) (last : Nat → St) (v k : Nat) : wayL es last v (k + 1) = wayL es last v k ++ [last (bk es last v k)] := by simp [wayL, List.range_succ]

section
variable {xs : List Int} {es : List A5} {fl : List Int} {n : Nat} {S seen : Nat → Bool} {cost : Nat → Int} {last : Nat → St} {T R : Nat → Nat} {c r : Nat} {done : St → Prop}
theorem WInv.wayOK (hn : NetOK xs es) (hxn : xs.length = n) (h : WInv es fl n S seen cost last T R c r done) {p : Nat → Int} (hp : Pot es fl p) {v : Nat} (hv : v < n) (k : Nat) (hk : ∀ j, j < k → T (bk es last v j) ≠ 0) :
    WayOK es fl (wayL es last v k) (v : Int) ∧ atK es (wayL es last v k) (v : Int) k = (bk es last v k : Int) := by
  have hw : ∀ j, j < k → _ := fun j hj => h.way _ (h.bk_lt hv k hk j (by omega)) (hk j hj)
  have hat : ∀ j, j ≤ k → atK es (wayL es last v k) (v : Int) j = (bk es last v j : Int) := by
    intro j hj
    cases j with
    | zero => rfl
    | succ j =>
      simp only [atK, bk]
      rw [wayL_at _ _ _ _ (by omega)]
      exact (st_ends hn (hw j (by omega)).2.1).1
  refine ⟨⟨fun j hj => ?_, fun j hj => ?_, fun i j hij hj => ?_, fun j hj => ?_⟩, hat k (Nat.le_refl _)⟩
  · rw [wayL_len] at hj
    rw [wayL_at _ _ _ _ hj]; exact (hw j hj).2.1
  · rw [wayL_len] at hj
    rw [hat j (by omega), wayL_at _ _ _ _ hj, (st_ends hn (hw j hj).2.1).2.1, (hw j hj).2.2.1]
  · rw [wayL_len] at hj
    rw [wayL_at _ _ _ _ hj, wayL_at _ _ _ _ (by omega)]
    intro e
    have d1 := (hw i (by omega)).2.2.1
    have d2 := (hw j hj).2.2.1
    have o1 := h.bk_once hp hv k hk i j hij (by omega)
    have o2 := h.bk_once hp hv k hk i (j + 1) (by omega) (by omega)
    simp only [bk] at o2
    cases hb1 : (last (bk es last v i)).back <;> cases hb2 : (last (bk es last v j)).back <;>
      simp only [St.dstN, St.srcN, St.dst, St.src, hb1, hb2, e, Bool.false_eq_true, if_false, if_true] at d1 d2 o1 o2 <;> omega
  · rw [wayL_len] at hj
    rw [wayL_at _ _ _ _ hj]; exact (hw j hj).2.2.2.1
/-- Where nothing can be made cheaper, last steps have no drift. -/
theorem WInv.tight (h : WInv es fl n S seen cost last T R c r done) (hcl : ∀ s : St, s.arc < es.length → 0 < roomOf es fl s → seen (s.srcN es) = true → s.srcN es < n → Sat es seen cost s) {v : Nat} (hv : v < n) (hT : T v ≠ 0) :
    seen ((last v).srcN es) = true ∧ seen ((last v).dstN es) = true ∧ cost ((last v).dstN es) = cost ((last v).srcN es) + priceOf es (last v) := by
  obtain ⟨a1, a2, a3, a4, a5, a6, a7, a8⟩ := h.way v hv hT
  have h1 := hcl _ a2 a4 a6 a5
  refine ⟨a6, h1.1, ?_⟩
  have h2 := h1.2
  rw [a3] at h2 ⊢
  split at a7 <;> omega
end

/-! ### potentials behind a sending -/
theorem big_bound (g : St → Int) (k : Nat) : ∃ M : Int, ∀ s : St, s.arc < k → g s ≤ M := by
  induction k with
  | zero => exact ⟨0, fun s hs => by omega⟩
  | succ k ih =>
    obtain ⟨M, hM⟩ := ih
    refine ⟨max M (max (g ⟨k, false⟩) (g ⟨k, true⟩)), ?_⟩
    rintro ⟨a, b⟩ hs
    have hs' : a < k + 1 := hs
    by_cases e : a = k
    · subst e; cases b <;> omega
    · have := hM ⟨a, b⟩ (show a < k by omega); omega

theorem pot_send {xs : List Int} {es : List A5} (hn : NetOK xs es) {fl : List Int} (hl : fl.length = es.length) {p : Nat → Int} (hp : Pot es fl p) {seen : Nat → Bool} {cost : Nat → Int}
    (hcl : ∀ s : St, s.arc < es.length → 0 < roomOf es fl s → seen (s.srcN es) = true → s.srcN es < xs.length → Sat es seen cost s)
    {way : List St} {e : Int} (hw : WayOK es fl way e) (ht : ∀ j, j < way.length → seen ((way.getD j zS).srcN es) = true ∧ seen ((way.getD j zS).dstN es) = true ∧ cost ((way.getD j zS).dstN es) = cost ((way.getD j zS).srcN es) + priceOf es (way.getD j zS)) (x : Int) :
    ∃ p', Pot es (takeTo fl way x way.length) p' := by
  obtain ⟨M, hM⟩ := big_bound (fun s => cost (s.dstN es) - priceOf es s - p (s.srcN es)) es.length
  refine ⟨fun v => if seen v = true then cost v else p v + M, ?_⟩
  intro s hs hroom
  show 0 ≤ priceOf es s + (if seen (s.srcN es) = true then cost (s.srcN es) else p (s.srcN es) + M) - (if seen (s.dstN es) = true then cost (s.dstN es) else p (s.dstN es) + M)
  obtain ⟨-, -, hsl, hdl⟩ := st_ends hn hs
  by_cases hon : ∃ j, j < way.length ∧ (way.getD j zS).arc = s.arc
  · obtain ⟨j, hj, ha⟩ := hon
    obtain ⟨t1, t2, t3⟩ := ht j hj
    obtain ⟨sa, sb⟩ := s
    obtain ⟨⟨wa, wb⟩, hws⟩ : ∃ q, way.getD j zS = q := ⟨_, rfl⟩
    rw [hws] at t1 t2 t3 ha
    simp only [] at ha
    subst ha
    cases sb <;> cases wb <;> simp only [St.dstN, St.srcN, St.dst, St.src, priceOf, Bool.false_eq_true, if_false, if_true] at t1 t2 t3 ⊢ <;> rw [if_pos t1, if_pos t2] <;> omega
  · have hsame : roomOf es (takeTo fl way x way.length) s = roomOf es fl s := by
      unfold roomOf
      rw [take_off hw hl x s.arc _ (Nat.le_refl _) (fun j hj he => hon ⟨j, hj, he⟩)]
    rw [hsame] at hroom
    by_cases h1 : seen (s.srcN es) = true
    · obtain ⟨h2, h3⟩ := hcl s hs hroom h1 hsl
      rw [if_pos h1, if_pos h2]; omega
    · rw [if_neg h1]
      by_cases h2 : seen (s.dstN es) = true
      · rw [if_pos h2]
        have := hM s hs
        omega
      · rw [if_neg h2]
        have := hp s hs hroom
        omega

/-! ### what is left, of any flow -/
def leftOf (xs : List Int) (es : List A5) (fl : List Int) : List Int := (List.range xs.length).map fun v => xs.getD v 0 - netTo es fl (v : Int) es.length
theorem leftOf_len (xs : List Int) (es : List A5) (fl : List Int) : (leftOf xs es fl).length = xs.length := by simp [leftOf]
theorem leftOf_at (xs : List Int) (es : List A5) (fl : List Int) {v : Nat} (hv : v < xs.length) : (leftOf xs es fl).getD v 0 = xs.getD v 0 - netTo es fl (v : Int) es.length := by simp [leftOf, List.getD, hv]
theorem LInv.lf_eq {xs : List Int} {es : List A5} {fl lf : List Int} {t : Int} (h : LInv xs es fl lf t) : lf = leftOf xs es fl :=
  ext_getD (by rw [h.llen, leftOf_len]) (fun i hi => by rw [leftOf_at _ _ _ (by rw [← h.llen]; exact hi)]; exact h.left i (by rw [← h.llen]; exact hi))
/-- One step taken: what is left at both its ends. -/
theorem leftOf_take {xs : List Int} {es : List A5} (hn : NetOK xs es) {fl : List Int} (hl : fl.length = es.length) {s : St} (hs : s.arc < es.length) (x : Int) :
    addAt (addAt (leftOf xs es fl) (s.srcN es) (-x)) (s.dstN es) x = leftOf xs es (addAt fl s.arc (stD s x)) := by
  obtain ⟨e1, e2, hsl, hdl⟩ := st_ends hn hs
  refine ext_getD (by simp only [addAt_len, leftOf_len]) (fun i hi => ?_)
  simp only [addAt_len, leftOf_len] at hi
  have hlen := leftOf_len xs es fl
  rw [addAt_at _ _ _ _ (by rw [addAt_len, hlen]; exact hdl), addAt_at _ _ _ _ (by rw [hlen]; exact hsl), addAt_at _ _ _ _ (by rw [hlen]; exact hsl), leftOf_at xs es (addAt fl s.arc (stD s x)) hi, addAt_net _ _ _ _ (by rw [hl]; exact hs), if_pos hs]
  unfold St.src at e1
  unfold St.dst at e2
  by_cases hb : s.back = true
  · rw [if_pos hb] at e1 e2
    rw [e1, e2]
    unfold stD
    rw [if_pos hb]
    by_cases h1 : i = s.dstN es
    · subst h1
      rw [if_pos rfl]
      by_cases h2 : s.dstN es = s.srcN es
      · rw [if_pos h2, ← h2, leftOf_at _ _ _ hi]; split <;> omega
      · rw [if_neg h2, leftOf_at _ _ _ hi, if_pos rfl, if_neg (show ¬ ((s.srcN es : Int) = (s.dstN es : Int)) by omega)]; omega
    · rw [if_neg h1, if_neg (show ¬ ((s.dstN es : Int) = (i : Int)) by omega)]
      by_cases h2 : i = s.srcN es
      · subst h2; rw [if_pos rfl, leftOf_at _ _ _ hi, if_pos rfl]; omega
      · rw [if_neg h2, leftOf_at _ _ _ hi, if_neg (show ¬ ((s.srcN es : Int) = (i : Int)) by omega)]; omega
  · rw [if_neg hb] at e1 e2
    rw [e1, e2]
    unfold stD
    rw [if_neg hb]
    by_cases h1 : i = s.dstN es
    · subst h1
      rw [if_pos rfl]
      by_cases h2 : s.dstN es = s.srcN es
      · rw [if_pos h2, ← h2, leftOf_at _ _ _ hi]; split <;> omega
      · rw [if_neg h2, leftOf_at _ _ _ hi, if_pos rfl, if_neg (show ¬ ((s.srcN es : Int) = (s.dstN es : Int)) by omega)]; omega
    · rw [if_neg h1, if_neg (show ¬ ((s.dstN es : Int) = (i : Int)) by omega)]
      by_cases h2 : i = s.srcN es
      · subst h2; rw [if_pos rfl, leftOf_at _ _ _ hi, if_pos rfl]; omega
      · rw [if_neg h2, leftOf_at _ _ _ hi, if_neg (show ¬ ((s.srcN es : Int) = (i : Int)) by omega)]; omega
theorem leftOf_bd {xs : List Int} {es : List A5} (hn : NetOK xs es) {fl : List Int} (hm : Mild fl es.length) (v : Nat) : -24000100 ≤ (leftOf xs es fl).getD v 0 ∧ (leftOf xs es fl).getD v 0 ≤ 24000100 := by
  by_cases hv : v < xs.length
  · have h1 := netTo_bd es fl (v : Int) es.length hm es.length (Nat.le_refl _)
    have h2 := getD_bd hn v
    have h3 := hn.arcs
    rw [leftOf_at _ _ _ hv]
    omega
  · simp [List.getD, List.getElem?_eq_none (by rw [leftOf_len]; omega : (leftOf xs es fl).length ≤ v)]

theorem netTo_bd60 (es : List A5) (fl : List Int) (node : Int) (n : Nat) (h : ∀ i, i < n → 0 ≤ fl.getD i 0 ∧ fl.getD i 0 ≤ 60) (k : Nat) (hk : k ≤ n) : -(60 * (k : Int)) ≤ netTo es fl node k ∧ netTo es fl node k ≤ 60 * (k : Int) := by
  induction k with
  | zero => simp [netTo]
  | succ k ih =>
    have i1 := ih (by omega)
    have h1 := h k (by omega)
    simp only [netTo]
    split <;> split <;> omega
/-- A load of a flow of small numbers that keeps the bounds. -/
theorem linv_of {xs : List Int} {es : List A5} (hn : NetOK xs es) {fl : List Int} (hl : fl.length = es.length) (hb : ∀ i, i < es.length → (es.getD i zA).lo ≤ fl.getD i 0 ∧ ((es.getD i zA).cap = -1 ∨ fl.getD i 0 ≤ (es.getD i zA).cap) ∧ fl.getD i 0 ≤ 60) :
    LInv xs es fl (leftOf xs es fl) (posTo (leftOf xs es fl) xs.length) where
  len := hl
  llen := leftOf_len xs es fl
  bd := fun i hi => by
    have h0 := hb i hi
    have h2 := pos_le (leftOf xs es fl) xs.length 1540 (by omega) (fun v hv => by
      rw [leftOf_at xs es fl hv]
      have h3 := netTo_bd60 es fl (v : Int) es.length (fun i hi => by have := hb i hi; have := arcB_out (hn.arc i hi); omega) es.length (Nat.le_refl _)
      have h4 := getD_bd hn v
      have h5 := hn.arcs
      omega)
    have h6 := hn.ten
    exact ⟨h0.1, h0.2.1, by omega⟩
  left := fun v hv => leftOf_at xs es fl hv
  go := rfl

/-! ### flows to begin with -/
/-- The Lows of the first k arcs. -/
def lowsK (es : List A5) (k : Nat) : List Int := (List.range es.length).map fun i => if i < k then (es.getD i zA).lo else 0
theorem lowsK_len (es : List A5) (k : Nat) : (lowsK es k).length = es.length := by simp [lowsK]
theorem lowsK_at (es : List A5) (k : Nat) {i : Nat} (hi : i < es.length) : (lowsK es k).getD i 0 = if i < k then (es.getD i zA).lo else 0 := by simp [lowsK, List.getD, hi]
theorem lowsK_succ (es : List A5) {k : Nat} (hk : k < es.length) : addAt (lowsK es k) k (es.getD k zA).lo = lowsK es (k + 1) := by
  refine ext_getD (by simp only [addAt_len, lowsK_len]) (fun i hi => ?_)
  simp only [addAt_len, lowsK_len] at hi
  rw [addAt_at _ _ _ _ (by rw [lowsK_len]; exact hk), lowsK_at _ _ hi, lowsK_at _ _ hi, lowsK_at _ _ hk]
  by_cases e : i = k
  · subst e; rw [if_pos rfl, if_neg (by omega), if_pos (by omega)]; omega
  · rw [if_neg e]
    by_cases h : i < k
    · rw [if_pos h, if_pos (by omega)]
    · rw [if_neg h, if_neg (by omega)]
def lowsL (es : List A5) : List Int := lowsK es es.length
theorem lowsL_at (es : List A5) {i : Nat} (hi : i < es.length) : (lowsL es).getD i 0 = (es.getD i zA).lo := by unfold lowsL; rw [lowsK_at _ _ hi, if_pos hi]
theorem lowsL_len (es : List A5) : (lowsL es).length = es.length := lowsK_len _ _
theorem lowsK_bd {xs : List Int} {es : List A5} (hn : NetOK xs es) (k : Nat) : ∀ i, i < es.length → 0 ≤ (lowsK es k).getD i 0 ∧ (lowsK es k).getD i 0 ≤ 60 := by
  intro i hi
  have := arcB_out (hn.arc i hi)
  rw [lowsK_at _ _ hi]
  split <;> omega
theorem leftOf_zero (xs : List Int) (es : List A5) {v : Nat} (hv : v < xs.length) : (leftOf xs es (lowsK es 0)).getD v 0 = xs.getD v 0 := by
  rw [leftOf_at _ _ _ hv]
  have : ∀ k, k ≤ es.length → netTo es (lowsK es 0) (v : Int) k = 0 := by
    intro k
    induction k with
    | zero => intro _; rfl
    | succ k ih =>
      intro hk
      simp only [netTo]
      rw [ih (by omega), lowsK_at es 0 (show k < es.length by omega), if_neg (Nat.not_lt_zero k)]
      simp
  rw [this _ (Nat.le_refl _)]; omega

/-- Caps where the drift is below 0, among the first k arcs. -/
def fillK (es : List A5) (po : List Int) (k : Nat) : List Int := (List.range es.length).map fun i => if i < k ∧ driftAt es po i < 0 then (es.getD i zA).cap else (es.getD i zA).lo
theorem fillK_len (es : List A5) (po : List Int) (k : Nat) : (fillK es po k).length = es.length := by simp [fillK]
theorem fillK_at (es : List A5) (po : List Int) (k : Nat) {i : Nat} (hi : i < es.length) : (fillK es po k).getD i 0 = if i < k ∧ driftAt es po i < 0 then (es.getD i zA).cap else (es.getD i zA).lo := by simp [fillK, List.getD, hi]
theorem fillK_zero (es : List A5) (po : List Int) : fillK es po 0 = lowsL es :=
  ext_getD (by rw [fillK_len, lowsL_len]) (fun i hi => by rw [fillK_len] at hi; rw [fillK_at _ _ _ hi, lowsL_at _ hi, if_neg (by omega)])
theorem fillK_stay (es : List A5) (po : List Int) {k : Nat} (hk : k < es.length) (hd : ¬ driftAt es po k < 0) : fillK es po (k + 1) = fillK es po k :=
  ext_getD (by rw [fillK_len, fillK_len]) (fun i hi => by
    rw [fillK_len] at hi
    rw [fillK_at _ _ _ hi, fillK_at _ _ _ hi]
    by_cases e : i = k
    · subst e; rw [if_neg (fun h => hd h.2), if_neg (fun h => hd h.2)]
    · by_cases h : i < k ∧ driftAt es po i < 0
      · rw [if_pos h, if_pos ⟨by omega, h.2⟩]
      · rw [if_neg h, if_neg (fun h2 => h ⟨by omega, h2.2⟩)])
theorem fillK_move (es : List A5) (po : List Int) {k : Nat} (hk : k < es.length) (hd : driftAt es po k < 0) : addAt (fillK es po k) k ((es.getD k zA).cap - (es.getD k zA).lo) = fillK es po (k + 1) :=
  ext_getD (by rw [addAt_len, fillK_len, fillK_len]) (fun i hi => by
    rw [addAt_len, fillK_len] at hi
    rw [addAt_at _ _ _ _ (by rw [fillK_len]; exact hk), fillK_at _ _ _ hi, fillK_at _ _ _ hi, fillK_at _ _ _ hk]
    by_cases e : i = k
    · subst e; rw [if_pos rfl, if_neg (by omega), if_pos ⟨by omega, hd⟩]; omega
    · rw [if_neg e]
      by_cases h : i < k ∧ driftAt es po i < 0
      · rw [if_pos h, if_pos ⟨by omega, h.2⟩]
      · rw [if_neg h, if_neg (fun h2 => h ⟨by omega, h2.2⟩)])
theorem fillK_bd {xs : List Int} {es : List A5} (hn : NetOK xs es) {po : List Int} (hu : ∀ i, i < es.length → (es.getD i zA).cap = -1 → 0 ≤ driftAt es po i) (k : Nat) :
    ∀ i, i < es.length → (es.getD i zA).lo ≤ (fillK es po k).getD i 0 ∧ ((es.getD i zA).cap = -1 ∨ (fillK es po k).getD i 0 ≤ (es.getD i zA).cap) ∧ (fillK es po k).getD i 0 ≤ 60 := by
  intro i hi
  have h1 := arcB_out (hn.arc i hi)
  have h2 := hu i hi
  rw [fillK_at _ _ _ hi]
  split
  · rename_i h
    have h3 : (es.getD i zA).cap ≠ -1 := fun e => by have := h2 e; omega
    omega
  · omega
/-- Filled, the potentials hold the flow. -/
theorem fill_pot {xs : List Int} {es : List A5} (hn : NetOK xs es) {po : List Int} (hu : ∀ i, i < es.length → (es.getD i zA).cap = -1 → 0 ≤ driftAt es po i) : Pot es (fillK es po es.length) (fun v => po.getD v 0) := by
  rintro ⟨a, b⟩ hs hr
  have hs' : a < es.length := hs
  have h1 := arcB_out (hn.arc a hs')
  have h2 := hu a hs'
  unfold roomOf at hr
  simp only [] at hr
  rw [fillK_at _ _ _ hs'] at hr
  unfold driftAt at h2 hr
  simp only [priceOf, St.srcN, St.dstN, St.src, St.dst]
  cases b
  · simp only [Bool.false_eq_true, if_false] at hr ⊢
    split at hr
    · rename_i e; have := h2 e; omega
    · split at hr <;> omega
  · simp only [if_true] at hr ⊢
    split at hr <;> omega

/-- Where no step with room has a drift below 0, the potentials hold the flow. -/
theorem hold_of {xs : List Int} {es : List A5} (hn : NetOK xs es) {fl lf : List Int} {t : Int} (h : LInv xs es fl lf t) {cost : Nat → Int} {po : List Int} (hpo : ∀ v, v < xs.length → po.getD v 0 = cost v) (hp : Pot es fl cost) : holdB es fl po = true := by
  refine all_t (fun i hi => ?_)
  have h1 := h.bd i hi
  have h2 := arcB_out (hn.arc i hi)
  have h3 := h.mild hn i hi
  have h4 : 0 ≤ t := by rw [h.go]; exact pos_nonneg _ _
  have f := hp ⟨i, false⟩ hi
  have b := hp ⟨i, true⟩ hi
  simp only [priceOf, St.srcN, St.dstN, St.src, St.dst, roomOf, Bool.false_eq_true, if_false, if_true] at f b
  have e := hn.ends i hi
  refine decide_eq_true ⟨fun hd => ?_, fun hd => ?_⟩ <;> unfold driftAt at hd <;> rw [hpo _ (by omega), hpo _ (by omega)] at hd
  · by_cases hz : 0 < fl.getD i 0 - (es.getD i zA).lo
    · have := b hz; omega
    · omega
  · by_cases hc : (es.getD i zA).cap = -1
    · rw [if_pos hc] at f
      have := f (by omega); omega
    · rw [if_neg hc] at f
      refine ⟨hc, ?_⟩
      by_cases hz : 0 < (es.getD i zA).cap - fl.getD i 0
      · have := f hz; omega
      · omega

/-! ### other nets of the same nodes -/
def costlessL (es : List A5) : List A5 := es.map fun a => { a with cost := 0 }
def stiffL (es : List A5) : List A5 := es.map fun a => if a.cap = -1 then a else { a with cap := a.lo }
theorem costlessL_len (es : List A5) : (costlessL es).length = es.length := by simp [costlessL]
theorem stiffL_len (es : List A5) : (stiffL es).length = es.length := by simp [stiffL]
theorem costlessL_at (es : List A5) (i : Nat) : (costlessL es).getD i zA = { es.getD i zA with cost := 0 } := by
  simp only [costlessL, List.getD, List.getElem?_map]
  cases es[i]? <;> rfl
theorem stiffL_at (es : List A5) (i : Nat) : (stiffL es).getD i zA = if (es.getD i zA).cap = -1 then es.getD i zA else { es.getD i zA with cap := (es.getD i zA).lo } := by
  simp only [stiffL, List.getD, List.getElem?_map]
  by_cases hi : i < es.length
  · simp only [List.getElem?_eq_getElem hi, Option.map_some, Option.getD_some]
  · simp only [List.getElem?_eq_none (show es.length ≤ i by omega), Option.map_none, Option.getD_none]
    simp [zA]
theorem costless_ok {xs : List Int} {es : List A5} (hn : NetOK xs es) : NetOK xs (costlessL es) :=
  ⟨hn.one, hn.ten, by rw [costlessL_len]; exact hn.arcs, hn.sup, fun j hj => by
    rw [costlessL_len] at hj
    have := arcB_out (hn.arc j hj)
    rw [costlessL_at]
    exact decide_eq_true (by simp only []; omega)⟩
theorem stiff_ok {xs : List Int} {es : List A5} (hn : NetOK xs es) : NetOK xs (stiffL es) :=
  ⟨hn.one, hn.ten, by rw [stiffL_len]; exact hn.arcs, hn.sup, fun j hj => by
    rw [stiffL_len] at hj
    have := arcB_out (hn.arc j hj)
    rw [stiffL_at]
    split
    · exact hn.arc j hj
    · exact decide_eq_true (by simp only []; omega)⟩
/-- Of a net without its costs all that is said of flows and cuts is said of the net. -/
theorem costless_net (es : List A5) (y : List Int) (v : Int) (k : Nat) : netTo (costlessL es) y v k = netTo es y v k := by
  induction k with
  | zero => rfl
  | succ k ih => simp only [netTo, ih, costlessL_at]
theorem costless_fits {xs : List Int} {es : List A5} {y : List Int} (h : Fits xs (costlessL es) y) : Fits xs es y := by
  obtain ⟨h1, h2, h3⟩ := h
  rw [costlessL_len] at h1 h2 h3
  refine ⟨h1, fun i hi => ?_, fun k hk => ?_⟩
  · have := h2 i hi; rw [costlessL_at] at this; exact this
  · have := h3 k hk; rw [costless_net] at this; exact this
theorem costless_viol (xs : List Int) (es : List A5) (cut : List Int) : violB xs (costlessL es) cut = violB xs es cut := by
  have hc : ∀ b k, crossB cut b ((costlessL es).getD k zA) = crossB cut b (es.getD k zA) := fun b k => by rw [costlessL_at]; rfl
  have hcap : ∀ k, ((costlessL es).getD k zA).cap = (es.getD k zA).cap := fun k => by rw [costlessL_at]
  have hlo : ∀ k, ((costlessL es).getD k zA).lo = (es.getD k zA).lo := fun k => by rw [costlessL_at]
  have h1 : ∀ b k, capsTo (costlessL es) cut b k = capsTo es cut b k := by
    intro b k
    induction k with
    | zero => rfl
    | succ k ih => simp only [capsTo, ih, hc, hcap]
  have h2 : ∀ b k, lowsTo (costlessL es) cut b k = lowsTo es cut b k := by
    intro b k
    induction k with
    | zero => rfl
    | succ k ih => simp only [lowsTo, ih, hc, hlo]
  have h3 : ∀ b k, openTo (costlessL es) cut b k = openTo es cut b k := by
    intro b k
    induction k with
    | zero => rfl
    | succ k ih => simp only [openTo, ih, hc, hcap]
  simp only [violB, costlessL_len, h1, h2, h3]
theorem costless_pot (es : List A5) (fl : List Int) : Pot (costlessL es) fl (fun _ => 0) := by
  intro s _ _
  simp only [priceOf, costlessL_at]
  split <;> omega
/-- In the stiff net, with all arcs at their Low, there is room along unlimited arcs alone. -/
theorem stiff_room {xs : List Int} {es : List A5} (hn : NetOK xs es) {s : St} (hs : s.arc < es.length) (h : 0 < roomOf (stiffL es) (lowsL (stiffL es)) s) : s.back = false ∧ (es.getD s.arc zA).cap = -1 := by
  have h1 := arcB_out (hn.arc s.arc hs)
  unfold roomOf at h
  rw [lowsL_at _ (by rw [stiffL_len]; exact hs), stiffL_at] at h
  cases hb : s.back
  · refine ⟨rfl, ?_⟩
    by_cases hc : (es.getD s.arc zA).cap = -1
    · exact hc
    · rw [if_neg hc, hb] at h
      simp only [Bool.false_eq_true, if_false] at h
      split at h <;> omega
  · rw [hb] at h
    simp only [if_true] at h
    omega
end Go.Proofs.Ytampcheafdlomaa
