import Derived.Test.YtnbccoflcoaoaaaGreatGTab
import Derived.Test.YtnbccoflcoaoaaaGreatGRtd
import Derived.Test.YtnbccoflcoaoaaaGreatGRtb
import Derived.Test.YtnbccoflcoaoaaaGreatGRte
namespace Go.Proofs.YtnbccoflcoaoaaaGreat
open Go.RowKit Go.Deep
set_option linter.unusedSimpArgs false
set_option linter.unusedVariables false

/-! ### the net of a table, as plain data -/
def supA (n : Nat) : List Int := (List.range (2 * n)).map fun v => if v < n then 1 else -1
theorem supA_len (n : Nat) : (supA n).length = 2 * n := by simp [supA]
theorem supA_at {n v : Nat} (hv : v < 2 * n) : (supA n).getD v 0 = if v < n then 1 else -1 := by simp [supA, List.getD, hv]
def arcA (n i j : Nat) (x : Int) : A5 := ⟨i, (n : Int) + j, 0, -1, x⟩
/-- The arcs of a row's first k places. -/
def tabRow (n i : Nat) (r : List Int) : Nat → List A5
  | 0 => []
  | k + 1 => if r.getD k 0 ≠ -1 then tabRow n i r k ++ [arcA n i k (r.getD k 0)] else tabRow n i r k
/-- The arcs of the first k rows. -/
def arcsTo (t : List (List Int)) : Nat → List A5
  | 0 => []
  | k + 1 => arcsTo t k ++ tabRow t.length k (t.getD k []) t.length
def tabArcs (t : List (List Int)) : List A5 := arcsTo t t.length
theorem tabRow_len (n i : Nat) (r : List Int) (k : Nat) : (tabRow n i r k).length ≤ k := by
  induction k with
  | zero => simp [tabRow]
  | succ k ih => 
    simp only [tabRow]
    split
    · rw [List.length_append, List.length_singleton]; omega
    · omega
theorem tabRow_in (n i : Nat) (r : List Int) (k : Nat) : ∀ a, a ∈ tabRow n i r k ↔ ∃ j, j < k ∧ r.getD j 0 ≠ -1 ∧ a = arcA n i j (r.getD j 0) := by
  induction k with
  | zero => intro a; simp [tabRow]
  | succ k ih =>
    intro a
    simp only [tabRow]
    split
    · rename_i h
      rw [List.mem_append, ih, List.mem_singleton]
      constructor
      · rintro (⟨j, h1, h2, h3⟩ | h1)
        · exact ⟨j, by omega, h2, h3⟩
        · exact ⟨k, by omega, h, h1⟩
      · rintro ⟨j, h1, h2, h3⟩
        by_cases e : j = k
        · subst e; exact .inr h3
        · exact .inl ⟨j, by omega, h2, h3⟩
    · rename_i h
      rw [ih]
      constructor
      · rintro ⟨j, h1, h2, h3⟩; exact ⟨j, by omega, h2, h3⟩
      · rintro ⟨j, h1, h2, h3⟩
        refine ⟨j, ?_, h2, h3⟩
        by_cases e : j = k
        · subst e; exact absurd h2 h
        · omega
theorem arcsTo_in (t : List (List Int)) (k : Nat) : ∀ a, a ∈ arcsTo t k ↔ ∃ i j, i < k ∧ j < t.length ∧ tAt t i j ≠ -1 ∧ a = arcA t.length i j (tAt t i j) := by
  induction k with
  | zero => intro a; simp [arcsTo]
  | succ k ih =>
    intro a
    simp only [arcsTo]
    rw [List.mem_append, ih, tabRow_in]
    constructor
    · rintro (⟨i, j, h1, h2, h3, h4⟩ | ⟨j, h1, h2, h3⟩)
      · exact ⟨i, j, by omega, h2, h3, h4⟩
      · exact ⟨k, j, by omega, h1, h2, h3⟩
    · rintro ⟨i, j, h1, h2, h3, h4⟩
      by_cases e : i = k
      · subst e; exact .inr ⟨j, h2, h3, h4⟩
      · exact .inl ⟨i, j, by omega, h2, h3, h4⟩
theorem arcsTo_len (t : List (List Int)) (k : Nat) : (arcsTo t k).length ≤ k * t.length := by
  induction k with
  | zero => simp [arcsTo]
  | succ k ih =>
    have := tabRow_len t.length k (t.getD k []) t.length
    simp only [arcsTo, List.length_append, Nat.add_mul, Nat.one_mul]
    omega
theorem mem_getA (es : List A5) {i : Nat} (hi : i < es.length) : es.getD i zA ∈ es := by
  simp only [List.getD, List.getElem?_eq_getElem hi, Option.getD_some]
  exact List.getElem_mem hi
theorem getA_of {es : List A5} {a : A5} (h : a ∈ es) : ∃ i, i < es.length ∧ es.getD i zA = a := by
  obtain ⟨i, hi, h⟩ := List.getElem_of_mem h
  exact ⟨i, hi, by simp only [List.getD, List.getElem?_eq_getElem hi, Option.getD_some]; exact h⟩
theorem tabArcs_get {t : List (List Int)} {e : Nat} (he : e < (tabArcs t).length) : ∃ i j, i < t.length ∧ j < t.length ∧ tAt t i j ≠ -1 ∧ (tabArcs t).getD e zA = arcA t.length i j (tAt t i j) := (arcsTo_in t t.length _).1 (mem_getA _ he)
theorem tabArcs_has {t : List (List Int)} {i j : Nat} (hi : i < t.length) (hj : j < t.length) (h : tAt t i j ≠ -1) : ∃ e, e < (tabArcs t).length ∧ (tabArcs t).getD e zA = arcA t.length i j (tAt t i j) := getA_of ((arcsTo_in t t.length _).2 ⟨i, j, hi, hj, h, rfl⟩)
theorem arcA_ok {t : List (List Int)} (ht : tabB t = true) {i j : Nat} (hi : i < t.length) (hj : j < t.length) (h : tAt t i j ≠ -1) : arcB (arcA t.length i j (tAt t i j)) ((2 * t.length : Nat) : Int) = true := by
  obtain ⟨t1, t2, t3, t4⟩ := tab_out ht
  have := (t4 i j hi hj).resolve_left h
  refine decide_eq_true ?_
  simp only [arcA]
  exact ⟨by omega, by omega, by omega, by omega, by omega, by omega, .inl trivial, by omega, by omega⟩
theorem tab_wide {t : List (List Int)} (ht : tabB t = true) : NetW (supA t.length) (tabArcs t) := by
  obtain ⟨t1, t2, t3, t4⟩ := tab_out ht
  refine ⟨by rw [supA_len]; omega, by rw [supA_len]; omega, ?_, fun v hv => ?_, fun e he => ?_⟩
  · have h1 := arcsTo_len t t.length
    have h2 : t.length * t.length ≤ 8 * 8 := Nat.mul_le_mul t2 t2
    unfold tabArcs
    omega
  · rw [supA_len] at hv
    rw [supA_at hv]
    split <;> omega
  · obtain ⟨i, j, hi, hj, h, ea⟩ := tabArcs_get he
    rw [ea, supA_len]
    exact arcA_ok ht hi hj h
theorem sumTo_split (g : Nat → Int) (n m : Nat) : sumTo g (n + m) = sumTo g n + sumTo (fun j => g (n + j)) m := by
  induction m with
  | zero => simp [sumTo]
  | succ m ih => rw [show n + (m + 1) = n + m + 1 from rfl]; simp only [sumTo]; rw [ih]; omega
theorem sumTo_const (n : Nat) (c : Int) : sumTo (fun _ => c) n = n * c := by
  induction n with
  | zero => simp [sumTo]
  | succ n ih => simp only [sumTo]; rw [ih, Int.natCast_succ, Int.add_mul, Int.one_mul]
theorem supA_sum (n : Nat) : sumTo (fun v => (supA n).getD v 0) (supA n).length = 0 := by
  rw [supA_len, show 2 * n = n + n from by omega, sumTo_split,
    sumTo_congr (g := fun _ => (1 : Int)) (fun v hv => by rw [supA_at (by omega), if_pos hv]),
    sumTo_congr (f := fun j => (supA n).getD (n + j) 0) (g := fun _ => (-1 : Int)) (fun v hv => by rw [supA_at (by omega), if_neg (by omega)]), sumTo_const, sumTo_const]
  omega
theorem tab_left (t : List (List Int)) : leftOf (supA t.length) (tabArcs t) (lowsL (tabArcs t)) = supA t.length := by
  refine ext_getD (leftOf_len _ _ _) (fun v hv => ?_)
  rw [leftOf_len] at hv
  rw [leftOf_at _ _ _ hv]
  have : ∀ k, k ≤ (tabArcs t).length → netTo (tabArcs t) (lowsL (tabArcs t)) (v : Int) k = 0 := by
    intro k
    induction k with
    | zero => intro _; rfl
    | succ k ih =>
      intro hk
      obtain ⟨i, j, _, _, _, ea⟩ := tabArcs_get (t := t) (e := k) (by omega)
      simp only [netTo]
      have hlo : ((tabArcs t).getD k zA).lo = 0 := by rw [ea]; rfl
      rw [ih (by omega), lowsL_at _ (show k < (tabArcs t).length by omega), hlo]
      simp
  rw [this _ (Nat.le_refl _)]; omega
/-- With no goods sent, there is no room back, and along an arc it costs 0 or more. -/
theorem tab_pot {t : List (List Int)} (ht : tabB t = true) : Pot (tabArcs t) (lowsL (tabArcs t)) (fun _ => 0) := by
  rintro ⟨e, b⟩ he hr
  have he' : e < (tabArcs t).length := he
  obtain ⟨i, j, hi, hj, h, ea⟩ := tabArcs_get he'
  have hq := ((tab_out ht).2.2.2 i j hi hj).resolve_left h
  unfold roomOf at hr
  unfold priceOf
  simp only [] at hr ⊢
  rw [lowsL_at _ he', ea] at hr
  rw [ea]
  simp only [arcA] at hr ⊢
  cases b
  · simp only [Bool.false_eq_true, if_false]; omega
  · simp only [if_true] at hr; omega

/-! ### a table that has too few -/
theorem seenTo_filter (seen : Nat → Bool) (n m : Nat) : (seenTo seen (n + m)).filter (fun x => decide (x < (n : Int))) = seenTo seen n := by
  induction m with
  | zero =>
    rw [Nat.add_zero]
    apply List.filter_eq_self.2
    intro x hx
    have h1 := (seen_ris seen n).1
    obtain ⟨i, hi, rfl⟩ := mem_of_getD 0 _ x hx
    have := of_decide_eq_true (of_all h1 i hi)
    exact decide_eq_true this.2.1
  | succ m ih =>
    rw [show n + (m + 1) = n + m + 1 from rfl]
    simp only [seenTo]
    split
    · rw [List.filter_append, ih]
      rw [List.filter_cons_of_neg (by simp; omega)]
      simp
    · exact ih
theorem seenTo_count (seen : Nat → Bool) (n : Nat) : ((seenTo seen n).length : Int) = sumTo (fun i => if seen i = true then 1 else 0) n := by
  induction n with
  | zero => rfl
  | succ n ih =>
    simp only [seenTo, sumTo]
    split
    · rw [List.length_append, Int.natCast_add, ih]; rfl
    · rw [ih]; omega
theorem tab_stuck {t : List (List Int)} (ht : tabB t = true) {fl lf0 : List Int} {seen : Nat → Bool} (h : Stuck (supA t.length) (tabArcs t) lf0 fl seen) :
    planS t ⟨false, [], 0, [], [], seenTo seen t.length⟩ 0 = true := by
  have hw := tab_wide ht
  have hlen := supA_len t.length
  obtain ⟨t0, ht0, hV⟩ := h.inv
  have hin : ∀ v : Int, 0 ≤ v → v < (2 * t.length : Nat) → inB (seenTo seen (2 * t.length)) v = seen v.toNat := by
    intro v h0 h1
    have := seen_in seen (2 * t.length) v.toNat
    rw [show ((v.toNat : Nat) : Int) = v from by omega] at this
    rw [this, decide_eq_true (by omega)]; rfl
  -- an arc out of what is reached leads to what is reached
  have hgo : ∀ i j, i < t.length → j < t.length → tAt t i j ≠ -1 → seen i = true → seen (t.length + j) = true := by
    intro i j hi hj hb hs
    obtain ⟨e, he, ea⟩ := tabArcs_has hi hj hb
    cases hc : seen (t.length + j) with
    | true => rfl
    | false =>
      have hz := h.cl ⟨e, false⟩ he (by simp only [St.src, Bool.false_eq_true, if_false]; rw [ea]; simpa [arcA] using hs) (by simp only [St.dst, Bool.false_eq_true, if_false]; rw [ea]; simp only [arcA]; rw [show ((t.length : Int) + (j : Int)).toNat = t.length + j from by omega]; exact hc)
      have hb := hV.bd e he
      unfold roomOf at hz
      simp only [Bool.false_eq_true, if_false] at hz
      rw [ea] at hz
      simp only [arcA, if_true] at hz
      omega
  have hcross : ∀ i, i < (tabArcs t).length → crossB (seenTo seen (2 * t.length)) false ((tabArcs t).getD i zA) = false := by
    intro e he
    obtain ⟨i, j, hi, hj, hb, ea⟩ := tabArcs_get he
    unfold crossB
    rw [ea]
    simp only [arcA, Bool.false_eq_true, if_false]
    rw [hin (i : Int) (by omega) (by omega), hin _ (by omega) (by omega), Int.toNat_natCast, show ((t.length : Int) + (j : Int)).toNat = t.length + j from by omega]
    cases hs : seen i with
    | false => rfl
    | true => rw [hgo i j hi hj hb hs]; rfl
  have o1 : overTo (tabArcs t) fl (seenTo seen (2 * t.length)) false (tabArcs t).length = 0 := by
    unfold overTo
    rw [sumTo_congr (g := fun _ => 0) (fun i hi => by rw [hcross i hi]; simp)]
    exact sumTo_zero _
  have o2 : overTo (tabArcs t) fl (seenTo seen (2 * t.length)) true (tabArcs t).length = 0 := by
    unfold overTo
    rw [sumTo_congr (g := fun _ => 0) (fun e he => ?_)]
    · exact sumTo_zero _
    · by_cases hc : crossB (seenTo seen (2 * t.length)) true ((tabArcs t).getD e zA) = true
      · rw [if_pos hc]
        have hends := hw.ends e he
        rw [hlen] at hends
        unfold crossB at hc
        simp only [if_true, Bool.and_eq_true, Bool.not_eq_true'] at hc
        rw [hin _ hends.1 hends.2.1, hin _ hends.2.2.1 hends.2.2.2] at hc
        have hz := h.cl ⟨e, true⟩ he (by simpa [St.src] using hc.2) (by simpa [St.dst] using hc.1)
        unfold roomOf at hz
        simp only [if_true] at hz
        obtain ⟨i, j, hi, hj, hb, ea⟩ := tabArcs_get he
        rw [ea] at hz
        simp only [arcA] at hz
        omega
      · rw [if_neg hc]
  have hco := cut_over hw fl (seenTo seen (2 * t.length))
  rw [o1, o2, hlen] at hco
  have hsum : sumTo (fun j => chi (seenTo seen (2 * t.length)) j * (supA t.length).getD j 0) (2 * t.length) = posTo (leftOf (supA t.length) (tabArcs t) fl) (2 * t.length) + sumTo (fun k => chi (seenTo seen (2 * t.length)) k * netTo (tabArcs t) fl (k : Int) (tabArcs t).length) (2 * t.length) := by
    unfold posTo
    rw [← sumTo_add]
    refine sumTo_congr (fun v hv => ?_)
    have e1 := hV.left v (by rw [hlen]; exact hv)
    unfold chi
    rw [hin (v : Int) (by omega) (by omega), Int.toNat_natCast]
    by_cases hs : seen v = true
    · rw [if_pos hs]
      have := h.nn v (by rw [hlen]; exact hv) hs
      split <;> omega
    · rw [if_neg hs, if_neg (fun hp => hs (h.st v (by rw [hlen]; exact hv) hp))]
      omega
  have hgo2 := hV.go
  rw [hlen] at hgo2
  rw [hco, ← hgo2, show 2 * t.length = t.length + t.length from by omega, sumTo_split] at hsum
  rw [show t.length + t.length = 2 * t.length from by omega] at hsum
  rw [sumTo_congr (g := fun i => if seen i = true then (1 : Int) else 0) (fun v hv => by
    unfold chi
    rw [hin (v : Int) (by omega) (by omega), Int.toNat_natCast, supA_at (by omega), if_pos hv]; split <;> omega)] at hsum
  have hcols : sumTo (fun j => chi (seenTo seen (2 * t.length)) (t.length + j) * (supA t.length).getD (t.length + j) 0) t.length = 0 - sumTo (fun j => if seen (t.length + j) = true then (1 : Int) else 0) t.length := by
    have hz0 : (0 : Int) - sumTo (fun j => if seen (t.length + j) = true then (1 : Int) else 0) t.length = sumTo (fun j => (0 : Int) - (if seen (t.length + j) = true then (1 : Int) else 0)) t.length := by rw [sumTo_sub, sumTo_zero]
    rw [hz0]
    refine sumTo_congr (fun v hv => ?_)
    unfold chi
    rw [hin ((t.length + v : Nat) : Int) (by omega) (by omega), Int.toNat_natCast, supA_at (by omega), if_neg (show ¬ t.length + v < t.length by omega)]; split <;> omega
  rw [hcols] at hsum
  have hop : openN t (seenTo seen t.length) t.length ≤ sumTo (fun j => if seen (t.length + j) = true then (1 : Int) else 0) t.length := by
    unfold openN
    refine sumTo_le (fun j hj => ?_)
    by_cases ho : openB t (seenTo seen t.length) j = true
    · rw [if_pos ho]
      unfold openB at ho
      rw [List.any_eq_true] at ho
      obtain ⟨k, hk, hd⟩ := ho
      rw [List.mem_range] at hk
      have hne := of_decide_eq_true hd
      have hr := of_decide_eq_true (of_all (seen_ris seen t.length).1 k hk)
      have hs : seen ((seenTo seen t.length).getD k 0).toNat = true := by
        have h1 : inB (seenTo seen t.length) ((((seenTo seen t.length).getD k 0).toNat : Nat) : Int) = true := inB_iff.2 ⟨k, hk, by omega⟩
        rw [seen_in] at h1
        simp only [Bool.and_eq_true] at h1
        exact h1.2
      rw [if_pos (hgo _ j (by omega) hj hne hs)]
      omega
    · rw [if_neg ho]; split <;> omega
  have hcnt := seenTo_count seen t.length
  unfold planS
  rw [if_neg (by rw [ht]; simp), if_neg (by simp), if_pos rfl]
  have hr := (seen_ris seen t.length).1
  rw [hr]
  have hsb : shortB t (seenTo seen t.length) = true := decide_eq_true (by omega)
  rw [hsb]
  rfl
end Go.Proofs.YtnbccoflcoaoaaaGreat

namespace Go.Proofs.YtnbccoflcoaoaaaGreat
open Go.RowKit Go.Deep
set_option linter.unusedSimpArgs false
set_option linter.unusedVariables false

/-! ### sums with one number that isn't 0 -/
theorem sumTo_single {g : Nat → Int} {n j : Nat} (hj : j < n) (h : ∀ i, i < n → i ≠ j → g i = 0) : sumTo g n = g j := by
  rw [sumTo_set (f := fun _ => (0 : Int)) (g := g) hj h, sumTo_zero]; omega
theorem one_of {g : Nat → Int} {m : Nat} (h0 : ∀ e, e < m → 0 ≤ g e) (h : sumTo g m = 1) : ∃ e, e < m ∧ g e = 1 ∧ ∀ e', e' < m → e' ≠ e → g e' = 0 := by
  induction m with
  | zero => simp [sumTo] at h
  | succ m ih =>
    simp only [sumTo] at h
    have h1 := h0 m (by omega)
    have h2 := sumTo_nonneg (f := g) (n := m) (fun i hi => h0 i (by omega))
    by_cases hz : g m = 0
    · obtain ⟨e, he, h3, h4⟩ := ih (fun e he => h0 e (by omega)) (by omega)
      refine ⟨e, by omega, h3, fun e' he' hne => ?_⟩
      by_cases e1 : e' = m
      · subst e1; exact hz
      · exact h4 e' (by omega) hne
    · refine ⟨m, by omega, by omega, fun e' he' hne => ?_⟩
      have := sumTo_ge (f := g) (n := m) (fun i hi => h0 i (by omega)) (j := e') (by omega)
      have := h0 e' he'
      omega
theorem sum_swap (F : Nat → Nat) (ps : Nat → Int) (n m : Nat) (h : ∀ e, e < m → F e < n) : sumTo (fun i => sumTo (fun e => if F e = i then ps e else 0) m) n = sumTo ps m := by
  induction m with
  | zero => simp only [sumTo]; exact sumTo_zero _
  | succ m ih =>
    simp only [sumTo]
    rw [sumTo_add, ih (fun e he => h e (by omega)), sumTo_single (j := F m) (h m (by omega)) (fun i hi hne => by rw [if_neg (fun e => hne e.symm)]), if_pos rfl]

/-! ### the plan that a flow makes -/
def colK (es : List A5) (fl : List Int) (n : Nat) : Nat → List Int
  | 0 => List.replicate n 0
  | k + 1 => if fl.getD k 0 ≠ 0 then (colK es fl n k).set (es.getD k zA).fr.toNat ((es.getD k zA).to - n) else colK es fl n k
theorem colK_len (es : List A5) (fl : List Int) (n k : Nat) : (colK es fl n k).length = n := by
  induction k with
  | zero => simp [colK]
  | succ k ih => simp only [colK]; split <;> simp [ih]
def costK (es : List A5) (fl : List Int) : Nat → Int := sumTo fun e => if fl.getD e 0 ≠ 0 then (es.getD e zA).cost else 0
def rwL (p : Nat → Int) (n : Nat) : List Int := (List.range n).map fun i => -p i
def cwL (p : Nat → Int) (n : Nat) : List Int := (List.range n).map fun i => p (n + i)
theorem rwL_len (p : Nat → Int) (n : Nat) : (rwL p n).length = n := by simp [rwL]
theorem cwL_len (p : Nat → Int) (n : Nat) : (cwL p n).length = n := by simp [cwL]
theorem rwL_at (p : Nat → Int) {n i : Nat} (hi : i < n) : (rwL p n).getD i 0 = -p i := by simp [rwL, List.getD, hi]
theorem cwL_at (p : Nat → Int) {n i : Nat} (hi : i < n) : (cwL p n).getD i 0 = p (n + i) := by simp [cwL, List.getD, hi]

/-- The plan that a settled flow makes. -/
def planOf (t : List (List Int)) (fl : List Int) : P6 :=
  ⟨true, colK (tabArcs t) fl t.length (tabArcs t).length, costK (tabArcs t) fl (tabArcs t).length, rwL (cheapF (tabArcs t) fl (2 * t.length) (fun _ => true)).cost t.length, cwL (cheapF (tabArcs t) fl (2 * t.length) (fun _ => true)).cost t.length, []⟩
/-- What Assign answers, exactly. -/
def AssignRel (t : List (List Int)) (p : P6) (err : Int) : Prop :=
  (tabB t = false ∧ err = 9 ∧ p = ⟨false, [], 0, [], [], []⟩) ∨
  (tabB t = true ∧ err = 0 ∧ ∃ r c, SettR (supA t.length) (tabArcs t) (lowsL (tabArcs t)) r c ∧ ((c = none ∧ p = planOf t r) ∨ ∃ cut, c = some cut ∧ p = ⟨false, [], 0, [], [], cut.filter (fun x => decide (x < (t.length : Int)))⟩))
theorem AssignRel.same {t : List (List Int)} {p q : P6} {e1 e2 : Int} (h1 : AssignRel t p e1) (h2 : AssignRel t q e2) : p = q ∧ e1 = e2 := by
  rcases h1 with ⟨a, b, c⟩ | ⟨a, b, r, k, s, h⟩ <;> rcases h2 with ⟨a', b', c'⟩ | ⟨a', b', r', k', s', h'⟩
  · exact ⟨by rw [c, c'], by rw [b, b']⟩
  · rw [a] at a'; cases a'
  · rw [a] at a'; cases a'
  · obtain ⟨x, y⟩ := s.same s'
    subst x
    subst y
    rcases h with ⟨u, v⟩ | ⟨cu, u, v⟩ <;> rcases h' with ⟨u', v'⟩ | ⟨cu', u', v'⟩
    · exact ⟨by rw [v, v'], by rw [b, b']⟩
    · rw [u] at u'; cases u'
    · rw [u] at u'; cases u'
    · rw [u] at u'
      cases u'
      exact ⟨by rw [v, v'], by rw [b, b']⟩
theorem net_out {es : List A5} {fl : List Int} {v : Int} (k : Nat) (h : ∀ e, e < k → (es.getD e zA).to ≠ v) : netTo es fl v k = sumTo (fun e => if (es.getD e zA).fr = v then fl.getD e 0 else 0) k := by
  induction k with
  | zero => rfl
  | succ k ih =>
    simp only [netTo, sumTo]
    rw [ih (fun e he => h e (by omega)), if_neg (h k (by omega))]
    split <;> omega
theorem net_in {es : List A5} {fl : List Int} {v : Int} (k : Nat) (h : ∀ e, e < k → (es.getD e zA).fr ≠ v) : netTo es fl v k = -sumTo (fun e => if (es.getD e zA).to = v then fl.getD e 0 else 0) k := by
  induction k with
  | zero => rfl
  | succ k ih =>
    simp only [netTo, sumTo]
    rw [ih (fun e he => h e (by omega)), if_neg (h k (by omega))]
    split <;> omega

/-- The one arc that takes a row's unit. -/
theorem row_arc {t : List (List Int)} {fl : List Int} (hf : Fits (supA t.length) (tabArcs t) fl) {i : Nat} (hi : i < t.length) : ∃ e j, e < (tabArcs t).length ∧ j < t.length ∧ tAt t i j ≠ -1 ∧ (tabArcs t).getD e zA = arcA t.length i j (tAt t i j) ∧ fl.getD e 0 = 1 ∧ ∀ e', e' < (tabArcs t).length → e' ≠ e → (((tabArcs t).getD e' zA).fr = (i : Int) → fl.getD e' 0 = 0) := by
  have h1 := hf.bal i (by rw [supA_len]; omega)
  rw [supA_at (by omega), if_pos hi, net_out _ (fun e he => by
    obtain ⟨i', j', h1, h2, h3, ea⟩ := tabArcs_get he
    rw [ea]; simp only [arcA]; omega)] at h1
  obtain ⟨e, he, h2, h3⟩ := one_of (fun e he => by
    split
    · have := (hf.bd e he).1
      obtain ⟨i', j', _, _, _, ea⟩ := tabArcs_get he
      rw [ea] at this
      simpa [arcA] using this
    · omega) h1
  obtain ⟨i', j, hi', hj, hb, ea⟩ := tabArcs_get he
  have hii : i' = i := by
    by_cases hc : ((tabArcs t).getD e zA).fr = (i : Int)
    · rw [ea] at hc; simp only [arcA] at hc; omega
    · rw [if_neg hc] at h2; omega
  subst hii
  rw [if_pos (by rw [ea]; rfl)] at h2
  refine ⟨e, j, he, hj, hb, ea, h2, fun e' he' hne hfr => ?_⟩
  have := h3 e' he' hne
  rw [if_pos hfr] at this
  exact this
theorem col_arc {t : List (List Int)} {fl : List Int} (hf : Fits (supA t.length) (tabArcs t) fl) {j : Nat} (hj : j < t.length) {e e' : Nat} (he : e < (tabArcs t).length) (he' : e' < (tabArcs t).length) (h1 : ((tabArcs t).getD e zA).to = (t.length : Int) + j) (h2 : ((tabArcs t).getD e' zA).to = (t.length : Int) + j) (f1 : fl.getD e 0 ≠ 0) (f2 : fl.getD e' 0 ≠ 0) : e = e' := by
  have h3 := hf.bal (t.length + j) (by rw [supA_len]; omega)
  rw [supA_at (by omega), if_neg (by omega), net_in _ (fun e he => by
    obtain ⟨i', j', h1, h2, h3, ea⟩ := tabArcs_get he
    rw [ea]; simp only [arcA]; omega)] at h3
  obtain ⟨e0, he0, _, h5⟩ := one_of (m := (tabArcs t).length) (g := fun e => if ((tabArcs t).getD e zA).to = ((t.length + j : Nat) : Int) then fl.getD e 0 else 0) (fun e he => by
    split
    · have := (hf.bd e he).1
      obtain ⟨i', j', _, _, _, ea⟩ := tabArcs_get he
      rw [ea] at this
      simpa [arcA] using this
    · omega) (by omega)
  have key : ∀ x, x < (tabArcs t).length → ((tabArcs t).getD x zA).to = (t.length : Int) + j → fl.getD x 0 ≠ 0 → x = e0 := by
    intro x hx hxt hxf
    by_cases e1 : x = e0
    · exact e1
    · have := h5 x hx e1
      rw [if_pos (by rw [hxt]; omega)] at this
      exact absurd this hxf
  rw [key e he h1 f1, key e' he' h2 f2]
theorem colK_at {t : List (List Int)} {fl : List Int} {i : Nat} (hi : i < t.length) {e j : Nat} (he : e < (tabArcs t).length) (ea : (tabArcs t).getD e zA = arcA t.length i j (tAt t i j)) (h1 : fl.getD e 0 = 1) (hu : ∀ e', e' < (tabArcs t).length → e' ≠ e → (((tabArcs t).getD e' zA).fr = (i : Int) → fl.getD e' 0 = 0)) (k : Nat) (hk : k ≤ (tabArcs t).length) :
    (colK (tabArcs t) fl t.length k).getD i 0 = if e < k then (j : Int) else 0 := by
  induction k with
  | zero => simp [colK, List.getD, hi]
  | succ k ih =>
    have ih := ih (by omega)
    have hlen := colK_len (tabArcs t) fl t.length k
    simp only [colK]
    by_cases hz : fl.getD k 0 ≠ 0
    · rw [if_pos hz]
      by_cases hke : k = e
      · subst hke
        rw [if_pos (by omega), ea]
        simp only [arcA, Int.toNat_natCast, List.getD, List.getElem?_set, hlen, hi, if_true, Option.getD_some]
        omega
      · have hfr : ((tabArcs t).getD k zA).fr ≠ (i : Int) := fun h => hz (hu k (by omega) hke h)
        obtain ⟨i', j', _, _, _, ek⟩ := tabArcs_get (t := t) (e := k) (by omega)
        rw [ek] at hfr ⊢
        simp only [arcA] at hfr ⊢
        rw [Int.toNat_natCast]
        simp only [List.getD, List.getElem?_set]
        rw [if_neg (by omega)]
        have ih' := ih
        simp only [List.getD] at ih'
        rw [ih']
        by_cases h2 : e < k
        · rw [if_pos h2, if_pos (by omega)]
        · rw [if_neg h2, if_neg (by omega)]
    · rw [if_neg hz, ih]
      by_cases h2 : e < k
      · rw [if_pos h2, if_pos (by omega)]
      · rw [if_neg h2, if_neg (by intro h3; have : e = k := by omega
                                  subst this; exact hz (by omega))]
theorem tab_plan {t : List (List Int)} {fl : List Int} (ht : tabB t = true) (hf : Fits (supA t.length) (tabArcs t) fl) {p : Nat → Int} (hp : Pot (tabArcs t) fl p) (hb : ∀ v, v < 2 * t.length → -102400 ≤ p v ∧ p v ≤ 102400) (hsm : ∀ e, e < (tabArcs t).length → fl.getD e 0 < 1000000) :
    planS t ⟨true, colK (tabArcs t) fl t.length (tabArcs t).length, costK (tabArcs t) fl (tabArcs t).length, rwL p t.length, cwL p t.length, []⟩ 0 = true := by
  have hcl := colK_len (tabArcs t) fl t.length (tabArcs t).length
  have hrow : ∀ i, i < t.length → ∃ e j, e < (tabArcs t).length ∧ j < t.length ∧ tAt t i j ≠ -1 ∧ (tabArcs t).getD e zA = arcA t.length i j (tAt t i j) ∧ fl.getD e 0 = 1 ∧ (∀ e', e' < (tabArcs t).length → e' ≠ e → (((tabArcs t).getD e' zA).fr = (i : Int) → fl.getD e' 0 = 0)) ∧ (colK (tabArcs t) fl t.length (tabArcs t).length).getD i 0 = (j : Int) := by
    intro i hi
    obtain ⟨e, j, he, hj, hne, ea, h1, hu⟩ := row_arc hf hi
    refine ⟨e, j, he, hj, hne, ea, h1, hu, ?_⟩
    rw [colK_at hi he ea h1 hu _ (Nat.le_refl _), if_pos he]
  have hcols : colsB t (colK (tabArcs t) fl t.length (tabArcs t).length) = true := by
    unfold colsB
    rw [decide_eq_true hcl, Bool.true_and]
    refine all_t (fun i hi => ?_)
    rw [hcl] at hi
    obtain ⟨e, j, he, hj, hne, ea, h1, hu, hc⟩ := hrow i hi
    unfold colAt
    rw [hc, decide_eq_true (show 0 ≤ (j : Int) ∧ (j : Int) < t.length from by omega), Int.toNat_natCast, decide_eq_true hne]
    have hni : inB ((colK (tabArcs t) fl t.length (tabArcs t).length).take i) (j : Int) = false := by
      cases hx : inB ((colK (tabArcs t) fl t.length (tabArcs t).length).take i) (j : Int) with
      | false => rfl
      | true =>
        obtain ⟨i', hi', h2⟩ := inB_iff.1 hx
        rw [List.length_take, hcl] at hi'
        have h2' : (colK (tabArcs t) fl t.length (tabArcs t).length).getD i' 0 = (j : Int) := by
          rw [← h2]
          simp only [List.getD, List.getElem?_take]
          rw [if_pos (by omega)]
        obtain ⟨e', j', he', hj', hne', ea', h1', hu', hc'⟩ := hrow i' (by omega)
        have hjj : j' = j := by omega
        subst hjj
        have := col_arc hf hj he he' (by rw [ea]; rfl) (by rw [ea']; rfl) (by omega) (by omega)
        subst this
        rw [ea] at ea'
        have := congrArg A5.fr ea'
        simp only [arcA] at this
        omega
    rw [hni]
    rfl
  have hcost : colCost t (colK (tabArcs t) fl t.length (tabArcs t).length) t.length = costK (tabArcs t) fl (tabArcs t).length := by
    unfold colCost costK
    rw [← sum_swap (fun e => ((tabArcs t).getD e zA).fr.toNat) (fun e => if fl.getD e 0 ≠ 0 then ((tabArcs t).getD e zA).cost else 0) t.length (tabArcs t).length (fun e he => by
      obtain ⟨i, j, h1, h2, h3, ea⟩ := tabArcs_get he
      rw [ea]; simp only [arcA, Int.toNat_natCast]; exact h1)]
    refine sumTo_congr (fun i hi => ?_)
    obtain ⟨e, j, he, hj, hne, ea, h1, hu, hc⟩ := hrow i hi
    rw [hc, Int.toNat_natCast, sumTo_single (j := e) he (fun e' he' hne' => ?_)]
    · rw [ea, if_pos (by simp [arcA]), if_pos (by omega)]; rfl
    · by_cases h2 : ((tabArcs t).getD e' zA).fr.toNat = i
      · rw [if_pos h2]
        obtain ⟨i', j', _, _, _, ea'⟩ := tabArcs_get he'
        have h3 := hu e' he' hne' (by rw [ea'] at h2 ⊢; simp only [arcA, Int.toNat_natCast] at h2 ⊢; omega)
        rw [if_neg (by omega)]
      · rw [if_neg h2]
  have hwor : worB t ⟨true, colK (tabArcs t) fl t.length (tabArcs t).length, costK (tabArcs t) fl (tabArcs t).length, rwL p t.length, cwL p t.length, []⟩ = true := by
    unfold worB modB
    simp only [Bool.and_eq_true, decide_eq_true_eq]
    refine ⟨⟨⟨all_t (fun i hi => ?_), rwL_len _ _⟩, all_t (fun i hi => ?_), cwL_len _ _⟩, all_t (fun i hi => all_t (fun j hj => ?_))⟩
    · rw [rwL_len] at hi
      rw [rwL_at _ hi]
      have := hb i (by omega)
      exact decide_eq_true (by omega)
    · rw [cwL_len] at hi
      rw [cwL_at _ hi]
      have := hb (t.length + i) (by omega)
      exact decide_eq_true (by omega)
    · unfold worAt
      refine decide_eq_true (fun hne => ?_)
      simp only []
      rw [rwL_at _ hi, cwL_at _ hj]
      obtain ⟨e, he, ea⟩ := tabArcs_has hi hj hne
      have h1 := hp ⟨e, false⟩ he (by
        unfold roomOf
        simp only [Bool.false_eq_true, if_false]
        rw [ea]
        simp only [arcA, if_true]
        have := hsm e he
        omega)
      simp only [priceOf, St.srcN, St.dstN, St.src, St.dst, Bool.false_eq_true, if_false] at h1
      rw [ea] at h1
      simp only [arcA, Int.toNat_natCast] at h1
      rw [show ((t.length : Int) + (j : Int)).toNat = t.length + j from by omega] at h1
      refine ⟨by omega, fun hcj => ?_⟩
      obtain ⟨e', j', he', hj', hne', ea', f1, hu, hc⟩ := hrow i hi
      have hjj : j' = j := by omega
      subst hjj
      have h2 := hp ⟨e', true⟩ he' (by
        unfold roomOf
        simp only [if_true]
        rw [ea']
        simp only [arcA]
        omega)
      simp only [priceOf, St.srcN, St.dstN, St.src, St.dst, if_true] at h2
      rw [ea'] at h2
      simp only [arcA, Int.toNat_natCast] at h2
      rw [show ((t.length : Int) + (j' : Int)).toNat = t.length + j' from by omega] at h2
      omega
  unfold planS
  rw [if_neg (by rw [ht]; simp), if_neg (by simp), if_neg (by simp)]
  simp only [Bool.and_eq_true, decide_eq_true_eq]
  refine ⟨⟨⟨hcols, ?_⟩, rfl⟩, hwor⟩
  rw [hcl]
  exact hcost
end Go.Proofs.YtnbccoflcoaoaaaGreat

namespace Go.Proofs.YtnbccoflcoaoaaaGreat
open Go.RowKit Go.Deep
set_option linter.unusedSimpArgs false
set_option linter.unusedVariables false

def entsB (r : List Int) : Bool := (List.range r.length).all (fun j => entB (r.getD j 0))

set_option maxHeartbeats 1000000 in
theorem rRowMay_any (ra : Option Addr) (rn rc : Nat) (r : List Int) (w : World) (hr : Ints w ra rn r) :
    Calls Tryz.prog 85 #[.slice ra rn rc] w fun e w' => e = .returned (.bool (entsB r)) ∧ w' = w := by
  have hrn : Hid (r.length = rn) := hr.len
  have hrs := hr.small
  have HI := hide hr
  clear hr
  go_enter Tryz.func85, Tryz.ntmps85
  go_wp2
  go_loop [4, 7] (fun nm j => ∃ q : Nat, q ≤ rn ∧ j = .int .i64 q ∧ Hid (∀ m, m < q → entB (r.getD m 0) = true)) (fun _ j => rn - (intOf j).toNat)
  case atStart => exact ⟨0, Nat.zero_le _, rfl, fun q hq => by omega⟩
  case round =>
    obtain ⟨q, hq, rfl, hg2⟩ := hrel
    by_cases hlt2 : q < rn
    · have hlt4 : (q : Int) < (rn : Int) := by omega
      obtain ⟨b2, off2, x, rfl, hX, hb2, cx⟩ := HI.out.get hlt2
      have HX := hide hX
      clear hX
      have good : Hid ((x = -1 ∨ (0 ≤ x ∧ x ≤ 50)) → ∀ m, m < q + 1 → entB (r.getD m 0) = true) := fun hx m hm => by
        by_cases e : m = q
        · subst e; rw [HX.out]; exact decide_eq_true hx
        · exact hg2.out m (by omega)
      have bad : Hid (¬ (x = -1 ∨ (0 ≤ x ∧ x ≤ 50)) → entsB r = false) := fun hx => all_f (k := q) (by rw [hrn.out]; exact hlt2) (by rw [HX.out]; exact decide_eq_false hx)
      by_cases hx1 : x = -1
      · subst hx1
        go_wp2
        exact ⟨⟨q + 1, by omega, by go_num, good.out (.inl rfl)⟩, by simp [intOf]; omega⟩
      · have hxb : (x != -1) = true := by simpa using hx1
        by_cases hx0 : x < 0
        · have HB := hide (bad.out (by omega))
          clear good bad hx1
          go_wp2
          go_ret
          exact ⟨ret_b HB.out.symm, rfl⟩
        · by_cases hx5 : 50 < x
          · have HB := hide (bad.out (by omega))
            clear good bad hx1
            go_wp2
            all_goals first
              | (exfalso; omega)
              | (go_ret
                 exact ⟨ret_b HB.out.symm, rfl⟩)
          · have HG := hide (good.out (by omega))
            clear good bad hx1
            go_wp2
            all_goals first
              | (exfalso; omega)
              | exact ⟨⟨q + 1, by omega, by go_num, HG.out⟩, by simp [intOf]; omega⟩
    · have hqn : q = rn := by omega
      subst hqn
      have HB : Hid (entsB r = true) := all_t (fun i hi => hg2.out i (by rw [hrn.out] at hi; exact hi))
      clear hg2
      go_wp2
      go_ret
      exact ⟨ret_b HB.out.symm, rfl⟩

set_option maxHeartbeats 2000000 in
theorem rTabMay_any (ta : Option Addr) (tn tc : Nat) (t : List (List Int)) (w : World) (ht : Tab w ta tn t) :
    Calls Tryz.prog 61 #[.slice ta tn tc] w fun e w' => e = .returned (.bool (tabB t)) ∧ w' = w := by
  have hlen := hide ht.len
  have hsm := ht.small
  have HT := hide ht
  clear ht
  by_cases h8 : 1 ≤ tn ∧ tn ≤ 8
  · obtain ⟨h1, h2⟩ := h8
    have h1b : (1 : Int) ≤ (tn : Int) := by omega
    have h2b : (tn : Int) ≤ 8 := by omega
    go_enter Tryz.func61, Tryz.ntmps61
    go_wp2
    go_loop [4, 15] (fun rw i => ∃ k : Nat, k ≤ tn ∧ i = .int .i64 k ∧ Hid (∀ q, q < k → rowB t.length (t.getD q []) = true)) (fun _ i => tn - (intOf i).toNat)
    case atStart => exact ⟨0, Nat.zero_le _, rfl, fun q hq => by omega⟩
    case round =>
      obtain ⟨k, hk, rfl, hg⟩ := hrel
      by_cases hlt : k < tn
      · have hlt3 : (k : Int) < (tn : Int) := by omega
        obtain ⟨b, off, ra, rn, rc, rfl, hrn, hbb, cr, hI⟩ := HT.out.get hlt
        have hrs := hI.small
        have HRN := hide hrn
        by_cases hre : rn = tn
        · subst hre
          have cR : n0 (Calls Tryz.prog 85 #[.slice ra rn rc] w fun e w' => e = .returned (.bool (entsB (t.getD k []))) ∧ w' = w) := rRowMay_any ra rn rc (t.getD k []) w hI
          clear hI hrn
          go_wp2_with fail
          refine Calls.mono cR.out ?_
          rintro e w2 ⟨rfl, rfl⟩
          clear cR
          cases hent : entsB (t.getD k []) with
          | true =>
            have HG : Hid (∀ m, m < k + 1 → rowB t.length (t.getD m []) = true) := fun m hm => by
              by_cases e : m = k
              · subst e
                unfold rowB
                rw [show (List.range (t.getD m []).length).all (fun j => entB ((t.getD m []).getD j 0)) = true from hent, HRN.out, hlen.out]; simp
              · exact hg.out m (by omega)
            clear hent
            go_wp2
            exact ⟨⟨k + 1, by omega, by go_num, HG.out⟩, by simp [intOf]; omega⟩
          | false =>
            have HB : Hid (tabB t = false) := tab_f2 (k := k) (by rw [hlen.out]; exact hlt) (by
              unfold rowB
              rw [show (List.range (t.getD k []).length).all (fun j => entB ((t.getD k []).getD j 0)) = false from hent, Bool.and_false])
            clear hent
            go_wp2
            go_ret
            exact ⟨ret_b HB.out.symm, rfl⟩
        · have hneb : ((rn : Int) != (tn : Int)) = true := by simp; omega
          have HB : Hid (tabB t = false) := tab_f2 (k := k) (by rw [hlen.out]; exact hlt) (by unfold rowB; rw [hrn, hlen.out, decide_eq_false hre]; rfl)
          clear hI hrn
          go_wp2
          all_goals first
            | (exfalso; omega)
            | (go_ret
               exact ⟨ret_b HB.out.symm, rfl⟩)
      · have hkn : k = tn := by omega
        subst hkn
        have HB : Hid (tabB t = true) := tab_t (by rw [hlen.out]; omega) (fun q hq => hg.out q (by rw [hlen.out] at hq; exact hq))
        go_wp2
        go_ret
        exact ⟨ret_b HB.out.symm, rfl⟩
  · have HB : Hid (tabB t = false) := tab_f1 (by rw [hlen.out]; exact h8)
    by_cases h1 : tn < 1
    · have h1b : (tn : Int) < 1 := by omega
      clear h8
      go_enter Tryz.func61, Tryz.ntmps61
      go_wp2
      go_ret
      exact ⟨ret_b HB.out.symm, rfl⟩
    · have h1b : ¬ ((tn : Int) < 1) := by omega
      have h2b : (8 : Int) < (tn : Int) := by omega
      clear h8
      go_enter Tryz.func61, Tryz.ntmps61
      go_wp2
      all_goals first
        | (exfalso; omega)
        | (go_ret
           exact ⟨ret_b HB.out.symm, rfl⟩)

theorem take_filter (l : List Int) (n : Int) {k : Nat} (hk : k < l.length) : (l.take (k + 1)).filter (fun x => decide (x < n)) = (l.take k).filter (fun x => decide (x < n)) ++ (if l.getD k 0 < n then [l.getD k 0] else []) := by
  rw [List.take_add_one, List.filter_append]
  congr 1
  simp only [List.getD, List.getElem?_eq_getElem hk, Option.toList_some, Option.getD_some, List.filter_cons, List.filter_nil]
  by_cases h : l[k] < n
  · simp [h]
  · simp [h]

set_option maxHeartbeats 1000000 in
theorem rRowsIn_any (ca : Option Addr) (cn cc n : Nat) (cut : List Int) (w : World) (hc : Ints w ca cn cut) (hn : cn ≤ 16) (h8 : n ≤ 8) :
    Calls Tryz.prog 65 #[.slice ca cn cc, .int .i64 n] w fun e w' => ∃ v, e = .returned v ∧ OwnL w' w.heap.size v (cut.filter (fun x => decide (x < (n : Int)))) ∧ Below w.heap.size w w' := by
  have hcn : Hid (cut.length = cn) := hc.len
  have HC := hide hc
  clear hc
  go_enter Tryz.func65, Tryz.ntmps65
  go_wp2
  go_loopw [5, 7, 11] (fun v nd i wr => ∃ k : Nat, k ≤ cn ∧ i = .int .i64 k ∧ Hid (OwnL wr w.heap.size v ((cut.take k).filter (fun x => decide (x < (n : Int))))) ∧ Below w.heap.size w wr) (fun _ _ i _ => cn - (intOf i).toNat)
  case atStart => exact ⟨0, Nat.zero_le _, rfl, OwnL.lit w, (Below.refl _ _).alloc (Nat.le_refl _) _⟩
  case round =>
    obtain ⟨k, hk, rfl, hO, hb⟩ := hrel
    obtain ⟨la, lc, rfl, hown⟩ := hO.out
    have HO := hide hown
    have hsz := hb.size
    have hlen : ((cut.take k).filter (fun x => decide (x < (n : Int)))).length ≤ 1000 := by
      have h1 := List.length_filter_le (fun x => decide (x < (n : Int))) (cut.take k)
      have h2 := List.length_take_le k cut
      omega
    clear hown
    by_cases hlt : k < cn
    · have hlt3 : (k : Int) < (cn : Int) := by omega
      obtain ⟨b, off, x, rfl, hX, hbb, cx⟩ := (HC.out.below hb).get hlt
      have hnx0 := take_filter cut (n : Int) (k := k) (by rw [hcn.out]; exact hlt)
      rw [hX] at hnx0
      clear hX
      by_cases hs : x < (n : Int)
      · rw [if_pos hs] at hnx0
        have hnx := hide hnx0
        generalize hLL : (cut.take k).filter (fun x => decide (x < (n : Int))) = L at *
        clear hLL hnx0
        go_wp2_with (at_builtin; refine wpList_push_int rfl (.tmp 18) (.tmp 20) rfl w.heap.size la lc L rfl ?_ wr.heap.size x 1 rfl ?_ hlen ?_ ?_)
        · exact HO.out.alloc _
        · go_simp
        · simp; omega
        intro g' c' w2 hown2 hgr
        have hblk := (HO.out.alloc (.cells #[.int .i64 x] 3)).lt
        have hb2 : Below w.heap.size w w2 := (hb.alloc hsz _).grown hgr (by simp; omega) (fun b hb' => (hblk b hb').1)
        clear cx
        go_wp2
        go_roundw
        case rel =>
          refine ⟨k + 1, by omega, by go_num, ?_, hb2⟩
          rw [hnx.out]
          exact OwnL.push hown2
        case measure => simp [intOf]; omega
      · rw [if_neg hs, List.append_nil] at hnx0
        have hnx := hide hnx0
        clear hnx0
        go_wp2
        go_roundw
        case rel => exact ⟨k + 1, by omega, by go_num, by rw [hnx.out]; exact hO.out, hb⟩
        case measure => simp [intOf]; omega
    · have hkn : k = cn := by omega
      subst hkn
      have hA : cut.take k = cut := List.take_of_length_le (by rw [hcn.out]; exact Nat.le_refl _)
      rw [hA] at hO HO hlen ⊢
      clear hA
      go_wp2
      go_ret
      exact ⟨_, rfl, hO.out, hb⟩
end Go.Proofs.YtnbccoflcoaoaaaGreat

namespace Go.Proofs.YtnbccoflcoaoaaaGreat
open Go.RowKit Go.Deep
set_option linter.unusedSimpArgs false
set_option linter.unusedVariables false

/-- The supplies behind k rows. -/
def supG (n k i : Nat) : Int := if i < k then 1 else if n ≤ i ∧ i < n + k then -1 else 0
/-- The net of a table in the making: the result is still empty. -/
structure NetM (w wr : World) (n k : Nat) (v : Value) (l : List A5) : Prop where
  rr : wr.rowIs w.heap.size 48 2 (fun _ => .slice none 0 0)
  rs : wr.rowIs (w.heap.size + 1) 3 (2 * n) (fun i => .int .i64 (supG n k i))
  ro : OwnAr wr (w.heap.size + 2) v l
  be : Below w.heap.size w wr
  sz : w.heap.size + 2 ≤ wr.heap.size
theorem NetM.start (w : World) (n : Nat) :
    NetM w (((w.alloc (.cells #[.slice none 0 0, .slice none 0 0] 48)).alloc (.cells (madeCells #[.int .i64 0] (2 * n)) 3)).alloc (.cells #[] 67)) n 0 (.slice (some ⟨w.heap.size + 2, 0, none⟩) 0 0) [] := by
  refine ⟨?_, ?_, ?_, ((((Below.refl _ _).alloc (Nat.le_refl _) _).alloc (by simp) _).alloc (by simp <;> omega) _), by simp <;> omega⟩
  · refine ((World.rowIs_alloc w #[.slice none 0 0, .slice none 0 0] 48 _ ?_).alloc _).alloc _
    intro i hi
    rcases i with _ | _ | i
    · rfl
    · rfl
    · simp at hi; omega
  · have h := (made_ints (w.alloc (.cells #[.slice none 0 0, .slice none 0 0] 48)) (2 * n) (w.heap.size + 1) (by simp)).alloc (.cells #[] 67)
    exact h.congr (fun i hi => by unfold supG; rw [if_neg (by omega), if_neg (by omega)])
  · have h := OwnAr.lit ((w.alloc (.cells #[.slice none 0 0, .slice none 0 0] 48)).alloc (.cells (madeCells #[.int .i64 0] (2 * n)) 3))
    simpa using h
/-- A row's two supplies. -/
theorem NetM.sup {w wr : World} {n k : Nat} {v : Value} {l : List A5} (h : NetM w wr n k v l) (hk : k < n) :
    NetM w ((wr.setCell ⟨w.heap.size + 1, k, none⟩ (.int .i64 1)).setCell ⟨w.heap.size + 1, n + k, none⟩ (.int .i64 (-1))) n (k + 1) v l := by
  obtain ⟨oa, oc, e, hown⟩ := h.ro
  refine ⟨(h.rr.setOther (by show w.heap.size ≠ w.heap.size + 1; omega) _).setOther (by show w.heap.size ≠ w.heap.size + 1; omega) _, ((h.rs.set k _).set (n + k) _).congr (fun i hi => ?_), ⟨oa, oc, e, ownsRow_setCell_below (ownsRow_setCell_below hown (a := ⟨w.heap.size + 1, k, none⟩) (by show w.heap.size + 1 < w.heap.size + 2; omega) _) (a := ⟨w.heap.size + 1, n + k, none⟩) (by show w.heap.size + 1 < w.heap.size + 2; omega) _⟩, (h.be.setCell (p := ⟨w.heap.size + 1, k, none⟩) (by show w.heap.size ≤ w.heap.size + 1; omega) _).setCell (p := ⟨w.heap.size + 1, n + k, none⟩) (by show w.heap.size ≤ w.heap.size + 1; omega) _, by simpa [World.setCell] using h.sz⟩
  unfold supG
  by_cases e1 : i = n + k
  · subst e1
    rw [if_pos rfl, if_neg (by omega), if_pos (by omega)]
  · rw [if_neg e1]
    by_cases e2 : i = k
    · subst e2; rw [if_pos rfl, if_pos (by omega)]
    · rw [if_neg e2]
      by_cases e3 : i < k
      · rw [if_pos e3, if_pos (by omega)]
      · rw [if_neg e3, if_neg (show ¬ i < k + 1 by omega)]
        by_cases e4 : n ≤ i ∧ i < n + k
        · rw [if_pos e4, if_pos (by omega)]
        · rw [if_neg e4, if_neg (by omega)]
theorem NetM.push {w wr X w2 : World} {m k : Nat} {oa : Option Addr} {oc : Nat} {l : List A5} {n : Nat} (hn : l.length = n) (h : NetM w wr m k (.slice oa n oc) l) (hX : Below wr.heap.size wr X) {g' c' : Nat} {y : A5} (ho : w2.ownsRow (w.heap.size + 2) 67 5 (.slice (some ⟨g', 0, none⟩) (n + 1) c') (n + 1) (arcCells (l ++ [y]))) (hg : X.grownBy w2 (Value.slice oa n oc).ownBlock) :
    NetM w w2 m k (.slice (some ⟨g', 0, none⟩) (n + 1) c') (l ++ [y]) := by
  subst hn
  obtain ⟨oa', oc', e, hown⟩ := h.ro
  cases e
  have hblk := hown.lt
  have hne : ∀ b, b < w.heap.size + 2 → some b ≠ (Value.slice oa l.length oc).ownBlock := fun b hb e => by have := hblk b e.symm; omega
  refine ⟨grown_row hg (below_row hX h.rr h.rr.lt) (hne _ (by omega)), grown_row hg (below_row hX h.rs h.rs.lt) (hne _ (by omega)), ⟨some ⟨g', 0, none⟩, c', by simp, by rw [List.length_append]; exact ho⟩, ?_, by have := h.sz; have := hX.size; have := hg.size; omega⟩
  exact (h.be.trans (hX.mono h.be.size)).grown hg (Nat.le_trans h.be.size hX.size) (fun b hb => by have := hblk b hb; omega)
theorem NetM.own {w wr : World} {m k : Nat} {oa : Option Addr} {oc n : Nat} {l : List A5} (h : NetM w wr m k (.slice oa n oc) l) (hn : l.length = n) : wr.ownsRow (w.heap.size + 2) 67 5 (.slice oa n oc) n (arcCells l) := by
  obtain ⟨oa', oc', e, hown⟩ := h.ro
  cases e
  rw [hn] at hown
  exact hown
theorem NetM.drewB {w wr X : World} {m k : Nat} {v : Value} {l : List A5} (h : NetM w wr m k v l) (hX : Below wr.heap.size wr X) : NetM w X m k v l := by
  obtain ⟨oa, oc, e, hown⟩ := h.ro
  exact ⟨below_row hX h.rr h.rr.lt, below_row hX h.rs h.rs.lt, ⟨oa, oc, e, hown.kept (grown_of_below hX none) (by cases oa <;> simp [Value.ownBlock])⟩, h.be.trans (hX.mono h.be.size), Nat.le_trans h.sz hX.size⟩
/-- It is told. -/
theorem NetM.done {w wr : World} {t : List (List Int)} {oa : Option Addr} {oc : Nat} (ht : tabB t = true) (h : NetM w wr t.length t.length (.slice oa (tabArcs t).length oc) (tabArcs t)) :
    let W' := (wr.setCell ⟨w.heap.size, 0, none⟩ (.slice (some ⟨w.heap.size + 1, 0, none⟩) (2 * t.length) (2 * t.length))).setCell ⟨w.heap.size, 1, none⟩ (.slice oa (tabArcs t).length oc)
    Arcs W' oa (tabArcs t).length (tabArcs t) ∧ Ints W' (some ⟨w.heap.size + 1, 0, none⟩) (2 * t.length) (supA t.length) ∧ Below w.heap.size w W' := by
  intro W'
  obtain ⟨oa', oc', e, hown⟩ := h.ro
  cases e
  have hw := tab_wide ht
  have h8 := (tab_out ht).2.1
  have hal := hw.arcs
  have h1 := ownsRow_setCell_below (ownsRow_setCell_below hown (a := ⟨w.heap.size, 0, none⟩) (by show w.heap.size < w.heap.size + 2; omega) (.slice (some ⟨w.heap.size + 1, 0, none⟩) (2 * t.length) (2 * t.length))) (a := ⟨w.heap.size, 1, none⟩) (by show w.heap.size < w.heap.size + 2; omega) (.slice oa (tabArcs t).length oc)
  obtain ⟨a, c, e, hA, _⟩ := arcs_of_own h1 rfl (by omega) (fun x hx j => by
    obtain ⟨i, hi, rfl⟩ := mem_of_getD zA _ x hx
    have h2 := arcB_out (hw.arc i hi)
    rw [supA_len] at h2
    unfold A5.at
    split <;> omega)
  cases e
  refine ⟨hA, ?_, (h.be.setCell (p := ⟨w.heap.size, 0, none⟩) (by show w.heap.size ≤ w.heap.size; omega) _).setCell (p := ⟨w.heap.size, 1, none⟩) (by show w.heap.size ≤ w.heap.size; omega) _⟩
  have hr := (h.rs.setOther (a := ⟨w.heap.size, 0, none⟩) (by show w.heap.size + 1 ≠ w.heap.size; omega) (.slice (some ⟨w.heap.size + 1, 0, none⟩) (2 * t.length) (2 * t.length))).setOther (a := ⟨w.heap.size, 1, none⟩) (by show w.heap.size + 1 ≠ w.heap.size; omega) (.slice oa (tabArcs t).length oc)
  refine row_ints (l := supA t.length) (hr.congr (fun i hi => ?_)) (supA_len _) (by omega) (fun i hi => by rw [supA_at hi]; split <;> omega)
  rw [supA_at hi]
  unfold supG
  by_cases e1 : i < t.length
  · rw [if_pos e1, if_pos e1]
  · rw [if_neg e1, if_neg e1, if_pos (by omega)]
end Go.Proofs.YtnbccoflcoaoaaaGreat

namespace Go.Proofs.YtnbccoflcoaoaaaGreat
open Go.RowKit Go.Deep
set_option linter.unusedSimpArgs false
set_option linter.unusedVariables false

set_option maxRecDepth 100000 in
set_option maxHeartbeats 4000000 in
theorem rNetOf_any (ta : Option Addr) (tn tc : Nat) (t : List (List Int)) (w : World) (ht : tabB t = true) (hT : Tab w ta tn t) :
    Calls Tryz.prog 63 #[.slice ta tn tc] w fun e w' => ∃ oa oc, e = .returned (.agg #[.slice (some ⟨w.heap.size + 1, 0, none⟩) (2 * tn) (2 * tn), .slice oa (tabArcs t).length oc]) ∧ Arcs w' oa (tabArcs t).length (tabArcs t) ∧ Ints w' (some ⟨w.heap.size + 1, 0, none⟩) (2 * tn) (supA tn) ∧ Below w.heap.size w w' := by
  have hlen := hide hT.len
  have h8 : tn ≤ 8 := by rw [← hlen.out]; exact (tab_out ht).2.1
  have HT := hide hT
  have HTB := hide ht
  have hmi := run_make_row' (P := Tryz.prog) 32 3 (.int .i64 0) 8 Tryz.underlying32 infoInt rfl .i64 .i64 (2 * tn) (by omega) (by omega)
  rw [show ((2 * tn : Nat) : Int) = 2 * (tn : Int) from by omega] at hmi
  have HM0 := hide (NetM.start w tn)
  clear hT ht
  go_enter Tryz.func63, Tryz.ntmps63
  go_wp2
  go_loopw [5, 6, 7, 8, 9, 18] (fun ar nu ro co cs i wr => ∃ k : Nat, k ≤ tn ∧ i = .int .i64 k ∧ Hid (NetM w wr tn k ar (arcsTo t k))) (fun _ _ _ _ _ i _ => tn - (intOf i).toNat)
  case atStart => exact ⟨0, Nat.zero_le _, rfl, HM0.out⟩
  case round =>
    clear HM0 hmi
    obtain ⟨k, hk, rfl, hM⟩ := hrel
    by_cases hlt : k < tn
    · have hlt3 : (k : Int) < (tn : Int) := by omega
      obtain ⟨b, off, ra, rn, rc, rfl, hrn0, hbb, cr0, hI⟩ := HT.out.get hlt
      have cr := (hM.out.be.cell (p := ⟨b, off + k, none⟩) hbb).trans cr0
      have hrn : Hid ((t.getD k []).length = tn) := by
        show _ = _
        rw [(tab_out HTB.out).2.2.1 k (by rw [hlen.out]; exact hlt)]
        exact hlen.out
      have hrt : rn = tn := by rw [← hrn0]; exact hrn.out
      subst hrt
      have c1 := hM.out.rs.cell (i := k) (by omega)
      have f1 := hM.out.rs.frozen k
      have c2 := (hM.out.rs.set k (.int .i64 1)).cell (i := rn + k) (by omega)
      have f2 := (hM.out.rs.set k (.int .i64 1)).frozen (rn + k)
      have HM2 := hide (hM.out.sup hlt)
      have hsz := hM.out.sz
      obtain ⟨oa, oc, rfl, _⟩ := hM.out.ro
      have HRW : Hid (∀ w0, Below w.heap.size w w0 → Ints w0 ra rn (t.getD k [])) := fun w0 h0 => hI.below h0
      clear hM hrn0 hI cr0
      go_wp2
      go_loopw [5, 8, 9, 33] (fun ar co cs j wq => ∃ q : Nat, q ≤ rn ∧ j = .int .i64 q ∧ Hid (NetM w wq rn (k + 1) ar (arcsTo t k ++ tabRow rn k (t.getD k []) q))) (fun _ _ _ j _ => rn - (intOf j).toNat)
      case atStart => exact ⟨0, Nat.zero_le _, rfl, by have h := HM2.out; rw [show arcsTo t k ++ tabRow rn k (t.getD k []) 0 = arcsTo t k from by simp [tabRow]]; exact h⟩
      case round =>
        clear HM2 c1 c2 f1 f2 cr
        obtain ⟨q, hq, rfl, hM⟩ := hrel
        obtain ⟨oa, oc, rfl, _⟩ := hM.out.ro
        have hsz := hM.out.sz
        have hLb : (arcsTo t k ++ tabRow rn k (t.getD k []) q).length ≤ 128 := by
          have h1 := arcsTo_len t k
          have h2 := tabRow_len rn k (t.getD k []) q
          rw [hlen.out] at h1
          have h3 : k * rn ≤ 8 * 8 := Nat.mul_le_mul (by omega) (by omega)
          rw [List.length_append]
          omega
        by_cases hlt2 : q < rn
        · have hlt4 : (q : Int) < (rn : Int) := by omega
          have hI2 := HRW.out _ hM.out.be
          obtain ⟨b2, off2, x, rfl, hX, hb2, cx⟩ := hI2.get hlt2
          have hstep : tabRow rn k (t.getD k []) (q + 1) = if x ≠ -1 then tabRow rn k (t.getD k []) q ++ [arcA rn k q x] else tabRow rn k (t.getD k []) q := by
            simp only [tabRow, hX]
          clear hX hI2
          by_cases hx1 : x = -1
          · subst hx1
            rw [if_neg (by simp)] at hstep
            have HST := hide hstep
            clear hstep
            go_wp2
            go_roundw
            case rel => exact ⟨q + 1, by omega, by go_num, by rw [HST.out]; exact hM.out⟩
            case measure => simp [intOf]; omega
          · have hxb : (x != -1) = true := by simpa using hx1
            rw [if_pos hx1] at hstep
            have HST : Hid (arcsTo t k ++ tabRow rn k (t.getD k []) (q + 1) = (arcsTo t k ++ tabRow rn k (t.getD k []) q) ++ [arcA rn k q x]) := by
              show _ = _
              rw [hstep, List.append_assoc]
            clear hstep hx1
            obtain ⟨N, hN⟩ : ∃ N, (arcsTo t k ++ tabRow rn k (t.getD k []) q).length = N := ⟨_, rfl⟩
            have HN := hide hN
            rw [hN] at hM hLb ⊢
            generalize hLL : arcsTo t k ++ tabRow rn k (t.getD k []) q = L at *
            clear hLL hN
            go_wp2_with (at_builtin; refine wpList_push_arc rfl (.tmp 40) (.tmp 47) rfl (w.heap.size + 2) oa oc L N HN.out rfl ?_ wr.heap.size (arcA rn k q x) 1 rfl ?_ (by omega) ?_ ?_)
            · exact (hM.out.own HN.out).alloc _
            · intro j hj
              match j, hj with
              | 0, _ => go_simp <;> rfl
              | 1, _ => go_simp <;> rfl
              | 2, _ => go_simp <;> rfl
              | 3, _ => go_simp <;> rfl
              | 4, _ => go_simp <;> rfl
            · simp; omega
            intro g' c' w2 hown2 hgr
            have HM3 := hide (NetM.push (oa := oa) (oc := oc) HN.out hM.out (Joins.below_alloc1 wr _) hown2 hgr)
            clear hM hown2 hgr cx
            go_wp2
            go_roundw
            case rel => exact ⟨q + 1, by omega, by go_num, by rw [HST.out]; exact HM3.out⟩
            case measure => simp [intOf]; omega
        · have hqn : q = rn := by omega
          subst hqn
          go_wp2
          go_roundw
          case rel =>
            refine ⟨k + 1, by omega, by go_num, ?_⟩
            have h := hM.out
            rw [show arcsTo t (k + 1) = arcsTo t k ++ tabRow q k (t.getD k []) q from by simp only [arcsTo]; rw [hlen.out]]
            exact h
          case measure => simp [intOf]; omega
    · have hkn : k = tn := by omega
      subst hkn
      obtain ⟨oa, oc, rfl, _⟩ := hM.out.ro
      have hAL : arcsTo t k = tabArcs t := by unfold tabArcs; rw [hlen.out]
      rw [hAL] at hM ⊢
      clear hAL
      have hD := NetM.done (oa := oa) (oc := oc) (w := w) (wr := wr) HTB.out (by rw [hlen.out]; exact hM.out)
      rw [hlen.out] at hD
      have r0 := hM.out.rr.cell (i := 0) (by omega)
      have r1 := hM.out.rr.cell (i := 1) (by omega)
      have f0 := hM.out.rr.frozen 0
      have f1 := hM.out.rr.frozen 1
      have hsz := hM.out.sz
      have HD := hide hD
      have hLb : (tabArcs t).length ≤ 64 := (tab_wide HTB.out).arcs
      clear hD hM
      go_wp2
      have q0 : (wr.setCell ⟨w.heap.size, 0, none⟩ (Value.slice (some ⟨w.heap.size + 1, 0, none⟩) (2 * k) (2 * k))).cell? ⟨w.heap.size, 0, none⟩ = some (.slice (some ⟨w.heap.size + 1, 0, none⟩) (2 * k) (2 * k)) := by go_simp
      have q1 : ((wr.setCell ⟨w.heap.size, 0, none⟩ (Value.slice (some ⟨w.heap.size + 1, 0, none⟩) (2 * k) (2 * k))).setCell ⟨w.heap.size, 1, none⟩ (Value.slice oa (tabArcs t).length oc)).cell? ⟨w.heap.size, 1, none⟩ = some (.slice oa (tabArcs t).length oc) := by go_simp
      refine bodyPost_ret (v := .agg #[.slice (some ⟨w.heap.size + 1, 0, none⟩) (2 * k) (2 * k), .slice oa (tabArcs t).length oc]) (by simp [results, Tryz.results63, go_sem, q0, q1]) rfl ⟨oa, ⟨oc, rfl⟩, HD.out.1, HD.out.2.1, HD.out.2.2⟩
end Go.Proofs.YtnbccoflcoaoaaaGreat

namespace Go.Proofs.YtnbccoflcoaoaaaGreat
open Go.RowKit Go.Deep
set_option linter.unusedSimpArgs false
set_option linter.unusedVariables false

def zPlan (i : Nat) : Value := if i = 0 then .bool false else if i = 2 then .int .i64 0 else .slice none 0 0
def planF (n ka ra wa : Nat) (c : Int) (i : Nat) : Value :=
  if i = 0 then .bool true else if i = 1 then .slice (some ⟨ka, 0, none⟩) n n else if i = 2 then .int .i64 c else if i = 3 then .slice (some ⟨ra, 0, none⟩) n n else if i = 4 then .slice (some ⟨wa, 0, none⟩) n n else .slice none 0 0
/-- A plan in the making: the result at w's end, the plan at pb, its three lists. -/
structure PlanM (w wr : World) (n pb ka ra wa : Nat) (c : Int) (cols rws cws : Nat → Int) : Prop where
  rr : wr.rowIs w.heap.size 59 6 zPlan
  rp : wr.rowIs pb 59 6 (planF n ka ra wa c)
  rk : wr.rowIs ka 3 n (fun i => .int .i64 (cols i))
  ro : wr.rowIs ra 3 n (fun i => .int .i64 (rws i))
  rc : wr.rowIs wa 3 n (fun i => .int .i64 (cws i))
  lo : w.heap.size < pb ∧ w.heap.size < ka ∧ w.heap.size < ra ∧ w.heap.size < wa
  ne : pb ≠ ka ∧ pb ≠ ra ∧ pb ≠ wa ∧ ka ≠ ra ∧ ka ≠ wa ∧ ra ≠ wa
  be : Below w.heap.size w wr
theorem PlanM.grow {w wr X : World} {n pb ka ra wa : Nat} {c : Int} {cols rws cws : Nat → Int} (h : PlanM w wr n pb ka ra wa c cols rws cws) (hX : Below wr.heap.size wr X) : PlanM w X n pb ka ra wa c cols rws cws :=
  ⟨below_row hX h.rr h.rr.lt, below_row hX h.rp h.rp.lt, below_row hX h.rk h.rk.lt, below_row hX h.ro h.ro.lt, below_row hX h.rc h.rc.lt, h.lo, h.ne, h.be.trans (hX.mono h.be.size)⟩
theorem PlanM.setK {w wr : World} {n pb ka ra wa : Nat} {c : Int} {cols rws cws : Nat → Int} (h : PlanM w wr n pb ka ra wa c cols rws cws) (a : Nat) (x : Int) {cols' : Nat → Int} (hc : ∀ i, i < n → cols' i = if i = a then x else cols i) : PlanM w (wr.setCell ⟨ka, a, none⟩ (.int .i64 x)) n pb ka ra wa c cols' rws cws := by
  obtain ⟨n1, n2, n3, n4, n5, n6⟩ := h.ne
  obtain ⟨l1, l2, l3, l4⟩ := h.lo
  refine ⟨h.rr.setOther (by show w.heap.size ≠ ka; omega) _, h.rp.setOther n1 _, (h.rk.set a _).congr (fun i hi => ?_), h.ro.setOther (fun e => n4 e.symm) _, h.rc.setOther (fun e => n5 e.symm) _, h.lo, h.ne, h.be.setCell (p := ⟨ka, a, none⟩) (by show w.heap.size ≤ ka; omega) _⟩
  rw [hc i hi]
  split <;> rfl
theorem PlanM.setR {w wr : World} {n pb ka ra wa : Nat} {c : Int} {cols rws cws : Nat → Int} (h : PlanM w wr n pb ka ra wa c cols rws cws) (a : Nat) (x : Int) {rws' : Nat → Int} (hc : ∀ i, i < n → rws' i = if i = a then x else rws i) : PlanM w (wr.setCell ⟨ra, a, none⟩ (.int .i64 x)) n pb ka ra wa c cols rws' cws := by
  obtain ⟨n1, n2, n3, n4, n5, n6⟩ := h.ne
  obtain ⟨l1, l2, l3, l4⟩ := h.lo
  refine ⟨h.rr.setOther (by show w.heap.size ≠ ra; omega) _, h.rp.setOther n2 _, h.rk.setOther n4 _, (h.ro.set a _).congr (fun i hi => ?_), h.rc.setOther (fun e => n6 e.symm) _, h.lo, h.ne, h.be.setCell (p := ⟨ra, a, none⟩) (by show w.heap.size ≤ ra; omega) _⟩
  rw [hc i hi]
  split <;> rfl
theorem PlanM.setC {w wr : World} {n pb ka ra wa : Nat} {c : Int} {cols rws cws : Nat → Int} (h : PlanM w wr n pb ka ra wa c cols rws cws) (a : Nat) (x : Int) {cws' : Nat → Int} (hc : ∀ i, i < n → cws' i = if i = a then x else cws i) : PlanM w (wr.setCell ⟨wa, a, none⟩ (.int .i64 x)) n pb ka ra wa c cols rws cws' := by
  obtain ⟨n1, n2, n3, n4, n5, n6⟩ := h.ne
  obtain ⟨l1, l2, l3, l4⟩ := h.lo
  refine ⟨h.rr.setOther (by show w.heap.size ≠ wa; omega) _, h.rp.setOther n3 _, h.rk.setOther n5 _, h.ro.setOther n6 _, (h.rc.set a _).congr (fun i hi => ?_), h.lo, h.ne, h.be.setCell (p := ⟨wa, a, none⟩) (by show w.heap.size ≤ wa; omega) _⟩
  rw [hc i hi]
  split <;> rfl
theorem PlanM.setCost {w wr : World} {n pb ka ra wa : Nat} {c : Int} {cols rws cws : Nat → Int} (h : PlanM w wr n pb ka ra wa c cols rws cws) (x : Int) : PlanM w (wr.setCell ⟨pb, 2, none⟩ (.int .i64 x)) n pb ka ra wa x cols rws cws := by
  obtain ⟨n1, n2, n3, n4, n5, n6⟩ := h.ne
  obtain ⟨l1, l2, l3, l4⟩ := h.lo
  refine ⟨h.rr.setOther (by show w.heap.size ≠ pb; omega) _, (h.rp.set 2 _).congr (fun i hi => ?_), h.rk.setOther (fun e => n1 e.symm) _, h.ro.setOther (fun e => n2 e.symm) _, h.rc.setOther (fun e => n3 e.symm) _, h.lo, h.ne, h.be.setCell (p := ⟨pb, 2, none⟩) (by show w.heap.size ≤ pb; omega) _⟩
  unfold planF
  by_cases e : i = 2
  · subst e; simp
  · simp [e]
theorem PlanM.cells {w wr : World} {n pb ka ra wa : Nat} {c : Int} {cols rws cws : Nat → Int} (h : PlanM w wr n pb ka ra wa c cols rws cws) :
    wr.cell? ⟨pb, 0, none⟩ = some (.bool true) ∧ wr.cell? ⟨pb, 1, none⟩ = some (.slice (some ⟨ka, 0, none⟩) n n) ∧ wr.cell? ⟨pb, 2, none⟩ = some (.int .i64 c) ∧ wr.cell? ⟨pb, 3, none⟩ = some (.slice (some ⟨ra, 0, none⟩) n n) ∧ wr.cell? ⟨pb, 4, none⟩ = some (.slice (some ⟨wa, 0, none⟩) n n) ∧ wr.cell? ⟨pb, 5, none⟩ = some (.slice none 0 0) :=
  ⟨h.rp.cell (i := 0) (by omega), h.rp.cell (i := 1) (by omega), h.rp.cell (i := 2) (by omega), h.rp.cell (i := 3) (by omega), h.rp.cell (i := 4) (by omega), h.rp.cell (i := 5) (by omega)⟩

/-- A new plan, whatever order its lists were made in. -/
def NewPlan (w : World) (n : Nat) (r : Value) (wx : World) : Prop :=
  ∃ pb ka ra wa, r = .pointer (some ⟨pb, 0, none⟩) ∧ PlanM w wx n pb ka ra wa 0 (fun _ => 0) (fun _ => 0) (fun _ => 0)

theorem new_plan {w wx : World} {n pb ka ra wa : Nat} (hp : wx.rowIs pb 59 6 (planF n ka ra wa 0)) (hr : wx.rowIs w.heap.size 59 6 zPlan) (hk : wx.rowIs ka 3 n (fun _ => .int .i64 0)) (ho : wx.rowIs ra 3 n (fun _ => .int .i64 0)) (hc : wx.rowIs wa 3 n (fun _ => .int .i64 0))
    (hl : w.heap.size < pb ∧ w.heap.size < ka ∧ w.heap.size < ra ∧ w.heap.size < wa) (hne : pb ≠ ka ∧ pb ≠ ra ∧ pb ≠ wa ∧ ka ≠ ra ∧ ka ≠ wa ∧ ra ≠ wa) (hb : Below w.heap.size w wx) : NewPlan w n (.pointer (some ⟨pb, 0, none⟩)) wx := ⟨pb, ka, ra, wa, rfl, hr, hp, hk, ho, hc, hl, hne, hb⟩
theorem plan_row (X : World) (n ka ra wa pb : Nat) (h : X.heap.size = pb) : (X.alloc (.cells #[.bool true, .slice (some ⟨ka, 0, none⟩) n n, .int .i64 0, .slice (some ⟨ra, 0, none⟩) n n, .slice (some ⟨wa, 0, none⟩) n n, .slice none 0 0] 59)).rowIs pb 59 6 (planF n ka ra wa 0) := by
  subst h
  exact World.rowIs_alloc X #[.bool true, .slice (some ⟨ka, 0, none⟩) n n, .int .i64 0, .slice (some ⟨ra, 0, none⟩) n n, .slice (some ⟨wa, 0, none⟩) n n, .slice none 0 0] 59 _ (by
    intro i hi
    simp only [List.size_toArray, List.length_cons, List.length_nil] at hi
    match i, hi with
    | 0, _ => rfl
    | 1, _ => rfl
    | 2, _ => rfl
    | 3, _ => rfl
    | 4, _ => rfl
    | 5, _ => rfl)
theorem zplan_row (X : World) (pb : Nat) (h : X.heap.size = pb) : (X.alloc (.cells #[.bool false, .slice none 0 0, .int .i64 0, .slice none 0 0, .slice none 0 0, .slice none 0 0] 59)).rowIs pb 59 6 zPlan := by
  subst h
  exact World.rowIs_alloc X #[.bool false, .slice none 0 0, .int .i64 0, .slice none 0 0, .slice none 0 0, .slice none 0 0] 59 _ (by
    intro i hi
    simp only [List.size_toArray, List.length_cons, List.length_nil] at hi
    match i, hi with
    | 0, _ => rfl
    | 1, _ => rfl
    | 2, _ => rfl
    | 3, _ => rfl
    | 4, _ => rfl
    | 5, _ => rfl)
theorem below5 (w : World) (a b c d e : Obj) : Below w.heap.size w (((((w.alloc a).alloc b).alloc c).alloc d).alloc e).drew :=
  ((((((Below.refl _ _).alloc (Nat.le_refl _) _).alloc (by simp) _).alloc (by simp; omega) _).alloc (by simp; omega) _).alloc (by simp; omega) _).drew

theorem row_put6 {w : World} {b b' : Nat} {t : TypeId} {n : Nat} {f : Nat → Value} (h : w.rowIs b t n f) (hne : b ≠ b') (v0 v1 v2 v3 v4 v5 : Value) : (put6 w b' v0 v1 v2 v3 v4 v5).rowIs b t n f :=
  (((((h.setOther (a := ⟨b', 0, none⟩) hne _).setOther (a := ⟨b', 1, none⟩) hne _).setOther (a := ⟨b', 2, none⟩) hne _).setOther (a := ⟨b', 3, none⟩) hne _).setOther (a := ⟨b', 4, none⟩) hne _).setOther (a := ⟨b', 5, none⟩) hne _
theorem put6_cells {w : World} {b : Nat} {t : TypeId} {f : Nat → Value} (h : w.rowIs b t 6 f) (v0 v1 v2 v3 v4 v5 : Value) :
    (put6 w b v0 v1 v2 v3 v4 v5).cell? ⟨b, 0, none⟩ = some v0 ∧ (put6 w b v0 v1 v2 v3 v4 v5).cell? ⟨b, 1, none⟩ = some v1 ∧ (put6 w b v0 v1 v2 v3 v4 v5).cell? ⟨b, 2, none⟩ = some v2 ∧ (put6 w b v0 v1 v2 v3 v4 v5).cell? ⟨b, 3, none⟩ = some v3 ∧ (put6 w b v0 v1 v2 v3 v4 v5).cell? ⟨b, 4, none⟩ = some v4 ∧ (put6 w b v0 v1 v2 v3 v4 v5).cell? ⟨b, 5, none⟩ = some v5 := by
  have hr := (((((h.set 0 v0).set 1 v1).set 2 v2).set 3 v3).set 4 v4).set 5 v5
  exact ⟨(hr.cell (i := 0) (by omega)).trans (by simp), (hr.cell (i := 1) (by omega)).trans (by simp), (hr.cell (i := 2) (by omega)).trans (by simp), (hr.cell (i := 3) (by omega)).trans (by simp), (hr.cell (i := 4) (by omega)).trans (by simp), (hr.cell (i := 5) (by omega)).trans (by simp)⟩
theorem below_put6 {W w : World} {K b : Nat} (h : Below K W w) (hb : K ≤ b) (v0 v1 v2 v3 v4 v5 : Value) : Below K W (put6 w b v0 v1 v2 v3 v4 v5) :=
  (((((h.setCell (p := ⟨b, 0, none⟩) hb _).setCell (p := ⟨b, 1, none⟩) hb _).setCell (p := ⟨b, 2, none⟩) hb _).setCell (p := ⟨b, 3, none⟩) hb _).setCell (p := ⟨b, 4, none⟩) hb _).setCell (p := ⟨b, 5, none⟩) hb _

set_option maxRecDepth 100000 in
set_option maxHeartbeats 4000000 in
theorem rPlan_any (lb fb vb : Nat) (sa aa : Option Addr) (sc ac n : Nat) (t : List (List Int)) (fl : List Int) (wz w : World) (ht : tabB t = true) (hnl : t.length = n)
    (hL : Load w lb fb vb sa (2 * n) sc aa (tabArcs t).length ac fl (leftOf (supA n) (tabArcs t) fl)) (hA0 : Arcs wz aa (tabArcs t).length (tabArcs t)) (hB0 : Below wz.heap.size wz w) (hV : ∃ q, LInv (supA n) (tabArcs t) fl (leftOf (supA n) (tabArcs t) fl) q) (hF : Fits (supA n) (tabArcs t) fl) (hP : ∃ p, Pot (tabArcs t) fl p) :
    Calls Tryz.prog 66 #[.pointer (some ⟨lb, 0, none⟩), .int .i64 n] w fun e w' => ∃ (p : P6) (v : Value), e = .returned v ∧ OwnP w' w.heap.size v p ∧ planS t p 0 = true ∧ p = planOf t fl ∧ ApartP v ∧ Below w.heap.size w w' := by
  have h8 : n ≤ 8 := by rw [← hnl]; exact (tab_out ht).2.1
  have hW : NetW (supA n) (tabArcs t) := by rw [← hnl]; exact tab_wide ht
  have hmi := run_make_row' (P := Tryz.prog) 32 3 (.int .i64 0) 8 Tryz.underlying32 infoInt rfl .i64 .i64 n (by omega) (by omega)
  have h64 : (tabArcs t).length ≤ 64 := hW.arcs
  obtain ⟨q0, hV⟩ := hV
  have HV := hide hV
  have HNL := hide hnl
  have HTB := hide ht
  have HW := hide hW
  have HFI := hide hF
  have HP := hide hP
  have hlt0 := hL.lt
  have HL := hide hL
  have HA := hide hA0
  clear hL hA0 hV hF hP ht hnl hW
  obtain ⟨m, hm⟩ : ∃ m, (tabArcs t).length = m := ⟨_, rfl⟩
  have HMM := hide hm
  rw [hm] at h64 HL HA
  clear hm
  go_enter Tryz.func66, Tryz.ntmps66
  go_upto_region 1 with fail
  go_cut [5] (fun r wx => NewPlan w n r wx)
  case first =>
    go_region
    all_goals (go_wp2_with fail; go_meet)
    all_goals
      apply new_plan
      case hp => repeat first | (refine plan_row _ _ _ _ _ _ ?_; (simp; done)) | apply World.rowIs.alloc | apply World.rowIs.drew
      case hr => repeat first | (refine zplan_row _ _ ?_; (simp; done)) | apply World.rowIs.alloc | apply World.rowIs.drew
      case hk => repeat first | (refine made_ints _ _ _ ?_; (simp; done)) | apply World.rowIs.alloc | apply World.rowIs.drew
      case ho => repeat first | (refine made_ints _ _ _ ?_; (simp; done)) | apply World.rowIs.alloc | apply World.rowIs.drew
      case hc => repeat first | (refine made_ints _ _ _ ?_; (simp; done)) | apply World.rowIs.alloc | apply World.rowIs.drew
      case hl => omega
      case hne => omega
      case hb => exact below5 _ _ _ _ _ _
  case rest =>
  obtain ⟨pb, ka, ra, wa, rfl, hM⟩ := hcut
  clear hmi
  have HM0 := hide hM
  have hL1 := HL.out.grow (hM.be)
  have k1 := hL1.c1
  have hlo := hM.lo
  have hnee := hM.ne
  clear hM hL1
  go_wp2
  go_loopw [6, 7, 23] (fun nu ap i wr => ∃ k : Nat, k ≤ m ∧ i = .int .i64 k ∧ Hid (PlanM w wr n pb ka ra wa (costK (tabArcs t) fl k) (fun i => (colK (tabArcs t) fl n k).getD i 0) (fun _ => 0) (fun _ => 0))) (fun _ _ i _ => m - (intOf i).toNat)
  case atStart =>
    refine ⟨0, Nat.zero_le _, rfl, ?_⟩
    have h := HM0.out
    have e1 : costK (tabArcs t) fl 0 = 0 := rfl
    rw [e1]
    exact ⟨h.rr, h.rp, h.rk.congr (fun i hi => by simp [colK, List.getD, hi]), h.ro, h.rc, h.lo, h.ne, h.be⟩
  case round =>
    clear HM0 k1
    obtain ⟨k, hk, rfl, hM⟩ := hrel
    by_cases hlt : k < m
    · have hlt3 : (k : Int) < (m : Int) := by omega
      have hkl : k < (tabArcs t).length := by rw [HMM.out]; exact hlt
      obtain ⟨b, off, fr, tt, lo, cp, cst, rfl, hA, hbb, e0, e1, e2, e3, e4⟩ := (HA.out.below (hB0.trans (hM.out.be.mono hB0.size))).get hlt
      have hok := arcB_out (HW.out.arc k hkl)
      rw [hA, supA_len] at hok
      simp only [] at hok
      obtain ⟨i0, j0, hi0, hj0, hne0, ea0⟩ := tabArcs_get hkl
      have hfrn : fr < n := by
        rw [hA] at ea0
        have := congrArg A5.fr ea0
        simp only [arcA] at this
        have := HNL.out
        omega
      have htt : (n : Int) ≤ tt ∧ tt ≤ 16 := by
        rw [hA] at ea0
        have := congrArg A5.to ea0
        simp only [arcA] at this
        have := HNL.out
        omega
      clear ea0 hi0 hj0 hne0
      obtain ⟨fr, rfl⟩ := nat_of hok.1
      have hfr : fr < n := by omega
      have hal1 := Joins.below_alloc1 wr (.cells #[.int .i64 (fr : Int), .int .i64 tt, .int .i64 lo, .int .i64 cp, .int .i64 cst] 67)
      have hL2 := (HL.out.grow (hM.out.be)).grow hal1
      have k2 := hL2.c2
      have cfl := hL2.rf.cell hlt
      have hfm := HV.out.mild HW.out k hkl
      have hMX := hM.out.grow hal1
      obtain ⟨c0, c1, c2, c3, c4, c5⟩ := hMX.cells
      have ck := hMX.rk.cell hfr
      have fk := hMX.rk.frozen fr
      have hwlt := hM.out.be.size
      have hpl := hM.out.rp.lt
      have hkl2 := hM.out.rk.lt
      clear hal1
      have hcost : -3200 ≤ costK (tabArcs t) fl k ∧ costK (tabArcs t) fl k ≤ 3200 := by
        have key : ∀ q : Nat, q ≤ k → -(50 * (q : Int)) ≤ costK (tabArcs t) fl q ∧ costK (tabArcs t) fl q ≤ 50 * (q : Int) := by
          intro q
          induction q with
          | zero => intro _; simp [costK, sumTo]
          | succ q ih =>
            intro hq
            have i1 := ih (by omega)
            have i2 := cost_bdW HW.out q
            unfold costK at i1 ⊢
            simp only [sumTo]
            split <;> omega
        have := key k (Nat.le_refl _)
        omega
      have hst1 : costK (tabArcs t) fl (k + 1) = costK (tabArcs t) fl k + (if fl.getD k 0 ≠ 0 then cst else 0) := by
        unfold costK
        simp only [sumTo]
        rw [hA]
      have hst2 : colK (tabArcs t) fl n (k + 1) = if fl.getD k 0 ≠ 0 then (colK (tabArcs t) fl n k).set fr (tt - n) else colK (tabArcs t) fl n k := by
        simp only [colK]
        rw [hA]
        simp only [Int.toNat_natCast]
      have hcl := colK_len (tabArcs t) fl n k
      have HBX := hide hMX
      obtain ⟨x, hx⟩ : ∃ x, fl.getD k 0 = x := ⟨_, rfl⟩
      obtain ⟨C, hC⟩ : ∃ C, costK (tabArcs t) fl k = C := ⟨_, rfl⟩
      have HC := hide hC
      rw [hx] at hst1 hst2 cfl hfm
      rw [hC] at hst1 hcost c2 HBX hM
      clear hx hC hA hL2 hMX
      by_cases hx0 : x = 0
      · subst hx0
        rw [if_neg (by simp)] at hst1 hst2
        have HS1 := hide hst1
        have HS2 := hide hst2
        clear hst1 hst2 hM
        go_wp2
        go_roundw
        case rel =>
          refine ⟨k + 1, by omega, by go_num, ?_⟩
          rw [HS1.out, HS2.out, Int.add_zero]
          exact HBX.out
        case measure => simp [intOf]; omega
      · have hxb : (x != 0) = true := by simpa using hx0
        rw [if_pos hx0] at hst1 hst2
        have HS1 := hide hst1
        have HS2 := hide hst2
        have HCL := hide hcl
        have hMK := hM.out.setK fr (tt - n) (cols' := fun i => ((colK (tabArcs t) fl n k).set fr (tt - n)).getD i 0) (fun i hi => by
          simp only [List.getD, List.getElem?_set, HCL.out]
          by_cases e : fr = i
          · subst e; simp [hfr]
          · rw [if_neg e, if_neg (fun h => e h.symm)])
        have hMK2 := hMK.grow (Joins.below_alloc1 _ (.cells #[.int .i64 (fr : Int), .int .i64 tt, .int .i64 lo, .int .i64 cp, .int .i64 cst] 67))
        have d1 := hMK2.cells.2.2.1
        have fz := hMK2.rp.frozen 2
        have HX2 := hide ((hMK.setCost (C + cst)).grow (Joins.below_alloc1 _ (.cells #[.int .i64 (fr : Int), .int .i64 tt, .int .i64 lo, .int .i64 cp, .int .i64 cst] 67)))
        clear hMK hMK2
        clear hst1 hst2 hM hx0 hcl
        go_wp2
        go_roundw
        case rel =>
          refine ⟨k + 1, by omega, by go_num, ?_⟩
          rw [HS1.out, HS2.out]
          exact HX2.out
        case measure => simp [intOf]; omega
    · have hkn : k = m := by omega
      subst hkn
      have hL2 := HL.out.grow hM.out.be
      have hB2 : Below wz.heap.size wz wr := hB0.trans (hM.out.be.mono hB0.size)
      have cP : n0 (Calls Tryz.prog 93 #[.pointer (some ⟨lb, 0, none⟩)] wr fun e w' => ∃ cb cost, e = .returned (.slice (some ⟨cb, 0, none⟩) (2 * n) (2 * n)) ∧ wr.heap.size ≤ cb ∧ w'.rowIs cb 3 (2 * n) (fun i => .int .i64 (cost i)) ∧ Pot (tabArcs t) fl cost ∧ (∀ v, v < 2 * n → -102400 ≤ cost v ∧ cost v ≤ 102400) ∧ Below wr.heap.size wr w' ∧ cost = (cheapF (tabArcs t) fl (2 * n) (fun _ => true)).cost) :=
        rPots_any lb fb vb sa (aa) (2 * n) sc k ac (supA n) fl (tabArcs t) wz wr HW.out (supA_len n) hL2 HA.out hB2 (HV.out.mild HW.out) (fun s hs => (HV.out.room HW.out s hs).1) HP.out
      clear hL2
      go_wp2_with fail
      refine Calls.mono cP.out ?_
      rintro e w2 ⟨cb, cost, rfl, hcb, hrc, hPC, hbd, hb2, hYC⟩
      have HYC := hide hYC
      clear hYC
      clear cP
      have hM2 := hM.out.grow hb2
      have q3 := hM2.cells.2.2.2.1
      have HM2 := hide hM2
      have HRC := hide hrc
      have HPC := hide hPC
      have HBD := hide hbd
      have hcbl := hM.out.rp.lt
      have hcb2 := hM.out.ro.lt
      have hcb3 := hM.out.rc.lt
      clear hM2 hM hrc hPC hbd
      go_wp2
      go_loopw [9, 57] (fun ro i wq => ∃ q : Nat, q ≤ n ∧ i = .int .i64 q ∧ Hid (PlanM w wq n pb ka ra wa (costK (tabArcs t) fl k) (fun i => (colK (tabArcs t) fl n k).getD i 0) (fun i => if i < q then -cost i else 0) (fun i => if i < q then cost (n + i) else 0)) ∧ wq.rowIs cb 3 (2 * n) (fun i => .int .i64 (cost i))) (fun _ i _ => n - (intOf i).toNat)
      case atStart => exact ⟨0, Nat.zero_le _, rfl, HM2.out, HRC.out⟩
      case round =>
        clear HM2 HRC q3
        obtain ⟨q, hq, rfl, hM, hRC⟩ := hrel
        by_cases hlt2 : q < n
        · have hlt4 : (q : Int) < (n : Int) := by omega
          obtain ⟨n1, n2, n3, n4, n5, n6⟩ := hM.out.ne
          have hM1 := hM.out.setR q (-cost q) (rws' := fun i => if i < q + 1 then -cost i else 0) (fun i hi => by
            by_cases e : i = q
            · subst e; rw [if_pos rfl, if_pos (by omega)]
            · rw [if_neg e]
              by_cases e2 : i < q
              · rw [if_pos e2, if_pos (by omega)]
              · rw [if_neg e2, if_neg (by omega)])
          have hM1d := hM1.grow ((Below.refl _ _).drew)
          have hM2 := hM1d.setC q (cost (n + q)) (cws' := fun i => if i < q + 1 then cost (n + i) else 0) (fun i hi => by
            by_cases e : i = q
            · subst e; rw [if_pos rfl, if_pos (by omega)]
            · rw [if_neg e]
              by_cases e2 : i < q
              · rw [if_pos e2, if_pos (by omega)]
              · rw [if_neg e2, if_neg (by omega)])
          have p3 := hM.out.cells.2.2.2.1
          have co := hM.out.ro.cell hlt2
          have fo := hM.out.ro.frozen q
          have cc := hRC.cell (i := q) (by omega)
          have hR1 := (hRC.setOther (a := ⟨ra, q, none⟩) (by show cb ≠ ra; omega) (.int .i64 (-cost q))).drew
          have hR2 := (hR1.setOther (a := ⟨wa, q, none⟩) (by show cb ≠ wa; omega) (.int .i64 (cost (n + q)))).drew
          have cd := hR1.cell (i := n + q) (by omega)
          have p4 := hM1d.cells.2.2.2.2.1
          have cw := hM1d.rc.cell hlt2
          have fw := hM1d.rc.frozen q
          have hb1 := HBD.out q (by omega)
          have hb2' := HBD.out (n + q) (by omega)
          have HM2 := hide (hM2.grow ((Below.refl _ _).drew))
          have HR2 := hide hR2
          clear hM hM1 hM1d hM2 hRC hR1 hR2
          generalize cost q = y1 at *
          generalize cost (n + q) = y2 at *
          go_wp2_with fail
          go_region
          all_goals
            go_wp2_with fail
            go_region
            all_goals
              go_wp2
              go_roundw
              case rel => exact ⟨q + 1, by omega, by go_num, HM2.out, HR2.out⟩
              case measure => simp [intOf]; omega
        · have hqn : q = n := by omega
          subst hqn
          have hM1 := hM.out
          obtain ⟨l1, l2, l3, l4⟩ := hM1.lo
          obtain ⟨c0, c1, c2, c3, c4, c5⟩ := hM1.cells
          have r0 := hM1.rr.cell (i := 0) (by omega)
          have r1 := hM1.rr.cell (i := 1) (by omega)
          have r2 := hM1.rr.cell (i := 2) (by omega)
          have r3 := hM1.rr.cell (i := 3) (by omega)
          have r4 := hM1.rr.cell (i := 4) (by omega)
          have r5 := hM1.rr.cell (i := 5) (by omega)
          have f0 := hM1.rr.frozen 0
          have f1 := hM1.rr.frozen 1
          have f2 := hM1.rr.frozen 2
          have f3 := hM1.rr.frozen 3
          have f4 := hM1.rr.frozen 4
          have f5 := hM1.rr.frozen 5
          have hcl := colK_len (tabArcs t) fl q k
          have hplan := tab_plan HTB.out (by rw [HNL.out]; exact HFI.out) HPC.out (by rw [HNL.out]; exact HBD.out) (fun e he => by
            have h1 := HV.out.bd e he
            have h2 : 0 ≤ q0 := by rw [HV.out.go]; exact pos_nonneg _ _
            omega)
          rw [HNL.out, HMM.out] at hplan
          have HPL := hide hplan
          have HPO : Hid ((⟨true, colK (tabArcs t) fl q k, costK (tabArcs t) fl k, rwL cost q, cwL cost q, []⟩ : P6) = planOf t fl) := by
            show _ = _
            unfold planOf
            rw [HNL.out, HMM.out, ← HYC.out]
          have hnx := hM1.ne
          have hk1 := row_own (base := w.heap.size) (l := colK (tabArcs t) fl q k) (row_put6 hM1.rk (show ka ≠ w.heap.size by omega) (.bool true) (.slice (some ⟨ka, 0, none⟩) q q) (.int .i64 (costK (tabArcs t) fl k)) (.slice (some ⟨ra, 0, none⟩) q q) (.slice (some ⟨wa, 0, none⟩) q q) (.slice none 0 0)) hcl (by omega) (by omega)
          have hk2 := row_own (base := w.heap.size) (l := rwL cost q) ((row_put6 hM1.ro (show ra ≠ w.heap.size by omega) (.bool true) (.slice (some ⟨ka, 0, none⟩) q q) (.int .i64 (costK (tabArcs t) fl k)) (.slice (some ⟨ra, 0, none⟩) q q) (.slice (some ⟨wa, 0, none⟩) q q) (.slice none 0 0)).congr (fun i hi => by rw [rwL_at _ hi, if_pos hi])) (rwL_len _ _) (by omega) (by omega)
          have hk3 := row_own (base := w.heap.size) (l := cwL cost q) ((row_put6 hM1.rc (show wa ≠ w.heap.size by omega) (.bool true) (.slice (some ⟨ka, 0, none⟩) q q) (.int .i64 (costK (tabArcs t) fl k)) (.slice (some ⟨ra, 0, none⟩) q q) (.slice (some ⟨wa, 0, none⟩) q q) (.slice none 0 0)).congr (fun i hi => by rw [cwL_at _ hi, if_pos hi])) (cwL_len _ _) (by omega) (by omega)
          have HOP : Hid (OwnP (put6 wr w.heap.size (.bool true) (.slice (some ⟨ka, 0, none⟩) q q) (.int .i64 (costK (tabArcs t) fl k)) (.slice (some ⟨ra, 0, none⟩) q q) (.slice (some ⟨wa, 0, none⟩) q q) (.slice none 0 0)) w.heap.size (.agg #[.bool true, .slice (some ⟨ka, 0, none⟩) q q, .int .i64 (costK (tabArcs t) fl k), .slice (some ⟨ra, 0, none⟩) q q, .slice (some ⟨wa, 0, none⟩) q q, .slice none 0 0]) ⟨true, colK (tabArcs t) fl q k, costK (tabArcs t) fl k, rwL cost q, cwL cost q, []⟩) := by
            obtain ⟨oa, oc, e1, o1⟩ := hk1
            obtain ⟨ob, od, e2, o2⟩ := hk2
            obtain ⟨og, oh, e3, o3⟩ := hk3
            refine ⟨oa, oc, ob, od, og, oh, none, 0, ?_, o1, o2, o3, World.ownsRow_nil _ _ _ _⟩
            rw [← e1, ← e2, ← e3]
            rfl
          have HZ := hide (put6_cells hM1.rr (.bool true) (.slice (some ⟨ka, 0, none⟩) q q) (.int .i64 (costK (tabArcs t) fl k)) (.slice (some ⟨ra, 0, none⟩) q q) (.slice (some ⟨wa, 0, none⟩) q q) (.slice none 0 0))
          have HBZ := hide (below_put6 hM1.be (Nat.le_refl w.heap.size) (.bool true) (.slice (some ⟨ka, 0, none⟩) q q) (.int .i64 (costK (tabArcs t) fl k)) (.slice (some ⟨ra, 0, none⟩) q q) (.slice (some ⟨wa, 0, none⟩) q q) (.slice none 0 0))
          clear hM hM1 hRC hcl hplan hk1 hk2 hk3
          unfold zPlan at r0 r1 r2 r3 r4 r5
          simp only [] at r0 r1 r2 r3 r4 r5
          go_wp2
          obtain ⟨z0, z1, z2, z3, z4, z5⟩ := HZ.out
          have hbz := HBZ.out
          unfold put6 at z0 z1 z2 z3 z4 z5 hbz
          refine bodyPost_ret (v := .agg #[.bool true, .slice (some ⟨ka, 0, none⟩) q q, .int .i64 (costK (tabArcs t) fl k), .slice (some ⟨ra, 0, none⟩) q q, .slice (some ⟨wa, 0, none⟩) q q, .slice none 0 0]) (by simp [results, Tryz.results66, go_sem, z0, z1, z2, z3, z4, z5]) rfl ⟨_, _, rfl, HOP.out, HPL.out, HPO.out, ⟨_, _, _, _, _, _, rfl, .inr (by simp [Value.ownBlock]; omega), .inr (by simp [Value.ownBlock]; omega), Apt.nil2 _, .inr (by simp [Value.ownBlock]; omega), Apt.nil2 _, Apt.nil2 _⟩, hbz⟩
end Go.Proofs.YtnbccoflcoaoaaaGreat

namespace Go.Proofs.YtnbccoflcoaoaaaGreat
open Go.RowKit Go.Deep
set_option linter.unusedSimpArgs false
set_option linter.unusedVariables false

/-- The result's frame, still empty. -/
structure FrP (w wr : World) : Prop where
  rr : wr.rowIs w.heap.size 59 6 zPlan
  be : Below w.heap.size w wr
  sz : w.heap.size + 1 ≤ wr.heap.size
theorem FrP.start (w : World) : FrP w (w.alloc (.cells #[.bool false, .slice none 0 0, .int .i64 0, .slice none 0 0, .slice none 0 0, .slice none 0 0] 59)) :=
  ⟨zplan_row w _ rfl, (Below.refl _ _).alloc (Nat.le_refl _) _, by simp⟩
theorem FrP.grow {w wr w' : World} (h : FrP w wr) {K : Nat} (hK : w.heap.size + 1 ≤ K) (hb : Below K wr w') : FrP w w' :=
  ⟨below_row hb h.rr (by omega), h.be.trans (hb.mono (by omega)), Nat.le_trans h.sz hb.size⟩
theorem FrP.cells {w wr : World} (h : FrP w wr) : (wr.cell? ⟨w.heap.size, 0, none⟩ = some (.bool false) ∧ wr.cell? ⟨w.heap.size, 1, none⟩ = some (.slice none 0 0) ∧ wr.cell? ⟨w.heap.size, 2, none⟩ = some (.int .i64 0) ∧ wr.cell? ⟨w.heap.size, 3, none⟩ = some (.slice none 0 0) ∧ wr.cell? ⟨w.heap.size, 4, none⟩ = some (.slice none 0 0) ∧ wr.cell? ⟨w.heap.size, 5, none⟩ = some (.slice none 0 0)) ∧ ∀ o, wr.frozen? ⟨w.heap.size, o, none⟩ = false :=
  ⟨⟨h.rr.cell (i := 0) (by omega), h.rr.cell (i := 1) (by omega), h.rr.cell (i := 2) (by omega), h.rr.cell (i := 3) (by omega), h.rr.cell (i := 4) (by omega), h.rr.cell (i := 5) (by omega)⟩, fun o => h.rr.frozen o⟩
theorem OwnP.put6 {w : World} {base : Nat} {v : Value} {p : P6} (h : OwnP w base v p) {b : Nat} (hb : b < base) (v0 v1 v2 v3 v4 v5 : Value) : OwnP (put6 w b v0 v1 v2 v3 v4 v5) base v p :=
  (((((h.setBelow hb _).setBelow hb _).setBelow hb _).setBelow hb _).setBelow hb _).setBelow hb _
theorem plan_bad {t : List (List Int)} (h : tabB t = false) : planS t ⟨false, [], 0, [], [], []⟩ 9 = true := by
  unfold planS
  rw [if_pos h]
  rfl

set_option maxRecDepth 100000 in
set_option maxHeartbeats 4000000 in
theorem rAssign_any (ta : Option Addr) (tn tc : Nat) (t : List (List Int)) (w : World) (hT : Tab w ta tn t) :
    Calls Tryz.prog 41 #[.slice ta tn tc] w fun e w' => ∃ (p : P6) (err : Int) (v : Value), e = .returned (.tuple #[v, .int .i64 err]) ∧ OwnP w' w.heap.size v p ∧ planS t p err = true ∧ AssignRel t p err ∧ ApartP v ∧ Below w.heap.size w w' := by
  obtain ⟨W0, hW0⟩ : ∃ W0, w.alloc (.cells #[.bool false, .slice none 0 0, .int .i64 0, .slice none 0 0, .slice none 0 0, .slice none 0 0] 59) = W0 := ⟨_, rfl⟩
  have hF0 := FrP.start w
  rw [hW0] at hF0
  have hz0 : W0.heap.size = w.heap.size + 1 := by rw [← hW0]; simp
  have HT0 := hide (hT.below hF0.be)
  have hlen := hide hT.len
  have cM : n0 (Calls Tryz.prog 61 #[.slice ta tn tc] W0 fun e w' => e = .returned (.bool (tabB t)) ∧ w' = W0) := rTabMay_any ta tn tc t W0 HT0.out
  have HW0 := hide hW0
  have HF0 := hide hF0
  have HZ0 := hide hz0
  have hsm := hT.small
  clear hT hW0 hF0 hz0
  go_enter Tryz.func41, Tryz.ntmps41
  go_wp2_with fail
  rw [HW0.out]
  refine Calls.mono cM.out ?_
  rintro e w1 ⟨rfl, rfl⟩
  clear cM HW0
  cases htb : tabB t with
  | false =>
    have HPL := hide (plan_bad htb)
    have HREL : Hid (AssignRel t ⟨false, [], 0, [], [], []⟩ 9) := .inl ⟨htb, rfl, rfl⟩
    obtain ⟨⟨s0, s1, s2, s3, s4, s5⟩, sf⟩ := HF0.out.cells
    have sf0 := sf 0
    have sf1 := sf 1
    have sf2 := sf 2
    have sf3 := sf 3
    have sf4 := sf 4
    have sf5 := sf 5
    have HZ := hide (put6_cells HF0.out.rr (.bool false) (.slice none 0 0) (.int .i64 0) (.slice none 0 0) (.slice none 0 0) (.slice none 0 0))
    have HBZ := hide (below_put6 HF0.out.be (Nat.le_refl w.heap.size) (.bool false) (.slice none 0 0) (.int .i64 0) (.slice none 0 0) (.slice none 0 0) (.slice none 0 0))
    have HOP : Hid (OwnP (put6 w1 w.heap.size (.bool false) (.slice none 0 0) (.int .i64 0) (.slice none 0 0) (.slice none 0 0) (.slice none 0 0)) w.heap.size (.agg #[.bool false, .slice none 0 0, .int .i64 0, .slice none 0 0, .slice none 0 0, .slice none 0 0]) ⟨false, [], 0, [], [], []⟩) :=
      ⟨none, 0, none, 0, none, 0, none, 0, rfl, World.ownsRow_nil _ _ _ _, World.ownsRow_nil _ _ _ _, World.ownsRow_nil _ _ _ _, World.ownsRow_nil _ _ _ _⟩
    clear htb sf
    go_wp2
    obtain ⟨z0, z1, z2, z3, z4, z5⟩ := HZ.out
    have hbz := HBZ.out
    unfold put6 at z0 z1 z2 z3 z4 z5 hbz
    refine bodyPost_ret (v := .tuple #[.agg #[.bool false, .slice none 0 0, .int .i64 0, .slice none 0 0, .slice none 0 0, .slice none 0 0], .int .i64 9]) (by simp [results, Tryz.results41, go_sem, z0, z1, z2, z3, z4, z5]) rfl ⟨_, 9, _, rfl, HOP.out, HPL.out, HREL.out, ⟨_, _, _, _, _, _, rfl, Apt.nil _, Apt.nil _, Apt.nil _, Apt.nil _, Apt.nil _, Apt.nil _⟩, hbz⟩
  | true =>
    have HTB := hide htb
    have hw : NetW (supA tn) (tabArcs t) := by have := tab_wide htb; rw [hlen.out] at this; exact this
    have h8 : tn ≤ 8 := by rw [← hlen.out]; exact (tab_out htb).2.1
    have h64 : (tabArcs t).length ≤ 64 := hw.arcs
    have HW := hide hw
    have cN : n0 (Calls Tryz.prog 63 #[.slice ta tn tc] w1 fun e w' => ∃ oa oc, e = .returned (.agg #[.slice (some ⟨w1.heap.size + 1, 0, none⟩) (2 * tn) (2 * tn), .slice oa (tabArcs t).length oc]) ∧ Arcs w' oa (tabArcs t).length (tabArcs t) ∧ Ints w' (some ⟨w1.heap.size + 1, 0, none⟩) (2 * tn) (supA tn) ∧ Below w1.heap.size w1 w') :=
      rNetOf_any ta tn tc t w1 htb HT0.out
    clear htb hw
    go_wp2_with fail
    refine Calls.mono cN.out ?_
    rintro e w2 ⟨oa, oc, rfl, hA2, hI2, hb2⟩
    clear cN
    have HA2 := hide hA2
    have cA : n0 (Calls Tryz.prog 62 #[.agg #[.slice (some ⟨w1.heap.size + 1, 0, none⟩) (2 * tn) (2 * tn), .slice oa (tabArcs t).length oc]] w2 fun e w' => ∃ lb fb vb, e = .returned (.pointer (some ⟨lb, 0, none⟩)) ∧ Load w' lb fb vb (some ⟨w1.heap.size + 1, 0, none⟩) (2 * tn) (2 * tn) oa (tabArcs t).length oc (lowsL (tabArcs t)) (leftOf (supA tn) (tabArcs t) (lowsL (tabArcs t))) ∧ (w2.heap.size ≤ lb ∧ w2.heap.size ≤ fb ∧ w2.heap.size ≤ vb) ∧ Below w2.heap.size w2 w') :=
      rAtLows_any (some ⟨w1.heap.size + 1, 0, none⟩) oa (2 * tn) (2 * tn) (tabArcs t).length oc (supA tn) (tabArcs t) w2 HW.out hI2 hA2
    clear hI2 hA2
    go_wp2_with fail
    refine Calls.mono cA.out ?_
    rintro e w3 ⟨lb, fb, vb, rfl, hLd, hge, hb3⟩
    clear cA
    have cT : n0 (Calls Tryz.prog 64 #[.pointer (some ⟨lb, 0, none⟩)] w3 fun e w' => ∃ v, e = .returned v ∧ Settled (supA tn) (tabArcs t) (lowsL (tabArcs t)) (leftOf (supA tn) (tabArcs t) (lowsL (tabArcs t))) lb fb vb (some ⟨w1.heap.size + 1, 0, none⟩) (2 * tn) (2 * tn) oa (tabArcs t).length oc w2.heap.size v w' ∧ Below w2.heap.size w2 w') :=
      rSettle_any _ _ lb fb vb (some ⟨w1.heap.size + 1, 0, none⟩) oa (2 * tn) (2 * tn) (tabArcs t).length oc (supA tn) (lowsL (tabArcs t)) (tabArcs t) w2 w3 HW.out (supA_len _) (supA_sum _) (by have := lows_inv HW.out; rw [supA_len] at this; exact this) ⟨_, tab_pot HTB.out⟩ hLd hge HA2.out hb3 (Nearer.refl _ _) ⟨0, rfl⟩
    clear hLd hb3
    go_wp2_with fail
    refine Calls.mono cT.out ?_
    rintro e w4 ⟨v, rfl, ⟨fl, hL, hfl, hans⟩, hb4⟩
    clear cT
    have hB4 : Below w1.heap.size w1 w4 := hb2.trans (hb4.mono hb2.size)
    have hz := HZ0.out
    rcases hans with ⟨rfl, hfit, hV, hP, hSR⟩ | ⟨cut, hO, hc0, hc1, hr, hv, seen, hcut, hSt, hSR, _⟩
    · have cP : n0 (Calls Tryz.prog 66 #[.pointer (some ⟨lb, 0, none⟩), .int .i64 tn] w4 fun e w' => ∃ (p : P6) (v : Value), e = .returned v ∧ OwnP w' w4.heap.size v p ∧ planS t p 0 = true ∧ p = planOf t fl ∧ ApartP v ∧ Below w4.heap.size w4 w') :=
        rPlan_any lb fb vb (some ⟨w1.heap.size + 1, 0, none⟩) oa (2 * tn) oc tn t fl w2 w4 HTB.out hlen.out hL HA2.out hb4 hV hfit hP
      clear hL hfit hV hP
      go_wp2_with fail
      refine Calls.mono cP.out ?_
      rintro e w5 ⟨p, v, rfl, hOP, hpl, hpo, hap, hb5⟩
      clear cP
      have HREL : Hid (AssignRel t p 0) := .inr ⟨HTB.out, rfl, fl, none, by rw [hlen.out]; exact hSR, .inl ⟨rfl, hpo⟩⟩
      have HAP := hide hap
      clear hSR hpo hap
      have hB5 : Below w1.heap.size w1 w5 := hB4.trans (hb5.mono hB4.size)
      have hF5 := HF0.out.grow (by omega) hB5
      obtain ⟨⟨s0, s1, s2, s3, s4, s5⟩, sf⟩ := hF5.cells
      have sf0 := sf 0
      have sf1 := sf 1
      have sf2 := sf 2
      have sf3 := sf 3
      have sf4 := sf 4
      have sf5 := sf 5
      have hOP0 := hOP
      obtain ⟨ca, cc, ra, rc, wa, wc, sa, sc, rfl, -⟩ := hOP0
      have hb4s := hB4.size
      have HOP := hide ((hOP.put6 (b := w.heap.size) (by omega) (.bool p.fits) (.slice ca p.cols.length cc) (.int .i64 p.cost) (.slice ra p.rw.length rc) (.slice wa p.cw.length wc) (.slice sa p.short.length sc)).mono (base' := w.heap.size) (by omega))
      have HZ := hide (put6_cells hF5.rr (.bool p.fits) (.slice ca p.cols.length cc) (.int .i64 p.cost) (.slice ra p.rw.length rc) (.slice wa p.cw.length wc) (.slice sa p.short.length sc))
      have HBZ := hide (below_put6 hF5.be (Nat.le_refl w.heap.size) (.bool p.fits) (.slice ca p.cols.length cc) (.int .i64 p.cost) (.slice ra p.rw.length rc) (.slice wa p.cw.length wc) (.slice sa p.short.length sc))
      have HPL := hide hpl
      clear sf hF5 hOP hpl
      go_wp2
      obtain ⟨z0, z1, z2, z3, z4, z5⟩ := HZ.out
      have hbz := HBZ.out
      unfold put6 at z0 z1 z2 z3 z4 z5 hbz
      refine bodyPost_ret (v := .tuple #[.agg #[.bool p.fits, .slice ca p.cols.length cc, .int .i64 p.cost, .slice ra p.rw.length rc, .slice wa p.cw.length wc, .slice sa p.short.length sc], .int .i64 0]) (by simp [results, Tryz.results41, go_sem, z0, z1, z2, z3, z4, z5]) rfl ⟨p, 0, _, rfl, HOP.out, HPL.out, HREL.out, HAP.out, hbz⟩
    · rw [supA_len] at hc1 hcut
      have hpl := tab_stuck HTB.out (fl := fl) (seen := seen) (lf0 := leftOf (supA tn) (tabArcs t) (lowsL (tabArcs t))) (by rw [hlen.out]; exact hSt)
      rw [hlen.out] at hpl
      have HPL := hide hpl
      have hfil := seenTo_filter seen tn tn
      rw [show tn + tn = 2 * tn from by omega, ← hcut] at hfil
      have HFL := hide hfil
      have HREL : Hid (AssignRel t ⟨false, [], 0, [], [], seenTo seen tn⟩ 0) := .inr ⟨HTB.out, rfl, fl, some cut, by rw [hlen.out]; exact hSR, .inr ⟨cut, rfl, by rw [hlen.out, hfil]⟩⟩
      clear hSR
      obtain ⟨ua, uc, rfl, hown⟩ := hO
      have hcI : Ints w4 ua cut.length cut := own_ints hown (by omega) (fun x hx => by
        obtain ⟨i, hi, rfl⟩ := mem_of_getD 0 cut x hx
        have := of_decide_eq_true (of_all hr i hi)
        rw [supA_len] at this
        omega)
      have cR : n0 (Calls Tryz.prog 65 #[.slice ua cut.length uc, .int .i64 tn] w4 fun e w' => ∃ v, e = .returned v ∧ OwnL w' w4.heap.size v (cut.filter (fun x => decide (x < (tn : Int)))) ∧ Below w4.heap.size w4 w') :=
        rRowsIn_any ua cut.length uc tn cut w4 hcI (by omega) h8
      have hcb : ((cut.length : Int) != 0) = true := by simp only [bne_iff_ne, ne_eq]; omega
      clear hpl hfil hown hcI hr hv hSt hcut hL
      go_wp2_with fail
      refine Calls.mono cR.out ?_
      rintro e w5 ⟨v, rfl, hO5, hb5⟩
      clear cR
      rw [HFL.out] at hO5
      obtain ⟨sa, sc, rfl, o5⟩ := hO5
      have hB5 : Below w1.heap.size w1 w5 := hB4.trans (hb5.mono hB4.size)
      have hF5 := HF0.out.grow (by omega) hB5
      obtain ⟨⟨s0, s1, s2, s3, s4, s5⟩, sf⟩ := hF5.cells
      have sf0 := sf 0
      have sf1 := sf 1
      have sf2 := sf 2
      have sf3 := sf 3
      have sf4 := sf 4
      have sf5 := sf 5
      have hb4s := hB4.size
      obtain ⟨S, hS⟩ : ∃ S, seenTo seen tn = S := ⟨_, rfl⟩
      rw [hS] at o5 HPL HREL ⊢
      clear hS
      have hOP : OwnP w5 w4.heap.size (.agg #[.bool false, .slice none 0 0, .int .i64 0, .slice none 0 0, .slice none 0 0, .slice sa S.length sc]) ⟨false, [], 0, [], [], S⟩ :=
        ⟨none, 0, none, 0, none, 0, sa, sc, rfl, World.ownsRow_nil _ _ _ _, World.ownsRow_nil _ _ _ _, World.ownsRow_nil _ _ _ _, o5⟩
      have HOP := hide ((hOP.put6 (b := w.heap.size) (by omega) (.bool false) (.slice none 0 0) (.int .i64 0) (.slice none 0 0) (.slice none 0 0) (.slice sa S.length sc)).mono (base' := w.heap.size) (by omega))
      have HZ := hide (put6_cells hF5.rr (.bool false) (.slice none 0 0) (.int .i64 0) (.slice none 0 0) (.slice none 0 0) (.slice sa S.length sc))
      have HBZ := hide (below_put6 hF5.be (Nat.le_refl w.heap.size) (.bool false) (.slice none 0 0) (.int .i64 0) (.slice none 0 0) (.slice none 0 0) (.slice sa S.length sc))
      clear sf hF5 hOP o5
      go_wp2
      obtain ⟨z0, z1, z2, z3, z4, z5⟩ := HZ.out
      have hbz := HBZ.out
      unfold put6 at z0 z1 z2 z3 z4 z5 hbz
      refine bodyPost_ret (v := .tuple #[.agg #[.bool false, .slice none 0 0, .int .i64 0, .slice none 0 0, .slice none 0 0, .slice sa S.length sc], .int .i64 0]) (by simp [results, Tryz.results41, go_sem, z0, z1, z2, z3, z4, z5]) rfl ⟨_, 0, _, rfl, HOP.out, HPL.out, HREL.out, ⟨_, _, _, _, _, _, rfl, Apt.nil _, Apt.nil _, Apt.nil _, Apt.nil _, Apt.nil _, Apt.nil _⟩, hbz⟩

/-- ASSIGN's CONTRACT, as All wants it. -/
def AssignD : Prop := ∀ (ta : Option Addr) (tn tc : Nat) (t : List (List Int)) (w : World), Tab w ta tn t →
  Calls Tryz.prog 21 #[.slice ta tn tc] w fun e w' => ∃ (p : P6) (err : Int) (v : Value), e = .returned (.tuple #[v, .int .i64 err]) ∧ OwnP w' w.heap.size v p ∧ planS t p err = true ∧ AssignRel t p err ∧ ApartP v ∧ Below w.heap.size w w'
set_option maxHeartbeats 1000000 in
theorem assign_all : AssignD := by
  intro ta tn tc t w hT
  obtain ⟨W0, hW0⟩ : ∃ W0, w.alloc (.cells #[.bool false, .slice none 0 0, .int .i64 0, .slice none 0 0, .slice none 0 0, .slice none 0 0] 59) = W0 := ⟨_, rfl⟩
  have hF0 := FrP.start w
  rw [hW0] at hF0
  have hz0 : W0.heap.size = w.heap.size + 1 := by rw [← hW0]; simp
  have cA : n0 (Calls Tryz.prog 41 #[.slice ta tn tc] W0 fun e w' => ∃ (p : P6) (err : Int) (v : Value), e = .returned (.tuple #[v, .int .i64 err]) ∧ OwnP w' W0.heap.size v p ∧ planS t p err = true ∧ AssignRel t p err ∧ ApartP v ∧ Below W0.heap.size W0 w') :=
    rAssign_any ta tn tc t W0 (hT.below hF0.be)
  have HW0 := hide hW0
  have HF0 := hide hF0
  have HZ0 := hide hz0
  clear hT hW0 hF0 hz0
  go_enter Tryz.func21, Tryz.ntmps21
  go_wp2_with fail
  rw [HW0.out]
  refine Calls.mono cA.out ?_
  rintro e w1 ⟨p, err, v, rfl, hOP, hpl, hrel, hap, hb1⟩
  have HREL := hide hrel
  have HAP := hide hap
  clear hrel hap
  clear cA HW0
  have hz := HZ0.out
  have hF1 := HF0.out.grow (by omega) hb1
  obtain ⟨⟨s0, s1, s2, s3, s4, s5⟩, sf⟩ := hF1.cells
  have sf0 := sf 0
  have sf1 := sf 1
  have sf2 := sf 2
  have sf3 := sf 3
  have sf4 := sf 4
  have sf5 := sf 5
  have hOP0 := hOP
  obtain ⟨ca, cc, ra, rc, wa, wc, sa, sc, rfl, -⟩ := hOP0
  have HOP := hide ((hOP.put6 (b := w.heap.size) (by omega) (.bool p.fits) (.slice ca p.cols.length cc) (.int .i64 p.cost) (.slice ra p.rw.length rc) (.slice wa p.cw.length wc) (.slice sa p.short.length sc)).mono (base' := w.heap.size) (by omega))
  have HZ := hide (put6_cells hF1.rr (.bool p.fits) (.slice ca p.cols.length cc) (.int .i64 p.cost) (.slice ra p.rw.length rc) (.slice wa p.cw.length wc) (.slice sa p.short.length sc))
  have HBZ := hide (below_put6 hF1.be (Nat.le_refl w.heap.size) (.bool p.fits) (.slice ca p.cols.length cc) (.int .i64 p.cost) (.slice ra p.rw.length rc) (.slice wa p.cw.length wc) (.slice sa p.short.length sc))
  have HPL := hide hpl
  clear sf hF1 hOP hpl
  go_wp2
  obtain ⟨z0, z1, z2, z3, z4, z5⟩ := HZ.out
  have hbz := HBZ.out
  unfold put6 at z0 z1 z2 z3 z4 z5 hbz
  refine bodyPost_ret (v := .tuple #[.agg #[.bool p.fits, .slice ca p.cols.length cc, .int .i64 p.cost, .slice ra p.rw.length rc, .slice wa p.cw.length wc, .slice sa p.short.length sc], .int .i64 err]) (by simp [results, Tryz.results21, go_sem, z0, z1, z2, z3, z4, z5]) rfl ⟨p, err, _, rfl, HOP.out, HPL.out, HREL.out, HAP.out, hbz⟩
theorem assign_any : AssignC := fun ta tn tc t w hT _ =>
  (assign_all ta tn tc t w hT).mono fun e w' ⟨p, err, v, h0, h1, h2, _, _, h5⟩ => ⟨p, err, v, h0, h1, h2, h5⟩
end Go.Proofs.YtnbccoflcoaoaaaGreat
