import Derived.Test.YtnbccoflcoaoaaaGreatGSnd
namespace Go.Proofs.YtnbccoflcoaoaaaGreat
open Go.RowKit
set_option linter.unusedSimpArgs false
set_option linter.unusedVariables false

/-! ### cheapest ways, round by round -/
def priceOf (es : List A5) (s : St) : Int := if s.back = true then -(es.getD s.arc zA).cost else (es.getD s.arc zA).cost
def St.srcN (es : List A5) (s : St) : Nat := (s.src es).toNat
def St.dstN (es : List A5) (s : St) : Nat := (s.dst es).toNat
theorem price_bd {xs : List Int} {es : List A5} (hn : NetW xs es) (s : St) : -50 ≤ priceOf es s ∧ priceOf es s ≤ 50 := by
  have := cost_bdW hn s.arc
  unfold priceOf
  split <;> omega
theorem st_ends {xs : List Int} {es : List A5} (hn : NetW xs es) {s : St} (hs : s.arc < es.length) : s.src es = (s.srcN es : Int) ∧ s.dst es = (s.dstN es : Int) ∧ s.srcN es < xs.length ∧ s.dstN es < xs.length := by
  have e := hn.ends s.arc hs
  unfold St.srcN St.dstN St.src St.dst
  split <;> omega

/-- A step that makes no way cheaper. -/
def Sat (es : List A5) (seen : Nat → Bool) (cost : Nat → Int) (s : St) : Prop := seen (s.dstN es) = true ∧ cost (s.dstN es) ≤ cost (s.srcN es) + priceOf es s

/-- What is known of the ways, in round r; 'done': the steps that this round has looked at. T: when the way to a node was found; R: in which round. -/
structure WInv (es : List A5) (fl : List Int) (n : Nat) (S seen : Nat → Bool) (cost : Nat → Int) (last : Nat → St) (T R : Nat → Nat) (c r : Nat) (done : St → Prop) : Prop where
  start : ∀ v, v < n → S v = true → seen v = true
  root : ∀ v, v < n → seen v = true → T v = 0 → S v = true
  way : ∀ v, v < n → T v ≠ 0 → seen v = true ∧ (last v).arc < es.length ∧ (last v).dstN es = v ∧ 0 < roomOf es fl (last v) ∧ (last v).srcN es < n ∧ seen ((last v).srcN es) = true ∧
    cost ((last v).srcN es) + priceOf es (last v) + (if T ((last v).srcN es) < T v then 0 else 1) ≤ cost v ∧ R v ≤ R ((last v).srcN es) + 1
  time : ∀ v, v < n → T v ≤ c
  rnd : ∀ v, v < n → R v ≤ r ∧ (T v = 0 → R v = 0) ∧ (R v = 0 → T v = 0)
  bd : ∀ v, v < n → -(50 * (c : Int)) ≤ cost v ∧ cost v ≤ 50 * (c : Int)
  arcs : ∀ v, v < n → (last v).arc ≤ 64
  sat : ∀ s : St, s.arc < es.length → 0 < roomOf es fl s → seen (s.srcN es) = true → (R (s.srcN es) + 1 < r ∨ (R (s.srcN es) < r ∧ done s)) → Sat es seen cost s

def New (n : Nat) (R : Nat → Nat) (r : Nat) (newer : Int) : Prop := (newer = -1 ∧ ∀ v, v < n → R v < r) ∨ ∃ z : Nat, z < n ∧ newer = (z : Int) ∧ R z = r

theorem WInv.init (es : List A5) (fl : List Int) (n : Nat) (S : Nat → Bool) : WInv es fl n S S (fun _ => 0) (fun _ => zS) (fun _ => 0) (fun _ => 0) 0 1 (fun _ => False) where
  start := fun v _ h => h
  root := fun v _ h _ => h
  way := fun v _ h => absurd rfl h
  time := fun v _ => Nat.le_refl _
  rnd := fun v _ => ⟨by omega, fun _ => rfl, fun _ => rfl⟩
  bd := fun v _ => by simp
  arcs := fun v _ => by simp [zS]
  sat := fun s _ _ _ h => by rcases h with h | h; omega; exact h.2.elim

section
variable {xs : List Int} {es : List A5} {fl : List Int} {n : Nat} {S seen : Nat → Bool} {cost : Nat → Int} {last : Nat → St} {T R : Nat → Nat} {c r : Nat} {done : St → Prop}

/-- A step that changes nothing. -/
theorem WInv.pass (h : WInv es fl n S seen cost last T R c r done) (s : St) (hs : seen (s.srcN es) = true → 0 < roomOf es fl s → Sat es seen cost s) : WInv es fl n S seen cost last T R c r (fun x => done x ∨ x = s) where
  start := h.start
  root := h.root
  way := h.way
  time := h.time
  rnd := h.rnd
  bd := h.bd
  arcs := h.arcs
  sat := fun x hx hr hsn hc => by
    rcases hc with hc | ⟨hc, hd | rfl⟩
    · exact h.sat x hx hr hsn (.inl hc)
    · exact h.sat x hx hr hsn (.inr ⟨hc, hd⟩)
    · exact hs hsn hr

/-- A step that makes a way cheaper. -/
theorem WInv.relax (hn : NetW xs es) (hxn : xs.length = n) (h : WInv es fl n S seen cost last T R c r done) (hr1 : 1 ≤ r) (s : St) (hs : s.arc < es.length) (hroom : 0 < roomOf es fl s) (hsn : seen (s.srcN es) = true) (hns : ¬ Sat es seen cost s) :
    WInv es fl n S (upd seen (s.dstN es) true) (upd cost (s.dstN es) (cost (s.srcN es) + priceOf es s)) (upd last (s.dstN es) s) (upd T (s.dstN es) (c + 1)) (upd R (s.dstN es) r) (c + 1) r (fun x => done x ∨ x = s) := by
  subst hxn
  obtain ⟨-, -, hul, hvl⟩ := st_ends hn hs
  have hR : r ≤ R (s.srcN es) + 1 := by
    by_cases hlt : R (s.srcN es) + 1 < r
    · exact absurd (h.sat s hs hroom hsn (.inl hlt)) hns
    · omega
  have hpb := price_bd hn s
  have hub := h.bd _ hul
  have htu := h.time _ hul
  have hseen : ∀ x, seen x = true → upd seen (s.dstN es) true x = true := fun x hx => by unfold upd; split <;> first | rfl | exact hx
  have hdec : seen (s.dstN es) = true → cost (s.srcN es) + priceOf es s + 1 ≤ cost (s.dstN es) := by
    intro hv
    by_cases hle : cost (s.dstN es) ≤ cost (s.srcN es) + priceOf es s
    · exact absurd ⟨hv, hle⟩ hns
    · omega
  refine ⟨fun v hv hS => hseen v (h.start v hv hS), fun v hv hsv hT => ?_, fun v hv hT => ?_, fun v hv => ?_, fun v hv => ?_, fun v hv => ?_, fun v hv => ?_, fun x hx hxr hxs hc => ?_⟩
  · by_cases e : v = s.dstN es
    · subst e; rw [upd_same] at hT; omega
    · rw [upd_ne _ _ e] at hsv hT; exact h.root v hv hsv hT
  · by_cases e : v = s.dstN es
    · subst e
      simp only [upd_same]
      refine ⟨trivial, hs, trivial, hroom, hul, hseen _ hsn, ?_, ?_⟩
      · by_cases eu : s.srcN es = s.dstN es
        · rw [eu] at hsn ⊢
          simp only [upd_same]
          have := hdec hsn
          rw [eu] at this
          rw [if_neg (by omega)]
          omega
        · rw [upd_ne _ _ eu, upd_ne _ _ eu, if_pos (by omega)]
          omega
      · by_cases eu : s.srcN es = s.dstN es
        · rw [eu, upd_same]; omega
        · rw [upd_ne _ _ eu]; exact hR
    · rw [upd_ne _ _ e] at hT
      obtain ⟨a1, a2, a3, a4, a5, a6, a7, a8⟩ := h.way v hv hT
      have htv := h.time v hv
      have hrv := (h.rnd v hv).1
      simp only [upd_ne _ _ e]
      refine ⟨a1, a2, a3, a4, a5, hseen _ a6, ?_, ?_⟩
      · by_cases eu : (last v).srcN es = s.dstN es
        · rw [eu] at a6 a7 ⊢
          simp only [upd_same]
          have := hdec a6
          rw [if_neg (by omega)]
          split at a7 <;> omega
        · rw [upd_ne _ _ eu, upd_ne _ _ eu]; exact a7
      · by_cases eu : (last v).srcN es = s.dstN es
        · rw [eu, upd_same]; omega
        · rw [upd_ne _ _ eu]; exact a8
  · by_cases e : v = s.dstN es
    · subst e; rw [upd_same]; omega
    · rw [upd_ne _ _ e]; have := h.time v hv; omega
  · by_cases e : v = s.dstN es
    · subst e; simp only [upd_same]; omega
    · rw [upd_ne _ _ e, upd_ne _ _ e]; exact h.rnd v hv
  · by_cases e : v = s.dstN es
    · subst e; rw [upd_same]; omega
    · rw [upd_ne _ _ e]; have := h.bd v hv; omega
  · by_cases e : v = s.dstN es
    · subst e; rw [upd_same]; have := hn.arcs; omega
    · rw [upd_ne _ _ e]; exact h.arcs v hv
  · by_cases eu : x.srcN es = s.dstN es
    · rw [eu, upd_same] at hc; omega
    · rw [upd_ne _ _ eu] at hxs hc
      by_cases ex : x = s
      · subst ex
        unfold Sat
        simp only [upd_same]
        rw [upd_ne _ _ eu]
        exact ⟨trivial, Int.le_refl _⟩
      · have hold := h.sat x hx hxr hxs (by
          rcases hc with hc | ⟨hc, hd | hd⟩
          · exact .inl hc
          · exact .inr ⟨hc, hd⟩
          · exact absurd hd ex)
        unfold Sat at hold ⊢
        rw [upd_ne _ _ eu]
        by_cases ed : x.dstN es = s.dstN es
        · rw [ed] at hold ⊢
          simp only [upd_same]
          have := hdec hold.1
          exact ⟨trivial, by omega⟩
        · rw [upd_ne _ _ ed, upd_ne _ _ ed]; exact hold

/-- A round has ended. -/
theorem WInv.next (h : WInv es fl n S seen cost last T R c r done) (hall : ∀ s : St, s.arc < es.length → done s) : WInv es fl n S seen cost last T R c (r + 1) (fun _ => False) where
  start := h.start
  root := h.root
  way := h.way
  time := h.time
  rnd := fun v hv => by have := h.rnd v hv; omega
  bd := h.bd
  arcs := h.arcs
  sat := fun x hx hr hsn hc => by
    rcases hc with hc | hc
    · exact h.sat x hx hr hsn (.inr ⟨by omega, hall x hx⟩)
    · exact hc.2.elim

/-! ### going back -/
/-- Behind k steps back from v. -/
def bk (es : List A5) (last : Nat → St) (v : Nat) : Nat → Nat
  | 0 => v
  | k + 1 => (last (bk es last v k)).srcN es
theorem bk_add (es : List A5) (last : Nat → St) (v i j : Nat) : bk es last (bk es last v i) j = bk es last v (i + j) := by
  induction j with
  | zero => rfl
  | succ j ih => simp only [bk, Nat.add_eq]; rw [ih]
def bkPrice (es : List A5) (last : Nat → St) (v : Nat) : Nat → Int := sumTo fun j => priceOf es (last (bk es last v j))

theorem WInv.bk_lt (h : WInv es fl n S seen cost last T R c r done) {v : Nat} (hv : v < n) (k : Nat) (hk : ∀ j, j < k → T (bk es last v j) ≠ 0) : ∀ j, j ≤ k → bk es last v j < n := by
  intro j
  induction j with
  | zero => intro _; exact hv
  | succ j ih =>
    intro hj
    exact (h.way _ (ih (by omega)) (hk j (by omega))).2.2.2.2.1
theorem WInv.bk_cost (h : WInv es fl n S seen cost last T R c r done) {v : Nat} (hv : v < n) (k : Nat) (hk : ∀ j, j < k → T (bk es last v j) ≠ 0) :
    cost (bk es last v k) + bkPrice es last v k ≤ cost v ∧ (k = 0 ∨ cost (bk es last v k) + bkPrice es last v k + 1 ≤ cost v ∨ T (bk es last v k) < T v) := by
  induction k with
  | zero => simp [bk, bkPrice, sumTo]
  | succ k ih =>
    obtain ⟨i1, i2⟩ := ih (fun j hj => hk j (by omega))
    have hw := (h.way _ (h.bk_lt hv k (fun j hj => hk j (by omega)) k (Nat.le_refl _)) (hk k (by omega))).2.2.2.2.2.2.1
    unfold bkPrice at i1 i2 ⊢
    simp only [bk, sumTo] at *
    split at hw
    · rename_i ht
      refine ⟨by omega, .inr ?_⟩
      rcases i2 with rfl | i2 | i2
      · exact .inr ht
      · exact .inl (by omega)
      · exact .inr (by omega)
    · exact ⟨by omega, .inr (.inl (by omega))⟩
/-- A circle of last steps costs less than 0. -/
theorem WInv.bk_neg (h : WInv es fl n S seen cost last T R c r done) {v : Nat} (hv : v < n) {k : Nat} (h0 : 0 < k) (hk : ∀ j, j < k → T (bk es last v j) ≠ 0) (he : bk es last v k = v) : bkPrice es last v k < 0 := by
  obtain ⟨i1, i2⟩ := h.bk_cost hv k hk
  rw [he] at i1 i2
  omega

/-- Potentials under which no step with room has a drift below 0. -/
def Pot (es : List A5) (fl : List Int) (p : Nat → Int) : Prop := ∀ s : St, s.arc < es.length → 0 < roomOf es fl s → 0 ≤ priceOf es s + p (s.srcN es) - p (s.dstN es)

theorem WInv.bk_pot (h : WInv es fl n S seen cost last T R c r done) {p : Nat → Int} (hp : Pot es fl p) {v : Nat} (hv : v < n) (k : Nat) (hk : ∀ j, j < k → T (bk es last v j) ≠ 0) : p v - p (bk es last v k) ≤ bkPrice es last v k := by
  induction k with
  | zero => simp [bk, bkPrice, sumTo]
  | succ k ih =>
    have i1 := ih (fun j hj => hk j (by omega))
    obtain ⟨-, a2, a3, a4, -⟩ := h.way _ (h.bk_lt hv k (fun j hj => hk j (by omega)) k (Nat.le_refl _)) (hk k (by omega))
    have := hp _ a2 a4
    rw [a3] at this
    unfold bkPrice at i1 ⊢
    simp only [bk, sumTo] at *
    omega
theorem WInv.bk_once (h : WInv es fl n S seen cost last T R c r done) {p : Nat → Int} (hp : Pot es fl p) {v : Nat} (hv : v < n) (k : Nat) (hk : ∀ j, j < k → T (bk es last v j) ≠ 0) (i j : Nat) (hij : i < j) (hj : j ≤ k) : bk es last v i ≠ bk es last v j := by
  intro e
  have hi := h.bk_lt hv k hk i (by omega)
  have hk2 : ∀ m, m < j - i → T (bk es last (bk es last v i) m) ≠ 0 := fun m hm => by rw [bk_add]; exact hk _ (by omega)
  have e2 : bk es last (bk es last v i) (j - i) = bk es last v i := by rw [bk_add, show i + (j - i) = j from by omega]; exact e.symm
  have h1 := h.bk_neg hi (by omega) hk2 e2
  have h2 := h.bk_pot hp hi _ hk2
  rw [e2] at h2
  omega
end

theorem pigeon : ∀ (n : Nat) (f : Nat → Nat), (∀ i, i ≤ n → f i < n) → ∃ i j, i < j ∧ j ≤ n ∧ f i = f j := by
  intro n
  induction n with
  | zero => intro f h; have := h 0 (Nat.le_refl _); omega
  | succ n ih =>
    intro f h
    by_cases hex : ∃ i, i ≤ n ∧ f i = f (n + 1)
    · obtain ⟨i, hi, e⟩ := hex
      exact ⟨i, n + 1, by omega, Nat.le_refl _, e⟩
    · have hne : ∀ i, i ≤ n → f i ≠ f (n + 1) := fun i hi e => hex ⟨i, hi, e⟩
      have ha := h (n + 1) (Nat.le_refl _)
      obtain ⟨i, j, hij, hj, e⟩ := ih (fun i => if f i = n then f (n + 1) else f i) (fun i hi => by
        have h1 := h i (by omega)
        have h2 := hne i hi
        split <;> omega)
      refine ⟨i, j, hij, by omega, ?_⟩
      have h1 := hne i (by omega)
      have h2 := hne j (by omega)
      split at e <;> split at e <;> omega

section
variable {xs : List Int} {es : List A5} {fl : List Int} {n : Nat} {S seen : Nat → Bool} {cost : Nat → Int} {last : Nat → St} {T R : Nat → Nat} {c r : Nat} {done : St → Prop}
theorem WInv.bk_short (h : WInv es fl n S seen cost last T R c r done) {p : Nat → Int} (hp : Pot es fl p) {v : Nat} (hv : v < n) (k : Nat) (hk : ∀ j, j < k → T (bk es last v j) ≠ 0) : k < n := by
  by_cases hkn : k < n
  · exact hkn
  · exfalso
    obtain ⟨i, j, hij, hj, e⟩ := pigeon n (bk es last v) (fun i hi => h.bk_lt hv k hk i (by omega))
    exact h.bk_once hp hv k hk i j hij (by omega) e
/-- Back from a way of round r there are r steps. -/
theorem WInv.bk_far (h : WInv es fl n S seen cost last T R c r done) {z q : Nat} (hz : z < n) (hq : R z = q) : ∀ j, j < q → T (bk es last z j) ≠ 0 := by
  have key : ∀ j, j < q → (∀ i, i < j → T (bk es last z i) ≠ 0) ∧ q ≤ R (bk es last z j) + j := by
    intro j
    induction j with
    | zero => intro _; exact ⟨fun i hi => by omega, by simp only [bk]; omega⟩
    | succ j ih =>
      intro hj
      obtain ⟨i1, i2⟩ := ih (by omega)
      have hlt := h.bk_lt hz j i1 j (Nat.le_refl _)
      have hT : T (bk es last z j) ≠ 0 := fun e => by have := (h.rnd _ hlt).2.1 e; omega
      refine ⟨fun i hi => ?_, ?_⟩
      · by_cases e : i = j
        · subst e; exact hT
        · exact i1 i (by omega)
      · have := (h.way _ hlt hT).2.2.2.2.2.2.2
        simp only [bk]
        omega
  intro j hj
  obtain ⟨i1, i2⟩ := key j hj
  intro e
  have hlt := h.bk_lt hz j i1 j (Nat.le_refl _)
  have := (h.rnd _ hlt).2.1 e
  omega
/-- With potentials, the last round finds nothing new: all steps are taken account of. -/
theorem WInv.closed (h : WInv es fl n S seen cost last T R c (n + 1) done) {newer : Int} (hnew : New n R n newer) (hno : newer = -1) : ∀ s : St, s.arc < es.length → 0 < roomOf es fl s → seen (s.srcN es) = true → s.srcN es < n → Sat es seen cost s := by
  rcases hnew with ⟨_, h2⟩ | ⟨z, hz, e, _⟩
  · intro s hs hr hsn hl
    exact h.sat s hs hr hsn (.inl (by have := h2 _ hl; omega))
  · omega
theorem WInv.none_new (h : WInv es fl n S seen cost last T R c (n + 1) done) {newer : Int} (hnew : New n R n newer) {p : Nat → Int} (hp : Pot es fl p) : newer = -1 := by
  rcases hnew with ⟨h1, _⟩ | ⟨z, hz, _, e⟩
  · exact h1
  · have := h.bk_short hp hz n (h.bk_far hz e)
    omega
end
end Go.Proofs.YtnbccoflcoaoaaaGreat

namespace Go.Proofs.YtnbccoflcoaoaaaGreat
open Go.RowKit
set_option linter.unusedSimpArgs false
set_option linter.unusedVariables false

theorem ext_getD {l m : List Int} (hl : l.length = m.length) (h : ∀ i, i < l.length → l.getD i 0 = m.getD i 0) : l = m := by
  apply List.ext_getElem?
  intro i
  by_cases hi : i < l.length
  · have h1 := h i hi
    simp only [List.getD, List.getElem?_eq_getElem hi, List.getElem?_eq_getElem (show i < m.length by omega), Option.getD_some] at h1 ⊢
    rw [h1]
  · rw [List.getElem?_eq_none (by omega), List.getElem?_eq_none (by omega)]

/-! ### the way back, as a list of steps -/
def wayL (es : List A5) (last : Nat → St) (v k : Nat) : List St := (List.range k).map fun j => last (bk es last v j)
theorem wayL_len (es : List A5) (last : Nat → St) (v k : Nat) : (wayL es last v k).length = k := by simp [wayL]
theorem wayL_at (es : List A5) (last : Nat → St) (v k : Nat) {j : Nat} (hj : j < k) : (wayL es last v k).getD j zS = last (bk es last v j) := by simp [wayL, List.getD, hj]
theorem wayL_snoc (es : List A5) (last : Nat → St) (v k : Nat) : wayL es last v (k + 1) = wayL es last v k ++ [last (bk es last v k)] := by simp [wayL, List.range_succ]

section
variable {xs : List Int} {es : List A5} {fl : List Int} {n : Nat} {S seen : Nat → Bool} {cost : Nat → Int} {last : Nat → St} {T R : Nat → Nat} {c r : Nat} {done : St → Prop}
theorem WInv.wayOK (hn : NetW xs es) (hxn : xs.length = n) (h : WInv es fl n S seen cost last T R c r done) {p : Nat → Int} (hp : Pot es fl p) {v : Nat} (hv : v < n) (k : Nat) (hk : ∀ j, j < k → T (bk es last v j) ≠ 0) :
    WayOK es fl (wayL es last v k) (v : Int) ∧ atK es (wayL es last v k) (v : Int) k = (bk es last v k : Int) := by
  have hw : ∀ j, j < k → _ := fun j hj => h.way _ (h.bk_lt hv k hk j (by omega)) (hk j hj)
  have hat : ∀ j, j ≤ k → atK es (wayL es last v k) (v : Int) j = (bk es last v j : Int) := by
    intro j hj
    cases j with
    | zero => rfl
    | succ j =>
      simp only [atK, bk]
      rw [wayL_at _ _ _ _ (by omega)]
      exact (st_ends hn (hw j (by omega)).2.1).1
  refine ⟨⟨fun j hj => ?_, fun j hj => ?_, fun i j hij hj => ?_, fun j hj => ?_⟩, hat k (Nat.le_refl _)⟩
  · rw [wayL_len] at hj
    rw [wayL_at _ _ _ _ hj]; exact (hw j hj).2.1
  · rw [wayL_len] at hj
    rw [hat j (by omega), wayL_at _ _ _ _ hj, (st_ends hn (hw j hj).2.1).2.1, (hw j hj).2.2.1]
  · rw [wayL_len] at hj
    rw [wayL_at _ _ _ _ hj, wayL_at _ _ _ _ (by omega)]
    intro e
    have d1 := (hw i (by omega)).2.2.1
    have d2 := (hw j hj).2.2.1
    have o1 := h.bk_once hp hv k hk i j hij (by omega)
    have o2 := h.bk_once hp hv k hk i (j + 1) (by omega) (by omega)
    simp only [bk] at o2
    cases hb1 : (last (bk es last v i)).back <;> cases hb2 : (last (bk es last v j)).back <;>
      simp only [St.dstN, St.srcN, St.dst, St.src, hb1, hb2, e, Bool.false_eq_true, if_false, if_true] at d1 d2 o1 o2 <;> omega
  · rw [wayL_len] at hj
    rw [wayL_at _ _ _ _ hj]; exact (hw j hj).2.2.2.1
/-- Where nothing can be made cheaper, last steps have no drift. -/
theorem WInv.tight (h : WInv es fl n S seen cost last T R c r done) (hcl : ∀ s : St, s.arc < es.length → 0 < roomOf es fl s → seen (s.srcN es) = true → s.srcN es < n → Sat es seen cost s) {v : Nat} (hv : v < n) (hT : T v ≠ 0) :
    seen ((last v).srcN es) = true ∧ seen ((last v).dstN es) = true ∧ cost ((last v).dstN es) = cost ((last v).srcN es) + priceOf es (last v) := by
  obtain ⟨a1, a2, a3, a4, a5, a6, a7, a8⟩ := h.way v hv hT
  have h1 := hcl _ a2 a4 a6 a5
  refine ⟨a6, h1.1, ?_⟩
  have h2 := h1.2
  rw [a3] at h2 ⊢
  split at a7 <;> omega
end

/-! ### potentials behind a sending -/
theorem big_bound (g : St → Int) (k : Nat) : ∃ M : Int, ∀ s : St, s.arc < k → g s ≤ M := by
  induction k with
  | zero => exact ⟨0, fun s hs => by omega⟩
  | succ k ih =>
    obtain ⟨M, hM⟩ := ih
    refine ⟨max M (max (g ⟨k, false⟩) (g ⟨k, true⟩)), ?_⟩
    rintro ⟨a, b⟩ hs
    have hs' : a < k + 1 := hs
    by_cases e : a = k
    · subst e; cases b <;> omega
    · have := hM ⟨a, b⟩ (show a < k by omega); omega

theorem pot_send {xs : List Int} {es : List A5} (hn : NetW xs es) {fl : List Int} (hl : fl.length = es.length) {p : Nat → Int} (hp : Pot es fl p) {seen : Nat → Bool} {cost : Nat → Int}
    (hcl : ∀ s : St, s.arc < es.length → 0 < roomOf es fl s → seen (s.srcN es) = true → s.srcN es < xs.length → Sat es seen cost s)
    {way : List St} {e : Int} (hw : WayOK es fl way e) (ht : ∀ j, j < way.length → seen ((way.getD j zS).srcN es) = true ∧ seen ((way.getD j zS).dstN es) = true ∧ cost ((way.getD j zS).dstN es) = cost ((way.getD j zS).srcN es) + priceOf es (way.getD j zS)) (x : Int) :
    ∃ p', Pot es (takeTo fl way x way.length) p' := by
  obtain ⟨M, hM⟩ := big_bound (fun s => cost (s.dstN es) - priceOf es s - p (s.srcN es)) es.length
  refine ⟨fun v => if seen v = true then cost v else p v + M, ?_⟩
  intro s hs hroom
  show 0 ≤ priceOf es s + (if seen (s.srcN es) = true then cost (s.srcN es) else p (s.srcN es) + M) - (if seen (s.dstN es) = true then cost (s.dstN es) else p (s.dstN es) + M)
  obtain ⟨-, -, hsl, hdl⟩ := st_ends hn hs
  by_cases hon : ∃ j, j < way.length ∧ (way.getD j zS).arc = s.arc
  · obtain ⟨j, hj, ha⟩ := hon
    obtain ⟨t1, t2, t3⟩ := ht j hj
    obtain ⟨sa, sb⟩ := s
    obtain ⟨⟨wa, wb⟩, hws⟩ : ∃ q, way.getD j zS = q := ⟨_, rfl⟩
    rw [hws] at t1 t2 t3 ha
    simp only [] at ha
    subst ha
    cases sb <;> cases wb <;> simp only [St.dstN, St.srcN, St.dst, St.src, priceOf, Bool.false_eq_true, if_false, if_true] at t1 t2 t3 ⊢ <;> rw [if_pos t1, if_pos t2] <;> omega
  · have hsame : roomOf es (takeTo fl way x way.length) s = roomOf es fl s := by
      unfold roomOf
      rw [take_off hw hl x s.arc _ (Nat.le_refl _) (fun j hj he => hon ⟨j, hj, he⟩)]
    rw [hsame] at hroom
    by_cases h1 : seen (s.srcN es) = true
    · obtain ⟨h2, h3⟩ := hcl s hs hroom h1 hsl
      rw [if_pos h1, if_pos h2]; omega
    · rw [if_neg h1]
      by_cases h2 : seen (s.dstN es) = true
      · rw [if_pos h2]
        have := hM s hs
        omega
      · rw [if_neg h2]
        have := hp s hs hroom
        omega

/-! ### what is left, of any flow -/
def leftOf (xs : List Int) (es : List A5) (fl : List Int) : List Int := (List.range xs.length).map fun v => xs.getD v 0 - netTo es fl (v : Int) es.length
theorem leftOf_len (xs : List Int) (es : List A5) (fl : List Int) : (leftOf xs es fl).length = xs.length := by simp [leftOf]
theorem leftOf_at (xs : List Int) (es : List A5) (fl : List Int) {v : Nat} (hv : v < xs.length) : (leftOf xs es fl).getD v 0 = xs.getD v 0 - netTo es fl (v : Int) es.length := by simp [leftOf, List.getD, hv]
theorem LInv.lf_eq {xs : List Int} {es : List A5} {fl lf : List Int} {t : Int} (h : LInv xs es fl lf t) : lf = leftOf xs es fl :=
  ext_getD (by rw [h.llen, leftOf_len]) (fun i hi => by rw [leftOf_at _ _ _ (by rw [← h.llen]; exact hi)]; exact h.left i (by rw [← h.llen]; exact hi))
/-- One step taken: what is left at both its ends. -/
theorem leftOf_take {xs : List Int} {es : List A5} (hn : NetW xs es) {fl : List Int} (hl : fl.length = es.length) {s : St} (hs : s.arc < es.length) (x : Int) :
    addAt (addAt (leftOf xs es fl) (s.srcN es) (-x)) (s.dstN es) x = leftOf xs es (addAt fl s.arc (stD s x)) := by
  obtain ⟨e1, e2, hsl, hdl⟩ := st_ends hn hs
  refine ext_getD (by simp only [addAt_len, leftOf_len]) (fun i hi => ?_)
  simp only [addAt_len, leftOf_len] at hi
  have hlen := leftOf_len xs es fl
  rw [addAt_at _ _ _ _ (by rw [addAt_len, hlen]; exact hdl), addAt_at _ _ _ _ (by rw [hlen]; exact hsl), addAt_at _ _ _ _ (by rw [hlen]; exact hsl), leftOf_at xs es (addAt fl s.arc (stD s x)) hi, addAt_net _ _ _ _ (by rw [hl]; exact hs), if_pos hs]
  unfold St.src at e1
  unfold St.dst at e2
  by_cases hb : s.back = true
  · rw [if_pos hb] at e1 e2
    rw [e1, e2]
    unfold stD
    rw [if_pos hb]
    by_cases h1 : i = s.dstN es
    · subst h1
      rw [if_pos rfl]
      by_cases h2 : s.dstN es = s.srcN es
      · rw [if_pos h2, ← h2, leftOf_at _ _ _ hi]; split <;> omega
      · rw [if_neg h2, leftOf_at _ _ _ hi, if_pos rfl, if_neg (show ¬ ((s.srcN es : Int) = (s.dstN es : Int)) by omega)]; omega
    · rw [if_neg h1, if_neg (show ¬ ((s.dstN es : Int) = (i : Int)) by omega)]
      by_cases h2 : i = s.srcN es
      · subst h2; rw [if_pos rfl, leftOf_at _ _ _ hi, if_pos rfl]; omega
      · rw [if_neg h2, leftOf_at _ _ _ hi, if_neg (show ¬ ((s.srcN es : Int) = (i : Int)) by omega)]; omega
  · rw [if_neg hb] at e1 e2
    rw [e1, e2]
    unfold stD
    rw [if_neg hb]
    by_cases h1 : i = s.dstN es
    · subst h1
      rw [if_pos rfl]
      by_cases h2 : s.dstN es = s.srcN es
      · rw [if_pos h2, ← h2, leftOf_at _ _ _ hi]; split <;> omega
      · rw [if_neg h2, leftOf_at _ _ _ hi, if_pos rfl, if_neg (show ¬ ((s.srcN es : Int) = (s.dstN es : Int)) by omega)]; omega
    · rw [if_neg h1, if_neg (show ¬ ((s.dstN es : Int) = (i : Int)) by omega)]
      by_cases h2 : i = s.srcN es
      · subst h2; rw [if_pos rfl, leftOf_at _ _ _ hi, if_pos rfl]; omega
      · rw [if_neg h2, leftOf_at _ _ _ hi, if_neg (show ¬ ((s.srcN es : Int) = (i : Int)) by omega)]; omega
theorem leftOf_bd {xs : List Int} {es : List A5} (hn : NetW xs es) {fl : List Int} (hm : Mild fl es.length) (v : Nat) : -64001441 ≤ (leftOf xs es fl).getD v 0 ∧ (leftOf xs es fl).getD v 0 ≤ 64001441 := by
  by_cases hv : v < xs.length
  · have h1 := netTo_bd es fl (v : Int) es.length hm es.length (Nat.le_refl _)
    have h2 := supW_bd hn v
    have h3 := hn.arcs
    rw [leftOf_at _ _ _ hv]
    omega
  · simp [List.getD, List.getElem?_eq_none (by rw [leftOf_len]; omega : (leftOf xs es fl).length ≤ v)]

theorem netTo_bd60 (es : List A5) (fl : List Int) (node : Int) (n : Nat) (h : ∀ i, i < n → 0 ≤ fl.getD i 0 ∧ fl.getD i 0 ≤ 60) (k : Nat) (hk : k ≤ n) : -(60 * (k : Int)) ≤ netTo es fl node k ∧ netTo es fl node k ≤ 60 * (k : Int) := by
  induction k with
  | zero => simp [netTo]
  | succ k ih =>
    have i1 := ih (by omega)
    have h1 := h k (by omega)
    simp only [netTo]
    split <;> split <;> omega
/-- A load of a flow of small numbers that keeps the bounds. -/
theorem linv_of {xs : List Int} {es : List A5} (hn : NetW xs es) {fl : List Int} (hl : fl.length = es.length) (hb : ∀ i, i < es.length → (es.getD i zA).lo ≤ fl.getD i 0 ∧ ((es.getD i zA).cap = -1 ∨ fl.getD i 0 ≤ (es.getD i zA).cap) ∧ fl.getD i 0 ≤ 60) :
    LInv xs es fl (leftOf xs es fl) (posTo (leftOf xs es fl) xs.length) where
  len := hl
  llen := leftOf_len xs es fl
  bd := fun i hi => by
    have h0 := hb i hi
    have h2 := pos_le (leftOf xs es fl) xs.length 5281 (by omega) (fun v hv => by
      rw [leftOf_at xs es fl hv]
      have h3 := netTo_bd60 es fl (v : Int) es.length (fun i hi => by have := hb i hi; have := arcB_out (hn.arc i hi); omega) es.length (Nat.le_refl _)
      have h4 := supW_bd hn v
      have h5 := hn.arcs
      omega)
    have h6 := hn.ten
    exact ⟨h0.1, h0.2.1, by omega⟩
  left := fun v hv => leftOf_at xs es fl hv
  go := rfl

/-! ### flows to begin with -/
/-- The Lows of the first k arcs. -/
def lowsK (es : List A5) (k : Nat) : List Int := (List.range es.length).map fun i => if i < k then (es.getD i zA).lo else 0
theorem lowsK_len (es : List A5) (k : Nat) : (lowsK es k).length = es.length := by simp [lowsK]
theorem lowsK_at (es : List A5) (k : Nat) {i : Nat} (hi : i < es.length) : (lowsK es k).getD i 0 = if i < k then (es.getD i zA).lo else 0 := by simp [lowsK, List.getD, hi]
theorem lowsK_succ (es : List A5) {k : Nat} (hk : k < es.length) : addAt (lowsK es k) k (es.getD k zA).lo = lowsK es (k + 1) := by
  refine ext_getD (by simp only [addAt_len, lowsK_len]) (fun i hi => ?_)
  simp only [addAt_len, lowsK_len] at hi
  rw [addAt_at _ _ _ _ (by rw [lowsK_len]; exact hk), lowsK_at _ _ hi, lowsK_at _ _ hi, lowsK_at _ _ hk]
  by_cases e : i = k
  · subst e; rw [if_pos rfl, if_neg (by omega), if_pos (by omega)]; omega
  · rw [if_neg e]
    by_cases h : i < k
    · rw [if_pos h, if_pos (by omega)]
    · rw [if_neg h, if_neg (by omega)]
def lowsL (es : List A5) : List Int := lowsK es es.length
theorem lowsL_at (es : List A5) {i : Nat} (hi : i < es.length) : (lowsL es).getD i 0 = (es.getD i zA).lo := by unfold lowsL; rw [lowsK_at _ _ hi, if_pos hi]
theorem lowsL_len (es : List A5) : (lowsL es).length = es.length := lowsK_len _ _
theorem lowsK_bd {xs : List Int} {es : List A5} (hn : NetW xs es) (k : Nat) : ∀ i, i < es.length → 0 ≤ (lowsK es k).getD i 0 ∧ (lowsK es k).getD i 0 ≤ 60 := by
  intro i hi
  have := arcB_out (hn.arc i hi)
  rw [lowsK_at _ _ hi]
  split <;> omega
theorem leftOf_zero (xs : List Int) (es : List A5) {v : Nat} (hv : v < xs.length) : (leftOf xs es (lowsK es 0)).getD v 0 = xs.getD v 0 := by
  rw [leftOf_at _ _ _ hv]
  have : ∀ k, k ≤ es.length → netTo es (lowsK es 0) (v : Int) k = 0 := by
    intro k
    induction k with
    | zero => intro _; rfl
    | succ k ih =>
      intro hk
      simp only [netTo]
      rw [ih (by omega), lowsK_at es 0 (show k < es.length by omega), if_neg (Nat.not_lt_zero k)]
      simp
  rw [this _ (Nat.le_refl _)]; omega

/-- Caps where the drift is below 0, among the first k arcs. -/
def fillK (es : List A5) (po : List Int) (k : Nat) : List Int := (List.range es.length).map fun i => if i < k ∧ driftAt es po i < 0 then (es.getD i zA).cap else (es.getD i zA).lo
theorem fillK_len (es : List A5) (po : List Int) (k : Nat) : (fillK es po k).length = es.length := by simp [fillK]
theorem fillK_at (es : List A5) (po : List Int) (k : Nat) {i : Nat} (hi : i < es.length) : (fillK es po k).getD i 0 = if i < k ∧ driftAt es po i < 0 then (es.getD i zA).cap else (es.getD i zA).lo := by simp [fillK, List.getD, hi]
theorem fillK_zero (es : List A5) (po : List Int) : fillK es po 0 = lowsL es :=
  ext_getD (by rw [fillK_len, lowsL_len]) (fun i hi => by rw [fillK_len] at hi; rw [fillK_at _ _ _ hi, lowsL_at _ hi, if_neg (by omega)])
theorem fillK_stay (es : List A5) (po : List Int) {k : Nat} (hk : k < es.length) (hd : ¬ driftAt es po k < 0) : fillK es po (k + 1) = fillK es po k :=
  ext_getD (by rw [fillK_len, fillK_len]) (fun i hi => by
    rw [fillK_len] at hi
    rw [fillK_at _ _ _ hi, fillK_at _ _ _ hi]
    by_cases e : i = k
    · subst e; rw [if_neg (fun h => hd h.2), if_neg (fun h => hd h.2)]
    · by_cases h : i < k ∧ driftAt es po i < 0
      · rw [if_pos h, if_pos ⟨by omega, h.2⟩]
      · rw [if_neg h, if_neg (fun h2 => h ⟨by omega, h2.2⟩)])
theorem fillK_move (es : List A5) (po : List Int) {k : Nat} (hk : k < es.length) (hd : driftAt es po k < 0) : addAt (fillK es po k) k ((es.getD k zA).cap - (es.getD k zA).lo) = fillK es po (k + 1) :=
  ext_getD (by rw [addAt_len, fillK_len, fillK_len]) (fun i hi => by
    rw [addAt_len, fillK_len] at hi
    rw [addAt_at _ _ _ _ (by rw [fillK_len]; exact hk), fillK_at _ _ _ hi, fillK_at _ _ _ hi, fillK_at _ _ _ hk]
    by_cases e : i = k
    · subst e; rw [if_pos rfl, if_neg (by omega), if_pos ⟨by omega, hd⟩]; omega
    · rw [if_neg e]
      by_cases h : i < k ∧ driftAt es po i < 0
      · rw [if_pos h, if_pos ⟨by omega, h.2⟩]
      · rw [if_neg h, if_neg (fun h2 => h ⟨by omega, h2.2⟩)])
theorem fillK_bd {xs : List Int} {es : List A5} (hn : NetW xs es) {po : List Int} (hu : ∀ i, i < es.length → (es.getD i zA).cap = -1 → 0 ≤ driftAt es po i) (k : Nat) :
    ∀ i, i < es.length → (es.getD i zA).lo ≤ (fillK es po k).getD i 0 ∧ ((es.getD i zA).cap = -1 ∨ (fillK es po k).getD i 0 ≤ (es.getD i zA).cap) ∧ (fillK es po k).getD i 0 ≤ 60 := by
  intro i hi
  have h1 := arcB_out (hn.arc i hi)
  have h2 := hu i hi
  rw [fillK_at _ _ _ hi]
  split
  · rename_i h
    have h3 : (es.getD i zA).cap ≠ -1 := fun e => by have := h2 e; omega
    omega
  · omega
/-- Filled, the potentials hold the flow. -/
theorem fill_pot {xs : List Int} {es : List A5} (hn : NetW xs es) {po : List Int} (hu : ∀ i, i < es.length → (es.getD i zA).cap = -1 → 0 ≤ driftAt es po i) : Pot es (fillK es po es.length) (fun v => po.getD v 0) := by
  rintro ⟨a, b⟩ hs hr
  have hs' : a < es.length := hs
  have h1 := arcB_out (hn.arc a hs')
  have h2 := hu a hs'
  unfold roomOf at hr
  simp only [] at hr
  rw [fillK_at _ _ _ hs'] at hr
  unfold driftAt at h2 hr
  simp only [priceOf, St.srcN, St.dstN, St.src, St.dst]
  cases b
  · simp only [Bool.false_eq_true, if_false] at hr ⊢
    split at hr
    · rename_i e; have := h2 e; omega
    · split at hr <;> omega
  · simp only [if_true] at hr ⊢
    split at hr <;> omega

/-- Where no step with room has a drift below 0, the potentials hold the flow. -/
theorem hold_of {xs : List Int} {es : List A5} (hn : NetW xs es) {fl lf : List Int} {t : Int} (h : LInv xs es fl lf t) {cost : Nat → Int} {po : List Int} (hpo : ∀ v, v < xs.length → po.getD v 0 = cost v) (hp : Pot es fl cost) : holdB es fl po = true := by
  refine all_t (fun i hi => ?_)
  have h1 := h.bd i hi
  have h2 := arcB_out (hn.arc i hi)
  have h3 := h.mild hn i hi
  have h4 : 0 ≤ t := by rw [h.go]; exact pos_nonneg _ _
  have f := hp ⟨i, false⟩ hi
  have b := hp ⟨i, true⟩ hi
  simp only [priceOf, St.srcN, St.dstN, St.src, St.dst, roomOf, Bool.false_eq_true, if_false, if_true] at f b
  have e := hn.ends i hi
  refine decide_eq_true ⟨fun hd => ?_, fun hd => ?_⟩ <;> unfold driftAt at hd <;> rw [hpo _ (by omega), hpo _ (by omega)] at hd
  · by_cases hz : 0 < fl.getD i 0 - (es.getD i zA).lo
    · have := b hz; omega
    · omega
  · by_cases hc : (es.getD i zA).cap = -1
    · rw [if_pos hc] at f
      have := f (by omega); omega
    · rw [if_neg hc] at f
      refine ⟨hc, ?_⟩
      by_cases hz : 0 < (es.getD i zA).cap - fl.getD i 0
      · have := f hz; omega
      · omega

/-! ### other nets of the same nodes -/
def costlessL (es : List A5) : List A5 := es.map fun a => { a with cost := 0 }
def stiffL (es : List A5) : List A5 := es.map fun a => if a.cap = -1 then a else { a with cap := a.lo }
theorem costlessL_len (es : List A5) : (costlessL es).length = es.length := by simp [costlessL]
theorem stiffL_len (es : List A5) : (stiffL es).length = es.length := by simp [stiffL]
theorem costlessL_at (es : List A5) (i : Nat) : (costlessL es).getD i zA = { es.getD i zA with cost := 0 } := by
  simp only [costlessL, List.getD, List.getElem?_map]
  cases es[i]? <;> rfl
theorem stiffL_at (es : List A5) (i : Nat) : (stiffL es).getD i zA = if (es.getD i zA).cap = -1 then es.getD i zA else { es.getD i zA with cap := (es.getD i zA).lo } := by
  simp only [stiffL, List.getD, List.getElem?_map]
  by_cases hi : i < es.length
  · simp only [List.getElem?_eq_getElem hi, Option.map_some, Option.getD_some]
  · simp only [List.getElem?_eq_none (show es.length ≤ i by omega), Option.map_none, Option.getD_none]
    simp [zA]
theorem costless_ok {xs : List Int} {es : List A5} (hn : NetW xs es) : NetW xs (costlessL es) :=
  ⟨hn.one, hn.ten, by rw [costlessL_len]; exact hn.arcs, hn.sup, fun j hj => by
    rw [costlessL_len] at hj
    have := arcB_out (hn.arc j hj)
    rw [costlessL_at]
    exact decide_eq_true (by simp only []; omega)⟩
theorem stiff_ok {xs : List Int} {es : List A5} (hn : NetW xs es) : NetW xs (stiffL es) :=
  ⟨hn.one, hn.ten, by rw [stiffL_len]; exact hn.arcs, hn.sup, fun j hj => by
    rw [stiffL_len] at hj
    have := arcB_out (hn.arc j hj)
    rw [stiffL_at]
    split
    · exact hn.arc j hj
    · exact decide_eq_true (by simp only []; omega)⟩
/-- Of a net without its costs all that is said of flows and cuts is said of the net. -/
theorem costless_net (es : List A5) (y : List Int) (v : Int) (k : Nat) : netTo (costlessL es) y v k = netTo es y v k := by
  induction k with
  | zero => rfl
  | succ k ih => simp only [netTo, ih, costlessL_at]
theorem costless_fits {xs : List Int} {es : List A5} {y : List Int} (h : Fits xs (costlessL es) y) : Fits xs es y := by
  obtain ⟨h1, h2, h3⟩ := h
  rw [costlessL_len] at h1 h2 h3
  refine ⟨h1, fun i hi => ?_, fun k hk => ?_⟩
  · have := h2 i hi; rw [costlessL_at] at this; exact this
  · have := h3 k hk; rw [costless_net] at this; exact this
theorem costless_viol (xs : List Int) (es : List A5) (cut : List Int) : violB xs (costlessL es) cut = violB xs es cut := by
  have hc : ∀ b k, crossB cut b ((costlessL es).getD k zA) = crossB cut b (es.getD k zA) := fun b k => by rw [costlessL_at]; rfl
  have hcap : ∀ k, ((costlessL es).getD k zA).cap = (es.getD k zA).cap := fun k => by rw [costlessL_at]
  have hlo : ∀ k, ((costlessL es).getD k zA).lo = (es.getD k zA).lo := fun k => by rw [costlessL_at]
  have h1 : ∀ b k, capsTo (costlessL es) cut b k = capsTo es cut b k := by
    intro b k
    induction k with
    | zero => rfl
    | succ k ih => simp only [capsTo, ih, hc, hcap]
  have h2 : ∀ b k, lowsTo (costlessL es) cut b k = lowsTo es cut b k := by
    intro b k
    induction k with
    | zero => rfl
    | succ k ih => simp only [lowsTo, ih, hc, hlo]
  have h3 : ∀ b k, openTo (costlessL es) cut b k = openTo es cut b k := by
    intro b k
    induction k with
    | zero => rfl
    | succ k ih => simp only [openTo, ih, hc, hcap]
  simp only [violB, costlessL_len, h1, h2, h3]
theorem costless_pot (es : List A5) (fl : List Int) : Pot (costlessL es) fl (fun _ => 0) := by
  intro s _ _
  simp only [priceOf, costlessL_at]
  split <;> omega
/-- In the stiff net, with all arcs at their Low, there is room along unlimited arcs alone. -/
theorem stiff_room {xs : List Int} {es : List A5} (hn : NetW xs es) {s : St} (hs : s.arc < es.length) (h : 0 < roomOf (stiffL es) (lowsL (stiffL es)) s) : s.back = false ∧ (es.getD s.arc zA).cap = -1 := by
  have h1 := arcB_out (hn.arc s.arc hs)
  unfold roomOf at h
  rw [lowsL_at _ (by rw [stiffL_len]; exact hs), stiffL_at] at h
  cases hb : s.back
  · refine ⟨rfl, ?_⟩
    by_cases hc : (es.getD s.arc zA).cap = -1
    · exact hc
    · rw [if_neg hc, hb] at h
      simp only [Bool.false_eq_true, if_false] at h
      split at h <;> omega
  · rw [hb] at h
    simp only [if_true] at h
    omega
end Go.Proofs.YtnbccoflcoaoaaaGreat

namespace Go.Proofs.YtnbccoflcoaoaaaGreat
open Go.RowKit
set_option linter.unusedSimpArgs false
set_option linter.unusedVariables false

/-! ### a circle of last steps -/
theorem least_of (P : Nat → Prop) : ∀ m, P m → ∃ k, k ≤ m ∧ P k ∧ ∀ j, j < k → ¬ P j := by
  intro m
  induction m using Nat.strongRecOn with
  | _ m ih =>
    intro h
    by_cases hex : ∃ j, j < m ∧ P j
    · obtain ⟨j, hj, hp⟩ := hex
      obtain ⟨k, h1, h2, h3⟩ := ih j hj hp
      exact ⟨k, by omega, h2, h3⟩
    · exact ⟨m, Nat.le_refl _, h, fun j hj hp => hex ⟨j, hj, hp⟩⟩

/-- f lies on a circle of m last steps. -/
structure Cyc (es : List A5) (last : Nat → St) (n : Nat) (T : Nat → Nat) (f m : Nat) : Prop where
  pos : 0 < m
  le : m ≤ n
  lt : f < n
  back : bk es last f m = f
  first : ∀ j, 0 < j → j < m → bk es last f j ≠ f
  way : ∀ j, T (bk es last f j) ≠ 0

theorem WInv.cycle {es : List A5} {fl : List Int} {n : Nat} {S seen : Nat → Bool} {cost : Nat → Int} {last : Nat → St} {T R : Nat → Nat} {c r : Nat} {done : St → Prop} (h : WInv es fl n S seen cost last T R c r done) {z : Nat} (hz : z < n) (hR : R z = n) : ∃ m, Cyc es last n T (bk es last z n) m := by
  have hT := h.bk_far hz hR
  have hlt := h.bk_lt hz n hT
  obtain ⟨i, j, hij, hj, e⟩ := pigeon n (bk es last z) hlt
  have per : ∀ s, i ≤ s → bk es last z (s + (j - i)) = bk es last z s := by
    intro s hs
    have h1 := bk_add es last z j (s - i)
    have h2 := bk_add es last z i (s - i)
    rw [← e, h2, show i + (s - i) = s from by omega, show j + (s - i) = s + (j - i) from by omega] at h1
    exact h1.symm
  have hall : ∀ s, T (bk es last z s) ≠ 0 := by
    intro s
    induction s using Nat.strongRecOn with
    | _ s ih =>
      by_cases hs : s < n
      · exact hT s hs
      · have := per (s - (j - i)) (by omega)
        rw [show s - (j - i) + (j - i) = s from by omega] at this
        rw [this]
        exact ih _ (by omega)
  obtain ⟨m, hm1, ⟨hm2, hm3⟩, hm4⟩ := least_of (fun k => 0 < k ∧ bk es last (bk es last z n) k = bk es last z n) (j - i) ⟨by omega, by rw [bk_add]; exact per n (by omega)⟩
  exact ⟨m, hm2, by omega, hlt n (Nat.le_refl _), hm3, fun k h1 h2 h3 => hm4 k h2 ⟨h1, h3⟩, fun k => by rw [bk_add]; exact hall _⟩

theorem Cyc.once {es : List A5} {last : Nat → St} {n : Nat} {T : Nat → Nat} {f m : Nat} (h : Cyc es last n T f m) (i j : Nat) (hij : i < j) (hj : j < m) : bk es last f i ≠ bk es last f j := by
  intro e
  have h1 := bk_add es last f i (m - j)
  have h2 := bk_add es last f j (m - j)
  rw [e, h2, show j + (m - j) = m from by omega, h.back] at h1
  exact h.first (i + (m - j)) (by omega) (by omega) h1.symm

theorem sumTo_head (f : Nat → Int) (n : Nat) : sumTo f (n + 1) = f 0 + sumTo (fun i => f (i + 1)) n := by
  induction n with
  | zero => simp [sumTo]
  | succ n ih =>
    rw [sumTo, ih]
    simp only [sumTo]
    omega
theorem sumTo_rev (f : Nat → Int) (m : Nat) : sumTo (fun i => f (m - 1 - i)) m = sumTo f m := by
  induction m with
  | zero => rfl
  | succ m ih =>
    rw [sumTo_head, sumTo_congr (g := fun i => f (m - 1 - i)) (fun i hi => by rw [show m + 1 - 1 - (i + 1) = m - 1 - i from by omega]), ih]
    simp only [sumTo, Nat.add_sub_cancel, Nat.sub_zero]
    omega
theorem circTo_sum (es : List A5) (l : List Int) (k : Nat) : circTo es l k = sumTo (fun i => (arcOf es l i).cost) k := by
  induction k with
  | zero => rfl
  | succ k ih => simp only [circTo, sumTo, ih]

/-- The arcs of the way back. -/
def backL (es : List A5) (last : Nat → St) (f k : Nat) : List Int := (List.range k).map fun j => ((last (bk es last f j)).arc : Int)
theorem backL_len (es : List A5) (last : Nat → St) (f k : Nat) : (backL es last f k).length = k := by simp [backL]
theorem backL_snoc (es : List A5) (last : Nat → St) (f k : Nat) : backL es last f (k + 1) = backL es last f k ++ [((last (bk es last f k)).arc : Int)] := by simp [backL, List.range_succ]
theorem backL_at (es : List A5) (last : Nat → St) (f k : Nat) {j : Nat} (hj : j < k) : (backL es last f k).getD j 0 = ((last (bk es last f j)).arc : Int) := by simp [backL, List.getD, hj]
theorem rev_at (l : List Int) {i : Nat} (hi : i < l.length) : l.reverse.getD i 0 = l.getD (l.length - 1 - i) 0 := by
  simp [List.getD, List.getElem?_reverse hi]

/-- The circle that is found in the stiff net is good in the net. -/
theorem good_circle {xs : List Int} {es : List A5} (hn : NetW xs es) {n : Nat} (hxn : xs.length = n) {S seen : Nat → Bool} {cost : Nat → Int} {last : Nat → St} {T R : Nat → Nat} {c r : Nat} {done : St → Prop} (h : WInv (stiffL es) (lowsL (stiffL es)) n S seen cost last T R c r done) {f m : Nat} (hC : Cyc (stiffL es) last n T f m) :
    goodB es (backL (stiffL es) last f m).reverse = true := by
  obtain ⟨C, hCC⟩ : ∃ C, (backL (stiffL es) last f m).reverse = C := ⟨_, rfl⟩
  have hlen : C.length = m := by rw [← hCC, List.length_reverse, backL_len]
  have hlt : ∀ j, bk (stiffL es) last f j < n := fun j => h.bk_lt hC.lt j (fun i _ => hC.way i) j (Nat.le_refl _)
  have hw : ∀ j, _ := fun j => h.way _ (hlt j) (hC.way j)
  have hst : ∀ j, (last (bk (stiffL es) last f j)).arc < es.length ∧ (last (bk (stiffL es) last f j)).back = false ∧ (es.getD (last (bk (stiffL es) last f j)).arc zA).cap = -1 := by
    intro j
    have h1 := (hw j).2.1
    rw [stiffL_len] at h1
    exact ⟨h1, stiff_room hn h1 (hw j).2.2.2.1⟩
  have hat : ∀ i, i < m → C.getD i 0 = ((last (bk (stiffL es) last f (m - 1 - i))).arc : Int) := by
    intro i hi
    rw [← hCC, rev_at _ (by rw [backL_len]; exact hi), backL_len, backL_at _ _ _ _ (by omega)]
  have harc : ∀ i, i < m → arcOf es C i = es.getD (last (bk (stiffL es) last f (m - 1 - i))).arc zA := fun i hi => by unfold arcOf; rw [hat i hi, Int.toNat_natCast]
  have hends : ∀ j, (es.getD (last (bk (stiffL es) last f j)).arc zA).to = (bk (stiffL es) last f j : Int) ∧ (es.getD (last (bk (stiffL es) last f j)).arc zA).fr = (bk (stiffL es) last f (j + 1) : Int) ∧ priceOf (stiffL es) (last (bk (stiffL es) last f j)) = (es.getD (last (bk (stiffL es) last f j)).arc zA).cost := by
    intro j
    obtain ⟨h1, h2, h3⟩ := hst j
    obtain ⟨e1, e2, -, -⟩ := st_ends (stiff_ok hn) (hw j).2.1
    have d := (hw j).2.2.1
    rw [d] at e2
    have eb : bk (stiffL es) last f (j + 1) = (last (bk (stiffL es) last f j)).srcN (stiffL es) := rfl
    rw [eb, ← e1, ← e2]
    simp only [St.src, St.dst, priceOf, h2, Bool.false_eq_true, if_false, stiffL_at, h3, if_true]
    exact ⟨trivial, trivial, trivial⟩
  have hneg := h.bk_neg hC.lt hC.pos (fun j _ => hC.way j) hC.back
  rw [hCC]
  have honce : onceB es.length C = true := all_t (fun i hi => by
    rw [hlen] at hi
    unfold onceAt
    rw [hat i hi]
    rw [Bool.and_eq_true]
    refine ⟨decide_eq_true ⟨by omega, by have := (hst (m - 1 - i)).1; omega⟩, ?_⟩
    rw [Bool.not_eq_true']
    refine inB_f (fun q hq => ?_)
    rw [List.length_take] at hq
    have hq2 : q < i := by omega
    rw [show (C.take i).getD q 0 = C.getD q 0 from by simp [List.getD, List.getElem?_take, hq2], hat q (by omega)]
    intro e
    have e' : (last (bk (stiffL es) last f (m - 1 - q))).arc = (last (bk (stiffL es) last f (m - 1 - i))).arc := by omega
    have t1 := (hends (m - 1 - q)).1
    have t2 := (hends (m - 1 - i)).1
    rw [e', t2] at t1
    exact hC.once (m - 1 - i) (m - 1 - q) (by omega) (by omega) (by omega))
  have hunl : unlB es C = true := all_t (fun i hi => by
    rw [hlen] at hi
    unfold unlAt
    rw [harc i hi, (hst _).2.2]; rfl)
  have hnext : nextB es C = true := all_t (fun i hi => by
    rw [hlen] at hi
    unfold nextAt
    rw [hlen, harc i hi, beq_iff_eq, (hends _).1]
    by_cases hi2 : i + 1 < m
    · rw [Nat.mod_eq_of_lt hi2, harc _ hi2, (hends _).2.1, show m - 1 - (i + 1) + 1 = m - 1 - i from by omega]
    · have him : i + 1 = m := by omega
      rw [him, Nat.mod_self, harc 0 hC.pos, (hends _).2.1, show m - 1 - 0 + 1 = m from by have := hC.pos; omega, hC.back, show m - 1 - i = 0 from by omega]
      rfl)
  have hsum : circTo es C C.length < 0 := by
    rw [circTo_sum, hlen, sumTo_congr (g := fun i => priceOf (stiffL es) (last (bk (stiffL es) last f (m - 1 - i)))) (fun i hi => by rw [harc i hi, (hends _).2.2]), sumTo_rev (fun j => priceOf (stiffL es) (last (bk (stiffL es) last f j)))]
    exact hneg
  unfold goodB
  rw [honce, hunl, hnext, decide_eq_true (show 0 < C.length by rw [hlen]; exact hC.pos), decide_eq_true hsum]
  rfl
end Go.Proofs.YtnbccoflcoaoaaaGreat
