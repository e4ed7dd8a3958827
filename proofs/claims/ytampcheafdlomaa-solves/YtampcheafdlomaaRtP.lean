import Derived.Test.YtampcheafdlomaaSomP
namespace Go.Proofs.Ytampcheafdlomaa
open Go.RowKit
set_option linter.unusedSimpArgs false
set_option linter.unusedVariables false

/-! ### cheapest ways, round by round -/
def priceOf (es : List A5) (s : St) : Int := if s.back = true then -(es.getD s.arc zA).cost else (es.getD s.arc zA).cost
def St.srcN (es : List A5) (s : St) : Nat := (s.src es).toNat
def St.dstN (es : List A5) (s : St) : Nat := (s.dst es).toNat
theorem price_bd {xs : List Int} {es : List A5} (hn : NetOK xs es) (s : St) : -50 ≤ priceOf es s ∧ priceOf es s ≤ 50 := by
  have := cost_bd1 hn s.arc
  unfold priceOf
  split <;> omega
theorem st_ends {xs : List Int} {es : List A5} (hn : NetOK xs es) {s : St} (hs : s.arc < es.length) : s.src es = (s.srcN es : Int) ∧ s.dst es = (s.dstN es : Int) ∧ s.srcN es < xs.length ∧ s.dstN es < xs.length := by
  have e := hn.ends s.arc hs
  unfold St.srcN St.dstN St.src St.dst
  split <;> omega

/-- A step that makes no way cheaper. -/
def Sat (es : List A5) (seen : Nat → Bool) (cost : Nat → Int) (s : St) : Prop := seen (s.dstN es) = true ∧ cost (s.dstN es) ≤ cost (s.srcN es) + priceOf es s

/-- What is known of the ways, in round r; 'done': the steps that this round has looked at. T: when the way to a node was found; R: in which round. -/
structure WInv (es : List A5) (fl : List Int) (n : Nat) (S seen : Nat → Bool) (cost : Nat → Int) (last : Nat → St) (T R : Nat → Nat) (c r : Nat) (done : St → Prop) : Prop where
  start : ∀ v, v < n → S v = true → seen v = true
  root : ∀ v, v < n → seen v = true → T v = 0 → S v = true
  way : ∀ v, v < n → T v ≠ 0 → seen v = true ∧ (last v).arc < es.length ∧ (last v).dstN es = v ∧ 0 < roomOf es fl (last v) ∧ (last v).srcN es < n ∧ seen ((last v).srcN es) = true ∧
    cost ((last v).srcN es) + priceOf es (last v) + (if T ((last v).srcN es) < T v then 0 else 1) ≤ cost v ∧ R v ≤ R ((last v).srcN es) + 1
  time : ∀ v, v < n → T v ≤ c
  rnd : ∀ v, v < n → R v ≤ r ∧ (T v = 0 → R v = 0) ∧ (R v = 0 → T v = 0)
  bd : ∀ v, v < n → -(50 * (c : Int)) ≤ cost v ∧ cost v ≤ 50 * (c : Int)
  arcs : ∀ v, v < n → (last v).arc ≤ 24
  sat : ∀ s : St, s.arc < es.length → 0 < roomOf es fl s → seen (s.srcN es) = true → (R (s.srcN es) + 1 < r ∨ (R (s.srcN es) < r ∧ done s)) → Sat es seen cost s

def New (n : Nat) (R : Nat → Nat) (r : Nat) (newer : Int) : Prop := (newer = -1 ∧ ∀ v, v < n → R v < r) ∨ ∃ z : Nat, z < n ∧ newer = (z : Int) ∧ R z = r

theorem WInv.init (es : List A5) (fl : List Int) (n : Nat) (S : Nat → Bool) : WInv es fl n S S (fun _ => 0) (fun _ => zS) (fun _ => 0) (fun _ => 0) 0 1 (fun _ => False) where
  start := fun v _ h => h
  root := fun v _ h _ => h
  way := fun v _ h => absurd rfl h
  time := fun v _ => Nat.le_refl _
  rnd := fun v _ => ⟨by omega, fun _ => rfl, fun _ => rfl⟩
  bd := fun v _ => by simp
  arcs := fun v _ => by simp [zS]
  sat := fun s _ _ _ h => by rcases h with h | h; omega; exact h.2.elim

section
variable {xs : List Int} {es : List A5} {fl : List Int} {n : Nat} {S seen : Nat → Bool} {cost : Nat → Int} {last : Nat → St} {T R : Nat → Nat} {c r : Nat} {done : St → Prop}

/-- A step that changes nothing. -/
theorem WInv.pass (h : WInv es fl n S seen cost last T R c r done) (s : St) (hs : seen (s.srcN es) = true → 0 < roomOf es fl s → Sat es seen cost s) : WInv es fl n S seen cost last T R c r (fun x => done x ∨ x = s) where
  start := h.start
  root := h.root
  way := h.way
  time := h.time
  rnd := h.rnd
  bd := h.bd
  arcs := h.arcs
  sat := fun x hx hr hsn hc => by
    rcases hc with hc | ⟨hc, hd | rfl⟩
    · exact h.sat x hx hr hsn (.inl hc)
    · exact h.sat x hx hr hsn (.inr ⟨hc, hd⟩)
    · exact hs hsn hr

/-- A step that makes a way cheaper. -/
theorem WInv.relax (hn : NetOK xs es) (hxn : xs.length = n) (h : WInv es fl n S seen cost last T R c r done) (hr1 : 1 ≤ r) (s : St) (hs : s.arc < es.length) (hroom : 0 < roomOf es fl s) (hsn : seen (s.srcN es) = true) (hns : ¬ Sat es seen cost s) :
    WInv es fl n S (upd seen (s.dstN es) true) (upd cost (s.dstN es) (cost (s.srcN es) + priceOf es s)) (upd last (s.dstN es) s) (upd T (s.dstN es) (c + 1)) (upd R (s.dstN es) r) (c + 1) r (fun x => done x ∨ x = s) := by
  subst hxn
  obtain ⟨-, -, hul, hvl⟩ := st_ends hn hs
  have hR : r ≤ R (s.srcN es) + 1 := by
    by_cases hlt : R (s.srcN es) + 1 < r
    · exact absurd (h.sat s hs hroom hsn (.inl hlt)) hns
    · omega
  have hpb := price_bd hn s
  have hub := h.bd _ hul
  have htu := h.time _ hul
  have hseen : ∀ x, seen x = true → upd seen (s.dstN es) true x = true := fun x hx => by unfold upd; split <;> first | rfl | exact hx
  have hdec : seen (s.dstN es) = true → cost (s.srcN es) + priceOf es s + 1 ≤ cost (s.dstN es) := by
    intro hv
    by_cases hle : cost (s.dstN es) ≤ cost (s.srcN es) + priceOf es s
    · exact absurd ⟨hv, hle⟩ hns
    · omega
  refine ⟨fun v hv hS => hseen v (h.start v hv hS), fun v hv hsv hT => ?_, fun v hv hT => ?_, fun v hv => ?_, fun v hv => ?_, fun v hv => ?_, fun v hv => ?_, fun x hx hxr hxs hc => ?_⟩
  · by_cases e : v = s.dstN es
    · subst e; rw [upd_same] at hT; omega
    · rw [upd_ne _ _ e] at hsv hT; exact h.root v hv hsv hT
  · by_cases e : v = s.dstN es
    · subst e
      simp only [upd_same]
      refine ⟨trivial, hs, trivial, hroom, hul, hseen _ hsn, ?_, ?_⟩
      · by_cases eu : s.srcN es = s.dstN es
        · rw [eu] at hsn ⊢
          simp only [upd_same]
          have := hdec hsn
          rw [eu] at this
          rw [if_neg (by omega)]
          omega
        · rw [upd_ne _ _ eu, upd_ne _ _ eu, if_pos (by omega)]
          omega
      · by_cases eu : s.srcN es = s.dstN es
        · rw [eu, upd_same]; omega
        · rw [upd_ne _ _ eu]; exact hR
    · rw [upd_ne _ _ e] at hT
      obtain ⟨a1, a2, a3, a4, a5, a6, a7, a8⟩ := h.way v hv hT
      have htv := h.time v hv
      have hrv := (h.rnd v hv).1
      simp only [upd_ne _ _ e]
      refine ⟨a1, a2, a3, a4, a5, hseen _ a6, ?_, ?_⟩
      · by_cases eu : (last v).srcN es = s.dstN es
        · rw [eu] at a6 a7 ⊢
          simp only [upd_same]
          have := hdec a6
          rw [if_neg (by omega)]
          split at a7 <;> omega
        · rw [upd_ne _ _ eu, upd_ne _ _ eu]; exact a7
      · by_cases eu : (last v).srcN es = s.dstN es
        · rw [eu, upd_same]; omega
        · rw [upd_ne _ _ eu]; exact a8
  · by_cases e : v = s.dstN es
    · subst e; rw [upd_same]; omega
    · rw [upd_ne _ _ e]; have := h.time v hv; omega
  · by_cases e : v = s.dstN es
    · subst e; simp only [upd_same]; omega
    · rw [upd_ne _ _ e, upd_ne _ _ e]; exact h.rnd v hv
  · by_cases e : v = s.dstN es
    · subst e; rw [upd_same]; omega
    · rw [upd_ne _ _ e]; have := h.bd v hv; omega
  · by_cases e : v = s.dstN es
    · subst e; rw [upd_same]; have := hn.arcs; omega
    · rw [upd_ne _ _ e]; exact h.arcs v hv
  · by_cases eu : x.srcN es = s.dstN es
    · rw [eu, upd_same] at hc; omega
    · rw [upd_ne _ _ eu] at hxs hc
      by_cases ex : x = s
      · subst ex
        unfold Sat
        simp only [upd_same]
        rw [upd_ne _ _ eu]
        exact ⟨trivial, Int.le_refl _⟩
      · have hold := h.sat x hx hxr hxs (by
          rcases hc with hc | ⟨hc, hd | hd⟩
          · exact .inl hc
          · exact .inr ⟨hc, hd⟩
          · exact absurd hd ex)
        unfold Sat at hold ⊢
        rw [upd_ne _ _ eu]
        by_cases ed : x.dstN es = s.dstN es
        · rw [ed] at hold ⊢
          simp only [upd_same]
          have := hdec hold.1
          exact ⟨trivial, by omega⟩
        · rw [upd_ne _ _ ed, upd_ne _ _ ed]; exact hold

/-- A round has ended. -/
theorem WInv.next (h : WInv es fl n S seen cost last T R c r done) (hall : ∀ s : St, s.arc < es.length → done s) : WInv es fl n S seen cost last T R c (r + 1) (fun _ => False) where
  start := h.start
  root := h.root
  way := h.way
  time := h.time
  rnd := fun v hv => by have := h.rnd v hv; omega
  bd := h.bd
  arcs := h.arcs
  sat := fun x hx hr hsn hc => by
    rcases hc with hc | hc
    · exact h.sat x hx hr hsn (.inr ⟨by omega, hall x hx⟩)
    · exact hc.2.elim

/-! ### going back -/
/-- Behind k steps back from v. -/
def bk (es : List A5) (last : Nat → St) (v : Nat) : Nat → Nat
  | 0 => v
  | k + 1 => (last (bk es last v k)).srcN es
theorem bk_add (es : List A5) (last : Nat → St) (v i j : Nat) : bk es last (bk es last v i) j = bk es last v (i + j) := by
  induction j with
  | zero => rfl
  | succ j ih => simp only [bk, Nat.add_eq]; rw [ih]
def bkPrice (es : List A5) (last : Nat → St) (v : Nat) : Nat → Int := sumTo fun j => priceOf es (last (bk es last v j))

theorem WInv.bk_lt (h : WInv es fl n S seen cost last T R c r done) {v : Nat} (hv : v < n) (k : Nat) (hk : ∀ j, j < k → T (bk es last v j) ≠ 0) : ∀ j, j ≤ k → bk es last v j < n := by
  intro j
  induction j with
  | zero => intro _; exact hv
  | succ j ih =>
    intro hj
    exact (h.way _ (ih (by omega)) (hk j (by omega))).2.2.2.2.1
theorem WInv.bk_cost (h : WInv es fl n S seen cost last T R c r done) {v : Nat} (hv : v < n) (k : Nat) (hk : ∀ j, j < k → T (bk es last v j) ≠ 0) :
    cost (bk es last v k) + bkPrice es last v k ≤ cost v ∧ (k = 0 ∨ cost (bk es last v k) + bkPrice es last v k + 1 ≤ cost v ∨ T (bk es last v k) < T v) := by
  induction k with
  | zero => simp [bk, bkPrice, sumTo]
  | succ k ih =>
    obtain ⟨i1, i2⟩ := ih (fun j hj => hk j (by omega))
    have hw := (h.way _ (h.bk_lt hv k (fun j hj => hk j (by omega)) k (Nat.le_refl _)) (hk k (by omega))).2.2.2.2.2.2.1
    unfold bkPrice at i1 i2 ⊢
    simp only [bk, sumTo] at *
    split at hw
    · rename_i ht
      refine ⟨by omega, .inr ?_⟩
      rcases i2 with rfl | i2 | i2
      · exact .inr ht
      · exact .inl (by omega)
      · exact .inr (by omega)
    · exact ⟨by omega, .inr (.inl (by omega))⟩
/-- A circle of last steps costs less than 0. -/
theorem WInv.bk_neg (h : WInv es fl n S seen cost last T R c r done) {v : Nat} (hv : v < n) {k : Nat} (h0 : 0 < k) (hk : ∀ j, j < k → T (bk es last v j) ≠ 0) (he : bk es last v k = v) : bkPrice es last v k < 0 := by
  obtain ⟨i1, i2⟩ := h.bk_cost hv k hk
  rw [he] at i1 i2
  omega

/-- Potentials under which no step with room has a drift below 0. -/
def Pot (es : List A5) (fl : List Int) (p : Nat → Int) : Prop := ∀ s : St, s.arc < es.length → 0 < roomOf es fl s → 0 ≤ priceOf es s + p (s.srcN es) - p (s.dstN es)

theorem WInv.bk_pot (h : WInv es fl n S seen cost last T R c r done) {p : Nat → Int} (hp : Pot es fl p) {v : Nat} (hv : v < n) (k : Nat) (hk : ∀ j, j < k → T (bk es last v j) ≠ 0) : p v - p (bk es last v k) ≤ bkPrice es last v k := by
  induction k with
  | zero => simp [bk, bkPrice, sumTo]
  | succ k ih =>
    have i1 := ih (fun j hj => hk j (by omega))
    obtain ⟨-, a2, a3, a4, -⟩ := h.way _ (h.bk_lt hv k (fun j hj => hk j (by omega)) k (Nat.le_refl _)) (hk k (by omega))
    have := hp _ a2 a4
    rw [a3] at this
    unfold bkPrice at i1 ⊢
    simp only [bk, sumTo] at *
    omega
theorem WInv.bk_once (h : WInv es fl n S seen cost last T R c r done) {p : Nat → Int} (hp : Pot es fl p) {v : Nat} (hv : v < n) (k : Nat) (hk : ∀ j, j < k → T (bk es last v j) ≠ 0) (i j : Nat) (hij : i < j) (hj : j ≤ k) : bk es last v i ≠ bk es last v j := by
  intro e
  have hi := h.bk_lt hv k hk i (by omega)
  have hk2 : ∀ m, m < j - i → T (bk es last (bk es last v i) m) ≠ 0 := fun m hm => by rw [bk_add]; exact hk _ (by omega)
  have e2 : bk es last (bk es last v i) (j - i) = bk es last v i := by rw [bk_add, show i + (j - i) = j from by omega]; exact e.symm
  have h1 := h.bk_neg hi (by omega) hk2 e2
  have h2 := h.bk_pot hp hi _ hk2
  rw [e2] at h2
  omega
end

theorem pigeon : ∀ (n : Nat) (f : Nat → Nat), (∀ i, i ≤ n → f i < n) → ∃ i j, i < j ∧ j ≤ n ∧ f i = f j := by
  intro n
  induction n with
  | zero => intro f h; have := h 0 (Nat.le_refl _); omega
  | succ n ih =>
    intro f h
    by_cases hex : ∃ i, i ≤ n ∧ f i = f (n + 1)
    · obtain ⟨i, hi, e⟩ := hex
      exact ⟨i, n + 1, by omega, Nat.le_refl _, e⟩
    · have hne : ∀ i, i ≤ n → f i ≠ f (n + 1) := fun i hi e => hex ⟨i, hi, e⟩
      have ha := h (n + 1) (Nat.le_refl _)
      obtain ⟨i, j, hij, hj, e⟩ := ih (fun i => if f i = n then f (n + 1) else f i) (fun i hi => by
        have h1 := h i (by omega)
        have h2 := hne i hi
        split <;> omega)
      refine ⟨i, j, hij, by omega, ?_⟩
      have h1 := hne i (by omega)
      have h2 := hne j (by omega)
      split at e <;> split at e <;> omega

section
variable {xs : List Int} {es : List A5} {fl : List Int} {n : Nat} {S seen : Nat → Bool} {cost : Nat → Int} {last : Nat → St} {T R : Nat → Nat} {c r : Nat} {done : St → Prop}
theorem WInv.bk_short (h : WInv es fl n S seen cost last T R c r done) {p : Nat → Int} (hp : Pot es fl p) {v : Nat} (hv : v < n) (k : Nat) (hk : ∀ j, j < k → T (bk es last v j) ≠ 0) : k < n := by
  by_cases hkn : k < n
  · exact hkn
  · exfalso
    obtain ⟨i, j, hij, hj, e⟩ := pigeon n (bk es last v) (fun i hi => h.bk_lt hv k hk i (by omega))
    exact h.bk_once hp hv k hk i j hij (by omega) e
/-- Back from a way of round r there are r steps. -/
theorem WInv.bk_far (h : WInv es fl n S seen cost last T R c r done) {z q : Nat} (hz : z < n) (hq : R z = q) : ∀ j, j < q → T (bk es last z j) ≠ 0 := by
  have key : ∀ j, j < q → (∀ i, i < j → T (bk es last z i) ≠ 0) ∧ q ≤ R (bk es last z j) + j := by
    intro j
    induction j with
    | zero => intro _; exact ⟨fun i hi => by omega, by simp only [bk]; omega⟩
    | succ j ih =>
      intro hj
      obtain ⟨i1, i2⟩ := ih (by omega)
      have hlt := h.bk_lt hz j i1 j (Nat.le_refl _)
      have hT : T (bk es last z j) ≠ 0 := fun e => by have := (h.rnd _ hlt).2.1 e; omega
      refine ⟨fun i hi => ?_, ?_⟩
      · by_cases e : i = j
        · subst e; exact hT
        · exact i1 i (by omega)
      · have := (h.way _ hlt hT).2.2.2.2.2.2.2
        simp only [bk]
        omega
  intro j hj
  obtain ⟨i1, i2⟩ := key j hj
  intro e
  have hlt := h.bk_lt hz j i1 j (Nat.le_refl _)
  have := (h.rnd _ hlt).2.1 e
  omega
/-- With potentials, the last round finds nothing new: all steps are taken account of. -/
theorem WInv.closed (h : WInv es fl n S seen cost last T R c (n + 1) done) {newer : Int} (hnew : New n R n newer) (hno : newer = -1) : ∀ s : St, s.arc < es.length → 0 < roomOf es fl s → seen (s.srcN es) = true → s.srcN es < n → Sat es seen cost s := by
  rcases hnew with ⟨_, h2⟩ | ⟨z, hz, e, _⟩
  · intro s hs hr hsn hl
    exact h.sat s hs hr hsn (.inl (by have := h2 _ hl; omega))
  · omega
theorem WInv.none_new (h : WInv es fl n S seen cost last T R c (n + 1) done) {newer : Int} (hnew : New n R n newer) {p : Nat → Int} (hp : Pot es fl p) : newer = -1 := by
  rcases hnew with ⟨h1, _⟩ | ⟨z, hz, _, e⟩
  · exact h1
  · have := h.bk_short hp hz n (h.bk_far hz e)
    omega
end
end Go.Proofs.Ytampcheafdlomaa
