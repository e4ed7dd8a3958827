import Derived.Test.YtnbccoflcoaoaaaGreatOrdJ
namespace Go.Proofs.YtnbccoflcoaoaaaGreat
open Go.RowKit Go.Deep
set_option linter.unusedSimpArgs false
set_option linter.unusedVariables false

/-! ### four lists with spare room and a box for the answer, made in any order -/
def updS (s : Nat → Value) (d : Nat) (v : Value) : Nat → Value := fun k => if k = d then v else s k
theorem updS_self (s : Nat → Value) (d : Nat) (v : Value) : updS s d v d = v := by simp [updS]
theorem updS_ne (s : Nat → Value) (d : Nat) (v : Value) {k : Nat} (h : k ≠ d) : updS s d v k = s k := by simp [updS, h]
def RRoom (base : Nat) (w : World) (v : Value) (l : List Int) : Prop := ∃ g z, v = .slice (some ⟨g, 0, none⟩) l.length z ∧ Roomy w base v l ∧ base ≤ g ∧ g < w.heap.size
theorem RRoom.below {base : Nat} {w w' : World} {v : Value} {l : List Int} (h : RRoom base w v l) (hb : Below w.heap.size w w') : RRoom base w' v l := by
  obtain ⟨g, z, e, h1, h2, h3⟩ := h
  exact ⟨g, z, e, h1.below hb, h2, Nat.lt_of_lt_of_le h3 hb.size⟩
theorem RRoom.typed {base : Nat} {w : World} {v : Value} {l : List Int} (h : RRoom base w v l) : ∀ b, v.ownBlock = some b → Typed w b 3 ∧ base ≤ b ∧ b < w.heap.size := by
  obtain ⟨g, z, rfl, ⟨g', z', e', hown⟩, h2, h3⟩ := h
  intro b hb
  simp only [Value.ownBlock, Option.some.injEq] at hb
  subst hb
  cases e'
  exact own_typed hown _ rfl
theorem RRoom.blk {base : Nat} {w w' : World} {v : Value} {l : List Int} (h : RRoom base w v l) (hs : w.heap.size ≤ w'.heap.size) (hk : ∀ b, v.ownBlock = some b → w'.heap[b]? = w.heap[b]?) : RRoom base w' v l := by
  obtain ⟨g, z, rfl, ⟨g', z', e', hown⟩, h2, h3⟩ := h
  cases e'
  exact ⟨_, _, rfl, ⟨_, _, rfl, own_blk hown (fun k e => hk k (by simpa [Value.ownBlock] using e))⟩, h2, Nat.lt_of_lt_of_le h3 hs⟩

theorem RRoom.mono {base base' : Nat} {w : World} {v : Value} {l : List Int} (h : RRoom base w v l) (hb : base' ≤ base) : RRoom base' w v l := by
  obtain ⟨g, z, rfl, ⟨g', z', e', hown⟩, h2, h3⟩ := h
  exact ⟨g, z, rfl, ⟨g', z', e', ownsRow_mono hown hb⟩, by omega, h3⟩
theorem RRoom.open_ {base : Nat} {w : World} {v : Value} {l : List Int} (h : RRoom base w v l) : ∃ g z, v = .slice (some ⟨g, 0, none⟩) l.length z := by
  obtain ⟨g, z, e, _⟩ := h
  exact ⟨g, z, e⟩
theorem RRoom.roomy {base : Nat} {w : World} {v : Value} {l : List Int} (h : RRoom base w v l) : Roomy w base v l := by
  obtain ⟨g, z, e, h1, _⟩ := h
  exact h1
theorem RRoom.ints {base g z : Nat} {w : World} {l : List Int} (h : RRoom base w (.slice (some ⟨g, 0, none⟩) l.length z) l) (hn : l.length ≤ 2097152) (hw : ∀ x ∈ l, -9223372036854775808 ≤ x ∧ x ≤ 9223372036854775807) : Ints w (some ⟨g, 0, none⟩) l.length l := by
  obtain ⟨g', c', e, _, _, hI⟩ := h.roomy.ints (by omega) hw
  simp only [Value.slice.injEq] at e
  rw [e.1]
  exact hI
theorem roomy_r (a : Option Addr) (c : Nat) (l : List Int) (w : World) (hx : Ints w a l.length l) (hn : l.length ≤ 2097152) :
    Calls Tryz.prog 20 #[.slice a l.length c] w fun e w' => ∃ g z, e = .returned (.slice (some ⟨g, 0, none⟩) l.length z) ∧ RRoom w.heap.size w' (.slice (some ⟨g, 0, none⟩) l.length z) l ∧ w.heap.size ≤ g ∧ Below w.heap.size w w' := by
  refine (aRoomy_any a l.length c l w hx (by omega)).mono ?_
  rintro e w' ⟨v, rfl, hRo, hb⟩
  obtain ⟨g, z, rfl, hown⟩ := hRo
  exact ⟨g, z, rfl, ⟨g, z, rfl, ⟨g, z, rfl, hown⟩, (hown.lt g rfl).1, (hown.lt g rfl).2⟩, (hown.lt g rfl).1, hb⟩
theorem updS_same {s : Nat → Value} {d : Nat} {v : Value} (h : s d = v) : s = updS s d v := by
  funext k
  by_cases e : k = d
  · subst e; rw [updS_self, h]
  · rw [updS_ne _ _ _ e]

/-- What each operation has left in its slot. -/
def FU (base b9 : Nat) (vs : Nat → Value) (ls : Nat → List Int) (w : World) (s : Nat → Value) : Nat → Prop
  | 0 => s 39 = .pointer (some ⟨b9, 0, none⟩)
  | 1 => s 40 = vs 0
  | 2 => s 41 = .pointer (some ⟨b9, 1, none⟩)
  | 3 => s 42 = vs 1
  | 4 => s 43 = .pointer (some ⟨b9, 2, none⟩)
  | 5 => s 44 = vs 2
  | 6 => RRoom base w (s 45) (ls 0)
  | 7 => s 46 = .pointer (some ⟨b9, 3, none⟩)
  | 8 => s 47 = vs 3
  | 9 => RRoom base w (s 48) (ls 1)
  | 10 => s 49 = .pointer (some ⟨b9, 4, none⟩)
  | 11 => s 50 = vs 4
  | 12 => RRoom base w (s 51) (ls 2)
  | 13 => s 52 = .pointer (some ⟨b9, 5, none⟩)
  | 14 => s 53 = vs 5
  | 15 => RRoom base w (s 54) (ls 3)
  | 16 => s 55 = .agg #[vs 0, vs 1, s 45, s 48, s 51, s 54]
  | 17 => ∃ b, s 10 = .pointer (some ⟨b, 0, none⟩) ∧ base ≤ b ∧ ∃ f, w.rowIs b 35 6 f
  | 18 => ∃ b, s 10 = .pointer (some ⟨b, 0, none⟩) ∧ base ≤ b ∧ w.rowIs b 35 6 (ansRow (vs 0) (vs 1) (s 45) (s 48) (s 51) (s 54))
  | _ => True
def slotsU : Nat → List Nat
  | 16 => [55, 45, 48, 51, 54]
  | 17 => [10]
  | 18 => [10, 45, 48, 51, 54]
  | j => [39 + j]
theorem FU_upd {base b9 : Nat} {vs : Nat → Value} {ls : Nat → List Int} {w : World} {s : Nat → Value} {d : Nat} {v : Value} {j : Nat} (hd : d ∉ slotsU j) (h : FU base b9 vs ls w s j) : FU base b9 vs ls w (updS s d v) j := by
  match j, hd, h with
  | 0, hd, h | 1, hd, h | 2, hd, h | 3, hd, h | 4, hd, h | 5, hd, h | 6, hd, h | 7, hd, h | 8, hd, h | 9, hd, h | 10, hd, h | 11, hd, h | 12, hd, h | 13, hd, h | 14, hd, h | 15, hd, h =>
    simp [slotsU] at hd
    simp only [FU] at h ⊢
    rw [updS_ne _ _ _ (by omega)]
    exact h
  | 16, hd, h =>
    simp only [slotsU, List.mem_cons, List.not_mem_nil, or_false, not_or] at hd
    simp only [FU] at h ⊢
    rw [updS_ne _ _ _ (by omega), updS_ne _ _ _ (by omega), updS_ne _ _ _ (by omega), updS_ne _ _ _ (by omega), updS_ne _ _ _ (by omega)]
    exact h
  | 17, hd, h =>
    simp only [slotsU, List.mem_singleton] at hd
    simp only [FU] at h ⊢
    rw [updS_ne _ _ _ (by omega)]
    exact h
  | 18, hd, h =>
    simp only [slotsU, List.mem_cons, List.not_mem_nil, or_false, not_or] at hd
    simp only [FU] at h ⊢
    rw [updS_ne _ _ _ (by omega), updS_ne _ _ _ (by omega), updS_ne _ _ _ (by omega), updS_ne _ _ _ (by omega), updS_ne _ _ _ (by omega)]
    exact h
  | j + 19, _, _ => trivial
theorem FU_below {base b9 : Nat} {vs : Nat → Value} {ls : Nat → List Int} {w w' : World} {s : Nat → Value} {j : Nat} (hb : Below w.heap.size w w') (h : FU base b9 vs ls w s j) : FU base b9 vs ls w' s j := by
  match j, h with
  | 0, h | 1, h | 2, h | 3, h | 4, h | 5, h | 7, h | 8, h | 10, h | 11, h | 13, h | 14, h | 16, h => exact h
  | 6, h | 9, h | 12, h | 15, h =>
    exact RRoom.below h hb
  | 17, h =>
    obtain ⟨b, e, h0, f, hf⟩ := h
    exact ⟨b, e, h0, f, below_row hb hf hf.lt⟩
  | 18, h =>
    obtain ⟨b, e, h0, hf⟩ := h
    exact ⟨b, e, h0, below_row hb hf hf.lt⟩
  | j + 19, _ => trivial
structure RegU (w1 : World) (b9 : Nat) (vs : Nat → Value) (ls : Nat → List Int) (L : Nat → Prop) (s : Nat → Value) (w : World) : Prop where
  bel : Below w1.heap.size w1 w
  fac : ∀ j, L j → FU w1.heap.size b9 vs ls w s j
  apt : ∀ q r, q < 4 → r < 4 → q ≠ r → L (6 + 3 * q) → L (6 + 3 * r) → (s (45 + 3 * q)).ownBlock ≠ (s (45 + 3 * r)).ownBlock
theorem FU_call {base b9 : Nat} {vs : Nat → Value} {ls : Nat → List Int} {w : World} {s : Nat → Value} {q : Nat} (hq : q < 4) (h : FU base b9 vs ls w s (6 + 3 * q)) : RRoom base w (s (45 + 3 * q)) (ls q) := by
  match q, hq, h with
  | 0, _, h | 1, _, h | 2, _, h | 3, _, h => exact h
theorem RegU.step {w1 w w' : World} {b9 : Nat} {vs : Nat → Value} {ls : Nat → List Int} {L : Nat → Prop} {s : Nat → Value} {i : Nat} {v : Value} (h : RegU w1 b9 vs ls L s w) (hn : ¬ L i) (h16 : L 16 → ∀ j, j < 16 → L j) (h18 : L 18 → L 16) (hi : i < 16) (hb : Below w.heap.size w w') (hnew : FU w1.heap.size b9 vs ls w' (updS s (39 + i) v) i) (hap : ∀ q, q < 4 → i = 6 + 3 * q → ∀ b, v.ownBlock = some b → w.heap.size ≤ b) : RegU w1 b9 vs ls (fun j => L j ∨ j = i) (updS s (39 + i) v) w' := by
  refine ⟨h.bel.trans (hb.mono h.bel.size), fun j hj => ?_, fun q r hq hr hne hq1 hr1 => ?_⟩
  · rcases hj with hj | rfl
    · refine FU_upd ?_ (FU_below hb (h.fac j hj))
      have hji : j ≠ i := fun e => hn (by rw [← e]; exact hj)
      have n16 : j ≠ 16 := fun e => hn (h16 (by rw [← e]; exact hj) i hi)
      have n18 : j ≠ 18 := fun e => hn (h16 (h18 (by rw [← e]; exact hj)) i hi)
      by_cases n17 : j = 17
      · subst n17; simp [slotsU]; omega
      · have : slotsU j = [39 + j] := by
          unfold slotsU; split <;> first | omega | rfl
        rw [this, List.mem_singleton]; omega
    · exact hnew
  · have hlt : ∀ {q : Nat}, q < 4 → L (6 + 3 * q) → ∀ b, (s (45 + 3 * q)).ownBlock = some b → b < w.heap.size := fun hq hL b hb => ((FU_call hq (h.fac _ hL)).typed b hb).2.2
    have hsome : ∀ {q : Nat}, q < 4 → L (6 + 3 * q) → ∃ b, (s (45 + 3 * q)).ownBlock = some b := fun hq hL => by
      obtain ⟨g, z, e, _⟩ := FU_call hq (h.fac _ hL)
      rw [e]; exact ⟨g, rfl⟩
    by_cases eq : 6 + 3 * q = i
    · have er : 6 + 3 * r ≠ i := by omega
      have hLr : L (6 + 3 * r) := hr1.elim id (fun e => absurd e er)
      rw [show 45 + 3 * q = 39 + i by omega, updS_self, updS_ne _ _ _ (by omega)]
      obtain ⟨b, hb1⟩ := hsome hr hLr
      rw [hb1]
      intro e
      have h1 := hap q hq eq.symm b e
      have h2 := hlt hr hLr b hb1
      omega
    · have hLq : L (6 + 3 * q) := hq1.elim id (fun e => absurd e eq)
      by_cases er : 6 + 3 * r = i
      · rw [show 45 + 3 * r = 39 + i by omega, updS_self, updS_ne _ _ _ (by omega)]
        obtain ⟨b, hb1⟩ := hsome hq hLq
        rw [hb1]
        intro e
        have h1 := hap r hr er.symm b e.symm
        have h2 := hlt hq hLq b hb1
        omega
      · have hLr : L (6 + 3 * r) := hr1.elim id (fun e => absurd e er)
        rw [updS_ne _ _ _ (by omega), updS_ne _ _ _ (by omega)]
        exact h.apt q r hq hr hne hLq hLr
theorem RegU.build {w1 w : World} {b9 : Nat} {vs : Nat → Value} {ls : Nat → List Int} {L : Nat → Prop} {s : Nat → Value} {v : Value} (h : RegU w1 b9 vs ls L s w) (hn : ¬ L 16) (h18 : L 18 → L 16) (hv : v = .agg #[vs 0, vs 1, s 45, s 48, s 51, s 54]) : RegU w1 b9 vs ls (fun j => L j ∨ j = 16) (updS s 55 v) w := by
  refine ⟨h.bel, fun j hj => ?_, fun q r hq hr hne hq1 hr1 => ?_⟩
  · rcases hj with hj | rfl
    · refine FU_upd ?_ (h.fac j hj)
      have hji : j ≠ 16 := fun e => hn (by rw [← e]; exact hj)
      have n18 : j ≠ 18 := fun e => hn (h18 (by rw [← e]; exact hj))
      by_cases n17 : j = 17
      · subst n17; simp [slotsU]
      · have : slotsU j = [39 + j] := by
          unfold slotsU; split <;> first | omega | rfl
        rw [this, List.mem_singleton]; omega
    · show updS s 55 v 55 = _
      rw [updS_self, updS_ne _ _ _ (by omega), updS_ne _ _ _ (by omega), updS_ne _ _ _ (by omega), updS_ne _ _ _ (by omega)]
      exact hv
  · rw [updS_ne _ _ _ (by omega), updS_ne _ _ _ (by omega)]
    exact h.apt q r hq hr hne (hq1.elim id (fun e => by omega)) (hr1.elim id (fun e => by omega))
theorem RegU.box {w1 w : World} {b9 : Nat} {vs : Nat → Value} {ls : Nat → List Int} {L : Nat → Prop} {s : Nat → Value} (h : RegU w1 b9 vs ls L s w) (hn : ¬ L 17) (h18 : L 18 → L 17) (v0 v1 v2 v3 v4 v5 : Value) : RegU w1 b9 vs ls (fun j => L j ∨ j = 17) (updS s 10 (.pointer (some ⟨w.heap.size, 0, none⟩))) (w.alloc (.cells #[v0, v1, v2, v3, v4, v5] 35)) := by
  have hb : Below w.heap.size w (w.alloc (.cells #[v0, v1, v2, v3, v4, v5] 35)) := Joins.below_alloc1 _ _
  refine ⟨h.bel.trans (hb.mono h.bel.size), fun j hj => ?_, fun q r hq hr hne hq1 hr1 => ?_⟩
  · rcases hj with hj | rfl
    · refine FU_upd ?_ (FU_below hb (h.fac j hj))
      have hji : j ≠ 17 := fun e => hn (by rw [← e]; exact hj)
      have n18 : j ≠ 18 := fun e => hn (h18 (by rw [← e]; exact hj))
      by_cases n16 : j = 16
      · subst n16; simp [slotsU]
      · have : slotsU j = [39 + j] := by
          unfold slotsU; split <;> first | omega | rfl
        rw [this, List.mem_singleton]; omega
    · exact ⟨_, updS_self _ _ _, h.bel.size, _, ansRow_alloc _ _ _ _ _ _ _ _⟩
  · rw [updS_ne _ _ _ (by omega), updS_ne _ _ _ (by omega)]
    exact h.apt q r hq hr hne (hq1.elim id (fun e => by omega)) (hr1.elim id (fun e => by omega))
theorem FU_set {base b9 : Nat} {vs : Nat → Value} {ls : Nat → List Int} {w w' : World} {s : Nat → Value} {b j : Nat} (hs : w.heap.size ≤ w'.heap.size) (hk : ∀ k, k ≠ b → w'.heap[k]? = w.heap[k]?) {f : Nat → Value} (hf : w.rowIs b 35 6 f) (hj : j < 17) (h : FU base b9 vs ls w s j) : FU base b9 vs ls w' s j := by
  have hR : ∀ {v : Value} {l : List Int}, RRoom base w v l → RRoom base w' v l := fun hr => hr.blk hs (fun k e => hk k (fun e2 => by
    subst e2
    exact absurd ((hr.typed _ e).1.uniq (row_typed hf)) (by decide)))
  match j, hj, h with
  | 0, _, h | 1, _, h | 2, _, h | 3, _, h | 4, _, h | 5, _, h | 7, _, h | 8, _, h | 10, _, h | 11, _, h | 13, _, h | 14, _, h | 16, _, h => exact h
  | 6, _, h | 9, _, h | 12, _, h | 15, _, h => exact hR h
  | j + 17, hj, _ => omega
theorem RegU.put {w1 w : World} {b9 : Nat} {vs : Nat → Value} {ls : Nat → List Int} {L : Nat → Prop} {s : Nat → Value} (h : RegU w1 b9 vs ls L s w) (hn : ¬ L 18) (hlt : ∀ j, L j → j < 19) {b : Nat} {f : Nat → Value} (hb : w1.heap.size ≤ b) (hf : w.rowIs b 35 6 f) (h10 : s 10 = .pointer (some ⟨b, 0, none⟩)) : RegU w1 b9 vs ls (fun j => L j ∨ j = 18) s ((((((w.setCell ⟨b, 0, none⟩ (vs 0)).setCell ⟨b, 1, none⟩ (vs 1)).setCell ⟨b, 2, none⟩ (s 45)).setCell ⟨b, 3, none⟩ (s 48)).setCell ⟨b, 4, none⟩ (s 51)).setCell ⟨b, 5, none⟩ (s 54)) := by
  have hk : ∀ k, k ≠ b → ((((((w.setCell ⟨b, 0, none⟩ (vs 0)).setCell ⟨b, 1, none⟩ (vs 1)).setCell ⟨b, 2, none⟩ (s 45)).setCell ⟨b, 3, none⟩ (s 48)).setCell ⟨b, 4, none⟩ (s 51)).setCell ⟨b, 5, none⟩ (s 54)).heap[k]? = w.heap[k]? := fun k h => by
    rw [Below.heap_setCell _ _ _ _ h, Below.heap_setCell _ _ _ _ h, Below.heap_setCell _ _ _ _ h, Below.heap_setCell _ _ _ _ h, Below.heap_setCell _ _ _ _ h, Below.heap_setCell _ _ _ _ h]
  have hrow := ((((((hf.set 0 (vs 0)).set 1 (vs 1)).set 2 (s 45)).set 3 (s 48)).set 4 (s 51)).set 5 (s 54)).congr (g := ansRow (vs 0) (vs 1) (s 45) (s 48) (s 51) (s 54)) (fun i hi => by
    match i, hi with
    | 0, _ => rfl
    | 1, _ => rfl
    | 2, _ => rfl
    | 3, _ => rfl
    | 4, _ => rfl
    | 5, _ => rfl)
  refine ⟨((((((h.bel.setCell (p := ⟨b, 0, none⟩) hb _).setCell (p := ⟨b, 1, none⟩) hb _).setCell (p := ⟨b, 2, none⟩) hb _).setCell (p := ⟨b, 3, none⟩) hb _).setCell (p := ⟨b, 4, none⟩) hb _).setCell (p := ⟨b, 5, none⟩) hb _), fun j hj => ?_, fun q r hq hr hne hq1 hr1 => ?_⟩
  · rcases hj with hj | rfl
    · by_cases h17 : j = 17
      · subst h17
        exact ⟨b, h10, hb, _, hrow⟩
      · exact FU_set (by simp [World.setCell]) hk hf (by have := hlt j hj; have : j ≠ 18 := (fun e => hn (by rw [← e]; exact hj)); omega) (h.fac j hj)
    · exact ⟨b, h10, hb, hrow⟩
  · exact h.apt q r hq hr hne (hq1.elim id (fun e => by omega)) (hr1.elim id (fun e => by omega))
theorem RegU.start (w1 : World) (b9 : Nat) (vs : Nat → Value) (ls : Nat → List Int) (s : Nat → Value) : RegU w1 b9 vs ls (fun _ => False) s w1.drew :=
  ⟨(Below.refl _ _).drew, fun _ h => h.elim, fun _ _ _ _ _ h => h.elim⟩
def lsF (a b c d : List Int) : Nat → List Int
  | 0 => a
  | 1 => b
  | 2 => c
  | _ => d
/-- The answer's copy: its box, and its four lists, each in memory of its own. -/
def NewB (w1 wx : World) (p : Value) (kd cs : Int) (fl po cu ci : List Int) : Prop :=
  ∃ b vF vP vC vR, p = .pointer (some ⟨b, 0, none⟩) ∧ w1.heap.size ≤ b ∧ wx.rowIs b 35 6 (ansRow (.int .i64 kd) (.int .i64 cs) vF vP vC vR) ∧ (RRoom w1.heap.size wx vF fl ∧ RRoom w1.heap.size wx vP po ∧ RRoom w1.heap.size wx vC cu ∧ RRoom w1.heap.size wx vR ci) ∧
    (vF.ownBlock ≠ vP.ownBlock ∧ vF.ownBlock ≠ vC.ownBlock ∧ vF.ownBlock ≠ vR.ownBlock ∧ vP.ownBlock ≠ vC.ownBlock ∧ vP.ownBlock ≠ vR.ownBlock ∧ vC.ownBlock ≠ vR.ownBlock) ∧ Below w1.heap.size w1 wx
theorem RegU.fin {w1 w : World} {b9 : Nat} {kd cs : Int} {v2 v3 v4 v5 : Value} {fl po cu ci : List Int} {L : Nat → Prop} {s : Nat → Value} (h : RegU w1 b9 (ansRow (.int .i64 kd) (.int .i64 cs) v2 v3 v4 v5) (lsF fl po cu ci) L s w) (hall : ∀ j, j < 19 → L j) : NewB w1 w (s 10) kd cs fl po cu ci := by
  obtain ⟨b, e, hb, hrow⟩ := h.fac 18 (hall 18 (by omega))
  refine ⟨b, _, _, _, _, e, hb, hrow, ⟨h.fac 6 (hall 6 (by omega)), h.fac 9 (hall 9 (by omega)), h.fac 12 (hall 12 (by omega)), h.fac 15 (hall 15 (by omega))⟩, ⟨?_, ?_, ?_, ?_, ?_, ?_⟩, h.bel⟩
  · exact h.apt 0 1 (by omega) (by omega) (by omega) (hall _ (by omega)) (hall _ (by omega))
  · exact h.apt 0 2 (by omega) (by omega) (by omega) (hall _ (by omega)) (hall _ (by omega))
  · exact h.apt 0 3 (by omega) (by omega) (by omega) (hall _ (by omega)) (hall _ (by omega))
  · exact h.apt 1 2 (by omega) (by omega) (by omega) (hall _ (by omega)) (hall _ (by omega))
  · exact h.apt 1 3 (by omega) (by omega) (by omega) (hall _ (by omega)) (hall _ (by omega))
  · exact h.apt 2 3 (by omega) (by omega) (by omega) (hall _ (by omega)) (hall _ (by omega))
end Go.Proofs.YtnbccoflcoaoaaaGreat
