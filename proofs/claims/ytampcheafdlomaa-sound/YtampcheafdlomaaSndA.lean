import Derived.Test.YtampcheafdlomaaSndP
import Derived.Test.YtampcheafdlomaaAccM
import Derived.Deep.RegionWith
namespace Go.Proofs.Ytampcheafdlomaa
open Go.RowKit Go.Deep
set_option linter.unusedSimpArgs false
set_option linter.unusedVariables false

/-! ### one unit more round the circle, arc by arc -/
def moreTo (fl ci : List Int) : Nat → List Int
  | 0 => fl
  | k + 1 => bump (moreTo fl ci k) (ci.getD k 0).toNat
theorem more_len (fl ci : List Int) (k : Nat) : (moreTo fl ci k).length = fl.length := by
  induction k with
  | zero => rfl
  | succ k ih => simp only [moreTo, bump_len, ih]
theorem more_net {es : List A5} {fl ci : List Int} (hl : fl.length = es.length) (ho : onceB es.length ci = true) (node : Int) (k : Nat) (hk : k ≤ ci.length) :
    netTo es (moreTo fl ci k) node es.length = netTo es fl node es.length + ringTo es ci node k := by
  induction k with
  | zero => simp [moreTo, ringTo]
  | succ k ih =>
    have hv := once_out ho (i := k) (by omega)
    simp only [moreTo, ringTo]
    rw [bump_net es _ _ (by rw [more_len, hl]; omega), ih (by omega), if_pos (by omega)]
    unfold arcOf
    omega
theorem more_cost {es : List A5} {fl ci : List Int} (hl : fl.length = es.length) (ho : onceB es.length ci = true) (k : Nat) (hk : k ≤ ci.length) :
    costTo es (moreTo fl ci k) es.length = costTo es fl es.length + circTo es ci k := by
  induction k with
  | zero => simp [moreTo, circTo]
  | succ k ih =>
    have hv := once_out ho (i := k) (by omega)
    simp only [moreTo, circTo]
    rw [bump_cost es _ _ (by rw [more_len, hl]; omega), ih (by omega), if_pos (by omega)]
    unfold arcOf
    omega

/-- A flow's numbers keep the bounds. -/
def Bds (es : List A5) (y : List Int) : Prop := ∀ i, i < es.length → (es.getD i zA).lo ≤ y.getD i 0 ∧ y.getD i 0 ≤ 1000000 ∧ ((es.getD i zA).cap = -1 ∨ y.getD i 0 ≤ (es.getD i zA).cap)
theorem more_bds {es : List A5} {fl ci : List Int} (hl : fl.length = es.length) (ho : onceB es.length ci = true) (hu : unlB es ci = true) {k : Nat} (hk : k < ci.length) (h : Bds es (moreTo fl ci k)) (hm : (moreTo fl ci k).getD (ci.getD k 0).toNat 0 < 1000000) : Bds es (moreTo fl ci (k + 1)) := by
  have hv := once_out ho hk
  have hcap : (es.getD (ci.getD k 0).toNat zA).cap = -1 := by have := of_all hu k hk; simpa [unlAt, arcOf] using this
  intro i hi
  have hb := h i hi
  simp only [moreTo]
  rw [bump_at _ _ _ (by rw [more_len, hl]; omega)]
  by_cases he : i = (ci.getD k 0).toNat
  · subst he
    rw [if_pos rfl]
    refine ⟨by omega, by omega, .inl hcap⟩
  · rw [if_neg he]; exact hb

theorem end_more {xs : List Int} {es : List A5} {fl ci : List Int} (hf : Fits xs es fl) (hg : goodB es ci = true) (hb : Bds es (moreTo fl ci ci.length)) :
    flowErr xs es (moreTo fl ci ci.length) = 0 ∧ costTo es (moreTo fl ci ci.length) es.length < costTo es fl es.length := by
  unfold goodB at hg
  rw [next_prev] at hg
  simp only [Bool.and_eq_true, decide_eq_true_eq] at hg
  obtain ⟨⟨⟨⟨ho, hu⟩, hp⟩, h0⟩, hc⟩ := hg
  refine ⟨of_fits ⟨by rw [more_len]; exact hf.len, hb, fun k hk => ?_⟩, ?_⟩
  · rw [more_net hf.len ho _ _ (Nat.le_refl _), ring_zero hp, hf.bal k hk]; omega
  · rw [more_cost hf.len ho _ (Nat.le_refl _)]; omega

/-- A row of its own that an append has made. -/
def OwnRow (w : World) (lo n : Nat) (a : Option Addr) (c : Nat) (l : List Int) : Prop :=
  n = 0 ∨ ∃ g f, a = some ⟨g, 0, none⟩ ∧ lo ≤ g ∧ w.rowIs g 3 c f ∧ n ≤ c ∧ ∀ i, i < n → f i = .int .i64 (l.getD i 0)

theorem own_row {w : World} {lo : Nat} {v : Value} {n : Nat} {xs : List Int} (h : w.ownsRow lo 3 1 v n (intCells xs)) (hl : xs.length = n) : ∃ a c, v = .slice a n c ∧ OwnRow w lo n a c xs := by
  rcases h.2 with ⟨rfl, rfl⟩ | ⟨g, cap, cur, rfl, hg, hh, hn, _, hc, ht⟩
  · exact ⟨none, 0, rfl, .inl rfl⟩
  · refine ⟨_, _, rfl, .inr ⟨g, fun i => cur.getD i (.bool false), rfl, hg, ⟨cur, hh, by omega, fun i hi => ?_⟩, hn, fun i hi => ?_⟩⟩
    · simp [Array.getD, show i < cur.size by omega]
    · have h1 := own_cell (base := lo) (cap := cap) hh ht i _ (intCells_at xs i (by omega))
      rw [Joins.cell_of_block hh] at h1
      simp [Array.getD, show i < cur.size by omega] at h1 ⊢
      exact h1

theorem wpList_copy_row {w : World} {ops : Array Oper} {rest : List Oper} {o : Oper} {a : Act} {Q : Exit → Act → World → Prop} (hgd : o.guard = none) (s x : Operand)
    (ho : o.op = .call { callee := .builtin .append, args := #[s, x], argTypes := #[22, 22] })
    (hs : a.eval s = .slice none 0 0) (sa : Option Addr) (m c : Nat) (hx : a.eval x = .slice sa m c) (xs : List Int) (hX : Ints w sa m xs)
    (h : ∀ a' c' w', OwnRow w' w.heap.size m a' c' xs → Below w.heap.size w w' → wpList Try.prog ops Q rest (a.put o.dst (.slice a' m c')) w') : wpList Try.prog ops Q (o :: rest) a w := by
  obtain ⟨i0, hi, hz0, hz1, hz2⟩ := info_parts infoInt
  have hsm := hX.small
  refine wpList_append_copy w hgd s x 22 ho 3 i0 _ 1 8 Try.underlying22 hi hz0 hz1 hz2 rfl (by decide) hs sa m c hx (intCells xs) (by rw [intCells_length, hX.len]; omega) hX.src (intCells_one xs) (by unfold maxLen; omega) (by omega) ?_
  intro v' w' hown hgr
  obtain ⟨a', c', rfl, hO⟩ := own_row hown hX.len
  exact h a' c' w' hO ((Below.refl _ _).grown hgr (Nat.le_refl _) (fun k hk => by cases hk))

theorem lit_one (w : World) : Ints (w.alloc (.cells #[.int .i64 0] 3)) (some ⟨w.heap.size, 0, none⟩) 1 [0] :=
  ⟨rfl, by omega, fun x hx => by simp at hx; subst hx; omega, .inr ⟨w.heap.size, 0, rfl, by simp, fun i hi => by
    have : i = 0 := by omega
    subst this; simp⟩⟩
theorem nil_ints (w : World) : Ints w none 0 [] := ⟨rfl, by omega, fun x hx => by simp at hx, .inl rfl⟩
theorem nil_arcs (w : World) : Arcs w none 0 [] := ⟨rfl, by omega, fun x hx => by simp at hx, .inl rfl⟩

theorem acc_one : accS [0] [] ⟨1, 0, [], [0], [], []⟩ = (true, 0) := by decide
theorem acc_two : accS [0] [] ⟨2, 0, [], [], [0], []⟩ = (false, 0) := by decide

set_option maxHeartbeats 1000000 in
theorem taken_any (w : World) : Calls Try.prog 27 #[] w fun e w' => e = .returned (.bool true) ∧ Below w.heap.size w w' := by
  go_enter Try.func27, Try.ntmps27
  go_wp2_with fail
  have b1 : Below w.heap.size w (w.alloc (.cells #[.int .i64 0] 3)) := Joins.below_alloc1 _ _
  have i1 := (lit_one w).below (Joins.below_alloc2 (w.alloc (.cells #[.int .i64 0] 3)) (.cells #[.slice (some ⟨w.heap.size, 0, none⟩) 1 1, .slice none 0 0] 25) (.cells #[.int .i64 0] 3))
  have i2 := lit_one ((w.alloc (.cells #[.int .i64 0] 3)).alloc (.cells #[.slice (some ⟨w.heap.size, 0, none⟩) 1 1, .slice none 0 0] 25))
  have i3 : Ints (((w.alloc (.cells #[.int .i64 0] 3)).alloc (.cells #[.slice (some ⟨w.heap.size, 0, none⟩) 1 1, .slice none 0 0] 25)).alloc (.cells #[.int .i64 0] 3)) (some ⟨w.heap.size + 1 + 1, 0, none⟩) 1 [0] := by simpa using i2
  have hb3 := Joins.below_alloc3 w (.cells #[.int .i64 0] 3) (.cells #[.slice (some ⟨w.heap.size, 0, none⟩) 1 1, .slice none 0 0] 25) (.cells #[.int .i64 0] 3)
  refine (accept_any (some ⟨w.heap.size, 0, none⟩) none none (some ⟨w.heap.size + 1 + 1, 0, none⟩) none none 1 1 0 0 0 0 1 1 0 0 0 0 1 0 [0] [] [] [0] [] [] _ i1 (nil_arcs _) ⟨nil_ints _, i3, nil_ints _, nil_ints _⟩).mono ?_
  rintro e w1 ⟨rfl, hb1⟩
  rw [acc_one]
  have j1 := i1.below hb1
  have k0 : w1.cell? ⟨w.heap.size + 1, 0, none⟩ = some (.slice (some ⟨w.heap.size, 0, none⟩) 1 1) := (hb1.cell (by simp)).trans (by go_simp)
  have k1 : w1.cell? ⟨w.heap.size + 1, 1, none⟩ = some (.slice none 0 0) := (hb1.cell (by simp)).trans (by go_simp)
  have hB1 : Below w.heap.size w w1 := hb3.trans (hb1.mono (by simp; omega))
  have hz1 : w.heap.size + 1 < w1.heap.size := by have := hb1.size; simp at this; omega
  clear b1 i1 i2 i3 hb3 hb1
  go_wp2_with fail
  refine (accept_any (some ⟨w.heap.size, 0, none⟩) none none none (some ⟨w1.heap.size, 0, none⟩) none 1 1 0 0 0 0 0 0 1 1 0 0 2 0 [0] [] [] [] [0] [] _ (j1.below (Joins.below_alloc1 _ _)) (nil_arcs _) ⟨nil_ints _, nil_ints _, lit_one w1, nil_ints _⟩).mono ?_
  rintro e w2 ⟨rfl, hb2⟩
  rw [acc_two]
  have hB2 : Below w.heap.size w w2 := (hB1.alloc hB1.size _).trans (hb2.mono (by simp; omega))
  clear k0 k1 hb2 j1
  go_wp2
  go_ret
  exact ⟨rfl, hB2⟩
end Go.Proofs.Ytampcheafdlomaa
