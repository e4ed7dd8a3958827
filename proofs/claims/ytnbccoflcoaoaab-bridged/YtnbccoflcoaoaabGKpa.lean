import Derived.Test.YtnbccoflcoaoaabGAcc
import Derived.Test.YtnbccoflcoaoaabGBas
import Derived.Test.YtnbccoflcoaoaabGSol
import Derived.Test.YtnbccoflcoaoaabGDuo
import Derived.Deep.DeepCutAuto
import Derived.BigRegion
namespace Go.Proofs.Ytnbccoflcoaoaab
open Go.RowKit Go.Deep
set_option linter.unusedSimpArgs false
set_option linter.unusedVariables false

/-! ### a copy of a net, its rows one's own -/
def A5.put (a : A5) (j : Nat) (x : Int) : A5 := match j with | 0 => { a with fr := x } | 1 => { a with «to» := x } | 2 => { a with lo := x } | 3 => { a with cap := x } | _ => { a with cost := x }
theorem A5.put_at (a : A5) (j k : Nat) (x : Int) (hj : j < 5) (hk : k < 5) : (a.put j x).at k = if k = j then x else a.at k := by
  match j, hj, k, hk with
  | 0, _, 0, _ | 0, _, 1, _ | 0, _, 2, _ | 0, _, 3, _ | 0, _, 4, _ => rfl
  | 1, _, 0, _ | 1, _, 1, _ | 1, _, 2, _ | 1, _, 3, _ | 1, _, 4, _ => rfl
  | 2, _, 0, _ | 2, _, 1, _ | 2, _, 2, _ | 2, _, 3, _ | 2, _, 4, _ => rfl
  | 3, _, 0, _ | 3, _, 1, _ | 3, _, 2, _ | 3, _, 3, _ | 3, _, 4, _ => rfl
  | 4, _, 0, _ | 4, _, 1, _ | 4, _, 2, _ | 4, _, 3, _ | 4, _, 4, _ => rfl

def ArcRow (w : World) (lo n : Nat) (a : Option Addr) (c : Nat) (es : List A5) : Prop :=
  (n = 0 ∧ a = none ∧ c = 0) ∨ ∃ g f, a = some ⟨g, 0, none⟩ ∧ lo ≤ g ∧ w.rowIs g 32 (c * 5) f ∧ n ≤ c ∧ ∀ i, i < n → ∀ j, j < 5 → f (i * 5 + j) = .int .i64 ((es.getD i zA).at j)
theorem arc_row {w : World} {lo : Nat} {v : Value} {n : Nat} {es : List A5} (h : w.ownsRow lo 32 5 v n (arcCells es)) (hl : es.length = n) : ∃ a c, v = .slice a n c ∧ c ≤ maxLen ∧ ArcRow w lo n a c es := by
  rcases h.2 with ⟨rfl, rfl⟩ | ⟨g, cap, cur, rfl, hg, hh, hn, hm, hc, ht⟩
  · exact ⟨none, 0, rfl, Nat.zero_le _, .inl ⟨rfl, rfl, rfl⟩⟩
  · refine ⟨_, _, rfl, hm, .inr ⟨g, fun i => cur.getD i (.bool false), rfl, hg, ⟨cur, hh, by omega, fun i hi => ?_⟩, hn, fun i hi j hj => ?_⟩⟩
    · simp [Array.getD, show i < cur.size by omega]
    · have h1 := own_cell (base := lo) (cap := cap) hh ht (i * 5 + j) _ (arcCells_at es i j (by omega) hj)
      rw [Joins.cell_of_block hh] at h1
      have hlt : i * 5 + j < cur.size := by rw [hc]; have : (i + 1) * 5 ≤ cap * 5 := Nat.mul_le_mul_right 5 (by omega); omega
      simp [Array.getD, hlt] at h1 ⊢
      exact h1

theorem own_row2 {w : World} {lo : Nat} {v : Value} {n : Nat} {xs : List Int} (h : w.ownsRow lo 3 1 v n (intCells xs)) (hl : xs.length = n) : ∃ a c, v = .slice a n c ∧ c ≤ maxLen ∧ OwnRow w lo n a c xs := by
  obtain ⟨a, c, rfl, hO⟩ := own_row h hl
  refine ⟨a, c, rfl, ?_, hO⟩
  rcases h.2 with ⟨e, _⟩ | ⟨g, cap, cur, e, _, _, _, hm, _⟩
  · cases e; exact Nat.zero_le _
  · cases e; exact hm
theorem wpList_copy_row2 {w : World} {ops : Array Oper} {rest : List Oper} {o : Oper} {a : Act} {Q : Exit → Act → World → Prop} (hgd : o.guard = none) (s x : Operand)
    (ho : o.op = .call { callee := .builtin .append, args := #[s, x], argTypes := #[22, 22] })
    (hs : a.eval s = .slice none 0 0) (sa : Option Addr) (m c : Nat) (hx : a.eval x = .slice sa m c) (xs : List Int) (hX : Ints w sa m xs)
    (h : ∀ a' c' w', c' ≤ maxLen → OwnRow w' w.heap.size m a' c' xs → Below w.heap.size w w' → wpList Try.prog ops Q rest (a.put o.dst (.slice a' m c')) w') : wpList Try.prog ops Q (o :: rest) a w := by
  obtain ⟨i0, hi, hz0, hz1, hz2⟩ := info_parts infoInt
  have hsm := hX.small
  refine wpList_append_copy w hgd s x 22 ho 3 i0 _ 1 8 Try.underlying22 hi hz0 hz1 hz2 rfl (by decide) hs sa m c hx (intCells xs) (by rw [intCells_length, hX.len]; omega) hX.src (intCells_one xs) (by unfold maxLen; omega) (by omega) ?_
  intro v' w' hown hgr
  obtain ⟨a', c', rfl, hm, hO⟩ := own_row2 hown hX.len
  exact h a' c' w' hm hO ((Below.refl _ _).grown hgr (Nat.le_refl _) (fun k hk => by cases hk))

/-- The blocks of two lists are not one. -/
def Apart (a b : Option Addr) : Prop := ∀ p q, a = some p → b = some q → p.block ≠ q.block

theorem wpList_copy_arow {w : World} {ops : Array Oper} {rest : List Oper} {o : Oper} {a : Act} {Q : Exit → Act → World → Prop} (hgd : o.guard = none) (s x : Operand)
    (ho : o.op = .call { callee := .builtin .append, args := #[s, x], argTypes := #[23, 23] })
    (hs : a.eval s = .slice none 0 0) (sa : Option Addr) (m c : Nat) (hx : a.eval x = .slice sa m c) (es : List A5) (hX : Arcs w sa m es)
    (h : ∀ a' c' w', c' ≤ maxLen → ArcRow w' w.heap.size m a' c' es → Below w.heap.size w w' → wpList Try.prog ops Q rest (a.put o.dst (.slice a' m c')) w') : wpList Try.prog ops Q (o :: rest) a w := by
  obtain ⟨i0, hi, hz0, hz1, hz2⟩ := info_parts infoArc
  have hsm := hX.small
  refine wpList_append_copy w hgd s x 23 ho 32 i0 _ 5 40 Try.underlying23 hi hz0 hz1 hz2 rfl (by decide) hs sa m c hx (arcCells es) (by rw [arcCells_length, hX.len]) hX.src (arcCells_one es) (by unfold maxLen; omega) (by omega) ?_
  intro v' w' hown hgr
  obtain ⟨a', c', rfl, hm, hI⟩ := arc_row hown hX.len
  exact h a' c' w' hm hI ((Below.refl _ _).grown hgr (Nat.le_refl _) (fun k hk => by cases hk))

theorem OwnRow.grow {w w' : World} {lo n : Nat} {a : Option Addr} {c : Nat} {l : List Int} (h : OwnRow w lo n a c l) (hb : ∀ g, lo ≤ g → g < w.heap.size → w'.heap[g]? = w.heap[g]?) : OwnRow w' lo n a c l :=
  h.imp id fun ⟨g, f, e, hl, hr, r⟩ => ⟨g, f, e, hl, hr.of_block (hb g hl hr.lt), r⟩
theorem ArcRow.grow {w w' : World} {lo n : Nat} {a : Option Addr} {c : Nat} {l : List A5} (h : ArcRow w lo n a c l) (hb : ∀ g, lo ≤ g → g < w.heap.size → w'.heap[g]? = w.heap[g]?) : ArcRow w' lo n a c l :=
  h.imp id fun ⟨g, f, e, hl, hr, r⟩ => ⟨g, f, e, hl, hr.of_block (hb g hl hr.lt), r⟩
theorem OwnRow.mono {w : World} {lo lo' n : Nat} {a : Option Addr} {c : Nat} {l : List Int} (h : OwnRow w lo n a c l) (hb : lo' ≤ lo) : OwnRow w lo' n a c l :=
  h.imp id fun ⟨g, f, e, hl, r⟩ => ⟨g, f, e, by omega, r⟩
theorem ArcRow.mono {w : World} {lo lo' n : Nat} {a : Option Addr} {c : Nat} {l : List A5} (h : ArcRow w lo n a c l) (hb : lo' ≤ lo) : ArcRow w lo' n a c l :=
  h.imp id fun ⟨g, f, e, hl, r⟩ => ⟨g, f, e, by omega, r⟩
theorem OwnRow.ints {w : World} {lo n : Nat} {a : Option Addr} {c : Nat} {l : List Int} (h : OwnRow w lo n a c l) (hl : l.length = n) (hs : n ≤ 17592186044416) (hb : ∀ x ∈ l, -9223372036854775808 ≤ x ∧ x ≤ 9223372036854775807) : Ints w a n l :=
  ⟨hl, hs, hb, h.imp id fun ⟨g, f, e, _, hr, hn, hf⟩ => ⟨g, 0, e, hr.lt, fun i hi => by rw [Nat.zero_add, hr.cell (by omega), hf i hi]⟩⟩
theorem ArcRow.arcs {w : World} {lo n : Nat} {a : Option Addr} {c : Nat} {l : List A5} (h : ArcRow w lo n a c l) (hl : l.length = n) (hs : n ≤ 3518437208883) (hb : ∀ x ∈ l, ∀ j, -9223372036854775808 ≤ x.at j ∧ x.at j ≤ 9223372036854775807) : Arcs w a n l :=
  ⟨hl, hs, hb, h.imp (·.1) fun ⟨g, f, e, _, hr, hn, hf⟩ => ⟨g, 0, e, hr.lt, fun i hi j hj => by
    have : (i + 1) * 5 ≤ c * 5 := Nat.mul_le_mul_right 5 (by omega)
    rw [Nat.zero_add, hr.cell (by omega), hf i hi j hj]⟩⟩

/-- A copy: Supply's row lies ahead of block m, Arcs' from m on. -/
def CopyRows (w : World) (lo m : Nat) (sa : Option Addr) (sn sc : Nat) (aa : Option Addr) (an ac : Nat) (xs : List Int) (es : List A5) : Prop :=
  OwnRow w lo sn sa sc xs ∧ ArcRow w m an aa ac es ∧ lo ≤ m ∧ (∀ p, 0 < sn → sa = some p → p.block < m) ∧ ac ≤ maxLen ∧ sc ≤ maxLen

set_option maxHeartbeats 1000000 in
theorem refCopyOwn_any (sa aa : Option Addr) (sn sc an ac : Nat) (xs : List Int) (es : List A5) (w : World) (hx : Ints w sa sn xs) (he : Arcs w aa an es) :
    Calls Try.prog 10 #[.agg #[.slice sa sn sc, .slice aa an ac]] w fun e w' => ∃ sa' sc' aa' ac' m, e = .returned (.agg #[.slice sa' sn sc', .slice aa' an ac']) ∧ CopyRows w' w.heap.size m sa' sn sc' aa' an ac' xs es ∧ Below w.heap.size w w' := by
  go_enter Try.func10, Try.ntmps10
  go_wp2_with (at_builtin; refine wpList_copy_row2 rfl _ _ rfl rfl sa sn sc rfl xs (hx.below ?_) ?_)
  · exact (((Below.refl _ _).alloc (Nat.le_refl _) _).alloc (by simp) _).alloc (by simp; omega) _
  intro sa' sc' w1 hsl hI hb
  have HSL := hide hsl
  clear hsl
  have hz1 : w.heap.size + 1 + 1 < w1.heap.size := by have := hb.size; simp at this; omega
  have c0 : w1.cell? ⟨w.heap.size, 0, none⟩ = some (.slice sa sn sc) := (hb.cell (by simp; omega)).trans (by go_simp)
  have c1 : w1.cell? ⟨w.heap.size, 1, none⟩ = some (.slice aa an ac) := (hb.cell (by simp; omega)).trans (by go_simp)
  have r0 : w1.cell? ⟨w.heap.size + 1, 0, none⟩ = some (.slice none 0 0) := (hb.cell (by simp)).trans (by go_simp)
  have r1 : w1.cell? ⟨w.heap.size + 1, 1, none⟩ = some (.slice none 0 0) := (hb.cell (by simp)).trans (by go_simp)
  have d0 : w1.cell? ⟨w.heap.size + 1 + 1, 0, none⟩ = some (.slice none 0 0) := (hb.cell (by simp)).trans (by go_simp)
  have d1 : w1.cell? ⟨w.heap.size + 1 + 1, 1, none⟩ = some (.slice none 0 0) := (hb.cell (by simp)).trans (by go_simp)
  have f0 : w1.frozen? ⟨w.heap.size + 1, 0, none⟩ = false := (hb.frozen (by simp)).trans (by go_simp)
  have f1 : w1.frozen? ⟨w.heap.size + 1, 1, none⟩ = false := (hb.frozen (by simp)).trans (by go_simp)
  have g0 : w1.frozen? ⟨w.heap.size + 1 + 1, 0, none⟩ = false := (hb.frozen (by simp)).trans (by go_simp)
  have g1 : w1.frozen? ⟨w.heap.size + 1 + 1, 1, none⟩ = false := (hb.frozen (by simp)).trans (by go_simp)
  have hb1 : Below w.heap.size w w1 := by
    refine Below.trans ?_ (hb.mono ?_)
    · exact (((Below.refl _ _).alloc (Nat.le_refl _) _).alloc (by simp) _).alloc (by simp; omega) _
    · omega
  have hI1 : OwnRow w1 (w.heap.size + 1 + 1 + 1) sn sa' sc' xs := hI
  clear hI hb hx
  go_wp2_with (at_builtin; refine wpList_copy_arow rfl _ _ rfl rfl aa an ac rfl es (he.below ?_) ?_)
  · exact hb1.setCell (by show w.heap.size ≤ w.heap.size + 1 + 1; omega) _
  intro aa' ac' w2 hml hA hb2
  have hz2 : w1.heap.size ≤ w2.heap.size := by have := hb2.size; simpa using this
  have r0' : w2.cell? ⟨w.heap.size + 1, 0, none⟩ = some (.slice none 0 0) := (hb2.cell (by simp; omega)).trans (by go_simp)
  have r1' : w2.cell? ⟨w.heap.size + 1, 1, none⟩ = some (.slice none 0 0) := (hb2.cell (by simp; omega)).trans (by go_simp)
  have d0' : w2.cell? ⟨w.heap.size + 1 + 1, 0, none⟩ = some (.slice sa' sn sc') := (hb2.cell (by simp; omega)).trans (by go_simp)
  have d1' : w2.cell? ⟨w.heap.size + 1 + 1, 1, none⟩ = some (.slice none 0 0) := (hb2.cell (by simp; omega)).trans (by go_simp)
  have f0' : w2.frozen? ⟨w.heap.size + 1, 0, none⟩ = false := (hb2.frozen (by simp; omega)).trans (by go_simp)
  have f1' : w2.frozen? ⟨w.heap.size + 1, 1, none⟩ = false := (hb2.frozen (by simp; omega)).trans (by go_simp)
  have g1' : w2.frozen? ⟨w.heap.size + 1 + 1, 1, none⟩ = false := (hb2.frozen (by simp; omega)).trans (by go_simp)
  have hb3 : Below w.heap.size w w2 := (hb1.setCell (by show w.heap.size ≤ w.heap.size + 1 + 1; omega) _).trans (hb2.mono (by omega))
  have hA1 : ArcRow w2 w1.heap.size an aa' ac' es := hA
  have hI2 : OwnRow w2 (w.heap.size + 1 + 1 + 1) sn sa' sc' xs := hI1.grow (fun g hlo hlt => by
    rw [hb2.block g (by simpa [World.setCell] using hlt)]
    exact Below.heap_setCell _ _ _ _ (by show g ≠ w.heap.size + 1 + 1; omega))
  have hap : Hid (∀ p, 0 < sn → sa' = some p → p.block < w1.heap.size) := by
    intro p hs0 hp
    rcases hI1 with h0 | ⟨g, f, e, _, hr, _⟩
    · omega
    · rw [e] at hp; cases hp; exact hr.lt
  have HML := hide hml
  clear hml
  have HI2 := hide hI2
  have HA1 := hide hA1
  clear c0 c1 r0 r1 d0 d1 f0 f1 g0 g1 hb2 hb1 he hI1 hI2 hA hA1
  go_wp2
  have hk : ∀ g, w.heap.size + 1 + 1 + 1 ≤ g → g < w2.heap.size → (((w2.setCell ⟨w.heap.size + 1 + 1, 1, none⟩ (Value.slice aa' an ac')).setCell ⟨w.heap.size + 1, 0, none⟩ (Value.slice sa' sn sc')).setCell ⟨w.heap.size + 1, 1, none⟩ (Value.slice aa' an ac')).heap[g]? = w2.heap[g]? := by
    intro b hlo hlt
    rw [Below.heap_setCell _ _ _ _ (by show b ≠ w.heap.size + 1; omega), Below.heap_setCell _ _ _ _ (by show b ≠ w.heap.size + 1; omega), Below.heap_setCell _ _ _ _ (by show b ≠ w.heap.size + 1 + 1; omega)]
  have q0 : ((w2.setCell ⟨w.heap.size + 1 + 1, 1, none⟩ (Value.slice aa' an ac')).setCell ⟨w.heap.size + 1, 0, none⟩ (Value.slice sa' sn sc')).cell? ⟨w.heap.size + 1, 0, none⟩ = some (.slice sa' sn sc') := by go_simp
  have q1 : (((w2.setCell ⟨w.heap.size + 1 + 1, 1, none⟩ (Value.slice aa' an ac')).setCell ⟨w.heap.size + 1, 0, none⟩ (Value.slice sa' sn sc')).setCell ⟨w.heap.size + 1, 1, none⟩ (Value.slice aa' an ac')).cell? ⟨w.heap.size + 1, 1, none⟩ = some (.slice aa' an ac') := by go_simp
  refine bodyPost_ret (v := .agg #[.slice sa' sn sc', .slice aa' an ac']) (by simp [results, Try.results10, go_sem, q0, q1]) rfl ⟨sa', sc', aa', ac', w1.heap.size, rfl, ⟨?_, ?_, by omega, hap.out, HML.out, HSL.out⟩, ?_⟩
  · exact (HI2.out.grow hk).mono (by omega)
  · exact HA1.out.grow (fun g h1 h2 => hk g (by omega) h2)
  · exact ((hb3.setCell (by show w.heap.size ≤ w.heap.size + 1 + 1; omega) _).setCell (by show w.heap.size ≤ w.heap.size + 1; omega) _).setCell (by show w.heap.size ≤ w.heap.size + 1; omega) _
end Go.Proofs.Ytnbccoflcoaoaab

namespace Go.Proofs.Ytnbccoflcoaoaab
open Go.RowKit Go.Deep
set_option linter.unusedSimpArgs false
set_option linter.unusedVariables false

def pickS (c n : Int) : Int := (if c < 0 then -(c + 1) else c).tmod n
theorem pickS_bd (c : Int) (n : Int) (hn : 0 < n) : 0 ≤ pickS c n ∧ pickS c n < n := by
  unfold pickS
  have h : 0 ≤ (if c < 0 then -(c + 1) else c) := by split <;> omega
  rw [Int.tmod_eq_emod_of_nonneg h]
  exact ⟨Int.emod_nonneg _ (by omega), Int.emod_lt_of_pos _ hn⟩

set_option maxHeartbeats 1000000 in
theorem pick_any (c n : Int) (w : World) (h1 : -9223372036854775808 ≤ c) (h2 : c ≤ 9223372036854775807) (hn : 0 < n) (hm : n ≤ 1000000) :
    Calls Try.prog 12 #[.int .i64 c, .int .i64 n] w fun e w' => e = .returned (.int .i64 (pickS c n)) ∧ w' = w := by
  have hb := pickS_bd c n hn
  unfold pickS at hb ⊢
  have hn0 : n ≠ 0 := by omega
  have hn1 : n ≠ -1 := by omega
  by_cases hc : c < 0
  · rw [if_pos hc] at hb ⊢
    have g1 : -9223372036854775808 ≤ -(c + 1) := by omega
    have g2 : -(c + 1) ≤ 9223372036854775807 := by omega
    obtain ⟨b1, b2⟩ := hb
    go_enter Try.func12, Try.ntmps12
    go_wp2
    go_ret
    refine ⟨?_, rfl⟩
    show Ending.returned (Value.int .i64 (-((c + 1).tmod n))) = _
    rw [Int.neg_tmod]
  · rw [if_neg hc] at hb ⊢
    obtain ⟨b1, b2⟩ := hb
    have hcf : decide (c < 0) = false := decide_eq_false hc
    go_enter Try.func12, Try.ntmps12
    go_wp2
    all_goals first
      | (exfalso; omega)
      | (go_ret
         refine ⟨?_, rfl⟩
         show Ending.returned (Value.int .i64 (c % n)) = _
         rw [Int.tmod_eq_emod_of_nonneg (by omega)])

set_option maxRecDepth 100000 in
set_option maxHeartbeats 4000000 in
theorem solved_any (hS : SolveC) (sa aa : Option Addr) (sn sc an ac : Nat) (xs : List Int) (es : List A5) (w : World) (hx : Ints w sa sn xs) (he : Arcs w aa an es) (hn : NetOK xs es) :
    Calls Try.prog 15 #[.agg #[.slice sa sn sc, .slice aa an ac]] w fun e w' => ∃ (a : A6) (v : Value), e = .returned (.tuple #[v, .bool true]) ∧ OwnA w' w.heap.size v a ∧ okB xs es a = true ∧ Below w.heap.size w w' := by
  have HX := hide hx
  have HE := hide he
  have hb0 := Joins.below_alloc2 w (.cells #[.slice sa sn sc, .slice aa an ac] 25) (.cells #[.int .i64 0, .int .i64 0, .slice none 0 0, .slice none 0 0, .slice none 0 0, .slice none 0 0] 39)
  have hrow0 : ((w.alloc (.cells #[.slice sa sn sc, .slice aa an ac] 25)).alloc (.cells #[.int .i64 0, .int .i64 0, .slice none 0 0, .slice none 0 0, .slice none 0 0, .slice none 0 0] 39)).rowIs (w.heap.size + 1) 39 6 (ansRow (.int .i64 0) (.int .i64 0) (.slice none 0 0) (.slice none 0 0) (.slice none 0 0) (.slice none 0 0)) := by
    have := ansRow_alloc (w.alloc (.cells #[.slice sa sn sc, .slice aa an ac] 25)) (.int .i64 0) (.int .i64 0) (.slice none 0 0) (.slice none 0 0) (.slice none 0 0) (.slice none 0 0) 39
    simp at this
    exact this
  have HR0 := hide hrow0
  clear hx he hrow0
  go_enter Try.func15, Try.ntmps15
  go_wp2_with fail
  refine (refCopy_any sa aa sn sc an ac xs es _ (HX.out.below hb0) (HE.out.below hb0)).mono ?_
  rintro e w1 ⟨sa', sc', aa', ac', rfl, hI, hA, -, -, hb1⟩
  have hz1 : w.heap.size + 1 < w1.heap.size := by have := hb1.size; simp at this; omega
  have k0 : w1.cell? ⟨w.heap.size, 0, none⟩ = some (.slice sa sn sc) := (hb1.cell (by simp; omega)).trans (by go_simp)
  have k1 : w1.cell? ⟨w.heap.size, 1, none⟩ = some (.slice aa an ac) := (hb1.cell (by simp; omega)).trans (by go_simp)
  have HR1 := hide (HR0.out.of_block (hb1.block (w.heap.size + 1) (by simp)))
  have hB1 : Below w.heap.size w w1 := hb0.trans (hb1.mono (by simp; omega))
  clear hb0 hb1 HR0
  go_wp2_with fail
  refine (hS sa' aa' sn sc' an ac' xs es _ hI hA).mono ?_
  rintro e w2 ⟨a, err, v, rfl, hO, hans, hb2⟩
  have l0 := (hb2.cell (p := ⟨w.heap.size, 0, none⟩) (by show w.heap.size < w1.heap.size; omega)).trans k0
  have l1 := (hb2.cell (p := ⟨w.heap.size, 1, none⟩) (by show w.heap.size < w1.heap.size; omega)).trans k1
  have HR2 := hide (HR1.out.of_block (hb2.block (w.heap.size + 1) hz1))
  have hB2 : Below w.heap.size w w2 := hB1.trans (hb2.mono hB1.size)
  have hz2 : w.heap.size + 1 < w2.heap.size := Nat.lt_of_lt_of_le hz1 hb2.size
  obtain ⟨rfl, hok⟩ : err = 0 ∧ okB xs es a = true := by
    rcases hans with ⟨h, _⟩ | ⟨_, h1, h2⟩
    · rw [hn.zero] at h; exact absurd rfl h
    · exact ⟨h1, h2⟩
  obtain ⟨fa, fc, pa, pc, ca, cc, ra, rc, rfl, hN, hle⟩ := hO.open_ hans
  have HO := hide (hO.mono (base' := w.heap.size + 1 + 1) (by omega))
  have hkd := ok_kind hok
  obtain ⟨kd, cs, fl, po, cu, ci⟩ := a
  simp only [] at hN hle hkd
  have HN := hide hN
  have HOK := hide hok
  clear k0 k1 hb2 hI hA hN hans hO hok HR1 hB1 hz1 hle
  obtain ⟨w3, hw3⟩ : ∃ w3, w2.alloc (.cells #[.int .i64 kd, .int .i64 cs, .slice fa fl.length fc, .slice pa po.length pc, .slice ca cu.length cc, .slice ra ci.length rc] 39) = w3 := ⟨_, rfl⟩
  have hb3 : Below w2.heap.size w2 w3 := by rw [← hw3]; exact Joins.below_alloc1 _ _
  have hA3 := ansRow_alloc w2 (.int .i64 kd) (.int .i64 cs) (.slice fa fl.length fc) (.slice pa po.length pc) (.slice ca cu.length cc) (.slice ra ci.length rc) 39
  rw [hw3] at hA3
  have hB3 : Below w.heap.size w w3 := hB2.trans (hb3.mono hB2.size)
  go_wp2_with fail
  have m0 := (hb3.cell (p := ⟨w.heap.size, 0, none⟩) (by show w.heap.size < w2.heap.size; omega)).trans l0
  have m1 := (hb3.cell (p := ⟨w.heap.size, 1, none⟩) (by show w.heap.size < w2.heap.size; omega)).trans l1
  obtain ⟨⟨a0, a1, a2, a3, a4, a5⟩, -⟩ := row6 hA3
  have HA3 := hide hA3
  have HR3 := hide (HR2.out.of_block (hb3.block (w.heap.size + 1) hz2))
  have HN3 := hide (HN.out.below hb3)
  have HO3 := hide (HO.out.below hb3)
  have hz3 : w2.heap.size < w3.heap.size := by rw [← hw3]; simp
  clear hw3 l0 l1 HR2 HN HO hB2 hb3 hA3
  have hd3 : Below w3.heap.size w3 w3.drew := (Below.refl _ _).drew
  go_cut [6, 7] (fun y f wx => y = .bool true ∧ f = .int .i64 0 ∧ Below w3.heap.size w3 wx)
  case first =>
    go_region_with (first
      | (go_at_call 10; refine (refCopy_any sa aa sn sc an ac xs es _ ?_ ?_).mono ?_; exact (HX.out.below hB3).below hd3; exact (HE.out.below hB3).below hd3; rintro e1 w4 ⟨sa2, sc2, aa2, ac2, rfl, hI, hA, -, -, hb4⟩; have hB4 : Below w3.heap.size w3 w4 := hd3.trans hb4; obtain ⟨⟨p0, p1, p2, p3, p4, p5⟩, -⟩ := row6 (blockBelow hB4 HA3.out.lt HA3.out))
      | (go_at_call 23; refine (accept_any sa2 aa2 fa pa ca ra sn sc2 an ac2 fl.length fc po.length pc cu.length cc ci.length rc kd cs xs es fl po cu ci _ ?_ ?_ ?_).mono ?_; exact hI; exact hA; exact HN3.out.below hB4; rintro e1 w5 ⟨rfl, hb5⟩; rw [accS_ok hn, HOK.out]; have hB5 : Below w3.heap.size w3 w5 := hB4.trans (hb5.mono hB4.size)))
    all_goals (go_wp2_with fail; go_meet; exact ⟨rfl, rfl, hB5⟩)
  case rest =>
  obtain ⟨rfl, rfl, hbc⟩ := hcut
  clear m0 m1 a0 a1 a2 a3 a4 a5
  have hAc := blockBelow hbc HA3.out.lt HA3.out
  have hRc := blockBelow hbc HR3.out.lt HR3.out
  have HOc := hide (HO3.out.below hbc)
  have hBc : Below w.heap.size w wc := hB3.trans (hbc.mono hB3.size)
  obtain ⟨⟨a0, a1, a2, a3, a4, a5⟩, -⟩ := row6 hAc
  obtain ⟨⟨z0, z1, z2, z3, z4, z5⟩, ⟨g0, g1, g2, g3, g4, g5⟩⟩ := row6 hRc
  have HRc := hide hRc
  have hk1 : 1 ≤ kd := by omega
  have hk3 : kd ≤ 3 := by omega
  clear hkd hAc hRc HA3 HR3 HN3 HO3 hd3 hbc
  go_wp2_with fail
  go_region
  go_wp2
  have r1 := HRc.out.set 0 (.int .i64 kd)
  have r2 := r1.set 1 (.int .i64 cs)
  have r3 := r2.set 2 (.slice fa fl.length fc)
  have r4 := r3.set 3 (.slice pa po.length pc)
  have r5 := r4.set 4 (.slice ca cu.length cc)
  have r6 := r5.set 5 (.slice ra ci.length rc)
  have q0 := r1.cell (i := 0) (by omega)
  have q1 := r2.cell (i := 1) (by omega)
  have q2 := r3.cell (i := 2) (by omega)
  have q3 := r4.cell (i := 3) (by omega)
  have q4 := r5.cell (i := 4) (by omega)
  have q5 := r6.cell (i := 5) (by omega)
  simp only [if_true] at q0 q1 q2 q3 q4 q5
  clear r1 r2 r3 r4 r5 r6
  refine bodyPost_ret (v := .tuple #[.agg #[.int .i64 kd, .int .i64 cs, .slice fa fl.length fc, .slice pa po.length pc, .slice ca cu.length cc, .slice ra ci.length rc], .bool true]) (by simp [results, Try.results15, go_sem, q0, q1, q2, q3, q4, q5]) rfl ⟨⟨kd, cs, fl, po, cu, ci⟩, _, rfl, ?_, HOK.out, ?_⟩
  · have g : w.heap.size + 1 < w.heap.size + 1 + 1 := by omega
    have h6 := (((((HOc.out.setBelow (o := 0) g (.int .i64 kd)).setBelow (o := 1) g (.int .i64 cs)).setBelow (o := 2) g (.slice fa fl.length fc)).setBelow (o := 3) g (.slice pa po.length pc)).setBelow (o := 4) g (.slice ca cu.length cc)).setBelow (o := 5) g (.slice ra ci.length rc)
    exact (h6.below ((Below.refl _ _).drew)).mono (by omega)
  · have g : w.heap.size ≤ w.heap.size + 1 := by omega
    exact ((((((hBc.setCell (p := ⟨w.heap.size + 1, 0, none⟩) g _).setCell (p := ⟨w.heap.size + 1, 1, none⟩) g _).setCell (p := ⟨w.heap.size + 1, 2, none⟩) g _).setCell (p := ⟨w.heap.size + 1, 3, none⟩) g _).setCell (p := ⟨w.heap.size + 1, 4, none⟩) g _).setCell (p := ⟨w.heap.size + 1, 5, none⟩) g _).drew

set_option maxHeartbeats 2000000 in
theorem refused_any (hS : SolveC) (hM : SomeC) (sa aa : Option Addr) (sn sc an ac : Nat) (xs : List Int) (es : List A5) (w : World) (hx : Ints w sa sn xs) (he : Arcs w aa an es) :
    Calls Try.prog 9 #[.agg #[.slice sa sn sc, .slice aa an ac]] w fun e w' => e = .returned (.tuple #[.bool ((checkS xs es).1 == 0), .bool true]) ∧ Below w.heap.size w w' := by
  have HX := hide hx
  have HE := hide he
  have hb0 : Below w.heap.size w (w.alloc (.cells #[.slice sa sn sc, .slice aa an ac] 25)) := (Below.refl _ _).alloc (Nat.le_refl _) _
  clear hx he
  go_enter Try.func9, Try.ntmps9
  go_wp2_with fail
  refine (refCheck_any sa aa sn sc an ac xs es _ (HX.out.below hb0) (HE.out.below hb0)).mono ?_
  rintro e w1 ⟨rfl, hb1⟩
  have k0 : w1.cell? ⟨w.heap.size, 0, none⟩ = some (.slice sa sn sc) := (hb1.cell (by simp)).trans (by go_simp)
  have k1 : w1.cell? ⟨w.heap.size, 1, none⟩ = some (.slice aa an ac) := (hb1.cell (by simp)).trans (by go_simp)
  have hz1 : w.heap.size < w1.heap.size := by have := hb1.size; simp at this; omega
  have hB1 : Below w.heap.size w w1 := hb0.trans (hb1.mono (by simp))
  clear hb0 hb1
  obtain ⟨wn, hwn⟩ : ∃ wn, (checkS xs es).1 = wn := ⟨_, rfl⟩
  have HWN := hide hwn
  simp only [hwn]
  generalize (checkS xs es).2 = pl
  clear hwn
  by_cases hw0 : wn = 0
  · subst hw0
    go_wp2
    go_ret2
    exact ⟨by simp [HWN.out], hB1⟩
  · have hwb : (wn == 0) = false := by simpa using hw0
    have HW0 := hide hw0
    clear hw0
    go_wp2_with fail
    refine (refCopy_any sa aa sn sc an ac xs es _ (HX.out.below hB1) (HE.out.below hB1)).mono ?_
    rintro e w2 ⟨sa', sc', aa', ac', rfl, hI, hA, -, -, hb2⟩
    have hB2 : Below w.heap.size w w2 := hB1.trans (hb2.mono hB1.size)
    have hz2 : w.heap.size < w2.heap.size := Nat.lt_of_lt_of_le hz1 hb2.size
    have l0 := (hb2.cell (p := ⟨w.heap.size, 0, none⟩) hz1).trans k0
    have l1 := (hb2.cell (p := ⟨w.heap.size, 1, none⟩) hz1).trans k1
    clear k0 k1 hb2
    go_wp2_with fail
    refine (hS sa' aa' sn sc' an ac' xs es _ hI hA).mono ?_
    rintro e w3 ⟨a, err, v, rfl, hO, hans, hb3⟩
    obtain ⟨rfl, rfl⟩ : err = wn ∧ a = ⟨0, 0, [], [], [], []⟩ := by
      rcases hans with ⟨_, h1, h2⟩ | ⟨h, _⟩
      · rw [HWN.out] at h1; exact ⟨h1, h2⟩
      · rw [HWN.out] at h; exact absurd h HW0.out
    obtain ⟨fa, fc, pa, pc, ca, cc, ra, rc, rfl, -, -⟩ := hO.open_ hans
    have hB3 : Below w.heap.size w w3 := hB2.trans (hb3.mono hB2.size)
    have hz3 : w.heap.size < w3.heap.size := Nat.lt_of_lt_of_le hz2 hb3.size
    have m0 := (hb3.cell (p := ⟨w.heap.size, 0, none⟩) hz2).trans l0
    have m1 := (hb3.cell (p := ⟨w.heap.size, 1, none⟩) hz2).trans l1
    clear l0 l1 hb3 hI hA hO hans
    simp only [List.length_nil]
    have hb4 := Joins.below_alloc1 w3 (.cells #[.int .i64 0, .int .i64 0, .slice fa 0 fc, .slice pa 0 pc, .slice ca 0 cc, .slice ra 0 rc] 39)
    have hB4 := hB3.trans (hb4.mono hB3.size)
    go_wp2_with fail
    refine (refCopy_any sa aa sn sc an ac xs es _ (HX.out.below hB4) (HE.out.below hB4)).mono ?_
    rintro e w5 ⟨sa2, sc2, aa2, ac2, rfl, hI, hA, -, -, hb5⟩
    have hB5 : Below w.heap.size w w5 := hB4.trans (hb5.mono hB4.size)
    have hz5 : w.heap.size < w5.heap.size := by have := hb5.size; simp at this; omega
    have l0 := (hb5.cell (p := ⟨w.heap.size, 0, none⟩) (by simp; omega)).trans ((hb4.cell (p := ⟨w.heap.size, 0, none⟩) hz3).trans m0)
    have l1 := (hb5.cell (p := ⟨w.heap.size, 1, none⟩) (by simp; omega)).trans ((hb4.cell (p := ⟨w.heap.size, 1, none⟩) hz3).trans m1)
    clear m0 m1 hb4 hB4 hb5 hB3
    go_wp2_with fail
    refine (hM sa2 aa2 sn sc2 an ac2 xs es _ hI hA).mono ?_
    rintro e w6 ⟨fv, cv, fl, cu, err2, rfl, -, -, -, hans2, hb6⟩
    obtain rfl : err2 = err := by
      rcases hans2 with ⟨_, h1, _⟩ | ⟨h, _⟩
      · rw [HWN.out] at h1; exact h1
      · rw [HWN.out] at h; exact absurd h HW0.out
    have hB6 : Below w.heap.size w w6 := hB5.trans (hb6.mono hB5.size)
    have hz6 : w.heap.size < w6.heap.size := Nat.lt_of_lt_of_le hz5 hb6.size
    have m0 := (hb6.cell (p := ⟨w.heap.size, 0, none⟩) hz5).trans l0
    have m1 := (hb6.cell (p := ⟨w.heap.size, 1, none⟩) hz5).trans l1
    clear l0 l1 hb6 hI hA hans2 hB5
    go_wp2_with fail
    refine (refCopy_any sa aa sn sc an ac xs es _ (HX.out.below hB6) (HE.out.below hB6)).mono ?_
    rintro e w7 ⟨sa3, sc3, aa3, ac3, rfl, hI, hA, -, -, hb7⟩
    have hB7 : Below w.heap.size w w7 := hB6.trans (hb7.mono hB6.size)
    clear m0 m1 hb7 hB6
    go_wp2_with fail
    refine (accept_any sa3 aa3 none none none none sn sc3 an ac3 0 0 0 0 0 0 0 0 0 0 xs es [] [] [] [] _ hI hA ⟨nil_ints _, nil_ints _, nil_ints _, nil_ints _⟩).mono ?_
    rintro e w8 ⟨rfl, hb8⟩
    rw [accS_check HWN.out HW0.out]
    have hB8 : Below w.heap.size w w8 := hB7.trans (hb8.mono hB7.size)
    clear hb8 hI hA
    go_wp2
    go_ret2
    exact ⟨by simp only [HWN.out]; have := HW0.out; simp [this], hB8⟩

theorem ok_cost {xs : List Int} {es : List A5} (hn : NetOK xs es) {a : A6} (h : okB xs es a = true) : -1200000000 ≤ a.cost ∧ a.cost ≤ 1200000000 := by
  rcases ok_kind h with k | k | k
  · unfold okB at h
    rw [if_pos k] at h
    unfold bestB at h
    simp only [Bool.and_eq_true, decide_eq_true_eq] at h
    have hf := fits_of h.1.1.1.1
    have hc := h.1.1.1.2
    have hb := costTo_bd xs es a.flow hn (fun i hi => by
      have h1 := hf.bd i hi
      have h2 := arcB_out (hn.arc i hi)
      omega) es.length (Nat.le_refl _)
    have := hn.arcs
    omega
  · unfold okB at h
    rw [if_neg (by omega), if_pos k] at h
    unfold noneB at h
    simp only [Bool.and_eq_true, decide_eq_true_eq] at h
    omega
  · unfold okB at h
    rw [if_neg (by omega), if_neg (by omega), if_pos k] at h
    unfold endB at h
    simp only [Bool.and_eq_true, decide_eq_true_eq] at h
    omega

set_option maxHeartbeats 2000000 in
theorem alike_any (hS : SolveC) (sa aa sb ab : Option Addr) (sn sc an ac sm sd am ad : Nat) (xs ys : List Int) (es fs : List A5) (times plus : Int) (w : World) (hx : Ints w sa sn xs) (he : Arcs w aa an es) (hy : Ints w sb sm ys) (hf : Arcs w ab am fs) (hn : NetOK xs es) (hm : NetOK ys fs)
    (ht : 0 ≤ times ∧ times ≤ 2) (hp : -10000 ≤ plus ∧ plus ≤ 10000) (hal : ∀ a b, okB xs es a = true → okB ys fs b = true → a.kind = b.kind ∧ (a.kind = 1 → b.cost = times * a.cost + plus)) :
    Calls Try.prog 11 #[.agg #[.slice sa sn sc, .slice aa an ac], .agg #[.slice sb sm sd, .slice ab am ad], .int .i64 times, .int .i64 plus] w fun e w' => e = .returned (.bool true) ∧ Below w.heap.size w w' := by
  have HX := hide hx
  have HE := hide he
  have HY := hide hy
  have HF := hide hf
  have HAL := hide hal
  have hb0 := Joins.below_alloc2 w (.cells #[.slice sa sn sc, .slice aa an ac] 25) (.cells #[.slice sb sm sd, .slice ab am ad] 25)
  clear hx he hy hf hal
  go_enter Try.func11, Try.ntmps11
  go_wp2_with fail
  refine (solved_any hS sa aa sn sc an ac xs es _ (HX.out.below hb0) (HE.out.below hb0) hn).mono ?_
  rintro e w1 ⟨a, v, rfl, hO, hok, hb1⟩
  have hz1 : w.heap.size + 1 < w1.heap.size := by have := hb1.size; simp at this; omega
  have k0 : w1.cell? ⟨w.heap.size + 1, 0, none⟩ = some (.slice sb sm sd) := (hb1.cell (by simp)).trans (by go_simp)
  have k1 : w1.cell? ⟨w.heap.size + 1, 1, none⟩ = some (.slice ab am ad) := (hb1.cell (by simp)).trans (by go_simp)
  have hB1 : Below w.heap.size w w1 := hb0.trans (hb1.mono (by simp; omega))
  obtain ⟨fa, fc, pa, pc, ca, cc, ra, rc, rfl, -⟩ := hO
  have HOK := hide hok
  have hc1 := ok_cost hn hok
  have hb2 := Joins.below_alloc1 w1 (.cells #[.int .i64 a.kind, .int .i64 a.cost, .slice fa a.flow.length fc, .slice pa a.pots.length pc, .slice ca a.cut.length cc, .slice ra a.circ.length rc] 39)
  have hB2 := hB1.trans (hb2.mono hB1.size)
  clear hb0 hb1 hok
  go_wp2_with fail
  refine (solved_any hS sb ab sm sd am ad ys fs _ (HY.out.below hB2) (HF.out.below hB2) hm).mono ?_
  rintro e w3 ⟨b, v, rfl, hO, hok, hb3⟩
  have q0 : w3.cell? ⟨w1.heap.size, 0, none⟩ = some (.int .i64 a.kind) := (hb3.cell (by simp)).trans (by go_simp)
  have q1 : w3.cell? ⟨w1.heap.size, 1, none⟩ = some (.int .i64 a.cost) := (hb3.cell (by simp)).trans (by go_simp)
  have hz3 : w1.heap.size < w3.heap.size := by have := hb3.size; simp at this; omega
  have hB3 : Below w.heap.size w w3 := hB2.trans (hb3.mono (by have := hB1.size; simp; omega))
  obtain ⟨fa2, fc2, pa2, pc2, ca2, cc2, ra2, rc2, rfl, -⟩ := hO
  obtain ⟨hk, hcost⟩ := HAL.out a b HOK.out hok
  have hB4 : Below w.heap.size w (w3.alloc (.cells #[.int .i64 b.kind, .int .i64 b.cost, .slice fa2 b.flow.length fc2, .slice pa2 b.pots.length pc2, .slice ca2 b.cut.length cc2, .slice ra2 b.circ.length rc2] 39)) := hB3.alloc hB3.size _
  have HB4 := hide hB4
  clear k0 k1 hb2 hB2 hb3 hok hB1 HOK HAL hB3 hB4
  generalize a.kind = ak at *
  generalize b.kind = bk at *
  subst hk
  have HCO := hide hcost
  clear hcost
  generalize a.cost = ca0 at *
  generalize b.cost = cb0 at *
  by_cases hk1 : ak = 1
  · subst hk1
    have hcb := HCO.out rfl
    have hmul : times * ca0 = 0 ∨ times * ca0 = ca0 ∨ times * ca0 = 2 * ca0 := by
      have : times = 0 ∨ times = 1 ∨ times = 2 := by omega
      rcases this with rfl | rfl | rfl
      · left; omega
      · right; left; omega
      · right; right; omega
    obtain ⟨mu, hmu⟩ : ∃ mu, times * ca0 = mu := ⟨_, rfl⟩
    rw [hmu] at hcb hmul
    subst hcb
    have b1 : -3000000000 ≤ mu := by omega
    have b2 : mu ≤ 3000000000 := by omega
    clear hmul HCO
    go_wp2
    go_ret
    exact ⟨ret_b (by simp), HB4.out⟩
  · have hkb : (ak != 1) = true := by simpa using hk1
    clear hk1 HCO
    go_wp2
    go_ret
    exact ⟨ret_b (by simp), HB4.out⟩
end Go.Proofs.Ytnbccoflcoaoaab

namespace Go.Proofs.Ytnbccoflcoaoaab
open Go.RowKit Go.Deep
set_option linter.unusedSimpArgs false
set_option linter.unusedVariables false

/-! ### rows of one's own that are written, by the index -/
def RowI (w : World) (lo n : Nat) (a : Option Addr) (c : Nat) (f : Nat → Int) : Prop :=
  n = 0 ∨ ∃ g F, a = some ⟨g, 0, none⟩ ∧ lo ≤ g ∧ w.rowIs g 3 c F ∧ n ≤ c ∧ ∀ i, i < n → F i = .int .i64 (f i)
def RowA (w : World) (lo n : Nat) (a : Option Addr) (c : Nat) (f : Nat → A5) : Prop :=
  (n = 0 ∧ a = none ∧ c = 0) ∨ ∃ g F, a = some ⟨g, 0, none⟩ ∧ lo ≤ g ∧ w.rowIs g 32 (c * 5) F ∧ n ≤ c ∧ ∀ i, i < n → ∀ j, j < 5 → F (i * 5 + j) = .int .i64 ((f i).at j)
section
variable {w w' : World} {lo n : Nat} {a : Option Addr} {c : Nat}
theorem OwnRow.rowI {l : List Int} (h : OwnRow w lo n a c l) : RowI w lo n a c (fun i => l.getD i 0) := h
theorem ArcRow.rowA {l : List A5} (h : ArcRow w lo n a c l) : RowA w lo n a c (fun i => l.getD i zA) := h
theorem RowI.congr {f f' : Nat → Int} (h : RowI w lo n a c f) (e : ∀ i, i < n → f i = f' i) : RowI w lo n a c f' :=
  h.imp id fun ⟨g, F, h1, h2, h3, h4, h5⟩ => ⟨g, F, h1, h2, h3, h4, fun i hi => by rw [h5 i hi, e i hi]⟩
theorem RowA.congr {f f' : Nat → A5} (h : RowA w lo n a c f) (e : ∀ i, i < n → f i = f' i) : RowA w lo n a c f' :=
  h.imp id fun ⟨g, F, h1, h2, h3, h4, h5⟩ => ⟨g, F, h1, h2, h3, h4, fun i hi j hj => by rw [h5 i hi j hj, e i hi]⟩
theorem RowI.ints {f : Nat → Int} (h : RowI w lo n a c f) {l : List Int} (hl : l.length = n) (hf : ∀ i, i < n → f i = l.getD i 0) (hs : n ≤ 17592186044416) (hb : ∀ i, i < n → -9223372036854775808 ≤ l.getD i 0 ∧ l.getD i 0 ≤ 9223372036854775807) : Ints w a n l :=
  OwnRow.ints (h.congr hf) hl hs (fun x hx => by obtain ⟨i, hi, rfl⟩ := mem_of_getD 0 l x hx; exact hb i (by omega))
theorem RowA.arcs {f : Nat → A5} (h : RowA w lo n a c f) {l : List A5} (hl : l.length = n) (hf : ∀ i, i < n → f i = l.getD i zA) (hs : n ≤ 3518437208883) (hb : ∀ i, i < n → ∀ j, -9223372036854775808 ≤ (l.getD i zA).at j ∧ (l.getD i zA).at j ≤ 9223372036854775807) : Arcs w a n l :=
  ArcRow.arcs (h.congr hf) hl hs (fun x hx j => by obtain ⟨i, hi, rfl⟩ := mem_of_getD zA l x hx; exact hb i (by omega) j)
theorem RowI.keep {f : Nat → Int} (h : RowI w lo n a c f) (hb : ∀ g, a = some ⟨g, 0, none⟩ → lo ≤ g → g < w.heap.size → w'.heap[g]? = w.heap[g]?) : RowI w' lo n a c f :=
  h.imp id fun ⟨g, F, h1, h2, h3, r⟩ => ⟨g, F, h1, h2, h3.of_block (hb g h1 h2 h3.lt), r⟩
theorem RowA.keep {f : Nat → A5} (h : RowA w lo n a c f) (hb : ∀ g, a = some ⟨g, 0, none⟩ → lo ≤ g → g < w.heap.size → w'.heap[g]? = w.heap[g]?) : RowA w' lo n a c f :=
  h.imp id fun ⟨g, F, h1, h2, h3, r⟩ => ⟨g, F, h1, h2, h3.of_block (hb g h1 h2 h3.lt), r⟩
theorem RowI.below {f : Nat → Int} (h : RowI w lo n a c f) (hb : Below w.heap.size w w') : RowI w' lo n a c f := h.keep (fun g _ _ hg => hb.block g hg)
theorem RowA.below {f : Nat → A5} (h : RowA w lo n a c f) (hb : Below w.heap.size w w') : RowA w' lo n a c f := h.keep (fun g _ _ hg => hb.block g hg)
theorem RowI.get {f : Nat → Int} (h : RowI w lo n a c f) {k : Nat} (hk : k < n) : ∃ g, a = some ⟨g, 0, none⟩ ∧ lo ≤ g ∧ g < w.heap.size ∧ w.cell? ⟨g, k, none⟩ = some (.int .i64 (f k)) ∧ w.frozen? ⟨g, k, none⟩ = false := by
  rcases h with h | ⟨g, F, h1, h2, h3, h4, h5⟩
  · omega
  · exact ⟨g, h1, h2, h3.lt, by rw [h3.cell (by omega), h5 k hk], h3.frozen k⟩
theorem RowA.get {f : Nat → A5} (h : RowA w lo n a c f) {k : Nat} (hk : k < n) : ∃ g, a = some ⟨g, 0, none⟩ ∧ lo ≤ g ∧ g < w.heap.size ∧ (∀ j, j < 5 → w.cell? ⟨g, k * 5 + j, none⟩ = some (.int .i64 ((f k).at j))) ∧ ∀ o, w.frozen? ⟨g, o, none⟩ = false := by
  rcases h with h | ⟨g, F, h1, h2, h3, h4, h5⟩
  · omega
  · have : (k + 1) * 5 ≤ c * 5 := Nat.mul_le_mul_right 5 (by omega)
    exact ⟨g, h1, h2, h3.lt, fun j hj => by rw [h3.cell (by omega), h5 k hk j hj], fun o => h3.frozen o⟩
theorem RowI.set {f : Nat → Int} {g : Nat} (h : RowI w lo n (some ⟨g, 0, none⟩) c f) (k : Nat) (x : Int) : RowI (w.setCell ⟨g, k, none⟩ (.int .i64 x)) lo n (some ⟨g, 0, none⟩) c (upd f k x) := by
  rcases h with h | ⟨g', F, h1, h2, h3, h4, h5⟩
  · exact .inl h
  · cases h1
    refine .inr ⟨g, _, rfl, h2, h3.set k _, h4, fun i hi => ?_⟩
    unfold upd
    by_cases e : i = k
    · rw [if_pos e, if_pos e]
    · rw [if_neg e, if_neg e]; exact h5 i hi
theorem RowA.set {f : Nat → A5} {g : Nat} (h : RowA w lo n (some ⟨g, 0, none⟩) c f) (k j : Nat) (hj : j < 5) (x : Int) : RowA (w.setCell ⟨g, k * 5 + j, none⟩ (.int .i64 x)) lo n (some ⟨g, 0, none⟩) c (upd f k ((f k).put j x)) := by
  rcases h with h | ⟨g', F, h1, h2, h3, h4, h5⟩
  · exact .inl h
  · cases h1
    refine .inr ⟨g, _, rfl, h2, h3.set (k * 5 + j) _, h4, fun i hi j' hj' => ?_⟩
    unfold upd
    by_cases e : i = k
    · subst e
      rw [if_pos rfl, A5.put_at _ _ _ _ hj hj']
      by_cases e2 : j' = j
      · rw [if_pos (by omega), if_pos e2]
      · rw [if_neg (by omega), if_neg e2]; exact h5 i hi j' hj'
    · rw [if_neg (by omega), if_neg e]; exact h5 i hi j' hj'
end

theorem upd_step {α : Type} (F G : Nat → α) (k : Nat) (x : α) (hx : G k = x) (i : Nat) : upd (fun i => if i < k then G i else F i) k x i = if i < k + 1 then G i else F i := by
  unfold upd
  by_cases e : i = k
  · subst e; rw [if_pos rfl, if_pos (by omega), hx]
  · by_cases e2 : i < k
    · simp only [if_neg e, if_pos e2]; rw [if_pos (by omega)]
    · simp only [if_neg e, if_neg e2]; rw [if_neg (by omega)]

/-- What a call has of a net that came in, of a copy of its own and of both their boxes: at nb the net's, at mb the copy's. -/
structure Two (w : World) (nb mb : Nat) (sa : Option Addr) (sn sc : Nat) (aa : Option Addr) (an ac : Nat) (sb : Option Addr) (sd : Nat) (ab : Option Addr) (ad : Nat) : Prop where
  n0 : w.cell? ⟨nb, 0, none⟩ = some (.slice sa sn sc)
  n1 : w.cell? ⟨nb, 1, none⟩ = some (.slice aa an ac)
  m0 : w.cell? ⟨mb, 0, none⟩ = some (.slice sb sn sd)
  m1 : w.cell? ⟨mb, 1, none⟩ = some (.slice ab an ad)
  ln : nb < w.heap.size
  lm : mb < w.heap.size
theorem Two.set {w : World} {nb mb : Nat} {sa : Option Addr} {sn sc : Nat} {aa : Option Addr} {an ac : Nat} {sb : Option Addr} {sd : Nat} {ab : Option Addr} {ad : Nat} (h : Two w nb mb sa sn sc aa an ac sb sd ab ad) {b o : Nat} (h1 : nb ≠ b) (h2 : mb ≠ b) (u : Value) : Two (w.setCell ⟨b, o, none⟩ u) nb mb sa sn sc aa an ac sb sd ab ad := by
  have k : ∀ b' o', b' ≠ b → (w.setCell ⟨b, o, none⟩ u).cell? ⟨b', o', none⟩ = w.cell? ⟨b', o', none⟩ := fun b' o' hb => World.cell?_of_block (Below.heap_setCell _ _ _ _ hb)
  exact ⟨(k _ _ h1).trans h.n0, (k _ _ h1).trans h.n1, (k _ _ h2).trans h.m0, (k _ _ h2).trans h.m1, by have := h.ln; simpa [World.setCell] using this, by have := h.lm; simpa [World.setCell] using this⟩
theorem Two.drew {w : World} {nb mb : Nat} {sa : Option Addr} {sn sc : Nat} {aa : Option Addr} {an ac : Nat} {sb : Option Addr} {sd : Nat} {ab : Option Addr} {ad : Nat} (h : Two w nb mb sa sn sc aa an ac sb sd ab ad) : Two w.drew nb mb sa sn sc aa an ac sb sd ab ad := ⟨h.n0, h.n1, h.m0, h.m1, h.ln, h.lm⟩
theorem Two.below {w w' : World} {nb mb : Nat} {sa : Option Addr} {sn sc : Nat} {aa : Option Addr} {an ac : Nat} {sb : Option Addr} {sd : Nat} {ab : Option Addr} {ad : Nat} (h : Two w nb mb sa sn sc aa an ac sb sd ab ad) (hb : Below w.heap.size w w') : Two w' nb mb sa sn sc aa an ac sb sd ab ad :=
  ⟨(hb.cell (p := ⟨nb, 0, none⟩) h.ln).trans h.n0, (hb.cell (p := ⟨nb, 1, none⟩) h.ln).trans h.n1, (hb.cell (p := ⟨mb, 0, none⟩) h.lm).trans h.m0, (hb.cell (p := ⟨mb, 1, none⟩) h.lm).trans h.m1, Nat.lt_of_lt_of_le h.ln hb.size, Nat.lt_of_lt_of_le h.lm hb.size⟩

/-- Numbers in an arc of a net that may be. -/
theorem arc_wf {a : A5} {n : Int} (h : arcB a n = true) (hn : n ≤ 1000) (j : Nat) : -9223372036854775808 ≤ a.at j ∧ a.at j ≤ 9223372036854775807 := by
  have := arcB_out h
  unfold A5.at
  split <;> omega
end Go.Proofs.Ytnbccoflcoaoaab
