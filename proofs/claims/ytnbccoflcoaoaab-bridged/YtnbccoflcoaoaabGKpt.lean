import Derived.Test.YtnbccoflcoaoaabGSnd
import Derived.Test.YtnbccoflcoaoaabGTab
import Derived.Test.YtnbccoflcoaoaabGKpa
import Derived.Test.YtnbccoflcoaoaabGAsg
namespace Go.Proofs.Ytnbccoflcoaoaab
open Go.RowKit
set_option linter.unusedSimpArgs false
set_option linter.unusedVariables false

/-! ### each to its own: a sum over what is given out once -/
/-- Two places changed with each other. -/
def swp (a b j : Nat) : Nat := if j = a then b else if j = b then a else j
theorem swp_swp (a b j : Nat) : swp a b (swp a b j) = j := by
  unfold swp
  repeat' split
  all_goals omega
theorem sum_swp (c : Nat → Int) (n v : Nat) (hv : v ≤ n) : sumTo (fun j => c (swp v n j)) n + c v = sumTo c (n + 1) := by
  by_cases e : v = n
  · subst e
    simp only [sumTo]
    rw [sumTo_congr (g := c) (fun j hj => by unfold swp; rw [if_neg (by omega), if_neg (by omega)])]
  · have key : ∀ m, m ≤ n → sumTo (fun j => c (swp v n j)) m = sumTo c m + (if v < m then c n - c v else 0) := by
      intro m
      induction m with
      | zero => intro _; simp [sumTo]
      | succ m ih =>
        intro hm
        simp only [sumTo, ih (by omega)]
        by_cases g : m = v
        · subst g
          rw [if_neg (show ¬ m < m by omega), if_pos (show m < m + 1 by omega)]
          rw [show swp m n m = n from by unfold swp; rw [if_pos rfl]]
          omega
        · rw [show swp v n m = m from by unfold swp; rw [if_neg g, if_neg (by omega)]]
          by_cases g2 : v < m
          · rw [if_pos g2, if_pos (show v < m + 1 by omega)]; omega
          · rw [if_neg g2, if_neg (show ¬ v < m + 1 by omega)]; omega
    rw [key n (Nat.le_refl _), if_pos (by omega)]
    simp only [sumTo]; omega
/-- A sum over a list of columns, none twice, is the sum over all columns. -/
theorem perm_sum (n : Nat) : ∀ (c : Nat → Int) (l : Nat → Nat), (∀ i, i < n → l i < n) → (∀ i j, i < n → j < n → l i = l j → i = j) → sumTo (fun i => c (l i)) n = sumTo c n := by
  induction n with
  | zero => intro _ _ _ _; rfl
  | succ n ih =>
    intro c l hr hi
    have hv := hr n (by omega)
    have h1 := ih (fun j => c (swp (l n) n j)) (fun i => swp (l n) n (l i)) (fun i hin => by
      have a1 := hr i (by omega)
      have a2 : l i ≠ l n := fun e => by have := hi i n (by omega) (by omega) e; omega
      unfold swp
      rw [if_neg a2]
      split <;> omega) (fun i j hin hjn e => by
      refine hi i j (by omega) (by omega) ?_
      have := congrArg (swp (l n) n) e
      rwa [swp_swp, swp_swp] at this)
    have h2 := sum_swp c n (l n) (by omega)
    have h3 : sumTo (fun i => c (swp (l n) n (swp (l n) n (l i)))) n = sumTo (fun i => c (l i)) n := sumTo_congr (fun i _ => by rw [swp_swp])
    rw [← h2, ← h1, h3]
    rfl

/-! ### tables -/
/-- Worths show that no one gives rows and columns to each other at less. -/
theorem asg_cheap {n : Nat} {t : Nat → Nat → Int} {r c : Nat → Int} {l l' : Nat → Nat} (hr : ∀ i, i < n → l i < n) (hi : ∀ i j, i < n → j < n → l i = l j → i = j) (hr' : ∀ i, i < n → l' i < n) (hi' : ∀ i j, i < n → j < n → l' i = l' j → i = j)
    (hw : ∀ i j, i < n → j < n → t i j ≠ -1 → r i + c j ≤ t i j) (he : ∀ i, i < n → r i + c (l i) = t i (l i)) (hb : ∀ i, i < n → t i (l' i) ≠ -1) :
    sumTo (fun i => t i (l i)) n ≤ sumTo (fun i => t i (l' i)) n := by
  have h1 : sumTo (fun i => t i (l i)) n = sumTo r n + sumTo c n := by
    rw [← perm_sum n c l hr hi, ← sumTo_add]
    exact sumTo_congr (fun i hin => (he i hin).symm)
  have h2 : sumTo r n + sumTo c n ≤ sumTo (fun i => t i (l' i)) n := by
    rw [← perm_sum n c l' hr' hi', ← sumTo_add]
    exact sumTo_le (fun i hin => hw i (l' i) hin (hr' i hin) (hb i hin))
  omega
/-- Rows that are short of columns: whoever gives them out gives one that is barred. -/
theorem asg_short {n : Nat} {t : Nat → Nat → Int} {l : Nat → Nat} (hr : ∀ i, i < n → l i < n) (hi : ∀ i j, i < n → j < n → l i = l j → i = j) (S : Nat → Bool) (O : Nat → Bool)
    (hO : ∀ i j, i < n → j < n → S i = true → t i j ≠ -1 → O j = true) (hs : sumTo (fun j => if O j = true then 1 else 0) n < sumTo (fun i => if S i = true then 1 else 0) n) (hb : ∀ i, i < n → t i (l i) ≠ -1) : False := by
  have h1 := perm_sum n (fun j => if O j = true then 1 else 0) l hr hi
  have h2 : sumTo (fun i => if S i = true then (1 : Int) else 0) n ≤ sumTo (fun i => if O (l i) = true then (1 : Int) else 0) n := by
    refine sumTo_le (fun i hin => ?_)
    show (if S i = true then (1 : Int) else 0) ≤ (if O (l i) = true then (1 : Int) else 0)
    by_cases g : S i = true
    · rw [if_pos g, if_pos (hO i (l i) hin (hr i hin) g (hb i hin))]; omega
    · rw [if_neg g]; split <;> omega
  omega
/-- Given out once each: every column has its row. -/
theorem perm_onto {n : Nat} {l : Nat → Nat} (hr : ∀ i, i < n → l i < n) (hi : ∀ i j, i < n → j < n → l i = l j → i = j) (j : Nat) (hj : j < n) : sumTo (fun i => if l i = j then (1 : Int) else 0) n = 1 := by
  have h1 := perm_sum n (fun v => if v = j then 1 else 0) l hr hi
  rw [h1]
  have h2 : sumTo (fun k => (1 : Int) * (if (j : Int) = (k : Int) then 1 else 0)) n = 1 := sumTo_one (fun _ => 1) j n 1 hj
  have h3 : sumTo (fun v => if v = j then (1 : Int) else 0) n = sumTo (fun k => (1 : Int) * (if (j : Int) = (k : Int) then 1 else 0)) n := by
    refine sumTo_congr (fun v _ => ?_)
    by_cases e : v = j
    · subst e; rw [if_pos rfl, if_pos rfl]; rfl
    · rw [if_neg e, if_neg (by omega)]; rfl
  rw [h3, h2]
end Go.Proofs.Ytnbccoflcoaoaab

namespace Go.Proofs.Ytnbccoflcoaoaab
open Go.RowKit Go.Deep
set_option linter.unusedSimpArgs false
set_option linter.unusedVariables false

/-! ### tables out of raw numbers -/
theorem getD_mem (l : List Int) {j : Nat} (hj : j < l.length) : l.getD j 0 ∈ l := by
  simp only [List.getD, List.getElem?_eq_getElem hj, Option.getD_some]
  exact List.getElem_mem hj
def rowOk (n : Nat) (r : List Int) : Prop := r.length ≤ n ∧ ∀ x ∈ r, x = -1 ∨ (0 ≤ x ∧ x ≤ 50)
theorem rowOk.nil (n : Nat) : rowOk n [] := ⟨Nat.zero_le _, fun x hx => by simp at hx⟩
theorem rowOk.push {n : Nat} {r : List Int} (h : rowOk n r) (hl : r.length < n) {x : Int} (hx : x = -1 ∨ (0 ≤ x ∧ x ≤ 50)) : rowOk n (r ++ [x]) := by
  refine ⟨by simp; omega, fun y hy => ?_⟩
  rcases List.mem_append.1 hy with hy | hy
  · exact h.2 y hy
  · simp at hy; subst hy; exact hx
def tabOk (n : Nat) (t : List (List Int)) : Prop := ∀ i, i < t.length → rowOk n (t.getD i []) ∧ (t.getD i []).length = n
theorem tabOk.nil (n : Nat) : tabOk n [] := fun i hi => by simp at hi
theorem tabOk.push {n : Nat} {t : List (List Int)} (h : tabOk n t) {r : List Int} (hr : rowOk n r) (hl : r.length = n) : tabOk n (t ++ [r]) := by
  intro i hi
  rw [List.length_append] at hi
  simp only [List.length_cons, List.length_nil] at hi
  rw [getD_snocL _ _ _ (by omega)]
  by_cases hil : i < t.length
  · rw [if_pos hil]; exact h i hil
  · rw [if_neg hil]; exact ⟨hr, hl⟩
theorem tabOk.tab {n : Nat} {t : List (List Int)} (h : tabOk n t) (hl : t.length = n) (h1 : 1 ≤ n) (h8 : n ≤ 8) : tabB t = true := by
  unfold tabB
  rw [Bool.and_eq_true]
  refine ⟨decide_eq_true (by omega), all_t (fun i hi => ?_)⟩
  obtain ⟨h2, h3⟩ := h i hi
  unfold rowB
  rw [Bool.and_eq_true]
  refine ⟨decide_eq_true (by omega), all_t (fun j hj => ?_)⟩
  unfold entB
  exact decide_eq_true (h2.2 _ (getD_mem _ hj))

set_option maxRecDepth 100000 in
set_option maxHeartbeats 4000000 in
theorem kTable_any (ra : Option Addr) (rn rc : Nat) (raw : List Int) (sz : Int) (most : Nat) (w : World) (hr : Ints w ra rn raw) (hs : -9223372036854775808 ≤ sz ∧ sz ≤ 9223372036854775807) (hm1 : 1 ≤ most) (hm8 : most ≤ 8) :
    Calls Try.prog 16 #[.slice ra rn rc, .int .i64 sz, .int .i64 most] w fun e w' => ∃ v t, e = .returned v ∧ OwnT w' w.heap.size v t ∧ tabB t = true ∧ t.length ≤ most ∧ Below w.heap.size w w' := by
  have HR := hide hr
  have hrs := hr.small
  have hwf := hide hr.wf
  have hpb := pickS_bd sz most (by omega)
  have cP : n0 (∀ w0, Calls Try.prog 12 #[.int .i64 sz, .int .i64 most] w0 fun e w' => e = .returned (.int .i64 (pickS sz most)) ∧ w' = w0) := fun w0 => pick_any sz most w0 hs.1 hs.2 (by omega) (by omega)
  obtain ⟨n', hn'⟩ : ∃ n' : Nat, pickS sz most = (n' : Int) := ⟨(pickS sz most).toNat, by omega⟩
  rw [hn'] at cP hpb
  have hn8 : n' + 1 ≤ most := by omega
  clear hr hn' hpb
  go_enter Try.func16, Try.ntmps16
  go_wp2_with fail
  refine (cP.out _).mono ?_
  rintro e w1 ⟨rfl, rfl⟩
  clear cP
  obtain ⟨n, hn⟩ : ∃ n : Nat, n = n' + 1 := ⟨_, rfl⟩
  have hnc : (1 : Int) + (n' : Int) = (n : Int) := by omega
  have hn1 : 1 ≤ n := by omega
  have hnm : n ≤ most := by omega
  have hn8b : n ≤ 8 := by omega
  have HN := hide hn
  clear hn hn8
  go_wp2
  go_loopw [8, 9, 10, 11, 12] (fun v i r j x wr => ∃ (k : Nat) (t : List (List Int)), k ≤ n ∧ i = .int .i64 k ∧ t.length = k ∧ Hid (tabOk n t) ∧ Hid (OwnT wr w1.heap.size v t) ∧ Below w1.heap.size w1 wr) (fun _ i _ _ _ _ => n - (intOf i).toNat)
  case atStart => exact ⟨0, [], Nat.zero_le _, rfl, rfl, tabOk.nil n, OwnT.nil _ _, Below.refl _ _⟩
  case round =>
    obtain ⟨k, t, hk, rfl, htl, hTO, hOT, hb⟩ := hrel
    by_cases hlt : k < n
    · have hlt3 : (k : Int) < (n : Int) := by omega
      obtain ⟨wo, hwo⟩ : ∃ wo, wo = wr := ⟨_, rfl⟩
      subst hwo
      have hbo := hb.size
      have hkn0 : (0 : Int) ≤ (k : Int) * (n : Int) := Int.mul_nonneg (by omega) (by omega)
      have hkn1 : (k : Int) * (n : Int) ≤ 64 := by
        have : (k : Int) * (n : Int) ≤ 8 * 8 := Int.mul_le_mul (by omega) (by omega) (by omega) (by omega)
        omega
      go_wp2
      go_loopw [10, 11, 12] (fun v j x wr => ∃ (m : Nat) (r : List Int), m ≤ n ∧ j = .int .i64 m ∧ r.length = m ∧ Hid (rowOk n r) ∧ Hid (OwnL wr wo.heap.size v r) ∧ Below wo.heap.size wo wr) (fun _ j _ _ => n - (intOf j).toNat)
      case atStart => exact ⟨0, [], Nat.zero_le _, rfl, rfl, rowOk.nil n, OwnL.nil _ _, Below.refl _ _⟩
      case round =>
        obtain ⟨m, r, hm, rfl, hrl, hRO, hOL, hb2⟩ := hrel
        obtain ⟨oa, oc, rfl, hown⟩ := hOL.out
        rw [hrl] at hown ⊢
        have HOW := hide hown
        clear hown
        have hsz2 : wo.heap.size ≤ wr.heap.size := hb2.size
        by_cases hlt2 : m < n
        · have hlt4 : (m : Int) < (n : Int) := by omega
          have push : n0 (∀ (x : Int) (w2 : World) (g' c' : Nat), (x = -1 ∨ (0 ≤ x ∧ x ≤ 50)) → w2.ownsRow wo.heap.size 3 1 (.slice (some ⟨g', 0, none⟩) (m + 1) c') (m + 1) (intCells (r ++ [x])) → (wr.alloc (.cells #[.int .i64 x] 3)).grownBy w2 (Value.slice oa m oc).ownBlock → (r ++ [x]).length = m + 1 ∧ rowOk n (r ++ [x]) ∧ OwnL w2 wo.heap.size (.slice (some ⟨g', 0, none⟩) (m + 1) c') (r ++ [x]) ∧ Below wo.heap.size wo w2) := fun x w2 g' c' hx ho hgr => by
            refine ⟨by simp; omega, hRO.out.push (by omega) hx, ?_, ?_⟩
            · have := OwnL.push (l := r) (y := x) (by rw [hrl]; exact ho)
              rw [hrl] at this
              exact this
            · have hblk := (HOW.out.alloc (.cells #[.int .i64 x] 3)).lt
              exact (hb2.alloc hsz2 _).grown hgr (by simp; omega) (fun b hb' => (hblk b hb').1)
          by_cases hr0 : 0 < rn
          · have hr0b : (0 : Int) < (rn : Int) := by omega
            have hix0 : 0 ≤ ((k : Int) * (n : Int) + (m : Int)) % (rn : Int) := Int.emod_nonneg _ (by omega)
            have hix1 : ((k : Int) * (n : Int) + (m : Int)) % (rn : Int) < (rn : Int) := Int.emod_lt_of_pos _ (by omega)
            obtain ⟨ix, hix⟩ : ∃ ix : Nat, ((k : Int) * (n : Int) + (m : Int)) % (rn : Int) = (ix : Int) := ⟨(((k : Int) * (n : Int) + (m : Int)) % (rn : Int)).toNat, by omega⟩
            have hixt : ((k : Int) * (n : Int) + (m : Int)).tmod (rn : Int) = (ix : Int) := by rw [Int.tmod_eq_emod_of_nonneg (by omega)]; exact hix
            have hixl : ix < rn := by omega
            have hixl2 : (ix : Int) < (rn : Int) := by omega
            obtain ⟨b3, off3, y, rfl, hY, hb3, ey⟩ := (HR.out.below (hb.trans (hb2.mono hbo))).get hixl
            have hyb : -9223372036854775808 ≤ y ∧ y ≤ 9223372036854775807 := by
              have := (HR.out).len
              rw [← hY]
              refine hwf.out _ ?_
              simp only [List.getD, List.getElem?_eq_getElem (show ix < raw.length by omega), Option.getD_some]
              exact List.getElem_mem _
            have cQ : n0 (∀ w0, Calls Try.prog 12 #[.int .i64 y, .int .i64 68] w0 fun e w' => e = .returned (.int .i64 (pickS y 68)) ∧ w' = w0) := fun w0 => pick_any y 68 w0 hyb.1 hyb.2 (by omega) (by omega)
            have hpb := pickS_bd y 68 (by omega)
            obtain ⟨z, hz⟩ : ∃ z, pickS y 68 = z := ⟨_, rfl⟩
            rw [hz] at cQ hpb
            obtain ⟨z0, z1⟩ := hpb
            clear hz hY hix0 hix1 hyb
            have hrne : (rn : Int) ≠ 0 := by omega
            have hrn1 : (rn : Int) ≠ -1 := by omega
            go_wp2_with fail
            refine (cQ.out _).mono ?_
            rintro e wr ⟨rfl, rfl⟩
            clear cQ hix hixt
            by_cases hz5 : 50 < z
            · go_wp2_with (at_builtin; refine wpList_push_int rfl (.tmp 50) (.tmp 52) rfl wo.heap.size oa oc r (by rw [hrl]; rfl) ?_ wr.heap.size (-1) 1 rfl ?_ (by omega) ?_ ?_)
              · rw [hrl]; exact HOW.out.alloc _
              · go_simp
              · simp; omega
              intro g' c' w3 hown2 hgr
              obtain ⟨p1, p2, p3, p4⟩ := push.out (-1) w3 g' c' (.inl rfl) hown2 hgr
              have P2 := hide p2
              have P3 := hide p3
              clear hown2 hgr p2 p3 push
              go_wp2
              go_roundw
              case rel => exact ⟨m + 1, _, by omega, by go_num, p1, P2.out, P3.out, p4⟩
              case measure => simp [intOf]; omega
            · have hz6 : z ≤ 50 := by omega
              go_wp2_with (at_builtin; refine wpList_push_int rfl (.tmp 50) (.tmp 52) rfl wo.heap.size oa oc r (by rw [hrl]; rfl) ?_ wr.heap.size z 1 rfl ?_ (by omega) ?_ ?_)
              · rw [hrl]; exact HOW.out.alloc _
              · go_simp
              · simp; omega
              intro g' c' w3 hown2 hgr
              obtain ⟨p1, p2, p3, p4⟩ := push.out z w3 g' c' (.inr ⟨z0, by omega⟩) hown2 hgr
              have P2 := hide p2
              have P3 := hide p3
              clear hown2 hgr p2 p3 push
              go_wp2
              go_roundw
              case rel => exact ⟨m + 1, _, by omega, by go_num, p1, P2.out, P3.out, p4⟩
              case measure => simp [intOf]; omega
          · have hr1 : rn = 0 := by omega
            subst hr1
            have hv0 : 0 ≤ (7 * ((k : Int) + 2 * (m : Int))) % 51 := Int.emod_nonneg _ (by omega)
            have hv1 : (7 * ((k : Int) + 2 * (m : Int))) % 51 < 51 := Int.emod_lt_of_pos _ (by omega)
            have hvt : (7 * ((k : Int) + 2 * (m : Int))).tmod 51 = (7 * ((k : Int) + 2 * (m : Int))) % 51 := Int.tmod_eq_emod_of_nonneg (by omega)
            obtain ⟨z, hz⟩ : ∃ z, (7 * ((k : Int) + 2 * (m : Int))) % 51 = z := ⟨_, rfl⟩
            rw [hz] at hv0 hv1 hvt
            have hz6 : z ≤ 50 := by omega
            have hzd : decide (50 < z) = false := decide_eq_false (by omega)
            go_wp2_with (at_builtin; refine wpList_push_int rfl (.tmp 50) (.tmp 52) rfl wo.heap.size oa oc r (by rw [hrl]; rfl) ?_ wr.heap.size z 1 rfl ?_ (by omega) ?_ ?_)
            · rw [hrl]; exact HOW.out.alloc _
            · go_simp
            · simp; omega
            intro g' c' w3 hown2 hgr
            obtain ⟨p1, p2, p3, p4⟩ := push.out z w3 g' c' (.inr ⟨hv0, hz6⟩) hown2 hgr
            have P2 := hide p2
            have P3 := hide p3
            clear hown2 hgr p2 p3 push
            go_wp2
            go_roundw
            case rel => exact ⟨m + 1, _, by omega, by go_num, p1, P2.out, P3.out, p4⟩
            case measure => simp [intOf]; omega
        · have hmn : m = n := by omega
          subst hmn
          have HT2 := hide (hOT.out.below hb2)
          have hbw : Below w1.heap.size w1 wr := hb.trans (hb2.mono hbo)
          have hRow := hide (ownsRow_mono HOW.out hbo)
          have hTO2 := hide (hTO.out.push hRO.out hrl)
          have htl2 : t.length < 5864062014805 := by omega
          clear hOT hOL HOW
          go_wp2_with (at_builtin; refine wpList_push_row rfl (.tmp 54) (.tmp 56) rfl w1.heap.size _ t rfl ?_ wr.heap.size oa m oc r hrl 1 rfl ?_ ?_ htl2 ?_ ?_)
          · exact HT2.out.below (Joins.below_alloc1 _ _)
          · go_simp
          · exact hRow.out.alloc _
          · simp; omega
          intro v' w3 hO3 hgr
          have hb4 : Below w1.heap.size w1 w3 := (hbw.alloc hbw.size _).grown hgr (by have := hbw.size; simp; omega) (fun q hq => (HT2.out.blk q hq).1)
          have HO3 := hide hO3
          clear hO3 hgr HT2 hRow
          go_wp2
          go_roundw
          case rel => exact ⟨k + 1, _, by omega, by go_num, by simp; omega, hTO2.out, HO3.out, hb4⟩
          case measure => simp [intOf]; omega
    · have hkn : k = n := by omega
      subst hkn
      have HTB := hide (hTO.out.tab htl hn1 hn8b)
      go_wp2
      go_ret
      exact ⟨_, t, rfl, hOT.out, HTB.out, by omega, hb⟩
end Go.Proofs.Ytnbccoflcoaoaab

namespace Go.Proofs.Ytnbccoflcoaoaab
open Go.RowKit Go.Deep
set_option linter.unusedSimpArgs false
set_option linter.unusedVariables false

/-! ### columns out of raw numbers -/
theorem Ints.drop {w : World} {b off n k : Nat} {l : List Int} (h : Ints w (some ⟨b, off, none⟩) n l) (hk : k ≤ n) : Ints w (some ⟨b, off + k, none⟩) (n - k) (l.drop k) := by
  refine ⟨by rw [List.length_drop, h.len], by have := h.small; omega, fun x hx => h.wf x (List.mem_of_mem_drop hx), ?_⟩
  by_cases h0 : n - k = 0
  · exact .inl h0
  · obtain ⟨b', off', e, hl, hc⟩ := h.lies.resolve_left (by omega)
    cases e
    refine .inr ⟨b, off + k, rfl, hl, fun i hi => ?_⟩
    rw [show (l.drop k).getD i 0 = l.getD (k + i) 0 from by simp [List.getD, List.getElem?_drop], Nat.add_assoc]
    exact hc (k + i) (by omega)

/-- In the walk: append(l, ys...), l a row of the call's own. -/
theorem wpList_push_ints {w : World} {ops : Array Oper} {rest : List Oper} {o : Oper} {a : Act} {Q : Exit → Act → World → Prop} (hgd : o.guard = none) (s x : Operand)
    (ho : o.op = .call { callee := .builtin .append, args := #[s, x], argTypes := #[22, 22] }) (base : Nat) (v : Value) (l : List Int)
    (hs : a.eval s = v) (hown : OwnL w base v l) (ad : Addr) (m c : Nat) (ys : List Int) (hx : a.eval x = .slice (some ad) m c) (hy : Ints w (some ad) m ys)
    (hl : l.length + m ≤ 1000) (hb : base ≤ w.heap.size)
    (h : ∀ v' w', OwnL w' base v' (l ++ ys) → w.grownBy w' v.ownBlock → wpList Try.prog ops Q rest (a.put o.dst v') w') : wpList Try.prog ops Q (o :: rest) a w := by
  obtain ⟨oa, oc, rfl, hown⟩ := hown
  obtain ⟨i0, hi, hz0, hz1, hz2⟩ := info_parts infoInt
  have hyl := hy.len
  refine wpList_append_own w hgd s x 22 ho base 3 i0 _ 1 8 Try.underlying22 hi hz0 hz1 hz2 rfl (by decide) _ l.length (intCells l) hs hown ad m c (intCells ys) hx (by rw [intCells_length]; omega) ?_ (intCells_one ys) (by unfold maxLen; omega) (by omega) hb ?_
  · intro j u hj
    rcases hy.src with h0 | ⟨ad', e, h1⟩
    · have : ys = [] := List.eq_nil_of_length_eq_zero (by omega)
      subst this
      simp [intCells] at hj
    · cases e
      exact h1 j u hj
  · intro v' w' hown' hgr _
    have e : intCells (l ++ ys) = intCells l ++ intCells ys := by simp [intCells]
    have e2 : (l ++ ys).length = l.length + m := by rw [List.length_append, hyl]
    rcases hown'.2 with ⟨rfl, h0⟩ | ⟨g', cap, cur, rfl, r⟩
    · refine h _ w' ⟨none, 0, by rw [e2, h0], ?_⟩ hgr
      rw [e2, e]
      rw [h0] at hown' ⊢
      exact hown'
    · exact h _ w' ⟨some ⟨g', 0, none⟩, cap, by rw [e2], by rw [e2, e]; exact hown'⟩ hgr

theorem OwnL.own_blk {w : World} {base : Nat} {v : Value} {l : List Int} (h : OwnL w base v l) : ∀ b, v.ownBlock = some b → base ≤ b := by
  obtain ⟨oa, oc, rfl, ho⟩ := h
  exact fun b hb => (ho.lt b hb).1

/-- What is given out, and what is free still. -/
structure Free (n : Nat) (l fr : List Int) : Prop where
  once : (l ++ fr).Nodup
  inr : ∀ x ∈ l ++ fr, 0 ≤ x ∧ x < n
theorem Free.give {n : Nat} {l fr : List Int} (h : Free n l fr) {k : Nat} (hk : k < fr.length) : Free n (l ++ [fr.getD k 0]) (fr.take k ++ fr.drop (k + 1)) := by
  have e : fr = fr.take k ++ fr.getD k 0 :: fr.drop (k + 1) := by
    have h1 := (List.take_append_drop k fr).symm
    rw [List.drop_eq_getElem_cons hk] at h1
    rw [show fr.getD k 0 = fr[k] from by simp [List.getD, hk]]
    exact h1
  have hp : List.Perm (l ++ fr) (l ++ [fr.getD k 0] ++ (fr.take k ++ fr.drop (k + 1))) := by
    rw [List.append_assoc]
    refine List.Perm.append_left l ?_
    conv => lhs; rw [e]
    exact List.perm_middle
  exact ⟨hp.nodup h.once, fun x hx => h.inr x (hp.mem_iff.2 hx)⟩
theorem Free.inj {n : Nat} {l : List Int} (h : Free n l []) : ∀ i j, i < l.length → j < l.length → l.getD i 0 = l.getD j 0 → i = j := by
  have hn := h.once
  rw [List.append_nil] at hn
  have hp := List.pairwise_iff_getElem.1 hn
  intro i j hi hj e
  rw [show l.getD i 0 = l[i] from by simp [List.getD, hi], show l.getD j 0 = l[j] from by simp [List.getD, hj]] at e
  rcases Nat.lt_trichotomy i j with h1 | h1 | h1
  · exact absurd e (hp i j hi hj h1)
  · exact h1
  · exact absurd e.symm (hp j i hj hi h1)
def upL (n : Nat) : List Int := (List.range n).map fun (i : Nat) => (i : Int)
theorem upL_len (n : Nat) : (upL n).length = n := by simp [upL]
theorem upL_snoc (n : Nat) : upL (n + 1) = upL n ++ [(n : Int)] := by simp [upL, List.range_succ]
theorem Free.all (n : Nat) : Free n [] (upL n) := by
  refine ⟨?_, fun x hx => ?_⟩
  · rw [List.nil_append]
    unfold upL
    refine List.Pairwise.map _ (fun a b h => ?_) List.nodup_range
    omega
  · simp only [List.nil_append, upL, List.mem_map, List.mem_range] at hx
    obtain ⟨i, hi, rfl⟩ := hx
    omega

set_option maxRecDepth 100000 in
set_option maxHeartbeats 4000000 in
theorem kColumns_any (ra : Option Addr) (rn rc : Nat) (raw : List Int) (n : Nat) (w : World) (hr : Ints w ra rn raw) (hn8 : n ≤ 8) :
    Calls Try.prog 19 #[.slice ra rn rc, .int .i64 n] w fun e w' => ∃ v l, e = .returned v ∧ OwnL w' w.heap.size v l ∧ l.length = n ∧ Free n l [] ∧ Below w.heap.size w w' := by
  have HR := hide hr
  have hrs := hr.small
  have hwf := hide hr.wf
  clear hr
  go_enter Try.func19, Try.ntmps19
  go_wp2
  go_loopw [5, 6] (fun v i wr => ∃ k : Nat, k ≤ n ∧ i = .int .i64 k ∧ Hid (OwnL wr w.heap.size v (upL k)) ∧ Below w.heap.size w wr) (fun _ i _ => n - (intOf i).toNat)
  case atStart => exact ⟨0, Nat.zero_le _, rfl, OwnL.nil _ _, Below.refl _ _⟩
  case round =>
    obtain ⟨k, hk, rfl, hO, hb⟩ := hrel
    have hsz := hb.size
    by_cases hlt : k < n
    · obtain ⟨oa, oc, rfl, hown⟩ := hO.out
      have HO := hide hown
      have hlt3 : (k : Int) < (n : Int) := by omega
      have hnx : Hid (upL (k + 1) = upL k ++ [(k : Int)]) := upL_snoc k
      have hlen : (upL k).length ≤ 1000 := by rw [upL_len]; omega
      generalize hLL : upL k = L at *
      clear hLL hown hO
      go_wp2_with (at_builtin; refine wpList_push_int rfl (.tmp 16) (.tmp 18) rfl w.heap.size oa oc L rfl ?_ wr.heap.size k 1 rfl ?_ hlen ?_ ?_)
      · exact HO.out.alloc _
      · go_simp
      · simp; omega
      intro g' c' w2 hown2 hgr
      have hblk := (HO.out.alloc (.cells #[.int .i64 k] 3)).lt
      have hb2 : Below w.heap.size w w2 := (hb.alloc hsz _).grown hgr (by simp; omega) (fun b hb' => (hblk b hb').1)
      go_wp2
      go_roundw
      case rel =>
        refine ⟨k + 1, by omega, by go_num, ?_, hb2⟩
        rw [hnx.out]
        exact OwnL.push hown2
      case measure => simp [intOf]; omega
    · have hkn : k = n := by omega
      subst hkn
      have hF0 : Hid (Free k [] (upL k)) := Free.all k
      go_wp2
      go_loopw [5, 7, 8, 9, 10] (fun fv lv i kk rv wr => ∃ (q B : Nat) (l fr : List Int), q ≤ k ∧ i = .int .i64 q ∧ l.length = q ∧ fr.length + q = k ∧ Hid (Free k l fr) ∧ Hid (OwnL wr w.heap.size lv l) ∧ Hid (OwnL wr B fv fr) ∧ Hid (∀ b, lv.ownBlock = some b → b < B) ∧ w.heap.size ≤ B ∧ B ≤ wr.heap.size ∧ Below w.heap.size w wr) (fun _ _ i _ _ _ => k - (intOf i).toNat)
      case atStart => exact ⟨0, w.heap.size, [], upL k, Nat.zero_le _, rfl, rfl, by rw [upL_len]; rfl, hF0.out, OwnL.nil _ _, hO.out, fun b h => by simp [Value.ownBlock] at h, Nat.le_refl _, hsz, hb⟩
      case round =>
        clear hO hF0 hb hsz
        obtain ⟨q, B, l, fr, hq, rfl, hll, hfl, hF, hOl, hOf, hlB, hB0, hB1, hb⟩ := hrel
        have hsz := hb.size
        by_cases hlt2 : q < k
        · have hlt4 : (q : Int) < (k : Int) := by omega
          obtain ⟨fa, fc, rfl, hof⟩ := hOf.out
          obtain ⟨la, lc, rfl, hol⟩ := hOl.out
          obtain ⟨g, rfl, hgB, hgs, hfc⟩ : ∃ g, fa = some ⟨g, 0, none⟩ ∧ B ≤ g ∧ g < wr.heap.size ∧ fr.length ≤ fc := by
            rcases hof.2 with ⟨_, h0⟩ | ⟨g, cap, cur, e, h1, h2, h3, _⟩
            · omega
            · cases e
              exact ⟨g, rfl, h1, (hof.lt g rfl).2, h3⟩
          obtain ⟨fn, hfn⟩ : ∃ fn, fr.length = fn := ⟨_, rfl⟩
          have hbd : ∀ x ∈ fr, -9223372036854775808 ≤ x ∧ x ≤ 9223372036854775807 := fun x hx => by have := hF.out.inr x (List.mem_append.2 (.inr hx)); omega
          have hIf := own_ints hof (by omega) hbd
          rw [hfn] at hof hIf hfl hfc ⊢
          rw [hll] at hol ⊢
          have HFN := hide hfn
          have HOF := hide hof
          have HOL := hide hol
          have HIF := hide hIf
          have HBD := hide hbd
          have HLL := hide hll
          clear hof hol hIf hOf hOl hbd hfn hll
          have hfn0 : 0 < fn := by omega
          have hfn8 : fn ≤ 8 := by omega
          obtain ⟨wi, hwi⟩ : ∃ wi, wi = wr := ⟨_, rfl⟩
          subst hwi
          go_upto_if 28 with fail
          go_cut [9] (fun kk wx => ∃ p : Nat, kk = .int .i64 p ∧ p < fn ∧ wx = wi)
          case first =>
            by_cases hqr : q < rn
            · have hqr2 : (q : Int) < (rn : Int) := by omega
              obtain ⟨b3, off3, y, rfl, hY, hb3, ey⟩ := (HR.out.below hb).get hqr
              have hyb : -9223372036854775808 ≤ y ∧ y ≤ 9223372036854775807 := by
                have := HR.out.len
                rw [← hY]
                exact hwf.out _ (getD_mem _ (by omega))
              have hpb := pickS_bd y fn (by omega)
              have cQ : n0 (∀ w0, Calls Try.prog 12 #[.int .i64 y, .int .i64 fn] w0 fun e w' => e = .returned (.int .i64 (pickS y fn)) ∧ w' = w0) := fun w0 => pick_any y fn w0 hyb.1 hyb.2 (by omega) (by omega)
              obtain ⟨p, hp⟩ : ∃ p : Nat, pickS y fn = (p : Int) := ⟨(pickS y fn).toNat, by omega⟩
              rw [hp] at cQ hpb
              clear hY hyb hp
              go_wp2_with fail
              refine (cQ.out _).mono ?_
              rintro e wi ⟨rfl, rfl⟩
              clear cQ
              go_wp2_with fail
              go_meet
              case rel => exact ⟨p, rfl, by omega, rfl⟩
            · have hqr2 : decide ((q : Int) < (rn : Int)) = false := decide_eq_false (by omega)
              go_wp2_with fail
              all_goals first
                | (exfalso; omega)
                | (go_meet
                   case rel => exact ⟨0, rfl, hfn0, rfl⟩)
          case rest =>
          obtain ⟨p, rfl, hpf, rfl⟩ := hcut
          have hp2 : (p : Int) < (fn : Int) := by omega
          obtain ⟨b4, off4, x, e4, hX, hb4, ex⟩ := HIF.out.get hpf
          cases e4
          rw [Nat.zero_add] at ex
          have hgive := hF.out.give (k := p) (by rw [HFN.out]; exact hpf)
          rw [hX] at hgive
          have HGV := hide hgive
          clear hgive hX
          go_wp2_with (at_builtin; refine wpList_push_int rfl (.tmp 36) (.tmp 41) rfl w.heap.size la lc l (by rw [HLL.out]; rfl) ?_ wc.heap.size x 1 rfl ?_ (by rw [HLL.out]; omega) ?_ ?_)
          · rw [HLL.out]; exact HOL.out.alloc _
          · go_simp
          · simp; omega
          rw [HLL.out]
          intro g' c' w2 hown2 hgr
          have hb2 : Below w.heap.size w w2 := (hb.alloc hsz _).grown hgr (by simp; omega) (fun b hb' => ((HOL.out.alloc (.cells #[.int .i64 x] 3)).lt b hb').1)
          have hof2 := (HOF.out.alloc (.cells #[.int .i64 x] 3)).kept hgr (.inr (fun e => by
            have h1 := hlB.out g (show (Value.slice la l.length lc).ownBlock = some g from by rw [show (Value.slice la l.length lc).ownBlock = (Value.slice la q lc).ownBlock from by cases la <;> rfl, ← e]; rfl)
            omega))
          have hIf2 : Ints w2 (some ⟨g, 0, none⟩) fn fr := by
            have h := own_ints (oa := some ⟨g, 0, none⟩) (oc := fc) (l := fr) (by rw [HFN.out]; exact hof2) (by rw [HFN.out]; omega) HBD.out
            rw [HFN.out] at h
            exact h
          have hg2 : g' < w2.heap.size := (hown2.lt g' rfl).2
          have HL2 : Hid (OwnL w2 w.heap.size (.slice (some ⟨g', 0, none⟩) (q + 1) c') (l ++ [x])) := by
            have := OwnL.push (l := l) (y := x) (by rw [HLL.out]; exact hown2)
            rw [HLL.out] at this
            exact this
          have hT := hide (hIf2.take (k := p) (by omega))
          have hD := hide (hIf2.drop (k := p + 1) (by omega))
          clear hown2 hgr hof2 ex hIf2 HOL HOF HIF
          have hpc : (p : Int) ≤ (fc : Int) := by omega
          have hpc2 : (p : Int) + 1 ≤ (fn : Int) := by omega
          go_wp2_with (at_builtin; refine wpList_copy_own rfl _ _ rfl rfl (some ⟨g, 0, none⟩) p fc rfl (fr.take p) hT.out ?_)
          intro a3 c3 w3 hown3 hb3
          have hD3 := hide (hD.out.below hb3)
          have HL3 := hide (HL2.out.grow hb3)
          have hlt3' : (fr.take p).length = p := by rw [List.length_take, HFN.out]; omega
          have HO3 : Hid (OwnL w3 w2.heap.size (.slice a3 p c3) (fr.take p)) := ⟨a3, c3, by rw [hlt3'], by rw [hlt3']; exact hown3⟩
          clear hown3 hT hD HL2
          obtain ⟨dr, hdr⟩ : ∃ dr, fr.drop (p + 1) = dr := ⟨_, rfl⟩
          obtain ⟨tk, htk⟩ : ∃ tk, fr.take p = tk := ⟨_, rfl⟩
          have hdl : dr.length = fn - (p + 1) := by rw [← hdr, List.length_drop, HFN.out]
          rw [hdr, Nat.zero_add] at hD3
          rw [hdr] at HGV
          rw [htk] at HO3 HGV hlt3'
          have hzc : Hid (p + 1 = fc → Ints w3 (some ⟨g, 0, none⟩) 0 dr) := fun h => ⟨by omega, by omega, fun x hx => by
            have : dr = [] := List.eq_nil_of_length_eq_zero (by omega)
            rw [this] at hx
            simp at hx, .inl rfl⟩
          have HDL := hide hdl
          have HTL := hide hlt3'
          have hbl := hide (fun b (h : (Value.slice a3 p c3).ownBlock = some b) => (HO3.out.own_blk b h))
          have hwz : w.heap.size ≤ w2.heap.size := hb2.size
          have hwz3 : w2.heap.size ≤ w3.heap.size := hb3.size
          have fin : n0 (∀ v' w4, OwnL w4 w2.heap.size v' (tk ++ dr) → w3.grownBy w4 (Value.slice a3 p c3).ownBlock → OwnL w4 w.heap.size (.slice (some ⟨g', 0, none⟩) (q + 1) c') (l ++ [x]) ∧ Below w.heap.size w w4 ∧ w2.heap.size ≤ w4.heap.size) := fun v' w4 h1 h2 => by
            refine ⟨?_, ?_, Nat.le_trans hwz3 h2.size⟩
            · obtain ⟨oa, oc, e, ho⟩ := HL3.out
              refine ⟨oa, oc, e, ho.kept h2 (.inr (fun e2 => ?_))⟩
              have e3 : (Value.slice oa (l ++ [x]).length oc).ownBlock = some g' := by rw [← e]; rfl
              rw [e3] at e2
              have := hbl.out g' e2.symm
              omega
            · exact (hb2.trans (hb3.mono hwz)).grown h2 (Nat.le_trans hwz hwz3) (fun b hb' => Nat.le_trans hwz (hbl.out b hb'))
          clear hdr htk hdl hlt3'
          have hfl1 : (l ++ [x]).length = q + 1 := by rw [List.length_append, HLL.out]; rfl
          have hfl2 : (tk ++ dr).length + (q + 1) = k := by rw [List.length_append, HTL.out, HDL.out]; omega
          by_cases hcap : p + 1 = fc
          · have hDz := hide (hzc.out hcap)
            subst hcap
            have hfp : fn = p + 1 := by omega
            subst hfp
            clear hzc hD3
            go_wp2_with (at_builtin; refine wpList_push_ints rfl (.tmp 48) (.tmp 52) rfl w2.heap.size _ tk rfl HO3.out _ _ _ dr rfl hDz.out (by rw [HTL.out]; omega) hwz3 ?_)
            intro v' w4 hO4 hgr4
            obtain ⟨f1, f2, f3⟩ := fin.out v' w4 hO4 hgr4
            have F1 := hide f1
            have HO4 := hide hO4
            clear f1 hO4 hgr4
            go_wp2
            go_roundw
            case rel => exact ⟨q + 1, w2.heap.size, l ++ [x], tk ++ dr, by omega, by go_num, hfl1, hfl2, HGV.out, F1.out, HO4.out, fun b h => by simp [Value.ownBlock] at h; omega, hwz, f3, f2⟩
            case measure => simp [intOf]; omega
          · clear hzc
            go_wp2_with (at_builtin; refine wpList_push_ints rfl (.tmp 48) (.tmp 52) rfl w2.heap.size _ tk rfl HO3.out _ _ _ dr rfl hD3.out (by rw [HTL.out]; omega) hwz3 ?_)
            intro v' w4 hO4 hgr4
            obtain ⟨f1, f2, f3⟩ := fin.out v' w4 hO4 hgr4
            have F1 := hide f1
            have HO4 := hide hO4
            clear f1 hO4 hgr4
            go_wp2
            go_roundw
            case rel => exact ⟨q + 1, w2.heap.size, l ++ [x], tk ++ dr, by omega, by go_num, hfl1, hfl2, HGV.out, F1.out, HO4.out, fun b h => by simp [Value.ownBlock] at h; omega, hwz, f3, f2⟩
            case measure => simp [intOf]; omega
        · have hqk : q = k := by omega
          subst hqk
          have hfr : fr = [] := List.eq_nil_of_length_eq_zero (by omega)
          subst hfr
          go_wp2
          go_ret
          exact ⟨_, l, rfl, hOl.out, hll, hF.out, hb⟩
end Go.Proofs.Ytnbccoflcoaoaab

namespace Go.Proofs.Ytnbccoflcoaoaab
open Go.RowKit Go.Deep
set_option linter.unusedSimpArgs false
set_option linter.unusedVariables false

def barK (t : List (List Int)) (l : List Int) (k : Nat) : Bool := (List.range k).any (fun i => decide (tAt t i (l.getD i 0).toNat = -1))
theorem barK_succ (t : List (List Int)) (l : List Int) (k : Nat) : barK t l (k + 1) = (barK t l k || decide (tAt t k (l.getD k 0).toNat = -1)) := by
  simp [barK, List.range_succ]
theorem barK_f {t : List (List Int)} {l : List Int} {k : Nat} (h : barK t l k = false) : ∀ i, i < k → tAt t i (l.getD i 0).toNat ≠ -1 := by
  intro i hi e
  have : barK t l k = true := by
    unfold barK
    rw [List.any_eq_true]
    exact ⟨i, List.mem_range.2 hi, decide_eq_true e⟩
  rw [h] at this
  cases this
theorem rep_at {n i : Nat} (hi : i < n) : (List.replicate n (1 : Int)).getD i 0 = 1 := by simp [List.getD, hi]
/-- A rising list has as many numbers as there are numbers in it. -/
theorem ris_count {l : List Int} {n : Nat} (h : risB l n = true) : sumTo (fun i => if inB l (i : Int) = true then (1 : Int) else 0) n = l.length := by
  have h1 := need_sum (xs := List.replicate n 1) (cut := l) (by rw [List.length_replicate]; exact h) l.length (Nat.le_refl _)
  rw [List.take_of_length_le (Nat.le_refl _), List.length_replicate] at h1
  have h2 : ∀ k, k ≤ l.length → needTo (List.replicate n 1) l k = k := by
    intro k
    induction k with
    | zero => intro _; rfl
    | succ k ih =>
      intro hk
      have h3 := of_decide_eq_true (of_all h k (by omega))
      simp only [needTo]
      rw [ih (by omega), rep_at (show (l.getD k 0).toNat < n by omega)]
      omega
  rw [h2 _ (Nat.le_refl _)] at h1
  rw [h1]
  refine sumTo_congr (fun i hi => ?_)
  unfold chi
  rw [rep_at hi]
  split <;> simp

theorem plan_err {t : List (List Int)} {p : P6} {e : Int} (ht : tabB t = true) (h : planS t p e = true) : e = 0 := by
  unfold planS at h
  rw [ht, if_neg (by simp)] at h
  split at h
  · cases h
  · rename_i hh; omega
/-- What Cheapest asks, of a plan that is seen to be right. -/
theorem cheap_final {t : List (List Int)} {p : P6} {e : Int} {n : Nat} (hn : t.length = n) (ht : tabB t = true) (h : planS t p e = true) {l : List Int} (hl : l.length = n) (hF : Free n l []) :
    (p.fits = false → barK t l n = true ∧ p.cols.length = 0) ∧ (p.fits = true → p.cols.length = n ∧ (barK t l n = true ∨ p.cost ≤ colCost t l n)) := by
  subst hn
  obtain ⟨t1, t2, t3, t4⟩ := tab_out ht
  have hlr : ∀ i, i < t.length → (l.getD i 0).toNat < t.length := fun i hi => by have := hF.inr (l.getD i 0) (by rw [List.append_nil]; exact getD_mem _ (by omega)); omega
  have hl0 : ∀ i, i < t.length → 0 ≤ l.getD i 0 := fun i hi => (hF.inr (l.getD i 0) (by rw [List.append_nil]; exact getD_mem _ (by omega))).1
  have hli : ∀ i j, i < t.length → j < t.length → (l.getD i 0).toNat = (l.getD j 0).toNat → i = j := fun i j hi hj e => hF.inj i j (by omega) (by omega) (by have := hl0 i hi; have := hl0 j hj; omega)
  unfold planS at h
  rw [ht, if_neg (by simp)] at h
  split at h
  · cases h
  · refine ⟨fun hf => ?_, fun hf => ?_⟩
    · rw [if_pos hf] at h
      simp only [emptyB, Bool.and_eq_true, decide_eq_true_eq] at h
      obtain ⟨⟨hr, ⟨⟨h1, _⟩, _⟩, _⟩, hsh⟩ := h
      refine ⟨?_, h1⟩
      cases hb : barK t l t.length with
      | true => rfl
      | false =>
        exfalso
        refine asg_short (t := tAt t) (l := fun i => (l.getD i 0).toNat) hlr hli (fun i => inB p.short (i : Int)) (fun j => openB t p.short j) (fun i j hi hj hs hne => ?_) ?_ (barK_f hb)
        · obtain ⟨q, hq, e⟩ := inB_iff.1 hs
          unfold openB
          rw [List.any_eq_true]
          exact ⟨q, List.mem_range.2 hq, decide_eq_true (by rw [e, Int.toNat_natCast]; exact hne)⟩
        · rw [ris_count hr]
          exact of_decide_eq_true hsh
    · rw [if_neg (by rw [hf]; simp)] at h
      simp only [Bool.and_eq_true, decide_eq_true_eq] at h
      obtain ⟨⟨⟨hc, hcs⟩, _⟩, hw⟩ := h
      have hc' := hc
      simp only [colsB, Bool.and_eq_true, decide_eq_true_eq] at hc'
      obtain ⟨hcl, hca⟩ := hc'
      have hcol : ∀ i, i < t.length → _ := fun i hi => of_all hca i (by omega)
      simp only [colAt, Bool.and_eq_true, decide_eq_true_eq, Bool.not_eq_true'] at hcol
      refine ⟨hcl, ?_⟩
      cases hb : barK t l t.length with
      | true => exact .inl rfl
      | false =>
        right
        simp only [worB, Bool.and_eq_true] at hw
        have hwor : ∀ i j, i < t.length → j < t.length → _ := fun i j hi hj => of_decide_eq_true (of_all (of_all hw.2 i hi) j hj)
        have hci : ∀ i j, i < t.length → j < t.length → (p.cols.getD i 0).toNat = (p.cols.getD j 0).toNat → i = j := fun i j hi hj e => by
          have e' : p.cols.getD i 0 = p.cols.getD j 0 := by have := (hcol i hi).1.1.1; have := (hcol j hj).1.1.1; omega
          rcases Nat.lt_trichotomy i j with h1 | h1 | h1
          · exfalso
            have h2 := (hcol j hj).1.2
            rw [inB_t (i := i) (by rw [List.length_take]; omega) (by rw [show (p.cols.take j).getD i 0 = p.cols.getD i 0 from by simp [List.getD, List.getElem?_take, h1]]; exact e')] at h2
            cases h2
          · exact h1
          · exfalso
            have h2 := (hcol i hi).1.2
            rw [inB_t (i := j) (by rw [List.length_take]; omega) (by rw [show (p.cols.take i).getD j 0 = p.cols.getD j 0 from by simp [List.getD, List.getElem?_take, h1]]; exact e'.symm)] at h2
            cases h2
        have := asg_cheap (n := t.length) (t := tAt t) (r := fun i => p.rw.getD i 0) (c := fun j => p.cw.getD j 0) (l := fun i => (p.cols.getD i 0).toNat) (l' := fun i => (l.getD i 0).toNat)
          (fun i hi => by have := (hcol i hi).1.1; omega) hci hlr hli (fun i j hi hj hne => (hwor i j hi hj hne).1) (fun i hi => by
            have h1 := (hcol i hi).1.1
            exact (hwor i _ hi (by omega) (hcol i hi).2).2 (by omega)) (barK_f hb)
        rw [← hcs, hcl]
        exact this
theorem colCost_bd2 {t : List (List Int)} {l : List Int} {n : Nat} (hn : t.length = n) (ht : tabB t = true) (hl : l.length = n) (hF : Free n l []) (k : Nat) (hk : k ≤ n) : -(50 * (k : Int)) ≤ colCost t l k ∧ colCost t l k ≤ 50 * (k : Int) := by
  subst hn
  obtain ⟨t1, t2, t3, t4⟩ := tab_out ht
  unfold colCost
  induction k with
  | zero => simp [sumTo]
  | succ k ih =>
    have h1 := ih (by omega)
    have h2 := hF.inr (l.getD k 0) (by rw [List.append_nil]; exact getD_mem _ (by omega))
    have h3 := t4 k (l.getD k 0).toNat (by omega) (by omega)
    simp only [sumTo]
    omega

set_option maxRecDepth 100000 in
set_option maxHeartbeats 4000000 in
theorem keepCheapest_any (hA : AssignC) (ra qa : Option Addr) (rn rc qn qc : Nat) (sz : Int) (raw oth : List Int) (w : World) (hr : Ints w ra rn raw) (ho : Ints w qa qn oth) (hs : -9223372036854775808 ≤ sz ∧ sz ≤ 9223372036854775807) :
    Calls Try.prog 7 #[.slice ra rn rc, .int .i64 sz, .slice qa qn qc] w fun e w' => e = .returned (.bool true) ∧ Below w.heap.size w w' := by
  have HO := hide ho
  have cT : n0 (Calls Try.prog 16 #[.slice ra rn rc, .int .i64 sz, .int .i64 8] w fun e w' => ∃ v t, e = .returned v ∧ OwnT w' w.heap.size v t ∧ tabB t = true ∧ t.length ≤ 8 ∧ Below w.heap.size w w') := kTable_any ra rn rc raw sz 8 w hr hs (by omega) (by omega)
  clear hr ho
  go_enter Try.func7, Try.ntmps7
  go_wp2_with fail
  refine Calls.mono cT.out ?_
  rintro e w1 ⟨v, t, rfl, hO, htb, ht8, hb1⟩
  clear cT
  obtain ⟨t1, t2, t3, t4⟩ := tab_out htb
  have hwfT : TabWf t := fun i hi => ⟨by rw [t3 i hi]; omega, fun x hx => by
    obtain ⟨j, hj, rfl⟩ := mem_of_getD 0 _ x hx
    have := t4 i j hi (by rw [← t3 i hi]; exact hj)
    unfold tAt at this
    omega⟩
  obtain ⟨a1, c1, rfl, hT1, hac1⟩ := hO.tab (by omega) hwfT
  obtain ⟨n, hn⟩ : ∃ n, t.length = n := ⟨_, rfl⟩
  rw [hn] at hT1 hac1 t1 t2 ⊢
  have HN := hide hn
  have HTB := hide htb
  have H3 := hide t3
  have H4 := hide t4
  have HT1 := hide hT1
  have HWF := hide hwfT
  clear hO t3 t4 hwfT htb ht8 hn
  have cC : n0 (Calls Try.prog 18 #[.slice a1 n c1] w1 fun e w' => ∃ v, e = .returned v ∧ OwnT w' w1.heap.size v t ∧ Below w1.heap.size w1 w') := refCopyTable_any a1 n c1 t w1 hT1
  clear hT1
  go_wp2_with fail
  refine Calls.mono cC.out ?_
  rintro e w2 ⟨v2, rfl, hO2, hb2⟩
  clear cC
  obtain ⟨a2, c2, rfl, hT2, hac2⟩ := hO2.tab (by rw [HN.out]; omega) HWF.out
  rw [HN.out] at hT2 hac2 ⊢
  clear hO2
  go_wp2_with fail
  refine (hA a2 n c2 t w2 hT2 hac2).mono ?_
  rintro e w3 ⟨p, err, v3, rfl, hOP, hpl, hb3⟩
  have he0 := plan_err HTB.out hpl
  subst he0
  obtain ⟨ca, cc, ra', rc', wa, wc, sa, sc, rfl, hP, hle⟩ := hOP.open_ hpl
  have HPL := hide hpl
  clear hP hpl hOP hT2 hac2
  have hB3 : Below w1.heap.size w1 w3 := hb2.trans (hb3.mono hb2.size)
  obtain ⟨W4, hW4⟩ : ∃ W4, w3.alloc (planBox p ca cc ra' rc' wa wc sa sc) = W4 := ⟨_, rfl⟩
  have hb4 : Below w3.heap.size w3 W4 := by rw [← hW4]; exact Joins.below_alloc1 _ _
  have hB4 : Below w1.heap.size w1 W4 := hB3.trans (hb4.mono hB3.size)
  have hz4 : w3.heap.size < W4.heap.size := by rw [← hW4]; simp
  have q0 : W4.cell? ⟨w3.heap.size, 0, none⟩ = some (.bool p.fits) := by rw [← hW4]; simp [planBox]
  have q1 : W4.cell? ⟨w3.heap.size, 1, none⟩ = some (.slice ca p.cols.length cc) := by rw [← hW4]; simp [planBox]
  have q2 : W4.cell? ⟨w3.heap.size, 2, none⟩ = some (.int .i64 p.cost) := by rw [← hW4]; simp [planBox]
  unfold planBox at hW4
  have HW4 := hide hW4
  have cK : n0 (Calls Try.prog 19 #[.slice qa qn qc, .int .i64 n] W4 fun e w' => ∃ v l, e = .returned v ∧ OwnL w' W4.heap.size v l ∧ l.length = n ∧ Free n l [] ∧ Below W4.heap.size W4 w') := kColumns_any qa qn qc oth n W4 (HO.out.below (hb1.trans (hB4.mono hb1.size))) (by omega)
  clear hW4
  go_wp2_with fail
  rw [HW4.out]
  refine Calls.mono cK.out ?_
  rintro e w5 ⟨v5, l, rfl, hOL, hll, hF, hb5⟩
  clear cK HW4
  have k0 := (hb5.cell (p := ⟨w3.heap.size, 0, none⟩) hz4).trans q0
  have k1 := (hb5.cell (p := ⟨w3.heap.size, 1, none⟩) hz4).trans q1
  have k2 := (hb5.cell (p := ⟨w3.heap.size, 2, none⟩) hz4).trans q2
  have hz5 : w3.heap.size < w5.heap.size := Nat.lt_of_lt_of_le hz4 hb5.size
  have hB5 : Below w1.heap.size w1 w5 := hB4.trans (hb5.mono hB4.size)
  have HFIN := hide (cheap_final HN.out HTB.out HPL.out hll hF)
  have HCB := hide (fun k hk => colCost_bd2 HN.out HTB.out hll hF k hk)
  have hinr := hide (fun k (hk : k < n) => hF.inr (l.getD k 0) (by rw [List.append_nil]; exact getD_mem _ (by omega)))
  obtain ⟨la, lc, rfl, hol⟩ := hOL
  have hIl := own_ints hol (by omega) (fun x hx => by have := hF.inr x (by rw [List.append_nil]; exact hx); omega)
  rw [hll] at hIl ⊢
  have HIL := hide hIl
  clear hol hIl hll hF q0 q1 q2
  have HK0 := hide k0
  have HK1 := hide k1
  have HK2 := hide k2
  clear k0 k1 k2
  go_wp2
  go_loopw [11, 12, 13, 14] (fun c b i x wr => ∃ k : Nat, k ≤ n ∧ i = .int .i64 k ∧ c = .int .i64 (colCost t l k) ∧ b = .bool (barK t l k) ∧ Below w5.heap.size w5 wr) (fun _ _ i _ _ => n - (intOf i).toNat)
  case atStart => exact ⟨0, Nat.zero_le _, rfl, rfl, rfl, Below.refl _ _⟩
  case round =>
    obtain ⟨k, hk, rfl, rfl, rfl, hb⟩ := hrel
    by_cases hlt : k < n
    · have hlt3 : (k : Int) < (n : Int) := by omega
      obtain ⟨b, off, x, rfl, hX, hbb, ex⟩ := (HIL.out.below hb).get hlt
      have hir := hinr.out k hlt
      rw [hX] at hir
      obtain ⟨v, rfl⟩ := nat_of hir.1
      have hvn : v < n := by omega
      have hv2 : (v : Int) < (n : Int) := by omega
      obtain ⟨b2, off2, rra, rrn, rrc, rfl, hrn, hb2', cr, hI⟩ := ((HT1.out.below hB5).below hb).get hlt
      have hrn2 : rrn = n := by rw [← hrn, H3.out k (by rw [HN.out]; exact hlt)]; exact HN.out
      subst hrn2
      obtain ⟨b3, off3, y, rfl, hY, hb3', ey⟩ := hI.get hvn
      have hye : tAt t k v = y := hY
      have hnx : Hid (colCost t l (k + 1) = colCost t l k + y) := by
        show colCost t l (k + 1) = _
        unfold colCost
        simp only [sumTo, hX, Int.toNat_natCast, hye]
      have hbx : Hid (barK t l (k + 1) = (barK t l k || decide (y = -1))) := by
        show barK t l (k + 1) = _
        rw [barK_succ, hX, Int.toNat_natCast, hye]
      have hcb := HCB.out k hk
      have h4 := H4.out k v (by rw [HN.out]; exact hlt) (by rw [HN.out]; exact hvn)
      rw [hye] at h4
      generalize hg : colCost t l k = cs at *
      clear hX hY hye hg hir hI hrn
      obtain ⟨cb1, cb2⟩ := hcb
      have hcb1 : -400 ≤ cs := by omega
      have hcb2 : cs ≤ 400 := by omega
      have hy1 : -1 ≤ y := by omega
      have hy2 : y ≤ 50 := by omega
      clear h4 cb1 cb2
      go_wp2_with fail
      go_quiet (fail)
      have hB6 : Below w5.heap.size w5 (wr.drewN nq) := hb.trans (Joins.below_draws _ _ _)
      clear ex cr ey hb
      generalize wr.drewN nq = wb at *
      cases hbk : barK t l k with
      | true =>
        rw [hbk] at hbx
        go_wp2
        go_roundw
        case rel => exact ⟨k + 1, by omega, by go_num, by rw [hnx.out], by rw [hbx.out]; rfl, hB6⟩
        case measure => simp [intOf]; omega
      | false =>
        rw [hbk] at hbx
        by_cases hym : y = -1
        · subst hym
          go_wp2
          go_roundw
          case rel => exact ⟨k + 1, by omega, by go_num, by rw [hnx.out], by rw [hbx.out]; rfl, hB6⟩
          case measure => simp [intOf]; omega
        · have hyf : (y == -1) = false := by simpa using hym
          have hyd : decide (y = -1) = false := decide_eq_false hym
          rw [hyd] at hbx
          clear hym hyd
          go_wp2
          go_roundw
          case rel => exact ⟨k + 1, by omega, by go_num, by rw [hnx.out], by rw [hbx.out]; rfl, hB6⟩
          case measure => simp [intOf]; omega
    · have hkn : k = n := by omega
      subst hkn
      have j0 := (hb.cell (p := ⟨w3.heap.size, 0, none⟩) hz5).trans HK0.out
      have j1 := (hb.cell (p := ⟨w3.heap.size, 1, none⟩) hz5).trans HK1.out
      have j2 := (hb.cell (p := ⟨w3.heap.size, 2, none⟩) hz5).trans HK2.out
      have hBf : Below w.heap.size w wr := hb1.trans ((hB5.trans (hb.mono hB5.size)).mono hb1.size)
      obtain ⟨f1, f2⟩ := HFIN.out
      cases hft : p.fits with
      | false =>
        obtain ⟨g1, g2⟩ := f1 hft
        rw [hft] at j0
        rw [g1]
        rw [g2] at j1
        clear f1 f2 HFIN
        go_wp2
        go_ret
        exact ⟨rfl, hBf⟩
      | true =>
        obtain ⟨g1, g2⟩ := f2 hft
        rw [hft] at j0
        rw [g1] at j1
        clear f1 f2 HFIN
        cases hbk : barK t l k with
        | true =>
          clear g2
          go_wp2
          go_ret
          exact ⟨rfl, hBf⟩
        | false =>
          have g3 : p.cost ≤ colCost t l k := by
            rcases g2 with g2 | g2
            · rw [hbk] at g2; cases g2
            · exact g2
          generalize colCost t l k = cs at *
          generalize p.cost = pc at *
          clear g2
          go_wp2
          all_goals first
            | (go_ret
               exact ⟨ret_b (by simp; omega), hBf⟩)
            | (go_ret
               exact ⟨rfl, hBf⟩)
end Go.Proofs.Ytnbccoflcoaoaab
