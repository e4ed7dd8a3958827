import Derived.Test.YtnbccoflcoaoaabGDuo
import Derived.Test.YtnbccoflcoaoaabGKpt
import Derived.Test.YtnbccoflcoaoaabGSnd
import Derived.Test.YtnbccoflcoaoaabGBas
import Derived.Deep.DeepCutAuto
import Derived.BigRegion
import Derived.Deep.RegionLaw
namespace Go.Proofs.Ytnbccoflcoaoaab
open Go.RowKit
set_option linter.unusedSimpArgs false
set_option linter.unusedVariables false

/-! ### the net of a table: a node for each row and for each column -/
def arcIJ (n i j : Nat) (c : Int) : A5 := ⟨i, ((n + j : Nat) : Int), 0, 1, c⟩
def rowArcs (t : Nat → Nat → Int) (n i : Nat) : Nat → List A5
  | 0 => []
  | j + 1 => if t i j = -1 then rowArcs t n i j else rowArcs t n i j ++ [arcIJ n i j (t i j)]
def netArcs (t : Nat → Nat → Int) (n : Nat) : Nat → List A5
  | 0 => []
  | i + 1 => netArcs t n i ++ rowArcs t n i n
def netSup (n : Nat) : List Int := (List.range (2 * n)).map fun v => if v < n then 1 else -1

def sumE (g : A5 → Int) (l : List A5) : Int := sumTo (fun k => g (l.getD k zA)) l.length
theorem sumTo_append (f : Nat → Int) (a b : Nat) : sumTo f (a + b) = sumTo f a + sumTo (fun k => f (a + k)) b := by
  induction b with
  | zero => simp [sumTo]
  | succ b ih => rw [← Nat.add_assoc]; simp only [sumTo, ih]; omega
theorem getD_app (l m : List A5) (k : Nat) : (l ++ m).getD k zA = if k < l.length then l.getD k zA else m.getD (k - l.length) zA := by
  simp only [List.getD]
  by_cases h : k < l.length
  · rw [if_pos h, List.getElem?_append_left h]
  · rw [if_neg h, List.getElem?_append_right (by omega)]
theorem sumE_app (g : A5 → Int) (l m : List A5) : sumE g (l ++ m) = sumE g l + sumE g m := by
  unfold sumE
  rw [List.length_append, sumTo_append]
  congr 1
  · exact sumTo_congr (fun k hk => by rw [getD_app, if_pos hk])
  · refine sumTo_congr (fun k hk => ?_)
    rw [getD_app, if_neg (by omega), show l.length + k - l.length = k from by omega]
theorem sumE_row (g : A5 → Int) (t : Nat → Nat → Int) (n i m : Nat) : sumE g (rowArcs t n i m) = sumTo (fun j => if t i j = -1 then 0 else g (arcIJ n i j (t i j))) m := by
  induction m with
  | zero => rfl
  | succ m ih =>
    simp only [rowArcs, sumTo]
    split
    · rw [ih]; omega
    · rw [sumE_app, ih]
      congr 1
      simp [sumE, sumTo]
theorem sumE_net (g : A5 → Int) (t : Nat → Nat → Int) (n m : Nat) : sumE g (netArcs t n m) = sumTo (fun i => sumTo (fun j => if t i j = -1 then 0 else g (arcIJ n i j (t i j))) n) m := by
  induction m with
  | zero => rfl
  | succ m ih => simp only [netArcs, sumTo, sumE_app, ih, sumE_row]

def IsArc (t : Nat → Nat → Int) (n : Nat) (a : A5) : Prop := ∃ i j, i < n ∧ j < n ∧ t i j ≠ -1 ∧ a = arcIJ n i j (t i j)
theorem row_is (t : Nat → Nat → Int) (n i m : Nat) (hi : i < n) (hm : m ≤ n) : ∀ a ∈ rowArcs t n i m, IsArc t n a := by
  induction m with
  | zero => intro a ha; simp [rowArcs] at ha
  | succ m ih =>
    intro a ha
    simp only [rowArcs] at ha
    split at ha
    · exact ih (by omega) a ha
    · rename_i h
      rw [List.mem_append] at ha
      rcases ha with ha | ha
      · exact ih (by omega) a ha
      · simp at ha; exact ⟨i, m, hi, by omega, h, ha⟩
theorem net_is (t : Nat → Nat → Int) (n m : Nat) (hm : m ≤ n) : ∀ a ∈ netArcs t n m, IsArc t n a := by
  induction m with
  | zero => intro a ha; simp [netArcs] at ha
  | succ m ih =>
    intro a ha
    simp only [netArcs, List.mem_append] at ha
    rcases ha with ha | ha
    · exact ih (by omega) a ha
    · exact row_is t n m n (by omega) (Nat.le_refl _) a ha
theorem row_len (t : Nat → Nat → Int) (n i m : Nat) : (rowArcs t n i m).length ≤ m := by
  induction m with
  | zero => simp [rowArcs]
  | succ m ih =>
    simp only [rowArcs]
    split
    · omega
    · rw [List.length_append]; simp only [List.length_cons, List.length_nil]; omega
theorem net_len (t : Nat → Nat → Int) (n m : Nat) : (netArcs t n m).length ≤ m * n := by
  induction m with
  | zero => simp [netArcs]
  | succ m ih =>
    have := row_len t n m n
    simp only [netArcs, List.length_append]
    rw [Nat.succ_mul]; omega
theorem is_at (t : Nat → Nat → Int) (n m : Nat) (hm : m ≤ n) {k : Nat} (hk : k < (netArcs t n m).length) : IsArc t n ((netArcs t n m).getD k zA) := by
  refine net_is t n m hm _ ?_
  simp [List.getD, hk]
theorem netSup_len (n : Nat) : (netSup n).length = 2 * n := by simp [netSup]
theorem netSup_at (n v : Nat) (hv : v < 2 * n) : (netSup n).getD v 0 = if v < n then 1 else -1 := by
  simp [netSup, List.getD, hv]

/-- A table that may be. -/
def TabOK (t : Nat → Nat → Int) (n : Nat) : Prop := ∀ i j, i < n → j < n → t i j = -1 ∨ (0 ≤ t i j ∧ t i j ≤ 50)
theorem brg_ok {t : Nat → Nat → Int} {n : Nat} (h1 : 1 ≤ n) (h4 : n ≤ 4) (ht : TabOK t n) : NetOK (netSup n) (netArcs t n n) where
  one := by rw [netSup_len]; omega
  ten := by rw [netSup_len]; omega
  arcs := by
    have h := net_len t n n
    have : n * n ≤ 4 * 4 := Nat.mul_le_mul h4 h4
    omega
  sup := fun j hj => by
    rw [netSup_len] at hj
    rw [netSup_at n j hj]
    split <;> rfl
  arc := fun k hk => by
    obtain ⟨i, j, hi, hj, hb, e⟩ := is_at t n n (Nat.le_refl _) hk
    rw [e, netSup_len]
    have := ht i j hi hj
    refine decide_eq_true ?_
    unfold arcIJ
    simp only []
    omega

theorem sumTo_hot (f : Nat → Int) (n a : Nat) (ha : a < n) : sumTo (fun j => if j = a then f j else 0) n = f a := by
  have h := sumTo_set (f := fun _ => (0 : Int)) (g := fun j => if j = a then f j else 0) ha (fun i _ hne => by simp [hne])
  rw [h, sumTo_zero]; simp
theorem sumTo_all0 {f : Nat → Int} {n : Nat} (h : ∀ i, i < n → f i = 0) : sumTo f n = 0 := by
  rw [sumTo_congr h]; exact sumTo_zero n

/-- The flow of a plan, arc by arc. -/
def planA (n : Nat) (l : Nat → Nat) (a : A5) : Int := if a.to = ((n + l a.fr.toNat : Nat) : Int) then 1 else 0
def planX (n : Nat) (l : Nat → Nat) (es : List A5) : List Int := es.map (planA n l)
theorem planX_at (n : Nat) (l : Nat → Nat) (es : List A5) (k : Nat) (hk : k < es.length) : (planX n l es).getD k 0 = planA n l (es.getD k zA) := by simp [planX, List.getD, hk]
theorem planA_ij (n : Nat) (l : Nat → Nat) (i j : Nat) (c : Int) : planA n l (arcIJ n i j c) = if j = l i then 1 else 0 := by
  unfold planA arcIJ
  simp only [Int.toNat_natCast]
  by_cases h : j = l i
  · rw [if_pos h, if_pos (by omega)]
  · rw [if_neg h, if_neg (by omega)]

theorem plan_net {t : Nat → Nat → Int} {n : Nat} {l : Nat → Nat} (node : Int) :
    netTo (netArcs t n n) (planX n l (netArcs t n n)) node (netArcs t n n).length =
      sumTo (fun i => sumTo (fun j => if t i j = -1 then 0 else ((if (i : Int) = node then (if j = l i then 1 else 0) else 0) - (if ((n + j : Nat) : Int) = node then (if j = l i then 1 else 0) else 0))) n) n := by
  rw [netTo_sum]
  have h := sumE_net (fun a => (if a.fr = node then planA n l a else 0) - (if a.to = node then planA n l a else 0)) t n n
  unfold sumE at h
  rw [sumTo_congr (fun k hk => by rw [planX_at n l _ k hk]), h]
  refine sumTo_congr (fun i _ => sumTo_congr (fun j _ => ?_))
  split
  · rfl
  · simp only [planA_ij]
    rfl
theorem plan_cost {t : Nat → Nat → Int} {n : Nat} {l : Nat → Nat} (hr : ∀ i, i < n → l i < n) (hb : ∀ i, i < n → t i (l i) ≠ -1) :
    costTo (netArcs t n n) (planX n l (netArcs t n n)) (netArcs t n n).length = sumTo (fun i => t i (l i)) n := by
  rw [costTo_sum]
  have h := sumE_net (fun a => planA n l a * a.cost) t n n
  unfold sumE at h
  rw [sumTo_congr (fun k hk => by rw [planX_at n l _ k hk]), h]
  refine sumTo_congr (fun i hi => ?_)
  rw [sumTo_congr (g := fun j => if j = l i then t i j else 0) (fun j _ => ?_)]
  · exact sumTo_hot _ n (l i) (hr i hi)
  · simp only [planA_ij]
    by_cases e : j = l i
    · subst e
      rw [if_neg (hb i hi), if_pos rfl, if_pos rfl]
      simp [arcIJ]
    · rw [if_neg e, if_neg e]; split <;> simp

/-- A plan's worths make a Best answer of the net. -/
theorem brg_best {t : Nat → Nat → Int} {n : Nat} (h1 : 1 ≤ n) (h4 : n ≤ 4) (ht : TabOK t n) {l : Nat → Nat} {r c : Nat → Int} (hr : ∀ i, i < n → l i < n) (hi : ∀ i j, i < n → j < n → l i = l j → i = j)
    (hw : ∀ i j, i < n → j < n → t i j ≠ -1 → r i + c j ≤ t i j) (he : ∀ i, i < n → r i + c (l i) = t i (l i)) (hb : ∀ i, i < n → t i (l i) ≠ -1) {a : A6} (ha : okB (netSup n) (netArcs t n n) a = true) :
    a.kind = 1 ∧ a.cost = sumTo (fun i => t i (l i)) n := by
  have hn := brg_ok h1 h4 ht
  have hx : FitsW (netSup n) (netArcs t n n) (planX n l (netArcs t n n)) := by
    refine ⟨fun k hk => ?_, fun v hv => ?_⟩
    · rw [planX_at n l _ k hk]
      obtain ⟨i, j, _, _, _, e⟩ := is_at t n n (Nat.le_refl _) hk
      rw [e, planA_ij]
      unfold arcIJ
      simp only []
      split <;> omega
    · rw [netSup_len] at hv
      rw [plan_net, netSup_at n v hv]
      by_cases hvn : v < n
      · rw [if_pos hvn]
        rw [sumTo_congr (g := fun i => if i = v then 1 else 0) (fun i hin => ?_)]
        · exact sumTo_hot (fun _ => 1) n v hvn
        · by_cases e : i = v
          · subst e
            rw [if_pos rfl, sumTo_congr (g := fun j => if j = l i then 1 else 0) (fun j hj => ?_)]
            · exact sumTo_hot (fun _ => 1) n (l i) (hr i hin)
            · rw [if_pos rfl, if_neg (show ¬ ((n + j : Nat) : Int) = (i : Int) by omega)]
              by_cases e2 : j = l i
              · subst e2; rw [if_neg (hb i hin)]; simp
              · rw [if_neg e2]; simp
          · rw [if_neg e]
            refine sumTo_all0 (fun j hj => ?_)
            rw [if_neg (show ¬ ((i : Int) = (v : Int)) by omega), if_neg (show ¬ ((n + j : Nat) : Int) = (v : Int) by omega)]
            simp
      · rw [if_neg hvn]
        rw [sumTo_congr (g := fun i => 0 - (if l i = v - n then 1 else 0)) (fun i hin => ?_), sumTo_sub, sumTo_zero, perm_sum n (fun j => if j = v - n then 1 else 0) l hr hi, sumTo_hot (fun _ => 1) n (v - n) (by omega)]
        · omega
        · rw [sumTo_congr (g := fun j => if j = v - n then (0 - (if l i = v - n then 1 else 0)) else 0) (fun j hj => ?_)]
          · exact sumTo_hot (fun _ => 0 - (if l i = v - n then 1 else 0)) n (v - n) (by omega)
          · rw [if_neg (show ¬ ((i : Int) = (v : Int)) by omega)]
            by_cases e : j = v - n
            · subst e
              rw [if_pos (show ((n + (v - n) : Nat) : Int) = (v : Int) by omega), if_pos rfl]
              by_cases e2 : l i = v - n
              · rw [← e2, if_neg (hb i hin)]
              · rw [if_neg (show ¬ (v - n = l i) from fun h => e2 h.symm), if_neg e2]; simp
            · rw [if_neg (show ¬ ((n + j : Nat) : Int) = (v : Int) by omega), if_neg e]; simp
  have hp : ∀ k, k < (netArcs t n n).length → True := fun _ _ => trivial
  obtain ⟨p, hpd⟩ : ∃ p : List Int, ∀ v, v < 2 * n → p.getD v 0 = if v < n then -r v else c (v - n) := ⟨(List.range (2 * n)).map (fun v => if v < n then -r v else c (v - n)), fun v hv => by simp [List.getD, hv]⟩
  have hh : holdB (netArcs t n n) (planX n l (netArcs t n n)) p = true := by
    refine all_t (fun k hk => ?_)
    obtain ⟨i, j, hin, hjn, hbb, e⟩ := is_at t n n (Nat.le_refl _) hk
    unfold heldAt heldB driftAt
    refine decide_eq_true ?_
    rw [planX_at n l _ k hk, e, planA_ij]
    unfold arcIJ
    simp only [Int.toNat_natCast]
    rw [hpd i (by omega), hpd (n + j) (by omega), if_pos hin, if_neg (by omega), show n + j - n = j from by omega]
    have hw1 := hw i j hin hjn hbb
    refine ⟨fun hd => ?_, fun hd => ?_⟩
    · rw [if_neg]
      intro ej
      subst ej
      have := he i hin
      omega
    · omega
  have := cert_best hn hx hh ha
  rw [plan_cost hr hb] at this
  exact this

/-- Rows that are short of columns make a violated cut. -/
theorem brg_none {t : Nat → Nat → Int} {n : Nat} (h1 : 1 ≤ n) (h4 : n ≤ 4) (ht : TabOK t n) (S O : Nat → Bool) (hO : ∀ i j, i < n → j < n → S i = true → t i j ≠ -1 → O j = true)
    (hs : sumTo (fun j => if O j = true then 1 else 0) n < sumTo (fun i => if S i = true then 1 else 0) n) {a : A6} (ha : okB (netSup n) (netArcs t n n) a = true) : a.kind = 2 := by
  have hn := brg_ok h1 h4 ht
  let seen : Nat → Bool := fun v => if v < n then S v else O (v - n)
  have hin : ∀ v : Nat, v < 2 * n → inB (seenTo seen (2 * n)) (v : Int) = seen v := by
    intro v hv
    rw [seen_in, decide_eq_true hv]; rfl
  have hr : risB (seenTo seen (2 * n)) (netSup n).length = true := by rw [netSup_len]; exact (seen_ris seen (2 * n)).1
  have hcr : ∀ k, k < (netArcs t n n).length → crossB (seenTo seen (2 * n)) false ((netArcs t n n).getD k zA) = false := by
    intro k hk
    obtain ⟨i, j, hin', hjn, hbb, e⟩ := is_at t n n (Nat.le_refl _) hk
    rw [e]
    unfold crossB arcIJ
    simp only [Bool.false_eq_true, if_false]
    rw [hin i (by omega), hin (n + j) (by omega)]
    have e1 : seen i = S i := by show (if i < n then S i else O (i - n)) = S i; rw [if_pos hin']
    have e2 : seen (n + j) = O j := by show (if n + j < n then S (n + j) else O (n + j - n)) = O j; rw [if_neg (by omega), show n + j - n = j from by omega]
    rw [e1, e2]
    cases hS : S i with
    | false => rfl
    | true => rw [hO i j hin' hjn hS hbb]; rfl
  have oc := over_caps (es := netArcs t n n) (y := []) (cut := seenTo seen (2 * n)) (back := false) (netArcs t n n).length (fun i hi hc => by rw [hcr i hi] at hc; cases hc)
  have z : overTo (netArcs t n n) [] (seenTo seen (2 * n)) false (netArcs t n n).length = 0 := by
    unfold overTo
    exact sumTo_all0 (fun i hi => by rw [hcr i hi]; simp)
  have hl := (lows_bd hn (seenTo seen (2 * n)) true (netArcs t n n).length (Nat.le_refl _)).1
  have hneed := need_sum hr (seenTo seen (2 * n)).length (Nat.le_refl _)
  rw [List.take_of_length_le (Nat.le_refl _), netSup_len, show 2 * n = n + n from by omega, sumTo_append] at hneed
  rw [show n + n = 2 * n from by omega] at hneed
  have e1 : sumTo (fun j => chi (seenTo seen (2 * n)) j * (netSup n).getD j 0) n = sumTo (fun i => if S i = true then 1 else 0) n := sumTo_congr (fun i hi => by
    unfold chi
    rw [hin i (by omega), netSup_at n i (by omega), if_pos hi]
    rw [show seen i = S i from by show (if i < n then S i else O (i - n)) = S i; rw [if_pos hi]]
    omega)
  have e2 : sumTo (fun k => chi (seenTo seen (2 * n)) (n + k) * (netSup n).getD (n + k) 0) n = sumTo (fun j => 0 - (if O j = true then 1 else 0)) n := sumTo_congr (fun j hj => by
    unfold chi
    rw [hin (n + j) (by omega), netSup_at n (n + j) (by omega), if_neg (show ¬ n + j < n by omega)]
    rw [show seen (n + j) = O j from by show (if n + j < n then S (n + j) else O (n + j - n)) = O j; rw [if_neg (by omega), show n + j - n = j from by omega]]
    omega)
  rw [e1, e2, sumTo_sub, sumTo_zero] at hneed
  refine cert_none hn ⟨seenTo seen (2 * n), hr, ?_⟩ ha
  unfold violB
  rw [oc.1, ← oc.2, z, hneed]
  simp only [Bool.not_false, Bool.true_and, Bool.or_eq_true, decide_eq_true_eq]
  left
  omega
end Go.Proofs.Ytnbccoflcoaoaab

namespace Go.Proofs.Ytnbccoflcoaoaab
open Go.RowKit Go.Deep
set_option linter.unusedSimpArgs false
set_option linter.unusedVariables false

theorem grown_rowK {w w' : World} {row : Option Nat} (h : w.grownBy w' row) {b : Nat} {t : TypeId} {n : Nat} {f : Nat → Value} (hr : w.rowIs b t n f) (hne : some b ≠ row) : w'.rowIs b t n f := hr.of_block (h.block b hr.lt hne)
theorem below_rowK {w w' : World} {K : Nat} (h : Below K w w') {b : Nat} {t : TypeId} {n : Nat} {f : Nat → Value} (hr : w.rowIs b t n f) (hb : b < K) : w'.rowIs b t n f := hr.of_block (h.block b hb)
def boxF2 (a b : Value) (i : Nat) : Value := if i = 0 then a else b
def supF (n i v : Nat) : Int := if v < i then 1 else if n ≤ v ∧ v < n + i then -1 else 0
/-- The net on its way: its supplies, its box, its arcs. -/
structure Net2 (w1 wr : World) (m : Nat) (f : Nat → Int) (aa : Option Addr) (ac : Nat) (L : List A5) : Prop where
  rs : wr.rowIs w1.heap.size 3 (m) (fun v => .int .i64 (f v))
  rb : wr.rowIs (w1.heap.size + 1) 25 2 (boxF2 (.slice (some ⟨w1.heap.size, 0, none⟩) (m) (m)) (.slice aa L.length ac))
  ro : wr.ownsRow (w1.heap.size + 2) 32 5 (.slice aa L.length ac) L.length (arcCells L)
  be : Below w1.heap.size w1 wr
  sz : w1.heap.size + 2 ≤ wr.heap.size
section
variable {w1 wr w' : World} {m : Nat} {f : Nat → Int} {aa : Option Addr} {ac : Nat} {L : List A5}
theorem Net2.grow (h : Net2 w1 wr m f aa ac L) (hb : Below wr.heap.size wr w') : Net2 w1 w' m f aa ac L :=
  ⟨below_rowK hb h.rs h.rs.lt, below_rowK hb h.rb h.rb.lt, h.ro.kept (grown_of_below hb none) (by cases aa <;> simp [Value.ownBlock]), h.be.trans (hb.mono h.be.size), Nat.le_trans h.sz hb.size⟩
theorem Net2.congr (h : Net2 w1 wr m f aa ac L) {g : Nat → Int} (e : ∀ v, v < m → f v = g v) : Net2 w1 wr m g aa ac L :=
  ⟨h.rs.congr (fun i hi => by rw [e i hi]), h.rb, h.ro, h.be, h.sz⟩
theorem Net2.setSup (h : Net2 w1 wr m f aa ac L) (v : Nat) (x : Int) : Net2 w1 (wr.setCell ⟨w1.heap.size, v, none⟩ (.int .i64 x)) m (upd f v x) aa ac L :=
  ⟨(h.rs.set v _).congr (fun i _ => by unfold upd; split <;> rfl), h.rb.setOther (by show w1.heap.size + 1 ≠ w1.heap.size; omega) _, ownsRow_setCell_below h.ro (a := ⟨w1.heap.size, v, none⟩) (by show w1.heap.size < w1.heap.size + 2; omega) _, h.be.setCell (p := ⟨w1.heap.size, v, none⟩) (Nat.le_refl _) _, by have := h.sz; simpa [World.setCell] using this⟩
theorem Net2.push {X w2 : World} {y : A5} {g' c' : Nat} (h : Net2 w1 wr m f aa ac L) (hX : Below wr.heap.size wr X) (ho : w2.ownsRow (w1.heap.size + 2) 32 5 (.slice (some ⟨g', 0, none⟩) (L.length + 1) c') (L.length + 1) (arcCells (L ++ [y]))) (hg : X.grownBy w2 (Value.slice aa L.length ac).ownBlock) :
    Net2 w1 (w2.setCell ⟨w1.heap.size + 1, 1, none⟩ (.slice (some ⟨g', 0, none⟩) (L.length + 1) c')) m f (some ⟨g', 0, none⟩) c' (L ++ [y]) := by
  have hX1 := h.grow hX
  have hblk := hX1.ro.lt
  have hne : ∀ b, b < w1.heap.size + 2 → some b ≠ (Value.slice aa L.length ac).ownBlock := fun b hb e => by have := hblk b e.symm; omega
  have e1 : (L ++ [y]).length = L.length + 1 := by simp
  refine ⟨(grown_rowK hg hX1.rs (hne _ (by omega))).setOther (by show w1.heap.size ≠ w1.heap.size + 1; omega) _, ((grown_rowK hg hX1.rb (hne _ (by omega))).set 1 _).congr (fun i hi => ?_), by rw [e1]; exact ownsRow_setCell_below ho (a := ⟨w1.heap.size + 1, 1, none⟩) (by show w1.heap.size + 1 < w1.heap.size + 2; omega) _, ?_, ?_⟩
  · rw [e1]
    unfold boxF2
    by_cases e : i = 1
    · subst e; simp
    · rw [if_neg e, show i = 0 from by omega]; simp
  · exact (hX1.be.grown hg hX1.be.size (fun b hb => by have := hblk b hb; omega)).setCell (p := ⟨w1.heap.size + 1, 1, none⟩) (by show w1.heap.size ≤ w1.heap.size + 1; omega) _
  · have h1 := hX1.sz
    have h2 := hg.size
    simp only [World.setCell]
    simp
    omega
theorem Net2.kept_box {X w2 : World} (h : Net2 w1 X m f aa ac L) (hg : X.grownBy w2 (Value.slice aa L.length ac).ownBlock) : w2.cell? ⟨w1.heap.size + 1, 1, none⟩ = some (.slice aa L.length ac) ∧ w2.frozen? ⟨w1.heap.size + 1, 1, none⟩ = false := by
  have hblk := h.ro.lt
  have hr := grown_rowK hg h.rb (fun e => by have := hblk _ e.symm; omega)
  exact ⟨hr.cell (i := 1) (by omega), hr.frozen 1⟩
end
theorem Net2.start (w1 : World) (m n : Nat) : Net2 w1 ((w1.alloc (.cells (madeCells #[.int .i64 0] m) 3)).alloc (.cells #[.slice (some ⟨w1.heap.size, 0, none⟩) (m) (m), .slice none 0 0] 25)) m (supF n 0) none 0 [] := by
  refine ⟨((World.rowIs_made w1 (.int .i64 0) m 3).alloc _).congr (fun i hi => ?_), ?_, World.ownsRow_nil _ _ _ _, Joins.below_alloc2 _ _ _, by simp⟩
  · unfold supF; rw [if_neg (by omega), if_neg (by omega)]
  · have h := World.rowIs_alloc (w1.alloc (.cells (madeCells #[.int .i64 0] m) 3)) #[.slice (some ⟨w1.heap.size, 0, none⟩) (m) (m), .slice none 0 0] 25 (boxF2 (.slice (some ⟨w1.heap.size, 0, none⟩) (m) (m)) (.slice none 0 0)) (fun i hi => by
      simp only [List.size_toArray, List.length_cons, List.length_nil] at hi
      match i, hi with
      | 0, _ => rfl
      | 1, _ => rfl)
    simpa using h
theorem sup_step (n i : Nat) (hi : i < n) : ∀ v, v < 2 * n → upd (upd (supF n i) i 1) (n + i) (-1) v = supF n (i + 1) v := by
  intro v hv
  unfold upd supF
  by_cases h1 : v = n + i
  · rw [if_pos h1, if_neg (by omega), if_pos (by omega)]
  · rw [if_neg h1]
    by_cases h2 : v = i
    · rw [if_pos h2, if_pos (by omega)]
    · rw [if_neg h2]
      by_cases h3 : v < i
      · rw [if_pos h3, if_pos (by omega)]
      · rw [if_neg h3, if_neg (show ¬ v < i + 1 by omega)]
        by_cases h4 : n ≤ v ∧ v < n + i
        · rw [if_pos h4, if_pos (by omega)]
        · rw [if_neg h4, if_neg (by omega)]

/-- What Bridged asks, of answers that are seen to be right. -/
theorem brg_final {t : List (List Int)} {p : P6} {e : Int} {n : Nat} (hn : t.length = n) (h4 : n ≤ 4) (ht : tabB t = true) (h : planS t p e = true) {a : A6} (ha : okB (netSup n) (netArcs (tAt t) n n) a = true) :
    (p.fits = false → a.kind = 2) ∧ (p.fits = true → a.kind = 1 ∧ a.cost = p.cost) := by
  subst hn
  obtain ⟨t1, t2, t3, t4⟩ := tab_out ht
  unfold planS at h
  rw [ht, if_neg (by simp)] at h
  split at h
  · cases h
  · refine ⟨fun hf => ?_, fun hf => ?_⟩
    · rw [if_pos hf] at h
      simp only [emptyB, Bool.and_eq_true, decide_eq_true_eq] at h
      obtain ⟨⟨hr, _⟩, hsh⟩ := h
      refine brg_none t1 h4 t4 (fun i => inB p.short (i : Int)) (fun j => openB t p.short j) (fun i j hi hj hs hne => ?_) ?_ ha
      · obtain ⟨q, hq, e⟩ := inB_iff.1 hs
        unfold openB
        rw [List.any_eq_true]
        exact ⟨q, List.mem_range.2 hq, decide_eq_true (by rw [e, Int.toNat_natCast]; exact hne)⟩
      · rw [ris_count hr]
        exact of_decide_eq_true hsh
    · rw [if_neg (by rw [hf]; simp)] at h
      simp only [Bool.and_eq_true, decide_eq_true_eq] at h
      obtain ⟨⟨⟨hc, hcs⟩, _⟩, hw⟩ := h
      have hc' := hc
      simp only [colsB, Bool.and_eq_true, decide_eq_true_eq] at hc'
      obtain ⟨hcl, hca⟩ := hc'
      have hcol : ∀ i, i < t.length → _ := fun i hi => of_all hca i (by omega)
      simp only [colAt, Bool.and_eq_true, decide_eq_true_eq, Bool.not_eq_true'] at hcol
      simp only [worB, Bool.and_eq_true] at hw
      have hwor : ∀ i j, i < t.length → j < t.length → _ := fun i j hi hj => of_decide_eq_true (of_all (of_all hw.2 i hi) j hj)
      have hci : ∀ i j, i < t.length → j < t.length → (p.cols.getD i 0).toNat = (p.cols.getD j 0).toNat → i = j := fun i j hi hj e => by
        have e' : p.cols.getD i 0 = p.cols.getD j 0 := by have := (hcol i hi).1.1.1; have := (hcol j hj).1.1.1; omega
        rcases Nat.lt_trichotomy i j with h1 | h1 | h1
        · exfalso
          have h2 := (hcol j hj).1.2
          rw [inB_t (i := i) (by rw [List.length_take]; omega) (by rw [show (p.cols.take j).getD i 0 = p.cols.getD i 0 from by simp [List.getD, List.getElem?_take, h1]]; exact e')] at h2
          cases h2
        · exact h1
        · exfalso
          have h2 := (hcol i hi).1.2
          rw [inB_t (i := j) (by rw [List.length_take]; omega) (by rw [show (p.cols.take i).getD j 0 = p.cols.getD j 0 from by simp [List.getD, List.getElem?_take, h1]]; exact e'.symm)] at h2
          cases h2
      have hb := brg_best t1 h4 t4 (l := fun i => (p.cols.getD i 0).toNat) (r := fun i => p.rw.getD i 0) (c := fun j => p.cw.getD j 0) (fun i hi => by have := (hcol i hi).1.1; omega) hci (fun i j hi hj hne => (hwor i j hi hj hne).1) (fun i hi => by
        have h1 := (hcol i hi).1.1
        exact (hwor i _ hi (by omega) (hcol i hi).2).2 (by omega)) (fun i hi => (hcol i hi).2) ha
      refine ⟨hb.1, ?_⟩
      rw [hb.2, ← hcs, hcl]
      rfl
theorem row_snoc {t : Nat → Nat → Int} {n i j : Nat} (h : t i j ≠ -1) : rowArcs t n i (j + 1) = rowArcs t n i j ++ [arcIJ n i j (t i j)] := by simp only [rowArcs, if_neg h]
theorem row_stay {t : Nat → Nat → Int} {n i j : Nat} (h : t i j = -1) : rowArcs t n i (j + 1) = rowArcs t n i j := by simp only [rowArcs, if_pos h]
end Go.Proofs.Ytnbccoflcoaoaab

namespace Go.Proofs.Ytnbccoflcoaoaab
open Go.RowKit Go.Deep
set_option linter.unusedSimpArgs false
set_option linter.unusedVariables false

/-- In a region that draws: append(l, y), l a row of arcs of the call's own. -/
theorem step_push_arc {w : World} {ops : Array Oper} {o : Oper} {a : Act} {K : Act → World → Prop} {Q : Exit → Act → World → Prop} {E : Prop} (hgd : o.guard = none) (s x : Operand)
    (ho : o.op = .call { callee := .builtin .append, args := #[s, x], argTypes := #[23, 23] }) (base : Nat) (oa : Option Addr) (oc : Nat) (l : List A5) (n : Nat) (hln : l.length = n)
    (hs : a.eval s = .slice oa n oc) (hown : w.ownsRow base 32 5 (.slice oa n oc) n (arcCells l)) (g : Nat) (y : A5) (c : Nat) (hx : a.eval x = .slice (some ⟨g, 0, none⟩) 1 c) (hy : ∀ j, j < 5 → w.cell? ⟨g, j, none⟩ = some (.int .i64 (y.at j)))
    (hl : n ≤ 1000) (hb : base ≤ w.heap.size)
    (h : ∀ g' c' w', w'.ownsRow base 32 5 (.slice (some ⟨g', 0, none⟩) (n + 1) c') (n + 1) (arcCells (l ++ [y])) → w.grownBy w' (Value.slice oa n oc).ownBlock → K (a.put o.dst (.slice (some ⟨g', 0, none⟩) (n + 1) c')) w') :
    if Region.wanted o (yielded ops a.tmps) = true then Oper.wp Try.prog o a w K Q else E := by
  have hw : Region.wanted o (yielded ops a.tmps) = true := by simp [Region.wanted, hgd]
  rw [if_pos hw]
  obtain ⟨i0, hi, hz0, hz1, hz2⟩ := info_parts infoArc
  refine wp_append_own w s x 23 ho base 32 i0 _ 5 40 Try.underlying23 hi hz0 hz1 hz2 rfl (by decide) _ n (arcCells l) hs hown ⟨g, 0, none⟩ 1 c y.cells hx rfl ?_ ?_ (by unfold maxLen; omega) (by omega) hb ?_
  · intro j u hj
    have hj5 : j < 5 := by
      rcases Nat.lt_or_ge j 5 with h' | h'
      · exact h'
      · rw [List.getElem?_eq_none (by simpa [A5.cells] using h')] at hj; cases hj
    rw [y.cells_at j hj5] at hj
    cases hj
    have := hy j hj5
    cases j <;> simpa [Addr.add] using this
  · intro u hu
    simp only [A5.cells, List.mem_cons, List.not_mem_nil, or_false] at hu
    rcases hu with rfl | rfl | rfl | rfl | rfl <;> rfl
  · intro v' w' hown' hgr _
    rcases hown'.2 with ⟨_, h0⟩ | ⟨g', cap, cur, rfl, r⟩
    · omega
    · exact h g' cap w' (by rw [arcCells_snoc]; exact hown') hgr
theorem below_drew_alloc (w : World) (o : Obj) : Below w.heap.size w (w.drew.alloc o) := ((Below.refl _ _).drew).alloc (Nat.le_refl _) _

set_option maxRecDepth 100000 in
set_option maxHeartbeats 8000000 in
theorem keepBridged_any (hS : SolveC) (hA : AssignC) (ra : Option Addr) (rn rc : Nat) (sz : Int) (raw : List Int) (w : World) (hr : Ints w ra rn raw) (hs : -9223372036854775808 ≤ sz ∧ sz ≤ 9223372036854775807) :
    Calls Try.prog 8 #[.slice ra rn rc, .int .i64 sz] w fun e w' => e = .returned (.bool true) ∧ Below w.heap.size w w' := by
  have cT : n0 (Calls Try.prog 16 #[.slice ra rn rc, .int .i64 sz, .int .i64 4] w fun e w' => ∃ v t, e = .returned v ∧ OwnT w' w.heap.size v t ∧ tabB t = true ∧ t.length ≤ 4 ∧ Below w.heap.size w w') := kTable_any ra rn rc raw sz 4 w hr hs (by omega) (by omega)
  clear hr
  go_enter Try.func8, Try.ntmps8
  go_wp2_with fail
  refine Calls.mono cT.out ?_
  rintro e w1 ⟨v, t, rfl, hO, htb, ht4, hb1⟩
  clear cT
  obtain ⟨t1, t2, t3, t4⟩ := tab_out htb
  have hwfT : TabWf t := fun i hi => ⟨by rw [t3 i hi]; omega, fun x hx => by
    obtain ⟨j, hj, rfl⟩ := mem_of_getD 0 _ x hx
    have := t4 i j hi (by rw [← t3 i hi]; exact hj)
    unfold tAt at this
    omega⟩
  obtain ⟨a1, c1, rfl, hT1, hac1⟩ := hO.tab (by omega) hwfT
  obtain ⟨n, hn⟩ : ∃ n, t.length = n := ⟨_, rfl⟩
  rw [hn] at hT1 hac1 t1 t2 ht4 ⊢
  have HN := hide hn
  have HTB := hide htb
  have H3 := hide t3
  have H4 := hide t4
  have HT1 := hide hT1
  have HWF := hide hwfT
  clear hO t3 t4 hwfT htb hn hT1
  obtain ⟨m, hm⟩ : ∃ m : Nat, m = 2 * n := ⟨_, rfl⟩
  have hmi : (2 : Int) * (n : Int) = (m : Int) := by omega
  have hm8 : m ≤ 8 := by omega
  have HM := hide hm
  have hmk := run_make_row' (P := Try.prog) 22 3 (.int .i64 0) 8 Try.underlying22 infoInt rfl .i64 .i64 m (by omega) (by omega)
  have HST := hide (Net2.start w1 m n)
  clear hm
  go_wp2
  go_loopw [8, 9] (fun i j wr => ∃ (k : Nat) (aa : Option Addr) (ac : Nat) (L : List A5), k ≤ n ∧ i = .int .i64 k ∧ Hid (Net2 w1 wr m (supF n k) aa ac L) ∧ Hid (L = netArcs (tAt t) n k)) (fun i _ _ => n - (intOf i).toNat)
  case atStart => exact ⟨0, none, 0, [], Nat.zero_le _, rfl, HST.out, rfl⟩
  case round =>
    clear HST hmk
    obtain ⟨k, aa, ac, L, hk, rfl, hN, hL⟩ := hrel
    by_cases hlt : k < n
    · have hlt3 : (k : Int) < (n : Int) := by omega
      obtain ⟨q, hq⟩ : ∃ q : Nat, q = n + k := ⟨_, rfl⟩
      have hqi : (n : Int) + (k : Int) = (q : Int) := by omega
      have hqm : q < m := by have := HM.out; omega
      have hkm : k < m := by omega
      have hqm2 : (q : Int) < (m : Int) := by omega
      have hkm2 : (k : Int) < (m : Int) := by omega
      have b0 := hN.out.rb.cell (i := 0) (by omega)
      simp only [boxF2, if_true] at b0
      have s1 := hN.out.rs.cell hkm
      have f1 := hN.out.rs.frozen k
      have hN1 := hN.out.setSup k 1
      have b0' := hN1.rb.cell (i := 0) (by omega)
      simp only [boxF2, if_true] at b0'
      have s2 := hN1.rs.cell hqm
      have f2 := hN1.rs.frozen q
      have hN2 := (hN1.setSup q (-1)).congr (g := supF n (k + 1)) (fun v hv => by rw [hq]; exact sup_step n k hlt v (by have := HM.out; omega))
      have HN2 := hide hN2
      obtain ⟨wo, hwo⟩ : ∃ wo, wo = wr := ⟨_, rfl⟩
      subst hwo
      clear hN1 hN2 hq hN
      go_wp2
      go_loopw [9] (fun j wr => ∃ (u : Nat) (aa : Option Addr) (ac : Nat) (L : List A5), u ≤ n ∧ j = .int .i64 u ∧ Hid (Net2 w1 wr m (supF n (k + 1)) aa ac L) ∧ Hid (L = netArcs (tAt t) n k ++ rowArcs (tAt t) n k u)) (fun j _ => n - (intOf j).toNat)
      case atStart => exact ⟨0, aa, ac, L, Nat.zero_le _, rfl, HN2.out, by show L = _; rw [hL.out]; simp [rowArcs]⟩
      case round =>
        clear HN2 b0 b0' s1 f1 s2 f2 hL
        obtain ⟨u, aa, ac, L, hu, rfl, hN, hL⟩ := hrel
        by_cases hlt2 : u < n
        · have hlt4 : (u : Int) < (n : Int) := by omega
          obtain ⟨b2, off2, rra, rrn, rrc, rfl, hrn, hb2', cr, hI⟩ := (HT1.out.below hN.out.be).get hlt
          have hrn2 : rrn = n := by rw [← hrn, H3.out k (by rw [HN.out]; exact hlt)]; exact HN.out
          subst hrn2
          obtain ⟨b3, off3, y, rfl, hY, hb3', ey⟩ := hI.get hlt2
          have hye : tAt t k u = y := hY
          by_cases hy1 : y = -1
          · have hst : Hid (L = netArcs (tAt t) rrn k ++ rowArcs (tAt t) rrn k (u + 1)) := by rw [row_stay (by rw [hye]; exact hy1)]; exact hL.out
            subst hy1
            clear hI hY hye hL
            go_wp2
            go_roundw
            case rel => exact ⟨u + 1, aa, ac, L, by omega, by go_num, hN.out, hst.out⟩
            case measure => simp [intOf]; omega
          · have hyb : (y != -1) = true := by simpa using hy1
            have hst : Hid (L ++ [arcIJ rrn k u y] = netArcs (tAt t) rrn k ++ rowArcs (tAt t) rrn k (u + 1)) := by
              show _ = _
              rw [row_snoc (by rw [hye]; exact hy1), hL.out, hye, List.append_assoc]
            have hb1' := hN.out.rb.cell (i := 1) (by omega)
            simp only [boxF2] at hb1'
            have hbf := hN.out.rb.frozen 1
            have hLn : L.length ≤ 16 := by
              rw [hL.out, List.length_append]
              have h1 := net_len (tAt t) rrn k
              have h2 := row_len (tAt t) rrn k u
              have h3 : k * rrn ≤ 3 * 4 := Nat.mul_le_mul (by omega) (by omega)
              omega
            have hszw := hN.out.sz
            clear hI hY hye hL hy1 hrn
            have hby : Hid (∀ (o : Obj), Net2 w1 (wr.drew.alloc o) m (supF rrn (k + 1)) aa ac L) := fun o => hN.out.grow (below_drew_alloc wr o)
            have hai : ∀ j, j < 5 → (arcIJ rrn k u y).at j = if j = 0 then (k : Int) else if j = 1 then (rrn : Int) + (u : Int) else if j = 2 then 0 else if j = 3 then 1 else y := by
              intro j hj
              match j, hj with
              | 0, _ => rfl
              | 1, _ => show ((rrn + u : Nat) : Int) = (rrn : Int) + (u : Int); omega
              | 2, _ => rfl
              | 3, _ => rfl
              | 4, _ => rfl
            have HAI := hide hai
            have hwr : IntKind.i64.wrap ((rrn : Int) + (u : Int)) = (rrn : Int) + (u : Int) := by rw [IntKind.wrap_i64]; omega
            have hmbw : w1.heap.size + 1 < wr.heap.size := by omega
            clear hai
            go_wp2_with fail
            go_region_law (refine step_push_arc rfl (.tmp 52) (.tmp 65) rfl (w1.heap.size + 2) aa ac L L.length rfl (by simp [Act.eval, Act.put]) (hby.out _).ro wr.heap.size (arcIJ rrn k u y) 1 (by simp [Act.eval, Act.put]; done) (fun j hj => by rw [HAI.out j hj]; match j, hj with | 0, _ => (go_simp <;> rfl) | 1, _ => (go_simp <;> rfl) | 2, _ => (go_simp <;> rfl) | 3, _ => (go_simp <;> rfl) | 4, _ => (go_simp <;> rfl)) (by omega) (by have := hszw; simp [World.drew]; omega) ?_; intro g' c' w2 hown2 hgr; obtain ⟨hc1, hf1⟩ := Net2.kept_box (hby.out _) hgr)
            all_goals
              have HP := hide (Net2.push hN.out (below_drew_alloc wr _) hown2 hgr)
              clear hown2 hgr hc1 hf1 cr ey hb1' hbf hN hby
              go_wp2
              go_roundw
              case rel => exact ⟨u + 1, _, _, _, by omega, by go_num, HP.out, hst.out⟩
              case measure => simp [intOf]; omega
        · have hun : u = n := by omega
          subst hun
          have hst : Hid (L = netArcs (tAt t) u (k + 1)) := hL.out
          go_wp2
          go_roundw
          case rel => exact ⟨k + 1, aa, ac, L, by omega, by go_num, hN.out, hst.out⟩
          case measure => simp [intOf]; omega
    · have hkn : k = n := by omega
      subst hkn
      have hnok := brg_ok (t := tAt t) t1 ht4 (fun i j hi hj => H4.out i j (by rw [HN.out]; exact hi) (by rw [HN.out]; exact hj))
      have hLe := hL.out
      obtain ⟨an, han⟩ : ∃ an, L.length = an := ⟨_, rfl⟩
      have han16 : an ≤ 24 := by rw [← han, hLe]; exact hnok.arcs
      have hIn : Ints wr (some ⟨w1.heap.size, 0, none⟩) m (netSup k) := by
        refine row_ints (l := netSup k) (hN.out.rs.congr (fun v hv => ?_)) (by rw [netSup_len]; exact HM.out.symm) (by omega) (fun i hi => by rw [netSup_at k i (by have := HM.out; omega)]; split <;> omega)
        have := HM.out
        rw [netSup_at k v (by omega)]
        unfold supF
        by_cases h1 : v < k
        · rw [if_pos h1, if_pos h1]
        · rw [if_neg h1, if_neg h1, if_pos (by omega)]
      have hAr : Arcs wr aa an (netArcs (tAt t) k k) := by
        have h := hN.out.ro
        rw [han, hLe] at h
        have hl : (netArcs (tAt t) k k).length = an := by rw [← hLe]; exact han
        obtain ⟨a', c', e, hA', _⟩ := arcs_of_own h hl (by omega) (fun x hx j => by
          obtain ⟨i, hi, rfl⟩ := mem_of_getD zA _ x hx
          have h1 := arcB_out (hnok.arc i hi)
          have h2 := hnok.ten
          unfold A5.at
          split <;> omega)
        cases e
        exact hA'
      have m0 := hN.out.rb.cell (i := 0) (by omega)
      have m1 := hN.out.rb.cell (i := 1) (by omega)
      simp only [boxF2, if_true] at m0
      simp only [boxF2] at m1
      rw [if_neg (by omega), han] at m1
      have hbe := hN.out.be
      have hmb : w1.heap.size + 1 < wr.heap.size := by have := hN.out.sz; omega
      have HIN := hide hIn
      have HAR := hide hAr
      have HNOK := hide hnok
      have HT2 := hide (HT1.out.below hbe)
      have cC : n0 (Calls Try.prog 18 #[.slice a1 k c1] wr fun e w' => ∃ v, e = .returned v ∧ OwnT w' wr.heap.size v t ∧ Below wr.heap.size wr w') := refCopyTable_any a1 k c1 t wr HT2.out
      clear hIn hAr hN hL hLe hnok han
      go_wp2_with fail
      refine Calls.mono cC.out ?_
      rintro e w2 ⟨v2, rfl, hO2, hb2⟩
      clear cC
      obtain ⟨a2, c2, rfl, hT2, hac2⟩ := hO2.tab (by rw [HN.out]; omega) HWF.out
      rw [HN.out] at hT2 hac2 ⊢
      clear hO2
      go_wp2_with fail
      refine (hA a2 k c2 t w2 hT2 hac2).mono ?_
      rintro e w3 ⟨p, err, v3, rfl, hOP, hpl, hb3⟩
      have he0 := plan_err HTB.out hpl
      subst he0
      obtain ⟨ca, cc, ra', rc', wa, wc, sa, sc, rfl, hP, hle⟩ := hOP.open_ hpl
      have HPL := hide hpl
      clear hP hpl hOP hT2 hac2
      have hB3 : Below wr.heap.size wr w3 := hb2.trans (hb3.mono hb2.size)
      obtain ⟨W4, hW4⟩ : ∃ W4, w3.alloc (planBox p ca cc ra' rc' wa wc sa sc) = W4 := ⟨_, rfl⟩
      have hb4 : Below w3.heap.size w3 W4 := by rw [← hW4]; exact Joins.below_alloc1 _ _
      have hB4 : Below wr.heap.size wr W4 := hB3.trans (hb4.mono hB3.size)
      have hz4 : w3.heap.size < W4.heap.size := by rw [← hW4]; simp
      have q0 : W4.cell? ⟨w3.heap.size, 0, none⟩ = some (.bool p.fits) := by rw [← hW4]; simp [planBox]
      have q2 : W4.cell? ⟨w3.heap.size, 2, none⟩ = some (.int .i64 p.cost) := by rw [← hW4]; simp [planBox]
      have m0' := (hB3.cell (p := ⟨w1.heap.size + 1, 0, none⟩) hmb).trans m0
      have m1' := (hB3.cell (p := ⟨w1.heap.size + 1, 1, none⟩) hmb).trans m1
      have hmb3 : w1.heap.size + 1 < w3.heap.size := Nat.lt_of_lt_of_le hmb hB3.size
      unfold planBox at hW4
      have HW4 := hide hW4
      have cV : n0 (Calls Try.prog 15 #[.agg #[.slice (some ⟨w1.heap.size, 0, none⟩) m m, .slice aa an ac]] W4 fun e w' => ∃ (a : A6) (v : Value), e = .returned (.tuple #[v, .bool true]) ∧ OwnA w' W4.heap.size v a ∧ okB (netSup k) (netArcs (tAt t) k k) a = true ∧ Below W4.heap.size W4 w') :=
        solved_any hS (some ⟨w1.heap.size, 0, none⟩) aa m m an ac (netSup k) (netArcs (tAt t) k k) W4 (HIN.out.below hB4) (HAR.out.below hB4) HNOK.out
      clear hW4 m0 m1
      go_wp2_with fail
      rw [HW4.out]
      refine Calls.mono cV.out ?_
      rintro e w5 ⟨a, v5, rfl, hO5, hok, hb5⟩
      clear cV HW4 m0' m1'
      obtain ⟨f1, f2⟩ := brg_final HN.out ht4 HTB.out HPL.out hok
      obtain ⟨fa, fc, pa, pc, ca2, cc2, ra2, rc2, rfl, -⟩ := hO5
      have k0 := (hb5.cell (p := ⟨w3.heap.size, 0, none⟩) hz4).trans q0
      have k2 := (hb5.cell (p := ⟨w3.heap.size, 2, none⟩) hz4).trans q2
      have hz5 : w3.heap.size < w5.heap.size := Nat.lt_of_lt_of_le hz4 hb5.size
      have hB5 : Below wr.heap.size wr w5 := hB4.trans (hb5.mono hB4.size)
      have hB6 : Below w.heap.size w (w5.alloc (.cells #[.int .i64 a.kind, .int .i64 a.cost, .slice fa a.flow.length fc, .slice pa a.pots.length pc, .slice ca2 a.cut.length cc2, .slice ra2 a.circ.length rc2] 39)) := (hb1.trans ((hbe.trans (hB5.mono hbe.size)).mono hb1.size)).alloc (Nat.le_trans (Nat.le_trans hb1.size hbe.size) hB5.size) _
      have HB6 := hide hB6
      clear hok hb5 q0 q2 hB6 hB5 hB4 hB3 hb2 hb3 hb4
      cases hft : p.fits with
      | false =>
        have g1 := f1 hft
        rw [hft] at k0
        rw [g1] at HB6 ⊢
        clear f1 f2
        go_wp2
        go_ret
        exact ⟨rfl, HB6.out⟩
      | true =>
        obtain ⟨g1, g2⟩ := f2 hft
        rw [hft] at k0
        rw [← g2] at k2
        rw [g1] at HB6 ⊢
        clear f1 f2 g2
        go_wp2
        go_ret
        exact ⟨ret_b (by simp), HB6.out⟩
end Go.Proofs.Ytnbccoflcoaoaab
