import Derived.Test.YtojiemadoogjlaaSomP
namespace Go.Proofs.Ytojiemadoogjlaa
open Go.RowKit
set_option linter.unusedSimpArgs false
set_option linter.unusedVariables false

def upd {α : Type} (f : Nat → α) (v : Nat) (x : α) : Nat → α := fun i => if i = v then x else f i
theorem upd_same {α : Type} (f : Nat → α) (v : Nat) (x : α) : upd f v x v = x := by simp [upd]
theorem upd_ne {α : Type} (f : Nat → α) {v i : Nat} (x : α) (h : i ≠ v) : upd f v x i = f i := by simp [upd, h]

/-- What is known of those who are reached. -/
structure RInv (es : List A5) (fl lf : List Int) (n : Nat) (seen start : Nat → Bool) (order : List Int) (last : Nat → St) (pos : Nat → Nat) : Prop where
  ord : ∀ i, i < order.length → 0 ≤ order.getD i 0 ∧ order.getD i 0 < n ∧ seen (order.getD i 0).toNat = true
  cover : ∀ v : Nat, v < n → seen v = true → inB order (v : Int) = true
  cnt : sumTo (fun v => if seen v = true then 1 else 0) n = order.length
  st1 : ∀ v, v < n → start v = true → seen v = true ∧ 0 < lf.getD v 0
  way : ∀ v, v < n → seen v = true → start v = false → (last v).arc < es.length ∧ (last v).dst es = v ∧ 0 < roomOf es fl (last v) ∧ seen ((last v).src es).toNat = true ∧ pos ((last v).src es).toNat < pos v
  posb : ∀ v, v < n → seen v = true → pos v < order.length
  arcs : ∀ v, v < n → (last v).arc ≤ 24

theorem RInv.small {es : List A5} {fl lf : List Int} {n : Nat} {seen start : Nat → Bool} {order : List Int} {last : Nat → St} {pos : Nat → Nat} (h : RInv es fl lf n seen start order last pos) : order.length ≤ n := by
  have h1 := sumTo_le (f := fun v => if seen v = true then 1 else 0) (g := fun _ => 1) (n := n) (fun i _ => by split <;> omega)
  have h2 : ∀ n : Nat, sumTo (fun _ => 1) n = n := by
    intro n
    induction n with
    | zero => rfl
    | succ n ih => simp only [sumTo, ih]; omega
  rw [h.cnt, h2] at h1
  omega

theorem inB_snoc (l : List Int) (x v : Int) : inB (l ++ [x]) v = (inB l v || x == v) := by simp [inB]

theorem RInv.none (es : List A5) (fl lf : List Int) (n : Nat) : RInv es fl lf n (fun _ => false) (fun _ => false) [] (fun _ => zS) (fun _ => 0) where
  ord := fun i hi => by simp at hi
  cover := fun v _ h => by cases h
  cnt := by simp [sumTo_zero]
  st1 := fun v _ h => by cases h
  way := fun v _ h => by cases h
  posb := fun v _ h => by cases h
  arcs := fun v _ => by simp [zS]

theorem RInv.see {es : List A5} {fl lf : List Int} {n : Nat} {seen start : Nat → Bool} {order : List Int} {last : Nat → St} {pos : Nat → Nat} (h : RInv es fl lf n seen start order last pos) {v : Nat} (hv : v < n) (hs : seen v = false)
    (start' : Nat → Bool) (last' : Nat → St) (h1 : ∀ u, u ≠ v → start' u = start u) (h2 : ∀ u, u ≠ v → last' u = last u) (h3 : start' v = true → 0 < lf.getD v 0) (h24 : (last' v).arc ≤ 24)
    (h4 : start' v = false → (last' v).arc < es.length ∧ (last' v).dst es = v ∧ 0 < roomOf es fl (last' v) ∧ seen ((last' v).src es).toNat = true ∧ ((last' v).src es).toNat < n) :
    RInv es fl lf n (upd seen v true) start' (order ++ [(v : Int)]) last' (upd pos v order.length) where
  ord := fun i hi => by
    rw [List.length_append] at hi
    simp only [List.length_cons, List.length_nil] at hi
    rw [getD_snoc]
    by_cases hl : i < order.length
    · rw [if_pos hl]
      obtain ⟨a, b, c⟩ := h.ord i hl
      refine ⟨a, b, ?_⟩
      unfold upd
      split
      · rfl
      · exact c
    · rw [if_neg hl, if_pos (by omega)]
      exact ⟨by omega, by omega, by simp [upd]⟩
  cover := fun u hu hs' => by
    rw [inB_snoc]
    by_cases e : u = v
    · subst e; simp
    · rw [upd_ne _ _ e] at hs'
      rw [h.cover u hu hs']; rfl
  cnt := by
    rw [sumTo_set (f := fun v => if seen v = true then 1 else 0) hv (fun i hi hne => by simp only [upd_ne _ _ hne]), h.cnt]
    simp only [upd_same, hs]
    simp
  st1 := fun u hu hst => by
    by_cases e : u = v
    · subst e; exact ⟨upd_same _ _ _, h3 hst⟩
    · rw [h1 u e] at hst
      rw [upd_ne _ _ e]
      exact h.st1 u hu hst
  way := fun u hu hs' hst => by
    by_cases e : u = v
    · subst e
      obtain ⟨a, b, c, d, f⟩ := h4 hst
      have hne : ((last' u).src es).toNat ≠ u := fun e => by rw [e, hs] at d; cases d
      refine ⟨a, b, c, by rw [upd_ne _ _ hne]; exact d, ?_⟩
      rw [upd_ne _ _ hne, upd_same]
      exact h.posb _ f d
    · rw [upd_ne _ _ e] at hs'
      rw [h1 u e] at hst
      obtain ⟨a, b, c, d, f⟩ := h.way u hu hs' hst
      rw [h2 u e]
      have hne : ((last u).src es).toNat ≠ v := fun e => by rw [e, hs] at d; cases d
      exact ⟨a, b, c, by rw [upd_ne _ _ hne]; exact d, by rw [upd_ne _ _ hne, upd_ne _ _ e]; exact f⟩
  posb := fun u hu hs' => by
    rw [List.length_append]
    simp only [List.length_cons, List.length_nil]
    by_cases e : u = v
    · subst e; rw [upd_same]; omega
    · rw [upd_ne _ _ e] at hs' ⊢
      have := h.posb u hu hs'
      omega
  arcs := fun u hu => by
    by_cases e : u = v
    · subst e; exact h24
    · rw [h2 u e]; exact h.arcs u hu

/-- Who was seen is seen still; who joined has joined behind. -/
def Ext (seen : Nat → Bool) (order : List Int) (seen' : Nat → Bool) (order' : List Int) : Prop := (∀ v, seen v = true → seen' v = true) ∧ ∃ more, order' = order ++ more
theorem Ext.refl (seen : Nat → Bool) (order : List Int) : Ext seen order seen order := ⟨fun _ h => h, [], by simp⟩
theorem Ext.trans {s1 s2 s3 : Nat → Bool} {o1 o2 o3 : List Int} (h : Ext s1 o1 s2 o2) (k : Ext s2 o2 s3 o3) : Ext s1 o1 s3 o3 := by
  obtain ⟨a, m1, rfl⟩ := h
  obtain ⟨b, m2, rfl⟩ := k
  exact ⟨fun v hv => b v (a v hv), m1 ++ m2, by simp⟩
theorem Ext.see (seen : Nat → Bool) (order : List Int) (v : Nat) : Ext seen order (upd seen v true) (order ++ [(v : Int)]) :=
  ⟨fun u hu => by unfold upd; split; rfl; exact hu, [(v : Int)], rfl⟩
theorem Ext.at {s1 s2 : Nat → Bool} {o1 o2 : List Int} (h : Ext s1 o1 s2 o2) {i : Nat} (hi : i < o1.length) : o2.getD i 0 = o1.getD i 0 ∧ o1.length ≤ o2.length := by
  obtain ⟨_, m, rfl⟩ := h
  refine ⟨?_, by simp⟩
  simp only [List.getD]
  rw [List.getElem?_append_left hi]
theorem Ext.len {s1 s2 : Nat → Bool} {o1 o2 : List Int} (h : Ext s1 o1 s2 o2) : o1.length ≤ o2.length := by
  obtain ⟨_, m, rfl⟩ := h; simp

/-- From this node, over the first k arcs, nothing new is to be seen. -/
def Shut (es : List A5) (fl : List Int) (seen : Nat → Bool) (node : Int) (k : Nat) : Prop := ∀ s : St, s.arc < k → s.src es = node → seen (s.dst es).toNat = true ∨ roomOf es fl s = 0
theorem Shut.ext {es : List A5} {fl : List Int} {s1 s2 : Nat → Bool} {o1 o2 : List Int} {node : Int} {k : Nat} (h : Shut es fl s1 node k) (he : Ext s1 o1 s2 o2) : Shut es fl s2 node k :=
  fun s hs hn => (h s hs hn).imp (fun h => he.1 _ h) id
theorem Shut.zero (es : List A5) (fl : List Int) (seen : Nat → Bool) (node : Int) : Shut es fl seen node 0 := fun s hs => by omega
theorem Shut.succ {es : List A5} {fl : List Int} {seen : Nat → Bool} {node : Int} {k : Nat} (h : Shut es fl seen node k) (h1 : ∀ back, (St.mk k back).src es = node → seen ((St.mk k back).dst es).toNat = true ∨ roomOf es fl ⟨k, back⟩ = 0) : Shut es fl seen node (k + 1) := by
  rintro ⟨a, b⟩ hs hn
  have hs' : a < k + 1 := hs
  by_cases e : a = k
  · subst e; exact h1 b hn
  · exact h ⟨a, b⟩ (show a < k by omega) hn

/-- Going back from e: what is known on the way. -/
structure BackOK (es : List A5) (fl : List Int) (pos : Nat → Nat) (way : List St) (e : Nat) (at_ : Nat) : Prop where
  ok : WayOK es fl way (e : Int)
  here : atK es way (e : Int) way.length = (at_ : Int)
  low : ∀ k, k < way.length → pos at_ ≤ pos ((way.getD k zS).src es).toNat ∧ pos ((way.getD k zS).src es).toNat < pos ((way.getD k zS).dst es).toNat
  short : way.length + pos at_ ≤ pos e
theorem BackOK.start (es : List A5) (fl : List Int) (pos : Nat → Nat) (e : Nat) : BackOK es fl pos [] e e where
  ok := ⟨fun k hk => by simp at hk, fun k hk => by simp at hk, fun i j _ hj => by simp at hj, fun k hk => by simp at hk⟩
  here := rfl
  low := fun k hk => by simp at hk
  short := by simp
theorem getD_snocS (l : List St) (x : St) (i : Nat) (hi : i ≤ l.length) : (l ++ [x]).getD i zS = if i < l.length then l.getD i zS else x := by
  simp only [List.getD]
  by_cases h : i < l.length
  · rw [if_pos h, List.getElem?_append_left h]
  · rw [if_neg h, List.getElem?_append_right (by omega), show i - l.length = 0 from by omega]; rfl
theorem atK_snoc (es : List A5) (l : List St) (x : St) (e : Int) (k : Nat) (hk : k ≤ l.length) : atK es (l ++ [x]) e k = atK es l e k := by
  cases k with
  | zero => rfl
  | succ k => simp only [atK]; rw [getD_snocS _ _ _ (by omega), if_pos (by omega)]
theorem BackOK.next {xs : List Int} {es : List A5} (hn : NetOK xs es) {fl lf : List Int} {seen start : Nat → Bool} {order : List Int} {last : Nat → St} {pos : Nat → Nat} (hR : RInv es fl lf xs.length seen start order last pos)
    {way : List St} {e a : Nat} (h : BackOK es fl pos way e a) (ha : a < xs.length) (hs : seen a = true) (hst : start a = false) :
    ∃ p : Nat, (last a).src es = (p : Int) ∧ p < xs.length ∧ seen p = true ∧ pos p < pos a ∧ BackOK es fl pos (way ++ [last a]) e p := by
  obtain ⟨h1, h2, h3, h4, h5⟩ := hR.way a ha hs hst
  have hen := hn.ends _ h1
  have hsr : 0 ≤ (last a).src es ∧ (last a).src es < xs.length := by unfold St.src; split <;> omega
  obtain ⟨p, hp⟩ : ∃ p : Nat, (last a).src es = (p : Int) := ⟨((last a).src es).toNat, by omega⟩
  rw [hp, Int.toNat_natCast] at h4 h5
  have hpl : p < xs.length := by omega
  refine ⟨p, hp, hpl, h4, h5, ?_⟩
  have hlen : (way ++ [last a]).length = way.length + 1 := by simp
  refine ⟨⟨fun k hk => ?_, fun k hk => ?_, fun i j hij hj => ?_, fun k hk => ?_⟩, ?_, fun k hk => ?_, ?_⟩
  · rw [getD_snocS _ _ _ (by omega)]
    split
    · exact h.ok.inr k (by omega)
    · exact h1
  · rw [getD_snocS _ _ _ (by omega), atK_snoc _ _ _ _ _ (by omega)]
    split
    · exact h.ok.chain k (by omega)
    · rw [show k = way.length from by omega, h.here]; exact h2
  · rw [getD_snocS _ _ _ (by omega), getD_snocS _ _ _ (by omega), if_pos (by omega)]
    by_cases hjl : j < way.length
    · rw [if_pos hjl]; exact h.ok.once i j hij hjl
    · rw [if_neg hjl]
      intro he
      obtain ⟨l1, l2⟩ := h.low i (by omega)
      unfold St.src at hp l1 l2
      unfold St.dst at h2 l2
      rw [he] at l1 l2
      cases hb1 : (way.getD i zS).back <;> cases hb2 : (last a).back <;> rw [hb1] at l1 l2 <;> rw [hb2] at h2 hp <;>
        simp only [Bool.false_eq_true, if_false, if_true] at l1 l2 h2 hp <;> simp only [h2, hp, Int.toNat_natCast] at l1 l2 <;> omega
  · rw [getD_snocS _ _ _ (by omega)]
    split
    · exact h.ok.room k (by omega)
    · exact h3
  · rw [hlen]
    simp only [atK]
    rw [getD_snocS _ _ _ (by omega), if_neg (by omega)]
    exact hp
  · rw [getD_snocS _ _ _ (by omega)]
    split
    · rename_i hkl
      obtain ⟨l1, l2⟩ := h.low k hkl
      exact ⟨by omega, l2⟩
    · rw [hp, h2]
      simp only [Int.toNat_natCast]
      exact ⟨by omega, h5⟩
  · have := h.short
    rw [hlen]; omega

theorem upd_cells {α : Type} (enc : α → Value) (f : Nat → α) (v : Nat) (x : α) (i : Nat) : enc (upd f v x i) = if i = v then enc x else enc (f i) := by
  unfold upd; split <;> rfl
end Go.Proofs.Ytojiemadoogjlaa
