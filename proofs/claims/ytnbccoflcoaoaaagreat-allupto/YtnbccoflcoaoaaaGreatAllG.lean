import Derived.Test.YtnbccoflcoaoaaaGreatAllF
import Derived.Test.YtnbccoflcoaoaaaGreatGRtb
import Derived.Test.YtnbccoflcoaoaaaGreatGTab
import Derived.Deep.DeepCutAuto
import Derived.Deep.Light
namespace Go.Proofs.YtnbccoflcoaoaaaGreat
open Go.RowKit Go.Deep
set_option linter.unusedSimpArgs false
set_option linter.unusedVariables false

theorem infoList : (Tryz.prog.info? 57).map (fun i => (i.zero, i.size, i.bytes)) = some (some (.slice none 0 0), 1, 24) := by kernel_rfl

theorem own_some {w : World} {base : Nat} {e : TypeId} {v : Value} {m : Nat} {xs : List Value} (h : w.ownsRow base e 1 v m xs) (hm : 0 < m) : ∃ g c, v = .slice (some ⟨g, 0, none⟩) m c := by
  rcases h.2 with ⟨_, h0⟩ | ⟨g, cap, cur, e1, _⟩
  · omega
  · exact ⟨g, cap, e1⟩
/-- Another list in l's memory keeps its places while something is appended to l. -/
theorem own_share {w w' : World} {base base' : Nat} {u l : Value} {m n : Nat} {us xs xs' : List Value} (hu : w.ownsRow base 3 1 u m us) (hl : w.ownsRow base' 3 1 l n xs) (hl' : w'.ownsRow base' 3 1 l n xs') (hg : w.grownBy w' l.ownBlock) : ∃ us', w'.ownsRow base 3 1 u m us' := by
  rcases hu.2 with ⟨rfl, h0⟩ | ⟨g, cap, cur, rfl, a1, a2, a3, a4, a5, a6⟩
  · exact ⟨us, ⟨hu.1, .inl ⟨rfl, h0⟩⟩⟩
  · by_cases e : some g = l.ownBlock
    · rcases hl.2 with ⟨rfl, _⟩ | ⟨g1, c1, cur1, rfl, b1, b2, b3, b4, b5, b6⟩
      · cases e
      · simp only [Value.ownBlock, Option.some.injEq] at e
        subst e
        rw [a2] at b2
        cases b2
        rcases hl'.2 with ⟨e1, _⟩ | ⟨g2, c2, cur2, e1, d1, d2, d3, d4, d5, d6⟩
        · cases e1
        · cases e1
          exact ⟨cur2.toList.take (m * 1), ⟨by rw [List.length_take]; simp; omega, .inr ⟨g, cap, cur2, rfl, a1, d2, a3, a4, by omega, rfl⟩⟩⟩
    · exact ⟨us, hu.kept hg (.inr (by simpa [Value.ownBlock] using e))⟩

/-- The frame of 'mine': what lies there stays, the list's own block apart. -/
structure KeepL (w w' : World) (l : Value) : Prop where
  os : w'.os = w.os
  tape : w'.tape = w.tape
  output : w'.output = w.output
  size : w.heap.size ≤ w'.heap.size
  block : ∀ k, k < w.heap.size → some k ≠ l.ownBlock → w'.heap[k]? = w.heap[k]?
theorem KeepL.refl (w : World) (l : Value) : KeepL w w l := ⟨rfl, rfl, rfl, Nat.le_refl _, fun _ _ _ => rfl⟩
theorem KeepL.grown {w a b : World} {l : Value} (h : KeepL w a l) {row : Option Nat} (hg : a.grownBy b row) (hr : ∀ k, row = some k → l.ownBlock = some k ∨ w.heap.size ≤ k) : KeepL w b l :=
  ⟨hg.os.trans h.os, hg.tape.trans h.tape, hg.output.trans h.output, Nat.le_trans h.size hg.size, fun k h1 h2 => (hg.block k (Nat.lt_of_lt_of_le h1 h.size) (fun e => by rcases hr k e.symm with e2 | e2; exact h2 e2.symm; omega)).trans (h.block k h1 h2)⟩
theorem KeepL.set {w a : World} {l : Value} (h : KeepL w a l) {g o : Nat} (hr : l.ownBlock = some g ∨ w.heap.size ≤ g) (u : Value) : KeepL w (a.setCell ⟨g, o, none⟩ u) l :=
  ⟨h.os, h.tape, h.output, by simpa [World.setCell] using h.size, fun k h1 h2 => (Below.heap_setCell _ _ _ _ (fun e => by have e' : k = g := e; subst e'; rcases hr with e2 | e2; exact h2 e2.symm; omega)).trans (h.block k h1 h2)⟩
theorem KeepL.alloc {w a : World} {l : Value} (h : KeepL w a l) (o : Obj) : KeepL w (a.alloc o) l :=
  h.grown (World.grownBy_alloc _ _ none) (fun k e => by cases e)
theorem KeepL.row {w a : World} {l : Value} (h : KeepL w a l) {b : Nat} {t : TypeId} {n : Nat} {f : Nat → Value} (hr : w.rowIs b t n f) (hne : some b ≠ l.ownBlock) : a.rowIs b t n f := hr.of_block (h.block b hr.lt hne)

/-- The four lists of one that came out, marked so far. -/
structure Four (w wr : World) (base xb n : Nat) (l : Value) (X : Nat → Value) (jj : Nat → Nat) (mk : Int) : Prop where
  row : wr.rowIs xb 32 4 X
  slot : ∀ q, q < 4 → Slot wr base (X q) (n + q) (jj q) mk
  where_ : ∀ q, q < 4 → ∀ b, (X q).ownBlock = some b → l.ownBlock = some b ∨ w.heap.size ≤ b
  keep : KeepL w wr l
  new : w.heap.size ≤ xb
theorem Four.apart {w wr : World} {base xb n : Nat} {l : Value} {X : Nat → Value} {jj : Nat → Nat} {mk : Int} (h : Four w wr base xb n l X jj mk) {q g cap : Nat} (hq : q < 4) (e : X q = .slice (some ⟨g, 0, none⟩) (n + q) cap) : xb ≠ g := by
  intro e2
  subst e2
  obtain ⟨us, h1, _⟩ := h.slot q hq
  rw [e] at h1
  rcases h1.2 with ⟨e1, _⟩ | ⟨g', cap', cur, e1, a1, a2, _⟩
  · cases e1
  · cases e1
    obtain ⟨cur', c1, _⟩ := h.row
    rw [a2] at c1
    cases c1
theorem Four.write {w wr : World} {base xb n : Nat} {l : Value} {X : Nat → Value} {jj jj' : Nat → Nat} {mk : Int} (h : Four w wr base xb n l X jj mk) {q g cap : Nat} (hq : q < 4) (e : X q = .slice (some ⟨g, 0, none⟩) (n + q) cap) (hj : jj q < n + q) (hj' : ∀ p, p < 4 → jj' p = if p = q then jj q + 1 else jj p) :
    Four w (wr.setCell ⟨g, jj q, none⟩ (.int .i64 mk)) base xb n l X jj' mk := by
  refine ⟨h.row.setOther (h.apart hq e) _, fun p hp => ?_, h.where_, h.keep.set (h.where_ q hq g (by rw [e]; rfl)) _, h.new⟩
  rw [hj' p hp]
  by_cases ep : p = q
  · subst ep
    rw [if_pos rfl, e]
    have := h.slot p hq
    rw [e] at this
    exact this.write hj
  · rw [if_neg ep]
    exact (h.slot p hp).keep g (jj q)
theorem Four.at_ {w wr : World} {base xb n : Nat} {l : Value} {X : Nat → Value} {jj : Nat → Nat} {mk : Int} (h : Four w wr base xb n l X jj mk) {q : Nat} (hq : q < 4) : ∃ a c, X q = .slice a (n + q) c ∧ (0 < n + q → ∃ g, a = some ⟨g, 0, none⟩ ∧ ∀ j, j < n + q → (∃ u, wr.cell? ⟨g, j, none⟩ = some u) ∧ wr.frozen? ⟨g, j, none⟩ = false) := by
  obtain ⟨us, h1, _⟩ := h.slot q hq
  rcases h1.2 with ⟨e1, h0⟩ | ⟨g, cap, cur, e1, a1, a2, a3, a4, a5, a6⟩
  · exact ⟨none, 0, by rw [e1, h0], fun hp => by omega⟩
  · refine ⟨_, _, e1, fun _ => ⟨g, rfl, fun j hj => ?_⟩⟩
    have hrow : wr.rowIs g 3 cap (fun i => cur.getD i undef) := ⟨cur, a2, by omega, fun i hi => by simp [Array.getD, show i < cur.size by omega]⟩
    exact ⟨⟨_, hrow.cell (by omega)⟩, hrow.frozen j⟩
theorem Four.congr {w wr : World} {base xb n : Nat} {l : Value} {X : Nat → Value} {jj jj' : Nat → Nat} {mk : Int} (h : Four w wr base xb n l X jj mk) (hj : ∀ p, p < 4 → jj' p = jj p) : Four w wr base xb n l X jj' mk :=
  ⟨h.row, fun p hp => by rw [hj p hp]; exact h.slot p hp, h.where_, h.keep, h.new⟩

set_option maxRecDepth 100000 in
set_option maxHeartbeats 4000000 in
theorem aMine_any (wb base0 base : Nat) (fw : Nat → Value) (la : Option Addr) (nl lc : Nat) (lcs : List Value) (l : Value) (n : Nat) (xs : List Value) (w : World)
    (hbox : w.rowIs wb 31 6 fw) (h4 : fw 4 = .slice la nl lc) (hls : w.ownsRow base0 57 1 (.slice la nl lc) nl lcs) (hl : w.ownsRow base 3 1 l n xs) (hn : n ≤ 1000) (hb : base ≤ w.heap.size) (hb0 : base0 ≤ w.heap.size) (hnl : nl ≤ 1099511627776) :
    Calls Tryz.prog 25 #[.pointer (some ⟨wb, 0, none⟩), l] w fun e w' => e = .returned (.tuple #[]) ∧ ∃ lv' xb X, w'.rowIs wb 31 6 (fun i => if i = 4 then lv' else fw i) ∧ w'.ownsRow base0 57 1 lv' (nl + 1) (lcs ++ [.slice (some ⟨xb, 0, none⟩) 4 4]) ∧
      (∃ wr, Four w wr base xb n l X (fun q => n + q) (-3000000 - nl) ∧ (∀ k, k < wr.heap.size → k ≠ wb → some k ≠ (Value.slice la nl lc).ownBlock → w'.heap[k]? = wr.heap[k]?) ∧ wr.heap.size ≤ w'.heap.size ∧ w'.os = w.os ∧ w'.tape = w.tape ∧ w'.output = w.output) := by
  have hwl : some wb ≠ l.ownBlock := by
    intro e
    rcases hl.2 with ⟨rfl, _⟩ | ⟨g, cap, cur, rfl, a1, a2, _⟩
    · cases e
    · simp only [Value.ownBlock, Option.some.injEq] at e
      subst e
      obtain ⟨cur', c1, _⟩ := hbox
      rw [a2] at c1
      cases c1
  have hwa : some wb ≠ (Value.slice la nl lc).ownBlock := by
    intro e
    rcases hls.2 with ⟨e1, _⟩ | ⟨g, cap, cur, e1, a1, a2, _⟩
    · rw [e1] at e; cases e
    · rw [e1] at e
      simp only [Value.ownBlock, Option.some.injEq] at e
      subst e
      obtain ⟨cur', c1, _⟩ := hbox
      rw [a2] at c1
      cases c1
  have hll : (Value.slice la nl lc).ownBlock = none ∨ (Value.slice la nl lc).ownBlock ≠ l.ownBlock := own_apart hls hl (by decide)
  have c4 := hbox.cell (i := 4) (by omega)
  rw [h4] at c4
  obtain ⟨oa, oc, rfl⟩ : ∃ oa oc, l = .slice oa n oc := by
    rcases hl.2 with ⟨rfl, h0⟩ | ⟨g, cap, cur, rfl, _⟩
    · exact ⟨none, 0, by rw [h0]⟩
    · exact ⟨_, _, rfl⟩
  have hnlb : -1099514627776 - 1000 ≤ -3000000 - (nl : Int) := by omega
  have HB := hide hbox
  have HLS := hide hls
  have hwlt := hbox.lt
  obtain ⟨mk, hmk⟩ : ∃ mk : Int, -3000000 - (nl : Int) = mk := ⟨_, rfl⟩
  go_enter Tryz.func25, Tryz.ntmps25
  go_upto_region 1 with fail
  have HMK := hide hmk
  have hmk1 : -1099514627776 ≤ mk := by omega
  have hmk2 : mk ≤ -3000000 := by omega
  clear hmk hnlb c4
  have K0 : KeepL w (w.alloc (.cells #[.int .i64 mk] 3)) (.slice oa n oc) := (KeepL.refl _ _).alloc _
  have HL0 := hide hl
  go_wp2_with (at_builtin; refine wpList_push_keep rfl (.tmp 15) (.tmp 17) rfl base (.slice oa n oc) n xs rfl (hl.alloc _) w.heap.size 1 1 [.int .i64 mk] rfl rfl (by omega) ?_ ?_ (by omega) (by simp; omega) ?_)
  · intro j u hj
    match j, hj with
    | 0, hj => simp at hj; subst hj; go_simp
    | j + 1, hj => simp at hj
  · intro u hu; simp at hu; subst hu; rfl
  intro v1 w1 o1 l1 g1 p1
  obtain ⟨y1, z1, rfl⟩ : ∃ g c, v1 = .slice (some ⟨g, 0, none⟩) (n + 1) c := own_some o1 (by omega)
  have K1 := K0.grown g1 (fun k e => .inl e)
  have hz1 := K1.size
  have q1 : ∀ b, (Value.slice (some ⟨y1, 0, none⟩) (n + 1) z1).ownBlock = some b → (Value.slice oa n oc).ownBlock = some b ∨ w.heap.size ≤ b := fun b hb => (p1 b hb).imp id (fun h => by omega)
  have K1a := K1.alloc (.cells #[.int .i64 mk, .int .i64 mk] 3)
  clear K0 g1 p1 hl
  go_wp2_with (at_builtin; refine wpList_push_keep rfl (.tmp 19) (.tmp 22) rfl base (.slice oa n oc) n xs rfl (l1.alloc _) w1.heap.size 2 2 [.int .i64 mk, .int .i64 mk] rfl rfl (by omega) ?_ ?_ (by omega) (by simp; omega) ?_)
  · intro j u hj
    match j, hj with
    | 0, hj => simp at hj; subst hj; go_simp
    | 1, hj => simp at hj; subst hj; go_simp
    | j + 2, hj => simp at hj
  · intro u hu; simp at hu; subst hu; rfl
  intro v2 w2 o2 l2 g2 p2
  obtain ⟨y2, z2, rfl⟩ : ∃ g c, v2 = .slice (some ⟨g, 0, none⟩) (n + 2) c := own_some o2 (by omega)
  have K2 := K1a.grown g2 (fun k e => .inl e)
  have q2 : ∀ b, (Value.slice (some ⟨y2, 0, none⟩) (n + 2) z2).ownBlock = some b → (Value.slice oa n oc).ownBlock = some b ∨ w.heap.size ≤ b := fun b hb => (p2 b hb).imp id (fun h => by omega)
  obtain ⟨us1, o12⟩ := own_share (o1.alloc (.cells #[.int .i64 mk, .int .i64 mk] 3)) (l1.alloc (.cells #[.int .i64 mk, .int .i64 mk] 3)) l2 g2
  have hz2 := K2.size
  have K2a := K2.alloc (.cells #[.int .i64 mk, .int .i64 mk, .int .i64 mk] 3)
  clear K1 K1a g2 p2 o1 l1
  go_wp2_with (at_builtin; refine wpList_push_keep rfl (.tmp 24) (.tmp 28) rfl base (.slice oa n oc) n xs rfl (l2.alloc _) w2.heap.size 3 3 [.int .i64 mk, .int .i64 mk, .int .i64 mk] rfl rfl (by omega) ?_ ?_ (by omega) (by simp; omega) ?_)
  · intro j u hj
    match j, hj with
    | 0, hj => simp at hj; subst hj; go_simp
    | 1, hj => simp at hj; subst hj; go_simp
    | 2, hj => simp at hj; subst hj; go_simp
    | j + 3, hj => simp at hj
  · intro u hu; simp at hu; subst hu; rfl
  intro v3 w3 o3 l3 g3 p3
  obtain ⟨y3, z3, rfl⟩ : ∃ g c, v3 = .slice (some ⟨g, 0, none⟩) (n + 3) c := own_some o3 (by omega)
  have K3 := K2a.grown g3 (fun k e => .inl e)
  have q3 : ∀ b, (Value.slice (some ⟨y3, 0, none⟩) (n + 3) z3).ownBlock = some b → (Value.slice oa n oc).ownBlock = some b ∨ w.heap.size ≤ b := fun b hb => (p3 b hb).imp id (fun h => by omega)
  obtain ⟨us1', o13⟩ := own_share (o12.alloc (.cells #[.int .i64 mk, .int .i64 mk, .int .i64 mk] 3)) (l2.alloc (.cells #[.int .i64 mk, .int .i64 mk, .int .i64 mk] 3)) l3 g3
  obtain ⟨us2, o23⟩ := own_share (o2.alloc (.cells #[.int .i64 mk, .int .i64 mk, .int .i64 mk] 3)) (l2.alloc (.cells #[.int .i64 mk, .int .i64 mk, .int .i64 mk] 3)) l3 g3
  have hz3 := K3.size
  have HF0 : Hid (Four w (w3.alloc (.cells #[.slice oa n oc, .slice (some ⟨y1, 0, none⟩) (n + 1) z1, .slice (some ⟨y2, 0, none⟩) (n + 2) z2, .slice (some ⟨y3, 0, none⟩) (n + 3) z3] 32)) base w3.heap.size n (.slice oa n oc) (fun q => if q = 0 then .slice oa n oc else if q = 1 then Value.slice (some ⟨y1, 0, none⟩) (n + 1) z1 else if q = 2 then Value.slice (some ⟨y2, 0, none⟩) (n + 2) z2 else Value.slice (some ⟨y3, 0, none⟩) (n + 3) z3) (fun _ => 0) mk) := by
    refine ⟨World.rowIs_alloc w3 #[.slice oa n oc, .slice (some ⟨y1, 0, none⟩) (n + 1) z1, .slice (some ⟨y2, 0, none⟩) (n + 2) z2, .slice (some ⟨y3, 0, none⟩) (n + 3) z3] 32 _ (fun i hi => ?_), fun q hq => ?_, fun q hq => ?_, K3.alloc _, hz3⟩
    · simp only [List.size_toArray, List.length_cons, List.length_nil] at hi
      match i, hi with
      | 0, _ => rfl
      | 1, _ => rfl
      | 2, _ => rfl
      | 3, _ => rfl
    · match q, hq with
      | 0, _ => exact Slot.start (l3.alloc _) mk
      | 1, _ => exact Slot.start (o13.alloc _) mk
      | 2, _ => exact Slot.start (o23.alloc _) mk
      | 3, _ => exact Slot.start (o3.alloc _) mk
    · match q, hq with
      | 0, _ => exact fun b hb => .inl hb
      | 1, _ => exact q1
      | 2, _ => exact q2
      | 3, _ => exact q3
  have hX0 : (fun q : Nat => if q = 0 then Value.slice oa n oc else if q = 1 then Value.slice (some ⟨y1, 0, none⟩) (n + 1) z1 else if q = 2 then Value.slice (some ⟨y2, 0, none⟩) (n + 2) z2 else Value.slice (some ⟨y3, 0, none⟩) (n + 3) z3) = (fun q => if q = 0 then Value.slice oa n oc else if q = 1 then Value.slice (some ⟨y1, 0, none⟩) (n + 1) z1 else if q = 2 then Value.slice (some ⟨y2, 0, none⟩) (n + 2) z2 else Value.slice (some ⟨y3, 0, none⟩) (n + 3) z3) := rfl
  generalize hX : (fun q : Nat => if q = 0 then Value.slice oa n oc else if q = 1 then Value.slice (some ⟨y1, 0, none⟩) (n + 1) z1 else if q = 2 then Value.slice (some ⟨y2, 0, none⟩) (n + 2) z2 else Value.slice (some ⟨y3, 0, none⟩) (n + 3) z3) = X at HF0
  clear hX hX0 K2 K2a K3 g3 p3 q1 q2 q3 o12 o2 o13 o23 o3 l2 l3 hz1 hz2
  go_wp2
  go_loopw [6, 7] (fun kk ii wr => ∃ k : Nat, k ≤ 4 ∧ kk = .int .i64 k ∧ Hid (Four w wr base w3.heap.size n (.slice oa n oc) X (fun q => if q < k then n + q else 0) mk)) (fun kk _ _ => 4 - (intOf kk).toNat)
  case atStart => exact ⟨0, Nat.zero_le _, rfl, HF0.out.congr (fun p hp => by rw [if_neg (by omega)])⟩
  case round =>
    clear HF0
    obtain ⟨k, hk, rfl, hF⟩ := hrel
    by_cases hlt : k < 4
    · have hlt3 : (k : Int) < 4 := by omega
      go_wp2
      go_loopw [7] (fun ii wr => ∃ i : Nat, i ≤ n + k ∧ ii = .int .i64 i ∧ Hid (Four w wr base w3.heap.size n (.slice oa n oc) X (fun q => if q < k then n + q else if q = k then i else 0) mk)) (fun ii _ => n + k - (intOf ii).toNat)
      case atStart => exact ⟨0, Nat.zero_le _, rfl, hF.out.congr (fun p hp => by by_cases e : p < k; rw [if_pos e, if_pos e]; rw [if_neg e, if_neg e]; split <;> rfl)⟩
      case round =>
        clear hF
        obtain ⟨i, hi, rfl, hF⟩ := hrel
        obtain ⟨xa, xc, eX, hcells⟩ := hF.out.at_ hlt
        have cX := hF.out.row.cell hlt
        rw [eX] at cX
        by_cases hlt2 : i < n + k
        · obtain ⟨g, rfl, hcl⟩ := hcells (by omega)
          obtain ⟨⟨u, cu⟩, fu⟩ := hcl i hlt2
          have hlt4 : (i : Int) < (n : Int) + (k : Int) := by omega
          have HF2 := hide (hF.out.write (q := k) (jj' := fun q => if q < k then n + q else if q = k then i + 1 else 0) hlt eX (by rw [if_neg (by omega), if_pos rfl]; exact hlt2) (fun p hp => by
            by_cases e : p = k
            · subst e; rw [if_pos rfl, if_neg (by omega), if_pos rfl, if_neg (by omega), if_pos rfl]
            · by_cases e2 : p < k
              · rw [if_pos e2, if_neg e, if_pos e2]
              · rw [if_neg e2, if_neg e, if_neg e, if_neg e2, if_neg e]))
          rw [if_neg (show ¬ k < k by omega), if_pos rfl] at HF2
          clear hF hcells hcl eX
          go_wp2
          exact ⟨⟨i + 1, by omega, by go_num, HF2.out⟩, by simp [intOf]; omega⟩
        · have hin : i = n + k := by omega
          subst hin
          have hlt5 : ¬ ((n : Int) + (k : Int) < (n : Int) + (k : Int)) := by omega
          clear hcells eX
          go_wp2
          all_goals first
            | (exfalso; omega)
            | (go_roundw
               case rel => exact ⟨k + 1, by omega, by go_num, hF.out.congr (fun p hp => by
                 by_cases e2 : p < k
                 · rw [if_pos e2, if_pos (by omega)]
                 · by_cases e : p = k
                   · subst e; rw [if_pos (by omega), if_neg e2, if_pos rfl]
                   · rw [if_neg (by omega), if_neg e2, if_neg e])⟩
               case measure => simp [intOf]; omega)
    · have hk4 : k = 4 := by omega
      subst hk4
      have hF4 := hF.out.congr (jj' := fun q => n + q) (fun p hp => by rw [if_pos hp])
      have hr4 := hF4.keep.row HB.out hwl
      have c4 := hr4.cell (i := 4) (by omega)
      rw [h4] at c4
      have f4 := hr4.frozen 4
      have hls4 : wr.ownsRow base0 57 1 (.slice la nl lc) nl lcs := own_blk HLS.out (fun b hb => hF4.keep.block b (HLS.out.lt b hb).2 (fun e => by rcases hll with h | h; rw [h] at hb; cases hb; exact h (by rw [hb]; exact e)))
      have HF4 := hide hF4
      have hw4 := hr4.lt
      have hks := hF4.keep.size
      have HR4 := hide hr4
      have HLS4 := hide hls4
      clear hF hF4 hr4 hls4
      obtain ⟨i0, hi, hz0, hzz1, hzz2⟩ := info_parts infoList
      go_wp2_with (at_builtin; refine wpList_append_own _ rfl _ _ 28 rfl base0 57 i0 _ 1 24 Tryz.underlying28 hi hz0 hzz1 hzz2 rfl (by decide) (.slice la nl lc) nl lcs rfl (HLS4.out.alloc _) ⟨wr.heap.size, 0, none⟩ 1 1 [.slice (some ⟨w3.heap.size, 0, none⟩) 4 4] rfl rfl ?_ ?_ (by unfold maxLen; omega) (by omega) (by simp; omega) ?_)
      · intro j u hj
        match j, hj with
        | 0, hj => simp at hj; subst hj; go_simp
        | j + 1, hj => simp at hj
      · intro u hu; simp at hu; subst hu; rfl
      intro lv w5 hown5 hgr5 _
      obtain ⟨y5, z5, rfl⟩ := own_some hown5 (by omega)
      have hal := (World.grownBy_alloc wr (.cells #[.slice (some ⟨w3.heap.size, 0, none⟩) 4 4] 57) none)
      have hs5 : wr.heap.size ≤ w5.heap.size := Nat.le_trans hal.size hgr5.size
      have hfr : ∀ k, k < wr.heap.size → some k ≠ (Value.slice la nl lc).ownBlock → w5.heap[k]? = wr.heap[k]? := fun k h1 h2 => (hgr5.block k (Nat.lt_of_lt_of_le h1 hal.size) h2).trans (hal.block k h1 (by simp))
      have hr5 : w5.rowIs wb 31 6 fw := HR4.out.of_block (hfr wb hw4 hwa)
      have c5 := hr5.cell (i := 4) (by omega)
      rw [h4] at c5
      have f5 := hr5.frozen 4
      have hr6 := hr5.set 4 (.slice (some ⟨y5, 0, none⟩) (nl + 1) z5)
      have hw5b : wb ≠ y5 := by
        intro e
        subst e
        rcases hown5.2 with ⟨e1, _⟩ | ⟨g, cap, cur, e1, a1, a2, _⟩
        · cases e1
        · cases e1
          obtain ⟨cur', c1, _⟩ := hr5
          rw [a2] at c1
          cases c1
      have ho6 : (w5.setCell ⟨wb, 4, none⟩ (.slice (some ⟨y5, 0, none⟩) (nl + 1) z5)).ownsRow base0 57 1 (.slice (some ⟨y5, 0, none⟩) (nl + 1) z5) (nl + 1) (lcs ++ [.slice (some ⟨w3.heap.size, 0, none⟩) 4 4]) := own_blk hown5 (fun k e => Below.heap_setCell _ _ _ _ (by simp only [Value.ownBlock, Option.some.injEq] at e; subst e; exact fun h => hw5b h.symm))
      have HO6 := hide ho6
      have HR6 := hide hr6
      have HFR := hide hfr
      have hos : w5.os = w.os ∧ w5.tape = w.tape ∧ w5.output = w.output := ⟨(hgr5.os.trans hal.os).trans HF4.out.keep.os, (hgr5.tape.trans hal.tape).trans HF4.out.keep.tape, (hgr5.output.trans hal.output).trans HF4.out.keep.output⟩
      clear hown5 ho6 hr6 hfr hr5 hgr5 hal hi hz0 hzz1 hzz2 c4 f4
      go_wp2
      go_end0
      refine ⟨rfl, _, w3.heap.size, X, HR6.out, HO6.out, wr, by rw [HMK.out]; exact HF4.out, fun k h1 h2 h3 => (Below.heap_setCell _ _ _ _ h2).trans (HFR.out k h1 h3), by simpa [World.setCell] using hs5, hos.1, hos.2.1, hos.2.2⟩
end Go.Proofs.YtnbccoflcoaoaaaGreat
