import Derived.Test.YtnbccoflcoaoaaaGreatStpA
import Derived.Deep.CutBlock
namespace Go.Proofs.YtnbccoflcoaoaaaGreat
open Go.RowKit Go.Deep
set_option linter.unusedSimpArgs false
set_option linter.unusedVariables false

/-! ### step -/
def StA (w0 w : World) (wb base0 : Nat) (nv tv : Value) (nn : Nat) (nets : Nat → List Int × List A5) (nt : Nat) (tabs : Nat → List (List Int)) (nl nf na np : Nat) : Prop :=
  ∃ P fw fls anss pst, AllS w wb base0 P nl nf na np fw fls anss pst ∧ Below base0 w0 w ∧ fw 0 = nv ∧ fw 3 = tv ∧ ∀ i, i < np → SaidRel nn nets nt tabs (pst i).1 (pst i).2
theorem said_push {nn : Nat} {nets : Nat → List Int × List A5} {nt : Nat} {tabs : Nat → List (List Int)} {np : Nat} {pst : Nat → List Int × List Int} {o s : List Int} (h : ∀ i, i < np → SaidRel nn nets nt tabs (pst i).1 (pst i).2) (hs : SaidRel nn nets nt tabs o s) : ∀ i, i < np + 1 → SaidRel nn nets nt tabs (if i = np then (o, s) else pst i).1 (if i = np then (o, s) else pst i).2 := fun i hi => by
  by_cases e : i = np
  · rw [if_pos e]; exact hs
  · rw [if_neg e]; exact h i (by omega)
theorem opRow (w : World) (o0 o1 o2 o3 : Int) : (w.alloc (.cells #[.int .i64 o0, .int .i64 o1, .int .i64 o2, .int .i64 o3] 39)).rowIs w.heap.size 39 4 (fun i => .int .i64 ([o0, o1, o2, o3].getD i 0)) := by
  have := World.rowIs_alloc w #[.int .i64 o0, .int .i64 o1, .int .i64 o2, .int .i64 o3] 39 (fun i => .int .i64 ([o0, o1, o2, o3].getD i 0)) (fun i hi => by
    match i, hi with
    | 0, _ => rfl
    | 1, _ => rfl
    | 2, _ => rfl
    | 3, _ => rfl)
  simpa using this
theorem toldRow (w : World) (o0 o1 o2 o3 : Int) : (w.alloc (.cells #[.int .i64 o0, .int .i64 o1, .int .i64 o2, .int .i64 o3, .slice none 0 0] 44)).rowIs w.heap.size 44 5 (toldF [o0, o1, o2, o3] (.slice none 0 0)) := by
  have := World.rowIs_alloc w #[.int .i64 o0, .int .i64 o1, .int .i64 o2, .int .i64 o3, .slice none 0 0] 44 (toldF [o0, o1, o2, o3] (.slice none 0 0)) (fun i hi => by
    match i, hi with
    | 0, _ => rfl
    | 1, _ => rfl
    | 2, _ => rfl
    | 3, _ => rfl
    | 4, _ => rfl)
  simpa using this
def netRow (u v : Value) : Nat → Value
  | 0 => u
  | _ => v
theorem netRow_alloc (w : World) (u v : Value) : (w.alloc (.cells #[u, v] 48)).rowIs w.heap.size 48 2 (netRow u v) := by
  have := World.rowIs_alloc w #[u, v] 48 (netRow u v) (fun i hi => by
    match i, hi with
    | 0, _ => rfl
    | 1, _ => rfl)
  simpa using this

/-- Where a step has led to. -/
def StE (w0 w : World) (wb base0 : Nat) (nv tv : Value) (nn : Nat) (nets : Nat → List Int × List A5) (nt : Nat) (tabs : Nat → List (List Int)) (nl nf na np : Nat) : Prop :=
  ∃ nl' nf' na' np', nl' ≤ nl + 4 ∧ nf' ≤ nf + 1 ∧ na' ≤ na + 1 ∧ np' ≤ np + 1 ∧ StA w0 w wb base0 nv tv nn nets nt tabs nl' nf' na' np'
theorem RoomyA.arcs {w : World} {base g gd : Nat} {es : List A5} (h : RoomyA w base (.slice (some ⟨g, 0, none⟩) es.length gd) es) (hn : es.length ≤ 2097152) (hw : ∀ x ∈ es, ∀ j, -9223372036854775808 ≤ x.at j ∧ x.at j ≤ 9223372036854775807) : Arcs w (some ⟨g, 0, none⟩) es.length es := by
  obtain ⟨g', c', e, hown⟩ := h
  cases e
  refine ⟨rfl, by omega, hw, .inr ⟨g, 0, rfl, (hown.lt g rfl).2, fun i hi j hj => ?_⟩⟩
  rw [Nat.zero_add]
  refine own_cell6 hown (i * 5 + j) _ ?_
  rw [arcCells_at _ i j (by simp; omega) hj, List.getD, List.getElem?_append_left hi]
  rfl
theorem RoomyA.blk {w w' : World} {base g gd : Nat} {es : List A5} (h : RoomyA w base (.slice (some ⟨g, 0, none⟩) es.length gd) es) (hk : w'.heap[g]? = w.heap[g]?) : RoomyA w' base (.slice (some ⟨g, 0, none⟩) es.length gd) es := by
  obtain ⟨g', c', e, hown⟩ := h
  cases e
  exact ⟨_, _, rfl, own_blk hown (fun k e => by simp only [Value.ownBlock, Option.some.injEq] at e; subst e; exact hk)⟩
theorem Roomy.blk {w w' : World} {base g gd : Nat} {xs : List Int} (h : Roomy w base (.slice (some ⟨g, 0, none⟩) xs.length gd) xs) (hk : w'.heap[g]? = w.heap[g]?) : Roomy w' base (.slice (some ⟨g, 0, none⟩) xs.length gd) xs := by
  obtain ⟨g', c', e, hown⟩ := h
  cases e
  exact ⟨_, _, rfl, own_blk hown (fun k e => by simp only [Value.ownBlock, Option.some.injEq] at e; subst e; exact hk)⟩
theorem Roomy.ints2 {w : World} {base g gd : Nat} {xs : List Int} (h : Roomy w base (.slice (some ⟨g, 0, none⟩) xs.length gd) xs) (hn : xs.length ≤ 2097152) (hw : ∀ x ∈ xs, -9223372036854775808 ≤ x ∧ x ≤ 9223372036854775807) : Ints w (some ⟨g, 0, none⟩) xs.length xs := by
  obtain ⟨g', c', e, _, _, hI⟩ := h.ints (by omega) hw
  cases e
  exact hI
/-- The end of step's switch. -/
structure SwR (W2 wx : World) (wb tb base0 : Nat) (P : Nat → Prop) (nl nf na np : Nat) (fw : Nat → Value) (pst : Nat → List Int × List Int) (o : List Int) (R : List Int → Prop) (kept : Prop) (nl' nf' na' : Nat) (P' : Nat → Prop) (fw' : Nat → Value) (fls' : Nat → List Int) (anss' : Nat → A6) (s : List Int) (sv : Value) : Prop where
  st : AllS wx wb base0 P' nl' nf' na' np fw' fls' anss' pst
  nl : nl' ≤ nl + 4
  nf : nf' ≤ nf + 1
  na : na' ≤ na + 1
  f0 : fw' 0 = fw 0
  f3 : fw' 3 = fw 3
  new : ∀ b, P' b → P b ∨ W2.heap.size ≤ b
  keep : ∀ k, k < W2.heap.size → (k < base0 ∨ ∃ t, Typed W2 k t ∧ t ≠ 31 ∧ t ≠ 57 ∧ t ≠ 32 ∧ t ≠ 35 ∧ t ≠ 44) → wx.heap[k]? = W2.heap[k]?
  size : W2.heap.size ≤ wx.heap.size
  os : wx.os = W2.os
  tape : wx.tape = W2.tape
  output : wx.output = W2.output
  told : kept → Tld wx tb base0 P' o s sv ∧ (∀ b, sv.ownBlock = some b → W2.heap.size ≤ b) ∧ R s
def SwE (W2 wx : World) (wb tb base0 : Nat) (P : Nat → Prop) (nl nf na np : Nat) (fw : Nat → Value) (pst : Nat → List Int × List Int) (o : List Int) (R : List Int → Prop) (kept : Prop) : Prop :=
  ∃ nl' nf' na' P' fw' fls' anss' s sv, SwR W2 wx wb tb base0 P nl nf na np fw pst o R kept nl' nf' na' P' fw' fls' anss' s sv
theorem SwE.of_below {W2 wx : World} {wb tb base0 : Nat} {P : Nat → Prop} {nl nf na np : Nat} {fw : Nat → Value} {fls : Nat → List Int} {anss : Nat → A6} {pst : Nat → List Int × List Int} {o : List Int} {R : List Int → Prop} {kept : Prop} (h : AllS W2 wb base0 P nl nf na np fw fls anss pst) (hb : Below W2.heap.size W2 wx) (hk : ¬ kept) : SwE W2 wx wb tb base0 P nl nf na np fw pst o R kept :=
  ⟨nl, nf, na, P, fw, fls, anss, [], .slice none 0 0, h.below hb, by omega, by omega, by omega, rfl, rfl, fun _ h => .inl h, fun k k1 _ => hb.block k k1, hb.size, hb.os, hb.tape, hb.output, fun h => absurd h hk⟩
theorem SwE.of_after {W2 wx : World} {wb tb base0 : Nat} {P : Nat → Prop} {nl nf na np : Nat} {fw : Nat → Value} {pst : Nat → List Int × List Int} {o : List Int} {R S : List Int → Prop} {kept : Prop} {nl' nf' na' : Nat} {P' : Nat → Prop} {fw' : Nat → Value} {fls' : Nat → List Int} {anss' : Nat → A6} {s : List Int} {sv : Value} (h : After W2 wx wb tb base0 P nl nf na np fw pst o S nl' nf' na' P' fw' fls' anss' s sv) (hR : ∀ s, S s → R s) : SwE W2 wx wb tb base0 P nl nf na np fw pst o R kept :=
  ⟨nl', nf', na', P', fw', fls', anss', s, sv, h.st, h.nl, h.nf, h.na, h.fw 0 (by decide) (by decide) (by decide), h.fw 3 (by decide) (by decide) (by decide), h.new, h.keep, h.size, h.os, h.tape, h.output, fun _ => ⟨⟨h.told, h.said, fun b e => (h.saidP b e).1, h.len, h.wf⟩, fun b e => (h.saidP b e).2, hR s h.S⟩⟩

set_option maxRecDepth 100000 in
set_option maxHeartbeats 8000000 in
theorem aStep_any (w0 : World) (wb base0 : Nat) (nv tv : Value) (nn : Nat) (nets : Nat → List Int × List A5) (nt : Nat) (tabs : Nat → List (List Int)) (nl nf na np : Nat) (o0 o1 o2 o3 : Int) (w : World)
    (hw0 : w0.heap.size = base0) (hN : NetsAt w0 nv nn nets) (hT : TabsAt w0 tv nt tabs) (hst : StA w0 w wb base0 nv tv nn nets nt tabs nl nf na np) (hnl : nl ≤ 1073741824) (hnf : nf ≤ 1073741824) (hna : na ≤ 1073741824) (hnp : np ≤ 1073741824)
    (ho1 : -9223372036854775808 ≤ o1 ∧ o1 ≤ 9223372036854775807) (ho2 : -9223372036854775808 ≤ o2 ∧ o2 ≤ 9223372036854775807) (ho3 : -9223372036854775808 ≤ o3 ∧ o3 ≤ 9223372036854775807) :
    Calls Tryz.prog 6 #[.pointer (some ⟨wb, 0, none⟩), .agg #[.int .i64 o0, .int .i64 o1, .int .i64 o2, .int .i64 o3]] w fun e w' => e = .returned (.bool true) ∧ StE w0 w' wb base0 nv tv nn nets nt tabs nl nf na np := by
  obtain ⟨P, fw, fls, anss, pst, hS, hB0, e0, e3, hsaid⟩ := hst
  have hwl := hS.lst.box.lt
  have hbw : base0 ≤ w.heap.size := Nat.le_trans hS.lst.wlo (Nat.le_of_lt hwl)
  obtain ⟨W0, hW0⟩ : ∃ W0, (w.alloc (.cells #[.int .i64 o0, .int .i64 o1, .int .i64 o2, .int .i64 o3] 39)).alloc (.cells #[.int .i64 o0, .int .i64 o1, .int .i64 o2, .int .i64 o3, .slice none 0 0] 44) = W0 := ⟨_, rfl⟩
  have hb0 : Below w.heap.size w W0 := by rw [← hW0]; exact Joins.below_alloc2 _ _ _
  have hz0 : W0.heap.size = w.heap.size + 1 + 1 := by rw [← hW0]; simp
  have hop : W0.rowIs w.heap.size 39 4 (fun i => .int .i64 ([o0, o1, o2, o3].getD i 0)) := by rw [← hW0]; exact (opRow w o0 o1 o2 o3).alloc _
  have htd : W0.rowIs (w.heap.size + 1) 44 5 (toldF [o0, o1, o2, o3] (.slice none 0 0)) := by
    rw [← hW0]
    have := toldRow (w.alloc (.cells #[.int .i64 o0, .int .i64 o1, .int .i64 o2, .int .i64 o3] 39)) o0 o1 o2 o3
    simpa using this
  have hS0 := hS.below hb0
  have hB00 : Below base0 w0 W0 := hB0.trans (hb0.mono hbw)
  have hold : Old w0 W0 := ⟨hB00.size, fun k k1 => hB00.block k (by omega)⟩
  have q0 : W0.cell? ⟨w.heap.size, 0, none⟩ = some (.int .i64 o0) := hop.cell (i := 0) (by omega)
  have q1 : W0.cell? ⟨w.heap.size, 1, none⟩ = some (.int .i64 o1) := hop.cell (i := 1) (by omega)
  have q2 : W0.cell? ⟨w.heap.size, 2, none⟩ = some (.int .i64 o2) := hop.cell (i := 2) (by omega)
  have q3 : W0.cell? ⟨w.heap.size, 3, none⟩ = some (.int .i64 o3) := hop.cell (i := 3) (by omega)
  have hpt : ∀ b, (fw 5).ownBlock = some b → b ≠ w.heap.size + 1 := fun b e => by have := (hS.past.ty b e).2.2; omega
  have HS0 := hide hS0
  have HSAID := hide hsaid
  have HTD := hide htd
  have HOP := hide hop
  have HPT := hide hpt
  have HB00 := hide hB00
  have HOLD := hide hold
  have HW0 := hide hW0
  clear hS hS0 hB0 hsaid htd hop hpt hB00 hold hW0
  go_enter Tryz.func6, Tryz.ntmps6
  go_upto_region 2 with fail
  rw [HW0.out]
  clear HW0
  by_cases k7 : o0 = 7
  · subst k7
    have cA : n0 _ := aAssign_any assign_all w0 wb (w.heap.size + 1) base0 nl nt P fw tabs [7, o1, o2, o3] W0 hw0 HOLD.out HS0.out.lst HTD.out (by omega) hnl (by rw [e3]; exact hT) ho1
    go_wp2_with fail
    refine Calls.mono cA.out ?_
    rintro e w1 ⟨rfl, hD⟩
    obtain ⟨nl', nf', na', P', fw', fls', anss', s, sv, hA⟩ := HS0.out.done (row_typed HTD.out) (by omega) HPT.out hD
    have hrel : SaidRel nn nets nt tabs [7, o1, o2, o3] s := .inr (.inr (.inr ⟨rfl, hA.S⟩))
    have cS : n0 _ := steady_st w1 wb (w.heap.size + 1) base0 P' nl' nf' na' np fw' fls' anss' pst [7, o1, o2, o3] s sv hA.st ⟨hA.told, hA.said, fun b h => (hA.saidP b h).1, hA.len, hA.wf⟩ hnp (fun i hi he => (HSAID.out i hi).same hrel he)
    have HA := hide hA
    have HREL := hide hrel
    clear cA hD hA hrel
    go_wp2_with fail
    refine Calls.mono cS.out ?_
    rintro e w2 ⟨rfl, P2, fw2, hS2, hf2, hk2, hs2, hos, htp, hout⟩
    have HD : Hid (StE w0 w2 wb base0 nv tv nn nets nt tabs nl nf na np) := by
      refine ⟨nl', nf', na', np + 1, HA.out.nl, HA.out.nf, HA.out.na, Nat.le_refl _, P2, fw2, fls', anss', _, hS2, ?_, ?_, ?_, said_push HSAID.out HREL.out⟩
      · exact HB00.out.trans ⟨hos.trans HA.out.os, htp.trans HA.out.tape, hout.trans HA.out.output, Nat.le_trans HA.out.size hs2, fun k k1 => (hk2 k k1).trans (HA.out.keep k (by omega) (.inl k1))⟩
      · rw [hf2 0 (by decide), HA.out.fw 0 (by decide) (by decide) (by decide)]; exact e0
      · rw [hf2 3 (by decide), HA.out.fw 3 (by decide) (by decide) (by decide)]; exact e3
    clear cS hS2
    go_wp2
    go_ret
    exact ⟨rfl, HD.out⟩
  · obtain ⟨xa, xc, ev, hnn, hNN⟩ := hN
    have c0 : W0.cell? ⟨wb, 0, none⟩ = some (.slice xa nn xc) := (HS0.out.lst.box.cell (i := 0) (by omega)).trans (by rw [e0, ev])
    have hd7 : (o0 == 7) = false := by simp; omega
    have HE3 := hide e3
    have HEZ := hide e0
    clear ev e0 e3
    by_cases hz : nn = 0
    · subst hz
      have HD : Hid (StE w0 W0 wb base0 nv tv 0 nets nt tabs nl nf na np) := ⟨nl, nf, na, np, by omega, by omega, by omega, by omega, P, fw, fls, anss, pst, HS0.out, HB00.out, HEZ.out, HE3.out, HSAID.out⟩
      go_wp2
      go_ret
      exact ⟨rfl, HD.out⟩
    · have hpos : (0 : Int) < (nn : Int) := by omega
      have hd0 : ((nn : Int) == 0) = false := by simp; omega
      have hpk := pickS_lt o1 (show 0 < nn by omega)
      obtain ⟨oo1, oo2⟩ := ho1
      have cP : n0 (∀ wx, Calls Tryz.prog 10 #[.int .i64 o1, .int .i64 nn] wx fun e w' => e = .returned (.int .i64 (pickS o1 nn)) ∧ w' = wx) := fun wx => aPick_any o1 nn (by omega) (by omega) oo1 oo2 wx
      obtain ⟨b, off, rfl, hbl, hrows⟩ := hNN.resolve_left hz
      obtain ⟨sa, sc, aa, ac, d0, d1, hx0, he0, hsn, han⟩ := hrows _ hpk
      have HREL : Hid (∀ s, (o0 = 4 ∧ SaidSome (nets (pickS o1 nn)).1 (nets (pickS o1 nn)).2 s) ∨ (o0 = 5 ∧ SaidSolve (nets (pickS o1 nn)).1 (nets (pickS o1 nn)).2 s) ∨ (o0 = 6 ∧ SaidMost (nets (pickS o1 nn)).1 (nets (pickS o1 nn)).2 o2 o3 s) → SaidRel nn nets nt tabs [o0, o1, o2, o3] s) := fun s h => h.elim (fun h => .inl h) (fun h => h.elim (fun h => .inr (.inl h)) (fun h => .inr (.inr (.inl h))))
      obtain ⟨pk, hpke⟩ : ∃ p, pickS o1 nn = p := ⟨_, rfl⟩
      rw [hpke] at hpk d0 d1 hx0 he0 hsn han cP HREL
      obtain ⟨xs, hxe⟩ : ∃ xs, (nets pk).1 = xs := ⟨_, rfl⟩
      obtain ⟨es, hee⟩ : ∃ es, (nets pk).2 = es := ⟨_, rfl⟩
      rw [hxe] at d0 hx0 hsn HREL
      rw [hee] at d1 he0 han HREL
      have c1 : W0.cell? ⟨b, off + pk * 2, none⟩ = some (.slice sa xs.length sc) := (HOLD.out.cell hbl).trans d0
      have c2 : W0.cell? ⟨b, off + pk * 2 + 1, none⟩ = some (.slice aa es.length ac) := (HOLD.out.cell hbl).trans d1
      have hbl2 := Nat.lt_of_lt_of_le hbl HOLD.out.size
      have hpk2 : (pk : Int) < (nn : Int) := by omega
      have HX0 := hide hx0
      have HE0 := hide he0
      have HZ0 := hide hz0
      clear hNN hrows d0 d1 hx0 he0 hpke hxe hee hz0
      go_upto_region 8 with fail
      go_cut [8] (fun v wx => v = .pointer (some ⟨W0.heap.size, 0, none⟩) ∧ Below W0.heap.size W0 wx ∧ W0.heap.size < wx.heap.size ∧ wx.rowIs W0.heap.size 48 2 (netRow (.slice sa xs.length sc) (.slice aa es.length ac)))
      case first =>
        go_region_held (fun w' => w'.cell? ⟨wb, 0, none⟩ = some (.slice (some ⟨b, off, none⟩) nn xc) ∧ w'.cell? ⟨w.heap.size, 1, none⟩ = some (.int .i64 o1) ∧ w'.cell? ⟨b, off + pk * 2, none⟩ = some (.slice sa xs.length sc) ∧ w'.cell? ⟨b, off + pk * 2 + 1, none⟩ = some (.slice aa es.length ac)) (go_keep) (first | (go_at_call 10; refine (cP.out _).mono ?_; rintro e w' ⟨rfl, rfl⟩))
        all_goals
          have HH : Hid (Below W0.heap.size W0 (W0.alloc (.cells #[.slice sa xs.length sc, .slice aa es.length ac] 48)).drew ∧ W0.heap.size < (W0.alloc (.cells #[.slice sa xs.length sc, .slice aa es.length ac] 48)).drew.heap.size ∧ (W0.alloc (.cells #[.slice sa xs.length sc, .slice aa es.length ac] 48)).drew.rowIs W0.heap.size 48 2 (netRow (.slice sa xs.length sc) (.slice aa es.length ac))) := ⟨(Joins.below_alloc1 _ _).drew, by show W0.heap.size < (W0.alloc _).heap.size; simp, (netRow_alloc _ _ _).drew⟩
          clear cP
          go_wp2_with fail
          go_meet
          exact ⟨rfl, HH.out⟩
      case rest =>
      obtain ⟨rfl, hb1, hl1, hr8⟩ := hcut
      obtain ⟨w1, hw1⟩ : ∃ w1, wc = w1 := ⟨_, rfl⟩
      rw [hw1] at hb1 hl1 hr8 ⊢
      have n0' := hr8.cell (i := 0) (by omega)
      have n1' := hr8.cell (i := 1) (by omega)
      simp only [netRow] at n0' n1'
      have hold1 := HOLD.out.below hb1
      have cN : n0 _ := aNet_any sa aa xs.length sc es.length ac xs es w1 (HX0.out.old hold1) (HE0.out.old hold1) (by omega) (by omega)
      have HR8 := hide hr8
      have HOLD1 := hide hold1
      clear hw1 cP c1 c2 c0 hr8 hold1 q1 q2 q3 q0 hd0 hpos
      go_wp2_with fail
      refine Calls.mono cN.out ?_
      rintro e w2 ⟨cv, av, rfl, hRo, hRa, hb2⟩
      obtain ⟨gs, gc, ecv, hos⟩ := hRo
      obtain ⟨ga, gd, eav, hoa⟩ := hRa
      have HRS := hide (show Roomy w2 w1.heap.size (.slice (some ⟨gs, 0, none⟩) xs.length gc) xs from ⟨gs, gc, rfl, hos⟩)
      have HRA := hide (show RoomyA w2 w1.heap.size (.slice (some ⟨ga, 0, none⟩) es.length gd) es from ⟨ga, gd, rfl, hoa⟩)
      have HGS := hide (own_typed hos gs rfl)
      have HGA := hide (own_typed hoa ga rfl)
      subst ecv
      subst eav
      clear cN hos hoa n0' n1'
      obtain ⟨W2, hW2⟩ : ∃ W2, w2.alloc (.cells #[.slice (some ⟨gs, 0, none⟩) xs.length gc, .slice (some ⟨ga, 0, none⟩) es.length gd] 48) = W2 := ⟨_, rfl⟩
      have hbW2 : Below w2.heap.size w2 W2 := by rw [← hW2]; exact Joins.below_alloc1 _ _
      have hr9 : W2.rowIs w2.heap.size 48 2 (netRow (.slice (some ⟨gs, 0, none⟩) xs.length gc) (.slice (some ⟨ga, 0, none⟩) es.length gd)) := by rw [← hW2]; exact netRow_alloc _ _ _
      have hzW2 : W2.heap.size = w2.heap.size + 1 := by rw [← hW2]; simp
      have HW2 := hide hW2
      clear hW2
      go_upto_region 11 with fail
      rw [HW2.out]
      clear HW2
      have hs1 := hb1.size
      have hs2 := hb2.size
      have hb02 : Below W0.heap.size W0 W2 := hb1.trans ((hb2.mono hs1).trans (hbW2.mono (by omega)))
      have hb12 : Below w1.heap.size w1 W2 := hb2.trans (hbW2.mono hs2)
      have hS2 := HS0.out.below hb02
      have hz0 := HZ0.out
      have q0 : W2.cell? ⟨w.heap.size, 0, none⟩ = some (.int .i64 o0) := (below_row hb02 HOP.out HOP.out.lt).cell (i := 0) (by omega)
      have q1 : W2.cell? ⟨w.heap.size, 1, none⟩ = some (.int .i64 o1) := (below_row hb02 HOP.out HOP.out.lt).cell (i := 1) (by omega)
      have q2 : W2.cell? ⟨w.heap.size, 2, none⟩ = some (.int .i64 o2) := (below_row hb02 HOP.out HOP.out.lt).cell (i := 2) (by omega)
      have q3 : W2.cell? ⟨w.heap.size, 3, none⟩ = some (.int .i64 o3) := (below_row hb02 HOP.out HOP.out.lt).cell (i := 3) (by omega)
      have n0' : W2.cell? ⟨W0.heap.size, 0, none⟩ = some (.slice sa xs.length sc) := (below_row hb12 HR8.out HR8.out.lt).cell (i := 0) (by omega)
      have n1' : W2.cell? ⟨W0.heap.size, 1, none⟩ = some (.slice aa es.length ac) := (below_row hb12 HR8.out HR8.out.lt).cell (i := 1) (by omega)
      have m0' : W2.cell? ⟨w2.heap.size, 0, none⟩ = some (.slice (some ⟨gs, 0, none⟩) xs.length gc) := hr9.cell (i := 0) (by omega)
      have m1' : W2.cell? ⟨w2.heap.size, 1, none⟩ = some (.slice (some ⟨ga, 0, none⟩) es.length gd) := hr9.cell (i := 1) (by omega)
      have hl8 : W0.heap.size < W2.heap.size := by omega
      have hl9 : w2.heap.size < W2.heap.size := by omega
      have hlo : w.heap.size < W2.heap.size := by omega
      have HTD2 := hide (below_row hb02 HTD.out HTD.out.lt)
      have HX2 := hide ((HX0.out.old HOLD1.out).below hb12)
      have HE2 := hide ((HE0.out.old HOLD1.out).below hb12)
      have HXC := hide ((HRS.out.ints2 hsn HX0.out.wf).below hbW2)
      have HEC := hide ((HRA.out.arcs han HE0.out.wf).below hbW2)
      have HS2 := hide hS2
      have HR9 := hide hr9
      have HTB : Hid (base0 ≤ w.heap.size + 1) := by unfold Hid; omega
      have HZW2 := hide hzW2
      clear hS2 hr9 hz0 hzW2
      go_upto_block 0 with fail
      go_cut [10] (fun v wx => v = .bool true ∧ SwE W2 wx wb (w.heap.size + 1) base0 P nl nf na np fw pst [o0, o1, o2, o3] (SaidRel nn nets nt tabs [o0, o1, o2, o3]) (o0 = 4 ∨ o0 = 5 ∨ o0 = 6))
      case first =>
        by_cases k1 : o0 = 1
        · subst k1
          have cC : n0 _ := check_any (some ⟨gs, 0, none⟩) (some ⟨ga, 0, none⟩) xs.length gc es.length gd xs es W2 HXC.out HEC.out
          go_wp2_with fail
          refine Calls.mono cC.out ?_
          rintro e w3 ⟨rfl, hb3⟩
          have n0w := (below_blk hb3 hl8).trans n0'
          have n1w := (below_blk hb3 hl8).trans n1'
          have cR : n0 _ := refCheck_any sa aa xs.length sc es.length ac xs es w3 (HX2.out.below hb3) (HE2.out.below hb3)
          obtain ⟨C1, hC1⟩ : ∃ C1, (checkS xs es).1 = C1 := ⟨_, rfl⟩
          obtain ⟨C2, hC2⟩ : ∃ C2, (checkS xs es).2 = C2 := ⟨_, rfl⟩
          rw [hC1, hC2] at cR ⊢
          clear cC n0' n1' m0' m1'
          go_wp2_with fail
          refine Calls.mono cR.out ?_
          rintro e w4 ⟨rfl, hb4⟩
          have HSW := hide (SwE.of_below (tb := w.heap.size + 1) (o := [1, o1, o2, o3]) (R := SaidRel nn nets nt tabs [1, o1, o2, o3]) (kept := (1 : Int) = 4 ∨ (1 : Int) = 5 ∨ (1 : Int) = 6) HS2.out (hb3.trans (hb4.mono hb3.size)) (by decide))
          have e1 : (C1 == C1) = true := by simp
          have e2 : (C2 == C2) = true := by simp
          clear cR hb3 hb4
          go_wp2_with fail
          go_meet
          exact ⟨rfl, HSW.out⟩
        · by_cases k2 : o0 = 2
          · subst k2
            obtain ⟨fa, fc, fcs, ef, hown, hfl⟩ := HS2.out.flo.row
            have cC : n0 _ := aCost_any wb base0 P fw fa nf fc fcs fls 2 o1 o2 o3 sa aa (some ⟨gs, 0, none⟩) (some ⟨ga, 0, none⟩) xs.length sc es.length ac gc gd xs es W2 HS2.out.lst.box ef hown (by omega) hfl.flows HS2.out.lst.safe.lt ho2 HX2.out HE2.out HXC.out HEC.out
            clear ef hown hfl
            go_wp2_with fail
            refine Calls.mono cC.out ?_
            rintro e w3 ⟨rfl, hb3⟩
            have HSW := hide (SwE.of_below (tb := w.heap.size + 1) (o := [2, o1, o2, o3]) (R := SaidRel nn nets nt tabs [2, o1, o2, o3]) (kept := (2 : Int) = 4 ∨ (2 : Int) = 5 ∨ (2 : Int) = 6) HS2.out hb3 (by decide))
            clear cC hb3
            go_wp2_with fail
            go_meet
            exact ⟨rfl, HSW.out⟩
          · by_cases k3 : o0 = 3
            · subst k3
              have cC : n0 _ := aAccept_any wb base0 na P fw anss 3 o1 o2 o3 sa aa (some ⟨gs, 0, none⟩) (some ⟨ga, 0, none⟩) xs.length sc es.length ac gc gd xs es W2 HS2.out.lst.box HS2.out.anz hna HS2.out.lst.safe.lt ho2 HX2.out HE2.out HXC.out HEC.out
              go_wp2_with fail
              refine Calls.mono cC.out ?_
              rintro e w3 ⟨rfl, hb3⟩
              have HSW := hide (SwE.of_below (tb := w.heap.size + 1) (o := [3, o1, o2, o3]) (R := SaidRel nn nets nt tabs [3, o1, o2, o3]) (kept := (3 : Int) = 4 ∨ (3 : Int) = 5 ∨ (3 : Int) = 6) HS2.out hb3 (by decide))
              clear cC hb3
              go_wp2_with fail
              go_meet
              exact ⟨rfl, HSW.out⟩
            · by_cases k4 : o0 = 4
              · subst k4
                have HRK : Hid (∀ s, SaidSome xs es s → SaidRel nn nets nt tabs [4, o1, o2, o3] s) := fun s hs => HREL.out s (.inl ⟨rfl, hs⟩)
                have cC : n0 _ := aSome_any some_all wb (w.heap.size + 1) base0 nl P fw [4, o1, o2, o3] sa aa (some ⟨gs, 0, none⟩) (some ⟨ga, 0, none⟩) xs.length sc es.length ac gc gd xs es W2 HS2.out.lst HTD2.out HTB.out hnl HX2.out HE2.out HXC.out HEC.out
                go_wp2_with fail
                refine Calls.mono cC.out ?_
                rintro e w3 ⟨rfl, hD⟩
                obtain ⟨nl', nf', na', P', fw', fls', anss', s, sv, hA⟩ := HS2.out.done (row_typed HTD2.out) HTB.out HPT.out hD
                have HSW := hide (SwE.of_after (R := SaidRel nn nets nt tabs [4, o1, o2, o3]) (kept := (4 : Int) = 4 ∨ (4 : Int) = 5 ∨ (4 : Int) = 6) hA HRK.out)
                clear cC hD hA
                go_wp2_with fail
                go_meet
                exact ⟨rfl, HSW.out⟩
              · by_cases k5 : o0 = 5
                · subst k5
                  have HRK : Hid (∀ s, SaidSolve xs es s → SaidRel nn nets nt tabs [5, o1, o2, o3] s) := fun s hs => HREL.out s (.inr (.inl ⟨rfl, hs⟩))
                  have cC : n0 _ := aSolve_any solve_all wb (w.heap.size + 1) base0 nl nf na P fw fls anss [5, o1, o2, o3] sa aa (some ⟨gs, 0, none⟩) (some ⟨ga, 0, none⟩) xs.length sc es.length ac gc gd xs es W2 HS2.out.lst HS2.out.flo HS2.out.anz HTD2.out HTB.out hnl hnf hna HX2.out HE2.out HXC.out HEC.out
                  go_wp2_with fail
                  refine Calls.mono cC.out ?_
                  rintro e w3 ⟨rfl, hD⟩
                  obtain ⟨nl', nf', na', P', fw', fls', anss', s, sv, hA⟩ := HS2.out.doneS (row_typed HTD2.out) HTB.out HPT.out hD
                  have HSW := hide (SwE.of_after (R := SaidRel nn nets nt tabs [5, o1, o2, o3]) (kept := (5 : Int) = 4 ∨ (5 : Int) = 5 ∨ (5 : Int) = 6) hA HRK.out)
                  clear cC hD hA
                  go_wp2_with fail
                  go_meet
                  exact ⟨rfl, HSW.out⟩
                · by_cases k6 : o0 = 6
                  · subst k6
                    have HRK : Hid (∀ s, SaidMost xs es o2 o3 s → SaidRel nn nets nt tabs [6, o1, o2, o3] s) := fun s hs => HREL.out s (.inr (.inr ⟨rfl, hs⟩))
                    have cC : n0 _ := aMost_any most_all wb (w.heap.size + 1) base0 nl P fw [6, o1, o2, o3] sa aa (some ⟨gs, 0, none⟩) (some ⟨ga, 0, none⟩) xs.length sc es.length ac gc gd xs es W2 HS2.out.lst HTD2.out HTB.out hnl ho2 ho3 HX2.out HE2.out HXC.out HEC.out
                    go_wp2_with fail
                    refine Calls.mono cC.out ?_
                    rintro e w3 ⟨rfl, hD⟩
                    obtain ⟨nl', nf', na', P', fw', fls', anss', s, sv, hA⟩ := HS2.out.done (row_typed HTD2.out) HTB.out HPT.out hD
                    have HSW := hide (SwE.of_after (R := SaidRel nn nets nt tabs [6, o1, o2, o3]) (kept := (6 : Int) = 4 ∨ (6 : Int) = 5 ∨ (6 : Int) = 6) hA HRK.out)
                    clear cC hD hA
                    go_wp2_with fail
                    go_meet
                    exact ⟨rfl, HSW.out⟩
                  · have HSW := hide (SwE.of_below (tb := w.heap.size + 1) (o := [o0, o1, o2, o3]) (R := SaidRel nn nets nt tabs [o0, o1, o2, o3]) (kept := o0 = 4 ∨ o0 = 5 ∨ o0 = 6) HS2.out (Below.refl _ _) (by omega))
                    have j1 : (o0 == 1) = false := by simp; omega
                    have j2 : (o0 == 2) = false := by simp; omega
                    have j3 : (o0 == 3) = false := by simp; omega
                    have j4 : (o0 == 4) = false := by simp; omega
                    have j5 : (o0 == 5) = false := by simp; omega
                    have j6 : (o0 == 6) = false := by simp; omega
                    go_wp2_with fail
                    go_meet
                    exact ⟨rfl, HSW.out⟩
      case rest =>
      obtain ⟨rfl, hSw⟩ := hcut
      obtain ⟨nl', nf', na', P', fw', fls', anss', s, sv, hR⟩ := hSw
      obtain ⟨w3, hw3⟩ : ∃ w3, wc = w3 := ⟨_, rfl⟩
      rw [hw3] at hR ⊢
      have hs3 := hR.size
      have hz0 := HZ0.out
      have hzW2 := HZW2.out
      have kT : ∀ k t, k < W2.heap.size → Typed W2 k t → t ≠ 31 → t ≠ 57 → t ≠ 32 → t ≠ 35 → t ≠ 44 → w3.heap[k]? = W2.heap[k]? := fun k t k1 k2 n1 n2 n3 n4 n5 => hR.keep k k1 (.inr ⟨t, k2, n1, n2, n3, n4, n5⟩)
      have hop2 := below_row hb02 HOP.out HOP.out.lt
      have hr82 := below_row hb12 HR8.out HR8.out.lt
      have hop3 := hop2.of_block (kT _ _ hlo (row_typed hop2) (by decide) (by decide) (by decide) (by decide) (by decide))
      have hr83 := hr82.of_block (kT _ _ hl8 (row_typed hr82) (by decide) (by decide) (by decide) (by decide) (by decide))
      have hr93 := HR9.out.of_block (kT _ _ hl9 (row_typed HR9.out) (by decide) (by decide) (by decide) (by decide) (by decide))
      have n0w := hr83.cell (i := 0) (by omega)
      have n1w := hr83.cell (i := 1) (by omega)
      have m0w := hr93.cell (i := 0) (by omega)
      have m1w := hr93.cell (i := 1) (by omega)
      simp only [netRow] at n0w n1w m0w m1w
      have hgs2 := HGS.out
      have hga2 := HGA.out
      have htS : Typed W2 gs 3 := by
        obtain ⟨c, ec⟩ := hgs2.1
        exact ⟨c, (hbW2.block gs hgs2.2.2).trans ec⟩
      have htA : Typed W2 ga 67 := by
        obtain ⟨c, ec⟩ := hga2.1
        exact ⟨c, (hbW2.block ga hga2.2.2).trans ec⟩
      have kS := kT gs _ (by omega) htS (by decide) (by decide) (by decide) (by decide) (by decide)
      have kA := kT ga _ (by omega) htA (by decide) (by decide) (by decide) (by decide) (by decide)
      have hRS3 : Roomy w3 w1.heap.size (.slice (some ⟨gs, 0, none⟩) xs.length gc) xs := (HRS.out.below hbW2).blk kS
      have hRA3 : RoomyA w3 w1.heap.size (.slice (some ⟨ga, 0, none⟩) es.length gd) es := (HRA.out.blk (hbW2.block ga hga2.2.2)).blk kA
      have hold3 : Old w0 w3 := ((HOLD1.out.below hb2).below hbW2).then hR.size (fun k k1 => hR.keep k (by have := HOLD1.out.size; omega) (.inl (by omega)))
      have cN : n0 _ := aNetStill_free gs gc ga gd sa aa xs.length sc es.length ac w1.heap.size xs es w3 (HX0.out.old hold3) (HE0.out.old hold3) hRS3 hRA3 (fun h b off e => by
        obtain ⟨b', off', e', hl', _⟩ := HE0.out.lies.resolve_left (by omega)
        rw [e] at e'
        cases e'
        have := HOLD1.out.size
        omega) (by omega) (by omega)
      have htS3 : Typed w3 gs 3 := by
        obtain ⟨c, ec⟩ := htS
        exact ⟨c, kS.trans ec⟩
      have htA3 : Typed w3 ga 67 := by
        obtain ⟨c, ec⟩ := htA
        exact ⟨c, kA.trans ec⟩
      have hPlt0 : ∀ b, P b → b < W0.heap.size := HS0.out.lst.safe.lt
      have hnS : ¬ P' gs := fun hp => (hR.new gs hp).elim (fun h => by have := hPlt0 gs h; omega) (fun h => by omega)
      have hnA : ¬ P' ga := fun hp => (hR.new ga hp).elim (fun h => by have := hPlt0 ga h; omega) (fun h => by omega)
      have hRR := hide hR
      have HOP3 := hide hop3
      have HTS3 := hide htS3
      have HTA3 := hide htA3
      clear hw3 hR hop2 hr82 hop3 hr83 hr93 kT kS kA hRS3 hRA3 hold3 htS htA htS3 htA3 q0 q1 q2 q3 n0' n1' m0' m1' hz0 hzW2
      go_wp2_with fail
      refine Calls.mono cN.out ?_
      rintro e w4 ⟨rfl, wm, hg1, hg2⟩
      have hz0 := HZ0.out
      have hzW2 := HZW2.out
      have htAm : Typed wm ga 67 := by
        obtain ⟨c, ec⟩ := HTA3.out
        exact ⟨c, (hg1.block ga (Array.getElem?_eq_some_iff.1 ec).1 (fun e => by
          simp only [Option.some.injEq] at e
          have h1 := HTA3.out
          rw [e] at h1
          exact absurd (h1.uniq HTS3.out) (by decide))).trans ec⟩
      have hS4 := (hRR.out.st.touch hg1 hnS HTS3.out (.inl rfl)).touch hg2 hnA htAm (.inr rfl)
      have hopm := HOP3.out.of_block (hg1.block _ HOP3.out.lt (fun e => by
        simp only [Option.some.injEq] at e
        have h1 := row_typed HOP3.out
        rw [e] at h1
        exact absurd (h1.uniq HTS3.out) (by decide)))
      have hop4 := hopm.of_block (hg2.block _ hopm.lt (fun e => by
        simp only [Option.some.injEq] at e
        have h1 := row_typed hopm
        rw [e] at h1
        exact absurd (h1.uniq htAm) (by decide)))
      have q0 : w4.cell? ⟨w.heap.size, 0, none⟩ = some (.int .i64 o0) := hop4.cell (i := 0) (by omega)
      have hB4 : Below base0 w0 w4 := by
        have h1 : Below base0 w0 W2 := HB00.out.trans (hb02.mono (by omega))
        refine h1.trans ⟨hg2.os.trans (hg1.os.trans hRR.out.os), hg2.tape.trans (hg1.tape.trans hRR.out.tape), hg2.output.trans (hg1.output.trans hRR.out.output), Nat.le_trans hRR.out.size (Nat.le_trans hg1.size hg2.size), fun k k1 => ?_⟩
        have e1 := hg1.size
        refine (hg2.block k (by omega) (fun e => by simp only [Option.some.injEq] at e; omega)).trans ((hg1.block k (by omega) (fun e => by simp only [Option.some.injEq] at e; omega)).trans (hRR.out.keep k (by omega) (.inl k1)))
      have HS4 := hide hS4
      have HB4 := hide hB4
      have HF0 : Hid (fw' 0 = nv) := by unfold Hid; rw [hRR.out.f0]; exact HEZ.out
      have HF3 : Hid (fw' 3 = tv) := by unfold Hid; rw [hRR.out.f3]; exact HE3.out
      have hbl4 := hop4.lt
      by_cases hk : o0 = 4 ∨ o0 = 5 ∨ o0 = 6
      · obtain ⟨hTl, hsv, hSR⟩ := hRR.out.told hk
        have hTl4 := (hTl.touch hg1 HTS3.out (by decide) (fun e => by have := hsv gs e; omega)).touch hg2 htAm (by decide) (fun e => by have := hsv ga e; omega)
        have cS : n0 _ := steady_st w4 wb (w.heap.size + 1) base0 P' nl' nf' na' np fw' fls' anss' pst [o0, o1, o2, o3] s sv hS4 hTl4 hnp (fun i hi he => (HSAID.out i hi).same hSR he)
        have HSR := hide hSR
        clear cN hS4 hB4 hg1 hg2 hop4 hopm htAm hTl hTl4 hsv hSR n0w n1w m0w m1w hnS hnA hPlt0 hz0 hzW2
        rcases hk with rfl | rfl | rfl
        all_goals
          go_wp2_with fail
          refine Calls.mono cS.out ?_
          rintro e w5 ⟨rfl, P2, fw2, hS5, hf2, hk2, hs2', hos, htp, hout⟩
          have HD : Hid (StE w0 w5 wb base0 nv tv nn nets nt tabs nl nf na np) := by
            refine ⟨nl', nf', na', np + 1, hRR.out.nl, hRR.out.nf, hRR.out.na, Nat.le_refl _, P2, fw2, fls', anss', _, hS5, ?_, ?_, ?_, said_push HSAID.out HSR.out⟩
            · exact HB4.out.trans ⟨hos, htp, hout, hs2', hk2⟩
            · rw [hf2 0 (by decide)]; exact HF0.out
            · rw [hf2 3 (by decide)]; exact HF3.out
          clear cS hS5
          go_wp2
          go_ret
          exact ⟨rfl, HD.out⟩
      · have HD : Hid (StE w0 w4 wb base0 nv tv nn nets nt tabs nl nf na np) := ⟨nl', nf', na', np, hRR.out.nl, hRR.out.nf, hRR.out.na, by omega, P', fw', fls', anss', pst, hS4, hB4, HF0.out, HF3.out, HSAID.out⟩
        have j4 : (o0 == 4) = false := by simp; omega
        have j5 : (o0 == 5) = false := by simp; omega
        have j6 : (o0 == 6) = false := by simp; omega
        clear cN hS4 hB4 hg1 hg2 hop4 hopm htAm n0w n1w m0w m1w hnS hnA hPlt0 hz0 hzW2
        go_wp2
        go_ret
        exact ⟨rfl, HD.out⟩
end Go.Proofs.YtnbccoflcoaoaaaGreat
