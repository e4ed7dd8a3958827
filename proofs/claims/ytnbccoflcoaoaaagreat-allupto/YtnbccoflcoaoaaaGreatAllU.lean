import Derived.Test.YtnbccoflcoaoaaaGreatAllW
namespace Go.Proofs.YtnbccoflcoaoaaaGreat
open Go.RowKit Go.Deep
set_option linter.unusedSimpArgs false
set_option linter.unusedVariables false

/-! ### accept -/
theorem own_some6 {w : World} {base : Nat} {e : TypeId} {z : Nat} {v : Value} {m : Nat} {xs : List Value} (h : w.ownsRow base e z v m xs) (hm : 0 < m) : ∃ g c, v = .slice (some ⟨g, 0, none⟩) m c := by
  rcases h.2 with ⟨_, h0⟩ | ⟨g, cap, cur, e1, _⟩
  · omega
  · exact ⟨g, cap, e1⟩
theorem own_cell6 {w : World} {base : Nat} {e : TypeId} {z g n cap : Nat} {xs : List Value} (h : w.ownsRow base e z (.slice (some ⟨g, 0, none⟩) n cap) n xs) (j : Nat) (u : Value) (hj : xs[j]? = some u) : w.cell? ⟨g, j, none⟩ = some u := by
  have hl : j < n * z := by
    have h0 := h.1
    have h1 := (List.getElem?_eq_some_iff.1 hj).1
    omega
  obtain ⟨h0, ⟨_, hn⟩ | ⟨g', cap', cur, e1, a1, a2, a3, a4, a5, a6⟩⟩ := h
  · subst hn; simp at hl
  · cases e1
    rw [← a6, List.getElem?_take_of_lt hl] at hj
    simpa [World.cell?, a2] using hj
theorem drew_heap (w : World) : w.drew.heap = w.heap := rfl
theorem far_set6 (w : World) (b c i : Nat) (v0 v1 v2 v3 v4 v5 : Value) (h : c ≠ b) : ((((((w.setCell ⟨b, 0, none⟩ v0).setCell ⟨b, 1, none⟩ v1).setCell ⟨b, 2, none⟩ v2).setCell ⟨b, 3, none⟩ v3).setCell ⟨b, 4, none⟩ v4).setCell ⟨b, 5, none⟩ v5).drew.cell? ⟨c, i, none⟩ = w.cell? ⟨c, i, none⟩ := by
  refine World.cell?_of_block ?_
  rw [drew_heap, Below.heap_setCell _ _ _ _ h, Below.heap_setCell _ _ _ _ h, Below.heap_setCell _ _ _ _ h, Below.heap_setCell _ _ _ _ h, Below.heap_setCell _ _ _ _ h, Below.heap_setCell _ _ _ _ h]

/-- The answer that is to be held against the net: its box, and its lists, which lie in w. -/
structure AccAt (w wx : World) (b9 : Nat) (kd cs : Int) (fa : Option Addr) (fc : Nat) (pa : Option Addr) (pc : Nat) (ka : Option Addr) (kc : Nat) (ra : Option Addr) (rc : Nat) (fl po cu ci : List Int) : Prop where
  row : wx.rowIs b9 35 6 (ansRow (.int .i64 kd) (.int .i64 cs) (.slice fa fl.length fc) (.slice pa po.length pc) (.slice ka cu.length kc) (.slice ra ci.length rc))
  ans : Ans w fa pa ka ra fl.length po.length cu.length ci.length fl po cu ci
  room : ci.length ≤ rc
  l1 : fl.length ≤ 2097152
  l2 : po.length ≤ 2097152
  l3 : cu.length ≤ 2097152
  l4 : ci.length ≤ 2097152
  at_ : ∀ b off, (fa = some ⟨b, off, none⟩ ∨ pa = some ⟨b, off, none⟩ ∨ ka = some ⟨b, off, none⟩ ∨ ra = some ⟨b, off, none⟩) → b < w.heap.size

set_option maxRecDepth 100000 in
set_option maxHeartbeats 12000000 in
theorem aAccept_any (wb base0 na : Nat) (P : Nat → Prop) (fw : Nat → Value) (anss : Nat → A6) (o0 o1 o2 o3 : Int) (sa aa ca cb : Option Addr) (sn sc an ac cc cd : Nat) (xs : List Int) (es : List A5) (w : World)
    (hbox : w.rowIs wb 31 6 fw) (hanz : Anz w base0 P (fw 2) na anss) (hna : na ≤ 1073741824) (hPlt : ∀ b, P b → b < w.heap.size) (ho : -9223372036854775808 ≤ o2 ∧ o2 ≤ 9223372036854775807)
    (hx : Ints w sa sn xs) (he : Arcs w aa an es) (hxc : Ints w ca sn xs) (hec : Arcs w cb an es) :
    Calls Tryz.prog 15 #[.pointer (some ⟨wb, 0, none⟩), .agg #[.int .i64 o0, .int .i64 o1, .int .i64 o2, .int .i64 o3], .agg #[.slice sa sn sc, .slice aa an ac], .agg #[.slice ca sn cc, .slice cb an cd]] w fun e w' => e = .returned (.bool true) ∧ Below w.heap.size w w' := by
  obtain ⟨W, hW⟩ : ∃ W, ((w.alloc (.cells #[.int .i64 o0, .int .i64 o1, .int .i64 o2, .int .i64 o3] 39)).alloc (.cells #[.slice sa sn sc, .slice aa an ac] 48)).alloc (.cells #[.slice ca sn cc, .slice cb an cd] 48) = W := ⟨_, rfl⟩
  obtain ⟨W0, hW0⟩ : ∃ W0, W.alloc (.cells #[.int .i64 0, .int .i64 0, .slice none 0 0, .slice none 0 0, .slice none 0 0, .slice none 0 0] 35) = W0 := ⟨_, rfl⟩
  have hbW : Below w.heap.size w W := by
    rw [← hW]
    exact (((Below.refl _ _).alloc (Nat.le_refl _) _).alloc (by simp) _).alloc (by simp <;> omega) _
  have hzW : W.heap.size = w.heap.size + 1 + 1 + 1 := by rw [← hW]; simp
  have hb1 : Below W.heap.size W W0 := by rw [← hW0]; exact Joins.below_alloc1 _ _
  have hb0 : Below w.heap.size w W0 := hbW.trans (hb1.mono hbW.size)
  have hz0 : W0.heap.size = w.heap.size + 1 + 1 + 1 + 1 := by rw [← hW0]; simp [hzW]
  have hA := Joins.below_alloc2 (w.alloc (.cells #[.int .i64 o0, .int .i64 o1, .int .i64 o2, .int .i64 o3] 39)) (.cells #[.slice sa sn sc, .slice aa an ac] 48) (.cells #[.slice ca sn cc, .slice cb an cd] 48)
  rw [hW] at hA
  have hB := Joins.below_alloc1 ((w.alloc (.cells #[.int .i64 o0, .int .i64 o1, .int .i64 o2, .int .i64 o3] 39)).alloc (.cells #[.slice sa sn sc, .slice aa an ac] 48)) (.cells #[.slice ca sn cc, .slice cb an cd] 48)
  rw [hW] at hB
  have up : ∀ {b i : Nat}, b < W.heap.size → W0.cell? ⟨b, i, none⟩ = W.cell? ⟨b, i, none⟩ := fun hb => below_blk hb1 hb
  have q2 : W0.cell? ⟨w.heap.size, 2, none⟩ = some (.int .i64 o2) := (up (by omega)).trans ((hA.cell (p := ⟨w.heap.size, 2, none⟩) (by simp)).trans (by simp))
  have n0' : W0.cell? ⟨w.heap.size + 1, 0, none⟩ = some (.slice sa sn sc) := (up (by omega)).trans ((hB.cell (p := ⟨w.heap.size + 1, 0, none⟩) (by simp)).trans (by simp))
  have n1' : W0.cell? ⟨w.heap.size + 1, 1, none⟩ = some (.slice aa an ac) := (up (by omega)).trans ((hB.cell (p := ⟨w.heap.size + 1, 1, none⟩) (by simp)).trans (by simp))
  have m0' : W0.cell? ⟨w.heap.size + 1 + 1, 0, none⟩ = some (.slice ca sn cc) := (up (by omega)).trans (by rw [← hW]; exact cell_new _ _ _ _ _ (by simp) rfl)
  have m1' : W0.cell? ⟨w.heap.size + 1 + 1, 1, none⟩ = some (.slice cb an cd) := (up (by omega)).trans (by rw [← hW]; exact cell_new _ _ _ _ _ (by simp) rfl)
  have hr9 : W0.rowIs W.heap.size 35 6 (ansRow (.int .i64 0) (.int .i64 0) (.slice none 0 0) (.slice none 0 0) (.slice none 0 0) (.slice none 0 0)) := by rw [← hW0]; exact ansRow_alloc _ _ _ _ _ _ _ _
  obtain ⟨ga, gc, acs, eA, hownA, hAt⟩ := hanz.row
  have c2 : W0.cell? ⟨wb, 2, none⟩ = some (.slice ga na gc) := (below_blk hb0 hbox.lt).trans ((hbox.cell (i := 2) (by omega)).trans (by rw [eA]))
  have HX := hide hx
  have HE := hide he
  have HXC := hide hxc
  have HEC := hide hec
  have HR9 := hide hr9
  have HOA := hide hownA
  have HAT := hide hAt
  have HPL := hide hPlt
  have hwl := hbox.lt
  obtain ⟨oo1, oo2⟩ := ho
  rw [← hW] at hW0
  have HW0 := hide hW0
  rw [hzW] at hr9
  clear hx he hxc hec hbox hanz hW0 hA hB up hownA hAt hPlt hW
  go_enter Tryz.func15, Tryz.ntmps15
  go_upto_region 2 with fail
  rw [HW0.out]
  clear HW0
  go_upto_if 24 with fail
  go_cut [] (fun wx => ∃ (kd cs : Int) (fa : Option Addr) (fc : Nat) (pa : Option Addr) (pc : Nat) (ka : Option Addr) (kc : Nat) (ra : Option Addr) (rc : Nat) (fl po cu ci : List Int), AccAt w wx W.heap.size kd cs fa fc pa pc ka kc ra rc fl po cu ci ∧ Below W.heap.size W0 wx)
  case first =>
   by_cases hz : na = 0
   · subst hz
     have HXL : Hid (Ints w none 0 ([] : List Int)) := ⟨rfl, by omega, fun x hx => by simp at hx, .inl rfl⟩
     clear hr9 hz0
     go_wp2_with fail
     go_meet
     exact ⟨0, 0, none, 0, none, 0, none, 0, none, 0, [], [], [], [], ⟨HR9.out, ⟨HXL.out, HXL.out, HXL.out, HXL.out⟩, by simp, by simp, by simp, by simp, by simp, fun b off e => by simp at e⟩, Below.refl _ _⟩
   · have hpos : (0 : Int) < (na : Int) := by omega
     have hpk := pickS_lt o2 (show 0 < na by omega)
     have cP : n0 (∀ w0, Calls Tryz.prog 10 #[.int .i64 o2, .int .i64 na] w0 fun e w' => e = .returned (.int .i64 (pickS o2 na)) ∧ w' = w0) := fun w0 => aPick_any o2 na (by omega) (by omega) oo1 oo2 w0
     obtain ⟨v2, v3, v4, v5, e0, e1, e2, e3, e4, e5, l2, l3, l4, l5⟩ := HAT.out _ hpk
     obtain ⟨g, gz, ega⟩ := own_some6 HOA.out (by omega)
     cases ega
     have hgl : g < w.heap.size := (HOA.out.lt g rfl).2
     have up2 : ∀ {i : Nat}, W0.cell? ⟨g, i, none⟩ = w.cell? ⟨g, i, none⟩ := below_blk hb0 hgl
     have k0 := up2.trans (own_cell6 HOA.out _ _ e0)
     have k1 := up2.trans (own_cell6 HOA.out _ _ e1)
     have k2 := up2.trans (own_cell6 HOA.out _ _ e2)
     have k3 := up2.trans (own_cell6 HOA.out _ _ e3)
     have k4 := up2.trans (own_cell6 HOA.out _ _ e4)
     have k5 := up2.trans (own_cell6 HOA.out _ _ e5)
     obtain ⟨b2, fa, fc, rfl, z2, i2, j2⟩ := l2
     obtain ⟨b3, pa, pc, rfl, z3, i3, j3⟩ := l3
     obtain ⟨b4, ka, kc, rfl, z4, i4, j4⟩ := l4
     obtain ⟨b5, ra, rc, rfl, z5, i5, j5⟩ := l5
     obtain ⟨pk, hpke⟩ : ∃ p, pickS o2 na = p := ⟨_, rfl⟩
     rw [hpke] at hpk k0 k1 k2 k3 k4 k5 cP i2 i3 i4 i5 z5 b2 b3 b4 b5
     have HAT2 : Hid (∀ b off, (fa = some ⟨b, off, none⟩ ∨ pa = some ⟨b, off, none⟩ ∨ ka = some ⟨b, off, none⟩ ∨ ra = some ⟨b, off, none⟩) → b < w.heap.size) := fun b off e => by
       rcases e with e | e | e | e
       · exact HPL.out b (j2 b off e)
       · exact HPL.out b (j3 b off e)
       · exact HPL.out b (j4 b off e)
       · exact HPL.out b (j5 b off e)
     have HLE := hide (show (anss pk).flow.length ≤ 2097152 ∧ (anss pk).pots.length ≤ 2097152 ∧ (anss pk).cut.length ≤ 2097152 ∧ (anss pk).circ.length ≤ 2097152 from ⟨b2, b3, b4, b5⟩)
     have HI := hide (show Ans w fa pa ka ra (anss pk).flow.length (anss pk).pots.length (anss pk).cut.length (anss pk).circ.length (anss pk).flow (anss pk).pots (anss pk).cut (anss pk).circ from ⟨i2, i3, i4, i5⟩)
     have HZ5 := hide z5
     have hpk2 : (pk : Int) < (na : Int) := by omega
     have hd : decide (0 < na) = true := by simp; omega
     obtain ⟨⟨a0, a1, a2, a3, a4, a5⟩, ⟨g0, g1, g2, g3, g4, g5⟩⟩ := row6 hr9
     have HZ0 := hide hz0
     have hne1 : wb ≠ w.heap.size + 1 + 1 + 1 := by omega
     have hne2 : g ≠ w.heap.size + 1 + 1 + 1 := by omega
     have hne5 : w.heap.size ≠ w.heap.size + 1 + 1 + 1 := by omega
     have hne3 : w.heap.size + 1 + 1 + 1 ≠ wb := by omega
     have hne4 : w.heap.size + 1 + 1 + 1 ≠ g := by omega
     have HPUT : Hid (((((((W0.setCell ⟨w.heap.size + 1 + 1 + 1, 0, none⟩ (.int .i64 (anss pk).kind)).setCell ⟨w.heap.size + 1 + 1 + 1, 1, none⟩ (.int .i64 (anss pk).cost)).setCell ⟨w.heap.size + 1 + 1 + 1, 2, none⟩ (.slice fa (anss pk).flow.length fc)).setCell ⟨w.heap.size + 1 + 1 + 1, 3, none⟩ (.slice pa (anss pk).pots.length pc)).setCell ⟨w.heap.size + 1 + 1 + 1, 4, none⟩ (.slice ka (anss pk).cut.length kc)).setCell ⟨w.heap.size + 1 + 1 + 1, 5, none⟩ (.slice ra (anss pk).circ.length rc)).drew.rowIs W.heap.size 35 6 (ansRow (.int .i64 (anss pk).kind) (.int .i64 (anss pk).cost) (.slice fa (anss pk).flow.length fc) (.slice pa (anss pk).pots.length pc) (.slice ka (anss pk).cut.length kc) (.slice ra (anss pk).circ.length rc)) ∧ Below W.heap.size W0 ((((((W0.setCell ⟨w.heap.size + 1 + 1 + 1, 0, none⟩ (.int .i64 (anss pk).kind)).setCell ⟨w.heap.size + 1 + 1 + 1, 1, none⟩ (.int .i64 (anss pk).cost)).setCell ⟨w.heap.size + 1 + 1 + 1, 2, none⟩ (.slice fa (anss pk).flow.length fc)).setCell ⟨w.heap.size + 1 + 1 + 1, 3, none⟩ (.slice pa (anss pk).pots.length pc)).setCell ⟨w.heap.size + 1 + 1 + 1, 4, none⟩ (.slice ka (anss pk).cut.length kc)).setCell ⟨w.heap.size + 1 + 1 + 1, 5, none⟩ (.slice ra (anss pk).circ.length rc)).drew) := by
       rw [hzW]
       refine ⟨World.rowIs.drew (((((((hr9.set 0 _).set 1 _).set 2 _).set 3 _).set 4 _).set 5 _).congr (fun i hi => ?_)), ?_⟩
       · match i, hi with
         | 0, _ => rfl
         | 1, _ => rfl
         | 2, _ => rfl
         | 3, _ => rfl
         | 4, _ => rfl
         | 5, _ => rfl
       · have gg : w.heap.size + 1 + 1 + 1 ≤ w.heap.size + 1 + 1 + 1 := Nat.le_refl _
         exact ((((((((Below.refl _ _).setCell (p := ⟨w.heap.size + 1 + 1 + 1, 0, none⟩) gg _).setCell (p := ⟨w.heap.size + 1 + 1 + 1, 1, none⟩) gg _).setCell (p := ⟨w.heap.size + 1 + 1 + 1, 2, none⟩) gg _).setCell (p := ⟨w.heap.size + 1 + 1 + 1, 3, none⟩) gg _).setCell (p := ⟨w.heap.size + 1 + 1 + 1, 4, none⟩) gg _).setCell (p := ⟨w.heap.size + 1 + 1 + 1, 5, none⟩) gg _)).drew
     clear e0 e1 e2 e3 e4 e5 b2 b3 b4 b5 z2 z3 z4 z5 i2 i3 i4 i5 j2 j3 j4 j5 up2 hpke hr9 hz0
     go_upto_region 3 with fail
     clear n0' n1' m0' m1'
     go_region_held (fun w' => w'.cell? ⟨wb, 2, none⟩ = some (.slice (some ⟨g, 0, none⟩) na gc) ∧ w'.cell? ⟨w.heap.size, 2, none⟩ = some (.int .i64 o2) ∧ w'.cell? ⟨g, pk * 6, none⟩ = some (.int .i64 (anss pk).kind) ∧ w'.cell? ⟨g, pk * 6 + 1, none⟩ = some (.int .i64 (anss pk).cost) ∧ w'.cell? ⟨g, pk * 6 + 2, none⟩ = some (.slice fa (anss pk).flow.length fc) ∧ w'.cell? ⟨g, pk * 6 + 3, none⟩ = some (.slice pa (anss pk).pots.length pc) ∧ w'.cell? ⟨g, pk * 6 + 4, none⟩ = some (.slice ka (anss pk).cut.length kc) ∧ w'.cell? ⟨g, pk * 6 + 5, none⟩ = some (.slice ra (anss pk).circ.length rc)) (first | (go_keep; done) | exact ⟨(far_set6 _ _ _ _ _ _ _ _ _ _ hne1).trans c2, (far_set6 _ _ _ _ _ _ _ _ _ _ hne5).trans q2, (far_set6 _ _ _ _ _ _ _ _ _ _ hne2).trans k0, (far_set6 _ _ _ _ _ _ _ _ _ _ hne2).trans k1, (far_set6 _ _ _ _ _ _ _ _ _ _ hne2).trans k2, (far_set6 _ _ _ _ _ _ _ _ _ _ hne2).trans k3, (far_set6 _ _ _ _ _ _ _ _ _ _ hne2).trans k4, (far_set6 _ _ _ _ _ _ _ _ _ _ hne2).trans k5⟩) (first | (go_at_call 10; refine (cP.out _).mono ?_; rintro e w' ⟨rfl, rfl⟩))
     all_goals
       go_wp2_with fail
       go_meet
       exact ⟨_, _, _, _, _, _, _, _, _, _, _, _, _, _, ⟨HPUT.out.1, HI.out, HZ5.out, HLE.out.1, HLE.out.2.1, HLE.out.2.2.1, HLE.out.2.2.2, HAT2.out⟩, HPUT.out.2⟩
  case rest =>
  obtain ⟨kd, cs, fa, fc, pa, pc, ka, kc, ra, rc, fl, po, cu, ci, hAcc, hB1⟩ := hcut
  obtain ⟨w1, hw1⟩ : ∃ w1, wc = w1 := ⟨_, rfl⟩
  rw [hw1] at hAcc hB1 ⊢
  clear hw1
  have HACC := hide hAcc
  have hrow1 := hAcc.row
  rw [hzW] at hrow1
  have hB2 : Below w.heap.size w w1 := hbW.trans ((hb1.trans hB1).mono hbW.size)
  have HI : Hid (∀ w', Below w1.heap.size w1 w' → Ans w' fa pa ka ra fl.length po.length cu.length ci.length fl po cu ci) := fun w' hb => (hAcc.ans.below hB2).below hb
  have HROW := hide hrow1
  have hb9 := hrow1.lt
  clear hAcc hr9
  go_upto_region 4 with fail
  go_cut [10] (fun s10 wx => NewB w1 wx s10 kd cs fl po cu ci)
  case first =>
    clear q2 n0' n1' m0' m1' c2 hz0 HX HE HXC HEC HR9 HOA HAT HPL hrow1
    refine wp_region_slots (by kernel_rfl) (by kernel_rfl) [10, 39, 40, 41, 42, 43, 44, 45, 46, 47, 48, 49, 50, 51, 52, 53, 54, 55] (fun L s w' => (∀ j, L j → j < 19) ∧ RegU w1 (w.heap.size + 1 + 1 + 1) (ansRow (.int .i64 kd) (.int .i64 cs) (.slice fa fl.length fc) (.slice pa po.length pc) (.slice ka cu.length kc) (.slice ra ci.length rc)) (lsF fl po cu ci) L s w') ?_ ?_ ?_
    · exact fun s => ⟨fun j h => h.elim, RegU.start _ _ _ _ _⟩
    · intro L s w' i hF hcl hi hn hd
      obtain ⟨hlt, hR⟩ := hF
      have hi' : i < 19 := hi
      have hlt2 : ∀ j, (L j ∨ j = i) → j < 19 := fun j h => h.elim (hlt j) (fun e => by omega)
      have h16 : L 16 → ∀ j, j < 16 → L j := fun h => by
        have a1 := hcl 16 h 1 (mem_deps (by kernel_rfl))
        have a3 := hcl 16 h 3 (mem_deps (by kernel_rfl))
        have a6 := hcl 16 h 6 (mem_deps (by kernel_rfl))
        have a9 := hcl 16 h 9 (mem_deps (by kernel_rfl))
        have a12 := hcl 16 h 12 (mem_deps (by kernel_rfl))
        have a15 := hcl 16 h 15 (mem_deps (by kernel_rfl))
        have a0 := hcl 1 a1 0 (mem_deps (by kernel_rfl))
        have a2 := hcl 3 a3 2 (mem_deps (by kernel_rfl))
        have a5 := hcl 6 a6 5 (mem_deps (by kernel_rfl))
        have a4 := hcl 5 a5 4 (mem_deps (by kernel_rfl))
        have a8 := hcl 9 a9 8 (mem_deps (by kernel_rfl))
        have a7 := hcl 8 a8 7 (mem_deps (by kernel_rfl))
        have a11 := hcl 12 a12 11 (mem_deps (by kernel_rfl))
        have a10 := hcl 11 a11 10 (mem_deps (by kernel_rfl))
        have a14 := hcl 15 a15 14 (mem_deps (by kernel_rfl))
        have a13 := hcl 14 a14 13 (mem_deps (by kernel_rfl))
        clear hcl hd
        intro j hj
        have hc : j = 0 ∨ j = 1 ∨ j = 2 ∨ j = 3 ∨ j = 4 ∨ j = 5 ∨ j = 6 ∨ j = 7 ∨ j = 8 ∨ j = 9 ∨ j = 10 ∨ j = 11 ∨ j = 12 ∨ j = 13 ∨ j = 14 ∨ j = 15 := by omega
        rcases hc with rfl | rfl | rfl | rfl | rfl | rfl | rfl | rfl | rfl | rfl | rfl | rfl | rfl | rfl | rfl | rfl <;> assumption
      have h18 : L 18 → L 16 := fun h => hcl 18 h 16 (mem_deps (by kernel_rfl))
      have h17 : L 18 → L 17 := fun h => hcl 18 h 17 (mem_deps (by kernel_rfl))
      obtain ⟨⟨a0, a1, a2, a3, a4, a5⟩, -⟩ := row6 (below_row hR.bel HROW.out hb9)
      have hc : i = 0 ∨ i = 1 ∨ i = 2 ∨ i = 3 ∨ i = 4 ∨ i = 5 ∨ i = 6 ∨ i = 7 ∨ i = 8 ∨ i = 9 ∨ i = 10 ∨ i = 11 ∨ i = 12 ∨ i = 13 ∨ i = 14 ∨ i = 15 ∨ i = 16 ∨ i = 17 ∨ i = 18 := by clear hcl hd; omega
      clear hcl hi hi'
      rcases hc with rfl | rfl | rfl | rfl | rfl | rfl | rfl | rfl | rfl | rfl | rfl | rfl | rfl | rfl | rfl | rfl | rfl | rfl | rfl
      · refine wpOp_step rfl (fun K hK => ?_)
        simp only [withS, List.foldl_cons, List.foldl_nil, List.setIfInBounds_toArray, List.set_cons_zero, List.set_cons_succ, updS, ↓reduceIte, Nat.reduceEqDiff]
        go_simp
        exact hK _ _ ⟨updS s 39 (.pointer (some ⟨w.heap.size + 1 + 1 + 1, 0, none⟩)), by simp only [withS, List.foldl_cons, List.foldl_nil, List.setIfInBounds_toArray, List.set_cons_zero, List.set_cons_succ, updS, ↓reduceIte, Nat.reduceEqDiff], hlt2, hR.step hn h16 h18 (by omega) (Below.refl _ _) (updS_self _ _ _) (fun q _ e => by omega)⟩
      · obtain ⟨s0, rfl⟩ : ∃ s0, s = updS s0 39 (.pointer (some ⟨w.heap.size + 1 + 1 + 1, 0, none⟩)) := ⟨s, updS_same (hR.fac 0 (hd 0 (mem_deps (by kernel_rfl))))⟩
        refine wpOp_step rfl (fun K hK => ?_)
        simp only [withS, List.foldl_cons, List.foldl_nil, List.setIfInBounds_toArray, List.set_cons_zero, List.set_cons_succ, updS, ↓reduceIte, Nat.reduceEqDiff]
        go_simp
        exact hK _ _ ⟨updS (updS s0 39 (.pointer (some ⟨w.heap.size + 1 + 1 + 1, 0, none⟩))) 40 (.int .i64 kd), by simp only [withS, List.foldl_cons, List.foldl_nil, List.setIfInBounds_toArray, List.set_cons_zero, List.set_cons_succ, updS, ↓reduceIte, Nat.reduceEqDiff], hlt2, hR.step hn h16 h18 (by omega) (Below.refl _ _) (updS_self _ _ _) (fun q _ e => by omega)⟩
      · refine wpOp_step rfl (fun K hK => ?_)
        simp only [withS, List.foldl_cons, List.foldl_nil, List.setIfInBounds_toArray, List.set_cons_zero, List.set_cons_succ, updS, ↓reduceIte, Nat.reduceEqDiff]
        go_simp
        exact hK _ _ ⟨updS s 41 (.pointer (some ⟨w.heap.size + 1 + 1 + 1, 1, none⟩)), by simp only [withS, List.foldl_cons, List.foldl_nil, List.setIfInBounds_toArray, List.set_cons_zero, List.set_cons_succ, updS, ↓reduceIte, Nat.reduceEqDiff], hlt2, hR.step hn h16 h18 (by omega) (Below.refl _ _) (updS_self _ _ _) (fun q _ e => by omega)⟩
      · obtain ⟨s0, rfl⟩ : ∃ s0, s = updS s0 41 (.pointer (some ⟨w.heap.size + 1 + 1 + 1, 1, none⟩)) := ⟨s, updS_same (hR.fac 2 (hd 2 (mem_deps (by kernel_rfl))))⟩
        refine wpOp_step rfl (fun K hK => ?_)
        simp only [withS, List.foldl_cons, List.foldl_nil, List.setIfInBounds_toArray, List.set_cons_zero, List.set_cons_succ, updS, ↓reduceIte, Nat.reduceEqDiff]
        go_simp
        exact hK _ _ ⟨updS (updS s0 41 (.pointer (some ⟨w.heap.size + 1 + 1 + 1, 1, none⟩))) 42 (.int .i64 cs), by simp only [withS, List.foldl_cons, List.foldl_nil, List.setIfInBounds_toArray, List.set_cons_zero, List.set_cons_succ, updS, ↓reduceIte, Nat.reduceEqDiff], hlt2, hR.step hn h16 h18 (by omega) (Below.refl _ _) (updS_self _ _ _) (fun q _ e => by omega)⟩
      · refine wpOp_step rfl (fun K hK => ?_)
        simp only [withS, List.foldl_cons, List.foldl_nil, List.setIfInBounds_toArray, List.set_cons_zero, List.set_cons_succ, updS, ↓reduceIte, Nat.reduceEqDiff]
        go_simp
        exact hK _ _ ⟨updS s 43 (.pointer (some ⟨w.heap.size + 1 + 1 + 1, 2, none⟩)), by simp only [withS, List.foldl_cons, List.foldl_nil, List.setIfInBounds_toArray, List.set_cons_zero, List.set_cons_succ, updS, ↓reduceIte, Nat.reduceEqDiff], hlt2, hR.step hn h16 h18 (by omega) (Below.refl _ _) (updS_self _ _ _) (fun q _ e => by omega)⟩
      · obtain ⟨s0, rfl⟩ : ∃ s0, s = updS s0 43 (.pointer (some ⟨w.heap.size + 1 + 1 + 1, 2, none⟩)) := ⟨s, updS_same (hR.fac 4 (hd 4 (mem_deps (by kernel_rfl))))⟩
        refine wpOp_step rfl (fun K hK => ?_)
        simp only [withS, List.foldl_cons, List.foldl_nil, List.setIfInBounds_toArray, List.set_cons_zero, List.set_cons_succ, updS, ↓reduceIte, Nat.reduceEqDiff]
        go_simp
        exact hK _ _ ⟨updS (updS s0 43 (.pointer (some ⟨w.heap.size + 1 + 1 + 1, 2, none⟩))) 44 (.slice fa fl.length fc), by simp only [withS, List.foldl_cons, List.foldl_nil, List.setIfInBounds_toArray, List.set_cons_zero, List.set_cons_succ, updS, ↓reduceIte, Nat.reduceEqDiff], hlt2, hR.step hn h16 h18 (by omega) (Below.refl _ _) (updS_self _ _ _) (fun q _ e => by omega)⟩
      · obtain ⟨s0, rfl⟩ : ∃ s0, s = updS s0 44 (.slice fa fl.length fc) := ⟨s, updS_same (hR.fac 5 (hd 5 (mem_deps (by kernel_rfl))))⟩
        refine wpOp_step rfl (fun K hK => ?_)
        simp only [withS, List.foldl_cons, List.foldl_nil, List.setIfInBounds_toArray, List.set_cons_zero, List.set_cons_succ, updS, ↓reduceIte, Nat.reduceEqDiff]
        go_simp
        refine (roomy_r fa fc fl w' (HI.out w' hR.bel).fl HACC.out.l1).mono ?_
        rintro e w'' ⟨g, z, rfl, hr, hg, hb⟩
        exact hK _ _ ⟨updS (updS s0 44 (.slice fa fl.length fc)) 45 (.slice (some ⟨g, 0, none⟩) fl.length z), by simp only [withS, List.foldl_cons, List.foldl_nil, List.setIfInBounds_toArray, List.set_cons_zero, List.set_cons_succ, updS, ↓reduceIte, Nat.reduceEqDiff], hlt2, hR.step hn h16 h18 (by omega) hb (show RRoom _ _ (updS _ _ _ _) _ from by rw [updS_self]; exact hr.mono hR.bel.size) (fun q _ _ b eb => by simp [Value.ownBlock] at eb; omega)⟩
      · refine wpOp_step rfl (fun K hK => ?_)
        simp only [withS, List.foldl_cons, List.foldl_nil, List.setIfInBounds_toArray, List.set_cons_zero, List.set_cons_succ, updS, ↓reduceIte, Nat.reduceEqDiff]
        go_simp
        exact hK _ _ ⟨updS s 46 (.pointer (some ⟨w.heap.size + 1 + 1 + 1, 3, none⟩)), by simp only [withS, List.foldl_cons, List.foldl_nil, List.setIfInBounds_toArray, List.set_cons_zero, List.set_cons_succ, updS, ↓reduceIte, Nat.reduceEqDiff], hlt2, hR.step hn h16 h18 (by omega) (Below.refl _ _) (updS_self _ _ _) (fun q _ e => by omega)⟩
      · obtain ⟨s0, rfl⟩ : ∃ s0, s = updS s0 46 (.pointer (some ⟨w.heap.size + 1 + 1 + 1, 3, none⟩)) := ⟨s, updS_same (hR.fac 7 (hd 7 (mem_deps (by kernel_rfl))))⟩
        refine wpOp_step rfl (fun K hK => ?_)
        simp only [withS, List.foldl_cons, List.foldl_nil, List.setIfInBounds_toArray, List.set_cons_zero, List.set_cons_succ, updS, ↓reduceIte, Nat.reduceEqDiff]
        go_simp
        exact hK _ _ ⟨updS (updS s0 46 (.pointer (some ⟨w.heap.size + 1 + 1 + 1, 3, none⟩))) 47 (.slice pa po.length pc), by simp only [withS, List.foldl_cons, List.foldl_nil, List.setIfInBounds_toArray, List.set_cons_zero, List.set_cons_succ, updS, ↓reduceIte, Nat.reduceEqDiff], hlt2, hR.step hn h16 h18 (by omega) (Below.refl _ _) (updS_self _ _ _) (fun q _ e => by omega)⟩
      · obtain ⟨s0, rfl⟩ : ∃ s0, s = updS s0 47 (.slice pa po.length pc) := ⟨s, updS_same (hR.fac 8 (hd 8 (mem_deps (by kernel_rfl))))⟩
        refine wpOp_step rfl (fun K hK => ?_)
        simp only [withS, List.foldl_cons, List.foldl_nil, List.setIfInBounds_toArray, List.set_cons_zero, List.set_cons_succ, updS, ↓reduceIte, Nat.reduceEqDiff]
        go_simp
        refine (roomy_r pa pc po w' (HI.out w' hR.bel).po HACC.out.l2).mono ?_
        rintro e w'' ⟨g, z, rfl, hr, hg, hb⟩
        exact hK _ _ ⟨updS (updS s0 47 (.slice pa po.length pc)) 48 (.slice (some ⟨g, 0, none⟩) po.length z), by simp only [withS, List.foldl_cons, List.foldl_nil, List.setIfInBounds_toArray, List.set_cons_zero, List.set_cons_succ, updS, ↓reduceIte, Nat.reduceEqDiff], hlt2, hR.step hn h16 h18 (by omega) hb (show RRoom _ _ (updS _ _ _ _) _ from by rw [updS_self]; exact hr.mono hR.bel.size) (fun q _ _ b eb => by simp [Value.ownBlock] at eb; omega)⟩
      · refine wpOp_step rfl (fun K hK => ?_)
        simp only [withS, List.foldl_cons, List.foldl_nil, List.setIfInBounds_toArray, List.set_cons_zero, List.set_cons_succ, updS, ↓reduceIte, Nat.reduceEqDiff]
        go_simp
        exact hK _ _ ⟨updS s 49 (.pointer (some ⟨w.heap.size + 1 + 1 + 1, 4, none⟩)), by simp only [withS, List.foldl_cons, List.foldl_nil, List.setIfInBounds_toArray, List.set_cons_zero, List.set_cons_succ, updS, ↓reduceIte, Nat.reduceEqDiff], hlt2, hR.step hn h16 h18 (by omega) (Below.refl _ _) (updS_self _ _ _) (fun q _ e => by omega)⟩
      · obtain ⟨s0, rfl⟩ : ∃ s0, s = updS s0 49 (.pointer (some ⟨w.heap.size + 1 + 1 + 1, 4, none⟩)) := ⟨s, updS_same (hR.fac 10 (hd 10 (mem_deps (by kernel_rfl))))⟩
        refine wpOp_step rfl (fun K hK => ?_)
        simp only [withS, List.foldl_cons, List.foldl_nil, List.setIfInBounds_toArray, List.set_cons_zero, List.set_cons_succ, updS, ↓reduceIte, Nat.reduceEqDiff]
        go_simp
        exact hK _ _ ⟨updS (updS s0 49 (.pointer (some ⟨w.heap.size + 1 + 1 + 1, 4, none⟩))) 50 (.slice ka cu.length kc), by simp only [withS, List.foldl_cons, List.foldl_nil, List.setIfInBounds_toArray, List.set_cons_zero, List.set_cons_succ, updS, ↓reduceIte, Nat.reduceEqDiff], hlt2, hR.step hn h16 h18 (by omega) (Below.refl _ _) (updS_self _ _ _) (fun q _ e => by omega)⟩
      · obtain ⟨s0, rfl⟩ : ∃ s0, s = updS s0 50 (.slice ka cu.length kc) := ⟨s, updS_same (hR.fac 11 (hd 11 (mem_deps (by kernel_rfl))))⟩
        refine wpOp_step rfl (fun K hK => ?_)
        simp only [withS, List.foldl_cons, List.foldl_nil, List.setIfInBounds_toArray, List.set_cons_zero, List.set_cons_succ, updS, ↓reduceIte, Nat.reduceEqDiff]
        go_simp
        refine (roomy_r ka kc cu w' (HI.out w' hR.bel).cu HACC.out.l3).mono ?_
        rintro e w'' ⟨g, z, rfl, hr, hg, hb⟩
        exact hK _ _ ⟨updS (updS s0 50 (.slice ka cu.length kc)) 51 (.slice (some ⟨g, 0, none⟩) cu.length z), by simp only [withS, List.foldl_cons, List.foldl_nil, List.setIfInBounds_toArray, List.set_cons_zero, List.set_cons_succ, updS, ↓reduceIte, Nat.reduceEqDiff], hlt2, hR.step hn h16 h18 (by omega) hb (show RRoom _ _ (updS _ _ _ _) _ from by rw [updS_self]; exact hr.mono hR.bel.size) (fun q _ _ b eb => by simp [Value.ownBlock] at eb; omega)⟩
      · refine wpOp_step rfl (fun K hK => ?_)
        simp only [withS, List.foldl_cons, List.foldl_nil, List.setIfInBounds_toArray, List.set_cons_zero, List.set_cons_succ, updS, ↓reduceIte, Nat.reduceEqDiff]
        go_simp
        exact hK _ _ ⟨updS s 52 (.pointer (some ⟨w.heap.size + 1 + 1 + 1, 5, none⟩)), by simp only [withS, List.foldl_cons, List.foldl_nil, List.setIfInBounds_toArray, List.set_cons_zero, List.set_cons_succ, updS, ↓reduceIte, Nat.reduceEqDiff], hlt2, hR.step hn h16 h18 (by omega) (Below.refl _ _) (updS_self _ _ _) (fun q _ e => by omega)⟩
      · obtain ⟨s0, rfl⟩ : ∃ s0, s = updS s0 52 (.pointer (some ⟨w.heap.size + 1 + 1 + 1, 5, none⟩)) := ⟨s, updS_same (hR.fac 13 (hd 13 (mem_deps (by kernel_rfl))))⟩
        refine wpOp_step rfl (fun K hK => ?_)
        simp only [withS, List.foldl_cons, List.foldl_nil, List.setIfInBounds_toArray, List.set_cons_zero, List.set_cons_succ, updS, ↓reduceIte, Nat.reduceEqDiff]
        go_simp
        exact hK _ _ ⟨updS (updS s0 52 (.pointer (some ⟨w.heap.size + 1 + 1 + 1, 5, none⟩))) 53 (.slice ra ci.length rc), by simp only [withS, List.foldl_cons, List.foldl_nil, List.setIfInBounds_toArray, List.set_cons_zero, List.set_cons_succ, updS, ↓reduceIte, Nat.reduceEqDiff], hlt2, hR.step hn h16 h18 (by omega) (Below.refl _ _) (updS_self _ _ _) (fun q _ e => by omega)⟩
      · obtain ⟨s0, rfl⟩ : ∃ s0, s = updS s0 53 (.slice ra ci.length rc) := ⟨s, updS_same (hR.fac 14 (hd 14 (mem_deps (by kernel_rfl))))⟩
        refine wpOp_step rfl (fun K hK => ?_)
        simp only [withS, List.foldl_cons, List.foldl_nil, List.setIfInBounds_toArray, List.set_cons_zero, List.set_cons_succ, updS, ↓reduceIte, Nat.reduceEqDiff]
        go_simp
        refine (roomy_r ra rc ci w' (HI.out w' hR.bel).ci HACC.out.l4).mono ?_
        rintro e w'' ⟨g, z, rfl, hr, hg, hb⟩
        exact hK _ _ ⟨updS (updS s0 53 (.slice ra ci.length rc)) 54 (.slice (some ⟨g, 0, none⟩) ci.length z), by simp only [withS, List.foldl_cons, List.foldl_nil, List.setIfInBounds_toArray, List.set_cons_zero, List.set_cons_succ, updS, ↓reduceIte, Nat.reduceEqDiff], hlt2, hR.step hn h16 h18 (by omega) hb (show RRoom _ _ (updS _ _ _ _) _ from by rw [updS_self]; exact hr.mono hR.bel.size) (fun q _ _ b eb => by simp [Value.ownBlock] at eb; omega)⟩
      · have L1 := hd 1 (mem_deps (by kernel_rfl))
        have L3 := hd 3 (mem_deps (by kernel_rfl))
        have L6 := hd 6 (mem_deps (by kernel_rfl))
        have L9 := hd 9 (mem_deps (by kernel_rfl))
        have L12 := hd 12 (mem_deps (by kernel_rfl))
        have L15 := hd 15 (mem_deps (by kernel_rfl))
        have e40 : s 40 = .int .i64 kd := hR.fac 1 L1
        have e42 : s 42 = .int .i64 cs := hR.fac 3 L3
        obtain ⟨gF, zF, e45⟩ : ∃ g z, s 45 = .slice (some ⟨g, 0, none⟩) fl.length z := RRoom.open_ (hR.fac 6 L6)
        obtain ⟨gP, zP, e48⟩ : ∃ g z, s 48 = .slice (some ⟨g, 0, none⟩) po.length z := RRoom.open_ (hR.fac 9 L9)
        obtain ⟨gC, zC, e51⟩ : ∃ g z, s 51 = .slice (some ⟨g, 0, none⟩) cu.length z := RRoom.open_ (hR.fac 12 L12)
        obtain ⟨gR, zR, e54⟩ : ∃ g z, s 54 = .slice (some ⟨g, 0, none⟩) ci.length z := RRoom.open_ (hR.fac 15 L15)
        obtain ⟨s0, rfl⟩ : ∃ s0, s = (updS (updS (updS (updS (updS (updS s0 40 (.int .i64 kd)) 42 (.int .i64 cs)) 45 (.slice (some ⟨gF, 0, none⟩) fl.length zF)) 48 (.slice (some ⟨gP, 0, none⟩) po.length zP)) 51 (.slice (some ⟨gC, 0, none⟩) cu.length zC)) 54 (.slice (some ⟨gR, 0, none⟩) ci.length zR)) := ⟨s, by rw [← updS_same e40, ← updS_same e42, ← updS_same e45, ← updS_same e48, ← updS_same e51, ← updS_same e54]⟩
        clear e40 e42 e45 e48 e51 e54
        refine wpOp_step rfl (fun K hK => ?_)
        simp only [withS, List.foldl_cons, List.foldl_nil, List.setIfInBounds_toArray, List.set_cons_zero, List.set_cons_succ, updS, ↓reduceIte, Nat.reduceEqDiff]
        go_simp
        exact hK _ _ ⟨updS (updS (updS (updS (updS (updS (updS s0 40 (.int .i64 kd)) 42 (.int .i64 cs)) 45 (.slice (some ⟨gF, 0, none⟩) fl.length zF)) 48 (.slice (some ⟨gP, 0, none⟩) po.length zP)) 51 (.slice (some ⟨gC, 0, none⟩) cu.length zC)) 54 (.slice (some ⟨gR, 0, none⟩) ci.length zR)) 55 (.agg #[.int .i64 kd, .int .i64 cs, .slice (some ⟨gF, 0, none⟩) fl.length zF, .slice (some ⟨gP, 0, none⟩) po.length zP, .slice (some ⟨gC, 0, none⟩) cu.length zC, .slice (some ⟨gR, 0, none⟩) ci.length zR]), by simp only [withS, List.foldl_cons, List.foldl_nil, List.setIfInBounds_toArray, List.set_cons_zero, List.set_cons_succ, updS, ↓reduceIte, Nat.reduceEqDiff], hlt2, hR.build hn h18 rfl⟩
      · refine wpOp_step rfl (fun K hK => ?_)
        simp only [withS, List.foldl_cons, List.foldl_nil, List.setIfInBounds_toArray, List.set_cons_zero, List.set_cons_succ, updS, ↓reduceIte, Nat.reduceEqDiff]
        go_simp
        exact hK _ _ ⟨updS s 10 (.pointer (some ⟨w'.heap.size, 0, none⟩)), by simp only [withS, List.foldl_cons, List.foldl_nil, List.setIfInBounds_toArray, List.set_cons_zero, List.set_cons_succ, updS, ↓reduceIte, Nat.reduceEqDiff], hlt2, hR.box hn h17 _ _ _ _ _ _⟩
      · have L16 := hd 16 (mem_deps (by kernel_rfl))
        have L17 := hd 17 (mem_deps (by kernel_rfl))
        have L1 := h16 L16 1 (by omega)
        have L3 := h16 L16 3 (by omega)
        have L6 := h16 L16 6 (by omega)
        have L9 := h16 L16 9 (by omega)
        have L12 := h16 L16 12 (by omega)
        have L15 := h16 L16 15 (by omega)
        obtain ⟨gF, zF, e45⟩ : ∃ g z, s 45 = .slice (some ⟨g, 0, none⟩) fl.length z := RRoom.open_ (hR.fac 6 L6)
        obtain ⟨gP, zP, e48⟩ : ∃ g z, s 48 = .slice (some ⟨g, 0, none⟩) po.length z := RRoom.open_ (hR.fac 9 L9)
        obtain ⟨gC, zC, e51⟩ : ∃ g z, s 51 = .slice (some ⟨g, 0, none⟩) cu.length z := RRoom.open_ (hR.fac 12 L12)
        obtain ⟨gR, zR, e54⟩ : ∃ g z, s 54 = .slice (some ⟨g, 0, none⟩) ci.length z := RRoom.open_ (hR.fac 15 L15)
        have e55 : s 55 = (.agg #[.int .i64 kd, .int .i64 cs, .slice (some ⟨gF, 0, none⟩) fl.length zF, .slice (some ⟨gP, 0, none⟩) po.length zP, .slice (some ⟨gC, 0, none⟩) cu.length zC, .slice (some ⟨gR, 0, none⟩) ci.length zR]) := by
          have h := hR.fac 16 L16
          simp only [FU, e45, e48, e51, e54] at h
          exact h
        obtain ⟨b, e10, hbb, f, hf⟩ := hR.fac 17 L17
        obtain ⟨s0, rfl⟩ : ∃ s0, s = (updS (updS (updS (updS (updS (updS s0 45 (.slice (some ⟨gF, 0, none⟩) fl.length zF)) 48 (.slice (some ⟨gP, 0, none⟩) po.length zP)) 51 (.slice (some ⟨gC, 0, none⟩) cu.length zC)) 54 (.slice (some ⟨gR, 0, none⟩) ci.length zR)) 55 (.agg #[.int .i64 kd, .int .i64 cs, .slice (some ⟨gF, 0, none⟩) fl.length zF, .slice (some ⟨gP, 0, none⟩) po.length zP, .slice (some ⟨gC, 0, none⟩) cu.length zC, .slice (some ⟨gR, 0, none⟩) ci.length zR])) 10 (.pointer (some ⟨b, 0, none⟩))) := ⟨s, by rw [← updS_same e45, ← updS_same e48, ← updS_same e51, ← updS_same e54, ← updS_same e55, ← updS_same e10]⟩
        clear e45 e48 e51 e54 e55 e10
        have k0 := hf.cell (i := 0) (by omega)
        have k1 := hf.cell (i := 1) (by omega)
        have k2 := hf.cell (i := 2) (by omega)
        have k3 := hf.cell (i := 3) (by omega)
        have k4 := hf.cell (i := 4) (by omega)
        have k5 := hf.cell (i := 5) (by omega)
        have q0 := hf.frozen 0
        have q1 := hf.frozen 1
        have q2 := hf.frozen 2
        have q3 := hf.frozen 3
        have q4 := hf.frozen 4
        have q5 := hf.frozen 5
        have hbl := hf.lt
        have HP := hide (hR.put hn hlt hbb hf rfl)
        clear hf
        refine wpOp_step rfl (fun K hK => ?_)
        simp only [withS, List.foldl_cons, List.foldl_nil, List.setIfInBounds_toArray, List.set_cons_zero, List.set_cons_succ, updS, ↓reduceIte, Nat.reduceEqDiff]
        go_simp
        exact hK _ _ ⟨(updS (updS (updS (updS (updS (updS s0 45 (.slice (some ⟨gF, 0, none⟩) fl.length zF)) 48 (.slice (some ⟨gP, 0, none⟩) po.length zP)) 51 (.slice (some ⟨gC, 0, none⟩) cu.length zC)) 54 (.slice (some ⟨gR, 0, none⟩) ci.length zR)) 55 (.agg #[.int .i64 kd, .int .i64 cs, .slice (some ⟨gF, 0, none⟩) fl.length zF, .slice (some ⟨gP, 0, none⟩) po.length zP, .slice (some ⟨gC, 0, none⟩) cu.length zC, .slice (some ⟨gR, 0, none⟩) ci.length zR])) 10 (.pointer (some ⟨b, 0, none⟩))), by simp only [withS, List.foldl_cons, List.foldl_nil, List.setIfInBounds_toArray, List.set_cons_zero, List.set_cons_succ, updS, ↓reduceIte, Nat.reduceEqDiff], hlt2, HP.out⟩
    · rintro L s w' ⟨hlt, hR⟩ hall
      have hN := hide (hR.fin hall)
      simp only [withS, List.foldl_cons, List.foldl_nil, List.setIfInBounds_toArray, List.set_cons_zero, List.set_cons_succ]
      go_wp2_with fail
      go_meet
      exact hN.out
  case rest =>
  obtain ⟨b, vF, vP, vC, vR, rfl, hbb, hrB, ⟨rF, rP, rC, rR⟩, ⟨p12, p13, p14, p23, p24, p34⟩, hBc⟩ := hcut
  obtain ⟨w2, hw2⟩ : ∃ w2, wc = w2 := ⟨_, rfl⟩
  rw [hw2] at hrB rF rP rC rR hBc ⊢
  clear hw2
  obtain ⟨gF, zF, rfl⟩ := rF.open_
  obtain ⟨gP, zP, rfl⟩ := rP.open_
  obtain ⟨gC, zC, rfl⟩ := rC.open_
  obtain ⟨gR, zR, rfl⟩ := rR.open_
  simp only [Value.ownBlock, ne_eq, Option.some.injEq] at p12 p13 p14 p23 p24 p34
  have hgF := (rF.typed gF rfl).2.1
  have hgP := (rP.typed gP rfl).2.1
  have hgC := (rC.typed gC rfl).2.1
  have hgR := (rR.typed gR rfl).2.1
  have hs1 := hB1.size
  have hs2 := hBc.size
  have hBw2 : Below w.heap.size w w2 := hB2.trans (hBc.mono hB2.size)
  have m0 := (below_blk hBc (show w.heap.size + 1 + 1 < w1.heap.size by omega)).trans ((below_blk hB1 (show w.heap.size + 1 + 1 < W.heap.size by omega)).trans m0')
  have m1 := (below_blk hBc (show w.heap.size + 1 + 1 < w1.heap.size by omega)).trans ((below_blk hB1 (show w.heap.size + 1 + 1 < W.heap.size by omega)).trans m1')
  have n0w := (below_blk hB1 (show w.heap.size + 1 < W.heap.size by omega)).trans n0'
  have n1w := (below_blk hB1 (show w.heap.size + 1 < W.heap.size by omega)).trans n1'
  have HRF := hide rF
  have HRP := hide rP
  have HRC := hide rC
  have HRR := hide rR
  have HRB := hide hrB
  have hl1 := HACC.out.l1
  have hl2 := HACC.out.l2
  have hl3 := HACC.out.l3
  have hl4 := HACC.out.l4
  have HAN2 : Hid (Ans w2 (some ⟨gF, 0, none⟩) (some ⟨gP, 0, none⟩) (some ⟨gC, 0, none⟩) (some ⟨gR, 0, none⟩) fl.length po.length cu.length ci.length fl po cu ci) := ⟨rF.ints hl1 HACC.out.ans.fl.wf, rP.ints hl2 HACC.out.ans.po.wf, rC.ints hl3 HACC.out.ans.cu.wf, rR.ints hl4 HACC.out.ans.ci.wf⟩
  obtain ⟨⟨c0, c1, c2', c3, c4, c5⟩, -⟩ := row6 hrB
  have cA : n0 (Calls Tryz.prog 32 #[.agg #[.slice ca sn cc, .slice cb an cd], .agg #[.int .i64 kd, .int .i64 cs, .slice (some ⟨gF, 0, none⟩) fl.length zF, .slice (some ⟨gP, 0, none⟩) po.length zP, .slice (some ⟨gC, 0, none⟩) cu.length zC, .slice (some ⟨gR, 0, none⟩) ci.length zR]] w2 fun e w' => e = .returned (.tuple #[.bool (accS xs es ⟨kd, cs, fl, po, cu, ci⟩).1, .int .i64 (accS xs es ⟨kd, cs, fl, po, cu, ci⟩).2]) ∧ Below w2.heap.size w2 w') :=
    accept_any ca cb _ _ _ _ sn cc an cd _ _ _ _ _ _ _ _ kd cs xs es fl po cu ci w2 (HXC.out.below hBw2) (HEC.out.below hBw2) HAN2.out
  obtain ⟨A1, hA1⟩ : ∃ A1, (accS xs es ⟨kd, cs, fl, po, cu, ci⟩).1 = A1 := ⟨_, rfl⟩
  obtain ⟨A2, hA2⟩ : ∃ A2, (accS xs es ⟨kd, cs, fl, po, cu, ci⟩).2 = A2 := ⟨_, rfl⟩
  rw [hA1, hA2] at cA
  clear rF rP rC rR hrB m0' m1' n0' n1' q2 c2 hrow1 hb9 HR9 HOA HAT HPL
  go_wp2_with fail
  refine Calls.mono cA.out ?_
  rintro e w3 ⟨rfl, hb3⟩
  have hs3 := hb3.size
  have hBw3 : Below w.heap.size w w3 := hBw2.trans (hb3.mono hBw2.size)
  have hB13 : Below w1.heap.size w1 w3 := hBc.trans (hb3.mono hBc.size)
  have n0 := (below_blk hB13 (show w.heap.size + 1 < w1.heap.size by omega)).trans n0w
  have n1 := (below_blk hB13 (show w.heap.size + 1 < w1.heap.size by omega)).trans n1w
  obtain ⟨⟨a0, a1, a2, a3, a4, a5⟩, -⟩ := row6 (below_row hB13 HROW.out HROW.out.lt)
  clear cA m0 m1 c0 c1 c2' c3 c4 c5 n0w n1w
  have cB : Go.Proofs.YtnbccoflcoaoaaaGreat.n0 (Calls Tryz.prog 33 #[.agg #[.slice sa sn sc, .slice aa an ac], .agg #[.int .i64 kd, .int .i64 cs, .slice fa fl.length fc, .slice pa po.length pc, .slice ka cu.length kc, .slice ra ci.length rc]] w3 fun e w' => e = .returned (.tuple #[.bool (accS xs es ⟨kd, cs, fl, po, cu, ci⟩).1, .int .i64 (accS xs es ⟨kd, cs, fl, po, cu, ci⟩).2]) ∧ Below w3.heap.size w3 w') :=
    refAccept_any sa aa fa pa ka ra sn sc an ac _ fc _ pc _ kc _ rc kd cs xs es fl po cu ci w3 (HX.out.below hBw3) (HE.out.below hBw3) (HI.out w3 hB13) HACC.out.room
  rw [hA1, hA2] at cB
  go_wp2_with fail
  refine Calls.mono cB.out ?_
  rintro e w4 ⟨rfl, hb4⟩
  have hs4 := hb4.size
  have hB14 : Below w1.heap.size w1 w4 := hB13.trans (hb4.mono hB13.size)
  have hb24 : Below w2.heap.size w2 w4 := hb3.trans (hb4.mono hb3.size)
  have rF4 := HRF.out.below hb24
  have rP4 := HRP.out.below hb24
  have rC4 := HRC.out.below hb24
  have rR4 := HRR.out.below hb24
  have hrB4 := below_row hb24 HRB.out HRB.out.lt
  clear cB n0 n1 a0 a1 a2 a3 a4 a5 HRF HRP HRC HRR HRB
  obtain ⟨⟨a0, a1, a2, a3, a4, a5⟩, -⟩ := row6 (below_row hB14 HROW.out HROW.out.lt)
  obtain ⟨⟨c0, c1, c2, c3, c4, c5⟩, -⟩ := row6 hrB4
  have cS : n0 (Calls Tryz.prog 26 #[.slice (some ⟨gF, 0, none⟩) fl.length zF, .slice fa fl.length fc] w4 fun e w' => e = .returned (.bool true) ∧ w4.grownBy w' (some gF)) :=
    aStill_any gF zF fa fl.length fc w1.heap.size fl w4 (HI.out w4 hB14).fl rF4.roomy (fun b off e => by have := HACC.out.at_ b off (.inl e); have := hB2.size; omega) (by omega)
  have HB := hide hrB4
  have hTF := (rF4.typed gF rfl).1
  have HP := hide rP4
  have HC := hide rC4
  have HR := hide rR4
  clear hrB4 rF4 rP4 rC4 rR4
  go_wp2_with fail
  refine Calls.mono cS.out ?_
  rintro e w5 ⟨rfl, hg⟩
  have hB15 : Below w1.heap.size w1 w5 := hB14.grown hg hB14.size (fun k e => by cases e; exact hgF)
  have hne : b ≠ gF := fun e => by
    have h1 := row_typed HB.out
    rw [e] at h1
    exact absurd (h1.uniq hTF) (by decide)
  have hrB5 := HB.out.of_block (hg.block b HB.out.lt (fun e => hne (by simpa using e)))
  have rP5 := HP.out.blk hg.size (fun k e => hg.block k (HP.out.typed k e).2.2 (fun e2 => by
    simp only [Value.ownBlock, Option.some.injEq] at e e2
    exact p12 (by omega)))
  have rC5 := HC.out.blk hg.size (fun k e => hg.block k (HC.out.typed k e).2.2 (fun e2 => by
    simp only [Value.ownBlock, Option.some.injEq] at e e2
    exact p13 (by omega)))
  have rR5 := HR.out.blk hg.size (fun k e => hg.block k (HR.out.typed k e).2.2 (fun e2 => by
    simp only [Value.ownBlock, Option.some.injEq] at e e2
    exact p14 (by omega)))
  clear cS hg HB hne a0 a1 a2 a3 a4 a5 c0 c1 c2 c3 c4 c5 hTF HP HC HR
  obtain ⟨⟨a0, a1, a2, a3, a4, a5⟩, -⟩ := row6 (below_row hB15 HROW.out HROW.out.lt)
  obtain ⟨⟨c0, c1, c2, c3, c4, c5⟩, -⟩ := row6 hrB5
  have cS : n0 (Calls Tryz.prog 26 #[.slice (some ⟨gP, 0, none⟩) po.length zP, .slice pa po.length pc] w5 fun e w' => e = .returned (.bool true) ∧ w5.grownBy w' (some gP)) :=
    aStill_any gP zP pa po.length pc w1.heap.size po w5 (HI.out w5 hB15).po rP5.roomy (fun b off e => by have := HACC.out.at_ b off (.inr (.inl e)); have := hB2.size; omega) (by omega)
  have HB := hide hrB5
  have hTP := (rP5.typed gP rfl).1
  have HC := hide rC5
  have HR := hide rR5
  clear hrB5 rP5 rC5 rR5
  go_wp2_with fail
  refine Calls.mono cS.out ?_
  rintro e w6 ⟨rfl, hg⟩
  have hB16 : Below w1.heap.size w1 w6 := hB15.grown hg hB15.size (fun k e => by cases e; exact hgP)
  have hne : b ≠ gP := fun e => by
    have h1 := row_typed HB.out
    rw [e] at h1
    exact absurd (h1.uniq hTP) (by decide)
  have hrB6 := HB.out.of_block (hg.block b HB.out.lt (fun e => hne (by simpa using e)))
  have rC6 := HC.out.blk hg.size (fun k e => hg.block k (HC.out.typed k e).2.2 (fun e2 => by
    simp only [Value.ownBlock, Option.some.injEq] at e e2
    exact p23 (by omega)))
  have rR6 := HR.out.blk hg.size (fun k e => hg.block k (HR.out.typed k e).2.2 (fun e2 => by
    simp only [Value.ownBlock, Option.some.injEq] at e e2
    exact p24 (by omega)))
  clear cS hg HB hne a0 a1 a2 a3 a4 a5 c0 c1 c2 c3 c4 c5 hTP HC HR
  obtain ⟨⟨a0, a1, a2, a3, a4, a5⟩, -⟩ := row6 (below_row hB16 HROW.out HROW.out.lt)
  obtain ⟨⟨c0, c1, c2, c3, c4, c5⟩, -⟩ := row6 hrB6
  have cS : n0 (Calls Tryz.prog 26 #[.slice (some ⟨gC, 0, none⟩) cu.length zC, .slice ka cu.length kc] w6 fun e w' => e = .returned (.bool true) ∧ w6.grownBy w' (some gC)) :=
    aStill_any gC zC ka cu.length kc w1.heap.size cu w6 (HI.out w6 hB16).cu rC6.roomy (fun b off e => by have := HACC.out.at_ b off (.inr (.inr (.inl e))); have := hB2.size; omega) (by omega)
  have HB := hide hrB6
  have hTC := (rC6.typed gC rfl).1
  have HR := hide rR6
  clear hrB6 rC6 rR6
  go_wp2_with fail
  refine Calls.mono cS.out ?_
  rintro e w7 ⟨rfl, hg⟩
  have hB17 : Below w1.heap.size w1 w7 := hB16.grown hg hB16.size (fun k e => by cases e; exact hgC)
  have hne : b ≠ gC := fun e => by
    have h1 := row_typed HB.out
    rw [e] at h1
    exact absurd (h1.uniq hTC) (by decide)
  have hrB7 := HB.out.of_block (hg.block b HB.out.lt (fun e => hne (by simpa using e)))
  have rR7 := HR.out.blk hg.size (fun k e => hg.block k (HR.out.typed k e).2.2 (fun e2 => by
    simp only [Value.ownBlock, Option.some.injEq] at e e2
    exact p34 (by omega)))
  clear cS hg HB hne a0 a1 a2 a3 a4 a5 c0 c1 c2 c3 c4 c5 hTC HR
  obtain ⟨⟨a0, a1, a2, a3, a4, a5⟩, -⟩ := row6 (below_row hB17 HROW.out HROW.out.lt)
  obtain ⟨⟨c0, c1, c2, c3, c4, c5⟩, -⟩ := row6 hrB7
  have cS : n0 (Calls Tryz.prog 26 #[.slice (some ⟨gR, 0, none⟩) ci.length zR, .slice ra ci.length rc] w7 fun e w' => e = .returned (.bool true) ∧ w7.grownBy w' (some gR)) :=
    aStill_any gR zR ra ci.length rc w1.heap.size ci w7 (HI.out w7 hB17).ci rR7.roomy (fun b off e => by have := HACC.out.at_ b off (.inr (.inr (.inr e))); have := hB2.size; omega) (by omega)
  have HB := hide hrB7
  have hTR := (rR7.typed gR rfl).1
  clear hrB7 rR7
  go_wp2_with fail
  refine Calls.mono cS.out ?_
  rintro e w8 ⟨rfl, hg⟩
  have hB18 : Below w1.heap.size w1 w8 := hB17.grown hg hB17.size (fun k e => by cases e; exact hgR)
  have hne : b ≠ gR := fun e => by
    have h1 := row_typed HB.out
    rw [e] at h1
    exact absurd (h1.uniq hTR) (by decide)
  have hrB8 := HB.out.of_block (hg.block b HB.out.lt (fun e => hne (by simpa using e)))
  clear cS hg HB hne a0 a1 a2 a3 a4 a5 c0 c1 c2 c3 c4 c5 hTR 
  have e1 : (A1 == A1) = true := by simp
  have e2 : (A2 == A2) = true := by simp
  go_wp2
  go_ret
  exact ⟨rfl, hB2.trans (hB18.mono hB2.size)⟩
end Go.Proofs.YtnbccoflcoaoaaaGreat
