import Derived.Test.YtampcheafdlomaaRtM
namespace Go.Proofs.Ytampcheafdlomaa
open Go.RowKit Go.Deep
set_option linter.unusedSimpArgs false
set_option linter.unusedVariables false

theorem grown_set (w : World) (b o : Nat) (u : Value) : w.grownBy (w.setCell ⟨b, o, none⟩ u) (some b) :=
  ⟨rfl, rfl, rfl, by simp [World.setCell], fun k hk hne => Below.heap_setCell _ _ _ _ (fun e => hne (by rw [e]))⟩

set_option maxHeartbeats 4000000 in
theorem rTake_any (lb fb vb : Nat) (sa aa : Option Addr) (sn sc an ac : Nat) (xs fl : List Int) (es : List A5) (a : Nat) (bk : Bool) (x : Int) (w : World) (hn : NetOK xs es) (hxn : xs.length = sn) (hL : Load w lb fb vb sa sn sc aa an ac fl (leftOf xs es fl)) (he : Arcs w aa an es) (hl : fl.length = an) (ha : a < an) (hm : Mild fl es.length) (hx : 0 ≤ x ∧ x ≤ 1000000) :
    Calls Try.prog 71 #[.pointer (some ⟨lb, 0, none⟩), .agg #[.int .i64 a, .bool bk], .int .i64 x] w fun e w' => e = .returned (.tuple #[]) ∧ Load w' lb fb vb sa sn sc aa an ac (addAt fl a (stD ⟨a, bk⟩ x)) (leftOf xs es (addAt fl a (stD ⟨a, bk⟩ x))) ∧ ∃ w1 w2, Below w.heap.size w w1 ∧ w1.grownBy w2 (some vb) ∧ w2.grownBy w' (some fb) := by
  have hen := he.len
  obtain ⟨e1, e2, hsl, hdl⟩ := st_ends hn (s := ⟨a, bk⟩) (show a < es.length by omega)
  have hfa := hm a (by omega)
  have hbs := leftOf_bd hn hm ((St.mk a bk).srcN es)
  have hbd := leftOf_bd hn hm ((St.mk a bk).dstN es)
  have HT : Hid (∀ w0, Load w0 lb fb vb sa sn sc aa an ac fl (leftOf xs es fl) → _) := fun w0 h0 => Load.take hn hxn hen hl h0 ⟨a, bk⟩ ha x
  have hdv : Hid ((addAt (leftOf xs es fl) ((St.mk a bk).srcN es) (-x)).getD ((St.mk a bk).dstN es) 0 = if (St.mk a bk).dstN es = (St.mk a bk).srcN es then (leftOf xs es fl).getD ((St.mk a bk).srcN es) 0 - x else (leftOf xs es fl).getD ((St.mk a bk).dstN es) 0) := by
    show _ = _
    rw [addAt_at _ _ _ _ (by rw [leftOf_len]; exact hsl)]
    split <;> omega
  have cE : n0 (∀ w0, Load w0 lb fb vb sa sn sc aa an ac fl (leftOf xs es fl) → Arcs w0 aa an es → Calls Try.prog 87 #[.pointer (some ⟨lb, 0, none⟩), .agg #[.int .i64 a, .bool bk]] w0 fun e w' => e = .returned (.tuple #[.int .i64 ((St.mk a bk).srcN es : Int), .int .i64 ((St.mk a bk).dstN es : Int)]) ∧ Below w0.heap.size w0 w') :=
    fun w0 h1 h2 => by rw [← e1, ← e2]; exact rEnds_any lb fb vb sa aa sn sc an ac fl (leftOf xs es fl) es a bk w0 h1 h2 ha
  rw [hxn] at hsl hdl
  obtain ⟨u, hu⟩ : ∃ u, (St.mk a bk).srcN es = u := ⟨_, rfl⟩
  obtain ⟨v, hv⟩ : ∃ v, (St.mk a bk).dstN es = v := ⟨_, rfl⟩
  rw [hu] at hsl hbs cE hdv
  rw [hv] at hdl hbd cE hdv
  obtain ⟨lu, hlu⟩ : ∃ y, (leftOf xs es fl).getD u 0 = y := ⟨_, rfl⟩
  obtain ⟨lv, hlv⟩ : ∃ y, (addAt (leftOf xs es fl) u (-x)).getD v 0 = y := ⟨_, rfl⟩
  have hvb : -26000100 ≤ lv ∧ lv ≤ 26000100 := by
    rw [← hlv, hdv.out]
    split <;> omega
  rw [hlu] at hbs
  have HL := hide hL
  have HE := hide he
  have HLU := hide hlu
  have HLV := hide hlv
  have HU := hide hu
  have HV := hide hv
  have hbox : Below w.heap.size w (w.alloc (.cells #[.int .i64 a, .bool bk] 86)) := Joins.below_alloc1 _ _
  have hDV := hide hdv.out
  clear hL he hu hv hlu hlv e1 e2 hm hn hdv
  obtain ⟨u1, u2⟩ := hbs
  obtain ⟨v1, v2⟩ := hvb
  obtain ⟨x0, x1⟩ := hx
  clear hbd
  go_enter Try.func71, Try.ntmps71
  go_wp2_with fail
  refine (cE.out _ (HL.out.grow hbox) (HE.out.below hbox)).mono ?_
  rintro e wa ⟨rfl, hb1⟩
  have d0 : wa.cell? ⟨w.heap.size, 0, none⟩ = some (.int .i64 a) := (hb1.cell (by simp)).trans (by go_simp)
  have d1 : wa.cell? ⟨w.heap.size, 1, none⟩ = some (.bool bk) := (hb1.cell (by simp)).trans (by go_simp)
  have hs1 : w.heap.size < wa.heap.size := by have := hb1.size; simp at this; omega
  have hB1 : Below w.heap.size w wa := hbox.trans (hb1.mono (by simp))
  clear hb1 cE hbox
  have hLa := HL.out.grow hB1
  have k2 := hLa.c2
  have k3 := hLa.c3
  have hlt := hLa.lt
  have cu := hLa.rl.cell hsl
  have fu := hLa.rl.frozen u
  rw [HLU.out] at cu
  have HT2 := hide (HT.out wa hLa)
  have hne := hLa.ne
  have cf := hLa.rf.cell ha
  have ff := hLa.rf.frozen a
  have hS1 := hLa.setLeft hsl (by rw [leftOf_len]; exact hxn) (-x)
  rw [← Int.sub_eq_add_neg, HLU.out] at hS1
  have cv := hS1.rl.cell hdl
  rw [HLV.out] at cv
  have fv := hS1.rl.frozen v
  have hS2 := hS1.setLeft hdl (by rw [addAt_len, leftOf_len]; exact hxn) x
  rw [HLV.out] at hS2
  have cf2 := hS2.rf.cell ha
  have ff2 := hS2.rf.frozen a
  have m2 := hS1.c2
  have m3 := hS1.c3
  have p2 := hS2.c2
  have p3 := hS2.c3
  have hbl := HL.out.flt
  have hbl2 := HL.out.lt
  have d0b : ((wa.setCell ⟨vb, u, none⟩ (.int .i64 (lu - x))).setCell ⟨vb, v, none⟩ (.int .i64 (lv + x))).cell? ⟨w.heap.size, 0, none⟩ = some (.int .i64 a) := ((set_blk (by omega)).trans (set_blk (by omega))).trans d0
  have d1b : ((wa.setCell ⟨vb, u, none⟩ (.int .i64 (lu - x))).setCell ⟨vb, v, none⟩ (.int .i64 (lv + x))).cell? ⟨w.heap.size, 1, none⟩ = some (.bool bk) := ((set_blk (by omega)).trans (set_blk (by omega))).trans d1
  have HG : Hid (∀ d : Int, wa.grownBy ((wa.setCell ⟨vb, u, none⟩ (.int .i64 (lu - x))).setCell ⟨vb, v, none⟩ (.int .i64 (lv + x))) (some vb) ∧ ((wa.setCell ⟨vb, u, none⟩ (.int .i64 (lu - x))).setCell ⟨vb, v, none⟩ (.int .i64 (lv + x))).grownBy (((wa.setCell ⟨vb, u, none⟩ (.int .i64 (lu - x))).setCell ⟨vb, v, none⟩ (.int .i64 (lv + x))).setCell ⟨fb, a, none⟩ (.int .i64 d)).drew (some fb)) := by
    intro d
    refine ⟨⟨rfl, rfl, rfl, by simp [World.setCell], fun k hk hne => ?_⟩, ⟨rfl, rfl, rfl, by simp [World.setCell, World.drew], fun k hk hne => ?_⟩⟩
    · rw [Below.heap_setCell _ _ _ _ (fun e => hne (by rw [e])), Below.heap_setCell _ _ _ _ (fun e => hne (by rw [e]))]
    · exact Below.heap_setCell _ _ _ _ (fun e => hne (by rw [e]))
  clear hLa hS1 hS2
  generalize hy : fl.getD a 0 = y at *
  obtain ⟨y0, y1⟩ := hfa
  have ha2 : (a : Int) < (an : Int) := by omega
  have hu2 : (u : Int) < (sn : Int) := by omega
  have hv2 : (v : Int) < (sn : Int) := by omega
  have HT3 : Hid (Load ((((wa.setCell ⟨vb, u, none⟩ (.int .i64 (lu - x))).setCell ⟨vb, v, none⟩ (.int .i64 (lv + x))).setCell ⟨fb, a, none⟩ (.int .i64 (y + stD ⟨a, bk⟩ x)))) lb fb vb sa sn sc aa an ac (addAt fl a (stD ⟨a, bk⟩ x)) (leftOf xs es (addAt fl a (stD ⟨a, bk⟩ x)))) := by
    have h := HT2.out
    rw [HU.out, HV.out, HLU.out, HLV.out] at h
    exact h
  clear HT HT2 hy HLU HLV HU HV hDV HL HE
  cases bk with
  | true =>
    have hE : y + stD ⟨a, true⟩ x = y - x := by simp [stD]; omega
    rw [hE] at HT3
    clear hE
    go_wp2
    go_region
    go_wp2
    (try simp only [Exit.inBlock, Exit.then]); refine bodyPost_ret (results_none rfl _ _ _) rfl ?_
    exact ⟨rfl, HT3.out.grow ((Below.refl _ _).drew), _, _, hB1, (HG.out 0).1, (HG.out _).2⟩
  | false =>
    have hE : y + stD ⟨a, false⟩ x = y + x := by simp [stD]
    rw [hE] at HT3
    clear hE
    go_wp2
    go_region
    go_wp2
    go_end0
    exact ⟨rfl, HT3.out.grow ((Below.refl _ _).drew), _, _, hB1, (HG.out 0).1, (HG.out _).2⟩
end Go.Proofs.Ytampcheafdlomaa
