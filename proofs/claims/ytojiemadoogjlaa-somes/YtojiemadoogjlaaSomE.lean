import Derived.Test.YtojiemadoogjlaaSomO
namespace Go.Proofs.Ytojiemadoogjlaa
open Go.RowKit Go.Deep
set_option linter.unusedSimpArgs false
set_option linter.unusedVariables false

theorem lastEven (last : Nat → St) (v : Nat) : lastF last (v * 2) = .int .i64 (last v).arc := by
  unfold lastF; rw [if_pos (by omega), show v * 2 / 2 = v from by omega]
theorem lastOdd (last : Nat → St) (v : Nat) : lastF last (v * 2 + 1) = .bool (last v).back := by
  unfold lastF; rw [if_neg (by omega), show (v * 2 + 1) / 2 = v from by omega]

/-- All that a step into the unknown leaves. -/
def Seen (es : List A5) (fl lf : List Int) (K G rb sb tb ab n : Nat) (seen start : Nat → Bool) (order : List Int) (w w' : World) (P : (Nat → Bool) → Prop) : Prop :=
  ∃ oa' oc' seen' order' last' pos', Reach w' K G rb sb tb ab n oa' oc' seen' start order' last' ∧ RInv es fl lf n seen' start order' last' pos' ∧ Ext seen order seen' order' ∧ Below K w w' ∧ P seen'

set_option maxHeartbeats 2000000 in
theorem rExplore_any (K G rb sb tb ab n : Nat) (oa : Option Addr) (oc : Nat) (seen start : Nat → Bool) (order : List Int) (last : Nat → St) (pos : Nat → Nat) (lb fb vb : Nat) (sa aa : Option Addr) (sn sc an ac : Nat) (xs fl lf : List Int) (es : List A5) (node a : Nat) (bk : Bool) (w : World)
    (hn : NetOK xs es) (hxn : xs.length = n) (hL : Load w lb fb vb sa sn sc aa an ac fl lf) (hlk : lb < K ∧ fb < K ∧ vb < K) (he : Arcs w aa an es) (hm : Mild fl es.length) (hrm : ∀ s : St, s.arc < es.length → 0 ≤ roomOf es fl s)
    (hR : Reach w K G rb sb tb ab n oa oc seen start order last) (hI : RInv es fl lf n seen start order last pos) (hnd : node < n) (hsn : seen node = true) (ha : a < an) :
    Calls Try.prog 70 #[.pointer (some ⟨lb, 0, none⟩), .pointer (some ⟨rb, 0, none⟩), .int .i64 node, .agg #[.int .i64 a, .bool bk]] w fun e w' => e = .returned (.tuple #[]) ∧
      Seen es fl lf K G rb sb tb ab n seen start order w w' (fun seen' => (St.mk a bk).src es = node → seen' ((St.mk a bk).dst es).toNat = true ∨ roomOf es fl ⟨a, bk⟩ = 0) := by
  have hael : a < es.length := by rw [he.len]; exact ha
  have hends := hn.ends a hael
  have hsr : 0 ≤ (St.mk a bk).src es ∧ (St.mk a bk).src es < n := by unfold St.src; split <;> simp only [] <;> omega
  have hds : 0 ≤ (St.mk a bk).dst es ∧ (St.mk a bk).dst es < n := by unfold St.dst; split <;> simp only [] <;> omega
  obtain ⟨d, hd⟩ : ∃ d : Nat, (St.mk a bk).dst es = (d : Int) := ⟨((St.mk a bk).dst es).toNat, by omega⟩
  have hdn : d < n := by omega
  have hroom := hrm ⟨a, bk⟩ hael
  have hok := hn.arc a hael
  have hfa := hm a hael
  have hsm := hI.small
  have hten := hn.ten
  obtain ⟨f, hf⟩ : ∃ f, (St.mk a bk).src es = f := ⟨_, rfl⟩
  obtain ⟨r, hr⟩ : ∃ r, roomOf es fl ⟨a, bk⟩ = r := ⟨_, rfl⟩
  have cE : n0 (∀ w0, Load w0 lb fb vb sa sn sc aa an ac fl lf → Arcs w0 aa an es → Calls Try.prog 71 #[.pointer (some ⟨lb, 0, none⟩), .agg #[.int .i64 a, .bool bk]] w0 fun e w' => e = .returned (.tuple #[.int .i64 f, .int .i64 d]) ∧ Below w0.heap.size w0 w') :=
    fun w0 h1 h2 => by rw [← hf, ← hd]; exact rEnds_any lb fb vb sa aa sn sc an ac fl lf es a bk w0 h1 h2 ha
  have cR : n0 (∀ w0, Load w0 lb fb vb sa sn sc aa an ac fl lf → Arcs w0 aa an es → Calls Try.prog 67 #[.pointer (some ⟨lb, 0, none⟩), .agg #[.int .i64 a, .bool bk]] w0 fun e w' => e = .returned (.int .i64 r) ∧ Below w0.heap.size w0 w') :=
    fun w0 h1 h2 => by rw [← hr]; exact rRoom_any lb fb vb sa aa sn sc an ac fl lf es a bk _ w0 h1 h2 ha hok hfa
  have HI := hide hI
  have HD := hide hd
  have HF := hide hf
  have HRM := hide hr
  have HL := hide hL
  have HE := hide he
  have HR := hide hR
  have HRR := hide hroom
  have HAE := hide hael
  have HSR := hide hsr
  have stay : n0 (∀ w', Below w.heap.size w w' → (f = (node : Int) → seen d = true ∨ r = 0) → Seen es fl lf K G rb sb tb ab n seen start order w w' (fun seen' => (St.mk a bk).src es = node → seen' ((St.mk a bk).dst es).toNat = true ∨ roomOf es fl ⟨a, bk⟩ = 0)) := by
    intro w' hb hP
    refine ⟨oa, oc, seen, order, last, pos, HR.out.grow hb, HI.out, Ext.refl _ _, hb.mono (Nat.le_trans HR.out.kg HR.out.size), fun h => ?_⟩
    rw [HF.out] at h
    rw [HD.out, HRM.out, Int.toNat_natCast]
    exact hP h
  have hbox : Below w.heap.size w (w.alloc (.cells #[.int .i64 a, .bool bk] 85)) := Joins.below_alloc1 _ _
  clear hL he hR hI hd hf hr hroom hael hends hsr hds hok hfa hrm hm
  go_enter Try.func70, Try.ntmps70
  go_wp2_with fail
  refine (cE.out _ (HL.out.grow hbox) (HE.out.below hbox)).mono ?_
  rintro e w1 ⟨rfl, hb1⟩
  have d0 : w1.cell? ⟨w.heap.size, 0, none⟩ = some (.int .i64 a) := (hb1.cell (by simp)).trans (by go_simp)
  have d1 : w1.cell? ⟨w.heap.size, 1, none⟩ = some (.bool bk) := (hb1.cell (by simp)).trans (by go_simp)
  have hs1 : w.heap.size < w1.heap.size := by have := hb1.size; simp at this; omega
  have hB1 : Below w.heap.size w w1 := hbox.trans (hb1.mono (by simp))
  clear hb1 cE hbox
  have hR1 := HR.out.grow hB1
  have k0 := hR1.c0
  have cs := hR1.rs.cell hdn
  have hd2 : (d : Int) < (n : Int) := by omega
  by_cases hfn : f = (node : Int)
  · subst hfn
    cases hsd : seen d with
    | true =>
      rw [hsd] at cs
      go_wp2
      (try simp only [Exit.inBlock, Exit.then]); refine bodyPost_ret (results_none rfl _ _ _) rfl ?_
      exact ⟨rfl, stay.out _ hB1 (fun _ => .inl hsd)⟩
    | false =>
      rw [hsd] at cs
      go_wp2_with fail
      refine (cR.out _ (HL.out.grow hB1) (HE.out.below hB1)).mono ?_
      rintro e w2 ⟨rfl, hb2⟩
      have hB2 : Below w.heap.size w w2 := hB1.trans (hb2.mono hB1.size)
      have e0 := (hb2.cell (p := ⟨w.heap.size, 0, none⟩) hs1).trans d0
      have e1 := (hb2.cell (p := ⟨w.heap.size, 1, none⟩) hs1).trans d1
      have hR2 := hR1.grow hb2
      have HR2 := hide hR2
      clear hb2 cR k0 cs d0 d1 hR1 hB1
      by_cases hr0 : r = 0
      · subst hr0
        clear hR2
        go_wp2
        (try simp only [Exit.inBlock, Exit.then]); refine bodyPost_ret (results_none rfl _ _ _) rfl ?_
        exact ⟨rfl, stay.out _ hB2 (fun _ => .inr (by simp))⟩
      · have hrb : (r == 0) = false := by simpa using hr0
        have k3 := hR2.c3
        have c1 := hR2.ra.cell (i := d * 2) (by omega)
        have c2 := hR2.ra.cell (i := d * 2 + 1) (by omega)
        rw [lastEven] at c1
        rw [lastOdd] at c2
        have f1 := hR2.ra.frozen (d * 2)
        have f2 := hR2.ra.frozen (d * 2 + 1)
        have hR3 := (hR2.setLast d ⟨a, bk⟩).grow (w' := ((w2.setCell ⟨ab, d * 2, none⟩ (.int .i64 a)).setCell ⟨ab, d * 2 + 1, none⟩ (.bool bk)).drew) ((Below.refl _ _).drew)
        have hab : K ≤ ab := hR2.lo.2.2.2
        have hkw : K ≤ w.heap.size := Nat.le_trans HR.out.kg HR.out.size
        have hB3 : Below K w ((w2.setCell ⟨ab, d * 2, none⟩ (.int .i64 a)).setCell ⟨ab, d * 2 + 1, none⟩ (.bool bk)).drew := (((hB2.mono hkw).setCell (p := ⟨ab, d * 2, none⟩) hab _).setCell (p := ⟨ab, d * 2 + 1, none⟩) hab _).drew
        have HB3 := hide hB3
        have HR3 := hide hR3
        have HR0 := hide hr0
        have HSD := hide hsd
        clear hR2 hR3 hB3 hr0 hsd
        go_wp2_with fail
        go_region
        go_wp2_with fail
        refine (rSee_any K G rb sb tb ab n oa oc seen start order (upd last d ⟨a, bk⟩) d _ HR3.out hdn (by omega)).mono ?_
        rintro e w3 ⟨rfl, oa', oc', hR4, hB4⟩
        clear c1 c2 f1 f2 k3 e0 e1
        go_wp2
        go_end0
        refine ⟨rfl, oa', oc', _, _, _, _, hR4, HI.out.see hdn HSD.out start (upd last d ⟨a, bk⟩) (fun _ _ => rfl) (fun u hu => upd_ne _ _ hu) (fun hst => ((HI.out.st1 d hdn hst).2)) ?_ (fun _ => ?_), Ext.see _ _ _, HB3.out.trans hB4, fun _ => .inl ?_⟩
        · rw [upd_same]; have := HAE.out; have := hn.arcs; show a ≤ 24; omega
        · rw [upd_same]
          refine ⟨HAE.out, HD.out, ?_, ?_, ?_⟩
          · have h1 := HRR.out; have h2 := HRM.out; have h3 := HR0.out; omega
          · rw [HF.out]; simpa using hsn
          · have := HSR.out; omega
        · rw [HD.out]; simp [upd]
  · have hfb : (f != (node : Int)) = true := by simpa using hfn
    have HFN := hide hfn
    clear hfn
    go_wp2
    (try simp only [Exit.inBlock, Exit.then]); refine bodyPost_ret (results_none rfl _ _ _) rfl ?_
    exact ⟨rfl, stay.out _ hB1 (fun h => absurd h HFN.out)⟩
end Go.Proofs.Ytojiemadoogjlaa
