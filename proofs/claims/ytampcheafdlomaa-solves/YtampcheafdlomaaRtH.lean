import Derived.Test.YtampcheafdlomaaRtM
import Derived.Test.YtampcheafdlomaaArcK
namespace Go.Proofs.Ytampcheafdlomaa
open Go.RowKit Go.Deep
set_option linter.unusedSimpArgs false
set_option linter.unusedVariables false

/-- A list of arcs of the call's own. -/
def OwnAr (w : World) (base : Nat) (v : Value) (l : List A5) : Prop := ∃ oa oc, v = .slice oa l.length oc ∧ w.ownsRow base 54 5 (.slice oa l.length oc) l.length (arcCells l)
theorem OwnAr.lit (w : World) : OwnAr (w.alloc (.cells #[] 54)) w.heap.size (.slice (some ⟨w.heap.size, 0, none⟩) 0 0) [] :=
  ⟨_, _, rfl, World.ownsRow_lit w #[] 0 (Nat.le_refl _) (by unfold maxLen; omega) rfl⟩
theorem take_snocA (l : List A5) {k : Nat} (hk : k < l.length) : l.take (k + 1) = l.take k ++ [l.getD k zA] := by
  rw [List.take_add_one]
  congr 1
  simp [List.getD, hk]

/-- Arcs that a copy of the net's begins with, a result that is still empty, the net's box. -/
structure Made (w wr : World) (sa aa : Option Addr) (sn sc an ac : Nat) (v : Value) (l : List A5) : Prop where
  rn : wr.rowIs w.heap.size 25 2 (fun i => if i = 0 then .slice sa sn sc else .slice aa an ac)
  rr : wr.rowIs (w.heap.size + 1) 25 2 (fun _ => .slice none 0 0)
  ro : OwnAr wr (w.heap.size + 2) v l
  be : Below w.heap.size w wr
  sz : w.heap.size + 2 ≤ wr.heap.size

theorem Made.start (w : World) (sa aa : Option Addr) (sn sc an ac : Nat) :
    Made w (((w.alloc (.cells #[.slice sa sn sc, .slice aa an ac] 25)).alloc (.cells #[.slice none 0 0, .slice none 0 0] 25)).alloc (.cells #[] 54)) sa aa sn sc an ac (.slice (some ⟨w.heap.size + 2, 0, none⟩) 0 0) [] := by
  refine ⟨?_, ?_, ?_, ((((Below.refl _ _).alloc (Nat.le_refl _) _).alloc (by simp) _).alloc (by simp <;> omega) _), by simp <;> omega⟩
  · refine ((World.rowIs_alloc w #[.slice sa sn sc, .slice aa an ac] 25 _ ?_).alloc _).alloc _
    intro i hi
    rcases i with _ | _ | i
    · rfl
    · rfl
    · simp at hi; omega
  · have h := (World.rowIs_alloc (w.alloc (.cells #[.slice sa sn sc, .slice aa an ac] 25)) #[.slice none 0 0, .slice none 0 0] 25 (fun _ => .slice none 0 0) (by
      intro i hi
      rcases i with _ | _ | i
      · rfl
      · rfl
      · simp at hi; omega)).alloc (.cells #[] 54)
    simpa using h
  · have h := OwnAr.lit ((w.alloc (.cells #[.slice sa sn sc, .slice aa an ac] 25)).alloc (.cells #[.slice none 0 0, .slice none 0 0] 25))
    simpa using h
/-- One arc more. -/
theorem Made.push {w wr X w2 : World} {sa aa : Option Addr} {sn sc an ac : Nat} {oa : Option Addr} {oc : Nat} {l : List A5} (h : Made w wr sa aa sn sc an ac (.slice oa l.length oc) l) (hX : Below wr.heap.size wr X) {g' c' n : Nat} (hn : l.length = n) {y : A5} (ho : w2.ownsRow (w.heap.size + 2) 54 5 (.slice (some ⟨g', 0, none⟩) (n + 1) c') (n + 1) (arcCells (l ++ [y]))) (hg : X.grownBy w2 (Value.slice oa n oc).ownBlock) :
    Made w w2 sa aa sn sc an ac (.slice (some ⟨g', 0, none⟩) (n + 1) c') (l ++ [y]) := by
  subst hn
  obtain ⟨oa', oc', e, hown⟩ := h.ro
  cases e
  have hblk := hown.lt
  have hne : ∀ b, b < w.heap.size + 2 → some b ≠ (Value.slice oa l.length oc).ownBlock := fun b hb e => by have := hblk b e.symm; omega
  refine ⟨grown_row hg (below_row hX h.rn h.rn.lt) (hne _ (by omega)), grown_row hg (below_row hX h.rr h.rr.lt) (hne _ (by omega)), ⟨some ⟨g', 0, none⟩, c', by simp, by rw [List.length_append]; exact ho⟩, ?_, by have := h.sz; have := hX.size; have := hg.size; omega⟩
  exact (h.be.trans (hX.mono h.be.size)).grown hg (Nat.le_trans h.be.size hX.size) (fun b hb => by have := hblk b hb; omega)
theorem Made.own {w wr : World} {sa aa : Option Addr} {sn sc an ac : Nat} {oa : Option Addr} {oc n : Nat} {l : List A5} (h : Made w wr sa aa sn sc an ac (.slice oa n oc) l) (hn : l.length = n) : wr.ownsRow (w.heap.size + 2) 54 5 (.slice oa n oc) n (arcCells l) := by
  obtain ⟨oa', oc', e, hown⟩ := h.ro
  cases e
  rw [hn] at hown
  exact hown
/-- It is told. -/
theorem Made.done {w wr : World} {sa aa : Option Addr} {sn sc an ac : Nat} {oa : Option Addr} {oc : Nat} {l : List A5} (h : Made w wr sa aa sn sc an ac (.slice oa l.length oc) l) (hl : l.length ≤ 24) (hb : ∀ i, i < l.length → ∀ j, -1000000 ≤ (l.getD i zA).at j ∧ (l.getD i zA).at j ≤ 1000000) :
    Arcs ((wr.setCell ⟨w.heap.size + 1, 0, none⟩ (.slice sa sn sc)).setCell ⟨w.heap.size + 1, 1, none⟩ (.slice oa l.length oc)) oa l.length l ∧ Below w.heap.size w ((wr.setCell ⟨w.heap.size + 1, 0, none⟩ (.slice sa sn sc)).setCell ⟨w.heap.size + 1, 1, none⟩ (.slice oa l.length oc)) := by
  obtain ⟨oa', oc', e, hown⟩ := h.ro
  cases e
  have h1 := ownsRow_setCell_below (ownsRow_setCell_below hown (a := ⟨w.heap.size + 1, 0, none⟩) (by show w.heap.size + 1 < w.heap.size + 2; omega) (.slice sa sn sc)) (a := ⟨w.heap.size + 1, 1, none⟩) (by show w.heap.size + 1 < w.heap.size + 2; omega) (.slice oa l.length oc)
  obtain ⟨a, c, e, hA, _⟩ := arcs_of_own h1 rfl (by omega) (fun x hx j => by obtain ⟨i, hi, rfl⟩ := mem_of_getD zA l x hx; have := hb i hi j; omega)
  cases e
  exact ⟨hA, (h.be.setCell (p := ⟨w.heap.size + 1, 0, none⟩) (by show w.heap.size ≤ w.heap.size + 1; omega) _).setCell (p := ⟨w.heap.size + 1, 1, none⟩) (by show w.heap.size ≤ w.heap.size + 1; omega) _⟩

theorem arc_small {a : A5} {n : Int} (hn : n ≤ 10) (h : arcB a n = true) : ∀ j, -1000000 ≤ a.at j ∧ a.at j ≤ 1000000 := by
  have := arcB_out h
  intro j
  unfold A5.at
  split <;> omega

set_option maxHeartbeats 2000000 in
theorem rCostless_any (sa aa : Option Addr) (sn sc an ac : Nat) (xs : List Int) (es : List A5) (w : World) (hn : NetOK xs es) (he : Arcs w aa an es) :
    Calls Try.prog 53 #[.agg #[.slice sa sn sc, .slice aa an ac]] w fun e w' => ∃ ca cc, e = .returned (.agg #[.slice sa sn sc, .slice ca an cc]) ∧ Arcs w' ca an (costlessL es) ∧ Below w.heap.size w w' := by
  have hal : Hid (es.length = an) := he.len
  have h24 : an ≤ 24 := by rw [← hal.out]; exact hn.arcs
  have HE := hide he
  have HM0 := hide (Made.start w sa aa sn sc an ac)
  clear he
  go_enter Try.func53, Try.ntmps53
  go_wp2
  go_loopw [3, 5, 10] (fun v ap i wr => ∃ k : Nat, k ≤ an ∧ i = .int .i64 k ∧ Hid (Made w wr sa aa sn sc an ac v ((costlessL es).take k))) (fun _ _ i _ => an - (intOf i).toNat)
  case atStart => exact ⟨0, Nat.zero_le _, rfl, HM0.out⟩
  case round =>
    clear HM0
    obtain ⟨k, hk, rfl, hM⟩ := hrel
    have hbe := hM.out.be
    obtain ⟨oa, oc, rfl, _⟩ := hM.out.ro
    have hlen : ((costlessL es).take k).length = k := by rw [List.length_take, costlessL_len, hal.out]; omega
    rw [hlen] at hM ⊢
    by_cases hlt : k < an
    · have hlt3 : (k : Int) < (an : Int) := by omega
      obtain ⟨b, off, f, t, l, c, q, rfl, hA, hbb, e0, e1, e2, e3, e4⟩ := (HE.out.below hbe).get hlt
      have hnx : Hid ((costlessL es).take (k + 1) = (costlessL es).take k ++ [⟨f, t, l, c, 0⟩]) := by
        show _ = _
        rw [take_snocA _ (by rw [costlessL_len, hal.out]; exact hlt), costlessL_at, hA]
      have hsz := hM.out.sz
      generalize hLL : (costlessL es).take k = L at *
      clear hLL hA
      go_wp2_with (at_builtin; refine wpList_push_arc rfl (.tmp 15) (.tmp 17) rfl (w.heap.size + 2) oa oc L k hlen rfl ?_ (wr.heap.size + 1) ⟨f, t, l, c, 0⟩ 1 rfl ?_ (by omega) ?_ ?_)
      · exact ((hM.out.own hlen).alloc _).alloc _
      · intro j hj
        match j, hj with
        | 0, _ => go_simp <;> rfl
        | 1, _ => go_simp <;> rfl
        | 2, _ => go_simp <;> rfl
        | 3, _ => go_simp <;> rfl
        | 4, _ => go_simp <;> rfl
      · simp; omega
      intro g' c' w2 hown2 hgr
      have HM2 := hide (Made.push (oa := oa) (oc := oc) (by rw [hlen]; exact hM.out) (Joins.below_alloc2 wr _ _) hlen hown2 hgr)
      clear hM hown2 hgr e0 e1 e2 e3 e4
      go_wp2
      go_roundw
      case rel => exact ⟨k + 1, by omega, by go_num, by rw [hnx.out]; exact HM2.out⟩
      case measure => simp [intOf]; omega
    · have hkn : k = an := by omega
      subst hkn
      have hall : (costlessL es).take k = costlessL es := List.take_of_length_le (by rw [costlessL_len, hal.out]; exact Nat.le_refl _)
      have hle2 : (costlessL es).length = k := by rw [costlessL_len]; exact hal.out
      rw [hall] at hM
      have c0 := hM.out.rn.cell (i := 0) (by omega)
      have r0 := hM.out.rr.cell (i := 0) (by omega)
      have r1 := hM.out.rr.cell (i := 1) (by omega)
      have f0 := hM.out.rr.frozen 0
      have f1 := hM.out.rr.frozen 1
      have hsz := hM.out.sz
      have HD := hide (Made.done (oa := oa) (oc := oc) (by rw [hle2]; exact hM.out) (by omega) (fun i hi => arc_small (by have := hn.ten; omega) ((costless_ok hn).arc i hi)))
      rw [hle2] at HD
      simp only [if_true] at c0
      clear hM hall
      go_wp2
      have q0 : (wr.setCell ⟨w.heap.size + 1, 0, none⟩ (Value.slice sa sn sc)).cell? ⟨w.heap.size + 1, 0, none⟩ = some (.slice sa sn sc) := by go_simp
      have q1 : ((wr.setCell ⟨w.heap.size + 1, 0, none⟩ (Value.slice sa sn sc)).setCell ⟨w.heap.size + 1, 1, none⟩ (Value.slice oa k oc)).cell? ⟨w.heap.size + 1, 1, none⟩ = some (.slice oa k oc) := by go_simp
      refine bodyPost_ret (v := .agg #[.slice sa sn sc, .slice oa k oc]) (by simp [results, Try.results53, go_sem, q0, q1]) rfl ⟨oa, oc, rfl, HD.out.1, HD.out.2⟩

set_option maxHeartbeats 2000000 in
theorem rStiff_any (sa aa : Option Addr) (sn sc an ac : Nat) (xs : List Int) (es : List A5) (w : World) (hn : NetOK xs es) (he : Arcs w aa an es) :
    Calls Try.prog 56 #[.agg #[.slice sa sn sc, .slice aa an ac]] w fun e w' => ∃ ca cc, e = .returned (.agg #[.slice sa sn sc, .slice ca an cc]) ∧ Arcs w' ca an (stiffL es) ∧ Below w.heap.size w w' := by
  have hal : Hid (es.length = an) := he.len
  have h24 : an ≤ 24 := by rw [← hal.out]; exact hn.arcs
  have HE := hide he
  have HM0 := hide (Made.start w sa aa sn sc an ac)
  clear he
  go_enter Try.func56, Try.ntmps56
  go_wp2
  go_loopw [3, 5, 10] (fun v ap i wr => ∃ k : Nat, k ≤ an ∧ i = .int .i64 k ∧ Hid (Made w wr sa aa sn sc an ac v ((stiffL es).take k))) (fun _ _ i _ => an - (intOf i).toNat)
  case atStart => exact ⟨0, Nat.zero_le _, rfl, HM0.out⟩
  case round =>
    clear HM0
    obtain ⟨k, hk, rfl, hM⟩ := hrel
    have hbe := hM.out.be
    obtain ⟨oa, oc, rfl, _⟩ := hM.out.ro
    have hlen : ((stiffL es).take k).length = k := by rw [List.length_take, stiffL_len, hal.out]; omega
    rw [hlen] at hM ⊢
    by_cases hlt : k < an
    · have hlt3 : (k : Int) < (an : Int) := by omega
      obtain ⟨b, off, f, t, l, c, q, rfl, hA, hbb, e0, e1, e2, e3, e4⟩ := (HE.out.below hbe).get hlt
      have hnx : Hid ((stiffL es).take (k + 1) = (stiffL es).take k ++ [if c = -1 then ⟨f, t, l, c, q⟩ else ⟨f, t, l, l, q⟩]) := by
        show _ = _
        rw [take_snocA _ (by rw [stiffL_len, hal.out]; exact hlt), stiffL_at, hA]
      have hsz := hM.out.sz
      generalize hLL : (stiffL es).take k = L at *
      clear hLL hA
      have cU : n0 (∀ w0, Calls Try.prog 61 #[.agg #[.int .i64 f, .int .i64 t, .int .i64 l, .int .i64 c, .int .i64 q]] w0 fun e w' => e = .returned (.bool (c == -1)) ∧ Below w0.heap.size w0 w') := fun w0 => gUnlimited_any f t l c q w0
      go_wp2_with fail
      refine (cU.out _).mono ?_
      rintro e w1 ⟨rfl, hb1⟩
      have d0 : w1.cell? ⟨wr.heap.size, 0, none⟩ = some (.int .i64 f) := (hb1.cell (by simp)).trans (by go_simp)
      have d1 : w1.cell? ⟨wr.heap.size, 1, none⟩ = some (.int .i64 t) := (hb1.cell (by simp)).trans (by go_simp)
      have d2 : w1.cell? ⟨wr.heap.size, 2, none⟩ = some (.int .i64 l) := (hb1.cell (by simp)).trans (by go_simp)
      have d3 : w1.cell? ⟨wr.heap.size, 3, none⟩ = some (.int .i64 c) := (hb1.cell (by simp)).trans (by go_simp)
      have d4 : w1.cell? ⟨wr.heap.size, 4, none⟩ = some (.int .i64 q) := (hb1.cell (by simp)).trans (by go_simp)
      have g3 : w1.frozen? ⟨wr.heap.size, 3, none⟩ = false := (hb1.frozen (by simp)).trans (by go_simp)
      have hz1 : wr.heap.size < w1.heap.size := by have := hb1.size; simp at this; omega
      have hB1 : Below wr.heap.size wr w1 := (Joins.below_alloc1 _ _).trans (hb1.mono (by simp))
      clear hb1 cU e0 e1 e2 e3 e4
      by_cases hcc : c = -1
      · subst hcc
        rw [if_pos rfl] at hnx
        go_wp2_with (at_builtin; refine wpList_push_arc rfl (.tmp 20) (.tmp 22) rfl (w.heap.size + 2) oa oc L k hlen rfl ?_ w1.heap.size ⟨f, t, l, -1, q⟩ 1 rfl ?_ (by omega) ?_ ?_)
        · exact ((hM.out.own hlen).kept (grown_of_below hB1 none) (by cases oa <;> simp [Value.ownBlock])).alloc _
        · intro j hj
          match j, hj with
          | 0, _ => go_simp <;> rfl
          | 1, _ => go_simp <;> rfl
          | 2, _ => go_simp <;> rfl
          | 3, _ => go_simp <;> rfl
          | 4, _ => go_simp <;> rfl
        · simp; omega
        intro g' c' w2 hown2 hgr
        have HM2 := hide (Made.push (oa := oa) (oc := oc) (by rw [hlen]; exact hM.out) (hB1.trans ((Joins.below_alloc1 w1 _).mono (Nat.le_of_lt hz1))) hlen hown2 hgr)
        clear hM hown2 hgr d0 d1 d2 d3 d4 g3
        go_wp2
        go_roundw
        case rel => exact ⟨k + 1, by omega, by go_num, by rw [hnx.out]; exact HM2.out⟩
        case measure => simp [intOf]; omega
      · have hcb : (c == -1) = false := by simpa using hcc
        rw [if_neg hcc] at hnx
        have HCC := hide hcc
        clear hcc
        have hB2 : Below wr.heap.size wr (w1.setCell ⟨wr.heap.size, 3, none⟩ (.int .i64 l)) := hB1.setCell (p := ⟨wr.heap.size, 3, none⟩) (Nat.le_refl _) _
        go_wp2_with (at_builtin; refine wpList_push_arc rfl (.tmp 20) (.tmp 22) rfl (w.heap.size + 2) oa oc L k hlen rfl ?_ w1.heap.size ⟨f, t, l, l, q⟩ 1 rfl ?_ (by omega) ?_ ?_)
        · exact ((hM.out.own hlen).kept (grown_of_below hB2 none) (by cases oa <;> simp [Value.ownBlock])).alloc _
        · intro j hj
          match j, hj with
          | 0, _ => go_simp <;> rfl
          | 1, _ => go_simp <;> rfl
          | 2, _ => go_simp <;> rfl
          | 3, _ => go_simp <;> rfl
          | 4, _ => go_simp <;> rfl
        · simp; omega
        intro g' c' w2 hown2 hgr
        have HM2 := hide (Made.push (oa := oa) (oc := oc) (by rw [hlen]; exact hM.out) (hB2.trans ((Joins.below_alloc1 _ _).mono (by simp [World.setCell]; omega))) hlen hown2 hgr)
        clear hM hown2 hgr d0 d1 d2 d3 d4 g3
        go_wp2
        go_roundw
        case rel => exact ⟨k + 1, by omega, by go_num, by rw [hnx.out]; exact HM2.out⟩
        case measure => simp [intOf]; omega
    · have hkn : k = an := by omega
      subst hkn
      have hall : (stiffL es).take k = stiffL es := List.take_of_length_le (by rw [stiffL_len, hal.out]; exact Nat.le_refl _)
      have hle2 : (stiffL es).length = k := by rw [stiffL_len]; exact hal.out
      rw [hall] at hM
      have c0 := hM.out.rn.cell (i := 0) (by omega)
      have r0 := hM.out.rr.cell (i := 0) (by omega)
      have r1 := hM.out.rr.cell (i := 1) (by omega)
      have f0 := hM.out.rr.frozen 0
      have f1 := hM.out.rr.frozen 1
      have hsz := hM.out.sz
      have HD := hide (Made.done (oa := oa) (oc := oc) (by rw [hle2]; exact hM.out) (by omega) (fun i hi => arc_small (by have := hn.ten; omega) ((stiff_ok hn).arc i hi)))
      rw [hle2] at HD
      simp only [if_true] at c0
      clear hM hall
      go_wp2
      have q0 : (wr.setCell ⟨w.heap.size + 1, 0, none⟩ (Value.slice sa sn sc)).cell? ⟨w.heap.size + 1, 0, none⟩ = some (.slice sa sn sc) := by go_simp
      have q1 : ((wr.setCell ⟨w.heap.size + 1, 0, none⟩ (Value.slice sa sn sc)).setCell ⟨w.heap.size + 1, 1, none⟩ (Value.slice oa k oc)).cell? ⟨w.heap.size + 1, 1, none⟩ = some (.slice oa k oc) := by go_simp
      refine bodyPost_ret (v := .agg #[.slice sa sn sc, .slice oa k oc]) (by simp [results, Try.results56, go_sem, q0, q1]) rfl ⟨oa, oc, rfl, HD.out.1, HD.out.2⟩
end Go.Proofs.Ytampcheafdlomaa
