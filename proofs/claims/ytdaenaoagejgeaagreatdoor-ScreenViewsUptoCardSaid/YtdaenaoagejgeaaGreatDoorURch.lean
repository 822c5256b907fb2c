/-
  The document's own Chars.
-/
import Derived.Test.YtdaenaoagejgeaaGreatDoorUText
namespace Go.Proofs.YtdaenaoagejgeaaGreatDoor.U
open Go.RowKit Go.Lib
set_option linter.unusedVariables false

def ival (x : Nat) : Value := .int .i64 (x : Int)
/-- A row of numbers that the call itself has made. -/
def OwnI (w : World) (base : Nat) (v : Value) (l : List Nat) : Prop := w.ownsRow base 3 1 v l.length (l.map ival)
theorem int_info : (Tryz.prog.info? 3).map (fun i => (i.zero, i.size, i.bytes)) = some (some (.int .i64 0), 1, 8) := by kernel_rfl

theorem row_below {w w' : World} {base : Nat} {e : TypeId} {v : Value} {n : Nat} {xs : List Value} (h : w.ownsRow base e 1 v n xs) (hb : Below w.heap.size w w') : w'.ownsRow base e 1 v n xs := by
  refine ⟨h.1, ?_⟩
  rcases h.2 with h2 | ⟨g, cap, cur, hv, hg, hh, r⟩
  · exact .inl h2
  · exact .inr ⟨g, cap, cur, hv, hg, (hb.block g (Array.getElem?_eq_some_iff.1 hh).1).trans hh, r⟩

set_option maxHeartbeats 2000000 in
set_option maxRecDepth 100000 in
theorem rchars_any (a : Option Addr) (cap : Nat) (l : List Nat) (w : World) (hl : Bts w a l) (hcap : l.length ≤ cap) (hm : cap ≤ maxLen) (hlen : l.length ≤ 1048576) :
    Calls Tryz.prog 14 #[.slice a l.length cap] w fun e W' => ∃ v, e = .returned v ∧ OwnI W' w.heap.size v (chars l) ∧ Below w.heap.size w W' := by
  obtain ⟨i0, hi, hz0, hz1, hz2⟩ := info_parts int_info
  have hb256 := hl.1
  have hcl := chars_len l hb256
  unfold maxLen at hm
  have Hl := Lib.hid hl
  clear hl
  go_enter Tryz.func14, Tryz.ntmps14
  go_wp2
  go_loopw [3, 4, 5, 6, 7] (fun o i _ _ _ W => ∃ (p : Nat) (cs : List Nat), p ≤ l.length ∧ i = .int .i64 p ∧ OwnI W w.heap.size o cs ∧ cs ++ chars (l.drop p) = chars l ∧ Below w.heap.size w W) (fun _ i _ _ _ _ => l.length - (intOf i).toNat)
  case atStart => exact ⟨0, [], Nat.zero_le _, rfl, ⟨by simp, .inl ⟨rfl, rfl⟩⟩, by simp, Below.refl _ _⟩
  case round =>
    obtain ⟨p, cs, hp, rfl, hrow, hch, hB⟩ := hrel
    have Hrow := Lib.hid hrow
    have Hch := Lib.hid hch
    clear hrow hch
    by_cases hlt : p < l.length
    · have hne : l.drop p ≠ [] := by
        intro e
        have := congrArg List.length e
        simp at this
        omega
      have hdb := drop_lt hb256 p
      have hpos := nx_pos hne hdb
      rw [List.length_drop] at hpos
      obtain ⟨bb, off, rfl, hcells⟩ := Hl.out.2 (by intro e; rw [e] at hlt; simp at hlt)
      have hbb : bb < w.heap.size := block_lt_of_cell (hcells 0 (by omega))
      have hbt : Bts wr (some ⟨bb, off + p, none⟩) (l.drop p) := by
        refine ⟨hdb, fun _ => ⟨bb, off + p, rfl, fun i hi => ?_⟩⟩
        have hi' : p + i < l.length := by simp at hi; omega
        rw [hB.cell (p := ⟨bb, off + p + i, none⟩) hbb, Nat.add_assoc, hcells (p + i) hi']
        simp [List.getD, List.getElem?_drop]
      have cN := ref_any (some ⟨bb, off + p, none⟩) (cap - p) (l.drop p) wr hbt (by simp; omega)
      rw [List.length_drop] at cN
      obtain ⟨r, hr⟩ : ∃ r, nx (l.drop p) = r := ⟨_, rfl⟩
      have Hr := Lib.hid hr
      have hchr : chr (l.drop p) = if r.2.2 = 0 then r.1 else 65533 := by unfold chr; rw [hr]
      have Hchr := Lib.hid hchr
      rw [hr] at cN hpos
      obtain ⟨r0, r1, r2⟩ := r
      simp only at hpos
      have HN := Lib.hid cN
      have hpc : ((cap : Int) == (p : Int)) = false := beq_eq_false_iff_ne.2 (by omega)
      have hp1 : (p : Int) ≤ (l.length : Int) := by omega
      have hsz := hB.size
      have hcs : cs.length ≤ l.length := by
        have h1 := congrArg List.length Hch.out
        rw [List.length_append] at h1
        omega
      have hfin : ∀ c, c = chr (l.drop p) → (cs ++ [c]) ++ chars (l.drop (p + r1)) = chars l := by
        intro c hc
        have h1 := Hch.out
        rw [chars_cons hne hdb, Hr.out] at h1
        simp only [List.drop_drop] at h1
        rw [← h1, hc]
        simp
      have Hfin := Lib.hid hfin
      clear cN hbt hr hfin hchr hcells
      by_cases h0 : r2 = 0
      · have hd : ((r2 : Int) != 0) = false := by simp [h0]
        have H0 := Lib.hid h0
        clear h0
        go_wp2_with (first
          | (go_at_call 27; refine HN.out.mono ?_; rintro e w1 ⟨rfl, hb1⟩; have hB1 : Below w.heap.size w w1 := hB.trans (hb1.mono hsz); have Hrow1 := Lib.hid (row_below Hrow.out hb1))
          | (at_builtin; refine wpList_append_own _ rfl _ _ 26 rfl w.heap.size 3 i0 (.int .i64 0) 1 8 Tryz.underlying26 hi hz0 hz1 hz2 rfl (by decide) _ _ _ rfl (Hrow1.out.alloc _) ⟨w1.heap.size, 0, none⟩ 1 1 [.int .i64 r0] rfl rfl (cell_one_new _ _ _) (by simp [Value.oneCell']) (by unfold maxLen; omega) (by omega) (by have := hB1.size; simp; omega) ?_; intro v' w2 hown' hgrow _))
        have hB2 : Below w.heap.size w w2 := (hB1.alloc hB1.size _).grown hgrow (by have := hB1.size; simp; omega) (own_base Hrow1.out)
        have hrow2 : OwnI w2 w.heap.size v' (cs ++ [r0]) := by
          unfold OwnI
          rw [List.map_append, List.length_append]
          exact hown'
        go_roundw
        case rel => exact ⟨p + r1, cs ++ [r0], by omega, by go_num, hrow2, Hfin.out r0 (by rw [Hchr.out]; simp [H0.out]), hB2⟩
        case measure => simp [intOf]; omega
      · have hd : ((r2 : Int) != 0) = true := by rw [bne_iff_ne]; omega
        have H0 := Lib.hid h0
        clear h0
        go_wp2_with (first
          | (go_at_call 27; refine HN.out.mono ?_; rintro e w1 ⟨rfl, hb1⟩; have hB1 : Below w.heap.size w w1 := hB.trans (hb1.mono hsz); have Hrow1 := Lib.hid (row_below Hrow.out hb1))
          | (at_builtin; refine wpList_append_own _ rfl _ _ 26 rfl w.heap.size 3 i0 (.int .i64 0) 1 8 Tryz.underlying26 hi hz0 hz1 hz2 rfl (by decide) _ _ _ rfl (Hrow1.out.alloc _) ⟨w1.heap.size, 0, none⟩ 1 1 [.int .i64 65533] rfl rfl (cell_one_new _ _ _) (by simp [Value.oneCell']) (by unfold maxLen; omega) (by omega) (by have := hB1.size; simp; omega) ?_; intro v' w2 hown' hgrow _))
        have hB2 : Below w.heap.size w w2 := (hB1.alloc hB1.size _).grown hgrow (by have := hB1.size; simp; omega) (own_base Hrow1.out)
        have hrow2 : OwnI w2 w.heap.size v' (cs ++ [65533]) := by
          unfold OwnI
          rw [List.map_append, List.length_append]
          exact hown'
        go_roundw
        case rel => exact ⟨p + r1, cs ++ [65533], by omega, by go_num, hrow2, Hfin.out 65533 (by rw [Hchr.out]; simp [H0.out]), hB2⟩
        case measure => simp [intOf]; omega
    · obtain rfl : p = l.length := by omega
      go_wp2
      go_ret
      refine ⟨_, rfl, ?_, hB⟩
      have h1 := Hch.out
      simp [chars_nil] at h1
      rw [← h1]
      exact Hrow.out

theorem OwnI.cells {w : World} {base : Nat} {v : Value} {l : List Nat} (h : OwnI w base v l) (hl : l ≠ []) :
    ∃ g cap, v = .slice (some ⟨g, 0, none⟩) l.length cap ∧ g < w.heap.size ∧ l.length ≤ cap ∧ ∀ i, i < l.length → w.cell? ⟨g, i, none⟩ = some (.int .i64 (l.getD i 0 : Nat)) := by
  rcases h.2 with ⟨_, h0⟩ | ⟨g, cap, cur, rfl, hg, hh, hnc, hm, hcur, htake⟩
  · exact absurd (List.length_eq_zero_iff.1 h0) hl
  · refine ⟨g, cap, rfl, (Array.getElem?_eq_some_iff.1 hh).1, hnc, fun i hi => ?_⟩
    rw [cell_of_row w g i cur _ _ hh]
    have h2 := congrArg (·[i]?) htake
    simp only [Nat.mul_one, List.getElem?_take, hi, if_true, List.getElem?_map] at h2
    rw [← Array.getElem?_toList, h2]
    simp [ival, hi]

end Go.Proofs.YtdaenaoagejgeaaGreatDoor.U
