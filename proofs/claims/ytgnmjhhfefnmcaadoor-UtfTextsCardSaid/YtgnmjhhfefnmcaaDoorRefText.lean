/-
  The document's own Chars and Text (package whispererref01) at any bytes. What lay in memory stays.
-/
import Derived.Test.YtgnmjhhfefnmcaaDoorTextL
namespace Go.Proofs.YtgnmjhhfefnmcaaDoor
open Go.RowKit Go.Lib
set_option linter.unusedVariables false

def ival (x : Nat) : Value := .int .i64 (x : Int)
/-- A row of numbers that the call itself has made. -/
def OwnI (w : World) (base : Nat) (v : Value) (l : List Nat) : Prop := w.ownsRow base 3 1 v l.length (l.map ival)
theorem int_info : (Tryd.prog.info? 3).map (fun i => (i.zero, i.size, i.bytes)) = some (some (.int .i64 0), 1, 8) := by kernel_rfl

theorem row_below {w w' : World} {base : Nat} {e : TypeId} {v : Value} {n : Nat} {xs : List Value} (h : w.ownsRow base e 1 v n xs) (hb : Below w.heap.size w w') : w'.ownsRow base e 1 v n xs := by
  refine ⟨h.1, ?_⟩
  rcases h.2 with h2 | ⟨g, cap, cur, hv, hg, hh, r⟩
  · exact .inl h2
  · exact .inr ⟨g, cap, cur, hv, hg, (hb.block g (Array.getElem?_eq_some_iff.1 hh).1).trans hh, r⟩

set_option maxHeartbeats 2000000 in
set_option maxRecDepth 100000 in
theorem rchars_any (a : Option Addr) (cap : Nat) (l : List Nat) (w : World) (hl : Bts w a l) (hcap : l.length ≤ cap) (hm : cap ≤ maxLen) (hlen : l.length ≤ 100000) :
    Calls Tryd.prog 21 #[.slice a l.length cap] w fun e W' => ∃ v, e = .returned v ∧ OwnI W' w.heap.size v (chars l) ∧ Below w.heap.size w W' := by
  obtain ⟨i0, hi, hz0, hz1, hz2⟩ := info_parts int_info
  have hb256 := hl.1
  have hcl := chars_len l hb256
  unfold maxLen at hm
  have Hl := Lib.hid hl
  clear hl
  go_enter Tryd.func21, Tryd.ntmps21
  go_wp2
  go_loopw [3, 4, 5, 6, 7] (fun o i _ _ _ W => ∃ (p : Nat) (cs : List Nat), p ≤ l.length ∧ i = .int .i64 p ∧ OwnI W w.heap.size o cs ∧ cs ++ chars (l.drop p) = chars l ∧ Below w.heap.size w W) (fun _ i _ _ _ _ => l.length - (intOf i).toNat)
  case atStart => exact ⟨0, [], Nat.zero_le _, rfl, ⟨by simp, .inl ⟨rfl, rfl⟩⟩, by simp, Below.refl _ _⟩
  case round =>
    obtain ⟨p, cs, hp, rfl, hrow, hch, hB⟩ := hrel
    have Hrow := Lib.hid hrow
    have Hch := Lib.hid hch
    clear hrow hch
    by_cases hlt : p < l.length
    · have hne : l.drop p ≠ [] := by
        intro e
        have := congrArg List.length e
        simp at this
        omega
      have hdb := drop_lt hb256 p
      have hpos := nx_pos hne hdb
      rw [List.length_drop] at hpos
      obtain ⟨bb, off, rfl, hcells⟩ := Hl.out.2 (by intro e; rw [e] at hlt; simp at hlt)
      have hbb : bb < w.heap.size := block_lt_of_cell (hcells 0 (by omega))
      have hbt : Bts wr (some ⟨bb, off + p, none⟩) (l.drop p) := by
        refine ⟨hdb, fun _ => ⟨bb, off + p, rfl, fun i hi => ?_⟩⟩
        have hi' : p + i < l.length := by simp at hi; omega
        rw [hB.cell (p := ⟨bb, off + p + i, none⟩) hbb, Nat.add_assoc, hcells (p + i) hi']
        simp [List.getD, List.getElem?_drop]
      have cN := ref_any (some ⟨bb, off + p, none⟩) (cap - p) (l.drop p) wr hbt (by simp; omega)
      rw [List.length_drop] at cN
      obtain ⟨r, hr⟩ : ∃ r, nx (l.drop p) = r := ⟨_, rfl⟩
      have Hr := Lib.hid hr
      have hchr : chr (l.drop p) = if r.2.2 = 0 then r.1 else 65533 := by unfold chr; rw [hr]
      have Hchr := Lib.hid hchr
      rw [hr] at cN hpos
      obtain ⟨r0, r1, r2⟩ := r
      simp only at hpos
      have HN := Lib.hid cN
      have hpc : ((cap : Int) == (p : Int)) = false := beq_eq_false_iff_ne.2 (by omega)
      have hp1 : (p : Int) ≤ (l.length : Int) := by omega
      have hsz := hB.size
      have hcs : cs.length ≤ l.length := by
        have h1 := congrArg List.length Hch.out
        rw [List.length_append] at h1
        omega
      have hfin : ∀ c, c = chr (l.drop p) → (cs ++ [c]) ++ chars (l.drop (p + r1)) = chars l := by
        intro c hc
        have h1 := Hch.out
        rw [chars_cons hne hdb, Hr.out] at h1
        simp only [List.drop_drop] at h1
        rw [← h1, hc]
        simp
      have Hfin := Lib.hid hfin
      clear cN hbt hr hfin hchr hcells
      by_cases h0 : r2 = 0
      · have hd : ((r2 : Int) != 0) = false := by simp [h0]
        have H0 := Lib.hid h0
        clear h0
        go_wp2_with (first
          | (go_at_call 11; refine HN.out.mono ?_; rintro e w1 ⟨rfl, hb1⟩; have hB1 : Below w.heap.size w w1 := hB.trans (hb1.mono hsz); have Hrow1 := Lib.hid (row_below Hrow.out hb1))
          | (at_builtin; refine wpList_append_own _ rfl _ _ 36 rfl w.heap.size 3 i0 (.int .i64 0) 1 8 Tryd.underlying36 hi hz0 hz1 hz2 rfl (by decide) _ _ _ rfl (Hrow1.out.alloc _) ⟨w1.heap.size, 0, none⟩ 1 1 [.int .i64 r0] rfl rfl (cell_one_new _ _ _) (by simp [Value.oneCell']) (by unfold maxLen; omega) (by omega) (by have := hB1.size; simp; omega) ?_; intro v' w2 hown' hgrow _))
        have hB2 : Below w.heap.size w w2 := (hB1.alloc hB1.size _).grown hgrow (by have := hB1.size; simp; omega) (own_base Hrow1.out)
        have hrow2 : OwnI w2 w.heap.size v' (cs ++ [r0]) := by
          unfold OwnI
          rw [List.map_append, List.length_append]
          exact hown'
        go_roundw
        case rel => exact ⟨p + r1, cs ++ [r0], by omega, by go_num, hrow2, Hfin.out r0 (by rw [Hchr.out]; simp [H0.out]), hB2⟩
        case measure => simp [intOf]; omega
      · have hd : ((r2 : Int) != 0) = true := by rw [bne_iff_ne]; omega
        have H0 := Lib.hid h0
        clear h0
        go_wp2_with (first
          | (go_at_call 11; refine HN.out.mono ?_; rintro e w1 ⟨rfl, hb1⟩; have hB1 : Below w.heap.size w w1 := hB.trans (hb1.mono hsz); have Hrow1 := Lib.hid (row_below Hrow.out hb1))
          | (at_builtin; refine wpList_append_own _ rfl _ _ 36 rfl w.heap.size 3 i0 (.int .i64 0) 1 8 Tryd.underlying36 hi hz0 hz1 hz2 rfl (by decide) _ _ _ rfl (Hrow1.out.alloc _) ⟨w1.heap.size, 0, none⟩ 1 1 [.int .i64 65533] rfl rfl (cell_one_new _ _ _) (by simp [Value.oneCell']) (by unfold maxLen; omega) (by omega) (by have := hB1.size; simp; omega) ?_; intro v' w2 hown' hgrow _))
        have hB2 : Below w.heap.size w w2 := (hB1.alloc hB1.size _).grown hgrow (by have := hB1.size; simp; omega) (own_base Hrow1.out)
        have hrow2 : OwnI w2 w.heap.size v' (cs ++ [65533]) := by
          unfold OwnI
          rw [List.map_append, List.length_append]
          exact hown'
        go_roundw
        case rel => exact ⟨p + r1, cs ++ [65533], by omega, by go_num, hrow2, Hfin.out 65533 (by rw [Hchr.out]; simp [H0.out]), hB2⟩
        case measure => simp [intOf]; omega
    · obtain rfl : p = l.length := by omega
      go_wp2
      go_ret
      refine ⟨_, rfl, ?_, hB⟩
      have h1 := Hch.out
      simp [chars_nil] at h1
      rw [← h1]
      exact Hrow.out

theorem OwnI.cells {w : World} {base : Nat} {v : Value} {l : List Nat} (h : OwnI w base v l) (hl : l ≠ []) :
    ∃ g cap, v = .slice (some ⟨g, 0, none⟩) l.length cap ∧ g < w.heap.size ∧ l.length ≤ cap ∧ ∀ i, i < l.length → w.cell? ⟨g, i, none⟩ = some (.int .i64 (l.getD i 0 : Nat)) := by
  rcases h.2 with ⟨_, h0⟩ | ⟨g, cap, cur, rfl, hg, hh, hnc, hm, hcur, htake⟩
  · exact absurd (List.length_eq_zero_iff.1 h0) hl
  · refine ⟨g, cap, rfl, (Array.getElem?_eq_some_iff.1 hh).1, hnc, fun i hi => ?_⟩
    rw [cell_of_row w g i cur _ _ hh]
    have h2 := congrArg (·[i]?) htake
    simp only [Nat.mul_one, List.getElem?_take, hi, if_true, List.getElem?_map] at h2
    rw [← Array.getElem?_toList, h2]
    simp [ival, hi]

set_option maxHeartbeats 2000000 in
set_option maxRecDepth 100000 in
theorem rtext_any (a : Option Addr) (cap : Nat) (l : List Nat) (w : World) (hl : Bts w a l) (hcap : l.length ≤ cap) (hm : cap ≤ maxLen) (hlen : l.length ≤ 100000) :
    Calls Tryd.prog 19 #[.slice a l.length cap] w fun e W' => ∃ v, e = .returned v ∧ Own W' w.heap.size v (textL l) ∧ Below w.heap.size w W' := by
  have hb256 := hl.1
  have hcl := chars_len l hb256
  have hall := chars_all hb256
  have K1 := Lib.hid (rchars_any a cap l w hl hcap hm hlen)
  have Hall := Lib.hid hall
  obtain ⟨cs, hcs⟩ : ∃ cs, chars l = cs := ⟨_, rfl⟩
  have ht : textL l = cs.flatMap enc := by unfold textL; rw [hcs]
  rw [ht]
  rw [hcs] at K1 Hall hcl
  clear hl hall ht hcs
  go_enter Tryd.func19, Tryd.ntmps19
  go_wp2_with fail
  refine K1.out.mono ?_
  rintro e w1 ⟨v1, rfl, ho, hb1⟩
  by_cases hne : cs = []
  · subst hne
    rcases ho.2 with ⟨rfl, _⟩ | ⟨g, c, cur, rfl, _⟩
    · go_wp2
      go_loopw [3, 5] (fun o i W => o = .slice none 0 0 ∧ i = .int .i64 0 ∧ W = w1) (fun _ _ _ => 0)
      case atStart => exact ⟨rfl, rfl, rfl⟩
      case round =>
        obtain ⟨rfl, rfl, rfl⟩ := hrel
        go_wp2
        go_ret
        exact ⟨_, rfl, ⟨by simp, .inl ⟨rfl, rfl⟩⟩, hb1⟩
    · go_wp2
      go_loopw [3, 5] (fun o i W => o = .slice none 0 0 ∧ i = .int .i64 0 ∧ W = w1) (fun _ _ _ => 0)
      case atStart => exact ⟨rfl, rfl, rfl⟩
      case round =>
        obtain ⟨rfl, rfl, rfl⟩ := hrel
        go_wp2
        go_ret
        exact ⟨_, rfl, ⟨by simp, .inl ⟨rfl, rfl⟩⟩, hb1⟩
  · obtain ⟨g, c1, rfl, hg, hnc, hcells⟩ := ho.cells hne
    obtain ⟨n, hn⟩ : ∃ n, cs.length = n := ⟨_, rfl⟩
    have Hn := Lib.hid hn
    rw [hn] at hnc hcells hcl ⊢
    have Hcells := Lib.hid hcells
    have hs1 := hb1.size
    clear ho hcells hn
    go_wp2
    go_loopw [3, 5] (fun o i W => ∃ k : Nat, k ≤ n ∧ i = .int .i64 k ∧ Own W w1.heap.size o ((cs.take k).flatMap enc) ∧ Below w1.heap.size w1 W) (fun _ i _ => n - (intOf i).toNat)
    case atStart => exact ⟨0, Nat.zero_le _, rfl, ⟨by simp, .inl ⟨rfl, rfl⟩⟩, Below.refl _ _⟩
    case round =>
      obtain ⟨k, hk, rfl, hrow, hB⟩ := hrel
      have Hrow := Lib.hid hrow
      clear hrow
      by_cases hlt : k < n
      · have hc0 := Hcells.out k hlt
        have hcell : wr.cell? ⟨g, k, none⟩ = some (.int .i64 (cs.getD k 0 : Nat)) := (hB.cell (p := ⟨g, k, none⟩) hg).trans hc0
        have hkl : k < cs.length := by rw [Hn.out]; exact hlt
        have hget : cs.getD k 0 = cs[k] := by simp [List.getD, hkl]
        obtain ⟨x, hx⟩ : ∃ x, cs.getD k 0 = x := ⟨_, rfl⟩
        have hxm : x ∈ cs := by rw [← hx, hget]; exact List.getElem_mem hkl
        have hxc := Hall.out x hxm
        have hxb : x ≤ 1114111 := by have := of_decide_eq_true hxc; omega
        have htake : (cs.take (k + 1)).flatMap enc = (cs.take k).flatMap enc ++ enc x := by
          rw [List.take_succ_eq_append_getElem hkl, List.flatMap_append, ← hget, hx]
          simp
        have hfl := flat_len (cs.take k)
        rw [List.length_take] at hfl
        have hel := enc_len x
        rw [hx] at hcell
        have Htake := Lib.hid htake
        have KP := Lib.hid (rput_any x wr hxb)
        have hsz := hB.size
        have HX := Lib.hid (enc_lt x hxb)
        have hk1 : (k : Int) < (n : Int) := by omega
        clear hc0 hkl hget hx hxm hxc htake
        go_wp2_with (first
          | (go_at_call 17; refine KP.out.mono ?_; rintro e w2 ⟨v2, rfl, ho2, hb2⟩; obtain ⟨a2, c2, rfl, hbt2, _, _, hz2⟩ := ho2.bts HX.out; have hB2 : Below w1.heap.size w1 w2 := hB.trans (hb2.mono hsz); have Hrow2 := Lib.hid (row_below Hrow.out hb2); have Hbt2 := Lib.hid hbt2; have Hz2 := Lib.hid hz2; clear ho2 hbt2 hz2)
          | (at_builtin; refine wpList_app rfl (.tmp 14) (.tmp 19) rfl w1.heap.size u3 ((cs.take k).flatMap enc) rfl Hrow2.out a2 c2 (enc x) rfl Hbt2.out Hz2.out (by omega) hB2.size ?_; intro v' w3 hown' hgrow hat))
        have hB3 : Below w1.heap.size w1 w3 := hB2.grown hgrow hB2.size (own_base Hrow2.out)
        go_roundw
        case rel => exact ⟨k + 1, by omega, by go_num, by rw [Htake.out]; exact hown', hB3⟩
        case measure => simp [intOf]; omega
      · obtain rfl : k = n := by omega
        go_wp2
        go_ret
        refine ⟨_, rfl, ?_, hb1.trans (hB.mono hs1)⟩
        have h1 := Hrow.out
        rw [List.take_of_length_le (by rw [Hn.out]; exact Nat.le_refl _)] at h1
        refine ⟨h1.1, ?_⟩
        rcases h1.2 with h2 | ⟨g', cap', cur, hv, hg', r⟩
        · exact .inl h2
        · exact .inr ⟨g', cap', cur, hv, Nat.le_trans hs1 hg', r⟩

end Go.Proofs.YtgnmjhhfefnmcaaDoor
