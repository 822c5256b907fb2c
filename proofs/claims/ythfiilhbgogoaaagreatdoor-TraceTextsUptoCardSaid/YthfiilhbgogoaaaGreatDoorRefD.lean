/-
  The document's Cut and Number.
-/
import Derived.Test.YthfiilhbgogoaaaGreatDoorTxt
namespace Go.Proofs.YthfiilhbgogoaaaGreatDoor
open Go.RowKit Go.Lib
set_option linter.unusedVariables false

/-! ### Parts, from the left -/
/-- The parts so far, the last one still open; what is still to be cut. -/
def glue (h : List UInt8) : List (List UInt8) → List (List UInt8)
  | [] => [h]
  | x :: t => (h ++ x) :: t
theorem glue_spl (c : UInt8) (h : List UInt8) (x : UInt8) (l : List UInt8) : glue h (spl c (x :: l)) = if x = c then h :: glue [] (spl c l) else glue (h ++ [x]) (spl c l) := by
  have hne := spl_ne c l
  by_cases e : x = c
  · rw [spl, if_pos e, if_pos e]
    cases hs : spl c l with
    | nil => exact absurd hs hne
    | cons a r => simp [glue]
  · rw [spl, if_neg e, if_neg e]
    cases hs : spl c l with
    | nil => exact absurd hs hne
    | cons a r => simp [glue]
theorem glue_nil (c : UInt8) (l : List UInt8) : glue [] (spl c l) = spl c l := by
  cases hs : spl c l with
  | nil => exact absurd hs (spl_ne c l)
  | cons a r => simp [glue]
theorem spl_len (c : UInt8) : ∀ l, (spl c l).length ≤ l.length + 1
  | [] => by simp [spl]
  | x :: l => by
    have := spl_len c l
    unfold spl
    split
    · simp; omega
    · split
      · rename_i h t e
        rw [e] at this
        simp at this ⊢
        omega
      · simp
theorem spl_mem_len (c : UInt8) : ∀ l, ∀ p ∈ spl c l, p.length ≤ l.length
  | [], p, h => by
    simp [spl] at h
    subst h
    simp
  | x :: l, p, h => by
    have ih := spl_mem_len c l
    unfold spl at h
    split at h
    · simp at h
      rcases h with rfl | h
      · simp
      · have := ih p h
        simp
        omega
    · split at h
      · rename_i hd tl e
        rw [e] at ih
        simp at h
        rcases h with rfl | h
        · have := ih hd (by simp)
          simp
          omega
        · have := ih p (by simp [h])
          simp
          omega
      · simp at h
        subst h
        simp

/-- A row of texts of the call's own: its last one turned. -/
theorem SOwn.last {w : World} {base g cap : Nat} {P : List (List UInt8)} {x : List UInt8} (h : SOwn w base (.slice (some ⟨g, 0, none⟩) (P.length + 1) cap) (P ++ [x])) (y : List UInt8) :
    w.cell? ⟨g, P.length, none⟩ = some (.string (st x)) ∧ w.frozen? ⟨g, P.length, none⟩ = false ∧ SOwn (w.setCell ⟨g, P.length, none⟩ (.string (st y))) base (.slice (some ⟨g, 0, none⟩) (P.length + 1) cap) (P ++ [y]) := by
  have hl : (P ++ [x]).length = P.length + 1 := by simp
  have h0 : w.ownsRow base 9 1 (.slice (some ⟨g, 0, none⟩) (P.length + 1) cap) (P.length + 1) ((P ++ [x]).map fun x => Value.string (st x)) := by
    unfold SOwn at h
    rw [hl] at h
    exact h
  refine ⟨?_, World.ownsRow.frozenAt h0 _, ?_⟩
  · rw [World.ownsRow.cellAt h0 P.length (by omega)]
    simp
  · have h1 := World.ownsRow.stored h0 P.length (.string (st y))
    have e : (((P ++ [x]).map fun x => Value.string (st x)).set P.length (.string (st y))) = ((P ++ [y]).map fun x => Value.string (st x)) := by simp
    rw [e] at h1
    unfold SOwn
    have hl2 : (P ++ [y]).length = P.length + 1 := by simp
    rw [hl2]
    exact h1.1
theorem SOwn.some {w : World} {base : Nat} {v : Value} {P : List (List UInt8)} {x : List UInt8} (h : SOwn w base v (P ++ [x])) : ∃ g cap, v = .slice (some ⟨g, 0, none⟩) (P.length + 1) cap ∧ base ≤ g ∧ g < w.heap.size := by
  obtain ⟨a, cap, hv, hn, _, _, hr⟩ := h.form
  rcases a with _ | ad
  · have := (hn rfl).2
    simp at this
  · obtain ⟨g, rfl, h1, h2, _⟩ := hr ad rfl
    exact ⟨g, cap, by rw [hv]; simp, h1, h2⟩
theorem ch_ext (l : List UInt8) (i : Nat) (hi : i < l.length) : (st l).extract i (i + 1) = st [l[i]!] := by
  rw [st_extract, show i + 1 - i = 1 by omega, getElem!_pos l i hi, List.drop_eq_getElem_cons hi]
  rfl

set_option maxHeartbeats 2000000 in
set_option maxRecDepth 100000 in
theorem rcut_run (l : List UInt8) (c : UInt8) (hl : l.length ≤ 4000) (w : World) : Calls Tryz.prog 23 #[.string (st l), .int .u8 (c.toNat : Int)] w fun e w' => ∃ v, e = .returned v ∧ SOwn w' w.heap.size v (spl c l) ∧ Stp [] w [] w' := by
  have hsz := st_size l
  have mixed : Tryz.prog.follows Departure.mixedOrders = true := by kernel_rfl
  have HI : Hid (∀ i : Nat, i < l.length → ∀ W, (Instr.index 9 (.string (st l)) (.int .i64 (i : Int))).run Tryz.prog W = .ok (bval (l[i]!)) W) := Lib.hid fun i hi W => index_st _ i hi W
  have H0 : Aside (SOwn (w.alloc (.cells #[.string ⟨#[]⟩] 9)) w.heap.size (.slice (some ⟨w.heap.size, 0, none⟩) 1 1) ([] ++ [[]])) := by
    have := World.ownsRow_lit (base := w.heap.size) (e := 9) (size := 1) w #[.string ⟨#[]⟩] 1 (Nat.le_refl _) (by unfold maxLen; omega) rfl
    exact this
  go_enter Tryz.func23, Tryz.ntmps23
  go_wp2
  go_loopg [5, 6] l.length (fun gk v5 vi wr => ∃ (i : Nat), vi = .int .i64 (i : Int) ∧ i ≤ l.length ∧ l.length - i ≤ gk ∧ Aside (∃ P x, P.length ≤ i ∧ SOwn wr w.heap.size v5 (P ++ [x]) ∧ spl c l = P ++ glue x (spl c (l.drop i)) ∧ x.length ≤ i ∧ Stp [] w [] wr))
  case atStart => exact ⟨0, rfl, by omega, by omega, [], [], by simp, H0.out, by rw [List.drop_zero, glue_nil]; rfl, by simp, Stp.alloc _ _ _⟩
  case round =>
    obtain ⟨i, rfl, hi, hg, HS⟩ := hrel
    obtain ⟨P, x, hPl, hO, hsp, hxl, hSt⟩ := HS.out
    obtain ⟨g, cap, hv, hgb, hgl⟩ := hO.some
    subst hv
    clear HS H0
    by_cases hlt : i < l.length
    · have hltz : (i : Int) < (l.length : Int) := by omega
      have hix := HI.out i hlt
      unfold bval at hix
      have hdrop : l.drop i = l[i]! :: l.drop (i + 1) := by rw [getElem!_pos l i hlt]; exact List.drop_eq_getElem_cons hlt
      rw [hdrop, glue_spl] at hsp
      by_cases he : l[i]! = c
      · rw [if_pos he] at hsp
        have hb : (((l[i]!).toNat : Int) == (c.toNat : Int)) = true := by rw [he]; simp
        have HL := Lib.hid (And.intro (hO.stays (Stp.alloc [] wr (.cells #[.string ⟨#[]⟩] 9))) (And.intro (hSt.trans (Stp.alloc [] wr (.cells #[.string ⟨#[]⟩] 9))) hSt.size))
        have HE : Aside (spl c l = (P ++ [x]) ++ glue [] (spl c (l.drop (i + 1)))) := by
          show spl c l = _
          rw [hsp]
          simp
        clear hO hSt hsp hdrop he
        generalize ((l[i]!).toNat : Int) = z at *
        have hpn : (P ++ [x]).length = P.length + 1 := by simp
        go_wp2_with (at_builtin
                     refine wpList_appS rfl (.tmp 19) (.tmp 20) rfl w.heap.size (.slice (some ⟨g, 0, none⟩) (P.length + 1) cap) (P ++ [x]) rfl HL.out.1 ⟨wr.heap.size, 0, none⟩ 1 1 [[]] rfl rfl (one_str wr _ [] rfl) (by rw [hpn, List.length_singleton]; omega) (by have := HL.out.2.2; rw [World.size_alloc]; omega) ?_
                     intro v2 w2 ho2 hg2 hv2
                     have HW : Aside (SOwn w2 w.heap.size v2 ((P ++ [x]) ++ [[]]) ∧ Stp [] w [] w2) := ⟨ho2, HL.out.1.grown (Nat.le_refl _) HL.out.2.1 hg2⟩
                     obtain ⟨g2, cap2, hf2, _, _⟩ := ho2.some
                     rw [hpn] at hf2
                     subst hf2
                     clear ho2 hg2 hv2)
        go_roundg (l.length - (i + 1))
        case measure => omega
        case rel => exact ⟨i + 1, by go_num, by omega, by omega, P ++ [x], [], by rw [hpn]; omega, HW.out.1, HE.out, by simp, HW.out.2⟩
      · rw [if_neg he] at hsp
        have hb : (((l[i]!).toNat : Int) == (c.toNat : Int)) = false := beq_eq_false_iff_ne.2 (fun e => he (UInt8.toNat_inj.1 (by omega)))
        have hext := ch_ext l i hlt
        have hcat := st_append x [l[i]!]
        have hx1 := st_size x
        have hx2 : (st [l[i]!]).size = 1 := st_size _
        have hroom : ¬ 9223372036854775807 < x.length + 1 := by omega
        have hlz : (i : Int) + 1 ≤ (l.length : Int) := by omega
        have hln : i + 1 ≤ l.length := by omega
        obtain ⟨hc, hfz, hO2⟩ := hO.last (x ++ [l[i]!])
        have HE : Aside (SOwn (wr.setCell ⟨g, P.length, none⟩ (.string (st (x ++ [l[i]!])))) w.heap.size (.slice (some ⟨g, 0, none⟩) (P.length + 1) cap) (P ++ [x ++ [l[i]!]]) ∧ spl c l = P ++ glue (x ++ [l[i]!]) (spl c (l.drop (i + 1))) ∧ Stp [] w [] (wr.setCell ⟨g, P.length, none⟩ (.string (st (x ++ [l[i]!]))))) :=
          ⟨hO2, hsp, (hSt.fresh (Stp.setCell (F := [g]) (a := ⟨g, P.length, none⟩) wr _ (by simp)) (by simp; exact hgb)).none⟩
        have hyl : (x ++ [l[i]!]).length ≤ i + 1 := by simp; omega
        clear hO hO2 hSt hsp hdrop he
        generalize ((l[i]!).toNat : Int) = z at *
        generalize st [l[i]!] = sc at *
        generalize x ++ [l[i]!] = y at *
        go_wp2_with fail
        go_region
        all_goals
          go_wp2
          go_roundg (l.length - (i + 1))
          case measure => omega
          case rel => exact ⟨i + 1, by go_num, by omega, by omega, P, y, by omega, HE.out.1.other (Stp.drew [] _) (fun _ _ => by simp), HE.out.2.1, hyl, HE.out.2.2.trans (Stp.drew _ _)⟩
    · have hltz : ¬ (i : Int) < (l.length : Int) := by omega
      have hdr : l.drop i = [] := List.drop_eq_nil_of_le (by omega)
      rw [hdr] at hsp
      have HE : Aside (SOwn wr w.heap.size (.slice (some ⟨g, 0, none⟩) (P.length + 1) cap) (spl c l) ∧ Stp [] w [] wr) := by
        refine ⟨?_, hSt⟩
        have : glue x (spl c []) = [x] := by simp [spl, glue]
        rw [hsp, this]
        exact hO
      clear hO hSt hsp hdr
      go_wp2
      go_ret
      exact ⟨_, rfl, HE.out.1, HE.out.2⟩
end Go.Proofs.YthfiilhbgogoaaaGreatDoor
