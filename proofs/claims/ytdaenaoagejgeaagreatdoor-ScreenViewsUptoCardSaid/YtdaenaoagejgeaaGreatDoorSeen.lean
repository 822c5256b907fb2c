/-
  What is seen behind bytes: characters, signs, columns gone back. No walk stands in this text.
-/
import Derived.Test.YtdaenaoagejgeaaGreatDoorScr
namespace Go.Proofs.YtdaenaoagejgeaaGreatDoor
open Go.RowKit Go.Lib
set_option linter.unusedVariables false

def seen (l : List UInt8) : Sn := (fd sn0 l).S
def held (l : List UInt8) : List UInt8 := (fd sn0 l).h
theorem seen_nil : seen [] = sn0 := rfl
theorem held_nil : held [] = [] := rfl
theorem seen_app (l m : List UInt8) : seen (l ++ m) = (fd (seen l) (held l ++ m)).S := by
  unfold seen held
  rw [fd_app]
theorem held_app (l m : List UInt8) : held (l ++ m) = (fd (seen l) (held l ++ m)).h := by
  unfold seen held
  rw [fd_app]
/-- One whole character or sequence more. -/
theorem seen_one {l m : List UInt8} {f : Sf} (hh : held l = []) (h : one (seen l) m = some f) (hn : f.n = m.length) : seen (l ++ m) = f.x ∧ held (l ++ m) = [] := by
  have e := fd_step [] h hn
  rw [List.append_nil, fd_nil] at e
  rw [seen_app, held_app, hh, List.nil_append, e]
  exact ⟨rfl, rfl⟩
theorem enc8_first {c : Nat} (h : U.prB (c : Int) = true) : ∃ x t, enc8 c = x :: t ∧ x ≠ 27 := by
  obtain ⟨hc, hm⟩ := pr_ch h
  have h32 : 32 ≤ c := by
    unfold U.prB at h
    simp only [decide_eq_true_eq] at h
    omega
  unfold enc8 U.enc
  split
  · refine ⟨_, _, rfl, fun e => ?_⟩
    have := congrArg UInt8.toNat e
    simp at this
    omega
  · split
    · refine ⟨_, _, rfl, fun e => ?_⟩
      have := congrArg UInt8.toNat e
      simp at this
      omega
    · split
      · refine ⟨_, _, rfl, fun e => ?_⟩
        have := congrArg UInt8.toNat e
        simp at this
        omega
      · refine ⟨_, _, rfl, fun e => ?_⟩
        have := congrArg UInt8.toNat e
        simp at this
        omega
theorem one_enc (S : Sn) {c : Nat} (h : U.prB (c : Int) = true) : one S (enc8 c) = some ⟨{ S with cur := laid S.cur S.col c, col := S.col + 1 }, (enc8 c).length⟩ := by
  obtain ⟨hc, hm⟩ := pr_ch h
  obtain ⟨x, t, e, hx⟩ := enc8_first h
  have h1 := nx8_enc hc []
  rw [List.append_nil, e] at h1
  rw [e, one_chr S t hx, h1]
  simp only [← e]
  rw [if_neg (by decide), if_pos trivial]
  unfold doC
  rw [if_pos h]
  rfl
theorem seen_chr {l : List UInt8} {c : Nat} (hh : held l = []) (h : U.prB (c : Int) = true) : seen (l ++ enc8 c) = { seen l with cur := laid (seen l).cur (seen l).col c, col := (seen l).col + 1 } ∧ held (l ++ enc8 c) = [] :=
  seen_one hh (one_enc _ h) rfl
theorem one_bell (S : Sn) : one S [7] = some ⟨{ S with bells := S.bells + 1 }, 1⟩ := by
  rw [one_chr S [] (by decide), show nx8 [7] = (7, 1, 0) by decide]
  rfl
theorem one_back0 (S : Sn) : one S [13] = some ⟨{ S with col := 0 }, 1⟩ := by
  rw [one_chr S [] (by decide), show nx8 [13] = (13, 1, 0) by decide]
  rfl
theorem one_row (S : Sn) : one S [10] = some ⟨{ S with up := S.up ++ [S.cur], cur := [] }, 1⟩ := by
  rw [one_chr S [] (by decide), show nx8 [10] = (10, 1, 0) by decide]
  rfl
theorem seen_bell {l : List UInt8} (hh : held l = []) : seen (l ++ [7]) = { seen l with bells := (seen l).bells + 1 } ∧ held (l ++ [7]) = [] := seen_one hh (one_bell _) rfl
theorem seen_back0 {l : List UInt8} (hh : held l = []) : seen (l ++ [13]) = { seen l with col := 0 } ∧ held (l ++ [13]) = [] := seen_one hh (one_back0 _) rfl
theorem seen_row {l : List UInt8} (hh : held l = []) : seen (l ++ [10]) = { seen l with up := (seen l).up ++ [(seen l).cur], cur := [] } ∧ held (l ++ [10]) = [] := seen_one hh (one_row _) rfl
/-- A sequence that is whole. -/
theorem one_seq (S : Sn) {r : List UInt8} (he : (nx (27 :: r)).e = 0) (hn : (nx (27 :: r)).n = (27 :: r).length) : one S (27 :: r) = some ⟨(doQ S (27 :: r)).getD (oddS S (27 :: r).length), (27 :: r).length⟩ := by
  rw [one_esc, if_pos he, hn, List.take_length]
theorem seen_S1 {l : List UInt8} (hh : held l = []) : seen (l ++ S1) = { seen l with cur := (seen l).cur.take (seen l).col } ∧ held (l ++ S1) = [] :=
  seen_one hh (one_seq _ (r := [91, 75]) (by decide) (by decide)) rfl
theorem seen_S2 {l : List UInt8} (hh : held l = []) : seen (l ++ S2) = { seen l with pa := true } ∧ held (l ++ S2) = [] :=
  seen_one hh (one_seq _ (r := [91, 63, 50, 48, 48, 52, 104]) (by decide) (by decide)) rfl
theorem seen_S3 {l : List UInt8} (hh : held l = []) : seen (l ++ S3) = { seen l with pa := false } ∧ held (l ++ S3) = [] :=
  seen_one hh (one_seq _ (r := [91, 63, 50, 48, 48, 52, 108]) (by decide) (by decide)) rfl
/-- The sequence that goes back. -/
def SD (n : Nat) : List UInt8 := 27 :: 91 :: (dig 10 n ++ [68])
theorem dch_par : ∀ d, d < 10 → 48 ≤ (dch d).toNat ∧ (dch d).toNat ≤ 57 := by decide
theorem bd_digs : ∀ (d : List UInt8) (room : Nat), (∀ x ∈ d, 48 ≤ x.toNat ∧ x.toNat ≤ 57) → d.length ≤ room → bd room 64 (d ++ [68]) = (d.length + 1, true)
  | [], room, _, _ => bd_end [] room 64 (by decide)
  | c :: d, room, h, hl => by
    have hc := h c (by simp)
    simp only [List.length_cons] at hl
    rw [List.cons_append, bd_go _ room 64 (by omega) (by omega), if_neg (by omega), bd_digs d (room - 1) (fun x hx => h x (by simp [hx])) (by omega)]
    simp
theorem seq_over (d : List UInt8) (h : ∀ x ∈ d, 48 ≤ x.toNat ∧ x.toNat ≤ 57) (hl : d.length ≤ 4) : (nx (27 :: 91 :: (d ++ [68]))).e = 0 ∧ (nx (27 :: 91 :: (d ++ [68]))).n = (27 :: 91 :: (d ++ [68]) : List UInt8).length := by
  have e : ln (27 :: 91 :: (d ++ [68])) = (d.length + 1 + 2, true) := by
    rw [ln_some (m := 32) 27 (d ++ [68]) (by decide), bd_digs d 32 h (by omega)]
  have e2 : (ln (27 :: 91 :: (d ++ [68]))).2 = true := by rw [e]
  rw [nx_over e2, e]
  exact ⟨rfl, by simp⟩
theorem seen_SD {l : List UInt8} {n : Nat} (hh : held l = []) (h1 : 1 ≤ n) (h2 : n ≤ 9999) : seen (l ++ SD n) = { seen l with col := (seen l).col - n } ∧ held (l ++ SD n) = [] := by
  have hl : (dig 10 n).length ≤ 4 := by
    have := dig_len (b := 10) (by omega) 3 n (by omega)
    omega
  have hd : ∀ x ∈ dig 10 n, 48 ≤ x.toNat ∧ x.toNat ≤ 57 := fun x hx => by
    obtain ⟨d, hd, rfl⟩ := dig_mem (b := 10) (by omega) (by omega) n x hx
    exact dch_par d hd
  obtain ⟨he, hn⟩ := seq_over (dig 10 n) hd hl
  have hb := bk_yes h1 h2
  have hne : ∀ t : List UInt8, (∀ u : List UInt8, t ≠ u ++ [68]) → SD n ≠ 27 :: 91 :: t := fun t ht e => ht (dig 10 n) (List.cons.inj (List.cons.inj e).2).2.symm
  refine seen_one hh (f := ⟨{ seen l with col := (seen l).col - n }, (SD n).length⟩) ?_ rfl
  unfold SD
  rw [one_seq _ he hn]
  unfold doQ
  have n1 : ¬ (27 :: 91 :: (dig 10 n ++ [68]) : List UInt8) = S1 := hne [75] (fun u e => by
    have := congrArg List.getLast? e
    simp at this)
  have n2 : ¬ (27 :: 91 :: (dig 10 n ++ [68]) : List UInt8) = S2 := hne [63, 50, 48, 48, 52, 104] (fun u e => by
    have := congrArg List.getLast? e
    simp at this)
  have n3 : ¬ (27 :: 91 :: (dig 10 n ++ [68]) : List UInt8) = S3 := hne [63, 50, 48, 48, 52, 108] (fun u e => by
    have := congrArg List.getLast? e
    simp at this)
  rw [if_neg n1, if_neg n2, if_neg n3, hb, if_neg (by omega)]
  rfl
end Go.Proofs.YtdaenaoagejgeaaGreatDoor
