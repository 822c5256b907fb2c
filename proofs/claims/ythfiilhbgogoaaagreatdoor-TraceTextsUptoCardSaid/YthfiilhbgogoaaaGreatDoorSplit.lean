/-
  strings.SplitN at a blank: at most so many parts.
-/
import Derived.Test.YthfiilhbgogoaaaGreatDoorAll
import Derived.Test.YthfiilhbgogoaaaGreatDoorTxt
namespace Go.Proofs.YthfiilhbgogoaaaGreatDoor
open Go.RowKit Go.Lib
set_option linter.unusedVariables false

/-- At most n + 1 parts between blanks. -/
def splN : Nat → List UInt8 → List (List UInt8)
  | 0, l => [l]
  | n + 1, l => if (cutc 32 l).2.2 then (cutc 32 l).1 :: splN n (cutc 32 l).2.1 else [l]
theorem splN_len : ∀ n l, (splN n l).length ≤ n + 1
  | 0, l => by simp [splN]
  | n + 1, l => by
    unfold splN
    split
    · have := splN_len n (cutc 32 l).2.1
      simp
      omega
    · simp
theorem splN_ne : ∀ n l, splN n l ≠ []
  | 0, l => by simp [splN]
  | n + 1, l => by unfold splN; split <;> simp
theorem splN_mem : ∀ n l, ∀ p ∈ splN n l, p.length ≤ l.length
  | 0, l, p, h => by
    simp [splN] at h
    rw [h]
    exact Nat.le_refl _
  | n + 1, l, p, h => by
    have h1 := cutc_len 32 l
    unfold splN at h
    split at h
    · simp at h
      rcases h with rfl | h
      · omega
      · have := splN_mem n _ p h
        omega
    · simp at h
      rw [h]
      exact Nat.le_refl _
theorem splN_nil (n : Nat) : splN n [] = [[]] := by cases n <;> simp [splN, cutc]

theorem elemS : Tryz.prog.elem 66 = 9 := by kernel_rfl
theorem sizeS (w : World) : (sizeOf 9).run Tryz.prog w = .ok 1 w := by kernel_rfl
theorem undS : Tryz.prog.underlying 66 = some (.slice (Tryz.prog.elem 66)) := by kernel_rfl
theorem cutS_h (a : Option Addr) (n N j : Nat) (hj : j ≤ N) (w : World) :
    (Instr.slice 66 (.slice a n N) none (some (.int .i64 (j : Int))) none).run Tryz.prog w = .ok (.slice a j N) w := by
  rw [run_slice_h (P := Tryz.prog) w _ a n N undS .i64 j (by omega) (by omega), elemS, sizeS]
  rcases a with _ | ⟨b, off, sp⟩ <;> simp [Result.andThen, sliced, Addr.add]
def emps (n : Nat) : List (List UInt8) := List.replicate n []
theorem make_str (w : World) (kl kc : IntKind) (n : Nat) (hn : n ≤ 1000000) :
    (Instr.makeSlice 66 (.int kl (n : Int)) (.int kc (n : Int))).run Tryz.prog w = .ok (.slice (some ⟨w.heap.size, 0, none⟩) n n) (w.alloc (.cells ((emps n).map fun x => Value.string (st x)).toArray 9)) := by
  obtain ⟨i0, hi0, hz0, hz1, hz2⟩ := info_parts str_info
  have hr := run_make (P := Tryz.prog) w 66 9 i0 _ Tryz.underlying66 hi0 hz0 kl kc n n (by omega) (by omega) (by rw [hz2]; omega) (by omega)
  rw [hr]
  simp only [Int.toNat_natCast, hz1, Nat.mul_one]
  refine congrArg (fun C => Result.ok (Value.slice (some ⟨w.heap.size, 0, none⟩) n n) (w.alloc (Obj.cells C 9))) ?_
  apply Array.ext
  · simp [madeCells, emps]
  · intro i h1 h2
    simp [madeCells, Value.cells, emps, Nat.mod_one, st]
theorem SOwn.made (w : World) (n : Nat) (hn : n ≤ 1000000) : SOwn (w.alloc (.cells ((emps n).map fun x => Value.string (st x)).toArray 9)) w.heap.size (.slice (some ⟨w.heap.size, 0, none⟩) n n) (emps n) := by
  have := World.ownsRow_lit (base := w.heap.size) (e := 9) (size := 1) w ((emps n).map fun x => Value.string (st x)).toArray n (Nat.le_refl _) (by unfold maxLen; omega) (by simp [emps])
  unfold SOwn
  rw [show (emps n).length = n by simp [emps]]
  simpa using this
theorem SOwn.setAt {w : World} {base g cap N : Nat} {P R : List (List UInt8)} {x : List UInt8} (h : SOwn w base (.slice (some ⟨g, 0, none⟩) N cap) (P ++ x :: R)) (hN : N = (P ++ x :: R).length) (y : List UInt8) :
    w.cell? ⟨g, P.length, none⟩ = some (.string (st x)) ∧ w.frozen? ⟨g, P.length, none⟩ = false ∧ SOwn (w.setCell ⟨g, P.length, none⟩ (.string (st y))) base (.slice (some ⟨g, 0, none⟩) N cap) (P ++ y :: R) := by
  have h0 : w.ownsRow base 9 1 (.slice (some ⟨g, 0, none⟩) N cap) N ((P ++ x :: R).map fun x => Value.string (st x)) := by
    unfold SOwn at h
    rw [← hN] at h
    exact h
  have hlt : P.length < N := by rw [hN]; simp
  refine ⟨?_, World.ownsRow.frozenAt h0 _, ?_⟩
  · rw [World.ownsRow.cellAt h0 P.length (by omega)]
    simp
  · have h1 := World.ownsRow.stored h0 P.length (.string (st y))
    have e : (((P ++ x :: R).map fun x => Value.string (st x)).set P.length (.string (st y))) = ((P ++ y :: R).map fun x => Value.string (st x)) := by simp
    rw [e] at h1
    unfold SOwn
    have hl2 : (P ++ y :: R).length = N := by rw [hN]; simp
    rw [hl2]
    exact h1.1
/-- A new row of texts. -/
def Splits (L : List (List UInt8)) (w : World) (e : Ending) (w' : World) : Prop := ∃ g cap, e = .returned (.slice (some ⟨g, 0, none⟩) L.length cap) ∧ (∀ (j : Nat) x, L[j]? = some x → w'.cell? ⟨g, j, none⟩ = some (.string (st x))) ∧ Stp [] w [] w'
/-- What stands in the row at the end. -/
theorem split_end {w wr : World} {N : Nat} {P T : List (List UInt8)} {r : List UInt8} {L : List (List UInt8)} (hL : L = P ++ [r]) (hO : SOwn wr w.heap.size (.slice (some ⟨w.heap.size, 0, none⟩) (N + 1) (N + 1)) (P ++ [] :: T)) (hN : N + 1 = (P ++ [] :: T).length) (hS : Stp [] w [] wr) :
    wr.cell? ⟨w.heap.size, P.length, none⟩ = some (.string (st [])) ∧ wr.frozen? ⟨w.heap.size, P.length, none⟩ = false ∧
    Aside (L.length = P.length + 1 ∧ (∀ (j : Nat) x, L[j]? = some x → (wr.setCell ⟨w.heap.size, P.length, none⟩ (.string (st r))).cell? ⟨w.heap.size, j, none⟩ = some (.string (st x))) ∧ Stp [] w [] (wr.setCell ⟨w.heap.size, P.length, none⟩ (.string (st r)))) := by
  obtain ⟨h1, h2, h3⟩ := hO.setAt hN r
  refine ⟨h1, h2, by rw [hL]; simp, ?_, (hS.fresh (Stp.setCell (F := [w.heap.size]) (a := ⟨w.heap.size, P.length, none⟩) wr _ (by simp)) (by simp)).none⟩
  intro j x hj
  obtain ⟨a, cap, hv, _, _, _, hr⟩ := h3.form
  simp only [Value.slice.injEq] at hv
  obtain ⟨g, he, _, _, hc⟩ := hr ⟨w.heap.size, 0, none⟩ (by rw [← hv.1])
  cases he
  refine hc j x ?_
  have hjl : j < L.length := (List.getElem?_eq_some_iff.1 hj).1
  rw [hL] at hj hjl
  have e : P ++ r :: T = (P ++ [r]) ++ T := by simp
  rw [e, List.getElem?_append_left hjl]
  exact hj
theorem emps_succ (n : Nat) : emps (n + 1) = [] :: emps n := rfl
set_option maxHeartbeats 1000000 in
set_option maxRecDepth 100000 in
theorem gen_run (l : List UInt8) (k : Nat) (hk : k ≤ 3) (hl : l.length ≤ 100000) (w : World) : Calls Tryz.prog 64 #[.string (st l), .string ⟨#[32]⟩, .int .i64 0, .int .i64 ((k + 1 : Nat) : Int)] w (Splits (splN k l) w) := by
  have hsz := st_size l
  have hk0 : ¬ ((k + 1 : Nat) : Int) = 0 := by omega
  have hk1 : ¬ ((k + 1 : Nat) : Int) < 0 := by omega
  have hkb : (((k + 1 : Nat) : Int) == 0) = false := beq_eq_false_iff_ne.2 hk0
  obtain ⟨N, hN⟩ : ∃ N, min k l.length = N := ⟨_, rfl⟩
  have hNk : N ≤ k := by omega
  have hNl : N ≤ l.length := by omega
  have HNE : Aside (N = k ∨ N = l.length) := by
    show N = k ∨ N = l.length
    omega
  have hmin : min ((k + 1 : Nat) : Int) ((l.length : Int) + 1) = (N : Int) + 1 := by omega
  have hmk : (Instr.makeSlice 66 (.int .i64 ((N : Int) + 1)) (.int .i64 ((N : Int) + 1))).run Tryz.prog w = .ok (.slice (some ⟨w.heap.size, 0, none⟩) (N + 1) (N + 1)) (w.alloc (.cells ((emps (N + 1)).map fun x => Value.string (st x)).toArray 9)) := make_str w .i64 .i64 (N + 1) (by omega)
  have HO : Aside (SOwn (w.alloc (.cells ((emps (N + 1)).map fun x => Value.string (st x)).toArray 9)) w.heap.size (.slice (some ⟨w.heap.size, 0, none⟩) (N + 1) (N + 1)) (emps (N + 1)) ∧ Stp [] w [] (w.alloc (.cells ((emps (N + 1)).map fun x => Value.string (st x)).toArray 9))) := ⟨SOwn.made w (N + 1) (by omega), Stp.alloc _ _ _⟩
  clear hN
  generalize ((k + 1 : Nat) : Int) = kz at *
  generalize w.alloc (.cells ((emps (N + 1)).map fun x => Value.string (st x)).toArray 9) = w0 at *
  go_enter Tryz.func64, Tryz.ntmps64
  go_wp2
  go_loopg [0, 10] N (fun gk v0 v10 wr => ∃ (i : Nat) (r : List UInt8), v0 = .string (st r) ∧ v10 = .int .i64 (i : Int) ∧ i ≤ N ∧ N - i ≤ gk ∧ r.length ≤ l.length ∧ Aside (∃ P, P.length = i ∧ splN k l = P ++ splN (k - i) r ∧ r.length + i ≤ l.length ∧ SOwn wr w.heap.size (.slice (some ⟨w.heap.size, 0, none⟩) (N + 1) (N + 1)) (P ++ emps (N + 1 - i)) ∧ Stp [] w [] wr))
  case atStart => exact ⟨0, l, rfl, rfl, by omega, by omega, by omega, [], rfl, rfl, by omega, HO.out.1, HO.out.2⟩
  case round =>
    obtain ⟨i, r, rfl, rfl, hi, hg, hrl, HS⟩ := hrel
    obtain ⟨P, hP, hsp, hri, hO, hSt⟩ := HS.out
    have hrz := st_size r
    rw [show N + 1 - i = (N - i) + 1 by omega, emps_succ] at hO
    have hlen : N + 1 = (P ++ [] :: emps (N - i)).length := by simp [emps, hP]; omega
    have hcut : ∀ W, (Instr.slice 66 (.slice (some ⟨w.heap.size, 0, none⟩) (N + 1) (N + 1)) none (some (.int .i64 ((i : Int) + 1))) none).run Tryz.prog W = .ok (.slice (some ⟨w.heap.size, 0, none⟩) (i + 1) (N + 1)) W := fun W => cutS_h _ _ _ (i + 1) (by omega) W
    by_cases hlt : i < N
    · have hltz : (i : Int) < (N : Int) := by omega
      have hI := Tryz.strings_Index_one (st r) 32 wr
      rw [st_data] at hI
      rcases cutc_index 32 r with ⟨h1, h2⟩ | ⟨m, hm, h1, h2⟩
      · rw [h1] at hI
        have hL : splN k l = P ++ [r] := by
          rw [hsp, show k - i = (k - i - 1) + 1 by omega, splN, h2]
          simp
        obtain ⟨c1, z1, HE⟩ := split_end hL hO hlen hSt
        rw [hP] at c1 z1 HE
        have HI := Lib.hid hI
        clear HS hO hSt hsp hL h1 h2 hI HO HNE hlen
        go_wp2_with fail
        refine HI.out.mono ?_
        rintro _ _ ⟨rfl, rfl⟩
        go_wp2
        go_ret
        exact ⟨w.heap.size, N + 1, by rw [HE.out.1]; rfl, HE.out.2.1, HE.out.2.2⟩
      · rw [h1] at hI
        have hL : splN k l = (P ++ [r.take m]) ++ splN (k - (i + 1)) (r.drop (m + 1)) := by
          rw [hsp, show k - i = (k - (i + 1)) + 1 by omega, splN, h2]
          simp
        have e1 : (st r).extract 0 m = st (r.take m) := by rw [st_extract]; simp
        have e2 : (st r).extract (m + 1) r.length = st (r.drop (m + 1)) := by rw [st_extract, List.take_of_length_le (by simp)]
        have hd : (r.drop (m + 1)).length ≤ l.length := by rw [List.length_drop]; omega
        obtain ⟨c1, z1, hO2⟩ := hO.setAt hlen (r.take m)
        rw [hP] at c1 z1 hO2
        have HE : Aside ((P ++ [r.take m]).length = i + 1 ∧ splN k l = (P ++ [r.take m]) ++ splN (k - (i + 1)) (r.drop (m + 1)) ∧ (r.drop (m + 1)).length + (i + 1) ≤ l.length ∧ SOwn (wr.setCell ⟨w.heap.size, i, none⟩ (.string (st (r.take m)))) w.heap.size (.slice (some ⟨w.heap.size, 0, none⟩) (N + 1) (N + 1)) ((P ++ [r.take m]) ++ emps (N + 1 - (i + 1))) ∧ Stp [] w [] (wr.setCell ⟨w.heap.size, i, none⟩ (.string (st (r.take m))))) := by
          refine ⟨by simp [hP], hL, by rw [List.length_drop]; omega, ?_, (hSt.fresh (Stp.setCell (F := [w.heap.size]) (a := ⟨w.heap.size, i, none⟩) wr _ (by simp)) (by simp)).none⟩
          rw [show N + 1 - (i + 1) = N - i by omega]
          simpa using hO2
        have c2 : (0 : Int) ≤ (m : Int) + 1 := by omega
        have c3 : (m : Int) + 1 ≤ (r.length : Int) := by omega
        have c4 : (m : Int) ≤ (r.length : Int) := by omega
        have c5 : m + 1 ≤ r.length := by omega
        have c6 : m ≤ r.length := by omega
        have HI := Lib.hid hI
        clear HS hO hO2 hSt hsp hL h1 h2 hI HO HNE hlen hcut hrl
        generalize r.drop (m + 1) = r2 at *
        generalize r.take m = r1 at *
        go_wp2_with fail
        refine HI.out.mono ?_
        rintro _ _ ⟨rfl, rfl⟩
        go_wp2
        go_roundg (N - (i + 1))
        case measure => omega
        case rel => exact ⟨i + 1, r2, rfl, by go_num, by omega, by omega, hd, _, HE.out⟩
    · have hltz : ¬ (i : Int) < (N : Int) := by omega
      have hL : splN k l = P ++ [r] := by
        rw [hsp]
        rcases HNE.out with h | h
        · rw [show k - i = 0 by omega]
          rfl
        · have : r = [] := List.length_eq_zero_iff.1 (by omega)
          subst this
          rw [splN_nil]
      obtain ⟨c1, z1, HE⟩ := split_end hL hO hlen hSt
      rw [hP] at c1 z1 HE
      clear HS hO hSt hsp hL HO HNE hlen
      go_wp2
      go_ret
      exact ⟨w.heap.size, N + 1, by rw [HE.out.1]; rfl, HE.out.2.1, HE.out.2.2⟩
set_option maxRecDepth 100000 in
theorem split_run (l : List UInt8) (k : Nat) (hk : k ≤ 3) (hl : l.length ≤ 100000) (w : World) : Calls Tryz.prog 44 #[.string (st l), .string ⟨#[32]⟩, .int .i64 ((k + 1 : Nat) : Int)] w (Splits (splN k l) w) := by
  have K := Lib.hid (gen_run l k hk hl w)
  generalize ((k + 1 : Nat) : Int) = z at *
  go_enter Tryz.func44, Tryz.ntmps44
  go_wp2_with fail
  refine K.out.mono ?_
  rintro _ w1 ⟨g, cap, rfl, h1, h2⟩
  go_wp2
  go_ret
  exact ⟨g, cap, rfl, h1, h2⟩
end Go.Proofs.YthfiilhbgogoaaaGreatDoor
