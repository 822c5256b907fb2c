/-
  Texts as lists of bytes; what a call tells that turns nothing of what was there; the library's calls in these words: Join, Cut, CutPrefix, Itoa.
-/
import Derived.Test.YthfiilhbgogoaaaGreatDoorMem
import Derived.Test.YthfiilhbgogoaaaGreatDoorDig
import Derived.Test.YthfiilhbgogoaaaGreatDoorShelf
import Derived.Lib.IndexLaws
import Derived.Lib.SmallJoins
namespace Go.Proofs.YthfiilhbgogoaaaGreatDoor
open Go.RowKit Go.Lib
set_option linter.unusedVariables false

/-! ### Texts -/
def st (l : List UInt8) : ByteArray := ⟨l.toArray⟩
theorem st_data (l : List UInt8) : (st l).data.toList = l := by simp [st]
theorem st_size (l : List UInt8) : (st l).size = l.length := by simp [st, ByteArray.size]
theorem st_of (s : ByteArray) : st s.data.toList = s := by simp [st]
theorem st_inj {l m : List UInt8} (h : st l = st m) : l = m := by rw [← st_data l, ← st_data m, h]
theorem st_append (a b : List UInt8) : st a ++ st b = st (a ++ b) := by
  apply ByteArray.ext
  simp [st]
theorem st_toList (l : List UInt8) : (st l).toList = l := by rw [toList_data, st_data]
theorem st_yes {a b : ByteArray} (h : a = b) : (a.toList == b.toList) = true := by rw [h]; simp
theorem st_no {a b : ByteArray} (h : a ≠ b) : (a.toList == b.toList) = false := by
  rw [toList_data, toList_data]
  exact beq_eq_false_iff_ne.2 (fun e => h (ByteArray.ext (Array.toList_inj.1 e)))
theorem st_extract (l : List UInt8) (a b : Nat) : (st l).extract a b = st ((l.drop a).take (b - a)) := by
  rw [extract_eq, st_data]
  rfl

/-- What a call answers that turns nothing of what was there. -/
def Tells (v : Value) (w : World) (e : Ending) (w' : World) : Prop := e = .returned v ∧ Stp [] w [] w'
theorem Stp.of_below {w w' : World} (h : Below w.heap.size w w') : Stp [] w [] w' := ⟨h.os, h.tape, h.output, h.size, fun k hk _ => h.block k hk, fun _ h => by cases h⟩

/-! ### Cut at one byte -/
def cutc (c : UInt8) : List UInt8 → List UInt8 × List UInt8 × Bool
  | [] => ([], [], false)
  | x :: l => if x = c then ([], l, true) else (x :: (cutc c l).1, (cutc c l).2.1, (cutc c l).2.2)
theorem cutc_spl (c : UInt8) : ∀ l, spl c l = (cutc c l).1 :: (if (cutc c l).2.2 then spl c (cutc c l).2.1 else [])
  | [] => rfl
  | x :: l => by
    by_cases h : x = c
    · simp [spl, cutc, h]
    · rw [spl, cutc, if_neg h, if_neg h, cutc_spl c l]
theorem cutc_len (c : UInt8) : ∀ l, (cutc c l).1.length + (cutc c l).2.1.length ≤ l.length ∧ ((cutc c l).2.2 = true → (cutc c l).2.1.length < l.length)
  | [] => by simp [cutc]
  | x :: l => by
    have ih := cutc_len c l
    by_cases h : x = c
    · simp [cutc, h]
    · rw [cutc, if_neg h]
      simp only [List.length_cons]
      refine ⟨by omega, fun g => ?_⟩
      have := ih.2 g
      omega
theorem cutc_index (c : UInt8) : ∀ l, (indexByte l c = -1 ∧ cutc c l = (l, [], false)) ∨ ∃ i : Nat, i < l.length ∧ indexByte l c = i ∧ cutc c l = (l.take i, l.drop (i + 1), true)
  | [] => .inl ⟨rfl, rfl⟩
  | x :: l => by
    by_cases h : x = c
    · exact .inr ⟨0, by simp, by simp [indexByte, h], by simp [cutc, h]⟩
    · have hb : (x == c) = false := beq_eq_false_iff_ne.2 h
      rcases cutc_index c l with ⟨h1, h2⟩ | ⟨i, hi, h1, h2⟩
      · refine .inl ⟨?_, ?_⟩
        · simp [indexByte, hb, h1]
        · rw [cutc, if_neg h, h2]
      · refine .inr ⟨i + 1, by simpa using hi, ?_, ?_⟩
        · have : ((i : Int) == -1) = false := beq_eq_false_iff_ne.2 (by omega)
          simp [indexByte, hb, h1, this]
        · rw [cutc, if_neg h, h2]
          simp
theorem cutc_no {c : UInt8} : ∀ {l : List UInt8}, c ∉ l → cutc c l = (l, [], false)
  | [], _ => rfl
  | x :: l, h => by
    rw [List.mem_cons, not_or] at h
    rw [cutc, if_neg (fun e => h.1 e.symm), cutc_no h.2]
theorem cutc_app {c : UInt8} (m : List UInt8) : ∀ {l : List UInt8}, c ∉ l → cutc c (l ++ c :: m) = (l, m, true)
  | [], _ => by simp [cutc]
  | x :: l, h => by
    rw [List.mem_cons, not_or] at h
    rw [List.cons_append, cutc, if_neg (fun e => h.1 e.symm), cutc_app m h.2]

set_option maxHeartbeats 1000000 in
set_option maxRecDepth 100000 in
theorem cutl_run (l : List UInt8) (c : UInt8) (w : World) (hl : l.length ≤ 1000000000) :
    Calls Tryz.prog 37 #[.string (st l), .string ⟨#[c]⟩] w (Tells (.tuple #[.string (st (cutc c l).1), .string (st (cutc c l).2.1), .bool (cutc c l).2.2]) w) := by
  have hI := Tryz.stringslite_Index_one (st l) c w
  rw [st_data] at hI
  have hsz := st_size l
  rcases cutc_index c l with ⟨h1, h2⟩ | ⟨i, hi, h1, h2⟩
  · rw [h1] at hI
    rw [h2]
    go_enter Tryz.func37, Tryz.ntmps37
    go_wp2_with (go_at_call 62; refine hI.mono ?_; rintro e w' ⟨rfl, rfl⟩)
    go_ret3
    exact ⟨rfl, Stp.refl _ _⟩
  · rw [h1] at hI
    rw [h2]
    have c1 : (0 : Int) ≤ ↑i := by omega
    have c2 : i ≤ l.length := by omega
    have c5 : i + 1 ≤ l.length := by omega
    have c3 : (0 : Int) ≤ ↑i + 1 := by omega
    have c4 : (↑i + 1 : Int) ≤ ↑l.length := by omega
    have mixed : Tryz.prog.follows Departure.mixedOrders = true := by kernel_rfl
    have e1 : (st l).extract 0 i = st (l.take i) := by rw [st_extract]; simp
    have e2 : (st l).extract (i + 1) l.length = st (l.drop (i + 1)) := by rw [st_extract, List.take_of_length_le (by simp)]
    go_enter Tryz.func37, Tryz.ntmps37
    go_wp2_with (go_at_call 62; refine hI.mono ?_; rintro e w' ⟨rfl, rfl⟩)
    go_region_o
    go_wp2
    go_ret3
    exact ⟨rfl, Stp.drew _ _⟩
set_option maxHeartbeats 1000000 in
set_option maxRecDepth 100000 in
theorem cut_run (l : List UInt8) (c : UInt8) (w : World) (hl : l.length ≤ 1000000000) :
    Calls Tryz.prog 21 #[.string (st l), .string ⟨#[c]⟩] w (Tells (.tuple #[.string (st (cutc c l).1), .string (st (cutc c l).2.1), .bool (cutc c l).2.2]) w) := by
  have hI := cutl_run l c w hl
  go_enter Tryz.func21, Tryz.ntmps21
  go_wp2_with (go_at_call 37; refine hI.mono ?_; rintro e w' ⟨rfl, hs⟩)
  go_ret3
  exact ⟨rfl, hs⟩

/-! ### Join, CutPrefix, Itoa -/
theorem join_run (bk c : Nat) (xs : List (List UInt8)) (sep : List UInt8) (w : World) (hcells : ∀ (j : Nat) x, xs[j]? = some x → w.cell? ⟨bk, j, none⟩ = some (.string (st x))) (hbk : bk < w.heap.size) (hcap : xs.length ≤ c)
    (hN : xs.length ≤ 1000000) (hlen : (Lib.join xs sep).length ≤ 1000000000) : Calls Tryz.prog 80 #[.slice (some ⟨bk, 0, none⟩) xs.length c, .string (st sep)] w (Tells (.string (st (Lib.join xs sep))) w) := by
  have hm : ((xs.map st).map (·.data.toList)) = xs := by
    rw [List.map_map]
    have : ∀ x ∈ xs, ((fun x : ByteArray => x.data.toList) ∘ st) x = x := fun x _ => st_data x
    rw [List.map_congr_left this]
    simp
  have h := Tryz.strings_Join bk 0 c (xs.map st) (st sep) w (fun j x hx => by
    rw [List.getElem?_map] at hx
    obtain ⟨y, hy, rfl⟩ := Option.map_eq_some_iff.1 hx
    rw [Nat.zero_add]
    exact hcells j y hy) hbk (by simp; omega) (by simpa using hcap) (by rw [hm, st_data]; omega)
  rw [hm, st_data, List.length_map] at h
  exact h.mono fun e w' ⟨he, hb⟩ => ⟨he, Stp.of_below hb⟩
theorem grow_stp (w : World) (os : Array Obj) : Stp [] w [] (Go.Sort.grow w os) := Stp.of_below (by
  refine ⟨?_, ?_, ?_, ?_, ?_⟩ <;> simp [Go.Sort.grow] <;> intros <;> simp [Array.getElem?_append, *])
theorem itoa_run (n : Nat) (hn : n < 256) (w : World) (htab : Lib.TabIs Tryz.prog w "internal/strconv.uint64pow10" .u64 Lib.pow10Tab) :
    Calls Tryz.prog 56 #[.int .i64 (n : Int)] w (Tells (.string (st (dig 10 n))) w) := by
  refine (Tryz.strconv_Itoa (n : Int) (by omega) (by omega) w htab).mono ?_
  rintro e w' ⟨rfl, k, os, rfl⟩
  rw [itoa_dig]
  exact ⟨rfl, (Stp.drewN _ _ _).trans (grow_stp _ _)⟩
theorem prefix_run (l : List UInt8) (w : World) : Calls Tryz.prog 94 #[.string (st l), .string ⟨#[120]⟩] w
    (Gives (match l with | [] => .tuple #[.string (st []), .bool false] | c :: r => if c = 120 then .tuple #[.string (st r), .bool true] else .tuple #[.string (st (c :: r)), .bool false]) w) := by
  refine (Tryz.strings_CutPrefix (st l) ⟨#[120]⟩ w).mono ?_
  rintro e w' ⟨rfl, rfl⟩
  refine ⟨?_, rfl⟩
  rw [st_data]
  cases l with
  | nil => rfl
  | cons c r =>
    by_cases h : c = 120
    · subst h
      simp [Lib.trimPrefix, Lib.hasPrefix, st]
    · have h2 : ¬ 120 = c := fun e => h e.symm
      have h3 : (120 == c) = false := beq_eq_false_iff_ne.2 h2
      simp [Lib.trimPrefix, Lib.hasPrefix, st, h, List.isPrefixOf, h3]

end Go.Proofs.YthfiilhbgogoaaaGreatDoor
