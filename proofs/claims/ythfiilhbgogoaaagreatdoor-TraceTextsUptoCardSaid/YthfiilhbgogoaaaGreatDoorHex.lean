/-
  strconv.FormatUint to the base 16: the digits.
-/
import Derived.Test.YthfiilhbgogoaaaGreatDoorBit
import Derived.Lib.Walk
import Derived.Laws.Closers25
import Derived.BigCall
import Derived.BigGuard
namespace Go.Proofs.YthfiilhbgogoaaaGreatDoor
open Go.RowKit Go.Lib
set_option linter.unusedVariables false

set_option maxHeartbeats 1000000 in
set_option maxRecDepth 100000 in
theorem pow2_run (w : World) : Calls Tryz.prog 112 #[.int .i64 16] w (Gives (.bool true) w) := by
  have h : bits .and .i64 16 15 = 0 := by decide +kernel
  go_enter Tryz.func112, Tryz.ntmps112
  go_wp2
  go_ret
  exact ⟨rfl, rfl⟩
set_option maxHeartbeats 1000000 in
set_option maxRecDepth 100000 in
theorem tz64_run (w : World) (ht : w.cell? ⟨8, 15, none⟩ = some (.int .u8 4)) : Calls Tryz.prog 121 #[.int .u64 16] w (Gives (.int .i64 4) w) := by
  have hw1 : IntKind.u64.wrap (-16) = 18446744073709551600 := by rw [IntKind.wrap_u64]; decide
  have hw2 : IntKind.u64.wrap 4573923408821661840 = 4573923408821661840 := by rw [IntKind.wrap_u64]; decide
  have h : bits .and .u64 16 18446744073709551600 = 16 := by decide +kernel
  go_enter Tryz.func121, Tryz.ntmps121
  go_wp2
  go_ret
  exact ⟨rfl, rfl⟩
set_option maxHeartbeats 1000000 in
set_option maxRecDepth 100000 in
theorem tz_run (w : World) (ht : w.cell? ⟨8, 15, none⟩ = some (.int .u8 4)) : Calls Tryz.prog 113 #[.int .u64 16] w (Gives (.int .i64 4) w) := by
  have K := tz64_run w ht
  go_enter Tryz.func113, Tryz.ntmps113
  go_wp2_with (go_at_call 121; refine K.mono ?_; rintro _ _ ⟨rfl, rfl⟩)
  go_ret
  exact ⟨rfl, rfl⟩

/-! ### The row of digits -/
def Ba (w : World) (g : Nat) (C : List UInt8) : Prop := w.heap[g]? = some (.cells (C.map bval).toArray 145 (0, 0))
theorem Ba.cell {w : World} {g : Nat} {C : List UInt8} (h : Ba w g C) {i : Nat} (hi : i < C.length) : w.cell? ⟨g, i, none⟩ = some (bval (C[i]!)) := by
  rw [cell_of_row w g i _ _ _ h]
  simp [hi]
theorem Ba.fz {w : World} {g : Nat} {C : List UInt8} (h : Ba w g C) (i : Nat) : w.frozen? ⟨g, i, none⟩ = false := frozen_of_row w g i _ _ h
theorem Ba.set {w : World} {g : Nat} {C : List UInt8} (h : Ba w g C) (i : Nat) (x : UInt8) : Ba (w.setCell ⟨g, i, none⟩ (bval x)) g (C.set i x) := by
  have := heap_setCell_same w g i _ _ (bval x) h
  unfold Ba
  rw [this, List.map_set]
  simp
theorem Ba.new (w : World) : Ba (w.alloc (Obj.cells Tryz.zeroCells145 145)) w.heap.size (List.replicate 65 0) := by
  unfold Ba
  rw [heap_alloc_new]
  kernel_rfl
theorem Ba.bts {w : World} {g : Nat} {C : List UInt8} (h : Ba w g C) (i : Nat) (hi : i < C.length) : Bts w (some ⟨g, i, none⟩) (C.drop i) := fun _ => ⟨g, i, rfl, fun k hk => by
  rw [List.length_drop] at hk
  have h1 : (C.drop i)[k]! = C[i + k]! := by
    rw [getElem!_pos (C.drop i) k (by simp; omega), getElem!_pos C (i + k) (by omega)]
    simp
  rw [h.cell (by omega), h1]⟩
def D36 : ByteArray := ⟨#[48, 49, 50, 51, 52, 53, 54, 55, 56, 57, 97, 98, 99, 100, 101, 102, 103, 104, 105, 106, 107, 108, 109, 110, 111, 112, 113, 114, 115, 116, 117, 118, 119, 120, 121, 122]⟩
theorem d36a : ∀ d : Nat, d < 16 → D36.data.toList[d]? = some (dch d) := by decide +kernel
theorem d36 (d : Nat) (hd : d < 16) : ∃ h : d < D36.size, D36[d]'h = dch d := by
  obtain ⟨h, e⟩ := List.getElem?_eq_some_iff.1 (d36a d hd)
  have h' : d < D36.size := Nat.lt_of_lt_of_le hd (by decide)
  refine ⟨h', ?_⟩
  rw [← e]
  rfl
theorem digit_run (d : Nat) (hd : d < 16) (w : World) : (Instr.index 9 (.string D36) (.int .u64 (d : Int))).run Tryz.prog w = .ok (bval (dch d)) w := by
  obtain ⟨h, e⟩ := d36 d hd
  rw [run_index_string w 9 D36 .u64 d Tryz.underlying9, dif_pos ⟨by omega, by omega⟩]
  simp only [Int.toNat_natCast, e, bval]
theorem and15 (u : Nat) (hu : u < 4294967296) : bits .and .u64 (u : Int) 15 = ((u % 16 : Nat) : Int) := by
  show IntKind.u64.wrap (((BitVec.ofInt 64 (u : Int) &&& BitVec.ofInt 64 ((15 : Nat) : Int)).toNat : Nat) : Int) = _
  rw [ofInt_nat, ofInt_nat, BitVec.toNat_and, BitVec.toNat_ofNat, BitVec.toNat_ofNat, Nat.mod_eq_of_lt (by omega), Nat.mod_eq_of_lt (by omega), show (15 : Nat) = 2 ^ 4 - 1 by rfl, Nat.and_two_pow_sub_one_eq_mod, IntKind.wrap_u64]
  omega
theorem conv_any {W : World} {a : Option Addr} {l : List UInt8} (cap n : Nat) (h : Bts W a l) (hn : n = l.length) (h0 : 0 < n) : (convert 35 9 (.slice a n cap)).run Tryz.prog W = .ok (.string (st l)) W := by
  subst hn
  obtain ⟨b, off, rfl, hc⟩ := h (List.length_pos_iff.1 h0)
  have e := run_convert_bytes_arg (P := Tryz.prog) W _ _ Tryz.underlying35 Tryz.underlying5 b off l.length cap (l.map fun x => (x.toNat : Int)) (by simp) (fun i hi => by
    rw [hc i hi]
    simp [bval, hi]) _ Tryz.underlying9
  have e2 : strOfNums (l.map fun x => (x.toNat : Int)) = st l := by
    apply ByteArray.ext
    apply Array.toList_inj.1
    rw [st_data, strOfNums_data, List.map_map]
    have : ∀ x ∈ l, ((fun n : Int => UInt8.ofNat n.toNat) ∘ fun x : UInt8 => (x.toNat : Int)) x = x := by
      intro x _
      simp
    rw [List.map_congr_left this]
    simp
  rw [e, e2]
theorem len65 : Tryz.prog.arrayLen 145 = 65 := by kernel_rfl
theorem und65 : Tryz.prog.underlying 145 = some (.array (Tryz.prog.arrayLen 145) (Tryz.prog.elem 145)) := by kernel_rfl
theorem elem65 : Tryz.prog.elem 145 = 5 := by kernel_rfl
theorem slice65 (g j : Nat) (hj : j < 65) (W : World) : (Instr.sliceAt 145 (.pointer (some ⟨g, 0, none⟩)) (some (.int .i64 (j : Int))) none none).run Tryz.prog W = .ok (.slice (some ⟨g, j, none⟩) (65 - j) (65 - j)) W := by
  rw [run_sliceAt_array_l W 145 ⟨g, 0, none⟩ und65 .i64 (j : Int) (by omega) (by rw [len65]; omega), elem65, size8, len65]
  simp only [Result.andThen, slicedAt, Int.toNat_natCast]
  rw [if_neg (by omega), addr_add]
  simp
/-- What stands in the row's end, and what is still to be written. -/
structure Tail (n u i : Nat) (C : List UInt8) : Prop where
  len : C.length = 65
  lo : 57 ≤ i
  hi : i ≤ 65
  sum : dig 16 n = dig 16 u ++ C.drop i
  less : u < 16 ^ (i - 57)
  pos : i < 65 → 0 < u
theorem Tail.start {n : Nat} (hn : n < 4294967296) : Tail n n 65 (List.replicate 65 0) := ⟨by simp, by omega, by omega, by simp, by simpa using hn, by omega⟩
theorem drop_set {C : List UInt8} {i : Nat} (x : UInt8) (h : i < C.length) : (C.set i x).drop i = x :: C.drop (i + 1) := by
  rw [List.drop_eq_getElem_cons (by simpa using h)]
  simp [List.drop_set_of_lt]
theorem Tail.step {n u i : Nat} {C : List UInt8} (h : Tail n u i C) (hu : 16 ≤ u) : 58 < i ∧ Tail n (u / 16) (i - 1) (C.set (i - 1) (dch (u % 16))) := by
  have h1 : 58 < i := by
    have := h.less
    rcases Nat.lt_or_ge 58 i with g | g
    · exact g
    · have h2 := h.lo
      have : i = 57 ∨ i = 58 := by omega
      rcases this with e | e <;> subst e <;> simp at this <;> omega
  refine ⟨h1, by simpa using h.len, by omega, by have := h.hi; omega, ?_, ?_, by omega⟩
  · rw [h.sum, dig_ge (by omega) hu, drop_set _ (by have := h.len; have := h.hi; omega), List.append_assoc, show i - 1 + 1 = i by omega, List.singleton_append]
  · have := h.less
    rw [show i - 57 = (i - 1 - 57) + 1 by omega, Nat.pow_succ] at this
    omega
theorem Tail.room {n u i : Nat} {C : List UInt8} (h : Tail n u i C) : 57 < i := by
  have h1 := h.less
  have h2 := h.pos
  have h3 := h.lo
  rcases Nat.lt_or_ge 57 i with g | g
  · exact g
  · obtain rfl : i = 57 := by omega
    simp at h1
    omega
theorem Tail.last {n u i : Nat} {C : List UInt8} (h : Tail n u i C) (hu : u < 16) (hi : 57 < i) : dig 16 n = (C.set (i - 1) (dch u)).drop (i - 1) := by
  rw [h.sum, dig_lt hu, drop_set _ (by have := h.len; have := h.hi; omega), show i - 1 + 1 = i by omega, List.singleton_append]

set_option maxHeartbeats 1000000 in
set_option maxRecDepth 100000 in
theorem fmt_run (n : Nat) (hn : n < 4294967296) (w : World) (ht : w.cell? ⟨8, 15, none⟩ = some (.int .u8 4)) :
    Calls Tryz.prog 99 #[.slice none 0 0, .int .u64 (n : Int), .int .i64 16, .bool false, .bool false] w (Tells (.tuple #[.slice none 0 0, .string (st (dig 16 n))]) w) := by
  have HT := Tail.start hn
  have hb : 8 < w.heap.size := block_lt_of_cell ht
  have Ktz := tz_run (w.alloc (Obj.cells Tryz.zeroCells145 145)) (((Stp.alloc [] w _).cell (a := ⟨8, 15, none⟩) hb (by simp)).trans ht)
  have HN := Lib.hid (And.intro (Ba.new w) (Stp.alloc [] w (Obj.cells Tryz.zeroCells145 145)))
  have HB : Hid (∀ i x W, Ba W w.heap.size x → Stp [] w [] W → Stp [] w [] (W.setCell ⟨w.heap.size, i, none⟩ (bval (dch 0))) ) := Lib.hid (fun _ _ _ _ h => (h.fresh (Stp.setCell (F := [w.heap.size]) _ _ (by simp)) (by simp)).none)
  clear HB
  go_enter Tryz.func99, Tryz.ntmps99
  go_wp2_with (first
    | (go_at_call 112; refine (pow2_run _).mono ?_; rintro _ _ ⟨rfl, rfl⟩)
    | (go_at_call 113; refine Ktz.mono ?_; rintro _ _ ⟨rfl, rfl⟩))
  clear Ktz ht
  generalize w.alloc (Obj.cells Tryz.zeroCells145 145) = w1 at *
  have HG : Aside (∀ (i : Nat) (v : Value) (W : World), Stp [] w [] W → Stp [] w [] (W.setCell ⟨w.heap.size, i, none⟩ v)) := fun i v W h => (h.fresh (Stp.setCell (F := [w.heap.size]) _ _ (by simp)) (by simp)).none
  generalize w.heap.size = g at *
  go_loopg [1, 13] n (fun gk v1 v13 wr => ∃ u i : Nat, v1 = .int .u64 (u : Int) ∧ v13 = .int .i64 (i : Int) ∧ u ≤ gk ∧ u ≤ n ∧ 57 ≤ i ∧ i ≤ 65 ∧ Aside (∃ C, Tail n u i C ∧ Ba wr g C ∧ Stp [] w [] wr))
  case atStart => exact ⟨n, 65, rfl, rfl, by omega, by omega, by omega, by omega, _, HT, HN.out.1, HN.out.2⟩
  case round =>
    obtain ⟨u, i, rfl, rfl, hg, hun, hi0, hi1, HS⟩ := hrel
    obtain ⟨C, hT, hB, hS⟩ := HS.out
    clear HS HN HT
    by_cases hu : 16 ≤ u
    · have huz : (16 : Int) ≤ (u : Int) := by omega
      obtain ⟨h58, hT'⟩ := hT.step hu
      have h1 := and15 u (by omega)
      have h2 := digit_run (u % 16) (by omega)
      have hc := hB.cell (i := i - 1) (by have := hT.len; omega)
      have hf := hB.fz (i - 1)
      have hsh : (u : Int) / 16 = ((u / 16 : Nat) : Int) := by omega
      have HR : Aside (Ba (wr.setCell ⟨g, i - 1, none⟩ (bval (dch (u % 16)))) g (C.set (i - 1) (dch (u % 16))) ∧ Stp [] w [] (wr.setCell ⟨g, i - 1, none⟩ (bval (dch (u % 16))))) := ⟨hB.set _ _, HG.out _ _ _ hS⟩
      have HT' : Aside (Tail n (u / 16) (i - 1) (C.set (i - 1) (dch (u % 16)))) := hT'
      obtain ⟨j, hj⟩ : ∃ j, j + 1 = i := ⟨i - 1, by omega⟩
      subst hj
      simp only [Nat.add_sub_cancel] at hc hf HR HT'
      generalize dch (u % 16) = x at *
      generalize bval (C[j]!) = z at *
      generalize C.set j x = C' at *
      unfold bval at h2 HR
      clear hT hT' hB hS HG
      generalize u / 16 = q at *
      generalize u % 16 = r at *
      have hq : q ≤ gk - 1 := by omega
      unfold D36 at h2
      go_wp2
      go_roundg (gk - 1)
      case measure => omega
      case rel => exact ⟨q, j, by go_num, by go_num, by omega, by omega, by omega, by omega, _, HT'.out, HR.out.1, HR.out.2⟩
    · have huz : ¬ (16 : Int) ≤ (u : Int) := by omega
      have h57 := hT.room
      have hL := hT.last (by omega) h57
      have h2 := digit_run u (by omega)
      have hc := hB.cell (i := i - 1) (by have := hT.len; omega)
      have hf := hB.fz (i - 1)
      have hB2 := hB.set (i - 1) (dch u)
      have hS2 := HG.out (i - 1) (bval (dch u)) _ hS
      have hl2 : (C.set (i - 1) (dch u)).length = 65 := by simpa using hT.len
      obtain ⟨j, hj⟩ : ∃ j, j + 1 = i := ⟨i - 1, by omega⟩
      subst hj
      simp only [Nat.add_sub_cancel] at hc hf hB2 hS2 hL hl2
      have hconv := conv_any (65 - j) (65 - j) (hB2.bts j (by omega)) (by rw [List.length_drop]; omega) (by omega)
      rw [← hL] at hconv
      have HE : Aside (Stp [] w [] (wr.setCell ⟨g, j, none⟩ (bval (dch u)))) := hS2
      generalize dch u = x at *
      generalize bval (C[j]!) = z at *
      unfold bval at h2 hconv HE
      clear hT hB hS HG hB2 hS2 hL hl2
      unfold D36 at h2
      have hsl := slice65 g j (by omega)
      go_wp2
      go_ret2
      exact ⟨rfl, HE.out⟩
set_option maxHeartbeats 1000000 in
set_option maxRecDepth 100000 in
theorem fmtI_run (n : Nat) (hn : n < 4294967296) (w : World) (ht : w.cell? ⟨8, 15, none⟩ = some (.int .u8 4)) :
    Calls Tryz.prog 93 #[.int .u64 (n : Int), .int .i64 16] w (Tells (.string (st (dig 16 n))) w) := by
  have K := fmt_run n hn w ht
  go_enter Tryz.func93, Tryz.ntmps93
  go_wp2_with (go_at_call 99; refine K.mono ?_; rintro _ w' ⟨rfl, hs⟩)
  go_ret
  exact ⟨rfl, hs⟩
set_option maxHeartbeats 1000000 in
set_option maxRecDepth 100000 in
theorem hex_run (n : Nat) (hn : n < 4294967296) (w : World) (ht : w.cell? ⟨8, 15, none⟩ = some (.int .u8 4)) :
    Calls Tryz.prog 81 #[.int .u64 (n : Int), .int .i64 16] w (Tells (.string (st (dig 16 n))) w) := by
  have K := fmtI_run n hn w ht
  go_enter Tryz.func81, Tryz.ntmps81
  go_wp2_with (go_at_call 93; refine K.mono ?_; rintro _ w' ⟨rfl, hs⟩)
  go_ret
  exact ⟨rfl, hs⟩

end Go.Proofs.YthfiilhbgogoaaaGreatDoor
