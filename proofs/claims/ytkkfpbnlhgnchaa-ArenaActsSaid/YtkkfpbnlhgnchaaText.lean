/-
  The statements' own helpers: text, cells, size; and the document's example.
-/
import Derived.Test.YtkkfpbnlhgnchaaZero
namespace Go.Proofs.Ytkkfpbnlhgnchaa
open Go.RowKit Go.Lib
set_option linter.unusedVariables false

/-- The text of a list of bytes. -/
def str (l : List UInt8) : ByteArray := strOfNums (l.map fun x => (x.toNat : Int))
theorem str_data (l : List UInt8) : (str l).data.toList = l := by
  simp only [str, strOfNums_data, List.map_map]
  have : ∀ x ∈ l, ((fun n : Int => UInt8.ofNat n.toNat) ∘ fun x : UInt8 => (x.toNat : Int)) x = x := by
    intro x _
    simp
  rw [List.map_congr_left this]
  simp
theorem str_inj {l m : List UInt8} (h : str l = str m) : l = m := by
  rw [← str_data l, ← str_data m, h]
theorem str_size (l : List UInt8) : (str l).size = l.length := by
  have := congrArg List.length (str_data l)
  simpa using this
theorem conv_bts {W : World} {a : Option Addr} {l : List UInt8} (cap n : Nat) (h : Bts W a l) (hn : n = l.length) : (convert 31 9 (.slice a n cap)).run Try.prog W = .ok (.string (str l)) W := by
  subst hn
  by_cases hl : l = []
  · subst hl
    have e0 : str [] = ByteArray.empty := rfl
    rw [e0, List.length_nil]
    rcases a with _ | ⟨b, off, spot⟩
    · exact run_convert_bytes_nil W _ _ Try.underlying31 Try.underlying5 0 cap _ Try.underlying9
    · rw [run_convert_bytes_string W _ _ _ _ _ cap Try.underlying31 Try.underlying5 Try.underlying9]
      have h0 := run_loadCells_list (P := Try.prog) W ⟨b, off, spot⟩ [] (by simp)
      rw [run_bytesToString W _ 0 cap [] (by simpa using h0)]
      rfl
  · obtain ⟨b, off, rfl, hc⟩ := h hl
    refine run_convert_bytes_arg W _ _ Try.underlying31 Try.underlying5 b off l.length cap (l.map fun x => (x.toNat : Int)) (by simp) (fun i hi => ?_) _ Try.underlying9
    rw [hc i hi]
    simp [bval, hi]

theorem max_nat (n : Nat) : ∀ (w : World) (ts : Array TypeId) (t : TypeId), (Builtin.max_ ts t #[.int .i64 0, .int .i64 (n : Int)]).run Try.prog w = .ok (.int .i64 (n : Int)) w := fun w ts t => by
  rw [run_max_int2]
  by_cases h : (n : Int) > 0
  · rw [if_pos h]
  · rw [if_neg h, show (n : Int) = 0 by omega]
theorem min_nat (n m : Nat) (h : n ≤ m) : ∀ (w : World) (ts : Array TypeId) (t : TypeId), (Builtin.min_ ts t #[.int .i64 (n : Int), .int .i64 (m : Int)]).run Try.prog w = .ok (.int .i64 (n : Int)) w := fun w ts t => by
  rw [run_min_int2, if_neg (by omega)]
/-- A new row of noughts, by a name of its own. -/
theorem make_obj (n : Nat) (hn : n ≤ 1000000) : ∃ o, Hid (o = Obj.cells ((List.replicate n (0 : UInt8)).map bval).toArray 5) ∧ ∀ (w : World) (kl kc : IntKind), (Instr.makeSlice 31 (.int kl (n : Int)) (.int kc (n : Int))).run Try.prog w = .ok (.slice (some ⟨w.heap.size, 0, none⟩) n n) (w.alloc o) :=
  ⟨_, Lib.hid rfl, fun w kl kc => make_any w kl kc n hn⟩
theorem new_blk {o : Obj} {n : Nat} (w : World) (h : Hid (o = Obj.cells ((List.replicate n (0 : UInt8)).map bval).toArray 5)) : Blk (w.alloc o) w.heap.size (List.replicate n 0) := by
  unfold Blk
  rw [heap_alloc_new, h.out]

section
variable {W : World} {b g N : Nat} {l : List UInt8}
/-- What text answers. -/
def Texts (l : List UInt8) (W : World) (e : Ending) (w' : World) : Prop := e = .returned (.string (str l)) ∧ Stp [] W [] w'
theorem text_run (h : Ar W b g N l) : Calls Try.prog 21 #[.pointer (some ⟨b, 0, none⟩)] W (Texts l W) := by
  have K1 := Lib.hid (len_cl h)
  obtain ⟨n, hn⟩ : ∃ n, n = l.length := ⟨_, rfl⟩
  rw [← hn] at K1
  have hle := h.le
  have htop := h.top
  have hn2 : n ≤ 4096 := by omega
  have hn3 : (n : Int) ≤ 4096 := by omega
  obtain ⟨o, ho, hmk⟩ := make_obj n (by omega)
  have hmx := max_nat n
  have hmn := min_nat n n (Nat.le_refl _)
  have s1 := cut_h (some ⟨W.heap.size, 0, none⟩) n n n (Nat.le_refl _)
  have K2 := Lib.hid (copy_run (Ar.stays h (Stp.alloc [] W o)) W.heap.size n n (List.replicate n 0) (new_blk W ho) (by simp) (by have := h.row.lt; omega))
  rw [← hn, Nat.min_self] at K2
  have H := Lib.hid (And.intro h hn)
  clear h hn hle htop
  go_enter Try.func21, Try.ntmps21
  go_wp2_with fail
  refine K1.out.mono ?_
  rintro _ W ⟨rfl, rfl⟩
  clear K1
  go_wp2_with fail
  refine K2.out.mono ?_
  rintro _ w1 ⟨rfl, hB, hs⟩
  have e : lay (List.replicate n 0) 0 (l.take n) = l := by
    have hn := H.out.2
    subst hn
    simp [lay]
  rw [e] at hB
  have cv := conv_bts n n hB.bts H.out.2
  have H1 : Aside (Stp [] W [] w1) := by
    refine ((Stp.alloc [] W o).fresh hs (fun k hk => ?_)).none
    simp at hk
    omega
  clear K2 hB hs e
  go_wp2
  go_ret
  exact ⟨rfl, H1.out⟩
end
end Go.Proofs.Ytkkfpbnlhgnchaa
