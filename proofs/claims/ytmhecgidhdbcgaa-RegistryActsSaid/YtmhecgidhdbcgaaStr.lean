/-
  Texts of bytes; least and greatest; a new row of noughts.
-/
import Derived.Test.YtmhecgidhdbcgaaZero
namespace Go.Proofs.Ytmhecgidhdbcgaa
open Go.RowKit Go.Lib
set_option linter.unusedVariables false

/-- The text of a list of bytes. -/
def str (l : List UInt8) : ByteArray := strOfNums (l.map fun x => (x.toNat : Int))
theorem str_data (l : List UInt8) : (str l).data.toList = l := by
  simp only [str, strOfNums_data, List.map_map]
  have : ∀ x ∈ l, ((fun n : Int => UInt8.ofNat n.toNat) ∘ fun x : UInt8 => (x.toNat : Int)) x = x := by
    intro x _
    simp
  rw [List.map_congr_left this]
  simp
theorem str_inj {l m : List UInt8} (h : str l = str m) : l = m := by
  rw [← str_data l, ← str_data m, h]
theorem str_size (l : List UInt8) : (str l).size = l.length := by
  have := congrArg List.length (str_data l)
  simpa using this
theorem conv_bts {W : World} {a : Option Addr} {l : List UInt8} (cap n : Nat) (h : Bts W a l) (hn : n = l.length) : (convert 47 9 (.slice a n cap)).run Try.prog W = .ok (.string (str l)) W := by
  subst hn
  by_cases hl : l = []
  · subst hl
    have e0 : str [] = ByteArray.empty := rfl
    rw [e0, List.length_nil]
    rcases a with _ | ⟨b, off, spot⟩
    · exact run_convert_bytes_nil W _ _ Try.underlying47 Try.underlying5 0 cap _ Try.underlying9
    · rw [run_convert_bytes_string W _ _ _ _ _ cap Try.underlying47 Try.underlying5 Try.underlying9]
      have h0 := run_loadCells_list (P := Try.prog) W ⟨b, off, spot⟩ [] (by simp)
      rw [run_bytesToString W _ 0 cap [] (by simpa using h0)]
      rfl
  · obtain ⟨b, off, rfl, hc⟩ := h hl
    refine run_convert_bytes_arg W _ _ Try.underlying47 Try.underlying5 b off l.length cap (l.map fun x => (x.toNat : Int)) (by simp) (fun i hi => ?_) _ Try.underlying9
    rw [hc i hi]
    simp [bval, hi]

theorem max_nat (n : Nat) : ∀ (w : World) (ts : Array TypeId) (t : TypeId), (Builtin.max_ ts t #[.int .i64 0, .int .i64 (n : Int)]).run Try.prog w = .ok (.int .i64 (n : Int)) w := fun w ts t => by
  rw [run_max_int2]
  by_cases h : (n : Int) > 0
  · rw [if_pos h]
  · rw [if_neg h, show (n : Int) = 0 by omega]
theorem min_nat (n m : Nat) (h : n ≤ m) : ∀ (w : World) (ts : Array TypeId) (t : TypeId), (Builtin.min_ ts t #[.int .i64 (n : Int), .int .i64 (m : Int)]).run Try.prog w = .ok (.int .i64 (n : Int)) w := fun w ts t => by
  rw [run_min_int2, if_neg (by omega)]
/-- A new row of noughts, by a name of its own. -/
theorem make_obj (n : Nat) (hn : n ≤ 1000000) : ∃ o, Hid (o = Obj.cells ((List.replicate n (0 : UInt8)).map bval).toArray 5) ∧ ∀ (w : World) (kl kc : IntKind), (Instr.makeSlice 47 (.int kl (n : Int)) (.int kc (n : Int))).run Try.prog w = .ok (.slice (some ⟨w.heap.size, 0, none⟩) n n) (w.alloc o) :=
  ⟨_, Lib.hid rfl, fun w kl kc => make_any w kl kc n hn⟩
theorem new_blk {o : Obj} {n : Nat} (w : World) (h : Hid (o = Obj.cells ((List.replicate n (0 : UInt8)).map bval).toArray 5)) : Blk (w.alloc o) w.heap.size (List.replicate n 0) := by
  unfold Blk
  rw [heap_alloc_new, h.out]

end Go.Proofs.Ytmhecgidhdbcgaa
