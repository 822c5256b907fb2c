/-
  escseq.Known: the sequences that are keys, in their order.
-/
import Derived.Test.YtndofkjmbipagaaShelf
import Derived.Test.YtndofkjmbipagaaRefKn
import Derived.Sort.KeysCollected
import Derived.CallsIn
namespace Go.Proofs
open Go.RowKit Go.Maps Go.Sort Go.Shelf

/-- slices.Sort's two contracts at this dump, at the fence that asks nothing. -/
theorem Try.sorts17 (m : Nat) : AnyZ.SortsIn Try.prog Try.sorted17_ren Fence.wide m :=
  ⟨fun blk off cap ss W hH hblk hsz => callsIn_wide.2 (AnyM.slices_Sort_string Try.sort21 blk off cap ss W hH hblk hsz),
   fun p cap W => callsIn_wide.2 (AnyM.slices_Sort_string_none Try.sort21 p cap W)⟩

/-- **maps.Keys[map[string]int,string,int], at whatever map, the nil one too:** a function value over ONE NEW BLOCK, which holds the map. -/
theorem Try.maps_Keys_18 (mb : Option Nat) (W : World) : CallsIn Fence.wide 5 Try.prog 18 #[.map mb] W fun e w' => e = .returned (.func (.func 22) #[] #[.pointer (some ⟨W.heap.size, 0, none⟩)]) ∧ w' = W.alloc (.cells #[.map mb] 39) :=
  AnyZ.keys_in Try.keys18 Fence.wide 5 trivial rfl mb W

set_option maxHeartbeats 1000000 in
/-- **slices.Sorted[string] AT WHAT maps.Keys[map[string]int,string,int] HANDED BACK FOR A MAP THAT IS NOT nil** ('w': the world AHEAD of maps.Keys' call): A NEW SLICE THAT HOLDS THE MAP's KEYS, SORTED; nil just where it has none; nothing that lay before has turned. -/
theorem Try.slices_Sorted_keys_17_18 {H : Type} (b nn : Nat) (D0 : DataW H) (R : Value → Option (DataW H × List MemPlace)) (w : World) (hown : w.ownsMap Try.prog 9 R b nn D0) (hmax : Maps.size D0 ≤ maxLen) (hbytes : Maps.size D0 * 16 ≤ 140737488355328) :
    CallsIn Fence.wide 5 Try.prog 17 #[.func (.func 22) #[] #[.pointer (some ⟨w.heap.size, 0, none⟩)]] (w.alloc (.cells #[.map (some b)] 39)) fun e w' => ∃ (v : Value) (ss : List (List UInt8)), e = .returned v ∧ ss.Perm (strKeys D0) ∧
      w'.ownsRow (w.alloc (.cells #[.map (some b)] 39)).heap.size 9 1 v ss.length ((ss.mergeSort (fun x y => decide (x ≤ y))).map encStr) ∧ (v = .slice none 0 0 ↔ ss = []) ∧ Below (w.alloc (.cells #[.map (some b)] 39)).heap.size (w.alloc (.cells #[.map (some b)] 39)) w' := by
  have hbl := hown.lt
  have hseq : SeqGives Fence.wide 2 Try.prog 22 #[.pointer (some ⟨w.heap.size, 0, none⟩)] encStr (fun ss => ss.Perm (strKeys D0)) (Maps.size D0) (w.alloc (.cells #[.map (some b)] 39)) :=
    AnyZ.keys_gives (ρ := Try.keys18_ren) { Try.keys18 with } Fence.wide _ trivial rfl (by omega) w.heap.size b nn D0 _ (by simp) (by simp) (by
      obtain ⟨es, clock, hb, Ft, hs, hD⟩ := hown
      exact ⟨es, clock, (Below.heap_alloc _ _ b hbl).trans hb, Ft, hs, hD⟩)
  exact AnyZ.sorted_in Try.sorted17 Fence.wide 5 trivial trivial trivial trivial rfl (by omega) (Try.sorts17 _) (enters_of Try.func21 (by kernel_rfl) rfl) 22 #[.pointer (some ⟨w.heap.size, 0, none⟩)] trivial (enters_of Try.func22 (by kernel_rfl) rfl) _ _ hmax hbytes _ hseq

end Go.Proofs
namespace Go.Proofs.Ytndofkjmbipagaa
open Go.RowKit Go.Lib Go.Maps Go.Sort Go.Shelf
set_option linter.unusedVariables false

theorem keys_perm : (strKeys (cm kns)).Perm kno := by decide
/-- The list of the caller's own. -/
def Lown (w : World) (e : Ending) (w' : World) : Prop := ∃ v, e = .returned v ∧ SOwn w' w.heap.size v kno ∧ Stp [] w [] w'
theorem kno_sorted : kno.mergeSort leB = kno := List.mergeSort_of_pairwise (by decide)
theorem leB_eq : (fun x y : List UInt8 => decide (x ≤ y)) = leB := rfl
theorem cm_size : Maps.size (cm kns) = 15 := by decide
set_option maxHeartbeats 1000000 in
theorem all_run (w : World) : Calls Try.prog 12 #[] w (Lown w) := by
  refine (callsIn_wide (n := 6)).1 ?_
  have hfK : Fence.wide.fn 18 := trivial
  have hfS : Fence.wide.fn 17 := trivial
  have hfW : Fence.wide.fn 15 := trivial
  refine callsIn_of_wp Try.func12 rfl trivial ?_ rfl
  simp only [Try.ntmps12, List.size_toArray, List.length_nil, Nat.reduceSub, Array.replicate_succ, Array.replicate_zero, List.push_toArray, List.append_toArray, List.nil_append, List.cons_append]
  gi_wp2_with (first
    | (gi_at_call 15; refine (callsIn_wide.2 (known_run _)).mono ?_; rintro e w1 ⟨b, rfl, om, s1⟩)
    | (gi_at_call 18; refine (Try.maps_Keys_18 _ _).mono ?_; rintro e w' ⟨rfl, rfl⟩)
    | (gi_at_call 17; refine (Try.slices_Sorted_keys_17_18 b 15 (cm kns) _ w1 om (by rw [cm_size]; decide) (by rw [cm_size]; decide)).mono ?_; rintro e w2 ⟨v, ss, rfl, hS, hrow, hnil, hb⟩))
  go_ret
  have hp := hS.trans keys_perm
  have hlen : ss.length = kno.length := hp.length_eq
  have hms : ss.mergeSort (fun x y => decide (x ≤ y)) = kno := by rw [leB_eq, mergeSort_of_perm hp, kno_sorted]
  rw [hms, hlen] at hrow
  have hs2 : Stp [] w [] w2 := s1.trans ((Stp.alloc [] w1 _).trans (Stp.of_below hb))
  refine ⟨v, rfl, ?_, hs2⟩
  exact Joins.ownsRow_le hrow (by have := s1.size; rw [World.size_alloc]; omega)
end Go.Proofs.Ytndofkjmbipagaa
