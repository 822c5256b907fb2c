/-
  slices.Clone and moment.Sort at moments: of at most 1000 moments those in order, in a row of the call's own.
-/
import Derived.Test.YtbipkelocbkccaaOwn
import Derived.OwnWalk
namespace Go.Proofs.Ytbipkelocbkccaa
open Go.RowKit Go.Lib
set_option linter.unusedVariables false

theorem own_base {w : World} {base : Nat} {v : Value} {xs : List Mo} (h : Own w base v xs) : ∀ j, v.ownBlock = some j → base ≤ j := fun j hj => (World.ownsRow.lt h j hj).1
theorem own_new (w : World) : Own (w.alloc (.cells #[] 23)) w.heap.size (.slice (some ⟨w.heap.size, 0, none⟩) 0 0) [] :=
  ⟨by simp, .inr ⟨w.heap.size, 0, #[], rfl, Nat.le_refl _, heap_alloc_new w _, by simp, by simp, by simp, by simp⟩⟩

theorem nil_eql (a : Option Addr) (n c : Nat) (w : World) : (binOp .eql 34 (.slice a n c) (.slice none 0 0)).run Try.prog w = .ok (.bool a.isNone) w := by
  simp only [binOp]
  simp [run_equal_slice_nil w 34 23 a n c Try.underlying34]
theorem clone_none (w : World) : Calls Try.prog 29 #[.slice none 0 0] w fun e w' => e = .returned (.slice none 0 0) ∧ w' = w := by
  have hq := nil_eql none 0 0
  go_enter Try.func29, Try.ntmps29
  go_wp2
  go_ret
  exact ⟨rfl, rfl⟩

theorem clone_some (ad : Addr) (c : Nat) (l : List Mo) (w : World) (h : Ms w (some ad) l) (hl : l.length ≤ 1000) : Calls Try.prog 29 #[.slice (some ad) l.length c] w
    fun e w' => ∃ v, e = .returned v ∧ Own w' w.heap.size v l ∧ Below w.heap.size w w' := by
  have hB0 : Below w.heap.size w (w.alloc (.cells #[] 23)) := (Below.refl _ _).alloc (Nat.le_refl _) _
  have Q0 := Lib.hid (own_new w)
  have H0 := Lib.hid h
  have hq := nil_eql (some ad) l.length c
  clear h
  go_enter Try.func29, Try.ntmps29
  go_wp2_with (first
    | (at_builtin
       refine wpList_app rfl (.tmp 5) (.tmp 6) rfl w.heap.size (.slice (some ⟨w.heap.size, 0, none⟩) 0 0) [] rfl Q0.out (some ad) c l rfl (H0.out.below hB0) (fun h => by cases h) (by simp; omega) hB0.size ?_
       intro y1 w1 hown1 hg1 hat1
       have hC1 : Below w.heap.size w w1 := hB0.grown hg1 hB0.size (fun k hk => by simp [Value.ownBlock] at hk; omega)))
  go_ret
  exact ⟨_, rfl, by simpa using hown1, hC1⟩

theorem sort_at (w w1 : World) (v : Value) (l : List Mo) (hl : l.length ≤ 1000) (ho : Own w1 w.heap.size v l) (hb : Below w.heap.size w w1) :
    Calls Try.prog 30 #[v, .func (.func 12) #[] #[]] w1
      fun e w' => e = .returned (.tuple #[]) ∧ ∃ a cap z, v = .slice a z.length cap ∧ SS l z ∧ MsIn w' w.heap.size a z ∧ (a = none → cap = 0) ∧ Below w.heap.size w w' := by
  rcases ho.form with ⟨rfl, rfl⟩ | ⟨g, cap, rfl⟩
  · refine (sortStable0 w1).mono ?_
    rintro e w' ⟨he, rfl⟩
    exact ⟨he, none, 0, [], rfl, ⟨by unfold Sortd; simp, Eqv.refl _⟩, fun g => absurd rfl g, fun _ => rfl, hb⟩
  · obtain ⟨h1, h2, h3, h4, h5⟩ := ho.cell
    have hH : Sort.Holds encM w1 g 0 l.toArray := by
      intro j hj
      have hj' : j < l.length := by simpa using hj
      rw [Nat.zero_add]
      have := h5 j hj'
      rw [show l.toArray[j]! = l[j]! by simp]
      exact this
    have hR : Ro w1 g 0 l.length := ⟨⟨l.toArray, by simp, encM_one, hH, h2⟩, by omega⟩
    refine (sortStable w1 w1 g 0 cap l.length l hR hl ⟨rfl, SW.start hH⟩).mono ?_
    rintro e w' ⟨he, z, hz, hA⟩
    have zl := hA.len
    refine ⟨he, some ⟨g, 0, none⟩, cap, z, by rw [zl], hz, fun _ => ⟨g, 0, rfl, h1, hA.sw.lt h2, fun i hi => hA.cellI hR (by omega)⟩, (fun h => by cases h), hb.trans (sw_below hA.sw h1 h2)⟩

theorem sort_any (a : Option Addr) (c : Nat) (l : List Mo) (w : World) (h : Ms w a l) (hc : a = none → c = 0) (hl : l.length ≤ 1000) : Calls Try.prog 20 #[.slice a l.length c] w (Made (SS l) w) := by
  have K1 : Hid (Calls Try.prog 29 #[.slice a l.length c] w fun e w' => ∃ v, e = .returned v ∧ Own w' w.heap.size v l ∧ Below w.heap.size w w') := by
    rcases a with _ | ad
    · obtain rfl := hc rfl
      have : l = [] := by
        rcases Classical.em (l = []) with e | e
        · exact e
        · obtain ⟨b, off, h, _⟩ := h e
          cases h
      subst this
      refine (clone_none w).mono ?_
      rintro e w' ⟨he, rfl⟩
      exact ⟨_, he, World.ownsRow_nil _ _ _ _, Below.refl _ _⟩
    · exact clone_some ad c l w h hl
  clear h hc
  go_enter Try.func20, Try.ntmps20
  go_wp2_with fail
  refine K1.out.mono ?_
  rintro _ w1 ⟨v, rfl, ho, hb⟩
  have K2 := Lib.hid (sort_at w w1 v l hl ho hb)
  clear K1 ho hb
  go_wp2_with fail
  refine K2.out.mono ?_
  rintro _ w2 ⟨rfl, a', cap', z, rfl, H2⟩
  have H2 := Lib.hid H2
  clear K2
  go_wp2
  go_ret
  exact ⟨a', cap', z, rfl, H2.out.1, H2.out.2.1, H2.out.2.2.1, H2.out.2.2.2⟩
end Go.Proofs.Ytbipkelocbkccaa
