/-
  The document: Text.
-/
import Derived.Test.YtngbpkbojjipgaaDoorDec
import Derived.Test.YtngbpkbojjipgaaDoorNam
import Derived.Test.YtngbpkbojjipgaaDoorTextK
namespace Go.Proofs.YtngbpkbojjipgaaDoor
open Go.RowKit Go.Lib
set_option linter.unusedVariables false

/-- A row of names as cells. -/
def Nrow (W : World) (g : Nat) : Prop := ∀ i, i < 16 → W.cell? ⟨g, i, none⟩ = some (.string (st (kn i)))
theorem Nrow.stays {W W' : World} {g : Nat} (h : Nrow W g) (hs : Stp [] W [] W') : Nrow W' g := fun i hi => hs.keeps rfl (h i hi)
theorem kns_at : ∀ i, i < 16 → kns[i]? = some (kn i) := by decide +kernel
theorem SOwn.nrow {w : World} {base : Nat} {v : Value} (h : SOwn w base v kns) : ∃ g cap, v = .slice (some ⟨g, 0, none⟩) 16 cap ∧ 16 ≤ cap ∧ cap ≤ maxLen ∧ Nrow w g := by
  obtain ⟨a, cap, hv, hn, hc, hm, hr⟩ := h.form
  rcases a with _ | ad
  · have := (hn rfl).2
    cases this
  · obtain ⟨g, rfl, _, _, hcell⟩ := hr ad rfl
    exact ⟨g, cap, hv, hc, hm, fun i hi => hcell i _ (kns_at i hi)⟩
def NamedG (w : World) (e : Ending) (w' : World) : Prop := ∃ g cap, e = .returned (.slice (some ⟨g, 0, none⟩) 16 cap) ∧ 16 ≤ cap ∧ cap ≤ maxLen ∧ Nrow w' g ∧ Stp [] w [] w'
theorem Named.g {w : World} {e : Ending} {w' : World} (h : Named w e w') : NamedG w e w' := by
  obtain ⟨v, he, ho, hs⟩ := h
  obtain ⟨g, cap, rfl, h1, h2, h3⟩ := ho.nrow
  exact ⟨g, cap, he, h1, h2, h3, hs⟩

set_option maxHeartbeats 1000000 in
set_option maxRecDepth 100000 in
theorem rtext_run (n m : Nat) (h : chk (n : Int) (m : Int) = 0) (w : World) : Calls Tryd.prog 19 #[kv n m] w (Tells (.string (st (ktx n m))) w) := by
  obtain ⟨n', m', e1, e2, hn, h0, h1⟩ := chk_zero h
  obtain rfl : n = n' := by omega
  obtain rfl : m = m' := by omega
  have KR : Hid (∀ W, Calls Tryd.prog 10 #[] W (NamedG W)) := Lib.hid fun W => (rnames_run W).mono fun e w' h => h.g
  unfold kv
  by_cases g : n = 0
  · subst g
    have hm := (h0 rfl).2
    have KD : Hid (∀ W, Calls Tryd.prog 33 #[.int .i64 (m : Int), .int .i64 10] W (Tells (.string (st (dig 10 m))) W)) := Lib.hid fun W => dec_run m 10 (.inl rfl) (by omega) W
    have z3 := st_size (dig 10 m)
    have z4 := dig7 hm
    have e3 : ⟨#[114, 117, 110, 101, 32]⟩ ++ st (dig 10 m) = st (ktx 0 m) := by
      have : (⟨#[114, 117, 110, 101, 32]⟩ : ByteArray) = st (kn 0 ++ [32]) := rfl
      rw [this, st_append]
      unfold ktx
      simp
    clear h0 h1 hn h e1 e2
    generalize st (dig 10 m) = x2 at *
    generalize (dig 10 m).length = L at *
    generalize st (ktx 0 m) = x3 at *
    go_enter Tryd.func19, Tryd.ntmps19
    go_wp2_with fail
    refine (KR.out _).mono ?_
    rintro _ w1 ⟨g1, p1, rfl, hc1, hm1, n1, h1⟩
    have HS1 : Aside (At2 w1 w.heap.size 0 (m : Int) ∧ Stp [] w [] w1) := ⟨(At2.new w 0 (m : Int)).stays h1, (Stp.alloc [] w _).trans h1⟩
    obtain ⟨c0, c1, _, _⟩ := HS1.out.1.cells
    have hl := HS1.out.1.lt
    clear n1 h1
    go_wp2_with (go_at_call 33; refine (KD.out _).mono ?_; rintro _ w2 ⟨rfl, s2⟩)
    go_ret
    exact ⟨rfl, HS1.out.2.trans s2⟩
  · obtain rfl := h1 g
    have HV : Aside (st (ktx n 0) = st (kn n)) := by
      show st (ktx n 0) = st (kn n)
      unfold ktx
      rw [if_neg g]
    have hk : (((n : Nat) : Int) == 0) = false := beq_eq_false_iff_ne.2 (by omega)
    have hnz : ((n : Nat) : Int) < 16 := by omega
    clear h0 h1 h e1 e2 g
    go_enter Tryd.func19, Tryd.ntmps19
    go_wp2_with fail
    refine (KR.out _).mono ?_
    rintro _ w1 ⟨g1, p1, rfl, hc1, hm1, n1, h1⟩
    have HS1 : Aside (At2 w1 w.heap.size (n : Int) 0 ∧ Stp [] w [] w1) := ⟨(At2.new w (n : Int) 0).stays h1, (Stp.alloc [] w _).trans h1⟩
    obtain ⟨c0, c1, _, _⟩ := HS1.out.1.cells
    have hl := HS1.out.1.lt
    have d1 := n1 n hn
    clear n1 h1
    generalize st (kn n) = x2 at *
    go_wp2
    go_ret
    exact ⟨by rw [HV.out]; rfl, HS1.out.2⟩
end Go.Proofs.YtngbpkbojjipgaaDoor
