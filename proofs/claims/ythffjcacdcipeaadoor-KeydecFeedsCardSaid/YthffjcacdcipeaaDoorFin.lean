/-
  The decoder: Finish. And the statements' own begin, text, great.
-/
import Derived.Test.YthffjcacdcipeaaDoorFeed
namespace Go.Proofs.YthffjcacdcipeaaDoor
open Go.RowKit Go.Lib
set_option linter.unusedVariables false

/-- The key of what is held at the end. -/
def lastk : List UInt8 → List Ky
  | [] => []
  | c :: _ => if c = 27 then [(15, 0)] else [(0, 65533)]
theorem ofk_instead : K.ofk 65533 = (0, 65533) := by decide +kernel
theorem lastk_len (h : List UInt8) : (lastk h).length ≤ 1 := by
  rcases h with _ | ⟨c, r⟩
  · simp [lastk]
  · show (if c = 27 then [((15, 0) : Ky)] else [(0, 65533)]).length ≤ 1
    split <;> simp
theorem KOwn.one (w : World) (x : Ky) : KOwn (w.alloc (.cells #[.int .i64 x.1, .int .i64 x.2] 41)) w.heap.size (.slice (some ⟨w.heap.size, 0, none⟩) 1 1) [x] :=
  ⟨by simp [kcs], .inr ⟨w.heap.size, 1, _, rfl, Nat.le_refl _, heap_alloc_new w _, by simp, by simp [maxLen], by simp, by simp [kcs]⟩⟩
theorem KOwn.two (w : World) (x y : Ky) : KOwn (w.alloc (.cells #[.int .i64 x.1, .int .i64 x.2, .int .i64 y.1, .int .i64 y.2] 41)) w.heap.size (.slice (some ⟨w.heap.size, 0, none⟩) 2 2) [x, y] :=
  ⟨by simp [kcs], .inr ⟨w.heap.size, 2, _, rfl, Nat.le_refl _, heap_alloc_new w _, by simp, by simp [maxLen], by simp, by simp [kcs]⟩⟩
theorem finish_nil (W : World) : Calls Tryd.prog 21 #[.pointer none] W (Gives (.tuple #[.slice none 0 0, .int .i64 1]) W) := by
  go_enter Tryd.func21, Tryd.ntmps21
  go_wp2
  go_ret2
  exact ⟨rfl, rfl⟩
set_option maxHeartbeats 1000000 in
set_option maxRecDepth 100000 in
theorem finish_run {W : World} {d b g N : Nat} {l : List UInt8} {p : Bool} (h : Dc W d b g N l p) : Calls Tryd.prog 21 #[.pointer (some ⟨d, 0, none⟩)] W (Fed W d b g N ⟨lastk l, [], p⟩) := by
  have HB := Lib.hid h
  have c0 := h.c0
  have K1 := Lib.hid (len_cl h.ar)
  have K3 := Lib.hid (wipe_run h.ar)
  rcases l with _ | ⟨c, r⟩
  · have i0 : (((([] : List UInt8).length : Nat) : Int) == 0) = true := rfl
    clear h K3
    go_enter Tryd.func21, Tryd.ntmps21
    go_wp2_with fail
    refine K1.out.mono ?_
    rintro _ w1 ⟨rfl, rfl⟩
    clear K1
    go_wp2
    go_ret2
    exact ⟨_, rfl, KOwn.nil _ _, HB.out, Stp.refl _ _⟩
  · have i0 : ((((c :: r).length : Nat) : Int) == 0) = false := beq_eq_false_iff_ne.2 (by simp only [List.length_cons]; omega)
    have e0 : (pad N (c :: r))[0]! = c := by simp [pad]
    have K2 : Hid (Calls Tryd.prog 37 #[.pointer (some ⟨b, 0, none⟩), .int .i64 0] W (Gives (.tuple #[.int .u8 (c.toNat : Int), .int .i64 0]) W)) := Lib.hid (by
      have := at_run h.ar 0 (by simp)
      rw [e0] at this
      exact this)
    clear h e0
    generalize ((c :: r).length : Int) = n at *
    by_cases hc : c = 27
    · subst hc
      have HE : Aside (lastk (27 :: r) = [(15, 0)]) := rfl
      rw [show ((UInt8.toNat 27 : Nat) : Int) = 27 from rfl] at K2
      go_enter Tryd.func21, Tryd.ntmps21
      go_wp2_with fail
      refine K1.out.mono ?_
      rintro _ w1 ⟨rfl, rfl⟩
      clear K1
      go_wp2_with fail
      refine K2.out.mono ?_
      rintro _ w1 ⟨rfl, rfl⟩
      clear K2
      go_wp2_with fail
      refine K3.out.mono ?_
      rintro _ w2 ⟨rfl, ha, s2⟩
      have H2 : Aside (Dc w2 d b g N [] p ∧ Stp [b, g] w1 [b, g] w2) := ⟨HB.out.turn s2 ha, s2⟩
      clear K3 ha s2
      go_wp2
      go_ret2
      rw [HE.out]
      exact ⟨_, rfl, (KOwn.one w2 (15, 0)).mono H2.out.2.size, H2.out.1.stays (Stp.alloc [] w2 _), (H2.out.2.more (by simp)).trans (Stp.alloc [d, b, g] w2 _)⟩
    · have HE : Aside (lastk (c :: r) = [(0, 65533)]) := by
        show (if c = 27 then [((15, 0) : Ky)] else [(0, 65533)]) = _
        rw [if_neg hc]
      have hz : (((c.toNat : Nat) : Int) == 27) = false := beq_eq_false_iff_ne.2 (fun e => hc (UInt8.toNat_inj.1 (by show c.toNat = 27; omega)))
      generalize ((c.toNat : Nat) : Int) = z at *
      clear hc
      have KO : Hid (∀ W, Calls Tryd.prog 39 #[.int .i64 65533] W (Tells (.agg #[.int .i64 0, .int .i64 65533]) W)) := Lib.hid fun W => by
        have := K.of_run 65533 (by decide) W
        rw [ofk_instead] at this
        exact this
      go_enter Tryd.func21, Tryd.ntmps21
      go_wp2_with fail
      refine K1.out.mono ?_
      rintro _ w1 ⟨rfl, rfl⟩
      clear K1
      go_wp2_with fail
      refine K2.out.mono ?_
      rintro _ w1 ⟨rfl, rfl⟩
      clear K2
      go_wp2_with fail
      refine K3.out.mono ?_
      rintro _ w2 ⟨rfl, ha, s2⟩
      have H2 : Aside (Dc w2 d b g N [] p ∧ Stp [b, g] w1 [b, g] w2) := ⟨HB.out.turn s2 ha, s2⟩
      clear K3 ha s2 c0
      go_wp2_with fail
      refine (KO.out _).mono ?_
      rintro _ w3 ⟨rfl, s3⟩
      have H3 : Aside (Dc w3 d b g N [] p ∧ Stp [d, b, g] w1 [d, b, g] w3) := ⟨H2.out.1.stays s3, (H2.out.2.more (by simp)).trans (s3.more (by simp))⟩
      clear KO s3 H2
      go_wp2
      go_ret2
      rw [HE.out]
      exact ⟨_, rfl, (KOwn.one w3 (0, 65533)).mono H3.out.2.size, H3.out.1.stays (Stp.alloc [] w3 _), H3.out.2.trans (Stp.alloc [d, b, g] w3 _)⟩

/-! ### begin -/
/-- What begin answers: an arena and a decoder that are new. -/
def Begun (W : World) (e : Ending) (w' : World) : Prop := ∃ d b g, e = .returned (.tuple #[.pointer (some ⟨b, 0, none⟩), .pointer (some ⟨d, 0, none⟩)]) ∧ (W.heap.size ≤ d ∧ W.heap.size ≤ b ∧ W.heap.size ≤ g) ∧ Dc w' d b g 40 [] false ∧ Stp [] W [] w'
theorem begin_run (W : World) (hW : 3 ≤ W.heap.size) : Calls Tryd.prog 10 #[] W (Begun W) := by
  have K1 : Hid (Calls Tryd.prog 25 #[.int .i64 40] W (Newed W 40)) := Lib.hid (new_run 40 W (by omega) (by omega))
  have HW := Lib.hid hW
  clear hW
  go_enter Tryd.func10, Tryd.ntmps10
  go_wp2_with fail
  refine K1.out.mono ?_
  rintro _ w1 ⟨b, g, rfl, hb, hg, ha, s1⟩
  have K2 := Lib.hid (dnew_run ha (by omega) (by have := HW.out; omega))
  have H1 : Aside (W.heap.size ≤ b ∧ W.heap.size ≤ g ∧ Stp [] W [b, g] w1) := ⟨hb, hg, s1⟩
  clear K1 hb hg ha s1
  go_wp2_with fail
  refine K2.out.mono ?_
  rintro _ w2 ⟨d, rfl, hd, hdc, s2⟩
  have H2 : Aside (Dc w2 d b g 40 [] false ∧ Stp [b, g] w1 [d, b, g] w2 ∧ w1.heap.size ≤ d) := ⟨hdc, s2, hd⟩
  clear K2 hd hdc s2
  go_wp2
  go_ret2
  have hz := H1.out.2.2.size
  exact ⟨d, b, g, rfl, ⟨by have := H2.out.2.2; omega, H1.out.1, H1.out.2.1⟩, H2.out.1, (H1.out.2.2.trans H2.out.2.1).none⟩
/-! ### text -/
theorem max_nat (n : Nat) : ∀ (w : World) (ts : Array TypeId) (t : TypeId), (Builtin.max_ ts t #[.int .i64 0, .int .i64 (n : Int)]).run Tryd.prog w = .ok (.int .i64 (n : Int)) w := fun w ts t => by
  rw [run_max_int2]
  by_cases h : (n : Int) > 0
  · rw [if_pos h]
  · rw [if_neg h, show (n : Int) = 0 by omega]
theorem min_nat (n m : Nat) (h : n ≤ m) : ∀ (w : World) (ts : Array TypeId) (t : TypeId), (Builtin.min_ ts t #[.int .i64 (n : Int), .int .i64 (m : Int)]).run Tryd.prog w = .ok (.int .i64 (n : Int)) w := fun w ts t => by
  rw [run_min_int2, if_neg (by omega)]
/-- A new row of noughts, by a name of its own. -/
theorem make_obj (n : Nat) (hn : n ≤ 1000000) : ∃ o, Hid (o = Obj.cells ((List.replicate n (0 : UInt8)).map bval).toArray 5) ∧ ∀ (w : World) (kl kc : IntKind), (Instr.makeSlice 29 (.int kl (n : Int)) (.int kc (n : Int))).run Tryd.prog w = .ok (.slice (some ⟨w.heap.size, 0, none⟩) n n) (w.alloc o) :=
  ⟨_, Lib.hid rfl, fun w kl kc => make_any w kl kc n hn⟩
theorem new_blk {o : Obj} {n : Nat} (w : World) (h : Hid (o = Obj.cells ((List.replicate n (0 : UInt8)).map bval).toArray 5)) : Blk (w.alloc o) w.heap.size (List.replicate n 0) := by
  unfold Blk
  rw [heap_alloc_new, h.out]
set_option maxRecDepth 100000 in
theorem text_run {W : World} {b g N : Nat} {l : List UInt8} (h : Ar W b g N l) (h64 : l.length ≤ 64) : Calls Tryd.prog 17 #[.pointer (some ⟨b, 0, none⟩)] W (Tells (.string (st l)) W) := by
  obtain ⟨n, hn⟩ : ∃ n, n = l.length := ⟨_, rfl⟩
  have hn2 : n ≤ 64 := by omega
  have hn3 : (n : Int) ≤ 64 := by omega
  obtain ⟨o, ho, hmk⟩ := make_obj 64 (by omega)
  have hmx := max_nat n
  replace hmk : ∀ w : World, (Instr.makeSlice 29 (.int .i64 64) (.int .i64 64)).run Tryd.prog w = .ok (.slice (some ⟨w.heap.size, 0, none⟩) 64 64) (w.alloc o) := fun w => hmk w .i64 .i64
  have hmn : ∀ (w : World) (ts : Array TypeId) (t : TypeId), (Builtin.min_ ts t #[.int .i64 (n : Int), .int .i64 64]).run Tryd.prog w = .ok (.int .i64 (n : Int)) w := min_nat n 64 hn2
  have s1 := cut_h (some ⟨W.heap.size, 0, none⟩) 64 64 n hn2
  have K2 := Lib.hid (copy_run (Ar.stays h (Stp.alloc [] W o)) W.heap.size 64 64 (List.replicate 64 0) (new_blk W ho) (by simp) (by have := h.row.lt; omega))
  rw [← hn, Nat.min_eq_left hn2] at K2
  have H := Lib.hid hn
  clear h hn
  go_enter Tryd.func17, Tryd.ntmps17
  go_wp2_with fail
  refine K2.out.mono ?_
  rintro _ w1 ⟨rfl, hB, hs⟩
  have hb : Bts w1 (some ⟨W.heap.size, 0, none⟩) l := by
    have hn := H.out
    have e : lay (List.replicate 64 0) 0 (l.take 64) = l ++ List.replicate (64 - l.length) 0 := by
      have e2 : l.take 64 = l := List.take_of_length_le h64
      unfold lay
      rw [e2, List.take_zero, List.nil_append, Nat.zero_add, List.drop_replicate]
    rw [e] at hB
    exact hB.bts.head
  have cv := conv_bts 64 n hb H.out
  have H1 : Aside (Stp [] W [] w1) := by
    refine ((Stp.alloc [] W o).fresh hs (fun k hk => ?_)).none
    simp at hk
    omega
  clear K2 hB hs hb
  go_wp2
  go_ret
  exact ⟨rfl, H1.out⟩
end Go.Proofs.YthffjcacdcipeaaDoor
