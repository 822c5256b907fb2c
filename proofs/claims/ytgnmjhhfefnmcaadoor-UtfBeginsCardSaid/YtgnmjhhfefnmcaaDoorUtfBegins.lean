/-
  How many bytes are told never is more than there are, and at least one, if there are some; bytes behind what is told do not change it, but for a beginning: the statement UtfBegins, its card, for every two slices of bytes; the two tables of the library start as its text lays them.
-/
import Derived.Test.YtgnmjhhfefnmcaaDoorRows2
namespace Go.Proofs.YtgnmjhhfefnmcaaDoor.UtfBegins
open Go.ChangeShapes Go.WideShapes Go.ChangeAt Go.RowKit Go.Lib
set_option linter.unusedVariables false

set_option maxHeartbeats 1000000 in
set_option maxRecDepth 100000 in
theorem walk_long (a0 : Option Addr) (cap0 n0 : Nat) (a1 : Option Addr) (cap1 n1 : Nat) (w : World) (hlong : 1000 < n0 ∨ 1000 < n1) (hT : Tabs w) :
    Calls Tryd.prog 9 #[.slice a0 n0 cap0, .slice a1 n1 cap1] w (OneBool true w) := by
  have K3 := Lib.hid (alive_any w hT)
  clear hT
  by_cases h0 : 1000 < n0
  · have i0 : (1000 : Int) < (n0 : Int) := by omega
    clear hlong
    go_enter Tryd.func9, Tryd.ntmps9
    go_wp2_with (go_at_call 12; refine K3.out.mono ?_; rintro e w1 ⟨rfl, hb1⟩)
    go_ret
    exact ⟨rfl, hb1⟩
  · have i0 : ¬ (1000 : Int) < (n0 : Int) := by omega
    have i1 : (1000 : Int) < (n1 : Int) := by omega
    clear hlong
    go_enter Tryd.func9, Tryd.ntmps9
    go_wp2_with (go_at_call 12; refine K3.out.mono ?_; rintro e w1 ⟨rfl, hb1⟩)
    go_ret
    exact ⟨rfl, hb1⟩

set_option maxHeartbeats 1000000 in
set_option maxRecDepth 100000 in
theorem walk_none (a0 : Option Addr) (cap0 : Nat) (a1 : Option Addr) (cap1 n1 : Nat) (w : World) (hn : n1 ≤ 1000) (hT : Tabs w) :
    Calls Tryd.prog 9 #[.slice a0 0 cap0, .slice a1 n1 cap1] w (OneBool true w) := by
  have k3 : ∀ W, Below w.heap.size w W → Calls Tryd.prog 12 #[] W (OneBool true W) := fun W hb => alive_any W (hT.below hb)
  have K3 := Lib.hid k3
  have K1 := Lib.hid (next_empty a0 cap0 w)
  have i1 : ¬ (1000 : Int) < (n1 : Int) := by omega
  clear hT k3
  go_enter Tryd.func9, Tryd.ntmps9
  go_wp2_with fail
  refine K1.out.mono ?_
  rintro e w1 ⟨rfl, hb1⟩
  go_wp2_with fail
  refine (K3.out _ hb1).mono ?_
  rintro e w2 ⟨rfl, hb2⟩
  go_wp2
  go_ret
  exact ⟨rfl, hb1.trans (hb2.mono hb1.size)⟩

set_option maxHeartbeats 1000000 in
set_option maxRecDepth 100000 in
theorem walk_short (a0 : Option Addr) (cap0 n0 : Nat) (a1 : Option Addr) (cap1 n1 r0 : Nat) (w : World) (hn0 : 0 < n0) (hn4 : n0 < 4) (hn : n1 ≤ 1000) (hT : Tabs w)
    (c1 : Calls Tryd.prog 10 #[.slice a0 n0 cap0] w (Nx (r0, n0, 7) w)) :
    Calls Tryd.prog 9 #[.slice a0 n0 cap0, .slice a1 n1 cap1] w (OneBool true w) := by
  have k3 : ∀ W, Below w.heap.size w W → Calls Tryd.prog 12 #[] W (OneBool true W) := fun W hb => alive_any W (hT.below hb)
  have K3 := Lib.hid k3
  have K1 := Lib.hid c1
  have i0 : ¬ (1000 : Int) < (n0 : Int) := by omega
  have i1 : ¬ (1000 : Int) < (n1 : Int) := by omega
  have i2 : ((n0 : Int) == 0) = false := by simp; omega
  have i3 : ¬ (n0 : Int) < 1 := by omega
  have i4 : ¬ (4 : Int) < (n0 : Int) := by omega
  have i5 : (n0 : Int) < 4 := by omega
  have i6 : ¬ (n0 : Int) < (n0 : Int) := by omega
  clear hT k3 c1
  go_enter Tryd.func9, Tryd.ntmps9
  go_wp2_with fail
  refine K1.out.mono ?_
  rintro e w1 ⟨rfl, hb1⟩
  go_wp2_with fail
  refine (K3.out _ hb1).mono ?_
  rintro e w2 ⟨rfl, hb2⟩
  go_wp2
  go_ret
  exact ⟨rfl, hb1.trans (hb2.mono hb1.size)⟩

set_option maxHeartbeats 2000000 in
set_option maxRecDepth 100000 in
theorem walk_on (a0 : Option Addr) (cap0 : Nat) (l0 : List Nat) (a1 : Option Addr) (cap1 : Nat) (l1 : List Nat) (r0 r1 r2 : Nat) (w : World) (h0 : Bts w a0 l0) (z0 : a0 = none → cap0 = 0) (h1 : Bts w a1 l1) (z1 : a1 = none → cap1 = 0)
    (hn0 : 0 < l0.length) (hl0 : l0.length ≤ 1000) (hl1 : l1.length ≤ 1000) (hr1 : 1 ≤ r1) (hr1' : r1 ≤ l0.length) (hr4 : r1 ≤ 4) (hr7 : r2 ≠ 7) (hT : Tabs w)
    (c1 : Calls Tryd.prog 10 #[.slice a0 l0.length cap0] w (Nx (r0, r1, r2) w))
    (c2 : ∀ W a cap, Tabs W → Bts W a (l0 ++ l1) → l0.length + l1.length ≤ cap → cap ≤ maxLen → Calls Tryd.prog 10 #[.slice a (l0.length + l1.length) cap] W (Nx (r0, r1, r2) W)) :
    Calls Tryd.prog 9 #[.slice a0 l0.length cap0, .slice a1 l1.length cap1] w (OneBool true w) := by
  have k3 : ∀ W, Below w.heap.size w W → Calls Tryd.prog 12 #[] W (OneBool true W) := fun W hb => alive_any W (hT.below hb)
  have K3 := Lib.hid k3
  have K1 := Lib.hid c1
  have K2 := Lib.hid c2
  have i0 : ¬ (1000 : Int) < (l0.length : Int) := by omega
  have i1 : ¬ (1000 : Int) < (l1.length : Int) := by omega
  have i2 : ((l0.length : Int) == 0) = false := beq_eq_false_iff_ne.2 (by omega)
  have i3 : ¬ (r1 : Int) < 1 := by omega
  have i4 : ¬ (4 : Int) < (r1 : Int) := by omega
  have i5 : ¬ (l0.length : Int) < (r1 : Int) := by omega
  have i6 : ((r2 : Int) == 7) = false := beq_eq_false_iff_ne.2 (by omega)
  have H0 := Lib.hid h0
  have H1 := Lib.hid h1
  have HT := Lib.hid hT
  have Z0 := Lib.hid z0
  have Z1 := Lib.hid z1
  clear hT k3 c1 c2 h0 h1 z0 z1
  go_enter Tryd.func9, Tryd.ntmps9
  go_wp2_with fail
  refine K1.out.mono ?_
  rintro e w1 ⟨rfl, hb1⟩
  have hs1 := hb1.size
  have q0 : Own (w1.alloc (.cells #[] 5)) w.heap.size (.slice (some ⟨w1.heap.size, 0, none⟩) 0 0) [] := ⟨by simp, .inr ⟨w1.heap.size, 0, #[], rfl, hs1, heap_alloc_new w1 _, by simp, by simp, by simp, by simp⟩⟩
  have Q0 := Lib.hid q0
  have hB0 : Below w.heap.size w (w1.alloc (.cells #[] 5)) := hb1.alloc hs1 _
  clear q0
  go_wp2_with (first
    | (at_builtin
       refine wpList_app rfl (.tmp 68) (.tmp 69) rfl w.heap.size (.slice (some ⟨w1.heap.size, 0, none⟩) 0 0) [] rfl Q0.out a0 cap0 l0 rfl (H0.out.below hB0 (Nat.le_refl _)) Z0.out (by simp; omega) hB0.size ?_
       intro v1 w2 hown1 hg1 hat1
       have hB1 : Below w.heap.size w w2 := hB0.grown hg1 hB0.size (fun k hk => by simp [Value.ownBlock] at hk; omega))
    | (at_builtin
       refine wpList_app rfl (.tmp 70) (.tmp 71) rfl w.heap.size v1 ([] ++ l0) rfl hown1 a1 cap1 l1 rfl (H1.out.below hB1 (Nat.le_refl _)) Z1.out (by simp; omega) hB1.size ?_
       intro v2 w3 hown2 hg2 hat2))
  have hB2 : Below w.heap.size w w3 := hB1.grown hg2 hB1.size (fun k hk => by
    rcases hat1 with e | e <;> rw [e] at hk <;> simp [Value.ownBlock] at hk <;> omega)
  have hbytes : ∀ x ∈ [] ++ l0 ++ l1, x < 256 := by
    intro x hx
    simp only [List.nil_append, List.mem_append] at hx
    rcases hx with hx | hx
    · exact H0.out.1 x hx
    · exact H1.out.1 x hx
  obtain ⟨a2, cap2, hv2, hbt2, hc2, hm2, _⟩ := hown2.bts hbytes
  have el : ([] ++ l0 ++ l1).length = l0.length + l1.length := by simp
  rw [el] at hv2 hc2
  rw [List.nil_append] at hbt2
  rw [hv2]
  refine (K2.out w3 a2 cap2 (HT.out.below hB2) hbt2 hc2 hm2).mono ?_
  rintro e w4 ⟨rfl, hb4⟩
  have hB4 : Below w.heap.size w w4 := hB2.trans (hb4.mono hB2.size)
  clear hbytes hbt2 hv2 el hown2 hown1
  go_wp2_with fail
  refine (K3.out _ hB4).mono ?_
  rintro e w5 ⟨rfl, hb5⟩
  go_wp2
  go_ret
  exact ⟨rfl, hB4.trans (hb5.mono hB4.size)⟩

theorem walk (a0 : Option Addr) (cap0 : Nat) (l0 : List Nat) (a1 : Option Addr) (cap1 : Nat) (l1 : List Nat) (w : World) (h0 : Bts w a0 l0) (c0 : l0.length ≤ cap0) (m0 : cap0 ≤ maxLen) (z0 : a0 = none → cap0 = 0)
    (h1 : Bts w a1 l1) (c1 : l1.length ≤ cap1) (m1 : cap1 ≤ maxLen) (z1 : a1 = none → cap1 = 0) (hT : Tabs w) :
    Calls Tryd.prog 9 #[.slice a0 l0.length cap0, .slice a1 l1.length cap1] w (OneBool true w) := by
  by_cases hlong : 1000 < l0.length ∨ 1000 < l1.length
  · exact walk_long a0 cap0 _ a1 cap1 _ w hlong hT
  · by_cases hl : l0 = []
    · subst hl
      exact walk_none a0 cap0 a1 cap1 _ w (by omega) hT
    · have hn0 : 0 < l0.length := List.length_pos_iff.2 hl
      have k1 := next_any a0 cap0 l0 w h0 c0 m0 hT
      have hbd := nextN_bd l0.length (l0.getD 0 0) (l0.getD 1 0) (l0.getD 2 0) (l0.getD 3 0) (getD_lt h0.1 0)
      by_cases h7 : (nx l0).2.2 = 7
      · obtain ⟨e1, e2⟩ := nx_seven l0 h7
        have e : nx l0 = ((nx l0).1, l0.length, 7) := by
          rw [← e1, ← h7]
        rw [e] at k1
        exact walk_short a0 cap0 _ a1 cap1 _ _ w hn0 e2 (by omega) hT k1
      · refine walk_on a0 cap0 l0 a1 cap1 l1 (nx l0).1 (nx l0).2.1 (nx l0).2.2 w h0 z0 h1 z1 hn0 (by omega) (by omega) (hbd.2.2.2.1 hn0) hbd.2.2.1 hbd.2.1 h7 hT k1 ?_
        intro W a cap hTW hb hc hm
        have := next_any a cap (l0 ++ l1) W hb (by simpa using hc) hm hTW
        rw [nx_app l0 l1 hl h7, List.length_append] at this
        exact this


theorem contract (H : Type) (enc : TypeId × Value → H) (W : World) (base : Nat) (args : Array Value) (ds gs : List (DataW H)) (before : List MemPlace)
    (hval : ∀ (j : Nat) t v, Tryd.f9.params[j]? = some t → args[j]? = some v → Value.okWide Tryd.prog W .any base t v)
    (hW : DataW.Whole enc Tryd.prog Tryd.f9.params.toList Rows.utfBeginsSpec.vars false W args.toList ds gs before) (hL : laidMetH Tryd.prog Rows.utfBeginsRow.laid W) :
    Calls Tryd.prog 9 args W fun e W' => ∃ v, e = .returned v ∧ Rows.utfBeginsSpec.post enc Tryd.prog Tryd.f9 false true false false W args v W' := by
  have hW' := hW
  obtain ⟨p, q, hA0, hV, rfl, hfz, hnd⟩ := hW
  have hA : DataW.TrodAll enc Tryd.prog W 0 (fun _ => true) true Tryd.f9.params.toList args.toList ds p := hA0
  rw [Tryd.params9] at hA hval
  obtain ⟨v0, vs0, d0, ds0, p0, q0, hargs, rfl, rfl, h0, r0⟩ := trodAll_cons hA
  obtain ⟨v1, vs1, d1, ds1, p1, q1, rfl, rfl, rfl, h1, r1⟩ := trodAll_cons r0
  obtain ⟨rfl, rfl, rfl⟩ := trodAll_nil r1
  obtain rfl : args = #[v0, v1] := by cases args; simp_all
  obtain ⟨rfl, rfl⟩ := trodVars_none hV
  have k0 := h0
  have lt0 : ∀ x ∈ p0, x.block < W.heap.size := by obtain ⟨m, hm⟩ := k0; exact DataW.trod_lt m _ _ _ hm
  obtain ⟨a0, cap0, l0, rfl, b0, c0, m0, n0⟩ := open_bytes (hval 0 22 v0 rfl rfl) h0
  have k1 := h1
  have lt1 : ∀ x ∈ p1, x.block < W.heap.size := by obtain ⟨m, hm⟩ := k1; exact DataW.trod_lt m _ _ _ hm
  obtain ⟨a1, cap1, l1, rfl, b1, c1, m1, n1⟩ := open_bytes (hval 1 22 v1 rfl rfl) h1
  have hT := tabs_of_laid hL
  clear hA0
  refine (walk a0 cap0 l0 a1 cap1 l1 W b0 c0 m0 n0 b1 c1 m1 n1 hT).mono fun e W' ⟨he, bel⟩ => ?_
  subst he
  exact ⟨_, rfl, _, _, _, [], _, [], hW', trodAll_mk1 (shut_bool Tryd.underlying4 _), (trodAll_cons_mk (Below.trod laidOut (by kernel_rfl) (of_decide_eq_true (by kernel_rfl)) k0 bel lt0) (trodAll_cons_mk (Below.trod laidOut (by kernel_rfl) (of_decide_eq_true (by kernel_rfl)) k1 bel lt1) trodAll_mk0)), rfl, bel.frame _, fun h => by cases h⟩

theorem reads (os : Os) {H : Type} (enc : TypeId × Value → H) : ∃ places, DataW.whole enc Tryd.prog ((laidWorld os).forCall (fun _ _ => 0) ⟨#[], #[.slice none 0 0, .slice none 0 0], []⟩).memory Tryd.f9.params.toList Rows.utfBeginsSpec.vars false #[Value.slice none 0 0, Value.slice none 0 0].toList 8 = some ([.nil, .nil], [], places) :=
  ⟨[], by kernel_rfl⟩

set_option maxRecDepth 100000 in
theorem lifted (os : Os) (started : os.Started) (H : Type) (enc : TypeId × Value → H) (F : Stop.Interp) :
    ReturnsInHanded {} Tryd.checked os 9 .any ((OpenSpec.ofChange Rows.utfBeginsSpec).preRow enc Tryd.prog Tryd.f9 Rows.utfBeginsRow.domain false Rows.utfBeginsRow.laid) (((OpenSpec.ofChange Rows.utfBeginsSpec).at F).post enc Tryd.prog Tryd.f9 false true false false) := by
  obtain ⟨places, hx⟩ := reads os enc
  refine returnsInHanded_of_row (C := Tryd.checked) (s := OpenSpec.ofChange Rows.utfBeginsSpec) own started (by kernel_rfl) Tryd.func9
    (witness_row_at (enc := enc) (C := Tryd.checked) false (laidWorld os) #[.slice none 0 0, .slice none 0 0] rfl (by kernel_rfl) (by kernel_rfl) (by kernel_rfl)
      (OpenSpec.preRow_of_cond 8 hx (by kernel_rfl) (fun k hk => by cases hk) (by kernel_rfl) (laid_met os _))) ?_
  intro W base args ds gs before hval hW _ _ _ hL _ _
  exact contract H enc W base args ds gs before hval hW hL

theorem said : Rows.UtfBeginsSaid :=
  OpenClaim.holds_of_cond 9 Tryd.f9 rfl rfl rfl rfl rfl rfl rfl ⟨rfl, rfl, rfl, rfl, rfl⟩ rfl rfl rfl rfl rfl (by kernel_rfl) Tryd.func9 (by kernel_rfl)
    (of_decide_eq_true (by kernel_rfl)) (by unfold Func.isWrapper; first | (rw [if_pos (by decide +kernel)]; kernel_rfl) | (rw [if_neg (by decide +kernel)]; exact ⟨rfl, rfl⟩))
    (fun os started H enc _ F => by rw [OpenClaim.pre_eq_preRow]; exact lifted os started H enc F)

theorem plain (f : FuncId) (fn : Func) (hf : Tryd.pinned.checked.prog.funcNamed "whisperer/whispererlaw01.UtfBegins" = some f) (hfn : Tryd.pinned.checked.prog.funcs[f]? = some fn) :
    false = Tryd.pinned.checked.prog.looks [] ∧ ∀ (j : Nat) t, fn.params[j]? = some t → Tryd.pinned.checked.prog.wantsStandIn t = false := by
  obtain rfl : f = 9 := Option.some.inj ((show Tryd.prog.funcNamed "whisperer/whispererlaw01.UtfBegins" = some 9 by kernel_rfl).symm.trans hf) |>.symm
  obtain rfl : fn = Tryd.f9 := (Option.some.inj (Tryd.func9.symm.trans hfn)).symm
  refine ⟨by kernel_rfl, fun j t ht => ?_⟩
  rw [Tryd.params9] at ht
  have hm : t ∈ [22] := by simpa using Array.mem_of_getElem? ht
  have hall : ([22].all fun u => !Tryd.prog.wantsStandIn u) = true := by kernel_rfl
  exact (show Tryd.prog.wantsStandIn t = false by simpa using List.all_eq_true.1 hall t hm)

theorem card : Rows.UtfBeginsCardSaid :=
  Claim7.holds_tied_plain_at .later [] _ _ _ _ said (fun _ h => by cases h) (by kernel_rfl) (fun _ h => by cases h) utfBegins_row_tie rfl ⟨rfl, rfl⟩ (by kernel_rfl) rfl plain (by kernel_rfl)

end Go.Proofs.YtgnmjhhfefnmcaaDoor.UtfBegins
namespace Go.Proofs.YtgnmjhhfefnmcaaDoor
theorem utfBegins_card : Rows.UtfBeginsCardSaid := UtfBegins.card
end Go.Proofs.YtgnmjhhfefnmcaaDoor
