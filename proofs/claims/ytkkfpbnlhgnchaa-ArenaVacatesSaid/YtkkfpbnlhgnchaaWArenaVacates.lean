/-
  ArenaVacates returns true for every number and every calls.
-/
import Derived.Test.YtkkfpbnlhgnchaaGreat
import Derived.Lib.ConvBytes
namespace Go.Proofs.Ytkkfpbnlhgnchaa
open Go.RowKit Go.Lib
set_option linter.unusedVariables false

/-- An arena that is new since w. -/
structure One (w W : World) (b g N : Nat) (l : List UInt8) : Prop where
  ar : Ar W b g N l
  stp : Stp [] w [] W
  new : w.heap.size ≤ b ∧ w.heap.size ≤ g
section
variable {w W W' : World} {b g N : Nat} {l k : List UInt8}
theorem One.act (h : One w W b g N l) (ha : Ar W' b g N k) (hs : Stp [b, g] W [b, g] W') : One w W' b g N k :=
  ⟨ha, (h.stp.fresh hs (fun i hi => by have := h.new; simp at hi; omega)).none, h.new⟩
theorem One.stays {F : List Nat} (h : One w W b g N l) (hs : Stp [] W F W') : One w W' b g N l := ⟨h.ar.stays hs, h.stp.trans hs.none, h.new⟩
end
theorem As.stays {w wr : World} {a : Option Addr} {l : List Ac} (h : As w a l) {F : List Nat} (hs : Stp [] w F wr) : As wr a l := fun hl => by
  obtain ⟨b, off, h1, hb, h2⟩ := h hl
  refine ⟨b, off, h1, Nat.lt_of_lt_of_le hb hs.size, fun i hi => ?_⟩
  obtain ⟨c0, c1, c2, c3, c4, c5, c6⟩ := h2 i hi
  have hn : b ∉ ([] : List Nat) := fun h => by cases h
  exact ⟨(hs.cell (a := ⟨b, _, none⟩) hb hn).trans c0, (hs.cell (a := ⟨b, _, none⟩) hb hn).trans c1, (hs.cell (a := ⟨b, _, none⟩) hb hn).trans c2, (hs.cell (a := ⟨b, _, none⟩) hb hn).trans c3, (hs.cell (a := ⟨b, _, none⟩) hb hn).trans c4, c5.stays hs, c6⟩
theorem great_at (a : Option Addr) (cap n : Nat) (l : List Ac) (w : World) (hU : As w a l) (hn : n = l.length) (hl : n ≤ 9223372036854775807) (g : Bool) (hg : Great l = g) :
    ∀ W, Stp [] w [] W → Calls Try.prog 12 #[.slice a n cap] W (Tells (.bool g) W) := fun W hs => by
  subst hg
  exact great_run a cap n l W (hU.stays hs) hn hl
/-- A text's bytes in memory of their own. -/
theorem conv_str (W : World) (l : List UInt8) : ∃ a c w', (convert 9 31 (.string (str l))).run Try.prog W = .ok (.slice a l.length c) w' ∧ Bts w' a l ∧ Stp [] W [] w' := by
  have h := Go.Lib.run_convert_string_bytes (P := Try.prog) W 9 31 5 (str l) Try.underlying9 Try.underlying31 Try.underlying5
  rw [str_size] at h
  refine ⟨_, _, _, h, ?_, ?_⟩
  · intro _
    refine ⟨W.heap.size, 0, rfl, fun i hi => ?_⟩
    rw [Nat.zero_add, bytesWorld_cell W _ _ i (by rw [str_size]; exact hi), str_data, getElem!_pos l i hi]
    simp [bval, List.getD, hi]
  · exact ⟨rfl, rfl, rfl, by rw [bytesWorld_size]; omega, fun k hk _ => bytesWorld_at_old W _ _ k hk, fun _ h => .inl h⟩
theorem pad_zero {N : Nat} {l : List UInt8} {i : Nat} (h : l.length ≤ i) (hi : i < N) : (pad N l)[i]! = 0 := by
  rw [getElem!_pos _ i (by simp [pad]; omega)]
  simp [pad, List.getElem_append_right h]
theorem index_str (l : List UInt8) (i : Nat) (hi : i < l.length) (w : World) : (Instr.index 9 (.string (str l)) (.int .i64 (i : Int))).run Try.prog w = .ok (bval (l[i]!)) w := by
  rw [run_index_string w 9 (str l) .i64 i Try.underlying9, dif_pos ⟨by omega, by rw [str_size]; omega⟩]
  have h : (str l).data.toList[i]? = l[i]? := by rw [str_data]
  have h2 : (str l)[((i : Nat) : Int).toNat]'(by rw [str_size]; omega) = l[i]! := by
    rw [getElem!_pos l i hi]
    simp only [Int.toNat_natCast]
    have h3 : (str l).data.toList[i]'(by rw [str_data]; exact hi) = l[i] := by
      have : ∀ (m : List UInt8) (e : m = l) (q : i < m.length), m[i] = l[i] := fun m e q => by subst e; rfl
      exact this _ (str_data l) _
    rw [← h3]
    rfl
  rw [h2]
  rfl

theorem vacates_long (z : Int) (a : Option Addr) (cap n : Nat) (l : List Ac) (w : World) (hU : As w a l) (hn : n = l.length) (hl : n ≤ 9223372036854775807) (hg : Great l = true) :
    Calls Try.prog 5 #[.int .i64 z, .slice a n cap] w (Truth w) := by
  have KS := Lib.hid (size_run z)
  have KN : Hid (∀ W, Calls Try.prog 9 #[.int .i64 (sizeN z : Int)] W (Newed W (sizeN z))) := Lib.hid (fun W => new_run (sizeN z) W (sizeN_bounds z).1 (by have := (sizeN_bounds z).2; omega))
  have KA := Lib.hid alive_tells
  have KG := Lib.hid (great_at a cap n l w hU hn hl _ hg)
  clear hU hn hg
  generalize sizeN z = N at *
  go_enter Try.func5, Try.ntmps5
  go_wp2_with fail
  refine (KS.out _).mono ?_
  rintro _ w0 ⟨rfl, rfl⟩
  go_wp2_with fail
  refine (KN.out _).mono ?_
  rintro _ w1 ⟨b, g, rfl, hb, hg, h1, q1⟩
  have H1 : Aside (Stp [] w0 [] w1) := q1.none
  clear hb hg h1 q1
  go_wp2_with fail
  refine (KA.out _).mono ?_
  rintro _ w2 ⟨rfl, q⟩
  have H2 : Aside (Stp [] w0 [] w2) := H1.out.trans q
  clear q H1
  go_wp2_with fail
  refine (KG.out _ H2.out).mono ?_
  rintro _ w3 ⟨rfl, q⟩
  have H3 : Aside (Stp [] w0 [] w3) := H2.out.trans q
  clear q H2
  go_wp2_with fail
  refine (KA.out _).mono ?_
  rintro _ w4 ⟨rfl, q⟩
  have H4 : Aside (Stp [] w0 [] w4) := H3.out.trans q
  clear q H3
  go_wp2
  go_ret
  exact ⟨rfl, H4.out.under⟩

set_option maxHeartbeats 8000000 in
set_option maxRecDepth 100000 in
theorem vacates_short (z : Int) (a : Option Addr) (cap n : Nat) (l : List Ac) (w : World) (hU : As w a l) (hn : n = l.length) (hl : n ≤ 9223372036854775807) (hg : Great l = false) :
    Calls Try.prog 5 #[.int .i64 z, .slice a n cap] w (Truth w) := by
  have KS := Lib.hid (size_run z)
  have KN : Hid (∀ W, Calls Try.prog 9 #[.int .i64 (sizeN z : Int)] W (Newed W (sizeN z))) := Lib.hid (fun W => new_run (sizeN z) W (sizeN_bounds z).1 (by have := (sizeN_bounds z).2; omega))
  have KA := Lib.hid alive_tells
  have KG := Lib.hid (great_at a cap n l w hU hn hl _ hg)
  have HU : Aside (As w a l ∧ n = l.length) := ⟨hU, hn⟩
  have hNt := (sizeN_bounds z).2
  clear hU hn hg
  generalize sizeN z = N at *
  go_enter Try.func5, Try.ntmps5
  go_wp2_with fail
  refine (KS.out _).mono ?_
  rintro _ w ⟨rfl, rfl⟩
  go_wp2_with fail
  refine (KN.out _).mono ?_
  rintro _ w1 ⟨b, g, rfl, hb, hg, h1, q1⟩
  have H1 : Aside (One w w1 b g N []) := ⟨h1, q1.none, hb, hg⟩
  clear hb hg h1 q1 KN
  go_wp2_with fail
  refine (KA.out _).mono ?_
  rintro _ w2 ⟨rfl, q⟩
  have H2 : Aside (One w w2 b g N []) := H1.out.stays q
  clear q H1 KA
  go_wp2_with fail
  refine (KG.out _ H2.out.stp).mono ?_
  rintro _ w3 ⟨rfl, q⟩
  have H3 : Aside (One w w3 b g N []) := H2.out.stays q
  clear q H2 KG
  go_wp2
  go_loopg [42] n (fun gk vi wr => ∃ i : Nat, vi = .int .i64 (i : Int) ∧ i ≤ n ∧ n - i ≤ gk ∧ Aside (∃ s, One w wr b g N s))
  case atStart => exact ⟨0, rfl, by omega, by omega, [], H3.out⟩
  case round =>
    clear H3
    obtain ⟨i, rfl, hi, hgk, HS⟩ := hrel
    obtain ⟨s, HS⟩ : ∃ s, Aside (One w wr b g N s) := HS.out
    by_cases hlt : i < n
    · have hltz : (i : Int) < (n : Int) := by omega
      obtain ⟨ab, off, rfl, c0, c1, c2, c3, c4, hx, _⟩ := HU.out.1.at HS.out.stp (i := i) (by have := HU.out.2; omega)
      generalize l[i]! = ac at *
      obtain ⟨k, A, B, C, p, cp, x⟩ := ac
      dsimp only at c0 c1 c2 c3 c4 hx
      obtain ⟨m, hm⟩ : ∃ m, m = x.length := ⟨_, rfl⟩
      rw [← hm] at c4
      have HX : Aside (Bts w p x ∧ m = x.length) := ⟨hx, hm⟩
      have H1 : Aside (One w (wr.alloc (.cells #[.int .i64 k, .int .i64 A, .int .i64 B, .int .i64 C, .slice p m cp] 35)) b g N s) := HS.out.stays (Stp.alloc [] _ _)
      clear HS hx hm
      by_cases k0 : k = 0
      · subst k0
        go_wp2_with fail
        refine (ins_any H1.out.ar A p x m cp (HX.out.1.stays H1.out.stp) (HX.out.1.apart H1.out.new.2) HX.out.2).mono ?_
        rintro _ w1 ⟨rfl, h, q⟩
        obtain ⟨s1, hs1⟩ : ∃ s1, s1 = (insR N s A x).2 := ⟨_, rfl⟩
        rw [← hs1] at h
        generalize (insR N s A x).1 = zr
        clear hs1
        have H2 : Aside (One w w1 b g N s1) := H1.out.act h q
        clear h q H1 c0 c1 c2 c3 c4 HX
        have KC := Lib.hid (cells_run H2.out.ar)
        obtain ⟨cs, ecs⟩ : ∃ cs, cs = str (pad N s1) := ⟨_, rfl⟩
        unfold Texts at KC
        rw [← ecs] at KC
        have hcs : cs.size = N := by rw [ecs, str_size]; exact pad_length H2.out.ar.le
        have hix : Hid (∀ j : Nat, s1.length ≤ j → j < N → ∀ w, (Instr.index 9 (.string cs) (.int .i64 (j : Int))).run Try.prog w = .ok (.int .u8 0) w) := Lib.hid (fun j h1 h2 w => by
          rw [ecs, index_str _ _ (by rw [pad_length H2.out.ar.le]; exact h2), pad_zero h1 h2]
          rfl)
        have hs1 : s1.length ≤ N := H2.out.ar.le
        clear ecs
        go_wp2_with fail
        refine KC.out.mono ?_
        rintro _ w2 ⟨rfl, q⟩
        have H3 : Aside (One w w2 b g N s1) := H2.out.stays q
        have KL := Lib.hid (len_cl H3.out.ar)
        generalize s1.length = m1 at *
        clear KC H2 q
        have l1 : ¬ (m1 : Int) < 0 := by omega
        have l2 : ¬ (N : Int) < (m1 : Int) := by omega
        go_wp2_with fail
        refine (KS.out _).mono ?_
        rintro _ w2 ⟨rfl, rfl⟩
        go_wp2_with fail
        refine KL.out.mono ?_
        rintro _ w2 ⟨rfl, rfl⟩
        go_wp2_with fail
        refine KL.out.mono ?_
        rintro _ w2 ⟨rfl, rfl⟩
        go_wp2_with fail
        refine KL.out.mono ?_
        rintro _ w2 ⟨rfl, rfl⟩
        clear KL
        go_wp2
        go_loopg [10] N (fun gj vj wj => ∃ j : Nat, vj = .int .i64 (j : Int) ∧ m1 ≤ j ∧ j ≤ N ∧ N - j ≤ gj ∧ Aside (wj = w2))
        case atStart => exact ⟨m1, rfl, Nat.le_refl _, hs1, by omega, rfl⟩
        case round =>
          obtain ⟨j, rfl, hj1, hj2, hgj, HJ⟩ := hrel
          obtain rfl := HJ.out
          by_cases hjl : j < N
          · have hjz : (j : Int) < (N : Int) := by omega
            have hxj := hix.out j hj1 hjl
            go_wp2
            go_roundg (N - (j + 1))
            case measure => omega
            case rel => exact ⟨j + 1, by go_num, by omega, by omega, by omega, rfl⟩
          · have hjz : ¬ (j : Int) < (N : Int) := by omega
            go_wp2
            go_roundg (n - (i + 1))
            case measure => omega
            case rel => exact ⟨i + 1, by go_num, by omega, by omega, s1, H3.out⟩
      · have b0 : (k == 0) = false := by simpa using k0
        by_cases k1 : k = 1
        · subst k1
          clear k0 b0
          go_wp2_with fail
          refine (del_any H1.out.ar A B).mono ?_
          rintro _ w1 ⟨rfl, h, q⟩
          obtain ⟨s1, hs1⟩ : ∃ s1, s1 = (delR s A B).2 := ⟨_, rfl⟩
          rw [← hs1] at h
          generalize (delR s A B).1 = zr
          clear hs1
          have H2 : Aside (One w w1 b g N s1) := H1.out.act h q
          clear h q H1 c0 c1 c2 c3 c4 HX
          have KC := Lib.hid (cells_run H2.out.ar)
          obtain ⟨cs, ecs⟩ : ∃ cs, cs = str (pad N s1) := ⟨_, rfl⟩
          unfold Texts at KC
          rw [← ecs] at KC
          have hcs : cs.size = N := by rw [ecs, str_size]; exact pad_length H2.out.ar.le
          have hix : Hid (∀ j : Nat, s1.length ≤ j → j < N → ∀ w, (Instr.index 9 (.string cs) (.int .i64 (j : Int))).run Try.prog w = .ok (.int .u8 0) w) := Lib.hid (fun j h1 h2 w => by
            rw [ecs, index_str _ _ (by rw [pad_length H2.out.ar.le]; exact h2), pad_zero h1 h2]
            rfl)
          have hs1 : s1.length ≤ N := H2.out.ar.le
          clear ecs
          go_wp2_with fail
          refine KC.out.mono ?_
          rintro _ w2 ⟨rfl, q⟩
          have H3 : Aside (One w w2 b g N s1) := H2.out.stays q
          have KL := Lib.hid (len_cl H3.out.ar)
          generalize s1.length = m1 at *
          clear KC H2 q
          have l1 : ¬ (m1 : Int) < 0 := by omega
          have l2 : ¬ (N : Int) < (m1 : Int) := by omega
          go_wp2_with fail
          refine (KS.out _).mono ?_
          rintro _ w2 ⟨rfl, rfl⟩
          go_wp2_with fail
          refine KL.out.mono ?_
          rintro _ w2 ⟨rfl, rfl⟩
          go_wp2_with fail
          refine KL.out.mono ?_
          rintro _ w2 ⟨rfl, rfl⟩
          go_wp2_with fail
          refine KL.out.mono ?_
          rintro _ w2 ⟨rfl, rfl⟩
          clear KL
          go_wp2
          go_loopg [10] N (fun gj vj wj => ∃ j : Nat, vj = .int .i64 (j : Int) ∧ m1 ≤ j ∧ j ≤ N ∧ N - j ≤ gj ∧ Aside (wj = w2))
          case atStart => exact ⟨m1, rfl, Nat.le_refl _, hs1, by omega, rfl⟩
          case round =>
            obtain ⟨j, rfl, hj1, hj2, hgj, HJ⟩ := hrel
            obtain rfl := HJ.out
            by_cases hjl : j < N
            · have hjz : (j : Int) < (N : Int) := by omega
              have hxj := hix.out j hj1 hjl
              go_wp2
              go_roundg (N - (j + 1))
              case measure => omega
              case rel => exact ⟨j + 1, by go_num, by omega, by omega, by omega, rfl⟩
            · have hjz : ¬ (j : Int) < (N : Int) := by omega
              go_wp2
              go_roundg (n - (i + 1))
              case measure => omega
              case rel => exact ⟨i + 1, by go_num, by omega, by omega, s1, H3.out⟩
        · have b1 : (k == 1) = false := by simpa using k1
          by_cases k2 : k = 2
          · subst k2
            clear k0 b0 k1 b1
            go_wp2_with fail
            refine (mov_any H1.out.ar A B C).mono ?_
            rintro _ w1 ⟨rfl, h, q⟩
            obtain ⟨s1, hs1⟩ : ∃ s1, s1 = (movR s A B C).2 := ⟨_, rfl⟩
            rw [← hs1] at h
            generalize (movR s A B C).1 = zr
            clear hs1
            have H2 : Aside (One w w1 b g N s1) := H1.out.act h q
            clear h q H1 c0 c1 c2 c3 c4 HX
            have KC := Lib.hid (cells_run H2.out.ar)
            obtain ⟨cs, ecs⟩ : ∃ cs, cs = str (pad N s1) := ⟨_, rfl⟩
            unfold Texts at KC
            rw [← ecs] at KC
            have hcs : cs.size = N := by rw [ecs, str_size]; exact pad_length H2.out.ar.le
            have hix : Hid (∀ j : Nat, s1.length ≤ j → j < N → ∀ w, (Instr.index 9 (.string cs) (.int .i64 (j : Int))).run Try.prog w = .ok (.int .u8 0) w) := Lib.hid (fun j h1 h2 w => by
              rw [ecs, index_str _ _ (by rw [pad_length H2.out.ar.le]; exact h2), pad_zero h1 h2]
              rfl)
            have hs1 : s1.length ≤ N := H2.out.ar.le
            clear ecs
            go_wp2_with fail
            refine KC.out.mono ?_
            rintro _ w2 ⟨rfl, q⟩
            have H3 : Aside (One w w2 b g N s1) := H2.out.stays q
            have KL := Lib.hid (len_cl H3.out.ar)
            generalize s1.length = m1 at *
            clear KC H2 q
            have l1 : ¬ (m1 : Int) < 0 := by omega
            have l2 : ¬ (N : Int) < (m1 : Int) := by omega
            go_wp2_with fail
            refine (KS.out _).mono ?_
            rintro _ w2 ⟨rfl, rfl⟩
            go_wp2_with fail
            refine KL.out.mono ?_
            rintro _ w2 ⟨rfl, rfl⟩
            go_wp2_with fail
            refine KL.out.mono ?_
            rintro _ w2 ⟨rfl, rfl⟩
            go_wp2_with fail
            refine KL.out.mono ?_
            rintro _ w2 ⟨rfl, rfl⟩
            clear KL
            go_wp2
            go_loopg [10] N (fun gj vj wj => ∃ j : Nat, vj = .int .i64 (j : Int) ∧ m1 ≤ j ∧ j ≤ N ∧ N - j ≤ gj ∧ Aside (wj = w2))
            case atStart => exact ⟨m1, rfl, Nat.le_refl _, hs1, by omega, rfl⟩
            case round =>
              obtain ⟨j, rfl, hj1, hj2, hgj, HJ⟩ := hrel
              obtain rfl := HJ.out
              by_cases hjl : j < N
              · have hjz : (j : Int) < (N : Int) := by omega
                have hxj := hix.out j hj1 hjl
                go_wp2
                go_roundg (N - (j + 1))
                case measure => omega
                case rel => exact ⟨j + 1, by go_num, by omega, by omega, by omega, rfl⟩
              · have hjz : ¬ (j : Int) < (N : Int) := by omega
                go_wp2
                go_roundg (n - (i + 1))
                case measure => omega
                case rel => exact ⟨i + 1, by go_num, by omega, by omega, s1, H3.out⟩
          · have b2 : (k == 2) = false := by simpa using k2
            clear k0 k1 k2
            generalize hwA : wr.alloc (.cells #[.int .i64 k, .int .i64 A, .int .i64 B, .int .i64 C, .slice p m cp] 35) = w1 at H1
            obtain ⟨s1, hs1⟩ : ∃ s1, s1 = s := ⟨_, rfl⟩
            rw [← hs1] at H1
            clear hs1
            have h := H1.out.ar
            have q := Stp.refl [b, g] w1
            have HW := Lib.hid hwA
            clear hwA
            have H2 : Aside (One w w1 b g N s1) := H1.out.act h q
            clear h q H1 HX
            have KC := Lib.hid (cells_run H2.out.ar)
            obtain ⟨cs, ecs⟩ : ∃ cs, cs = str (pad N s1) := ⟨_, rfl⟩
            unfold Texts at KC
            rw [← ecs] at KC
            have hcs : cs.size = N := by rw [ecs, str_size]; exact pad_length H2.out.ar.le
            have hix : Hid (∀ j : Nat, s1.length ≤ j → j < N → ∀ w, (Instr.index 9 (.string cs) (.int .i64 (j : Int))).run Try.prog w = .ok (.int .u8 0) w) := Lib.hid (fun j h1 h2 w => by
              rw [ecs, index_str _ _ (by rw [pad_length H2.out.ar.le]; exact h2), pad_zero h1 h2]
              rfl)
            have hs1 : s1.length ≤ N := H2.out.ar.le
            clear ecs
            go_wp2_with fail
            rw [HW.out]
            clear HW c0 c1 c2 c3 c4
            refine KC.out.mono ?_
            rintro _ w2 ⟨rfl, q⟩
            have H3 : Aside (One w w2 b g N s1) := H2.out.stays q
            have KL := Lib.hid (len_cl H3.out.ar)
            generalize s1.length = m1 at *
            clear KC H2 q
            have l1 : ¬ (m1 : Int) < 0 := by omega
            have l2 : ¬ (N : Int) < (m1 : Int) := by omega
            go_wp2_with fail
            refine (KS.out _).mono ?_
            rintro _ w2 ⟨rfl, rfl⟩
            go_wp2_with fail
            refine KL.out.mono ?_
            rintro _ w2 ⟨rfl, rfl⟩
            go_wp2_with fail
            refine KL.out.mono ?_
            rintro _ w2 ⟨rfl, rfl⟩
            go_wp2_with fail
            refine KL.out.mono ?_
            rintro _ w2 ⟨rfl, rfl⟩
            clear KL
            go_wp2
            go_loopg [10] N (fun gj vj wj => ∃ j : Nat, vj = .int .i64 (j : Int) ∧ m1 ≤ j ∧ j ≤ N ∧ N - j ≤ gj ∧ Aside (wj = w2))
            case atStart => exact ⟨m1, rfl, Nat.le_refl _, hs1, by omega, rfl⟩
            case round =>
              obtain ⟨j, rfl, hj1, hj2, hgj, HJ⟩ := hrel
              obtain rfl := HJ.out
              by_cases hjl : j < N
              · have hjz : (j : Int) < (N : Int) := by omega
                have hxj := hix.out j hj1 hjl
                go_wp2
                go_roundg (N - (j + 1))
                case measure => omega
                case rel => exact ⟨j + 1, by go_num, by omega, by omega, by omega, rfl⟩
              · have hjz : ¬ (j : Int) < (N : Int) := by omega
                go_wp2
                go_roundg (n - (i + 1))
                case measure => omega
                case rel => exact ⟨i + 1, by go_num, by omega, by omega, s1, H3.out⟩
    · have hltz : ¬ (i : Int) < (n : Int) := by omega
      have KW := Lib.hid (wipe_run HS.out.ar)
      go_wp2_with fail
      refine KW.out.mono ?_
      rintro _ w4 ⟨rfl, h, q⟩
      have H4 : Aside (One w w4 b g N []) := HS.out.act h q
      clear KW h q HS
      have KC := Lib.hid (cells_run H4.out.ar)
      obtain ⟨cs, ecs⟩ : ∃ cs, cs = str (pad N []) := ⟨_, rfl⟩
      unfold Texts at KC
      rw [← ecs] at KC
      have HC := Lib.hid ecs
      clear ecs
      go_wp2_with fail
      refine KC.out.mono ?_
      rintro _ w5 ⟨rfl, q⟩
      have H5 : Aside (One w w5 b g N []) := H4.out.stays q
      clear KC q H4
      obtain ⟨aa, cc, w6, hcv, hb6, q6⟩ := conv_str w5 (pad N [])
      rw [← HC.out, pad_length (Nat.zero_le _)] at hcv
      have H6 : Aside (One w w6 b g N []) := H5.out.stays q6
      have KZ : Hid (Calls Try.prog 24 #[.slice aa N cc] w6 (Gives (.bool true) w6)) := Lib.hid (by
        have := zero_any aa N cc (pad N []) w6 hb6 (pad_length (Nat.zero_le _)) (by omega)
        rw [zeros_pad] at this
        exact this)
      clear hb6 q6 HC H5
      go_wp2_with fail
      refine KZ.out.mono ?_
      rintro _ w6 ⟨rfl, rfl⟩
      clear KZ hcv
      have K1 : Hid (Calls Try.prog 23 #[.pointer (some ⟨b, 0, none⟩)] w6 (Tells (.bool true) w6)) := Lib.hid (Says.tells (zero_run H6.out.ar))
      go_wp2_with fail
      refine K1.out.mono ?_
      rintro _ w7 ⟨rfl, q⟩
      have H7 : Aside (One w w7 b g N []) := H6.out.stays q
      clear K1 q H6
      have K2 : Hid (Calls Try.prog 22 #[.pointer (some ⟨b, 0, none⟩)] w7 (Tells (.bool true) w7)) := Lib.hid (Says.tells (clean_run H7.out.ar))
      go_wp2_with fail
      refine K2.out.mono ?_
      rintro _ w8 ⟨rfl, q⟩
      have H8 : Aside (One w w8 b g N []) := H7.out.stays q
      clear K2 q H7
      have K3 : Hid (Calls Try.prog 20 #[.pointer (some ⟨b, 0, none⟩)] w8 (Gives (.int .i64 0) w8)) := Lib.hid (len_cl H8.out.ar)
      have K4 := Lib.hid (cap_cl H8.out.ar)
      go_wp2_with fail
      refine K3.out.mono ?_
      rintro _ w8 ⟨rfl, rfl⟩
      go_wp2_with fail
      refine K4.out.mono ?_
      rintro _ w8 ⟨rfl, rfl⟩
      go_wp2_with fail
      refine (KS.out _).mono ?_
      rintro _ w8 ⟨rfl, rfl⟩
      go_wp2
      go_ret
      exact ⟨rfl, H8.out.stp.under⟩
theorem vacates_walk (z : Int) (a : Option Addr) (cap : Nat) (l : List Ac) (w : World) (hU : As w a l) (hl : l.length ≤ 9223372036854775807) :
    Calls Try.prog 5 #[.int .i64 z, .slice a l.length cap] w (Truth w) := by
  cases hg : Great l with
  | true => exact vacates_long z a cap l.length l w hU rfl hl hg
  | false => exact vacates_short z a cap l.length l w hU rfl hl hg
end Go.Proofs.Ytkkfpbnlhgnchaa
