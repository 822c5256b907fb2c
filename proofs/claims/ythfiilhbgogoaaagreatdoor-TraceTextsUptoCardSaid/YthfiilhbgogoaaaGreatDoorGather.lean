/-
  attrs.gather, gatherByte, gatherPart, gatherFlags: what is gathered of a text.
-/
import Derived.Test.YthfiilhbgogoaaaGreatDoorText2
import Derived.Lib.ParseIntB
namespace Go.Proofs.YthfiilhbgogoaaaGreatDoor
open Go.RowKit Go.Lib
set_option linter.unusedVariables false

/-- How strconv's own parse ends: a number, or an error. -/
def QEnd (r : Option Nat) (w : World) (e : Ending) (w' : World) : Prop :=
  (match r with
    | some v => e = .returned (.tuple #[.int .u64 (v : Int), .nilIface])
    | none => ∃ (z : Int) (t : TypeId) (x : Value), e = .returned (.tuple #[.int .u64 z, .iface t x])) ∧ Stp [] w [] w'
def par0 (b M : Nat) (l : List UInt8) : Option Nat := if l = [] then none else par b M 0 l
theorem gat_par0 (b M : Nat) (l : List UInt8) : gat b M l = (par0 b M l).getD 0 := by
  unfold gat par0
  split <;> rfl

set_option maxHeartbeats 1000000 in
set_option maxRecDepth 100000 in
theorem parseI_nil (w : World) : Calls Tryz.prog 108 #[.string ⟨#[]⟩, .int .i64 16, .int .i64 32] w (PEnd none w) := by
  go_enter Tryz.func108, Tryz.ntmps108
  go_wp2
  go_ret2
  exact pend_none rfl (by simp) (Stp.refl _ _)
theorem parse0_run (l : List UInt8) (hl : l.length ≤ 1000000) (w : World) : Calls Tryz.prog 108 #[.string (st l), .int .i64 16, .int .i64 32] w (PEnd (par0 16 4294967295 l) w) := by
  unfold par0
  by_cases h : l = []
  · subst h
    exact parseI_nil w
  · rw [if_neg h]
    have := parseI_run (st l) (by rw [st_size]; exact fun e => h (List.length_eq_zero_iff.1 e)) (by rw [st_size]; omega) w
    rw [st_data] at this
    exact this
theorem toErr_run (fn s : ByteArray) (b n k : Int) (hk : k = 1 ∨ k = 2) (w : World) (hs : s.size ≤ 1000000) (hT : Tabs w) :
    Calls Tryz.prog 86 #[.string fn, .string s, .int .i64 b, .int .i64 n, .iface 137 (.int .i64 k)] w fun e w' => ∃ t x, e = .returned (.iface t x) ∧ Stp [] w [] w' := by
  rcases hk with rfl | rfl
  · obtain ⟨t, p, h⟩ := hT.rng
    refine (Tryz.strconv_toError_range fn s b n _ w (by omega) h (.inr ⟨t, p, rfl⟩)).mono ?_
    rintro e w' ⟨N, rfl, _, _, hb⟩
    exact ⟨_, _, rfl, Stp.of_below hb⟩
  · obtain ⟨t, p, h⟩ := hT.syn
    refine (Tryz.strconv_toError_syntax fn s b n _ w (by omega) h (.inr ⟨t, p, rfl⟩)).mono ?_
    rintro e w' ⟨N, rfl, _, _, hb⟩
    exact ⟨_, _, rfl, Stp.of_below hb⟩
set_option maxHeartbeats 1000000 in
set_option maxRecDepth 100000 in
theorem parse16_run (l : List UInt8) (hl : l.length ≤ 1000000) (w : World) (hT : Tabs w) : Calls Tryz.prog 95 #[.string (st l), .int .i64 16, .int .i64 32] w (QEnd (par0 16 4294967295 l) w) := by
  have K := parse0_run l hl w
  cases hr : par0 16 4294967295 l with
  | some v =>
    rw [hr] at K
    go_enter Tryz.func95, Tryz.ntmps95
    go_wp2_with (go_at_call 108; refine K.mono ?_; rintro _ w' ⟨he, hs⟩; simp only at he; subst he)
    go_ret2
    exact ⟨rfl, hs⟩
  | none =>
    rw [hr] at K
    have HE : Aside (∀ W, Stp [] w [] W → ∀ k : Int, k = 1 ∨ k = 2 → Calls Tryz.prog 86 #[.string ⟨#[80, 97, 114, 115, 101, 85, 105, 110, 116]⟩, .string (st l), .int .i64 16, .int .i64 32, .iface 137 (.int .i64 k)] W fun e w' => ∃ t x, e = .returned (.iface t x) ∧ Stp [] W [] w') :=
      fun W hs k hk => toErr_run _ _ _ _ k hk W (by rw [st_size]; omega) (hT.stays hs)
    clear hT
    go_enter Tryz.func95, Tryz.ntmps95
    go_wp2_with (first
      | (go_at_call 108; refine K.mono ?_; rintro _ w1 ⟨⟨z, k, hk, rfl⟩, hs⟩)
      | (go_at_call 86; refine (HE.out _ hs k hk).mono ?_; rintro _ w2 ⟨t, x, rfl, hs2⟩))
    go_ret2
    exact ⟨⟨_, _, _, rfl⟩, hs.trans hs2⟩
theorem parM : ∀ (l : List UInt8) (acc : Nat), acc ≤ 255 → (∃ u, Lib.parseUintM 255 acc l = .ok u ∧ par 10 255 acc l = some u) ∨ ((∀ u, Lib.parseUintM 255 acc l ≠ .ok u) ∧ par 10 255 acc l = none)
  | [], acc, h => .inl ⟨acc, rfl, rfl⟩
  | c :: r, acc, h => by
    by_cases hd : 48 ≤ c.toNat ∧ c.toNat ≤ 57
    · have hdv : dv c = some (c.toNat - 48) := by unfold dv; rw [if_pos hd]
      by_cases ho : 255 < acc * 10 + (c.toNat - 48)
      · refine .inr ⟨fun u => ?_, ?_⟩
        · simp [Lib.parseUintM, hd, ho]
        · simp [par, hdv, ho]
      · have e1 : Lib.parseUintM 255 acc (c :: r) = Lib.parseUintM 255 (acc * 10 + (c.toNat - 48)) r := by
          simp only [Lib.parseUintM]
          rw [if_pos hd, if_neg (by omega), if_neg ho]
        have e2 : par 10 255 acc (c :: r) = par 10 255 (acc * 10 + (c.toNat - 48)) r := by
          simp only [par, hdv]
          rw [if_neg (by omega), if_neg ho]
        rw [e1, e2]
        exact parM r (acc * 10 + (c.toNat - 48)) (by omega)
    · refine .inr ⟨fun u => ?_, ?_⟩
      · simp only [Lib.parseUintM]
        rw [if_neg hd]
        intro e
        cases e
      · have : dv c = none ∨ ∃ d, dv c = some d ∧ 10 ≤ d := by
          unfold dv
          rw [if_neg hd]
          split
          · exact .inr ⟨_, rfl, by omega⟩
          · exact .inl rfl
        rcases this with e | ⟨d, e, h10⟩
        · simp [par, e]
        · simp only [par, e]
          rw [if_pos h10]
theorem parse10_run (l : List UInt8) (hl : l.length ≤ 1000000) (w : World) (hT : Tabs w) : Calls Tryz.prog 95 #[.string (st l), .int .i64 10, .int .i64 8] w (QEnd (par0 10 255 l) w) := by
  have hsz := st_size l
  have hcase : (∃ u, Lib.parseUintB 8 l = .ok u ∧ par0 10 255 l = some u) ∨ ((∀ u, Lib.parseUintB 8 l ≠ .ok u) ∧ par0 10 255 l = none) := by
    unfold Lib.parseUintB par0
    split
    · exact .inr ⟨fun u e => (by cases e), rfl⟩
    · exact parM l 0 (by omega)
  rcases hB : Lib.parseUintB 8 l with u | _ | _
  · rcases hcase with ⟨u', h1, h2⟩ | ⟨h1, _⟩
    · rw [hB] at h1
      cases h1
      rw [h2]
      refine (Tryz.strconv_ParseUint_10_at8_ok (st l) (by omega) u (by rw [st_data]; exact hB) w).mono ?_
      rintro e w' ⟨rfl, hw⟩
      refine ⟨rfl, ?_⟩
      rcases hw with rfl | rfl
      · exact Stp.refl _ _
      · exact bytesWorld_stp _ _
    · exact absurd hB (h1 u)
  · rcases hcase with ⟨u', h1, _⟩ | ⟨_, h2⟩
    · rw [hB] at h1
      cases h1
    · rw [h2]
      obtain ⟨t, p, h⟩ := hT.syn
      refine (Any.strconv_ParseUint_10_at8_syntax Tryz.laysPu14 (st l) (by omega) (by rw [st_data]; exact hB) _ w h (.inr ⟨t, p, rfl⟩)).mono ?_
      rintro e w' ⟨N, rfl, _, _, hb⟩
      exact ⟨⟨_, _, _, rfl⟩, Stp.of_below hb⟩
  · rcases hcase with ⟨u', h1, _⟩ | ⟨_, h2⟩
    · rw [hB] at h1
      cases h1
    · rw [h2]
      obtain ⟨t, p, h⟩ := hT.rng
      refine (Tryz.strconv_ParseUint_10_at8_range (st l) (by omega) (by rw [st_data]; exact hB) _ w h (.inr ⟨t, p, rfl⟩)).mono ?_
      rintro e w' ⟨N, rfl, _, _, hb⟩
      exact ⟨⟨_, _, _, rfl⟩, Stp.of_below hb⟩
set_option maxHeartbeats 1000000 in
set_option maxRecDepth 100000 in
theorem gather_any (l : List UInt8) (b n : Int) (r : Option Nat) (w : World) (K : Calls Tryz.prog 95 #[.string (st l), .int .i64 b, .int .i64 n] w (QEnd r w)) :
    Calls Tryz.prog 83 #[.string (st l), .int .i64 b, .int .i64 n] w (Tells (.int .u64 ((r.getD 0 : Nat) : Int)) w) := by
  cases r with
  | some v =>
    go_enter Tryz.func83, Tryz.ntmps83
    go_wp2_with (go_at_call 95; refine K.mono ?_; rintro _ w' ⟨he, hs⟩; simp only at he; subst he)
    go_ret
    exact ⟨rfl, hs⟩
  | none =>
    go_enter Tryz.func83, Tryz.ntmps83
    go_wp2_with (go_at_call 95; refine K.mono ?_; rintro _ w1 ⟨⟨z, t, x, rfl⟩, hs⟩)
    go_ret
    exact ⟨rfl, hs⟩
theorem gather16_run (l : List UInt8) (hl : l.length ≤ 1000000) (w : World) (hT : Tabs w) : Calls Tryz.prog 83 #[.string (st l), .int .i64 16, .int .i64 32] w (Tells (.int .u64 (gat 16 4294967295 l : Int)) w) := by
  rw [gat_par0]
  exact gather_any l 16 32 _ w (parse16_run l hl w hT)
theorem gather10_run (l : List UInt8) (hl : l.length ≤ 1000000) (w : World) (hT : Tabs w) : Calls Tryz.prog 83 #[.string (st l), .int .i64 10, .int .i64 8] w (Tells (.int .u64 (gat 10 255 l : Int)) w) := by
  rw [gat_par0]
  exact gather_any l 10 8 _ w (parse10_run l hl w hT)
set_option maxHeartbeats 1000000 in
set_option maxRecDepth 100000 in
theorem gbyte_run (l : List UInt8) (hl : l.length ≤ 1000000) (w : World) (hT : Tabs w) : Calls Tryz.prog 69 #[.string (st l)] w (Tells (.int .u8 (gat 10 255 l : Int)) w) := by
  have K := gather10_run l hl w hT
  have hle := gat_le 10 255 l
  generalize gat 10 255 l = v at *
  have hv : (v : Int) ≤ 255 := by omega
  go_enter Tryz.func69, Tryz.ntmps69
  go_wp2_with (go_at_call 83; refine K.mono ?_; rintro _ w' ⟨rfl, hs⟩)
  go_ret
  exact ⟨rfl, hs⟩
end Go.Proofs.YthfiilhbgogoaaaGreatDoor
