/-
  A character laid into a row: layOut and put.
-/
import Derived.Test.YtdaenaoagejgeaaGreatDoorRow
import Derived.Test.YtdaenaoagejgeaaGreatDoorVTab
namespace Go.Proofs.YtdaenaoagejgeaaGreatDoor
open Go.RowKit Go.Lib
set_option linter.unusedVariables false

theorem row_stp {W w2 w3 w4 : World} {R : Nat} {F ub vb : List Nat} (S2 : Stp [] W [] w2) (hs : Stp ub w2 vb w3) (hn : ∀ g ∈ ub, W.heap.size ≤ g) (hR : Stp [R] w3 [R] w4) : Stp (R :: F) W (R :: vb) w4 :=
  ⟨hR.os.trans (hs.os.trans S2.os), hR.tape.trans (hs.tape.trans S2.tape), hR.output.trans (hs.output.trans S2.output), Nat.le_trans S2.size (Nat.le_trans hs.size hR.size),
    fun j hj hF => (hR.block j (Nat.lt_of_lt_of_le hj (Nat.le_trans S2.size hs.size)) (fun e => hF (by rw [List.mem_singleton.1 e]; exact List.mem_cons_self))).trans
      ((hs.block j (Nat.lt_of_lt_of_le hj S2.size) (fun e => by have := hn j e; omega)).trans (S2.block j hj (by simp))),
    fun j hj => by
      rcases List.mem_cons.1 hj with rfl | e
      · exact .inl List.mem_cons_self
      · rcases hs.foot j e with g | g
        · exact .inr (hn j g)
        · exact .inr (Nat.le_trans S2.size g)⟩
section
variable {W W' : World} {R : Nat} {A D : List Value} {k : Nat} {v : Value} {cs : List Nat}
set_option maxHeartbeats 1000000 in
set_option maxRecDepth 100000 in
/-- layOut. -/
theorem layOut_run (h : RowAt W R A D k v cs) (n : Nat) (hk : k ≤ 1000000) (hcs : cs.length ≤ 1000000) (hn : n < k) :
    Calls Tryz.prog 75 #[.pointer (some ⟨R, A.length, none⟩), .int .i64 (n : Int)] W (RTo R A D v (fun k' v' cs' => k' = n ∧ cs' = List.replicate (k - n) 32 ++ cs ∧ ∃ g cap, v' = .slice (some ⟨g, 0, none⟩) cs'.length cap) W) := by
  obtain ⟨m, hm⟩ : ∃ m, k = n + m := ⟨k - n, by omega⟩
  have c0 := h.c0
  have c1 := h.c1
  have f0 := h.fz A.length
  have f1 := h.fz (A.length + 1)
  have hlt := h.lt
  obtain ⟨a, cap, rfl, _⟩ := h.cs.slice
  have KR := Lib.hid (rep_run 32 m (by omega) W)
  have e0 : (k : Int) - (n : Int) = (m : Int) := by omega
  have HM := Lib.hid hm
  have H := Lib.hid h
  generalize ho : A.length = o at *
  have HO := Lib.hid ho
  clear h ho hm
  go_enter Tryz.func75, Tryz.ntmps75
  go_wp2_with fail
  refine KR.out.mono ?_
  rintro _ w1 ⟨rfl, s1⟩
  obtain ⟨u, w2, hconv, hR, s2, hnew⟩ := blankR w1 m (by have := HM.out; omega)
  obtain ⟨b, bc, rfl, _⟩ := hR.slice
  have H2 := Lib.hid (H.out.stays (s1.trans s2))
  have c0 := (s1.trans s2).keeps rfl c0
  have c1 := (s1.trans s2).keeps rfl c1
  have S2 := Lib.hid (s1.trans s2)
  have HR := Lib.hid hR
  have HN : Aside (∀ g, (Value.slice b (List.replicate m 32).length bc).ownBlock = some g → W.heap.size ≤ g) := fun g hg => Nat.le_trans s1.size (hnew g hg)
  have hlt2 : R < w2.heap.size := Nat.lt_of_lt_of_le hlt (s1.trans s2).size
  rw [List.length_replicate] at hconv HR HN
  clear KR s1 s2 hR hnew
  go_wp2_with (at_builtin; go_loud (refine wpList_appR (v := .slice b m bc) (u := .slice a cs.length cap) rfl (.tmp 14) (.tmp 18) rfl rfl HR.out rfl H2.out.cs (by simp; have := HM.out; omega) ?_; intro v' w3 hv s3 hb; obtain ⟨a', cap', rfl, _⟩ := hv.slice; have H3 := Lib.hid (H2.out.other s3 (fun e => by have := HN.out R (by simpa using e); omega) (fun j hj e => by have h1 := HN.out j (by simpa using e); have h2 := H.out.cs.lt j hj; omega)); have hlt3 : R < w3.heap.size := H3.out.lt; have c1 := H3.out.c1; have c0 := H3.out.c0; have f1 := H3.out.fz (o + 1); have f0 := H3.out.fz o; rw [HO.out] at c0 c1))
  go_end0
  have HC := H3.out.setC hv
  rw [HO.out] at HC
  have HB := HC.1.setB n
  rw [HO.out] at HB
  have hLen : (List.replicate m 32 ++ cs).length = m + cs.length := by simp
  obtain ⟨g, cap2, e2, _⟩ := hv.at (by intro e; rw [e] at hLen; have := HM.out; simp at hLen; omega)
  rw [hLen] at HB HC s3 hb e2
  refine ⟨rfl, n, _, _, HB.1, ⟨rfl, by rw [show k - n = m by have := HM.out; omega], ⟨g, cap2, by rw [hLen]; exact e2⟩⟩, ?_, ?_⟩
  · exact row_stp S2.out s3 (fun j hj => HN.out j (by simpa using hj)) (HC.2.trans HB.2)
  · right
    intro j hj
    rcases hb with e | e
    · exact HN.out j (by rw [← e]; exact hj)
    · rw [e] at hj
      cases hj
      exact S2.out.size
end
end Go.Proofs.YtdaenaoagejgeaaGreatDoor
