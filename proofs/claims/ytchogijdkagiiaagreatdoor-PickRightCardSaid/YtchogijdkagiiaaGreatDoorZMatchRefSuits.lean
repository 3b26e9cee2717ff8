/- The reference's may, Suits, Many of layer 9 (bailiwickref09): what they answer of any graph, free things, spec. -/
import Derived.Test.YtchogijdkagiiaaGreatDoorZMatchRefGets
import Derived.Test.YtchogijdkagiiaaGreatDoorZSpecRef2
namespace Go.Proofs.YtchogijdkagiiaaGreatDoor
open Go.RowKit

theorem may_no {g : Gr} {F : List Int} {s : Sp} (h : rightG g = false ∨ rightB F = false ∨ rightS s = false) : mayB g F s = false := by
  unfold mayB
  rcases h with h | h | h
  · rw [h]; rfl
  · rw [h]; simp
  · rw [h]; simp
set_option maxRecDepth 100000 in
set_option maxHeartbeats 4000000 in
theorem refMay_any (A : Option Addr) (n c : Nat) (A2 : Option Addr) (n2 c2 : Nat) (g : Gr) (F : List Int) (s : Sp) (w : World) (hr : RG w w.heap.size A n g) (hn : n ≤ maxLen) (hr2 : RI w w.heap.size A2 n2 F) (hn2 : n2 ≤ maxLen) (hs : SAsk s) :
    Calls Tryz.prog 92 #[.slice A n c, .slice A2 n2 c2, .agg #[.int .i64 s.nodes, .int .i64 s.cores, .int .i64 s.gpus, .string s.tag, .bool s.whole, .int .i64 s.long, .int .i64 s.prio]] w fun e w' => e = .returned (.bool (mayB g F s)) ∧ Below w.heap.size w w' := by
  have HSN := Lib.hid hs
  obtain ⟨W, hW⟩ : ∃ W, W = w.alloc (spO s) := ⟨_, rfl⟩
  have BX : Hid (BoxS W w.heap.size s) := Lib.hid (by rw [hW]; exact box_new w s)
  have hb0 : Below w.heap.size w W := by rw [hW]; exact (Below.refl _ _).alloc (Nat.le_refl _) _
  have HB := Lib.hid hb0
  have HR := Lib.hid (hr.next hb0)
  have HI := Lib.hid (hr2.next hb0)
  have HN := Lib.hid hn
  have HN2 := Lib.hid hn2
  unfold spO at hW
  clear hr hr2 hs hb0 hn hn2
  cases hg : rightG g with
  | false =>
    have e0 := Lib.hid (may_no (F := F) (s := s) (.inl hg))
    have HG := Lib.hid hg
    clear hg
    go_enter Tryz.func92, Tryz.ntmps92
    go_wp2_with fail
    rw [← hW]
    clear hW
    refine (refRightG_b HR.out HN.out HG.out).mono ?_
    rintro e w1 ⟨rfl, hb⟩
    have HB1 := Lib.hid (HB.out.trans (hb.mono HB.out.size))
    clear hb
    go_wp2
    go_ret
    exact ⟨ret_bool e0.out, HB1.out⟩
  | true =>
    have HG := Lib.hid hg
    cases hf : rightB F with
    | false =>
      have e0 := Lib.hid (may_no (g := g) (s := s) (.inr (.inl hf)))
      have HF := Lib.hid hf
      clear hg hf
      go_enter Tryz.func92, Tryz.ntmps92
      go_wp2_with fail
      rw [← hW]
      clear hW
      refine (refRightG_b HR.out HN.out HG.out).mono ?_
      rintro e w1 ⟨rfl, hb⟩
      have HB1 := Lib.hid (HB.out.trans (hb.mono HB.out.size))
      have HI1 := Lib.hid (HI.out.next hb)
      clear hb
      go_wp2_with fail
      refine (ri_isSet HI1.out HN2.out HF.out).mono ?_
      rintro e w2 ⟨rfl, hb⟩
      have HB2 := Lib.hid (HB1.out.trans (hb.mono HB1.out.size))
      clear hb
      go_wp2
      go_ret
      exact ⟨ret_bool e0.out, HB2.out⟩
    | true =>
      obtain ⟨v, hv⟩ : ∃ v, rightS s = v := ⟨_, rfl⟩
      have e0 : Hid (mayB g F s = v) := Lib.hid (by unfold mayB; rw [hg, hf, hv]; simp)
      have HF := Lib.hid hf
      have HV := Lib.hid hv
      clear hg hf hv
      go_enter Tryz.func92, Tryz.ntmps92
      go_wp2_with fail
      rw [← hW]
      clear hW
      refine (refRightG_b HR.out HN.out HG.out).mono ?_
      rintro e w1 ⟨rfl, hb⟩
      have HB1 := Lib.hid (HB.out.trans (hb.mono HB.out.size))
      have HI1 := Lib.hid (HI.out.next hb)
      have BX1 := Lib.hid (BX.out.next hb)
      clear hb
      go_wp2_with fail
      refine (ri_isSet HI1.out HN2.out HF.out).mono ?_
      rintro e w2 ⟨rfl, hb⟩
      have HB2 := Lib.hid (HB1.out.trans (hb.mono HB1.out.size))
      have BX2 := Lib.hid (BX1.out.next hb)
      clear hb
      have q0 := BX2.out.c0
      have q1 := BX2.out.c1
      have q2 := BX2.out.c2
      have q3 := BX2.out.c3
      have q4 := BX2.out.c4
      have q5 := BX2.out.c5
      have q6 := BX2.out.c6
      go_wp2_with fail
      refine (refRightS_b HSN.out HV.out).mono ?_
      rintro e w3 ⟨rfl, hb⟩
      have HB3 := Lib.hid (HB2.out.trans (hb.mono HB2.out.size))
      clear hb q0 q1 q2 q3 q4 q5 q6
      cases v
      all_goals
        go_wp2
        go_ret
        exact ⟨ret_bool e0.out, HB3.out⟩
theorem refMay_b {A : Option Addr} {n c : Nat} {A2 : Option Addr} {n2 c2 : Nat} {g : Gr} {F : List Int} {s : Sp} {w : World} {b : Bool} (hr : RG w w.heap.size A n g) (hn : n ≤ maxLen) (hr2 : RI w w.heap.size A2 n2 F) (hn2 : n2 ≤ maxLen) (hs : SAsk s) (e : mayB g F s = b) :
    Calls Tryz.prog 92 #[.slice A n c, .slice A2 n2 c2, .agg #[.int .i64 s.nodes, .int .i64 s.cores, .int .i64 s.gpus, .string s.tag, .bool s.whole, .int .i64 s.long, .int .i64 s.prio]] w fun e w' => e = .returned (.bool b) ∧ Below w.heap.size w w' := by
  subst e; exact refMay_any A n c A2 n2 c2 g F s w hr hn hr2 hn2 hs


end Go.Proofs.YtchogijdkagiiaaGreatDoor
