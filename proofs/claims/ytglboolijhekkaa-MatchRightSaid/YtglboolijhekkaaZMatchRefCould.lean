/- The reference's Could of layer 9 (bailiwickref09): what it answers of any graph, spec. -/
import Derived.Test.YtglboolijhekkaaZMatchRefFind
namespace Go.Proofs.Ytglboolijhekkaa
open Go.RowKit

set_option maxRecDepth 100000 in
set_option maxHeartbeats 8000000 in
theorem refCould_any (A : Option Addr) (n c : Nat) (g : Gr) (s : Sp) (w : World) (hr : RG w w.heap.size A n g) (hn : n ≤ maxLen) (hs : SAsk s) :
    Calls Try.prog 15 #[.slice A n c, .agg #[.int .i64 s.nodes, .int .i64 s.cores, .int .i64 s.gpus, .string s.tag, .bool s.whole, .int .i64 s.long, .int .i64 s.prio]] w fun e w' => e = .returned (.bool (couldL g s)) ∧ Below w.heap.size w w' := by
  obtain ⟨i0, hi0, hz0, hz1, hz2⟩ := info_parts int_info
  have HSN := Lib.hid hs
  obtain ⟨W, hW⟩ : ∃ W, W = w.alloc (spO s) := ⟨_, rfl⟩
  have BX : Hid (BoxS W w.heap.size s) := Lib.hid (by rw [hW]; exact box_new w s)
  have hb0 : Below w.heap.size w W := by rw [hW]; exact (Below.refl _ _).alloc (Nat.le_refl _) _
  have HB := Lib.hid hb0
  have HR := Lib.hid (hr.next hb0)
  have HN := Lib.hid hn
  have HL := Lib.hid hr.len
  unfold spO at hW
  clear hr hs hb0
  unfold maxLen at hn
  go_enter Try.func15, Try.ntmps15
  go_wp2
  rw [← hW]
  clear hW
  go_loopw [5, 6] (fun so si wr => ∃ m : Nat, m ≤ n ∧ m ≤ 256 ∧ si = .int .i64 m ∧ ON EI 1 3 W so (allN m) wr) (fun _ i _ => n - (intOf i).toNat)
  case atStart => exact ⟨0, Nat.zero_le _, Nat.zero_le _, rfl, ON.nil _⟩
  case round =>
    obtain ⟨m, hm, hm2, rfl, hon⟩ := hrel
    have HON := Lib.hid hon
    have hlen : Hid ((allN m).length ≤ 1000) := Lib.hid (by have := numsF_len (fun _ => true) m; unfold allN; omega)
    clear hon
    by_cases hlt : m < n ∧ m < 256
    · obtain ⟨hl1, hl2⟩ := hlt
      go_wp2_with (at_builtin; refine wpList_append_EI rfl (.tmp 19) (.tmp 21) 23 3 rfl HON.out i0 Try.underlying23 hi0 hz0 hz1 hz2 rfl _ rfl hlen.out ?_; intro v5 w5 hON5; refine Hid.out ?_)
      refine Lib.hid ?_
      have HON5 := Lib.hid hON5
      clear hON5
      go_wp2
      go_roundw
      case rel => exact ⟨m + 1, by omega, by omega, by go_num, by rw [allN_succ]; exact HON5.out⟩
      case measure => simp [intOf]; omega
    · have E := Lib.hid (could_is (g := g) (s := s) (m := m) (by rw [HL.out]; omega))
      have HBx := Lib.hid HON.out.below
      have HRx := Lib.hid (HR.out.next HBx.out)
      have BXx := Lib.hid (BX.out.next HBx.out)
      have HBE := Lib.hid (HB.out.trans (HBx.out.mono HB.out.size))
      obtain ⟨Aa, ca, rfl, _, _⟩ := HON.out.form
      have HI := Lib.hid (HON.out.reads ei_steady (by omega) rfl).ri
      have HIL : Hid ((allN m).length ≤ maxLen) := Lib.hid (by have := hlen.out; unfold maxLen; omega)
      have HC1 := Lib.hid (refFind_any A n c Aa (allN m).length ca g (allN m) s wr HRx.out HN.out HI.out HIL.out HSN.out)
      rw [E.out] at HC1
      generalize (allN m).length = N5 at *
      generalize findL g (allN m) s = LF at *
      have q0 := BXx.out.c0
      have q1 := BXx.out.c1
      have q2 := BXx.out.c2
      have q3 := BXx.out.c3
      have q4 := BXx.out.c4
      have q5 := BXx.out.c5
      have q6 := BXx.out.c6
      have hway : (m = n) ∨ (m < n ∧ m = 256) := by omega
      clear hlt
      rcases hway with h | ⟨h, h'⟩
      · have d1 : decide ((m : Int) < (n : Int)) = false := by simp; omega
        go_wp2_with fail
        refine HC1.out.mono ?_
        rintro e w2 ⟨⟨A3, c3, rfl, _⟩, hb⟩
        have HB2 := Lib.hid (HBE.out.trans (hb.mono HBE.out.size))
        clear hb q0 q1 q2 q3 q4 q5 q6
        go_wp2
        go_ret
        exact ⟨rfl, HB2.out⟩
      · have d1 : decide ((m : Int) < 256) = false := by simp; omega
        go_wp2_with fail
        refine HC1.out.mono ?_
        rintro e w2 ⟨⟨A3, c3, rfl, _⟩, hb⟩
        have HB2 := Lib.hid (HBE.out.trans (hb.mono HBE.out.size))
        clear hb q0 q1 q2 q3 q4 q5 q6
        go_wp2
        go_ret
        exact ⟨rfl, HB2.out⟩

end Go.Proofs.Ytglboolijhekkaa
