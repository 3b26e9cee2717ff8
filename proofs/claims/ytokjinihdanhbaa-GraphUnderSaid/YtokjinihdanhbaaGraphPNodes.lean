/- The program's Nodes of layer 5 (graph): what it answers of any list of things. -/
import Derived.Test.YtokjinihdanhbaaGraphPList
namespace Go.Proofs.Ytokjinihdanhbaa
open Go.RowKit

theorem alloc_size (w : World) (o : Obj) : (w.alloc o).heap.size = w.heap.size + 1 := by simp
set_option maxRecDepth 100000 in
set_option maxHeartbeats 4000000 in
theorem nodes_any (A : Option Addr) (n c : Nat) (g : Gr) (w : World) (h : GAsk w A n c g) :
    Calls Try.prog 25 #[.slice A n c] w (IPost (nodesL g) w) := by
  obtain ⟨i0, hi0, hz0, hz1, hz2⟩ := info_parts int_info
  have HN : Hid (n ≤ maxLen) := Lib.hid (ml300 h.few)
  have HR := Lib.hid h.reads
  have HL := Lib.hid h.reads.len
  clear h
  cases hg : rightG g with
  | false =>
    have e0 : nodesL g = [] := by unfold nodesL; rw [hg]; rfl
    rw [e0]
    have HG := Lib.hid hg
    clear hg e0
    go_enter Try.func25, Try.ntmps25
    go_wp2_with fail
    refine (graphRight_b HR.out HN.out HG.out).mono ?_
    rintro e w1 ⟨rfl, hb⟩
    have HB := Lib.hid hb
    clear hb
    go_wp2
    go_ret
    exact ipost_nil HB.out
  | true =>
    have HGR := Lib.hid (rightG_is hg)
    have HG := Lib.hid hg
    have HRES : Hid (nodesL g = numsF (fun k => gk g k == 2) n) := Lib.hid (by unfold nodesL; rw [if_pos hg, HL.out])
    clear hg
    have hn256 : n ≤ 256 := by have := HGR.out.few; have := HL.out; omega
    go_enter Try.func25, Try.ntmps25
    go_wp2_with fail
    refine (graphRight_b HR.out HN.out HG.out).mono ?_
    rintro e w1 ⟨rfl, hb⟩
    have HB := Lib.hid hb
    have HR1 := Lib.hid (HR.out.next hb)
    clear hb
    go_wp2
    go_loopw [3, 11] (fun v i wr => ∃ k : Nat, k ≤ n ∧ i = .int .i64 k ∧ ON EI 1 3 w1 v (numsF (fun k => gk g k == 2) k) wr) (fun _ i _ => n - (intOf i).toNat)
    case atStart => exact ⟨0, Nat.zero_le _, rfl, ON.nil _⟩
    case round =>
      obtain ⟨k, hk, rfl, hf⟩ := hrel
      by_cases hlt : k < n
      · have hlen : Hid ((numsF (fun k => gk g k == 2) k).length ≤ 1000) := Lib.hid (by have := numsF_len (fun k => gk g k == 2) k; omega)
        have HRk := Lib.hid (HR1.out.next hf.below)
        obtain ⟨b, off, rfl, _, hc0, hc1, hc2, _⟩ := HRk.out.one hlt
        obtain ⟨kk, hkk⟩ : ∃ kk, gk g k = kk := ⟨_, rfl⟩
        obtain ⟨uu, huu⟩ : ∃ uu, gu g k = uu := ⟨_, rfl⟩
        obtain ⟨ss, hss⟩ : ∃ ss, gt g k = ss := ⟨_, rfl⟩
        rw [hkk] at hc0
        rw [huu] at hc1
        rw [hss] at hc2
        have HF : Hid (ON EI 1 3 w1 _ (numsF (fun k => gk g k == 2) k) (wr.alloc (.cells #[.int .i64 kk, .int .i64 uu, .string ss] 38))) := Lib.hid (hf.next ei_steady ((Below.refl _ _).alloc (Nat.le_refl _) _))
        clear hf huu hss
        by_cases h2 : kk = 2
        · have HS : Hid (numsF (fun k => gk g k == 2) (k + 1) = numsF (fun k => gk g k == 2) k ++ [(k : Int)]) := Lib.hid (numsF_yes (by rw [hkk, h2]; rfl))
          subst h2
          clear hkk
          go_wp2_with (at_builtin; refine wpList_append_EI rfl (.tmp 19) (.tmp 21) 23 3 rfl HF.out i0 Try.underlying23 hi0 hz0 hz1 hz2 rfl _ (by rw [alloc_size]; rfl) hlen.out ?_; intro v' w4 hON4; refine Hid.out ?_)
          refine Lib.hid ?_
          have HO4 := Lib.hid hON4
          clear hON4 hc0 hc1 hc2
          go_wp2
          go_roundw
          case rel => exact ⟨k + 1, by omega, by go_num, by rw [HS.out]; exact HO4.out⟩
          case measure => simp [intOf]; omega
        · have h2d : (kk == 2) = false := by simpa using h2
          have HS : Hid (numsF (fun k => gk g k == 2) (k + 1) = numsF (fun k => gk g k == 2) k) := Lib.hid (numsF_no (by rw [hkk]; exact h2d))
          clear hkk h2
          go_wp2
          go_roundw
          case rel => exact ⟨k + 1, by omega, by go_num, by rw [HS.out]; exact HF.out⟩
          case measure => simp [intOf]; omega
      · have hkn : k = n := by omega
        subst hkn
        have HF := Lib.hid hf
        clear hf
        go_wp2
        go_ret
        rw [HRES.out]
        exact HF.out.ipost.trans HB.out

end Go.Proofs.Ytokjinihdanhbaa
