/- The program's At, least, most, during and Least of layer 3 (step): what they answer. -/
import Derived.Test.YtkhnlbkghjjdnaaStepPSearch
namespace Go.Proofs.Ytkhnlbkghjjdnaa
open Go.RowKit

theorem stepAt_is (A : Option Addr) (n c K : Nat) (p : List (Int × Int)) (t : Int) (w : World) (hr : RS w w.heap.size A n p) (hn : n ≤ 4000) (hu : Up 0 p) (hK : pos p t = K + 1) :
    Calls Try.prog 48 #[.slice A n c, .int .i64 t] w fun e w' => e = .returned (.int .i64 K) ∧ Below w.heap.size w w' :=
  calls_int (stepAt_any A n c p t w hr hn hu) (by rw [hK]; omega)
theorem right_b {A : Option Addr} {n c : Nat} {p : List (Int × Int)} {w : World} {b : Bool} (hr : RS w w.heap.size A n p) (hn : n ≤ 2000) (h : rightP p = b) :
    Calls Try.prog 27 #[.slice A n c] w fun e w' => e = .returned (.bool b) ∧ Below w.heap.size w w' := by
  subst h; exact stepRight_any A n c p w hr hn

set_option maxRecDepth 100000 in
set_option maxHeartbeats 1000000 in
theorem stepAtF_any (A : Option Addr) (n c : Nat) (p : List (Int × Int)) (t : Int) (w : World) (hr : RS w w.heap.size A n p) (hn : n ≤ 2000) :
    Calls Try.prog 29 #[.slice A n c, .int .i64 t] w fun e w' => e = .returned (.int .i64 (atR p t)) ∧ Below w.heap.size w w' := by
  have HR := Lib.hid hr
  have HN := Lib.hid hn
  clear hr hn
  cases hp : rightP p with
  | false =>
    have hm : Hid (atR p t = 0) := Lib.hid (by unfold atR; rw [hp]; simp)
    have HP := Lib.hid hp
    clear hp
    go_enter Try.func29, Try.ntmps29
    go_wp2_with fail
    refine (right_b HR.out HN.out HP.out).mono ?_
    rintro e w1 ⟨rfl, hB⟩
    have HB := Lib.hid hB
    clear hB
    go_wp2
    go_ret
    exact ⟨ret_int hm.out.symm, HB.out⟩
  | true =>
    have HP := Lib.hid hp
    cases ht : timeB t with
    | false =>
      have hm : Hid (atR p t = 0) := Lib.hid (by unfold atR NEVER; rw [if_neg]; rintro ⟨_, h⟩; unfold timeB at ht; rw [decide_eq_false_iff_not] at ht; exact ht h)
      have HT := Lib.hid ht
      clear hp ht
      go_enter Try.func29, Try.ntmps29
      go_wp2_with fail
      refine (right_b HR.out HN.out HP.out).mono ?_
      rintro e w1 ⟨rfl, hB⟩
      have HB := Lib.hid hB
      clear hB
      go_wp2_with fail
      refine (whenRight_b t _ _ HT.out).mono ?_
      rintro e w2 ⟨rfl, rfl⟩
      go_wp2
      go_ret
      exact ⟨ret_int hm.out.symm, HB.out⟩
    | true =>
      have ht' := ht
      unfold timeB at ht'
      rw [decide_eq_true_eq] at ht'
      obtain ⟨hc, hbd, hl⟩ := (rightP_iff p).1 hp
      have hpos := pos_canon hc ht'.1
      obtain ⟨K, hK⟩ : ∃ K, pos p t = K + 1 := ⟨pos p t - 1, by omega⟩
      have hKn : K < n := by have := pos_le p t; have := HR.out.1; omega
      have hm : Hid (atR p t = (p.getD K (0, 0)).2) := Lib.hid (by
        unfold atR NEVER
        rw [if_pos ⟨hp, ht'⟩, atP_pos hpos, hK]
        rfl)
      have HT := Lib.hid ht
      have HU := Lib.hid (canon_up hc)
      have HK := Lib.hid hK
      have HN4 : Hid (n ≤ 4000) := Lib.hid (by have := HN.out; omega)
      clear hp ht ht' hc hbd hl hpos hK
      go_enter Try.func29, Try.ntmps29
      go_wp2_with fail
      refine (right_b HR.out HN.out HP.out).mono ?_
      rintro e w1 ⟨rfl, hB⟩
      have HB := Lib.hid hB
      clear hB
      go_wp2_with fail
      refine (whenRight_b t _ _ HT.out).mono ?_
      rintro e w2 ⟨rfl, rfl⟩
      go_wp2_with fail
      refine (stepAt_is _ _ _ K p t _ (HR.out.next HB.out) HN4.out HU.out HK.out).mono ?_
      rintro e w2 ⟨rfl, hB2⟩
      have HB2 : Hid (Below w.heap.size w w2) := Lib.hid (HB.out.trans (hB2.mono HB.out.size))
      clear hB2
      obtain ⟨b, off, rfl, _, hc1, hc2⟩ := (HR.out.next HB2.out).cells hKn
      generalize (p.getD K (0, 0)).1 = x at *
      generalize (p.getD K (0, 0)).2 = y at *
      go_wp2
      go_ret
      exact ⟨ret_int hm.out.symm, HB2.out⟩

set_option maxRecDepth 100000 in
set_option maxHeartbeats 1000000 in
theorem stepLeastL_any (A : Option Addr) (n c : Nat) (p : List (Int × Int)) (w : World) (hr : RS w w.heap.size A n p) (hn : n ≤ 2000) :
    Calls Try.prog 45 #[.slice A n c] w fun e w' => e = .returned (.int .i64 (minL p)) ∧ Below w.heap.size w w' := by
  have HR := Lib.hid hr
  clear hr
  go_enter Try.func45, Try.ntmps45
  go_wp2
  go_loopw [3, 8] (fun m i wr => ∃ k : Nat, k ≤ n ∧ i = .int .i64 k ∧ m = .int .i64 ((p.take k).foldl minS 1048576) ∧ Below w.heap.size w wr) (fun _ i _ => n - (intOf i).toNat)
  case atStart => exact ⟨0, by omega, rfl, rfl, Below.refl _ _⟩
  case round =>
    obtain ⟨k, hk, rfl, rfl, hB⟩ := hrel
    have HB := Lib.hid hB
    clear hB
    by_cases hlt : k < n
    · obtain ⟨b, off, rfl, hbr, hc1, hc2⟩ := (HR.out.next HB.out).cells hlt
      have hs : Hid ((p.take (k + 1)).foldl minS 1048576 = minS ((p.take k).foldl minS 1048576) (p.getD k (0, 0))) := Lib.hid (foldl_take _ _ _ (0, 0) _ (by rw [HR.out.1]; exact hlt))
      generalize (p.take k).foldl minS 1048576 = m at *
      have hf : Hid (minS m (p.getD k (0, 0)) = min m (p.getD k (0, 0)).2) := Lib.hid rfl
      generalize (p.getD k (0, 0)).1 = x at *
      generalize (p.getD k (0, 0)).2 = y at *
      go_wp2
      go_roundw
      case rel => exact ⟨k + 1, by omega, by go_num, by rw [hs.out, hf.out]; congr 1; split <;> omega, bel_alloc HB.out _⟩
      case measure => simp [intOf]; omega
    · have hkn : k = n := by omega
      subst hkn
      have hp : Hid ((p.take k).foldl minS 1048576 = minL p) := Lib.hid (by unfold minL; rw [List.take_of_length_le (by rw [HR.out.1]; exact Nat.le_refl _)])
      go_wp2
      go_ret
      exact ⟨ret_int hp.out, HB.out⟩
set_option maxRecDepth 100000 in
set_option maxHeartbeats 1000000 in
theorem stepMostL_any (A : Option Addr) (n c : Nat) (p : List (Int × Int)) (w : World) (hr : RS w w.heap.size A n p) (hn : n ≤ 2000) :
    Calls Try.prog 55 #[.slice A n c] w fun e w' => e = .returned (.int .i64 (maxL p)) ∧ Below w.heap.size w w' := by
  have HR := Lib.hid hr
  clear hr
  go_enter Try.func55, Try.ntmps55
  go_wp2
  go_loopw [3, 8] (fun m i wr => ∃ k : Nat, k ≤ n ∧ i = .int .i64 k ∧ m = .int .i64 ((p.take k).foldl maxS 0) ∧ Below w.heap.size w wr) (fun _ i _ => n - (intOf i).toNat)
  case atStart => exact ⟨0, by omega, rfl, rfl, Below.refl _ _⟩
  case round =>
    obtain ⟨k, hk, rfl, rfl, hB⟩ := hrel
    have HB := Lib.hid hB
    clear hB
    by_cases hlt : k < n
    · obtain ⟨b, off, rfl, hbr, hc1, hc2⟩ := (HR.out.next HB.out).cells hlt
      have hs : Hid ((p.take (k + 1)).foldl maxS 0 = maxS ((p.take k).foldl maxS 0) (p.getD k (0, 0))) := Lib.hid (foldl_take _ _ _ (0, 0) _ (by rw [HR.out.1]; exact hlt))
      generalize (p.take k).foldl maxS 0 = m at *
      have hf : Hid (maxS m (p.getD k (0, 0)) = max m (p.getD k (0, 0)).2) := Lib.hid rfl
      generalize (p.getD k (0, 0)).1 = x at *
      generalize (p.getD k (0, 0)).2 = y at *
      go_wp2
      go_roundw
      case rel => exact ⟨k + 1, by omega, by go_num, by rw [hs.out, hf.out]; congr 1; split <;> omega, bel_alloc HB.out _⟩
      case measure => simp [intOf]; omega
    · have hkn : k = n := by omega
      subst hkn
      have hp : Hid ((p.take k).foldl maxS 0 = maxL p) := Lib.hid (by unfold maxL; rw [List.take_of_length_le (by rw [HR.out.1]; exact Nat.le_refl _)])
      go_wp2
      go_ret
      exact ⟨ret_int hp.out, HB.out⟩

/-- the steps of a span, lying where the profile lies -/
def DurPost (l : List (Int × Int)) (w : World) (e : Ending) (w' : World) : Prop :=
  ∃ A n c, e = .returned (.slice A n c) ∧ RS w' w'.heap.size A n l ∧ n ≤ 2000 ∧ Below w.heap.size w w'
set_option maxRecDepth 100000 in
set_option maxHeartbeats 1000000 in
theorem stepDuring_any (A : Option Addr) (n c : Nat) (p : List (Int × Int)) (a b : Int) (w : World) (hr : RS w w.heap.size A n p) (hnc : n ≤ c) (hn : n ≤ 2000) (hp : Canon p) (h0 : 0 ≤ a) (hab : a < b) (hb : b ≤ 4611686018427387904) :
    Calls Try.prog 46 #[.slice A n c, .int .i64 a, .int .i64 b] w (DurPost (durL p a b) w) := by
  obtain ⟨d1, d2, d3⟩ := dur_len hp h0 hab
  obtain ⟨I, hI⟩ : ∃ I, pos p a = I + 1 := ⟨pos p a - 1, by have := pos_canon hp h0; omega⟩
  obtain ⟨J, hJ⟩ : ∃ J, pos p (b - 1) = J + 1 := ⟨pos p (b - 1) - 1, by omega⟩
  have hl := hr.1
  have hIJ : I < J + 1 := by omega
  have hJn : J + 1 ≤ n := by omega
  have hget : Hid (∀ j, j < J + 1 - I → (durL p a b).getD j (0, 0) = p.getD (I + j) (0, 0)) := Lib.hid (fun j hj => by
    have := dur_get (p := p) (a := a) (b := b) (j := j) (by omega)
    rw [this, hI]; rfl)
  have hlen : Hid ((durL p a b).length = J + 1 - I) := Lib.hid (by rw [d3, hI, hJ]; omega)
  have HR := Lib.hid hr
  have HU := Lib.hid (canon_up hp)
  have HI := Lib.hid hI
  have HJ := Lib.hid hJ
  have HN4 : Hid (n ≤ 4000) := Lib.hid (by omega)
  generalize durL p a b = L at *
  obtain ⟨bk, off, rfl, hbk, hcells⟩ := hr.2 (by omega)
  have HC := Lib.hid hcells
  have hbw := hbk
  have hcn : ¬ (c = I) := by omega
  clear hr hcells hI hJ d1 d2 d3 hp hl
  go_enter Try.func46, Try.ntmps46
  go_wp2_with fail
  refine (stepAt_is _ _ _ I p a _ HR.out HN4.out HU.out HI.out).mono ?_
  rintro e w1 ⟨rfl, hB1⟩
  have HB1 := Lib.hid hB1
  clear hB1
  go_wp2_with fail
  refine (stepAt_is _ _ _ J p (b - 1) _ (HR.out.next HB1.out) HN4.out HU.out HJ.out).mono ?_
  rintro e w2 ⟨rfl, hB2⟩
  have HB2 : Hid (Below w.heap.size w w2) := Lib.hid (HB1.out.trans (hB2.mono HB1.out.size))
  clear hB2
  go_wp2
  go_ret
  refine ⟨_, _, _, rfl, ⟨?_, fun _ => ⟨bk, off + I * 2, rfl, ?_, fun j hj => ?_⟩⟩, ?_, HB2.out⟩
  · exact hlen.out
  · have := HB2.out.size; omega
  · have h1 := HC.out (I + j) (by omega)
    rw [hget.out j hj]
    have e1 : off + I * 2 + j * 2 = off + (I + j) * 2 := by omega
    rw [e1]
    exact ⟨(HB2.out.cell (p := ⟨bk, off + (I + j) * 2, none⟩) hbw).trans h1.1, (HB2.out.cell (p := ⟨bk, off + (I + j) * 2 + 1, none⟩) hbw).trans h1.2⟩
  · omega

end Go.Proofs.Ytkhnlbkghjjdnaa
