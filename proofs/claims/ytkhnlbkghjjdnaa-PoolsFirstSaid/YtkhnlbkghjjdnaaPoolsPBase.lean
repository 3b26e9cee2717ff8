/- The program's small functions of layer 4 (pools): kinds, Right, asked, same: what they answer of any list of profiles. -/
import Derived.Test.YtkhnlbkghjjdnaaPoolsFace
import Derived.Test.YtkhnlbkghjjdnaaFillN
import Derived.Test.YtkhnlbkghjjdnaaStepPOk
namespace Go.Proofs.Ytkhnlbkghjjdnaa
open Go.RowKit

/-- steps in new memory, as an element of a row that lay there already -/
theorem es_own {w w3 : World} {v : Value} {g : Nat} {l : List (Int × Int)} (h : SOwn w v l w3) (hg : g < w.heap.size) (hm : l.length ≤ maxLen) :
    ∃ A c, v = .slice A l.length c ∧ ES w3 (fun b => b < w3.heap.size ∧ b ≠ g) l [.slice A l.length c] := by
  obtain ⟨A, c, rfl⟩ := own_form h.1
  have hr := RS.of_own h.1
  refine ⟨A, c, rfl, A, l.length, c, rfl, ⟨hr.1, fun hn => ?_⟩, own_nil h.1, own_cap h.1, hm⟩
  obtain ⟨b, off, e1, hb, hc⟩ := hr.2 hn
  have h1 := (h.1.lt b (by rw [e1]; rfl)).1
  exact ⟨b, off, e1, ⟨hb, by omega⟩, hc⟩

def kindsB (k : Nat) : Bool := decide (1 ≤ k ∧ k ≤ 4)
theorem kinds_any (k : Nat) (w : World) : Calls Try.prog 34 #[.int .i64 k] w fun e w' => e = .returned (.bool (kindsB k)) ∧ w = w' := by
  by_cases h : 1 ≤ (k : Int)
  · by_cases h2 : (k : Int) ≤ 4
    · have e : Hid (kindsB k = true) := Lib.hid (by unfold kindsB; exact decide_eq_true (by omega))
      go_enter Try.func34, Try.ntmps34
      go_wp2
      go_ret
      exact ⟨ret_bool e.out, rfl⟩
    · have e : Hid (kindsB k = false) := Lib.hid (by unfold kindsB; exact decide_eq_false (by omega))
      go_enter Try.func34, Try.ntmps34
      go_wp2
      go_ret
      exact ⟨ret_bool e.out, rfl⟩
  · have e : Hid (kindsB k = false) := Lib.hid (by unfold kindsB; exact decide_eq_false (by omega))
    go_enter Try.func34, Try.ntmps34
    go_wp2
    go_ret
    exact ⟨ret_bool e.out, rfl⟩
theorem kinds_b {k : Nat} {w : World} {b : Bool} (h : kindsB k = b) : Calls Try.prog 34 #[.int .i64 k] w fun e w' => e = .returned (.bool b) ∧ w = w' := by
  subst h; exact kinds_any k w

set_option maxRecDepth 100000 in
set_option maxHeartbeats 1000000 in
theorem poolsRight_any (A : Option Addr) (n c : Nat) (ls : List (List (Int × Int))) (w : World) (h : PAsk w A n c ls) :
    Calls Try.prog 14 #[.slice A n c] w fun e w' => e = .returned (.bool (rightPP ls)) ∧ Below w.heap.size w w' := by
  have HR := Lib.hid h.reads
  have HST := Lib.hid h.steps
  have hn := h.kinds
  clear h
  cases hk : kindsB n with
  | false =>
    have e0 : Hid (rightPP ls = false) := Lib.hid (by
      unfold kindsB at hk
      rw [decide_eq_false_iff_not] at hk
      unfold rightPP
      rw [decide_eq_false_iff_not]
      intro h
      have h1 := h.1
      have h2 := h.2.1
      rw [HR.out.len] at h2
      refine hk ⟨?_, h2⟩
      rcases Nat.eq_zero_or_pos n with h0 | h0
      · exact absurd (List.eq_nil_of_length_eq_zero (by rw [HR.out.len]; exact h0)) h1
      · exact h0)
    have HK := Lib.hid hk
    clear hk
    go_enter Try.func14, Try.ntmps14
    go_wp2_with fail
    refine (kinds_b HK.out).mono ?_
    rintro e w1 ⟨rfl, rfl⟩
    go_wp2
    go_ret
    exact ⟨ret_bool e0.out, Below.refl _ _⟩
  | true =>
    have HK := Lib.hid hk
    have hk4 : 1 ≤ n ∧ n ≤ 4 := by unfold kindsB at hk; rwa [decide_eq_true_eq] at hk
    have hk1 := hk4.1
    have hk2 := hk4.2
    clear hk hk4
    go_enter Try.func14, Try.ntmps14
    go_wp2_with fail
    refine (kinds_b HK.out).mono ?_
    rintro e w1 ⟨rfl, rfl⟩
    go_wp2
    go_loopw [11] (fun i wr => ∃ k : Nat, k ≤ n ∧ i = .int .i64 k ∧ (∀ j, j < k → rightP (ls.getD j []) = true) ∧ Below w.heap.size w wr) (fun i _ => n - (intOf i).toNat)
    case atStart => exact ⟨0, Nat.zero_le _, rfl, fun i hi => absurd hi (by omega), Below.refl _ _⟩
    case round =>
      obtain ⟨k, hk, rfl, hpre, hb⟩ := hrel
      have HP := Lib.hid hpre
      have HB := Lib.hid hb
      clear hpre hb
      by_cases hlt : k < n
      · have hRn := Lib.hid (HR.out.next HB.out)
        obtain ⟨b, off, A', m, c', rfl, _, hc, hr', _, _, _⟩ := hRn.out.one hlt
        have hm : Hid (m ≤ 2000) := Lib.hid (by have h1 := HST.out k hlt; have h2 := hr'.1; omega)
        have HR' := Lib.hid hr'
        clear hr'
        cases hrk : rightP (ls.getD k []) with
        | false =>
          have e1 : Hid (rightPP ls = false) := Lib.hid (rightPP_no (by rw [HR.out.len]; exact hlt) hrk)
          have HRK := Lib.hid hrk
          clear hrk
          go_wp2_with fail
          refine (right_b HR'.out hm.out HRK.out).mono ?_
          rintro e w1 ⟨rfl, hB1⟩
          have HB1 := Lib.hid (HB.out.trans (hB1.mono HB.out.size))
          clear hB1 hc
          go_wp2
          go_ret
          exact ⟨ret_bool e1.out, HB1.out⟩
        | true =>
          have e1 : Hid (∀ j, j < k + 1 → rightP (ls.getD j []) = true) := Lib.hid (by
            intro j hj
            rcases Nat.lt_or_ge j k with h' | h'
            · exact HP.out j h'
            · obtain rfl : j = k := by omega
              exact hrk)
          have HRK := Lib.hid hrk
          clear hrk
          go_wp2_with fail
          refine (right_b HR'.out hm.out HRK.out).mono ?_
          rintro e w1 ⟨rfl, hB1⟩
          have HB1 := Lib.hid (HB.out.trans (hB1.mono HB.out.size))
          clear hB1 hc
          go_wp2
          go_roundw
          case rel => exact ⟨k + 1, by omega, by go_num, e1.out, HB1.out⟩
          case measure => simp [intOf]; omega
      · have hkn : k = n := by omega
        subst hkn
        have hF : Hid (rightPP ls = true) := Lib.hid (by
          unfold rightPP
          rw [decide_eq_true_eq]
          exact ⟨fun h => by have := HR.out.len; rw [h] at this; simp at this; omega, by rw [HR.out.len]; omega, fun j hj => HP.out j (by rw [HR.out.len] at hj; exact hj)⟩)
        go_wp2
        go_ret
        exact ⟨ret_bool hF.out, HB.out⟩
theorem poolsRight_b {A : Option Addr} {n c : Nat} {ls : List (List (Int × Int))} {w : World} {b : Bool} (h : PAsk w A n c ls) (hb : rightPP ls = b) :
    Calls Try.prog 14 #[.slice A n c] w fun e w' => e = .returned (.bool b) ∧ Below w.heap.size w w' := by
  subst hb; exact poolsRight_any A n c ls w h

def askedB (ls : List (List (Int × Int))) (ns : List Int) : Bool := rightPP ls && decide (ns.length = ls.length)
theorem asked_any (A : Option Addr) (n c : Nat) (A2 : Option Addr) (n2 c2 : Nat) (ls : List (List (Int × Int))) (ns : List Int) (w : World) (h : PAsk w A n c ls) (h2 : ns.length = n2) :
    Calls Try.prog 38 #[.slice A n c, .slice A2 n2 c2] w fun e w' => e = .returned (.bool (askedB ls ns)) ∧ Below w.heap.size w w' := by
  have hl := h.reads.len
  have H := Lib.hid h
  clear h
  cases hr : rightPP ls with
  | false =>
    have e0 : Hid (askedB ls ns = false) := Lib.hid (by unfold askedB; rw [hr]; rfl)
    have HRP := Lib.hid hr
    clear hr hl h2
    go_enter Try.func38, Try.ntmps38
    go_wp2_with fail
    refine (poolsRight_b H.out HRP.out).mono ?_
    rintro e w1 ⟨rfl, hB⟩
    have HB := Lib.hid hB
    clear hB
    go_wp2
    go_ret
    exact ⟨ret_bool e0.out, HB.out⟩
  | true =>
    by_cases hnn : n2 = n
    · have e0 : Hid (askedB ls ns = true) := Lib.hid (by unfold askedB; rw [hr, decide_eq_true (by omega)]; rfl)
      have HRP := Lib.hid hr
      clear hr hl h2
      subst hnn
      go_enter Try.func38, Try.ntmps38
      go_wp2_with fail
      refine (poolsRight_b H.out HRP.out).mono ?_
      rintro e w1 ⟨rfl, hB⟩
      have HB := Lib.hid hB
      clear hB
      go_wp2
      go_ret
      exact ⟨ret_bool e0.out, HB.out⟩
    · have e0 : Hid (askedB ls ns = false) := Lib.hid (by unfold askedB; rw [hr, decide_eq_false (by omega)]; rfl)
      have HRP := Lib.hid hr
      have hne : ((n2 : Int) == (n : Int)) = false := by simp; omega
      clear hr hl h2
      go_enter Try.func38, Try.ntmps38
      go_wp2_with fail
      refine (poolsRight_b H.out HRP.out).mono ?_
      rintro e w1 ⟨rfl, hB⟩
      have HB := Lib.hid hB
      clear hB
      go_wp2
      go_ret
      exact ⟨ret_bool e0.out, HB.out⟩
theorem asked_b {A : Option Addr} {n c : Nat} {A2 : Option Addr} {n2 c2 : Nat} {ls : List (List (Int × Int))} {ns : List Int} {w : World} {b : Bool} (h : PAsk w A n c ls) (h2 : ns.length = n2) (hb : askedB ls ns = b) :
    Calls Try.prog 38 #[.slice A n c, .slice A2 n2 c2] w fun e w' => e = .returned (.bool b) ∧ Below w.heap.size w w' := by
  subst hb; exact asked_any A n c A2 n2 c2 ls ns w h h2

/-- pools of n kinds in new memory -/
def CopyPost (n : Nat) (ls : List (List (Int × Int))) (w : World) (e : Ending) (w' : World) : Prop :=
  ∃ g, e = .returned (.slice (some ⟨g, 0, none⟩) n n) ∧ RSS w' w'.heap.size (some ⟨g, 0, none⟩) n ls ∧ Below w.heap.size w w'

set_option maxRecDepth 100000 in
set_option maxHeartbeats 2000000 in
theorem poolsSame_any (A : Option Addr) (n c : Nat) (ls : List (List (Int × Int))) (w : World) (h : PAsk w A n c ls) :
    Calls Try.prog 50 #[.slice A n c] w (CopyPost n ls w) := by
  have HR := Lib.hid h.reads
  have HST := Lib.hid h.steps
  have hn := h.kinds
  clear h
  obtain ⟨i0, hi0, hz0, hz1, hz2⟩ := info_parts slsl_info
  go_enter Try.func50, Try.ntmps50
  go_wp2_with (at_make; refine wpList_make_full _ rfl _ _ 22 rfl w.heap.size 26 i0 (.slice none 0 0) 1 Try.underlying22 hi0 hz0 hz1 .i64 .i64 _ _ n rfl rfl rfl rfl (by rw [hz2]; omega) (by unfold maxLen; omega) (Nat.le_refl _) ?_; intro w1 hown hgrow; refine Hid.out ?_)
  refine Lib.hid ?_
  have HF := Lib.hid (FN.made (E := ES) hown hgrow)
  clear hown hgrow
  go_wp2
  go_loopw [11] (fun i wr => ∃ k : Nat, k ≤ n ∧ i = .int .i64 k ∧ FN ES 26 w w.heap.size n (ls.take k) wr) (fun i _ => n - (intOf i).toNat)
  case atStart => exact ⟨0, Nat.zero_le _, rfl, HF.out⟩
  case round =>
    obtain ⟨k, hk, rfl, hf⟩ := hrel
    have HFk := Lib.hid hf
    clear hf
    by_cases hlt : k < n
    · have hRn := Lib.hid (HR.out.next HFk.out.below)
      obtain ⟨b, off, A', m, c', rfl, _, hc, hr', hnil', _, _⟩ := hRn.out.one hlt
      have hm : Hid (m ≤ 3000) := Lib.hid (by have h1 := HST.out k hlt; have h2 := hr'.1; omega)
      have HR' := Lib.hid hr'
      have HNIL' := Lib.hid hnil'
      clear hr' hnil'
      have hs1 : Hid (ls.take (k + 1) = ls.take k ++ [ls.getD k []]) := Lib.hid (by
        have hl : k < ls.length := by rw [HR.out.len]; exact hlt
        rw [List.take_succ_eq_append_getElem hl, List.getD, List.getElem?_eq_getElem hl]; rfl)
      have hlk : Hid ((ls.take k).length = k) := Lib.hid (by rw [List.length_take, HR.out.len]; omega)
      generalize ls.getD k [] = p at *
      go_wp2_with fail
      refine (clone_any A' m c' p _ HR'.out HNIL'.out hm.out).mono ?_
      rintro e w3 ⟨v, rfl, hso⟩
      have HF3 := Lib.hid (HFk.out.next es_steady hso.2)
      obtain ⟨A3, c3, rfl, hes⟩ := es_own hso HFk.out.lt.2 (by have := hm.out; have := HR'.out.1; unfold maxLen; omega)
      have HS3 := Lib.hid (HF3.out.set es_steady hlk.out hlt hes)
      obtain ⟨⟨u0, hu0⟩, hfz⟩ := HF3.out.slot hlt
      clear hso hes hc
      go_wp2
      go_roundw
      case rel => exact ⟨k + 1, by omega, by go_num, by rw [hs1.out]; exact HS3.out⟩
      case measure => simp [intOf]; omega
    · have hkn : k = n := by omega
      subst hkn
      have hF : Hid (FN ES 26 w w.heap.size k ls wr) := Lib.hid (by have := HFk.out; rwa [List.take_of_length_le (by rw [HR.out.len]; omega)] at this)
      clear HFk
      go_wp2
      go_ret
      exact ⟨w.heap.size, rfl, hF.out.reads es_steady HR.out.len, hF.out.below⟩

end Go.Proofs.Ytkhnlbkghjjdnaa
