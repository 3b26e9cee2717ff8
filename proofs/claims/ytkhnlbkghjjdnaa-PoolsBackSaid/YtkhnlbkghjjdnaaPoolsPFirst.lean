/- The program's First of layer 4 (pools), by its later: what they answer of any list of profiles, time, length and amounts. -/
import Derived.Test.YtkhnlbkghjjdnaaPoolsPLater
namespace Go.Proofs.Ytkhnlbkghjjdnaa
open Go.RowKit

def LaterPost (ls : List (List (Int × Int))) (l : Int) (ns : List Int) (a : Int) (w : World) (e : Ending) (w' : World) : Prop :=
  ∃ t ok, e = .returned (.tuple #[.int .i64 t, .bool ok]) ∧ LaterIs ls l ns a t ok ∧ Below w.heap.size w w'

set_option maxRecDepth 100000 in
set_option maxHeartbeats 2000000 in
theorem later_any (A : Option Addr) (n c : Nat) (A2 : Option Addr) (n2 c2 : Nat) (ls : List (List (Int × Int))) (a l : Int) (ns : List Int) (w : World) (h : PAsk w A n c ls) (h2 : NAsk w A2 n2 ns) (hl : I64 l) (hr : rightPP ls = true) (hlen : ns.length = ls.length) :
    Calls Try.prog 39 #[.slice A n c, .int .i64 a, .int .i64 l, .slice A2 n2 c2] w (LaterPost ls l ns a w) := by
  have HA := Lib.hid h
  have HN := Lib.hid h2
  have HST := Lib.hid h.steps
  have HL := Lib.hid hl
  have HRP := Lib.hid hr
  have HLEN := Lib.hid hlen
  have hn := h.kinds
  have hnn : n2 = n := by rw [← h2.reads.1, ← h.reads.len]; exact hlen
  subst hnn
  clear h h2 hl hr hlen
  go_enter Try.func39, Try.ntmps39
  go_wp2
  go_loopw [10, 18] (fun tv i wr => ∃ (k : Nat) (t : Int), k ≤ n2 ∧ i = .int .i64 k ∧ tv = .int .i64 t ∧ LatK ls l ns a k t ∧ Below w.heap.size w wr) (fun _ i _ => n2 - (intOf i).toNat)
  case atStart => exact ⟨0, a, Nat.zero_le _, rfl, rfl, latK_zero, Below.refl _ _⟩
  case round =>
    obtain ⟨k, t, hk, rfl, rfl, hK, hB⟩ := hrel
    have HK := Lib.hid hK
    have HB := Lib.hid hB
    clear hK hB
    by_cases hlt : k < n2
    · have hRn := Lib.hid (HA.out.reads.next HB.out)
      obtain ⟨b0, off, A', m, c', rfl, _, hc, hr', hnil', hnc', _⟩ := hRn.out.one hlt
      have hNr := Lib.hid (HN.out.reads.next HB.out)
      obtain ⟨b2, off2, rfl, _, hc2⟩ := hNr.out.one hlt
      have hm : Hid (m ≤ 2000) := Lib.hid (by have h1 := HST.out k hlt; have h2 := hr'.1; omega)
      have HR' := Lib.hid hr'
      clear hr' hnil' hnc'
      have hkl : Hid (k < ls.length) := Lib.hid (by rw [HA.out.reads.len]; exact hlt)
      obtain ⟨p, hp⟩ : ∃ p, ls.getD k [] = p := ⟨_, rfl⟩
      obtain ⟨x, hx⟩ : ∃ x, ns.getD k 0 = x := ⟨_, rfl⟩
      rw [hx] at hc2
      rw [hp] at HR'
      have HPk := Lib.hid hp
      have HX := Lib.hid hx
      clear hp hx
      obtain ⟨u, ok, hf⟩ : ∃ u ok, firstR p t l x = (u, ok) := ⟨_, _, rfl⟩
      have HF := Lib.hid hf
      clear hf
      have HC := Lib.hid (calls_first (stepFirst_any A' m c' p t l x wr HR'.out hm.out HL.out.1 HL.out.2) HF.out)
      cases ok with
      | true =>
        have HY := Lib.hid (latK_yes HK.out hkl.out (by rw [HPk.out, HX.out]; exact HF.out))
        go_wp2_with fail
        refine HC.out.mono ?_
        rintro e w3 ⟨rfl, hb⟩
        have HB3 := Lib.hid (HB.out.trans (hb.mono HB.out.size))
        clear hb hc hc2
        go_wp2
        go_roundw
        case rel => exact ⟨k + 1, u, by omega, by go_num, rfl, HY.out, HB3.out⟩
        case measure => simp [intOf]; omega
      | false =>
        have HY := Lib.hid (latK_no HK.out hkl.out (by rw [HPk.out, HX.out]; exact HF.out))
        go_wp2_with fail
        refine HC.out.mono ?_
        rintro e w3 ⟨rfl, hb⟩
        have HB3 := Lib.hid (HB.out.trans (hb.mono HB.out.size))
        clear hb hc hc2
        go_wp2
        go_ret2
        exact ⟨0, false, rfl, HY.out, HB3.out⟩
    · have hkn : k = n2 := by omega
      subst hkn
      have HY := Lib.hid (latK_end (by rw [HA.out.reads.len]; exact HK.out) HRP.out HLEN.out)
      go_wp2
      go_ret2
      exact ⟨t, true, rfl, HY.out, HB.out⟩

theorem first_asked {ls : List (List (Int × Int))} {a l : Int} {ns : List Int} (h : askedB ls ns = false) : firstPP ls a l ns = (0, false) := by
  refine firstPP_bad ?_
  unfold goodPP
  unfold askedB at h
  rw [Bool.and_eq_false_iff, decide_eq_false_iff_not] at h ⊢
  exact h.imp id (fun h h' => h h'.1)
theorem asked_right {ls : List (List (Int × Int))} {ns : List Int} (h : askedB ls ns = true) : rightPP ls = true ∧ ns.length = ls.length := by
  unfold askedB at h
  rwa [Bool.and_eq_true, decide_eq_true_eq] at h

set_option maxRecDepth 100000 in
set_option maxHeartbeats 2000000 in
theorem poolsFirst_any (A : Option Addr) (n c : Nat) (A2 : Option Addr) (n2 c2 : Nat) (ls : List (List (Int × Int))) (a l : Int) (ns : List Int) (w : World) (h : PAsk w A n c ls) (h2 : NAsk w A2 n2 ns) (hl : I64 l) :
    Calls Try.prog 22 #[.slice A n c, .int .i64 a, .int .i64 l, .slice A2 n2 c2] w fun e w' => e = .returned (.tuple #[.int .i64 (firstPP ls a l ns).1, .bool (firstPP ls a l ns).2]) ∧ Below w.heap.size w w' := by
  have HA := Lib.hid h
  have HN := Lib.hid h2
  have HL := Lib.hid hl
  clear h h2 hl
  cases hask : askedB ls ns with
  | false =>
    rw [first_asked hask]
    have HK := Lib.hid hask
    clear hask
    go_enter Try.func22, Try.ntmps22
    go_wp2_with fail
    refine (asked_b HA.out HN.out.reads.1 HK.out).mono ?_
    rintro e w1 ⟨rfl, hB⟩
    have HB := Lib.hid hB
    clear hB
    go_wp2
    go_ret2
    exact ⟨rfl, HB.out⟩
  | true =>
    have HRL := Lib.hid (asked_right hask)
    have HK := Lib.hid hask
    clear hask
    obtain ⟨r, hr0⟩ : ∃ r, firstPP ls a l ns = r := ⟨_, rfl⟩
    have HRES := Lib.hid hr0
    rw [hr0]
    clear hr0
    go_enter Try.func22, Try.ntmps22
    go_wp2_with fail
    refine (asked_b HA.out HN.out.reads.1 HK.out).mono ?_
    rintro e w1 ⟨rfl, hB⟩
    have HB := Lib.hid hB
    clear hB
    go_wp2
    go_loopg [10] ((NEVER - a).toNat) (fun g sv wr => ∃ s : Int, sv = .int .i64 s ∧ g = (NEVER - s).toNat ∧ FirstAt ls l ns a s ∧ Below w.heap.size w wr)
    case atStart => exact ⟨a, rfl, rfl, firstAt_start, HB.out⟩
    case round =>
      obtain ⟨s, rfl, rfl, hfa, hb⟩ := hrel
      have HFA := Lib.hid hfa
      have HBr := Lib.hid hb
      clear hfa hb
      have HC := Lib.hid (later_any A n c A2 n2 c2 ls s l ns wr (HA.out.next HBr.out) (HN.out.next HBr.out) HL.out HRL.out.1 HRL.out.2)
      go_wp2_with fail
      refine HC.out.mono ?_
      rintro e w3 ⟨t, ok, rfl, hlat, hb3⟩
      have HB3 := Lib.hid (HBr.out.trans (hb3.mono HBr.out.size))
      have HLAT := Lib.hid hlat
      clear hlat hb3
      cases ok with
      | false =>
        have hz := first_none_is HFA.out HLAT.out
        have hz1 := hz.1
        have hz2 : r = (0, false) := by rw [← HRES.out]; exact hz.2
        subst hz1 hz2
        clear hz HRES
        go_wp2
        go_ret2
        exact ⟨rfl, HB3.out⟩
      | true =>
        by_cases hts : t = s
        · subst hts
          have hz2 : r = (t, true) := by rw [← HRES.out]; exact first_is_at HFA.out HLAT.out
          subst hz2
          clear HRES
          go_wp2
          go_ret2
          exact ⟨rfl, HB3.out⟩
        · have HON := Lib.hid (first_on HFA.out HLAT.out hts)
          have hne : ((t : Int) == s) = false := by simpa using hts
          clear hts
          go_wp2
          go_roundg ((NEVER - t).toNat)
          case measure => have := HON.out.2; omega
          case rel => exact ⟨t, rfl, rfl, HON.out.1, HB3.out⟩

end Go.Proofs.Ytkhnlbkghjjdnaa
