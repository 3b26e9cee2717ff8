/- The program's Whole of layer 5 (graph): what it answers of any list of things and any list of numbers. -/
import Derived.Test.YtnlgnpdajblfnaaDoorGraphPList
namespace Go.Proofs.YtnlgnpdajblfnaaDoor
open Go.RowKit

theorem anyOver_is {g : Gr} {l : List Int} {j : Nat} : anyOver g l j = true ↔ ∃ x ∈ l, overG g j x.toNat = true := by
  unfold anyOver; rw [List.any_eq_true]
/-- marks between the set and all that its things are part of; above m nothing is left to do -/
structure UpTo (g : Gr) (l : List Int) (m : Nat) (M : Nat → Bool) : Prop where
  has : ∀ x ∈ l, M x.toNat = true
  isOver : ∀ j, M j = true → anyOver g l j = true
  done : ∀ k, m < k → k < g.length → M k = true → M (par g k) = true
section
variable {g : Gr} {l : List Int} {m : Nat} {M : Nat → Bool}
theorem UpTo.no (h : UpTo g l (m + 1) M) (hm : M (m + 1) = false) : UpTo g l m M :=
  ⟨h.has, h.isOver, fun k hk hl hM => by
    rcases Nat.lt_or_ge (m + 1) k with h' | h'
    · exact h.done k h' hl hM
    · obtain rfl : k = m + 1 := by omega
      rw [hm] at hM; cases hM⟩
theorem UpTo.yes (hg : RightG g) (hl : ∀ x ∈ l, 0 ≤ x ∧ x < g.length) (h : UpTo g l (m + 1) M) (hlt : m + 1 < g.length) (hm : M (m + 1) = true) : UpTo g l m (mset M (par g (m + 1)) true) := by
  have hp := (hg.up (m + 1) (by omega) hlt).2
  have mono : ∀ j, M j = true → mset M (par g (m + 1)) true j = true := fun j hj => by
    by_cases e : j = par g (m + 1)
    · rw [e, mset_same]
    · rw [mset_other _ _ e]; exact hj
  refine ⟨fun x hx => mono _ (h.has x hx), fun j hj => ?_, fun k hk hkl hM => ?_⟩
  · by_cases e : j = par g (m + 1)
    · subst e
      obtain ⟨x, hx, ho⟩ := anyOver_is.1 (h.isOver _ hm)
      refine anyOver_is.2 ⟨x, hx, ?_⟩
      have hxl := hl x hx
      refine over_trans hg x.toNat (by omega) ho ?_
      rw [over_up hg hlt hp]
      exact over_self
    · rw [mset_other _ _ e] at hj
      exact h.isOver j hj
  · rcases Nat.lt_or_ge (m + 1) k with h' | h'
    · rw [mset_other _ _ (by omega)] at hM
      exact mono _ (h.done k h' hkl hM)
    · obtain rfl : k = m + 1 := by omega
      exact mset_same _ _ _
theorem UpTo.all (hg : RightG g) (hl : ∀ x ∈ l, 0 ≤ x ∧ x < g.length) (h : UpTo g l 0 M) : ∀ j, M j = (decide (j < g.length) && anyOver g l j) := by
  intro j
  rw [Bool.eq_iff_iff, Bool.and_eq_true, decide_eq_true_eq]
  constructor
  · intro hj
    have ho := h.isOver j hj
    obtain ⟨x, hx, hox⟩ := anyOver_is.1 ho
    have := over_le hox
    have := hl x hx
    exact ⟨by omega, ho⟩
  · rintro ⟨_, ho⟩
    obtain ⟨x, hx, hox⟩ := anyOver_is.1 ho
    have key : ∀ y, y < g.length → M y = true → overG g j y = true → M j = true := by
      intro y
      induction y using Nat.strongRecOn with
      | _ y ih =>
        intro hy hMy hoy
        by_cases hjy : j < y
        · have hp := (hg.up y (by omega) hy).2
          rw [over_up hg hy hjy] at hoy
          exact ih _ hp (by omega) (h.done y (by omega) hy hMy) hoy
        · rw [over_end hjy] at hoy
          simp at hoy
          rw [← hoy]; exact hMy
    exact key x.toNat (by have := hl x hx; omega) (h.has x hx) hox
theorem upTo_start (hl : ∀ x ∈ l, 0 ≤ x ∧ x < g.length) : UpTo g l (g.length - 1) (fun j => l.contains (j : Int)) :=
  ⟨fun x hx => by rw [List.contains_iff_mem, Int.toNat_of_nonneg (hl x hx).1]; exact hx,
   fun j hj => anyOver_is.2 ⟨(j : Int), by rwa [List.contains_iff_mem] at hj, by rw [Int.toNat_natCast]; exact over_self⟩,
   fun k hk hkl => by omega⟩
end
theorem takes_step (l : List Int) {i x : Nat} (hi : i < l.length) (hx : l.getD i 0 = (x : Int)) : ∀ j, mset (fun j => (l.take i).contains (j : Int)) x true j = (l.take (i + 1)).contains (j : Int) := by
  intro j
  rw [List.take_succ_eq_append_getElem hi]
  have e : l[i] = (x : Int) := by rw [← hx, List.getD, List.getElem?_eq_getElem hi]; rfl
  rw [e, Bool.eq_iff_iff, List.contains_iff_mem, List.mem_append]
  by_cases h : j = x
  · subst h; rw [mset_same]; simp
  · rw [mset_other _ _ h, List.contains_iff_mem]
    constructor
    · exact fun h' => .inl h'
    · rintro (h' | h')
      · exact h'
      · simp at h'; omega

set_option maxRecDepth 100000 in
set_option maxHeartbeats 4000000 in
theorem whole_any (A : Option Addr) (n c : Nat) (A2 : Option Addr) (n2 c2 : Nat) (g : Gr) (l : List Int) (w : World) (h : GAsk w A n c g) (h2 : LAsk w A2 n2 c2 l) :
    Calls Tryd.prog 11 #[.slice A n c, .slice A2 n2 c2] w (IPost (wholeL g l) w) := by
  have HN : Hid (n ≤ maxLen) := Lib.hid (ml300 h.few)
  have HN2 : Hid (n2 ≤ maxLen) := Lib.hid (ml300 h2.few)
  have hn := h.few
  have hn2 := h2.few
  have HR := Lib.hid h.reads
  have HI := Lib.hid h2.reads
  have HL := Lib.hid h.reads.len
  have HL2 := Lib.hid h2.reads.1
  clear h h2
  cases hg : rightG g with
  | false =>
    have e0 : wholeL g l = [] := wholeL_no (fun h => by rw [hg] at h; cases h.1)
    rw [e0]
    have HG := Lib.hid hg
    clear hg e0
    go_enter Tryd.func11, Tryd.ntmps11
    go_wp2_with fail
    refine (graphRight_b HR.out HN.out HG.out).mono ?_
    rintro e w1 ⟨rfl, hb⟩
    have HB := Lib.hid hb
    clear hb
    go_wp2
    go_ret
    exact ipost_nil HB.out
  | true =>
    have HGR := Lib.hid (rightG_is hg)
    have HG := Lib.hid hg
    clear hg
    have hn256 : n ≤ 256 := by have := HGR.out.few; have := HL.out; omega
    have hnpos : 0 < n := by have := HGR.out.pos; have := HL.out; omega
    cases hs : rightB l with
    | false =>
      have e0 : wholeL g l = [] := wholeL_no (fun h => by rw [hs] at h; cases h.2.1)
      rw [e0]
      have HS := Lib.hid hs
      clear hs e0
      go_enter Tryd.func11, Tryd.ntmps11
      go_wp2_with fail
      refine (graphRight_b HR.out HN.out HG.out).mono ?_
      rintro e w1 ⟨rfl, hb⟩
      have HB1 := Lib.hid hb
      have HI1 := Lib.hid (HI.out.next hb)
      clear hb
      go_wp2_with fail
      refine (s_isSet HI1.out HN2.out HS.out).mono ?_
      rintro e w2 ⟨rfl, hb⟩
      have HB2 := Lib.hid (HB1.out.trans (hb.mono HB1.out.size))
      clear hb
      go_wp2
      go_ret
      exact ipost_nil HB2.out
    | true =>
      have HS := Lib.hid hs
      clear hs
      go_enter Tryd.func11, Tryd.ntmps11
      go_wp2_with fail
      refine (graphRight_b HR.out HN.out HG.out).mono ?_
      rintro e w1 ⟨rfl, hb⟩
      have HB1 := Lib.hid hb
      have HI1 := Lib.hid (HI.out.next hb)
      have HR1 := Lib.hid (HR.out.next hb)
      clear hb
      go_wp2_with fail
      refine (s_isSet HI1.out HN2.out HS.out).mono ?_
      rintro e w2 ⟨rfl, hb⟩
      have HB2 := Lib.hid (HB1.out.trans (hb.mono HB1.out.size))
      have HI2 := Lib.hid (HI1.out.next hb)
      have HR2 := Lib.hid (HR1.out.next hb)
      clear hb
      go_wp2_with (with_reducible refine wpList_alloc_marks rfl rfl ?_; intro w3 hm; refine Hid.out ?_)
      refine Lib.hid ?_
      have HM3 : Hid (Marks w2 (fun j => (l.take 0).contains (j : Int)) w3) := Lib.hid (hm.ext (fun k _ => by simp))
      clear hm
      go_wp2
      go_loopw [19] (fun i wr => ∃ k : Nat, k ≤ n2 ∧ i = .int .i64 k ∧ (∀ j, j < k → l.getD j 0 < (n : Int)) ∧ Marks w2 (fun j => (l.take k).contains (j : Int)) wr) (fun i _ => n2 - (intOf i).toNat)
      case atStart => exact ⟨0, Nat.zero_le _, rfl, fun j hj => absurd hj (by omega), HM3.out⟩
      case round =>
        obtain ⟨k, hk, rfl, hlow, hm⟩ := hrel
        have HLOW := Lib.hid hlow
        clear hlow
        by_cases hlt : k < n2
        · have HKL : Hid (k < l.length) := Lib.hid (by rw [HL2.out]; exact hlt)
          obtain ⟨b, off, rfl, _, hcl⟩ := (HI2.out.next hm.bel).one hlt
          have hxr := right_mem HS.out (l.getD k 0) (by have := HKL.out; simp [List.getD, this])
          obtain ⟨x, hx⟩ : ∃ x : Nat, l.getD k 0 = (x : Int) := ⟨(l.getD k 0).toNat, by omega⟩
          have HX := Lib.hid hx
          rw [hx] at hcl hxr
          clear hx
          have hx256 : x < 256 := by omega
          clear hxr
          by_cases hxn : x < n
          · have hxd : decide (n ≤ x) = false := by simp; omega
            have hcx := hm.cell hx256
            have hfx := hm.frozen x
            have HM4 : Hid (Marks w2 (fun j => (l.take (k + 1)).contains (j : Int)) (wr.setCell ⟨w2.heap.size, x, none⟩ (.bool true))) := Lib.hid ((hm.set true).ext (fun j _ => takes_step l HKL.out HX.out j))
            have HLOW2 : Hid (∀ j, j < k + 1 → l.getD j 0 < (n : Int)) := Lib.hid (fun j hj => by
              rcases Nat.lt_or_ge j k with h' | h'
              · exact HLOW.out j h'
              · obtain rfl : j = k := by omega
                rw [HX.out]; omega)
            clear hm
            go_wp2
            clear hcx hfx hcl
            go_roundw
            case rel => exact ⟨k + 1, by omega, by go_num, HLOW2.out, HM4.out⟩
            case measure => simp [intOf]; omega
          · have hxd : decide (n ≤ x) = true := by simp; omega
            have HBM := Lib.hid (HB2.out.trans (hm.bel.mono HB2.out.size))
            have e0 : Hid (wholeL g l = []) := Lib.hid (wholeL_no (fun h => by
              have := h.2.2 (l.getD k 0) (by have := HKL.out; simp [List.getD, this])
              rw [HX.out, HL.out] at this
              omega))
            clear hm
            go_wp2
            go_ret
            rw [e0.out]
            exact ipost_nil HBM.out
        · have hkn : k = n2 := by omega
          have HLA : Hid (∀ x ∈ l, 0 ≤ x ∧ x < g.length) := Lib.hid (fun x hx => by
            obtain ⟨i, hi, rfl⟩ := List.getElem_of_mem hx
            have h1 := HLOW.out i (by have := HL2.out; omega)
            have e : l.getD i 0 = l[i] := by rw [List.getD, List.getElem?_eq_getElem hi]; rfl
            rw [e] at h1
            have h2 := right_mem HS.out l[i] (List.getElem_mem hi)
            have := HL.out
            omega)
          have HM5 : Hid (Marks w2 (fun j => l.contains (j : Int)) wr) := Lib.hid (hm.ext (fun j _ => by rw [List.take_of_length_le (by have := HL2.out; omega)]))
          have HU5 : Hid (UpTo g l (n - 1) (fun j => l.contains (j : Int))) := Lib.hid (by have := upTo_start HLA.out; rwa [HL.out] at this)
          have e1 : Hid (wholeL g l = numsF (anyOver g l) n) := Lib.hid (by rw [wholeL_yes HG.out HS.out (fun x hx => (HLA.out x hx).2), HL.out])
          generalize hM0 : (fun j : Nat => l.contains (j : Int)) = M0 at HM5 HU5
          have h256 : n2 < 300 ∨ n2 = 300 := by omega
          subst hkn
          clear hm hM0 HLOW h256
          go_wp2
          go_loopw [8] (fun i wr => ∃ (k : Nat) (M : Nat → Bool), k < n ∧ i = .int .i64 k ∧ UpTo g l k M ∧ Marks w2 M wr) (fun i _ => (intOf i).toNat)
          case atStart => exact ⟨n - 1, M0, by omega, by go_num, HU5.out, HM5.out⟩
          case round =>
            obtain ⟨m, M, hmn, rfl, hu, hm⟩ := hrel
            have HU := Lib.hid hu
            clear hu
            rcases Nat.eq_zero_or_pos m with h0 | h0
            · subst h0
              have HM := Lib.hid hm
              have HBM := Lib.hid (HB2.out.trans (hm.bel.mono HB2.out.size))
              have e2 : Hid (numsF M 256 = wholeL g l) := Lib.hid (by
                rw [e1.out, ← numsF_cut (p := anyOver g l) hn256]
                exact numsF_ext (fun j _ => by rw [HU.out.all HGR.out HLA.out j, HL.out]))
              clear hm
              go_wp2_with (with_reducible refine wpList_load_marks rfl _ rfl HM.out rfl ?_; refine Hid.out ?_)
              refine Lib.hid ?_
              go_wp2_with fail
              refine (marksList_l e2.out).mono ?_
              rintro e w5 ⟨⟨A5, c5, rfl, hri, hnil, hcap⟩, hb5⟩
              have HX := Lib.hid (ipost_mk hri hnil hcap (HBM.out.trans (hb5.mono HBM.out.size)))
              clear hri hnil hcap hb5
              go_wp2
              go_ret
              exact HX.out
            · obtain ⟨m, rfl⟩ : ∃ m', m = m' + 1 := ⟨m - 1, by omega⟩
              have hml : Hid (m + 1 < g.length) := Lib.hid (by have := HL.out; omega)
              have hup := HGR.out.up (m + 1) (by omega) hml.out
              have hm256 : m + 1 < 256 := by omega
              have hcm := hm.cell hm256
              cases hM : M (m + 1) with
              | false =>
                have HU2 := Lib.hid (HU.out.no hM)
                have HM := Lib.hid hm
                rw [hM] at hcm
                clear hup hm hM
                go_wp2
                clear hcm
                go_roundw
                case rel => exact ⟨m, M, by omega, by go_num, HU2.out, HM.out⟩
                case measure => simp [intOf]
              | true =>
                have HU2 := Lib.hid (HU.out.yes HGR.out HLA.out hml.out hM)
                rw [hM] at hcm
                obtain ⟨b2, off2, rfl, _, _, hc1, _, _⟩ := (HR2.out.next hm.bel).one hmn
                obtain ⟨p, hp⟩ : ∃ p, par g (m + 1) = p := ⟨_, rfl⟩
                have hu : gu g (m + 1) = (p : Int) := by unfold par at hp; omega
                rw [hu] at hc1
                rw [hp] at hup HU2
                have hpm := hup.2
                have hp256 : p < 256 := by omega
                have hcp := hm.cell hp256
                have hfp := hm.frozen p
                have HM4 := Lib.hid (hm.set (k := p) true)
                clear hup hm hM hp hu
                go_wp2
                clear hcm hcp hfp hc1
                go_roundw
                case rel => exact ⟨m, _, by omega, by go_num, HU2.out, HM4.out⟩
                case measure => simp [intOf]

end Go.Proofs.YtnlgnpdajblfnaaDoor
