/- The reference's Many, Find, Could of layer 9 (bailiwickref09): what they answer of any graph, free things, spec. -/
import Derived.Test.YtchogijdkagiiaaGreatDoorZMatchRefSuits
import Derived.Test.YtchogijdkagiiaaGreatDoorMg06
namespace Go.Proofs.YtchogijdkagiiaaGreatDoor
open Go.RowKit

def foundP (g : Gr) (F : List Int) (s : Sp) (m x : Nat) : Bool := decide (∃ k, k < m ∧ selP g F s k = true ∧ getP g F s k x = true)
def outL (g : Gr) (F : List Int) (s : Sp) (m : Nat) : List Int := numsF (foundP g F s m) g.length
theorem foundP_is {g : Gr} {F : List Int} {s : Sp} {m x : Nat} : foundP g F s m x = true ↔ ∃ k, k < m ∧ selP g F s k = true ∧ getP g F s k x = true := by unfold foundP; rw [decide_eq_true_eq]
theorem outL_zero (g : Gr) (F : List Int) (s : Sp) : outL g F s 0 = [] := by
  unfold outL
  rw [List.eq_nil_iff_forall_not_mem]
  intro x hx
  obtain ⟨k, _, hp, _⟩ := mem_numsF.1 hx
  obtain ⟨j, hj, _⟩ := foundP_is.1 hp
  omega
theorem outL_no {g : Gr} {F : List Int} {s : Sp} {m : Nat} (h : selP g F s m = false) : outL g F s (m + 1) = outL g F s m := by
  refine numsF_ext fun x _ => ?_
  rw [Bool.eq_iff_iff, foundP_is, foundP_is]
  constructor
  · rintro ⟨k, hk, h1, h2⟩
    by_cases hkm : k = m
    · subst hkm; rw [h] at h1; cases h1
    · exact ⟨k, by omega, h1, h2⟩
  · rintro ⟨k, hk, h1, h2⟩
    exact ⟨k, by omega, h1, h2⟩
theorem outL_yes {g : Gr} {F : List Int} {s : Sp} {m : Nat} (hg : rightG g = true) (h : selP g F s m = true) : whichL 0 (outL g F s m) (getsL g F s m) = outL g F s (m + 1) := by
  have hf := (rightG_is hg).few
  have r1 : rightB (outL g F s m) = true := numsF_right _ hf
  have r2 : rightB (getsL g F s m) = true := by rw [getsL_yes (sel_suit h)]; exact numsF_right _ hf
  show joinL _ _ = _
  refine right_ext (right_joinL _ _) (numsF_right _ hf) fun x => ?_
  rw [mem_joinL r1 r2, getsL_yes (sel_suit h)]
  show x ∈ numsF _ _ ∨ _ ↔ x ∈ numsF _ _
  rw [mem_numsF, mem_numsF, mem_numsF]
  constructor
  · rintro (⟨k, hk, hp, rfl⟩ | ⟨k, hk, hp, rfl⟩)
    · obtain ⟨j, hj, h1, h2⟩ := foundP_is.1 hp
      exact ⟨k, hk, foundP_is.2 ⟨j, by omega, h1, h2⟩, rfl⟩
    · exact ⟨k, hk, foundP_is.2 ⟨m, by omega, h, hp⟩, rfl⟩
  · rintro ⟨k, hk, hp, rfl⟩
    obtain ⟨j, hj, h1, h2⟩ := foundP_is.1 hp
    by_cases hjm : j = m
    · subst hjm; exact .inr ⟨k, hk, h2, rfl⟩
    · exact .inl ⟨k, hk, foundP_is.2 ⟨j, by omega, h1, h2⟩, rfl⟩
/-- as many as were asked for are found: that is all -/
theorem outL_all {g : Gr} {F : List Int} {s : Sp} {m : Nat} (hm : m ≤ g.length) (hc : s.nodes ≤ (cntS g F s m : Int)) : outL g F s m = numsF (findP g F s) g.length := by
  refine numsF_ext fun x _ => ?_
  rw [Bool.eq_iff_iff, foundP_is, findP_is]
  constructor
  · rintro ⟨k, hk, h⟩; exact ⟨k, by omega, h⟩
  · rintro ⟨k, hk, h1, h2⟩
    refine ⟨k, ?_, h1, h2⟩
    rcases Nat.lt_or_ge k m with h | h
    · exact h
    · have := cntP_steps (suitP g F s) h
      have h3 := (selP_is.1 h1).2
      unfold cntS at hc h3
      omega
theorem had_many {g : Gr} {F : List Int} {s : Sp} {m : Nat} (hy : mayB g F s = true) (hm : m ≤ g.length) (hc : s.nodes ≤ (cntS g F s m : Int)) : hadB g F s = true := by
  have := cntP_steps (suitP g F s) hm
  refine hadB_is.2 ⟨hy, ?_⟩
  unfold cntS at hc ⊢
  omega

/-- the same, in new memory -/
def RCPostN (l : List Int) (b : Bool) (w : World) (e : Ending) (w' : World) : Prop :=
  (∃ A c, e = .returned (.tuple #[.slice A l.length c, .bool b]) ∧ RIN w.heap.size w' A l.length l ∧ (A = none → c = 0) ∧ l.length ≤ c) ∧ Below w.heap.size w w'
theorem rbpost_mk {A : Option Addr} {n c : Nat} {xs l : List Int} {b b' : Bool} {w w' : World} (hr : RIN w.heap.size w' A n xs) (hnil : A = none → c = 0) (hnc : n ≤ c) (e1 : xs = l) (e2 : b' = b) (hb : Below w.heap.size w w') : RCPostN l b w (.returned (.tuple #[.slice A n c, .bool b'])) w' := by
  subst e1 e2
  have := hr.1
  subst this
  exact ⟨⟨A, c, rfl, hr, hnil, hnc⟩, hb⟩
theorem cntS_succ (g : Gr) (F : List Int) (s : Sp) (m : Nat) : cntS g F s (m + 1) = cntS g F s m + (if suitP g F s m = true then 1 else 0) := cntP_succ _ _
theorem outL_len {g : Gr} {F : List Int} {s : Sp} {m : Nat} (hg : rightG g = true) : (outL g F s m).length ≤ 256 := Nat.le_trans (numsF_len _ _) (rightG_is hg).few
theorem getsL_len {g : Gr} {F : List Int} {s : Sp} {m : Nat} (hg : rightG g = true) : (getsL g F s m).length ≤ 256 := by
  unfold getsL
  split
  · exact Nat.le_trans (numsF_len _ _) (rightG_is hg).few
  · exact Nat.zero_le _
theorem ml256' {n : Nat} (h : n ≤ 256) : n ≤ maxLen := by unfold maxLen; omega

set_option maxRecDepth 100000 in
set_option maxHeartbeats 8000000 in
theorem refFind_postN (A : Option Addr) (n c : Nat) (A2 : Option Addr) (n2 c2 : Nat) (g : Gr) (F : List Int) (s : Sp) (w : World) (hr : RG w w.heap.size A n g) (hn : n ≤ maxLen) (hr2 : RI w w.heap.size A2 n2 F) (hn2 : n2 ≤ maxLen) (hs : SAsk s) :
    Calls Tryz.prog 78 #[.slice A n c, .slice A2 n2 c2, .agg #[.int .i64 s.nodes, .int .i64 s.cores, .int .i64 s.gpus, .string s.tag, .bool s.whole, .int .i64 s.long, .int .i64 s.prio]] w (RCPostN (findL g F s) (hadB g F s) w) := by
  have HSN := Lib.hid hs
  obtain ⟨W, hW⟩ : ∃ W, W = w.alloc (spO s) := ⟨_, rfl⟩
  have BX : Hid (BoxS W w.heap.size s) := Lib.hid (by rw [hW]; exact box_new w s)
  have hb0 : Below w.heap.size w W := by rw [hW]; exact (Below.refl _ _).alloc (Nat.le_refl _) _
  have HB := Lib.hid hb0
  have HR := Lib.hid (hr.next hb0)
  have HI := Lib.hid (hr2.next hb0)
  have HN := Lib.hid hn
  have HN2 := Lib.hid hn2
  have HL := Lib.hid hr.len
  unfold spO at hW
  clear hr hr2 hs hb0 hn2
  unfold maxLen at hn
  cases hm : mayB g F s with
  | false =>
    have e0 : Hid (hadB g F s = false) := Lib.hid (by unfold hadB; rw [hm]; rfl)
    have HM := Lib.hid hm
    clear hm
    go_enter Tryz.func78, Tryz.ntmps78
    go_wp2_with fail
    rw [← hW]
    clear hW
    refine (refMay_b HR.out HN.out HI.out HN2.out HSN.out HM.out).mono ?_
    rintro e w1 ⟨rfl, hb⟩
    have HB1 := Lib.hid (HB.out.trans (hb.mono HB.out.size))
    clear hb
    go_wp2
    go_ret2
    exact rbpost_mk RIN.nil (fun _ => rfl) (Nat.le_refl _) (findL_no e0.out).symm e0.out.symm HB1.out
  | true =>
    have HM := Lib.hid hm
    have HG := Lib.hid (mayB_is hm).1
    have hn256 : n ≤ 256 := by have := (rightG_is (mayB_is hm).1).few; have := HL.out; omega
    obtain ⟨_, hnd, _⟩ := rightS_is (mayB_is hm).2.2
    obtain ⟨nd, hnd'⟩ : ∃ nd : Nat, s.nodes = (nd : Int) := ⟨s.nodes.toNat, by omega⟩
    have HND := Lib.hid hnd'
    have hnd64 : nd ≤ 64 := by omega
    clear hm hnd hnd'
    go_enter Tryz.func78, Tryz.ntmps78
    go_wp2_with fail
    rw [← hW]
    clear hW
    refine (refMay_b HR.out HN.out HI.out HN2.out HSN.out HM.out).mono ?_
    rintro e w1 ⟨rfl, hb⟩
    have HB1 := Lib.hid (HB.out.trans (hb.mono HB.out.size))
    have HR1 := Lib.hid (HR.out.next hb)
    have HI1 := Lib.hid (HI.out.next hb)
    have BX1 := Lib.hid (BX.out.next hb)
    clear hb HB HR HI BX
    go_wp2
    go_loopw [8, 9, 10] (fun so sn si wr => ∃ (m N : Nat) (Ao : Option Addr) (co : Nat), m ≤ n ∧ si = .int .i64 m ∧ sn = .int .i64 (cntS g F s m) ∧ so = .slice Ao N co ∧ (RIN w.heap.size wr Ao N (outL g F s m) ∧ (Ao = none → co = 0) ∧ N ≤ co) ∧ Below w1.heap.size w1 wr) (fun _ _ i _ => n - (intOf i).toNat)
    case atStart => exact ⟨0, 0, none, 0, Nat.zero_le _, rfl, rfl, rfl, ⟨by rw [outL_zero]; exact RIN.nil, fun _ => rfl, Nat.le_refl _⟩, Below.refl _ _⟩
    case round =>
      obtain ⟨m, N, Ao, co, hm, rfl, rfl, rfl, ⟨hro, hnl, hnk⟩, hb⟩ := hrel
      have HNK := Lib.hid (And.intro hnl hnk)
      have HBx := Lib.hid hb
      have HO := Lib.hid hro
      have hNb : N ≤ 256 := by rw [← hro.1]; exact outL_len HG.out
      have hcb : cntS g F s m ≤ m := cntP_le _ _
      obtain ⟨C, hC⟩ : ∃ C, cntS g F s m = C := ⟨_, rfl⟩
      rw [hC] at hcb
      rw [hC]
      have HC := Lib.hid hC
      have BXx := Lib.hid (BX1.out.next HBx.out)
      clear hb hC hro hnl hnk
      by_cases hlt : m < n ∧ C < nd
      · obtain ⟨hl1, hl2⟩ := hlt
        have HRx := Lib.hid (HR1.out.next HBx.out)
        have HIx := Lib.hid (HI1.out.next HBx.out)
        obtain ⟨v, hv⟩ : ∃ v, suitP g F s m = v := ⟨_, rfl⟩
        have HV := Lib.hid hv
        have HS := Lib.hid (cntS_succ g F s m)
        have HSEL : Hid (selP g F s m = v) := Lib.hid (by unfold selP; rw [hv, HC.out, HND.out, decide_eq_true (by omega), Bool.and_true])
        have HC1 := Lib.hid (refGets_any A n c A2 n2 c2 g F s m wr HRx.out HN.out HIx.out HN2.out HSN.out HG.out hl1)
        rw [hv] at HC1 HS
        have q0 := BXx.out.c0
        have q1 := BXx.out.c1
        have q2 := BXx.out.c2
        have q3 := BXx.out.c3
        have q4 := BXx.out.c4
        have q5 := BXx.out.c5
        have q6 := BXx.out.c6
        have qn := q0
        rw [HND.out] at qn
        have hd1 : decide ((m : Int) < (n : Int)) = true := by simp; omega
        have hd2 : decide ((C : Int) < s.nodes) = true := by rw [HND.out]; simp; omega
        clear hv
        go_wp2_with fail
        refine HC1.out.mono ?_
        rintro e w2 ⟨⟨A3, c3, rfl, hl, _, _⟩, hb⟩
        have hlb := getsL_len (F := F) (s := s) (m := m) HG.out
        obtain ⟨N4, hN4⟩ : ∃ N4, (getsL g F s m).length = N4 := ⟨_, rfl⟩
        rw [hN4] at hl hlb ⊢
        have HL4 := Lib.hid hl
        have HO2 := Lib.hid (HO.out.next hb)
        have HB2 := Lib.hid (HBx.out.trans (hb.mono HBx.out.size))
        clear hb q0 q1 q2 q3 q4 q5 q6 qn hl hN4
        cases v with
        | true =>
          have E := Lib.hid (show cntS g F s (m + 1) = C + 1 by rw [HS.out, HC.out, if_pos rfl])
          have EO := Lib.hid (outL_yes HG.out HSEL.out)
          go_wp2_with fail
          refine (which_postN 0 0 (.inl ⟨rfl, rfl⟩) _ _ _ _ _ _ _ _ _ HO2.out.ri HL4.out (ml256' hNb) (ml256' hlb)).mono ?_
          rintro e w3 ⟨⟨A5, c5, rfl, hr5, hnl5, hnk5⟩, hb⟩
          rw [EO.out] at hr5 hnk5 ⊢
          have HN5 := Lib.hid (And.intro hnl5 hnk5)
          have HO3 := Lib.hid (hr5.mono (Nat.le_trans HB1.out.size HB2.out.size))
          have HB3 := Lib.hid (HB2.out.trans (hb.mono HB2.out.size))
          clear hb hr5 hnl5 hnk5
          go_wp2
          go_roundw
          case rel => exact ⟨m + 1, _, A5, c5, by omega, by go_num, by rw [E.out]; go_num, rfl, ⟨HO3.out, HN5.out⟩, HB3.out⟩
          case measure => simp [intOf]; omega
        | false =>
          have E := Lib.hid (show cntS g F s (m + 1) = C by rw [HS.out, HC.out, if_neg (by simp)]; rfl)
          have EO := Lib.hid (outL_no HSEL.out)
          go_wp2
          go_roundw
          case rel => exact ⟨m + 1, N, Ao, co, by omega, by go_num, by rw [E.out], rfl, ⟨by rw [EO.out]; exact HO2.out, HNK.out⟩, HB2.out⟩
          case measure => simp [intOf]; omega
      · have HBE := Lib.hid (HB1.out.trans (HBx.out.mono HB1.out.size))
        have q0 := BXx.out.c0
        have hway : (m < n ∧ nd ≤ C) ∨ (m = n ∧ C < nd) ∨ (m = n ∧ nd ≤ C) := by omega
        clear hlt
        have yes : nd ≤ C → hadB g F s = true ∧ outL g F s m = findL g F s := fun h => by
          have h1 : s.nodes ≤ (cntS g F s m : Int) := by rw [HND.out, HC.out]; omega
          have h2 := had_many HM.out (by rw [HL.out]; exact hm) h1
          exact ⟨h2, by unfold findL; rw [if_pos h2]; exact outL_all (by rw [HL.out]; exact hm) h1⟩
        have HY := Lib.hid yes
        clear yes
        rcases hway with ⟨h, h'⟩ | ⟨h, h'⟩ | ⟨h, h'⟩
        · have d1 : decide ((m : Int) < (n : Int)) = true := by simp; omega
          have d2 : decide ((C : Int) < s.nodes) = false := by rw [HND.out]; simp; omega
          have E := Lib.hid (HY.out h')
          go_wp2
          go_ret2
          exact rbpost_mk HO.out HNK.out.1 HNK.out.2 E.out.2 E.out.1.symm HBE.out
        · have d1 : decide ((m : Int) < (n : Int)) = false := by simp; omega
          have d2 : decide ((C : Int) < s.nodes) = true := by rw [HND.out]; simp; omega
          have e0 : Hid (hadB g F s = false) := Lib.hid (by
            rw [← Bool.not_eq_true, hadB_is]
            rintro ⟨_, h3⟩
            have h4 := HC.out
            have h5 := HND.out
            rw [h, ← HL.out] at h4
            omega)
          go_wp2
          go_ret2
          exact rbpost_mk RIN.nil (fun _ => rfl) (Nat.le_refl _) (findL_no e0.out).symm e0.out.symm HBE.out
        · have d1 : decide ((m : Int) < (n : Int)) = false := by simp; omega
          have d2 : decide ((C : Int) < s.nodes) = false := by rw [HND.out]; simp; omega
          have E := Lib.hid (HY.out h')
          go_wp2
          go_ret2
          exact rbpost_mk HO.out HNK.out.1 HNK.out.2 E.out.2 E.out.1.symm HBE.out
end Go.Proofs.YtchogijdkagiiaaGreatDoor
