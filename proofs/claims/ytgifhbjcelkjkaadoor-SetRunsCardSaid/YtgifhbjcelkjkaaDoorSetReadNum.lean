/- What set.readNumber and set.readRun answer: a numeral without needless noughts, below 256; one run's text; the library's variable MaxLen holds some int. -/
import Derived.Test.YtgifhbjcelkjkaaDoorSetRefShow
import Derived.Test.YtgifhbjcelkjkaaDoorShelf
namespace Go.Proofs.YtgifhbjcelkjkaaDoor
open Go.RowKit

def rnI (l : List UInt8) : Int := match rn l with | some v => v | none => 0
def rnOk (l : List UInt8) : Bool := (rn l).isSome
theorem rnI_none {l : List UInt8} (h : rn l = none) : rnI l = 0 ∧ rnOk l = false := by unfold rnI rnOk; rw [h]; exact ⟨rfl, rfl⟩
theorem rnI_some {l : List UInt8} {v : Nat} (h : rn l = some v) : rnI l = v ∧ rnOk l = true := by unfold rnI rnOk; rw [h]; exact ⟨rfl, rfl⟩
theorem take_snoc (s : ByteArray) (k : Nat) (h : k < s.size) : s.data.toList.take (k + 1) = s.data.toList.take k ++ [s[k]] := by
  rw [List.take_succ_eq_append_getElem (by simpa using h)]; rfl
theorem rn_bad_char {s : ByteArray} {k : Nat} (h : k < s.size) (hb : s[k].toNat < 48 ∨ 57 < s[k].toNat) : rn s.data.toList = none := by
  refine rn_notdig ?_
  rw [← Bool.not_eq_true, List.all_eq_true]
  intro ha
  have hm : s[k] ∈ s.data.toList := by
    have : s[k] = s.data.toList[k]'(by simpa using h) := rfl
    rw [this]; exact List.getElem_mem _
  have := ha _ hm
  simp [isDig] at this
  omega
theorem rn_too_great {s : ByteArray} {k : Nat} (h : 256 ≤ numFrom 0 (s.data.toList.take k)) : rn s.data.toList = none := by
  have hle : numFrom 0 (s.data.toList.take k) ≤ numFrom 0 s.data.toList := by
    conv => rhs; rw [← List.take_append_drop k s.data.toList]
    rw [numFrom_append]
    exact numFrom_ge _ _
  unfold rn
  split
  · rfl
  · split
    · rfl
    · rw [if_neg (fun hh => by omega)]
theorem rn_nought {s : ByteArray} (h : 0 < s.size) (h0 : s[0] = 48) (h1 : 1 < s.size) : rn s.data.toList = none := by
  unfold rn
  split
  · rfl
  · rw [if_pos]
    refine ⟨?_, by simpa using h1⟩
    have e : s.data.toList = s.data.toList.take 1 ++ s.data.toList.drop 1 := (List.take_append_drop 1 _).symm
    have e1 := take_snoc s 0 h
    simp at e1
    rw [e, e1, h0]
    simp
theorem rn_good {s : ByteArray} (h : 0 < s.size) (h0 : s[0] = 48 → s.size ≤ 1) (hd : s.data.toList.all isDig = true) (hv : numFrom 0 s.data.toList < 256) : rn s.data.toList = some (numFrom 0 s.data.toList) := by
  unfold rn
  rw [if_neg, if_neg, if_pos ⟨hd, hv⟩]
  · rintro ⟨g1, g2⟩
    have e : s.data.toList = s.data.toList.take 1 ++ s.data.toList.drop 1 := (List.take_append_drop 1 _).symm
    have e1 := take_snoc s 0 h
    simp at e1
    rw [e, e1] at g1
    have g3 : s[0] = 48 := by simpa using g1
    have := h0 g3
    have g4 : 1 < s.size := by simpa using g2
    omega
  · intro e
    have : s.data.toList.length = 0 := by rw [e]; rfl
    have : s.size = 0 := by simpa using this
    omega

set_option maxHeartbeats 2000000 in
theorem readNumber_any (s : ByteArray) (w : World) (hs : s.size ≤ maxLen) :
    Calls Tryd.prog 43 #[.string s] w fun e w' => e = .returned (.tuple #[.int .i64 (rnI s.data.toList), .bool (rnOk s.data.toList)]) ∧ w = w' := by
  unfold maxLen at hs
  by_cases he : s = ⟨#[]⟩
  · subst he
    have HN := Lib.hid (rnI_none (l := (⟨#[]⟩ : ByteArray).data.toList) rfl)
    go_enter Tryd.func43, Tryd.ntmps43
    go_wp2
    go_ret2
    exact ⟨by rw [HN.out.1, HN.out.2]; rfl, rfl⟩
  · obtain ⟨hs1, hs2, hs3, hs4⟩ := ne_facts he
    have h0 : 0 < s.size := by
      rcases Nat.eq_zero_or_pos s.size with h | h
      · exact absurd (ByteArray.ext (Array.eq_empty_of_size_eq_zero h)) he
      · exact h
    clear he
    by_cases hz : s[0] = 48 ∧ 1 < s.size
    · have HN := Lib.hid (rnI_none (rn_nought h0 hz.1 hz.2))
      have hz1 : ((s[0].toNat : Int) == 48) = true := by rw [hz.1]; rfl
      have hz2 := hz.2
      clear hz
      go_enter Tryd.func43, Tryd.ntmps43
      go_wp2
      go_ret2
      exact ⟨by rw [HN.out.1, HN.out.2]; rfl, rfl⟩
    · have HG : Hid (s[0] = 48 → s.size ≤ 1) := Lib.hid (fun h => by
        rcases Nat.lt_or_ge 1 s.size with g | g
        · exact absurd ⟨h, g⟩ hz
        · exact g)
      clear hz
      by_cases hz48 : s[0] = 48
      · have hz1 : ((s[0].toNat : Int) == 48) = true := by rw [hz48]; rfl
        have hz2 : ¬ 1 < s.size := by have := HG.out hz48; omega
        clear hz48
        go_enter Tryd.func43, Tryd.ntmps43
        go_wp2
        clear hs1 hs2 hs3 hs4
        go_loop [4, 20] (fun v i => ∃ k : Nat, k ≤ s.size ∧ i = .int .i64 k ∧ v = .int .i64 (numFrom 0 (s.data.toList.take k) : Nat) ∧ (s.data.toList.take k).all isDig = true ∧ numFrom 0 (s.data.toList.take k) < 256) (fun _ i => s.size - (intOf i).toNat)
        case atStart => exact ⟨0, Nat.zero_le _, rfl, rfl, rfl, by rw [List.take_zero, numFrom_nil]; omega⟩
        case round =>
          obtain ⟨k, hk, rfl, rfl, hdig, hval⟩ := hrel
          have HDIG := Lib.hid hdig
          clear hdig
          by_cases hlt : k < s.size
          · have htk := take_snoc s k hlt
            have hb := s[k].toNat_lt
            by_cases hbad : s[k].toNat < 48 ∨ 57 < s[k].toNat
            · have HN := Lib.hid (rnI_none (rn_bad_char hlt hbad))
              generalize numFrom 0 (s.data.toList.take k) = v at *
              clear htk
              by_cases hb1 : s[k].toNat < 48
              · go_wp2
                go_ret2
                exact ⟨by rw [HN.out.1, HN.out.2]; rfl, rfl⟩
              · have hb2 : 57 < s[k].toNat := by omega
                have hb1' : 48 ≤ s[k].toNat := by omega
                clear hbad
                go_wp2
                go_ret2
                exact ⟨by rw [HN.out.1, HN.out.2]; rfl, rfl⟩
            · have hb1 : 48 ≤ s[k].toNat := by omega
              have hb2 : s[k].toNat ≤ 57 := by omega
              clear hbad
              have HD1 : Hid ((s.data.toList.take (k + 1)).all isDig = true) := Lib.hid (by
                rw [htk, List.all_append, HDIG.out]
                simp [isDig]; omega)
              have HV1 : Hid (numFrom 0 (s.data.toList.take (k + 1)) = numFrom 0 (s.data.toList.take k) * 10 + (s[k].toNat - 48)) := Lib.hid (by
                rw [htk, numFrom_append]; rfl)
              have HBIG : Hid (256 ≤ numFrom 0 (s.data.toList.take (k + 1)) → rn s.data.toList = none) := Lib.hid rn_too_great
              clear htk
              generalize hv' : numFrom 0 (s.data.toList.take (k + 1)) = v' at *
              have HVP := Lib.hid hv'
              clear hv'
              generalize numFrom 0 (s.data.toList.take k) = v at *
              by_cases hbig : 256 ≤ v * 10 + (s[k].toNat - 48)
              · have HN := Lib.hid (rnI_none (HBIG.out (by rw [HV1.out]; exact hbig)))
                go_wp2
                go_ret2
                exact ⟨by rw [HN.out.1, HN.out.2]; rfl, rfl⟩
              · go_wp2
                go_round
                case rel => exact ⟨k + 1, by omega, by go_num, by rw [HVP.out, HV1.out]; go_num, HD1.out, by rw [HVP.out, HV1.out]; omega⟩
                case measure => simp [intOf]; omega
          · have hks : k = s.size := by omega
            have hall : s.data.toList.take k = s.data.toList := List.take_of_length_le (by simp; omega)
            rw [hall] at hval
            have HN := Lib.hid (rnI_some (rn_good h0 HG.out (by have := HDIG.out; rwa [hall] at this) hval))
            rw [hall]
            clear hall hks
            go_wp2
            go_ret2
            exact ⟨by rw [HN.out.1, HN.out.2]; rfl, rfl⟩
      · have hz1 : ((s[0].toNat : Int) == 48) = false := by
          rw [← Bool.not_eq_true, beq_iff_eq]
          intro e
          exact hz48 (UInt8.toNat_inj.1 (by have : (48 : UInt8).toNat = 48 := rfl; omega))
        clear hz48
        go_enter Tryd.func43, Tryd.ntmps43
        go_wp2
        clear hs1 hs2 hs3 hs4
        go_loop [4, 20] (fun v i => ∃ k : Nat, k ≤ s.size ∧ i = .int .i64 k ∧ v = .int .i64 (numFrom 0 (s.data.toList.take k) : Nat) ∧ (s.data.toList.take k).all isDig = true ∧ numFrom 0 (s.data.toList.take k) < 256) (fun _ i => s.size - (intOf i).toNat)
        case atStart => exact ⟨0, Nat.zero_le _, rfl, rfl, rfl, by rw [List.take_zero, numFrom_nil]; omega⟩
        case round =>
          obtain ⟨k, hk, rfl, rfl, hdig, hval⟩ := hrel
          have HDIG := Lib.hid hdig
          clear hdig
          by_cases hlt : k < s.size
          · have htk := take_snoc s k hlt
            have hb := s[k].toNat_lt
            by_cases hbad : s[k].toNat < 48 ∨ 57 < s[k].toNat
            · have HN := Lib.hid (rnI_none (rn_bad_char hlt hbad))
              generalize numFrom 0 (s.data.toList.take k) = v at *
              clear htk
              by_cases hb1 : s[k].toNat < 48
              · go_wp2
                go_ret2
                exact ⟨by rw [HN.out.1, HN.out.2]; rfl, rfl⟩
              · have hb2 : 57 < s[k].toNat := by omega
                have hb1' : 48 ≤ s[k].toNat := by omega
                clear hbad
                go_wp2
                go_ret2
                exact ⟨by rw [HN.out.1, HN.out.2]; rfl, rfl⟩
            · have hb1 : 48 ≤ s[k].toNat := by omega
              have hb2 : s[k].toNat ≤ 57 := by omega
              clear hbad
              have HD1 : Hid ((s.data.toList.take (k + 1)).all isDig = true) := Lib.hid (by
                rw [htk, List.all_append, HDIG.out]
                simp [isDig]; omega)
              have HV1 : Hid (numFrom 0 (s.data.toList.take (k + 1)) = numFrom 0 (s.data.toList.take k) * 10 + (s[k].toNat - 48)) := Lib.hid (by
                rw [htk, numFrom_append]; rfl)
              have HBIG : Hid (256 ≤ numFrom 0 (s.data.toList.take (k + 1)) → rn s.data.toList = none) := Lib.hid rn_too_great
              clear htk
              generalize hv' : numFrom 0 (s.data.toList.take (k + 1)) = v' at *
              have HVP := Lib.hid hv'
              clear hv'
              generalize numFrom 0 (s.data.toList.take k) = v at *
              by_cases hbig : 256 ≤ v * 10 + (s[k].toNat - 48)
              · have HN := Lib.hid (rnI_none (HBIG.out (by rw [HV1.out]; exact hbig)))
                go_wp2
                go_ret2
                exact ⟨by rw [HN.out.1, HN.out.2]; rfl, rfl⟩
              · go_wp2
                go_round
                case rel => exact ⟨k + 1, by omega, by go_num, by rw [HVP.out, HV1.out]; go_num, HD1.out, by rw [HVP.out, HV1.out]; omega⟩
                case measure => simp [intOf]; omega
          · have hks : k = s.size := by omega
            have hall : s.data.toList.take k = s.data.toList := List.take_of_length_le (by simp; omega)
            rw [hall] at hval
            have HN := Lib.hid (rnI_some (rn_good h0 HG.out (by have := HDIG.out; rwa [hall] at this) hval))
            rw [hall]
            clear hall hks
            go_wp2
            go_ret2
            exact ⟨by rw [HN.out.1, HN.out.2]; rfl, rfl⟩

end Go.Proofs.YtgifhbjcelkjkaaDoor
