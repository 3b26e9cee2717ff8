/- The program's reader: numbers, flags. -/
import Derived.Laws.Bits64b
import Derived.IntWalk
import Derived.Test.YtlpogkcfjbabaaaMg08
namespace Go.Proofs.Ytlpogkcfjbabaaa
open Go.RowKit

theorem or_i64 (a b : Nat) (ha : a < 9223372036854775808) (hb : b < 9223372036854775808) : bits .or .i64 (a : Int) (b : Int) = ((a ||| b : Nat) : Int) := by
  have hx : a ||| b < 2 ^ 63 := Nat.or_lt_two_pow (by omega) (by omega)
  have h1 : (BitVec.ofInt 64 (a : Int)).toNat = a := by
    rw [BitVec.ofInt_natCast, BitVec.toNat_ofNat]; exact Nat.mod_eq_of_lt (by omega)
  have h2 : (BitVec.ofInt 64 (b : Int)).toNat = b := by
    rw [BitVec.ofInt_natCast, BitVec.toNat_ofNat]; exact Nat.mod_eq_of_lt (by omega)
  show IntKind.i64.wrap ((BitVec.ofInt 64 (a : Int) ||| BitVec.ofInt 64 (b : Int)).toNat : Int) = _
  rw [BitVec.toNat_or, h1, h2, IntKind.wrap_i64]
  omega
theorem or_add (a p m : Nat) (ha : a < 128 ^ m) : a ||| p * 128 ^ m = a + p * 128 ^ m := by
  have e : 128 ^ m = 2 ^ (7 * m) := by rw [Nat.pow_mul]
  rw [e] at ha ⊢
  have := Nat.shiftLeft_add_eq_or_of_lt ha p
  rw [Nat.shiftLeft_eq] at this
  rw [Nat.or_comm, ← this, Nat.add_comm]
theorem gotQ_cons (i acc : Nat) (c : UInt8) (t : Bs) : gotQ i acc (c :: t) = if c.toNat < 128 then (if (0 < i ∧ c.toNat = 0) ∨ 4611686018427387904 < acc + c.toNat * 128 ^ i then .error 3 else .ok (acc + c.toNat * 128 ^ i, t))
      else if i < 8 then gotQ (i + 1) (acc + c.toNat % 128 * 128 ^ i) t else .error 3 := by rw [gotQ]
theorem gotQ_nil (i acc : Nat) : gotQ i acc [] = .error 2 := by rw [gotQ]
theorem pow8 {k : Nat} (h : k ≤ 8) : 128 ^ k ≤ 72057594037927936 := by
  have h1 : 128 ^ k ≤ 128 ^ 8 := Nat.pow_le_pow_right (by omega) h
  have h2 : (128 : Nat) ^ 8 = 72057594037927936 := by decide
  omega
theorem or_shift (acc p m : Nat) (ha : acc < 128 ^ m) (hp : p ≤ 127) (hm : m ≤ 8) : bits .or .i64 (acc : Int) (wrap64 ((p : Int) * 2 ^ (m * 7))) = ((acc + p * 128 ^ m : Nat) : Int) := by
  have h8 := pow8 hm
  have e : (2 : Int) ^ (m * 7) = ((128 ^ m : Nat) : Int) := by
    rw [show (128 : Nat) = 2 ^ 7 from rfl, ← Nat.pow_mul, Nat.mul_comm 7 m]; simp
  have h1 : p * 128 ^ m ≤ 127 * 72057594037927936 := Nat.mul_le_mul hp h8
  have h2 : ((p : Int) * ((128 ^ m : Nat) : Int)) = ((p * 128 ^ m : Nat) : Int) := by simp
  have h3 : wrap64 (((p * 128 ^ m : Nat) : Nat) : Int) = ((p * 128 ^ m : Nat) : Int) := by unfold wrap64; omega
  rw [e, h2, h3, or_i64 _ _ (by omega) (by omega), or_add acc p m ha]
theorem num_lt {acc p m : Nat} (ha : acc < 128 ^ m) (hp : p ≤ 127) : acc + p * 128 ^ m < 128 ^ (m + 1) := by
  have h1 : p * 128 ^ m ≤ 127 * 128 ^ m := Nat.mul_le_mul_right _ hp
  rw [Nat.pow_succ]
  omega
theorem rdp_num {g n c k : Nat} {A : Option Addr} {bs : Bs} {w w' : World} {r : Except Nat (Nat × Bs)} {x k' : Nat} {t : Bs} {v : Int} (hr : r = .ok (x, t)) (hv : v = (x : Int)) (hk : k ≤ k') (ht : t = bs.drop k') (h : Rdr w' g A n c k' bs) (hb : But g w w') : RdP VNum g A n c k bs r w (.returned (.int .i64 v)) w' :=
  rdp_ok_mk hr (by subst hv; rfl) hk ht h hb

set_option maxRecDepth 100000 in
set_option maxHeartbeats 4000000 in
theorem number_any (g : Nat) (A : Option Addr) (n c k : Nat) (bs : Bs) (w : World) (h : Rdr w g A n c k bs) :
    Calls Try.prog 59 #[.pointer (some ⟨g, 0, none⟩)] w (RdP VNum g A n c k bs (numQ (bs.drop k)) w) := by
  have H := Lib.hid h
  clear h
  obtain ⟨R, hR⟩ : ∃ R, numQ (bs.drop k) = R := ⟨_, rfl⟩
  have HR : Hid (gotQ 0 0 (bs.drop k) = R) := Lib.hid hR
  rw [hR]
  clear hR
  have hpn := panics
  go_enter Try.func59, Try.ntmps59
  go_wp2_with fail
  go_loopw [7, 3] (fun i v wr => ∃ (m acc kk : Nat), m ≤ 9 ∧ i = .int .i64 (m : Int) ∧ v = .int .i64 (acc : Int) ∧ acc < 128 ^ m ∧ Rdr wr g A n c kk bs ∧ k ≤ kk ∧ But g w wr ∧ (m < 9 → gotQ m acc (bs.drop kk) = R) ∧ (m = 9 → R = .error 3)) (fun i _ _ => 9 - (intOf i).toNat)
  case atStart => exact ⟨0, 0, k, by omega, rfl, rfl, by simp, H.out, Nat.le_refl _, But.refl _ _, fun _ => HR.out, fun h => by omega⟩
  case round =>
    obtain ⟨m, acc, kk, hm9, rfl, rfl, hacc, hrd, hkk, hbut, hg, hg9⟩ := hrel
    have HR1 := Lib.hid hrd
    have HK := Lib.hid hkk
    have HBU := Lib.hid hbut
    have HG := Lib.hid hg
    have HG9 := Lib.hid hg9
    have HACC := Lib.hid hacc
    clear hrd hkk hbut hg hg9 hacc
    by_cases hm : m < 9
    · have hmd : decide ((m : Int) < 9) = true := by simp; omega
      have hG := Lib.hid (HG.out hm)
      clear HG HG9 hm9
      rcases hb : byteR (bs.drop kk) with er | ⟨x, t⟩
      · have hge : Hid (R = .error er) := Lib.hid (by
          rw [← hG.out]
          cases hd : bs.drop kk with
          | nil => rw [hd] at hb; rw [gotQ_nil]; cases hb; rfl
          | cons y s => rw [hd] at hb; cases hb)
        have HN := Lib.hid (rdp_err (next_any g A n c kk bs wr HR1.out) hb)
        clear hb
        go_wp2_with fail
        refine HN.out.mono ?_
        rintro e w1 ⟨rfl, hb⟩
        have HB1 := Lib.hid hb
        clear hb
        go_wp2_with fail
        exact ⟨rfl, rdp_err_mk hge.out (HBU.out.trans HB1.out)⟩
      · have hdr := byte_is hb
        have HN := Lib.hid (rdp_ok (next_any g A n c kk bs wr HR1.out) hb)
        have HQ : Hid (gotQ m acc (x :: t) = R) := Lib.hid (by rw [← hdr]; exact hG.out)
        clear hb hdr
        obtain ⟨y, hy⟩ : ∃ y, x.toNat = y := ⟨_, rfl⟩
        have hy256 : y < 256 := by rw [← hy]; exact c8_lt x
        have HY := Lib.hid hy
        have HN2 : Hid (Calls Try.prog 50 #[.pointer (some ⟨g, 0, none⟩)] wr fun e w' => e = .returned (.int .u8 (y : Int)) ∧ ∃ k', kk ≤ k' ∧ t = bs.drop k' ∧ Rdr w' g A n c k' bs ∧ But g wr w') := Lib.hid (HN.out.mono fun e w' ⟨v, h1, h2, h3⟩ => by
          have h2' : v = .int .u8 (x.toNat : Int) := h2
          subst h2'
          rw [hy] at h1
          exact ⟨h1, h3⟩)
        clear hy HN
        go_wp2_with fail
        refine HN2.out.mono ?_
        rintro e w1 ⟨rfl, k1, hk1, ht, hrd1, hb1⟩
        have HRD1 := Lib.hid hrd1
        have HB1 := Lib.hid (HBU.out.trans hb1)
        have HK1 := Lib.hid (Nat.le_trans HK.out hk1)
        have HT := Lib.hid ht
        clear hrd1 hb1 hk1 ht
        obtain ⟨p, hp⟩ : ∃ p, y % 128 = p := ⟨_, rfl⟩
        have hpi : (y : Int) % 128 = (p : Int) := by omega
        have hp127 : p ≤ 127 := by omega
        have HP := Lib.hid hp
        clear hp
        obtain ⟨V, hV⟩ : ∃ V, acc + p * 128 ^ m = V := ⟨_, rfl⟩
        have hsh : bits .or .i64 (acc : Int) (wrap64 ((p : Int) * 2 ^ (m * 7))) = (V : Int) := by
          rw [← hV]; exact or_shift acc p m HACC.out hp127 (by omega)
        have hVlt : Hid (V < 128 ^ (m + 1)) := Lib.hid (by rw [← hV]; exact num_lt HACC.out hp127)
        have hV63 : V < 9223372036854775808 := by
          have h1 : 128 ^ (m + 1) ≤ 128 ^ 9 := Nat.pow_le_pow_right (by omega) (by omega)
          have h2 : (128 : Nat) ^ 9 = 9223372036854775808 := by decide
          have := hVlt.out
          omega
        have HV := Lib.hid hV
        clear hV
        by_cases h128 : y < 128
        · have hd1 : decide ((y : Int) < 128) = true := by simp; omega
          have hyp : Hid (y = p) := Lib.hid (by have := HP.out; omega)
          by_cases hn0 : 0 < m ∧ y = 0
          · have hge : Hid (R = .error 3) := Lib.hid (by rw [← HQ.out, gotQ_cons, HY.out, if_pos h128, if_pos (.inl hn0)])
            have hno1 : ((y : Int) == 0) = true := by simp; omega
            have hno2 : decide (0 < m) = true := by simp; omega
            clear h128 hn0
            go_wp2_with fail
            refine (need_no rfl).mono ?_
            rintro e w2 ⟨rfl, rfl⟩
            go_wp2_with fail
            exact ⟨rfl, rdp_err_mk hge.out HB1.out⟩
          · by_cases hbig : V ≤ 4611686018427387904
            · have hge : Hid (R = .ok (V, t)) := Lib.hid (by
                rw [← HQ.out, gotQ_cons, HY.out, if_pos h128, if_neg (by
                  rintro (h | h)
                  · exact hn0 h
                  · rw [hyp.out] at h; have := HV.out; omega), hyp.out, HV.out])
              have hno : ((y : Int) == 0) = false ∨ (((y : Int) == 0) = true ∧ decide (0 < m) = false) := by
                rcases Nat.eq_zero_or_pos y with h0 | h0
                · right; exact ⟨by simp; omega, by simp; omega⟩
                · left; simp; omega
              have hbd : decide ((V : Int) ≤ 4611686018427387904) = true := by simp; omega
              clear h128 hn0
              rcases hno with hno | ⟨hno, hno2⟩
              all_goals
                go_wp2_with fail
                refine (need_yes rfl).mono ?_
                rintro e w2 ⟨rfl, rfl⟩
                go_wp2_with fail
                go_ret
                exact rdp_num hge.out rfl HK1.out HT.out HRD1.out HB1.out
            · have hge : Hid (R = .error 3) := Lib.hid (by
                rw [← HQ.out, gotQ_cons, HY.out, if_pos h128, if_pos (.inr (by rw [hyp.out]; have := HV.out; omega))])
              have hno : ((y : Int) == 0) = false ∨ (((y : Int) == 0) = true ∧ decide (0 < m) = false) := by
                rcases Nat.eq_zero_or_pos y with h0 | h0
                · right; exact ⟨by simp; omega, by simp; omega⟩
                · left; simp; omega
              have hbd : decide ((V : Int) ≤ 4611686018427387904) = false := by simp; omega
              clear h128 hn0
              rcases hno with hno | ⟨hno, hno2⟩
              all_goals
                go_wp2_with fail
                refine (need_no rfl).mono ?_
                rintro e w2 ⟨rfl, rfl⟩
                go_wp2_with fail
                exact ⟨rfl, rdp_err_mk hge.out HB1.out⟩
        · have hd1 : decide ((y : Int) < 128) = false := by simp; omega
          have hst : Hid (V < 128 ^ (m + 1) ∧ Rdr w1 g A n c k1 bs ∧ k ≤ k1 ∧ But g w w1 ∧ (m + 1 < 9 → gotQ (m + 1) V (bs.drop k1) = R) ∧ (m + 1 = 9 → R = .error 3)) := Lib.hid ⟨hVlt.out, HRD1.out, HK1.out, HB1.out, fun h9 => by
              rw [← HQ.out, gotQ_cons, HY.out, if_neg h128, if_pos (by omega), HP.out, HV.out, HT.out], fun h9 => by
              rw [← HQ.out, gotQ_cons, HY.out, if_neg h128, if_neg (by omega)]⟩
          clear h128
          go_wp2_with fail
          refine ⟨⟨m + 1, V, k1, by omega, by go_num, rfl, hst.out⟩, ?_⟩
          simp [intOf]; omega
    · have hm9' : m = 9 := by omega
      have hmd : decide ((m : Int) < 9) = false := by simp; omega
      have hge := Lib.hid (HG9.out hm9')
      clear hm hm9'
      go_wp2_with fail
      exact ⟨rfl, rdp_err_mk hge.out HBU.out⟩

end Go.Proofs.Ytlpogkcfjbabaaa
