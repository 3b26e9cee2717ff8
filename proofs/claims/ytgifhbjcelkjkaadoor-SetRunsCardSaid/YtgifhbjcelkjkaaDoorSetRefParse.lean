/- What the reference's Parse answers, of a text of at most 8192 bytes: the set of which it is the text, or none. -/
import Derived.Test.YtgifhbjcelkjkaaDoorSetNumber
import Derived.Test.YtgifhbjcelkjkaaDoorSetParseW
namespace Go.Proofs.YtgifhbjcelkjkaaDoor
open Go.RowKit Go.Shelf

def RunRelB (B : Nat) (out : List Int) (a b : Nat) (W : World) (v t : Value) (wr : World) : Prop :=
  ∃ n : Nat, a ≤ n ∧ n ≤ b + 1 ∧ t = .int .i64 n ∧ wr.ownsRow B 3 1 v (out ++ upTo a n).length ((out ++ upTo a n).map (Value.int .i64)) ∧ Below B W wr
/-- where the loop stands: the place, and what is read -/
def ScanRel (s : ByteArray) (w : World) (v at_ ls : Value) (wr : World) : Prop :=
  ∃ (p least : Nat) (out : List Int), p ≤ s.size ∧ at_ = .int .i64 p ∧ ls = .int .i64 ((least : Int) - 2) ∧ least ≤ 257 ∧ out.length ≤ least ∧
    pruns (splitC s.data.toList) 0 = (pruns (splitC (s.data.toList.drop p)) least).map (out ++ ·) ∧
    wr.ownsRow w.heap.size 3 1 v out.length (out.map (Value.int .i64)) ∧ Below w.heap.size w wr

def scanTail (a : Nat) (r1 : List UInt8) : Option (Nat × Nat × List UInt8) :=
  match r1 with
  | [] => some (a, a, [])
  | c :: r2 => if c = 45 then match numD r2 with
    | none => none
    | some (b, r3) => if b ≤ a then none else some (a, b, r3)
    else some (a, a, c :: r2)
theorem scanOne_tail {rest : List UInt8} {least a : Nat} {r1 : List UInt8} (h : numD rest = some (a, r1)) (ha : ¬ a < least) : scanOne rest least = scanTail a r1 := by
  unfold scanOne
  rw [h]
  simp only
  rw [if_neg ha]
  rfl
theorem scanTail_none {a : Nat} {r2 : List UInt8} (h : numD r2 = none) : scanTail a (45 :: r2) = none := by
  unfold scanTail
  simp only [if_true, h]
theorem scanTail_some {a b : Nat} {r2 r3 : List UInt8} (h : numD r2 = some (b, r3)) : scanTail a (45 :: r2) = if b ≤ a then none else some (a, b, r3) := by
  unfold scanTail
  simp only [if_true, h]
theorem scanTail_other {a : Nat} {c : UInt8} {r2 : List UInt8} (h : ¬ c = 45) : scanTail a (c :: r2) = some (a, a, c :: r2) := by
  unfold scanTail
  simp only [if_neg h]
/-- what one run tells of all -/
theorem scan_step {P : Option (List Int)} {rest : List UInt8} {least : Nat} {out : List Int} (h : P = (pruns (splitC rest) least).map (out ++ ·)) :
    (scanOne rest least = none → P = none) ∧ (∀ a b, scanOne rest least = some (a, b, []) → P = some (out ++ rangeL a b)) ∧
    (∀ a b c r, scanOne rest least = some (a, b, c :: r) → c ≠ 44 → P = none) ∧
    (∀ a b r, scanOne rest least = some (a, b, 44 :: r) → r.length < rest.length → P = (pruns (splitC r) (b + 2)).map ((out ++ rangeL a b) ++ ·)) := by
  rw [← scan_eq (rest.length + 1) rest least (by omega), scan] at h
  refine ⟨fun e => ?_, fun a b e => ?_, fun a b c r e hc => ?_, fun a b r e hl => ?_⟩
  · rw [e] at h; simpa using h
  · rw [e] at h; simpa using h
  · rw [e] at h; simp only at h; rw [if_neg hc] at h; simpa using h
  · rw [e] at h
    simp only [if_true] at h
    rw [scan_eq rest.length r (b + 2) hl, Option.map_map] at h
    rw [h]
    congr 1
    funext l
    simp
theorem drop_char {s : ByteArray} {n : Nat} {c : UInt8} {r : List UInt8} (h : s.data.toList.drop n = c :: r) : ∃ hn : n < s.size, s[n] = c := by
  have hl : s.data.toList.length = s.size := rfl
  have hlen : (s.data.toList.drop n).length = (c :: r).length := by rw [h]
  rw [List.length_drop] at hlen
  simp only [List.length_cons] at hlen
  have hn : n < s.size := by omega
  refine ⟨hn, ?_⟩
  rw [List.drop_eq_getElem_cons (by omega)] at h
  injection h with h _
theorem drop_end {s : ByteArray} {n : Nat} (hn : n ≤ s.size) (h : s.data.toList.drop n = []) : n = s.size := by
  have hl : s.data.toList.length = s.size := rfl
  have : (s.data.toList.drop n).length = 0 := by rw [h]; rfl
  rw [List.length_drop] at this
  omega
theorem drop_next {s : ByteArray} {n : Nat} {c : UInt8} {r : List UInt8} (h : s.data.toList.drop n = c :: r) : s.data.toList.drop (n + 1) = r := by
  rw [← List.drop_drop, h]; rfl
theorem drop_less {s : ByteArray} {p n : Nat} {c : UInt8} {r : List UInt8} (hp : p ≤ s.size) (h : s.data.toList.drop n = c :: r) (hn : p ≤ n) : r.length < (s.data.toList.drop p).length := by
  have hl : s.data.toList.length = s.size := rfl
  have hlen : (s.data.toList.drop n).length = (c :: r).length := by rw [h]
  rw [List.length_drop] at hlen ⊢
  simp only [List.length_cons] at hlen
  omega
theorem char_ne44 {c : UInt8} (h : ¬ c = 44) : ((c.toNat : Int) == 44) = false ∧ ((c.toNat : Int) != 44) = true := by
  have h1 : ¬ (c.toNat : Int) = 44 := fun e => h (UInt8.toNat_inj.1 (by have : (44 : UInt8).toNat = 44 := rfl; omega))
  exact ⟨by rw [← Bool.not_eq_true, beq_iff_eq]; exact h1, by rw [bne_iff_ne]; exact h1⟩
theorem char_ne45 {c : UInt8} (h : ¬ c = 45) : ((c.toNat : Int) == 45) = false := by
  have h1 : ¬ (c.toNat : Int) = 45 := fun e => h (UInt8.toNat_inj.1 (by have : (45 : UInt8).toNat = 45 := rfl; omega))
  rw [← Bool.not_eq_true, beq_iff_eq]; exact h1
theorem dropWhile_suffix (f : UInt8 → Bool) (l : List UInt8) : (l.dropWhile f).length ≤ l.length ∧ l.drop (l.length - (l.dropWhile f).length) = l.dropWhile f := by
  induction l with
  | nil => exact ⟨Nat.le_refl _, rfl⟩
  | cons c t ih =>
    rw [List.dropWhile_cons]
    split
    · refine ⟨by simp; omega, ?_⟩
      have e : (c :: t).length - (t.dropWhile f).length = (t.length - (t.dropWhile f).length) + 1 := by simp; omega
      rw [e, List.drop_succ_cons]
      exact ih.2
    · refine ⟨Nat.le_refl _, ?_⟩
      rw [Nat.sub_self]; rfl
/-- the place behind a number -/
theorem numD_place {s : ByteArray} {p : Nat} (hp : p ≤ s.size) {v : Nat} {r : List UInt8} (h : numD (s.data.toList.drop p) = some (v, r)) : v < 256 ∧ r.length ≤ s.size ∧ p ≤ s.size - r.length ∧ s.data.toList.drop (s.size - r.length) = r := by
  have hl : s.data.toList.length = s.size := rfl
  unfold numD at h
  split at h
  · cases h
  · rename_i u hu
    injection h with h
    injection h with h1 h2
    subst h1
    obtain ⟨g1, g2⟩ := dropWhile_suffix isDig (s.data.toList.drop p)
    rw [h2] at g1 g2
    rw [List.length_drop] at g1 g2
    rw [List.drop_drop] at g2
    refine ⟨(rn_some hu).2, by omega, by omega, ?_⟩
    have e : p + (s.data.toList.length - p - r.length) = s.size - r.length := by omega
    rw [e] at g2
    exact g2

set_option maxHeartbeats 8000000 in
theorem refParse_any (s : ByteArray) (w : World) (hs : s.size ≤ 8192) :
    Calls Tryd.prog 22 #[.string s] w (ParsePost w.heap.size (parseL s.data.toList).1 (parseL s.data.toList).2 w) := by
  by_cases he : s = ⟨#[]⟩
  · subst he
    go_enter Tryd.func22, Tryd.ntmps22
    go_wp2
    go_ret2
    exact ⟨⟨none, 0, Nat.le_refl _, rfl, RI.nil⟩, Below.refl _ _⟩
  · obtain ⟨hs1, hs2, hs3, hs4⟩ := ne_facts he
    have HNE : Hid (s.data.toList ≠ []) := Lib.hid (by rwa [ByteArray.toList_eq] at hs1)
    clear he
    have hd0 : decide ((8192 : Int) < (s.size : Int)) = false := by simp; omega
    obtain ⟨i0, hi, hz0, hz1, hz2⟩ := info_parts int_info
    go_enter Tryd.func22, Tryd.ntmps22
    go_wp2_with fail
    clear hs1 hs2 hs3 hs4
    go_loopw [4, 5, 6] (fun v p l wr => ScanRel s w v p l wr) (fun _ p _ _ => s.size + 1 - (intOf p).toNat)
    case atStart => exact ⟨0, 0, [], Nat.zero_le _, rfl, rfl, by omega, by simp, by rw [List.drop_zero]; simp, World.ownsRow_nil _ _ _ _, Below.refl _ _⟩
    case round =>
      obtain ⟨p, least, out, hps, rfl, rfl, hl257, hol, hpr, hown, hb⟩ := hrel
      have HSTEP := Lib.hid (scan_step hpr)
      clear hpr
      go_wp2_with fail
      refine (number_any s p _ hs hps).mono ?_
      rintro e w1 ⟨⟨V, N, hnum, rfl⟩, rfl⟩
      unfold NumIs at hnum
      cases hnd : numD (s.data.toList.drop p) with
      | none =>
        rw [hnd] at hnum
        simp only at hnum
        obtain ⟨rfl, rfl⟩ := hnum
        have HN : Hid (parseL s.data.toList = ([], 3)) := Lib.hid (parse_none hs HNE.out (HSTEP.out.1 (by unfold scanOne; rw [hnd])))
        clear hnd
        go_wp2
        go_ret2
        rw [HN.out]
        exact ⟨⟨none, 0, Nat.le_refl _, rfl, RI.nil⟩, hb⟩
      | some vr =>
        obtain ⟨a, r1⟩ := vr
        rw [hnd] at hnum
        simp only at hnum
        obtain ⟨rfl, hN⟩ := hnum
        obtain ⟨ha256, hrl, hge, hdrop⟩ := numD_place hps hnd
        obtain ⟨nx, hnx⟩ : ∃ nx, nx = s.size - r1.length := ⟨_, rfl⟩
        rw [← hnx] at hge hdrop
        have hN' : N = (nx : Int) := by omega
        subst hN'
        have hnxs : nx ≤ s.size := by omega
        have HND := Lib.hid hnd
        have HDR := Lib.hid hdrop
        clear hnd hdrop hnx hN hrl
        by_cases hal : a < least
        · have HN : Hid (parseL s.data.toList = ([], 3)) := Lib.hid (parse_none hs HNE.out (HSTEP.out.1 (by unfold scanOne; rw [HND.out]; simp only; rw [if_pos hal])))
          have hd1 : decide ((a : Int) ≤ (least : Int) - 2 + 1) = true := by simp; omega
          go_wp2
          go_ret2
          rw [HN.out]
          exact ⟨⟨none, 0, Nat.le_refl _, rfl, RI.nil⟩, hb⟩
        · have hd1 : decide ((a : Int) ≤ (least : Int) - 2 + 1) = false := by simp; omega
          have HS1 : Hid (scanOne (s.data.toList.drop p) least = scanTail a r1) := Lib.hid (scanOne_tail HND.out hal)
          have HGE := Lib.hid hge
          clear HND
          cases hr1 : r1 with
          | nil =>
            have hns : nx = s.size := drop_end hnxs (by rw [HDR.out, hr1])
            have hd2 : decide (nx < s.size) = false := by simp; omega
            have hab : a ≤ a := Nat.le_refl _
            have hb256 : a < 256 := ha256
            obtain ⟨rr, hrrdef⟩ : ∃ rr : List UInt8, rr = [] := ⟨_, rfl⟩
            have hnn : nx ≤ s.size := hnxs
            have HSC : Hid (scanOne (s.data.toList.drop p) least = some (a, a, rr)) := Lib.hid (by rw [HS1.out, hr1, hrrdef]; rfl)
            have HRR : Hid (s.data.toList.drop nx = rr) := Lib.hid (by rw [HDR.out, hr1, hrrdef])
            have HRN := Lib.hid hrrdef
            clear hrrdef hr1 hns HS1 HDR
            go_wp2_with fail
            clear hd1 hd2
            go_loopw [4, 10] (fun v t wr' => RunRelB w.heap.size out a a wr v t wr') (fun _ t _ => a + 1 - (intOf t).toNat)
            case atStart => exact ⟨a, Nat.le_refl _, by omega, rfl, by rw [upTo_nil, List.append_nil]; exact hown, Below.refl _ _⟩
            case round =>
              obtain ⟨n, han, hnb, rfl, hownn, hbn⟩ := hrel
              have hlen := upTo_length a n
              have hlen2 : (out ++ upTo a n).length ≤ 600 := by rw [List.length_append]; omega
              clear hlen
              by_cases hnb2 : n ≤ a
              · have hd3 : decide ((n : Int) ≤ (a : Int)) = true := by simp; omega
                have HU := Lib.hid (upTo_snoc han)
                generalize hL : out ++ upTo a n = L at *
                have HL := Lib.hid hL
                clear hL
                have hbase : w.heap.size ≤ wr.heap.size := Nat.le_trans hb.size hbn.size
                go_wp2_with (at_builtin; refine wpList_append_own _ rfl (.tmp 61) (.tmp 63) 22 rfl w.heap.size 3 i0 (.int .i64 0) 1 8 Tryd.underlying22 hi hz0 hz1 hz2 rfl (by decide) _ _ _ rfl (hownn.alloc _) ⟨wr.heap.size, 0, none⟩ 1 1 [.int .i64 (n : Int)] rfl rfl (by intro j u hj; match j, hj with | 0, hj => simp at hj; subst hj; exact cell_new _ _ _) (by intro u hu; simp at hu; subst hu; rfl) (by unfold maxLen; omega) (by omega) (Nat.le_trans hbase (by simp)) ?_; intro v2 w3 hown2 hg2 _; refine Hid.out ?_)
                refine Lib.hid ?_
                have R : Hid (RunRelB w.heap.size out a a _ v2 (.int .i64 ((n : Int) + 1)) w3) := Lib.hid ⟨n + 1, by omega, by omega, by go_num, by
                  rw [HU.out, ← List.append_assoc, HL.out, List.length_append, List.map_append]
                  exact hown2, (hbn.alloc hbase _).grown hg2 (Nat.le_trans hbase (by simp)) (fun j hj => (hownn.lt j hj).1)⟩
                clear hown2 hg2 HU
                go_wp2
                go_roundw
                case rel => exact R.out
                case measure => simp [intOf]; omega
              · have hd3 : decide ((n : Int) ≤ (a : Int)) = false := by simp; omega
                have hnb3 : n = a + 1 := by omega
                have hup : upTo a n = rangeL a a := by rw [hnb3]; exact upTo_all a a
                rw [hup] at hownn hlen2
                have hnb4 : a < n := by omega
                clear hup hnb3
                have HO := Lib.hid hownn
                have hbb := hb.trans hbn
                have HLL : Hid ((out ++ rangeL a a).length ≤ a + 2) := Lib.hid (by
                  rw [List.length_append, ← upTo_all, upTo_length]; omega)
                clear hlen2
                have hne : Hid (scanOne (s.data.toList.drop p) least = some (a, a, rr)) := HSC
                have hrr : rr = [] := HRN.out
                have HP : Hid (parseL s.data.toList = (out ++ rangeL a a, 0)) := Lib.hid (parse_some hs HNE.out (HSTEP.out.2.1 a a (by rw [HSC.out, hrr])))
                have hns : nx = s.size := drop_end hnn (by rw [HRR.out, hrr])
                have hd4 : ((nx : Int) == (s.size : Int)) = true := by rw [beq_iff_eq]; omega
                have hd6 : (nx == s.size) = true := by rw [beq_iff_eq]; omega
                obtain ⟨A, c, rfl⟩ := own_form hownn
                clear hownn hrr hns
                go_wp2_with fail
                go_ret2
                rw [HP.out]
                exact ⟨⟨A, c, own_cap HO.out, rfl, RI.of_own HO.out⟩, hbb⟩
          | cons c r2 =>
            have hdr : s.data.toList.drop nx = c :: r2 := by rw [HDR.out, hr1]
            obtain ⟨hnlt, hcn⟩ := drop_char hdr
            have hd2 : decide ((nx : Int) < (s.size : Int)) = true := by simp; omega
            by_cases hc : c = 45
            · have hc1 : ((s[nx].toNat : Int) == 45) = true := by rw [hcn, hc]; rfl
              have hdn := drop_next hdr
              have HDN := Lib.hid hdn
              have HS2 : Hid (scanOne (s.data.toList.drop p) least = scanTail a (45 :: r2)) := Lib.hid (by rw [HS1.out, hr1, hc])
              clear hdn hdr hcn hc hr1 HS1 HDR
              go_wp2_with fail
              refine (number_any s (nx + 1) _ hs (by omega)).mono ?_
              rintro e w1 ⟨⟨V, N, hnum, rfl⟩, rfl⟩
              rw [HDN.out] at hnum
              unfold NumIs at hnum
              cases hnd : numD r2 with
              | none =>
                rw [hnd] at hnum
                simp only at hnum
                obtain ⟨rfl, rfl⟩ := hnum
                have HN : Hid (parseL s.data.toList = ([], 3)) := Lib.hid (parse_none hs HNE.out (HSTEP.out.1 (by rw [HS2.out]; exact scanTail_none hnd)))
                clear hnd
                go_wp2
                go_ret2
                rw [HN.out]
                exact ⟨⟨none, 0, Nat.le_refl _, rfl, RI.nil⟩, hb⟩
              | some vr =>
                obtain ⟨b, r3⟩ := vr
                have hnd' := hnd
                rw [← HDN.out] at hnd'
                obtain ⟨hb256, hrl, hge2, hdrop⟩ := numD_place (show nx + 1 ≤ s.size by omega) hnd'
                rw [hnd] at hnum
                simp only at hnum
                obtain ⟨rfl, hN⟩ := hnum
                obtain ⟨nn, hnndef⟩ : ∃ nn, nn = s.size - r3.length := ⟨_, rfl⟩
                rw [← hnndef] at hge2 hdrop
                have hN' : N = (nn : Int) := by omega
                subst hN'
                have hnn : nn ≤ s.size := by omega
                have HND := Lib.hid hnd
                have HRR0 := Lib.hid hdrop
                have hpn : p ≤ nn := by have := HGE.out; omega
                clear hnd hnd' hdrop hN hrl hnndef
                by_cases hba : b ≤ a
                · have HN : Hid (parseL s.data.toList = ([], 3)) := Lib.hid (parse_none hs HNE.out (HSTEP.out.1 (by rw [HS2.out, scanTail_some HND.out, if_pos hba])))
                  have hd5 : decide ((b : Int) ≤ (a : Int)) = true := by simp; omega
                  go_wp2
                  go_ret2
                  rw [HN.out]
                  exact ⟨⟨none, 0, Nat.le_refl _, rfl, RI.nil⟩, hb⟩
                · have hd5 : decide ((b : Int) ≤ (a : Int)) = false := by simp; omega
                  have hab : a ≤ b := by omega
                  obtain ⟨rr, hrrdef⟩ : ∃ rr : List UInt8, rr = r3 := ⟨_, rfl⟩
                  have HSC : Hid (scanOne (s.data.toList.drop p) least = some (a, b, rr)) := Lib.hid (by rw [HS2.out, scanTail_some HND.out, if_neg hba, hrrdef])
                  have HRR : Hid (s.data.toList.drop nn = rr) := Lib.hid (by rw [HRR0.out, hrrdef])
                  have HGE2 := HGE
                  have HGE : Hid (p ≤ nn) := Lib.hid hpn
                  clear hrrdef HS2 HND HGE2 HDN
                  go_wp2_with fail
                  clear hd1 hd2 hc1 hd5
                  go_loopw [4, 10] (fun v t wr' => RunRelB w.heap.size out a b wr v t wr') (fun _ t _ => b + 1 - (intOf t).toNat)
                  case atStart => exact ⟨a, Nat.le_refl _, by omega, rfl, by rw [upTo_nil, List.append_nil]; exact hown, Below.refl _ _⟩
                  case round =>
                    obtain ⟨n, han, hnb, rfl, hownn, hbn⟩ := hrel
                    have hlen := upTo_length a n
                    have hlen2 : (out ++ upTo a n).length ≤ 600 := by rw [List.length_append]; omega
                    clear hlen
                    by_cases hnb2 : n ≤ b
                    · have hd3 : decide ((n : Int) ≤ (b : Int)) = true := by simp; omega
                      have HU := Lib.hid (upTo_snoc han)
                      generalize hL : out ++ upTo a n = L at *
                      have HL := Lib.hid hL
                      clear hL
                      have hbase : w.heap.size ≤ wr.heap.size := Nat.le_trans hb.size hbn.size
                      go_wp2_with (at_builtin; refine wpList_append_own _ rfl (.tmp 61) (.tmp 63) 22 rfl w.heap.size 3 i0 (.int .i64 0) 1 8 Tryd.underlying22 hi hz0 hz1 hz2 rfl (by decide) _ _ _ rfl (hownn.alloc _) ⟨wr.heap.size, 0, none⟩ 1 1 [.int .i64 (n : Int)] rfl rfl (by intro j u hj; match j, hj with | 0, hj => simp at hj; subst hj; exact cell_new _ _ _) (by intro u hu; simp at hu; subst hu; rfl) (by unfold maxLen; omega) (by omega) (Nat.le_trans hbase (by simp)) ?_; intro v2 w3 hown2 hg2 _; refine Hid.out ?_)
                      refine Lib.hid ?_
                      have R : Hid (RunRelB w.heap.size out a b _ v2 (.int .i64 ((n : Int) + 1)) w3) := Lib.hid ⟨n + 1, by omega, by omega, by go_num, by
                        rw [HU.out, ← List.append_assoc, HL.out, List.length_append, List.map_append]
                        exact hown2, (hbn.alloc hbase _).grown hg2 (Nat.le_trans hbase (by simp)) (fun j hj => (hownn.lt j hj).1)⟩
                      clear hown2 hg2 HU
                      go_wp2
                      go_roundw
                      case rel => exact R.out
                      case measure => simp [intOf]; omega
                    · have hd3 : decide ((n : Int) ≤ (b : Int)) = false := by simp; omega
                      have hnb3 : n = b + 1 := by omega
                      have hup : upTo a n = rangeL a b := by rw [hnb3]; exact upTo_all a b
                      rw [hup] at hownn hlen2
                      have hnb4 : b < n := by omega
                      clear hup hnb3
                      have HO := Lib.hid hownn
                      have hbb := hb.trans hbn
                      have HLL : Hid ((out ++ rangeL a b).length ≤ b + 2) := Lib.hid (by
                        rw [List.length_append, ← upTo_all, upTo_length]; omega)
                      clear hlen2
                      have hne : Hid (scanOne (s.data.toList.drop p) least = some (a, b, rr)) := HSC
                      cases hrr : rr with
                      | nil =>
                        have HP : Hid (parseL s.data.toList = (out ++ rangeL a b, 0)) := Lib.hid (parse_some hs HNE.out (HSTEP.out.2.1 a b (by rw [HSC.out, hrr])))
                        have hns : nn = s.size := drop_end hnn (by rw [HRR.out, hrr])
                        have hd4 : ((nn : Int) == (s.size : Int)) = true := by rw [beq_iff_eq]; omega
                        have hd6 : (nn == s.size) = true := by rw [beq_iff_eq]; omega
                        obtain ⟨A, c, rfl⟩ := own_form hownn
                        clear hownn hrr hns
                        go_wp2_with fail
                        go_ret2
                        rw [HP.out]
                        exact ⟨⟨A, c, own_cap HO.out, rfl, RI.of_own HO.out⟩, hbb⟩
                      | cons c r =>
                        have hdr : s.data.toList.drop nn = c :: r := by rw [HRR.out, hrr]
                        obtain ⟨hnlt, hcn⟩ := drop_char hdr
                        have hd4 : ((nn : Int) == (s.size : Int)) = false := by rw [← Bool.not_eq_true, beq_iff_eq]; omega
                        have hd6 : (nn == s.size) = false := by rw [← Bool.not_eq_true, beq_iff_eq]; omega
                        by_cases hc : c = 44
                        · have hc1 : ((s[nn].toNat : Int) == 44) = true := by rw [hcn, hc]; rfl
                          have hc2 : ((s[nn].toNat : Int) != 44) = false := by rw [hcn, hc]; rfl
                          have HPR2 := Lib.hid (HSTEP.out.2.2.2 a b r (by rw [HSC.out, hrr, hc]) (drop_less hps hdr HGE.out))
                          have hr2 : s.data.toList.drop (nn + 1) = r := drop_next hdr
                          have HR2 := Lib.hid hr2
                          clear hownn hdr hrr hr2 hcn hc
                          go_wp2_with fail
                          go_roundw
                          case rel => exact ⟨nn + 1, b + 2, out ++ rangeL a b, by omega, by go_num, by congr 1; omega, by omega, HLL.out, by rw [HR2.out]; exact HPR2.out, HO.out, hbb⟩
                          case measure => simp [intOf]; omega
                        · obtain ⟨hc1, hc2⟩ := char_ne44 (c := s[nn]) (by rw [hcn]; exact hc)
                          have HN : Hid (parseL s.data.toList = ([], 3)) := Lib.hid (parse_none hs HNE.out (HSTEP.out.2.2.1 a b c r (by rw [HSC.out, hrr]) hc))
                          clear hownn hdr hrr hcn
                          go_wp2_with fail
                          go_ret2
                          rw [HN.out]
                          exact ⟨⟨none, 0, Nat.le_refl _, rfl, RI.nil⟩, hbb⟩
            · have hc1 := char_ne45 (c := s[nx]) (by rw [hcn]; exact hc)
              have hab : a ≤ a := Nat.le_refl _
              have hb256 : a < 256 := ha256
              obtain ⟨rr, hrrdef⟩ : ∃ rr : List UInt8, rr = c :: r2 := ⟨_, rfl⟩
              have hnn : nx ≤ s.size := hnxs
              have HSC : Hid (scanOne (s.data.toList.drop p) least = some (a, a, rr)) := Lib.hid (by rw [HS1.out, hr1, scanTail_other hc, hrrdef])
              have HRR : Hid (s.data.toList.drop nx = rr) := Lib.hid (by rw [HDR.out, hr1, hrrdef])
              have HRN := Lib.hid hrrdef
              clear hrrdef hr1 HS1 HDR hdr hcn hc
              go_wp2_with fail
              clear hd1 hd2 hc1
              go_loopw [4, 10] (fun v t wr' => RunRelB w.heap.size out a a wr v t wr') (fun _ t _ => a + 1 - (intOf t).toNat)
              case atStart => exact ⟨a, Nat.le_refl _, by omega, rfl, by rw [upTo_nil, List.append_nil]; exact hown, Below.refl _ _⟩
              case round =>
                obtain ⟨n, han, hnb, rfl, hownn, hbn⟩ := hrel
                have hlen := upTo_length a n
                have hlen2 : (out ++ upTo a n).length ≤ 600 := by rw [List.length_append]; omega
                clear hlen
                by_cases hnb2 : n ≤ a
                · have hd3 : decide ((n : Int) ≤ (a : Int)) = true := by simp; omega
                  have HU := Lib.hid (upTo_snoc han)
                  generalize hL : out ++ upTo a n = L at *
                  have HL := Lib.hid hL
                  clear hL
                  have hbase : w.heap.size ≤ wr.heap.size := Nat.le_trans hb.size hbn.size
                  go_wp2_with (at_builtin; refine wpList_append_own _ rfl (.tmp 61) (.tmp 63) 22 rfl w.heap.size 3 i0 (.int .i64 0) 1 8 Tryd.underlying22 hi hz0 hz1 hz2 rfl (by decide) _ _ _ rfl (hownn.alloc _) ⟨wr.heap.size, 0, none⟩ 1 1 [.int .i64 (n : Int)] rfl rfl (by intro j u hj; match j, hj with | 0, hj => simp at hj; subst hj; exact cell_new _ _ _) (by intro u hu; simp at hu; subst hu; rfl) (by unfold maxLen; omega) (by omega) (Nat.le_trans hbase (by simp)) ?_; intro v2 w3 hown2 hg2 _; refine Hid.out ?_)
                  refine Lib.hid ?_
                  have R : Hid (RunRelB w.heap.size out a a _ v2 (.int .i64 ((n : Int) + 1)) w3) := Lib.hid ⟨n + 1, by omega, by omega, by go_num, by
                    rw [HU.out, ← List.append_assoc, HL.out, List.length_append, List.map_append]
                    exact hown2, (hbn.alloc hbase _).grown hg2 (Nat.le_trans hbase (by simp)) (fun j hj => (hownn.lt j hj).1)⟩
                  clear hown2 hg2 HU
                  go_wp2
                  go_roundw
                  case rel => exact R.out
                  case measure => simp [intOf]; omega
                · have hd3 : decide ((n : Int) ≤ (a : Int)) = false := by simp; omega
                  have hnb3 : n = a + 1 := by omega
                  have hup : upTo a n = rangeL a a := by rw [hnb3]; exact upTo_all a a
                  rw [hup] at hownn hlen2
                  have hnb4 : a < n := by omega
                  clear hup hnb3
                  have HO := Lib.hid hownn
                  have hbb := hb.trans hbn
                  have HLL : Hid ((out ++ rangeL a a).length ≤ a + 2) := Lib.hid (by
                    rw [List.length_append, ← upTo_all, upTo_length]; omega)
                  clear hlen2
                  have hne : Hid (scanOne (s.data.toList.drop p) least = some (a, a, rr)) := HSC
                  obtain ⟨c, r, hrr⟩ : ∃ c r, rr = c :: r := ⟨_, _, HRN.out⟩
                  have hdr : s.data.toList.drop nx = c :: r := by rw [HRR.out, hrr]
                  obtain ⟨hnlt, hcn⟩ := drop_char hdr
                  have hd4 : ((nx : Int) == (s.size : Int)) = false := by rw [← Bool.not_eq_true, beq_iff_eq]; omega
                  have hd6 : (nx == s.size) = false := by rw [← Bool.not_eq_true, beq_iff_eq]; omega
                  by_cases hc : c = 44
                  · have hc1 : ((s[nx].toNat : Int) == 44) = true := by rw [hcn, hc]; rfl
                    have hc2 : ((s[nx].toNat : Int) != 44) = false := by rw [hcn, hc]; rfl
                    have HPR2 := Lib.hid (HSTEP.out.2.2.2 a a r (by rw [HSC.out, hrr, hc]) (drop_less hps hdr HGE.out))
                    have hr2 : s.data.toList.drop (nx + 1) = r := drop_next hdr
                    have HR2 := Lib.hid hr2
                    clear hownn hdr hrr hr2 hcn hc
                    go_wp2_with fail
                    go_roundw
                    case rel => exact ⟨nx + 1, a + 2, out ++ rangeL a a, by omega, by go_num, by congr 1; omega, by omega, HLL.out, by rw [HR2.out]; exact HPR2.out, HO.out, hbb⟩
                    case measure => simp [intOf]; omega
                  · obtain ⟨hc1, hc2⟩ := char_ne44 (c := s[nx]) (by rw [hcn]; exact hc)
                    have HN : Hid (parseL s.data.toList = ([], 3)) := Lib.hid (parse_none hs HNE.out (HSTEP.out.2.2.1 a a c r (by rw [HSC.out, hrr]) hc))
                    clear hownn hdr hrr hcn
                    go_wp2_with fail
                    go_ret2
                    rw [HN.out]
                    exact ⟨⟨none, 0, Nat.le_refl _, rfl, RI.nil⟩, hbb⟩

end Go.Proofs.YtgifhbjcelkjkaaDoor
