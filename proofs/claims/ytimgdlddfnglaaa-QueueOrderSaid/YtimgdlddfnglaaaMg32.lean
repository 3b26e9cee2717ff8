/- Go's slices.stableCmpFunc and SortStableFunc of jobs. Written by gen/gen_queuesort.py. The program's Lost of layer 12. Written by gen/gen_queuep.py. The program's Ready of layer 12. Written by gen/gen_queuesort.py. The program's functions of layer 12 keep their contracts. -/
import Derived.Test.YtimgdlddfnglaaaMg28
import Derived.Test.YtimgdlddfnglaaaMg29
import Derived.Test.YtimgdlddfnglaaaMg31
import Derived.Test.YtimgdlddfnglaaaMg23
import Derived.Test.YtimgdlddfnglaaaMg07
import Derived.Test.YtimgdlddfnglaaaMg26
import Derived.Test.YtimgdlddfnglaaaMg27
namespace Go.Proofs.Ytimgdlddfnglaaa
open Go.RowKit

set_option maxRecDepth 100000 in
set_option maxHeartbeats 8000000 in
theorem stable_any (w0 : World) (g n cap : Nat) (ini : JF) (w : World) (hr : RowF w0 g n cap ini w) (hn : n ≤ 1000) (hid : ∀ p q, p < q → q < n → (ini p).id < (ini q).id) :
    Calls Try.prog 46 #[.slice (some ⟨g, 0, none⟩) n cap, .int .i64 n, .func (.func 27) #[] #[]] w fun e w' => e = .returned (.tuple #[]) ∧ ∃ f, SameIn ini f 0 n ∧ SrtB f 0 n ∧ RowF w0 g n cap f w' := by
  have HR := Lib.hid hr
  have HID := Lib.hid hid
  clear hr hid
  go_enter Try.func46, Try.ntmps46
  go_wp2
  go_loopg [7, 8] n (fun kx va vb wr => ∃ (a : Nat) (f : JF), va = .int .i64 a ∧ vb = .int .i64 (a + 20 : Nat) ∧ a ≤ n ∧ n - a ≤ kx ∧ 20 ∣ a ∧ Blk ini f 20 n a ∧ (∀ q, a ≤ q → f q = ini q) ∧ SameIn ini f 0 n ∧ RowF w0 g n cap f wr)
  case atStart => exact ⟨0, ini, rfl, rfl, Nat.zero_le _, by omega, Nat.dvd_zero _, blk_zero, fun _ _ => rfl, SameIn.refl _ _ _, HR.out⟩
  case round =>
    clear HR
    obtain ⟨a, f, rfl, rfl, han, hkx, hd, hbl, hun, hsa, hrow⟩ := hrel
    have HD := Lib.hid hd
    have HBL := Lib.hid hbl
    have HUN := Lib.hid hun
    have HSA := Lib.hid hsa
    have HK := Lib.hid hrow
    clear hd hbl hun hsa hrow
    by_cases hlt : a + 20 ≤ n
    · have hltz : ((a + 20 : Nat) : Int) ≤ (n : Int) := by omega
      have hltd : decide (a + 20 ≤ n) = true := decide_eq_true hlt
      have HC := Lib.hid (insertion_any w0 g n cap a (a + 20) f wr HK.out hn (by omega) hlt (fun p q p1 p2 p3 => by rw [HUN.out p p1, HUN.out q (by omega)]; exact HID.out p q p2 (by omega)))
      go_wp2_with fail
      refine HC.out.mono ?_
      rintro e w5 ⟨rfl, f1, hs1, hs2, h5⟩
      have HN : Hid (20 ∣ a + 20 ∧ Blk ini f1 20 n (a + 20) ∧ (∀ q, a + 20 ≤ q → f1 q = ini q) ∧ SameIn ini f1 0 n) := Lib.hid ⟨dvd_next HD.out, blk_step HD.out HBL.out (hi := a + 20) (by omega) hs1 hs2 (memI_same HUN.out), fun q hq => by rw [hs1.out q (.inr hq)]; exact HUN.out q (by omega), HSA.out.trans (hs1.wide (Nat.zero_le _) hlt)⟩
      have H5 := Lib.hid h5
      clear hs1 hs2 h5 HC
      go_wp2
      go_roundg (n - (a + 20))
      case measure => omega
      case rel => exact ⟨a + 20, f1, by go_num, by go_num, hlt, Nat.le_refl _, HN.out.1, HN.out.2.1, HN.out.2.2.1, HN.out.2.2.2, H5.out⟩
    · have hltz : ¬ ((a + 20 : Nat) : Int) ≤ (n : Int) := by omega
      have hltd : decide (a + 20 ≤ n) = false := decide_eq_false hlt
      have HC := Lib.hid (insertion_any w0 g n cap a n f wr HK.out hn han (Nat.le_refl _) (fun p q p1 p2 p3 => by rw [HUN.out p p1, HUN.out q (by omega)]; exact HID.out p q p2 p3))
      go_wp2_with fail
      refine HC.out.mono ?_
      rintro e w5 ⟨rfl, f1, hs1, hs2, h5⟩
      have HB1 : Hid (Blk ini f1 20 n n) := Lib.hid (blk_all (blk_step HD.out HBL.out (hi := n) (by omega) hs1 hs2 (memI_same HUN.out)) (by omega))
      have HS1 : Hid (SameIn ini f1 0 n) := Lib.hid (HSA.out.trans (hs1.wide (Nat.zero_le _) (Nat.le_refl _)))
      have H5 := Lib.hid h5
      clear hs1 hs2 h5 HC HK HSA HUN HBL HD
      go_wp2
      go_loopg [6] n (fun kx vb wr => ∃ (bs : Nat) (f : JF), vb = .int .i64 bs ∧ 0 < bs ∧ bs ≤ 4000 ∧ n - bs ≤ kx ∧ Blk ini f bs n n ∧ SameIn ini f 0 n ∧ RowF w0 g n cap f wr)
      case atStart => exact ⟨20, f1, rfl, by omega, by omega, by omega, HB1.out, HS1.out, H5.out⟩
      case round =>
        clear HB1 HS1 H5
        obtain ⟨bs, fs, rfl, hb0, hb4, hkx, hbl, hsa, hrow⟩ := hrel
        have HBS := Lib.hid hbl
        have HSS := Lib.hid hsa
        have HKS := Lib.hid hrow
        clear hbl hsa hrow
        by_cases hbn : bs < n
        · have hbnz : (bs : Int) < (n : Int) := by omega
          go_wp2
          go_loopg [7, 8] n (fun kx va vb wr => ∃ (a : Nat) (f : JF), va = .int .i64 a ∧ vb = .int .i64 (a + 2 * bs : Nat) ∧ a ≤ n ∧ n - a ≤ kx ∧ 2 * bs ∣ a ∧ Blk ini f (2 * bs) n a ∧ (∀ q, a ≤ q → f q = fs q) ∧ SameIn ini f 0 n ∧ RowF w0 g n cap f wr)
          case atStart => exact ⟨0, fs, rfl, by go_num, Nat.zero_le _, by omega, Nat.dvd_zero _, blk_zero, fun _ _ => rfl, HSS.out, HKS.out⟩
          case round =>
            clear HKS HSS
            obtain ⟨a, f, rfl, rfl, han, hkx2, hd, hbl, hun, hsa, hrow⟩ := hrel
            have HD := Lib.hid hd
            have HBL := Lib.hid hbl
            have HUN := Lib.hid hun
            have HSA := Lib.hid hsa
            have HK := Lib.hid hrow
            clear hd hbl hun hsa hrow
            by_cases hlt : a + 2 * bs ≤ n
            · have hltd : decide (a + 2 * bs ≤ n) = true := decide_eq_true hlt
              have H2 := Lib.hid (blk_two (f := f) (hi := a + 2 * bs) (fun p q => HID.out p q) HBS.out (dvd_two HD.out) (by omega) (by omega) HUN.out)
              have HC := Lib.hid (symMerge_any w0 g n cap a (a + bs) (a + 2 * bs) f wr HK.out hn (by omega) (by omega) hlt H2.out.1 H2.out.2.1 H2.out.2.2.1)
              have ec1 : ((a + bs : Nat) : Int) = (a : Int) + (bs : Int) := by omega
              rw [ec1] at HC
              clear ec1
              go_wp2_with fail
              refine HC.out.mono ?_
              rintro e w5 ⟨rfl, f1, hs1, hs2, h5⟩
              have HN : Hid (2 * bs ∣ a + 2 * bs ∧ Blk ini f1 (2 * bs) n (a + 2 * bs) ∧ (∀ q, a + 2 * bs ≤ q → f1 q = fs q) ∧ SameIn ini f1 0 n) := Lib.hid ⟨dvd_next HD.out, blk_step HD.out HBL.out (hi := a + 2 * bs) (by omega) hs1 hs2 H2.out.2.2.2, fun q hq => by rw [hs1.out q (.inr hq)]; exact HUN.out q (by omega), HSA.out.trans (hs1.wide (Nat.zero_le _) hlt)⟩
              have H5 := Lib.hid h5
              clear hs1 hs2 h5 HC H2
              go_wp2
              go_roundg (n - (a + 2 * bs))
              case measure => omega
              case rel => exact ⟨a + 2 * bs, f1, by go_num, by go_num, hlt, Nat.le_refl _, HN.out.1, HN.out.2.1, HN.out.2.2.1, HN.out.2.2.2, H5.out⟩
            · have hltd : decide (a + 2 * bs ≤ n) = false := decide_eq_false hlt
              by_cases hmn : a + bs < n
              · have hmnd : decide (a + bs < n) = true := decide_eq_true hmn
                have hmnz : (a : Int) + (bs : Int) < (n : Int) := by omega
                have H2 := Lib.hid (blk_two (f := f) (hi := n) (fun p q => HID.out p q) HBS.out (dvd_two HD.out) hmn (by omega) HUN.out)
                have HC := Lib.hid (symMerge_any w0 g n cap a (a + bs) n f wr HK.out hn (by omega) hmn (Nat.le_refl _) H2.out.1 H2.out.2.1 H2.out.2.2.1)
                have ec1 : ((a + bs : Nat) : Int) = (a : Int) + (bs : Int) := by omega
                rw [ec1] at HC
                clear ec1
                go_wp2_with fail
                refine HC.out.mono ?_
                rintro e w5 ⟨rfl, f1, hs1, hs2, h5⟩
                have HN : Hid (Blk ini f1 (2 * bs) n n ∧ SameIn ini f1 0 n) := Lib.hid ⟨blk_all (blk_step HD.out HBL.out (hi := n) (by omega) hs1 hs2 H2.out.2.2.2) (by omega), HSA.out.trans (hs1.wide (Nat.zero_le _) (Nat.le_refl _))⟩
                have H5 := Lib.hid h5
                clear hs1 hs2 h5 HC H2
                go_wp2
                go_roundg (n - 2 * bs)
                case measure => omega
                case rel => exact ⟨2 * bs, f1, by go_num, by omega, by omega, Nat.le_refl _, HN.out.1, HN.out.2, H5.out⟩
              · have hmnd : decide (a + bs < n) = false := decide_eq_false hmn
                have hmnz : ¬ (a : Int) + (bs : Int) < (n : Int) := by omega
                have HN : Hid (Blk ini f (2 * bs) n n) := Lib.hid (by
                  by_cases h0 : a < n
                  · obtain ⟨h1, h2⟩ := blk_one (f := f) HBS.out (dvd_two HD.out) h0 (by omega) HUN.out
                    exact blk_all (blk_step HD.out HBL.out (hi := n) (by omega) (SameIn.refl _ _ _) h1 h2) (by omega)
                  · exact blk_all HBL.out (by omega))
                go_wp2
                go_roundg (n - 2 * bs)
                case measure => omega
                case rel => exact ⟨2 * bs, f, by go_num, by omega, by omega, Nat.le_refl _, HN.out, HSA.out, HK.out⟩
        · have hbnz : ¬ (bs : Int) < (n : Int) := by omega
          have HD := Lib.hid (blk_done HBS.out (by omega))
          go_wp2
          go_end0
          exact ⟨rfl, fs, HSS.out, HD.out, HKS.out⟩
set_option maxRecDepth 100000 in
set_option maxHeartbeats 8000000 in
theorem sort_any (w0 : World) (g n cap : Nat) (ini : JF) (w : World) (hr : RowF w0 g n cap ini w) (hn : n ≤ 1000) (hid : ∀ p q, p < q → q < n → (ini p).id < (ini q).id) :
    Calls Try.prog 26 #[.slice (some ⟨g, 0, none⟩) n cap, .func (.func 27) #[] #[]] w fun e w' => e = .returned (.tuple #[]) ∧ ∃ f, SameIn ini f 0 n ∧ SrtB f 0 n ∧ RowF w0 g n cap f w' := by
  have HC := Lib.hid (stable_any w0 g n cap ini w hr hn hid)
  clear hr hid
  go_enter Try.func26, Try.ntmps26
  go_wp2_with fail
  refine HC.out.mono ?_
  rintro e w5 ⟨rfl, h5⟩
  have H5 := Lib.hid h5
  clear h5 HC
  go_wp2
  go_end0
  exact ⟨rfl, H5.out⟩
theorem insertion_nil (w : World) : Calls Try.prog 60 #[.slice none 0 0, .int .i64 0, .int .i64 0, .func (.func 27) #[] #[]] w fun e w' => e = .returned (.tuple #[]) ∧ w' = w := by
  go_enter Try.func60, Try.ntmps60
  go_wp2
  go_loopw [8] (fun vi wr => vi = .int .i64 1 ∧ wr = w) (fun _ _ => 0)
  case atStart => exact ⟨rfl, rfl⟩
  case round =>
    obtain ⟨rfl, rfl⟩ := hrel
    go_wp2
    go_end0
    exact ⟨rfl, rfl⟩
theorem stable_nil (w : World) : Calls Try.prog 46 #[.slice none 0 0, .int .i64 0, .func (.func 27) #[] #[]] w fun e w' => e = .returned (.tuple #[]) ∧ w' = w := by
  go_enter Try.func46, Try.ntmps46
  go_wp2
  go_loopw [7, 8] (fun va vb wr => va = .int .i64 0 ∧ vb = .int .i64 20 ∧ w = wr) (fun _ _ _ => 0)
  case atStart => exact ⟨rfl, rfl, rfl⟩
  case round =>
    obtain ⟨rfl, rfl, hw⟩ := hrel
    go_wp2_with fail
    refine (insertion_nil _).mono ?_
    rintro e w5 ⟨rfl, h5⟩
    go_wp2
    go_loopw [6] (fun va wr' => va = .int .i64 20 ∧ w5 = wr') (fun _ _ => 0)
    case atStart => exact ⟨rfl, h5⟩
    case round =>
      obtain ⟨rfl, h6⟩ := hrel
      go_wp2
      go_end0
      exact ⟨rfl, by first | rw [← h6, h5, ← hw] | (rw [← h6, ← hw]; done) | (subst hw; rw [← h6]; exact h5)⟩
theorem sort_nil (w : World) : Calls Try.prog 26 #[.slice none 0 0, .func (.func 27) #[] #[]] w fun e w' => e = .returned (.tuple #[]) ∧ w' = w := by
  go_enter Try.func26, Try.ntmps26
  go_wp2_with fail
  refine (stable_nil _).mono ?_
  rintro e w5 ⟨rfl, rfl⟩
  go_wp2
  go_end0
  exact ⟨rfl, rfl⟩

end Go.Proofs.Ytimgdlddfnglaaa

namespace Go.Proofs.Ytimgdlddfnglaaa
open Go.RowKit

theorem append_JI {P : Program} {ops : Array Oper} {rest : List Oper} {o : Oper} {a : Act} {Q : Exit → Act → World → Prop} {w wr : World} {v : Value} {xs : List Int} (hgd : o.guard = none) (s x : Operand) (ty t : TypeId)
    (ho : o.op = .call { callee := .builtin .append, args := #[s, x], argTypes := #[ty, ty] })
    (h : ON EI 1 t w v xs wr) (i : TypeInfo) (ht : P.underlying ty = some (.slice t)) (hi : P.info? t = some i) (hz : i.zero = some (.int .i64 0)) (hsize : i.size = 1) (hby : i.bytes = 8)
    (hs : a.eval s = v) (x0 : Int) (hx : a.eval x = .slice (some ⟨wr.heap.size, 0, none⟩) 1 1) (hl : xs.length ≤ 1000)
    (hk : ∀ v' w', ON EI 1 t w v' (xs ++ [x0]) w' → wpList P ops Q rest (a.put o.dst v') w') : wpList P ops Q (o :: rest) a (wr.alloc (.cells #[.int .i64 x0] t)) :=
  wpList_append_ON hgd s x ty ho ei_steady h i (.int .i64 0) 8 ht hi hz hsize hby rfl (by decide) hs x0 #[.int .i64 x0] hx rfl (by intro u hu; simp at hu; subst hu; rfl) rfl (by unfold maxLen; omega) (by omega) hk

set_option maxRecDepth 100000 in
set_option maxHeartbeats 8000000 in
theorem lostQP_no {A : Option Addr} {n c : Nat} {l : Qu} {w : World} (hl : QAsk w A n c l) (hr : rightQ l = false) : Calls Try.prog 13 #[.slice A n c] w (IPost [] w) := by
  have QA := Lib.hid hl
  have RR := Lib.hid hr
  clear hl hr
  go_enter Try.func13, Try.ntmps13
  go_wp2_with fail
  refine (rightQP_b QA.out RR.out).mono ?_
  rintro e w1 ⟨rfl, hb⟩
  have HB := Lib.hid hb
  clear hb
  go_wp2
  go_ret
  exact ipost_nil HB.out
set_option maxRecDepth 100000 in
set_option maxHeartbeats 8000000 in
theorem lostQP_yes {A : Option Addr} {n c : Nat} {l : Qu} {w : World} (hl : QAsk w A n c l) (hr : RightQ l) : Calls Try.prog 13 #[.slice A n c] w (IPost ((l.filter (lostB l)).map Jb.id) w) := by
  obtain ⟨i0, hi0, hz0, hz1, hz2⟩ := info_parts int_info
  have QA := Lib.hid hl
  have HL := Lib.hid hl.reads.len
  have HR := Lib.hid hr
  have RR : Hid (rightQ l = true) := Lib.hid (decide_eq_true hr)
  have hn64 : n ≤ 64 := by rw [← hl.reads.len]; exact hr.1
  clear hl hr
  go_enter Try.func13, Try.ntmps13
  go_wp2_with fail
  refine (rightQP_b QA.out RR.out).mono ?_
  rintro e w1 ⟨rfl, hb⟩
  have HB := Lib.hid hb
  have Q1 := Lib.hid (QA.out.next hb)
  clear hb QA
  go_wp2
  go_loopw [3, 11] (fun ov iv wr => ∃ (k : Nat) (v0 : Value), v0 = ov ∧ k ≤ n ∧ iv = .int .i64 k ∧ ON EI 1 3 w1 v0 (((l.take k).filter (lostB l)).map Jb.id) wr) (fun _ iv _ => n - (intOf iv).toNat)
  case atStart => exact ⟨0, _, rfl, Nat.zero_le _, rfl, by simpa using ON.nil _⟩
  case round =>
    obtain ⟨k, v0, rfl, hk, rfl, hrel⟩ := hrel
    have HK := Lib.hid hrel
    clear hrel
    by_cases hlt : k < n
    · have hkl : k < l.length := by rw [HL.out]; exact hlt
      have QAI := Lib.hid (Q1.out.next HK.out.below)
      have HTK : Hid (l.take (k + 1) = l.take k ++ [jAt l k]) := Lib.hid (by rw [jAt_lt hkl, List.take_succ_eq_append_getElem hkl])
      have HRJ := Lib.hid (HR.out.job hkl)
      have HNE : Hid (AllHas l (jAt l k).needs) := Lib.hid (HR.out.needs hkl)
      have HST : Hid (∀ q, q < (jAt l k).needs.length → (jOf l ((jAt l k).needs.getD q 0)).state ≤ 6) := Lib.hid (fun q hq => (HR.out.job (HR.out.needs hkl q hq)).2.2.1.1.2)
      have HLS := Lib.hid (fun h => lost_step HR.out hkl h)
      have HHL : Hid (∀ v, lostB l (jAt l k) = v → v = true → (jAt l k).state ≤ 1) := Lib.hid (fun v h1 h2 => by rw [h2] at h1; exact (lostB_iff.1 h1).state)
      obtain ⟨b, off, A3, m3, c3, rfl, hb1, ⟨e0, e1, e2, e3, e4, e5, e6, e7, e8, e9, e10, e11, e12⟩, ja⟩ := QAI.out.reads.one hlt
      obtain ⟨x, hx⟩ : ∃ x, jAt l k = x := ⟨_, rfl⟩
      rw [hx] at ja e0 e1 e2 e3 e4 e5 e6 e7 e9 e10 e11 e12
      rw [hx] at HTK HRJ HNE HST HLS HHL
      obtain ⟨xs, hxs⟩ : ∃ xs, ((l.take k).filter (lostB l)).map Jb.id = xs := ⟨_, rfl⟩
      have HLA : Hid (xs.length ≤ 1000) := Lib.hid (by
        rw [← hxs, List.length_map]
        have := List.length_filter_le (lostB l) (l.take k)
        rw [List.length_take] at this; omega)
      rw [hxs] at HK HLS
      have HXS := Lib.hid hxs
      have hba : Below wr.heap.size wr (wr.alloc (.cells #[.int .i64 x.id, .int .i64 x.spec.nodes, .int .i64 x.spec.cores, .int .i64 x.spec.gpus, .string x.spec.tag, .bool x.spec.whole, .int .i64 x.spec.long, .int .i64 x.spec.prio, .slice A3 m3 c3, .int .i64 x.state, .int .i64 x.came, .int .i64 x.frm, .int .i64 x.to] 30)) := (Below.refl _ _).alloc (Nat.le_refl _) _
      have HKA := Lib.hid (HK.out.next ei_steady hba)
      have BX : Hid (BoxJ (wr.alloc (.cells #[.int .i64 x.id, .int .i64 x.spec.nodes, .int .i64 x.spec.cores, .int .i64 x.spec.gpus, .string x.spec.tag, .bool x.spec.whole, .int .i64 x.spec.long, .int .i64 x.spec.prio, .slice A3 m3 c3, .int .i64 x.state, .int .i64 x.came, .int .i64 x.frm, .int .i64 x.to] 30)) wr.heap.size x A3 m3 c3) := Lib.hid (boxJ_new wr x A3 m3 c3)
      obtain ⟨A0, c0, rfl, _, _⟩ := HK.out.form
      obtain ⟨L, hL⟩ : ∃ L, xs.length = L := ⟨_, rfl⟩
      have HLB : Hid (L ≤ 1000) := Lib.hid (by rw [← hL]; exact HLA.out)
      rw [hL] at HKA
      have HRD : Hid (RI (wr.alloc (.cells #[.int .i64 x.id, .int .i64 x.spec.nodes, .int .i64 x.spec.cores, .int .i64 x.spec.gpus, .string x.spec.tag, .bool x.spec.whole, .int .i64 x.spec.long, .int .i64 x.spec.prio, .slice A3 m3 c3, .int .i64 x.state, .int .i64 x.came, .int .i64 x.frm, .int .i64 x.to] 30)) (wr.alloc (.cells #[.int .i64 x.id, .int .i64 x.spec.nodes, .int .i64 x.spec.cores, .int .i64 x.spec.gpus, .string x.spec.tag, .bool x.spec.whole, .int .i64 x.spec.long, .int .i64 x.spec.prio, .slice A3 m3 c3, .int .i64 x.state, .int .i64 x.came, .int .i64 x.frm, .int .i64 x.to] 30)).heap.size A0 L xs) := Lib.hid (HKA.out.reads ei_steady (by omega) rfl).ri
      have HQA := Lib.hid (QAI.out.next hba)
      have JA := Lib.hid (ja.next hba)
      have HS := Lib.hid hx
      clear hxs hba hx ja hkl HK
      rw [hL]
      clear hL
      have q0 := BX.out.c0
      have q1 := BX.out.c1
      have q2 := BX.out.c2
      have q3 := BX.out.c3
      have q4 := BX.out.c4
      have q5 := BX.out.c5
      have q6 := BX.out.c6
      have q7 := BX.out.c7
      have q8 := BX.out.c8
      have q9 := BX.out.c9
      have q10 := BX.out.c10
      have q11 := BX.out.c11
      have q12 := BX.out.c12
      by_cases h01 : x.state ≤ 1
      · have HCF : Hid (∀ v, lostB l x = v → Calls Try.prog 30 #[.slice (some ⟨b, off, none⟩) n c, .slice A0 L c0, .slice A3 m3 c3] (wr.alloc (.cells #[.int .i64 x.id, .int .i64 x.spec.nodes, .int .i64 x.spec.cores, .int .i64 x.spec.gpus, .string x.spec.tag, .bool x.spec.whole, .int .i64 x.spec.long, .int .i64 x.spec.prio, .slice A3 m3 c3, .int .i64 x.state, .int .i64 x.came, .int .i64 x.frm, .int .i64 x.to] 30)) fun e w' => e = .returned (.bool v) ∧ Below (wr.alloc (.cells #[.int .i64 x.id, .int .i64 x.spec.nodes, .int .i64 x.spec.cores, .int .i64 x.spec.gpus, .string x.spec.tag, .bool x.spec.whole, .int .i64 x.spec.long, .int .i64 x.spec.prio, .slice A3 m3 c3, .int .i64 x.state, .int .i64 x.came, .int .i64 x.frm, .int .i64 x.to] 30)).heap.size (wr.alloc (.cells #[.int .i64 x.id, .int .i64 x.spec.nodes, .int .i64 x.spec.cores, .int .i64 x.spec.gpus, .string x.spec.tag, .bool x.spec.whole, .int .i64 x.spec.long, .int .i64 x.spec.prio, .slice A3 m3 c3, .int .i64 x.state, .int .i64 x.came, .int .i64 x.frm, .int .i64 x.to] 30)) w') := Lib.hid (fun v hv => failsQ_b HQA.out.reads (by omega) HR.out.riseL HRD.out HLB.out JA.out.mask HNE.out HST.out ((HLS.out h01).trans hv))
        have h0' := HRJ.out.2.2.1.1.1
        clear HQA JA HRD HNE HST HLS HHL
        by_cases h0 : x.state = 0
        · have d0 : (x.state == 0) = true := by rw [h0]; rfl
          clear h0 h01 h0' hb1
          cases hv : lostB l x with
          | true =>
            have HC := Lib.hid (HCF.out true hv)
            have HTN : Hid (((l.take (k + 1)).filter (lostB l)).map Jb.id = xs ++ [x.id]) := Lib.hid (by rw [HTK.out, List.filter_append, List.map_append, ← HXS.out, List.filter_cons, if_pos hv]; rfl)
            clear hv HCF
            go_wp2_with fail
            refine HC.out.mono ?_
            rintro e w5 ⟨rfl, hb⟩
            have HK5 := Lib.hid (HKA.out.next ei_steady hb)
            have BX5 := Lib.hid (BX.out.next hb)
            clear hb HC HKA BX e0 e1 e2 e3 e4 e5 e6 e7 e8 e9 e10 e11 e12 q0 q1 q2 q3 q4 q5 q6 q7 q8 q9 q10 q11 q12
            have e0 := BX5.out.c0
            go_wp2_with (at_builtin; refine append_JI rfl (.tmp 30) (.tmp 33) 28 3 rfl HK5.out i0 Try.underlying28 hi0 hz0 hz1 hz2 rfl _ rfl HLA.out ?_; intro v' w6 hON6; refine Hid.out ?_)
            refine Lib.hid ?_
            rw [← HTN.out] at hON6
            have HO6 := Lib.hid hON6
            clear hON6
            go_wp2
            go_roundw
            case rel => exact ⟨k + 1, _, rfl, by omega, by go_num, HO6.out⟩
            case measure => simp [intOf]; omega
          | false =>
            have HC := Lib.hid (HCF.out false hv)
            have HTN : Hid (((l.take (k + 1)).filter (lostB l)).map Jb.id = xs) := Lib.hid (by rw [HTK.out, List.filter_append, List.map_append, ← HXS.out, List.filter_cons, if_neg (by rw [hv]; decide)]; simp)
            clear hv HCF
            go_wp2_with fail
            refine HC.out.mono ?_
            rintro e w5 ⟨rfl, hb⟩
            have HK5 := Lib.hid (HKA.out.next ei_steady hb)
            rw [← HTN.out] at HK5
            clear hb HC HKA BX e0 e1 e2 e3 e4 e5 e6 e7 e8 e9 e10 e11 e12 q0 q1 q2 q3 q4 q5 q6 q7 q8 q9 q10 q11 q12
            go_wp2
            go_roundw
            case rel => exact ⟨k + 1, _, rfl, by omega, by go_num, HK5.out⟩
            case measure => simp [intOf]; omega
        · have d0 : (x.state == 0) = false := beq_eq_false_iff_ne.2 h0
          have d1 : (x.state == 1) = true := by rw [show x.state = 1 by omega]; rfl
          clear h0 h01 h0' hb1
          cases hv : lostB l x with
          | true =>
            have HC := Lib.hid (HCF.out true hv)
            have HTN : Hid (((l.take (k + 1)).filter (lostB l)).map Jb.id = xs ++ [x.id]) := Lib.hid (by rw [HTK.out, List.filter_append, List.map_append, ← HXS.out, List.filter_cons, if_pos hv]; rfl)
            clear hv HCF
            go_wp2_with fail
            refine HC.out.mono ?_
            rintro e w5 ⟨rfl, hb⟩
            have HK5 := Lib.hid (HKA.out.next ei_steady hb)
            have BX5 := Lib.hid (BX.out.next hb)
            clear hb HC HKA BX e0 e1 e2 e3 e4 e5 e6 e7 e8 e9 e10 e11 e12 q0 q1 q2 q3 q4 q5 q6 q7 q8 q9 q10 q11 q12
            have e0 := BX5.out.c0
            go_wp2_with (at_builtin; refine append_JI rfl (.tmp 30) (.tmp 33) 28 3 rfl HK5.out i0 Try.underlying28 hi0 hz0 hz1 hz2 rfl _ rfl HLA.out ?_; intro v' w6 hON6; refine Hid.out ?_)
            refine Lib.hid ?_
            rw [← HTN.out] at hON6
            have HO6 := Lib.hid hON6
            clear hON6
            go_wp2
            go_roundw
            case rel => exact ⟨k + 1, _, rfl, by omega, by go_num, HO6.out⟩
            case measure => simp [intOf]; omega
          | false =>
            have HC := Lib.hid (HCF.out false hv)
            have HTN : Hid (((l.take (k + 1)).filter (lostB l)).map Jb.id = xs) := Lib.hid (by rw [HTK.out, List.filter_append, List.map_append, ← HXS.out, List.filter_cons, if_neg (by rw [hv]; decide)]; simp)
            clear hv HCF
            go_wp2_with fail
            refine HC.out.mono ?_
            rintro e w5 ⟨rfl, hb⟩
            have HK5 := Lib.hid (HKA.out.next ei_steady hb)
            rw [← HTN.out] at HK5
            clear hb HC HKA BX e0 e1 e2 e3 e4 e5 e6 e7 e8 e9 e10 e11 e12 q0 q1 q2 q3 q4 q5 q6 q7 q8 q9 q10 q11 q12
            go_wp2
            go_roundw
            case rel => exact ⟨k + 1, _, rfl, by omega, by go_num, HK5.out⟩
            case measure => simp [intOf]; omega
      · have d0 : (x.state == 0) = false := beq_eq_false_iff_ne.2 (by omega)
        have d1 : (x.state == 1) = false := beq_eq_false_iff_ne.2 (by omega)
        have hv : lostB l x = false := by
          cases hv : lostB l x with
          | true => exact absurd (HHL.out true hv rfl) h01
          | false => rfl
        have HTN : Hid (((l.take (k + 1)).filter (lostB l)).map Jb.id = xs) := Lib.hid (by rw [HTK.out, List.filter_append, List.map_append, ← HXS.out, List.filter_cons, if_neg (by rw [hv]; decide)]; simp)
        rw [← HTN.out] at HKA
        clear hv h01 hb1 HRJ HNE HST HLS HHL HQA JA HRD
        go_wp2
        go_roundw
        case rel => exact ⟨k + 1, _, rfl, by omega, by go_num, HKA.out⟩
        case measure => simp [intOf]; omega
    · have HP : Hid (IPost ((l.filter (lostB l)).map Jb.id) w (.returned v0) wr) := Lib.hid (by
        have h1 := HK.out.ipost
        rw [List.take_of_length_le (by rw [HL.out]; omega)] at h1
        exact h1.trans HB.out)
      clear HK
      go_wp2
      go_ret
      exact HP.out
theorem lostQP_any {A : Option Addr} {n c : Nat} {l : Qu} {w : World} (hl : QAsk w A n c l) : Calls Try.prog 13 #[.slice A n c] w (IPost (lostQ l) w) := by
  unfold lostQ
  cases hr : rightQ l with
  | true =>
    have h := of_decide_eq_true hr
    rw [if_pos h]
    exact lostQP_yes hl h
  | false =>
    rw [if_neg (of_decide_eq_false hr)]
    exact lostQP_no hl hr

end Go.Proofs.Ytimgdlddfnglaaa

namespace Go.Proofs.Ytimgdlddfnglaaa
open Go.RowKit

set_option maxRecDepth 100000 in
set_option maxHeartbeats 8000000 in
theorem readyQP_no {A : Option Addr} {n c : Nat} {l : Qu} {w : World} (hl : QAsk w A n c l) (hr : rightQ l = false) : Calls Try.prog 11 #[.slice A n c] w (IPost [] w) := by
  have QA := Lib.hid hl
  have RR := Lib.hid hr
  clear hl hr
  go_enter Try.func11, Try.ntmps11
  go_wp2_with fail
  refine (rightQP_b QA.out RR.out).mono ?_
  rintro e w1 ⟨rfl, hb⟩
  have HB := Lib.hid hb
  clear hb
  go_wp2
  go_ret
  exact ipost_nil HB.out
set_option maxRecDepth 100000 in
set_option maxHeartbeats 8000000 in
/-- behind the sort: the numbers of a line of jobs -/
theorem readyQP_yes {A : Option Addr} {n c : Nat} {l : Qu} {w : World} (hl : QAsk w A n c l) (hr : RightQ l) : Calls Try.prog 11 #[.slice A n c] w (IPost ((readyL l).map Jb.id) w) := by
  obtain ⟨i0, hi0, hz0, hz1, hz2⟩ := info_parts int_info
  obtain ⟨j0, hj0, hy0, hy1, hy2⟩ := info_parts job_info
  have QA := Lib.hid hl
  have HL := Lib.hid hl.reads.len
  have HR := Lib.hid hr
  have RR : Hid (rightQ l = true) := Lib.hid (decide_eq_true hr)
  have hn64 : n ≤ 64 := by rw [← hl.reads.len]; exact hr.1
  clear hl hr
  go_enter Try.func11, Try.ntmps11
  go_wp2_with fail
  refine (rightQP_b QA.out RR.out).mono ?_
  rintro e w1 ⟨rfl, hb⟩
  have HB := Lib.hid hb
  have Q1 := Lib.hid (QA.out.next hb)
  clear hb QA
  go_wp2
  go_loopw [3, 14] (fun ov iv wr => ∃ (k : Nat) (v0 : Value), v0 = ov ∧ k ≤ n ∧ iv = .int .i64 k ∧ ON EJb 13 30 w1 v0 ((l.take k).filter (readyB l)) wr) (fun _ iv _ => n - (intOf iv).toNat)
  case atStart => exact ⟨0, _, rfl, Nat.zero_le _, rfl, by simpa using ON.nil _⟩
  case round =>
    obtain ⟨k, v0, rfl, hk, rfl, hrel⟩ := hrel
    have HK := Lib.hid hrel
    clear hrel
    by_cases hlt : k < n
    · have hkl : k < l.length := by rw [HL.out]; exact hlt
      have QAI := Lib.hid (Q1.out.next HK.out.below)
      have HTK : Hid (l.take (k + 1) = l.take k ++ [jAt l k]) := Lib.hid (by rw [jAt_lt hkl, List.take_succ_eq_append_getElem hkl])
      have HNE : Hid (AllHas l (jAt l k).needs) := Lib.hid (HR.out.needs hkl)
      have HEL := Lib.hid ((Q1.out.reads.below HK.out.below).el hlt)
      obtain ⟨b, off, A3, m3, c3, rfl, hb1, ⟨e0, e1, e2, e3, e4, e5, e6, e7, e8, e9, e10, e11, e12⟩, ja⟩ := QAI.out.reads.one hlt
      obtain ⟨x, hx⟩ : ∃ x, jAt l k = x := ⟨_, rfl⟩
      rw [hx] at ja e0 e1 e2 e3 e4 e5 e6 e7 e9 e10 e11 e12
      rw [hx] at HTK HNE HEL
      have HE : Hid (EJb wr (fun b => b < wr.heap.size ∧ v0.ownBlock ≠ some b) x [.int .i64 x.id, .int .i64 x.spec.nodes, .int .i64 x.spec.cores, .int .i64 x.spec.gpus, .string x.spec.tag, .bool x.spec.whole, .int .i64 x.spec.long, .int .i64 x.spec.prio, .slice A3 m3 c3, .int .i64 x.state, .int .i64 x.came, .int .i64 x.frm, .int .i64 x.to]) := Lib.hid (by
        obtain ⟨b', off', A4, m4, c4, eA, _, ⟨_, _, _, _, _, _, _, _, k8, _⟩, hE⟩ := HEL.out
        injection eA with eA
        injection eA with eB eO _
        subst eB eO
        rw [k8] at e8
        injection e8 with e8
        injection e8 with f1 f2 f3
        subst f1 f2 f3
        exact ejb_steady.keep hE (fun _ _ => rfl) (fun b hb => ⟨Nat.lt_of_lt_of_le hb HK.out.below.size, fun e => by
          have h1 := (HK.out.own b e).1
          have h2 : b < w1.heap.size := hb
          omega⟩))
      obtain ⟨xs, hxs⟩ : ∃ xs, (l.take k).filter (readyB l) = xs := ⟨_, rfl⟩
      have HLA : Hid (xs.length + 1 ≤ maxLen) := Lib.hid (by
        rw [← hxs]
        have := List.length_filter_le (readyB l) (l.take k)
        rw [List.length_take] at this; unfold maxLen; omega)
      have HLB : Hid ((xs.length + 1) * 128 ≤ 140737488355328) := Lib.hid (by
        rw [← hxs]
        have := List.length_filter_le (readyB l) (l.take k)
        rw [List.length_take] at this; omega)
      rw [hxs] at HK
      have HXS := Lib.hid hxs
      have hba : Below wr.heap.size wr (wr.alloc (.cells #[.int .i64 x.id, .int .i64 x.spec.nodes, .int .i64 x.spec.cores, .int .i64 x.spec.gpus, .string x.spec.tag, .bool x.spec.whole, .int .i64 x.spec.long, .int .i64 x.spec.prio, .slice A3 m3 c3, .int .i64 x.state, .int .i64 x.came, .int .i64 x.frm, .int .i64 x.to] 30)) := (Below.refl _ _).alloc (Nat.le_refl _) _
      have HKA := Lib.hid (HK.out.next ejb_steady hba)
      have HEA : Hid (EJb (wr.alloc (.cells #[.int .i64 x.id, .int .i64 x.spec.nodes, .int .i64 x.spec.cores, .int .i64 x.spec.gpus, .string x.spec.tag, .bool x.spec.whole, .int .i64 x.spec.long, .int .i64 x.spec.prio, .slice A3 m3 c3, .int .i64 x.state, .int .i64 x.came, .int .i64 x.frm, .int .i64 x.to] 30)) (fun b => b < (wr.alloc (.cells #[.int .i64 x.id, .int .i64 x.spec.nodes, .int .i64 x.spec.cores, .int .i64 x.spec.gpus, .string x.spec.tag, .bool x.spec.whole, .int .i64 x.spec.long, .int .i64 x.spec.prio, .slice A3 m3 c3, .int .i64 x.state, .int .i64 x.came, .int .i64 x.frm, .int .i64 x.to] 30)).heap.size ∧ v0.ownBlock ≠ some b) x [.int .i64 x.id, .int .i64 x.spec.nodes, .int .i64 x.spec.cores, .int .i64 x.spec.gpus, .string x.spec.tag, .bool x.spec.whole, .int .i64 x.spec.long, .int .i64 x.spec.prio, .slice A3 m3 c3, .int .i64 x.state, .int .i64 x.came, .int .i64 x.frm, .int .i64 x.to]) := Lib.hid (ejb_steady.keep HE.out (fun b hb => hba.block b hb.1) (fun b hb => ⟨Nat.lt_of_lt_of_le hb.1 hba.size, hb.2⟩))
      have BX : Hid (BoxJ (wr.alloc (.cells #[.int .i64 x.id, .int .i64 x.spec.nodes, .int .i64 x.spec.cores, .int .i64 x.spec.gpus, .string x.spec.tag, .bool x.spec.whole, .int .i64 x.spec.long, .int .i64 x.spec.prio, .slice A3 m3 c3, .int .i64 x.state, .int .i64 x.came, .int .i64 x.frm, .int .i64 x.to] 30)) wr.heap.size x A3 m3 c3) := Lib.hid (boxJ_new wr x A3 m3 c3)
      have HQA := Lib.hid (QAI.out.next hba)
      have JA := Lib.hid (ja.next hba)
      have HCF : Hid (∀ v, readyB l x = v → Calls Try.prog 25 #[.slice (some ⟨b, off, none⟩) n c, .agg #[.int .i64 x.id, .int .i64 x.spec.nodes, .int .i64 x.spec.cores, .int .i64 x.spec.gpus, .string x.spec.tag, .bool x.spec.whole, .int .i64 x.spec.long, .int .i64 x.spec.prio, .slice A3 m3 c3, .int .i64 x.state, .int .i64 x.came, .int .i64 x.frm, .int .i64 x.to]] (wr.alloc (.cells #[.int .i64 x.id, .int .i64 x.spec.nodes, .int .i64 x.spec.cores, .int .i64 x.spec.gpus, .string x.spec.tag, .bool x.spec.whole, .int .i64 x.spec.long, .int .i64 x.spec.prio, .slice A3 m3 c3, .int .i64 x.state, .int .i64 x.came, .int .i64 x.frm, .int .i64 x.to] 30)) fun e w' => e = .returned (.bool v) ∧ Below (wr.alloc (.cells #[.int .i64 x.id, .int .i64 x.spec.nodes, .int .i64 x.spec.cores, .int .i64 x.spec.gpus, .string x.spec.tag, .bool x.spec.whole, .int .i64 x.spec.long, .int .i64 x.spec.prio, .slice A3 m3 c3, .int .i64 x.state, .int .i64 x.came, .int .i64 x.frm, .int .i64 x.to] 30)).heap.size (wr.alloc (.cells #[.int .i64 x.id, .int .i64 x.spec.nodes, .int .i64 x.spec.cores, .int .i64 x.spec.gpus, .string x.spec.tag, .bool x.spec.whole, .int .i64 x.spec.long, .int .i64 x.spec.prio, .slice A3 m3 c3, .int .i64 x.state, .int .i64 x.came, .int .i64 x.frm, .int .i64 x.to] 30)) w') := Lib.hid (fun v hv => readyQ_b HQA.out.reads (by omega) HR.out.riseL JA.out HNE.out hv)
      have H1C : Hid (∀ u ∈ (#[.int .i64 x.id, .int .i64 x.spec.nodes, .int .i64 x.spec.cores, .int .i64 x.spec.gpus, .string x.spec.tag, .bool x.spec.whole, .int .i64 x.spec.long, .int .i64 x.spec.prio, .slice A3 m3 c3, .int .i64 x.state, .int .i64 x.came, .int .i64 x.frm, .int .i64 x.to] : Array Value).toList, u.oneCell' = true) := Lib.hid (fun u hu => by
        simp only [List.mem_cons, List.not_mem_nil, or_false] at hu
        rcases hu with rfl | rfl | rfl | rfl | rfl | rfl | rfl | rfl | rfl | rfl | rfl | rfl | rfl <;> rfl)
      clear hxs hba hx ja hkl HK HE HEL HQA JA hb1
      have q0 := BX.out.c0
      have q1 := BX.out.c1
      have q2 := BX.out.c2
      have q3 := BX.out.c3
      have q4 := BX.out.c4
      have q5 := BX.out.c5
      have q6 := BX.out.c6
      have q7 := BX.out.c7
      have q8 := BX.out.c8
      have q9 := BX.out.c9
      have q10 := BX.out.c10
      have q11 := BX.out.c11
      have q12 := BX.out.c12
      cases hv : readyB l x with
      | true =>
        have HC := Lib.hid (HCF.out true hv)
        have HTN : Hid ((l.take (k + 1)).filter (readyB l) = xs ++ [x]) := Lib.hid (by rw [HTK.out, List.filter_append, HXS.out, List.filter_cons, if_pos hv]; rfl)
        clear hv HCF
        go_wp2_with fail
        refine HC.out.mono ?_
        rintro e w5 ⟨rfl, hb⟩
        have HK5 := Lib.hid (HKA.out.next ejb_steady hb)
        have HE5 : Hid (EJb w5 (fun b => b < w5.heap.size ∧ v0.ownBlock ≠ some b) x [.int .i64 x.id, .int .i64 x.spec.nodes, .int .i64 x.spec.cores, .int .i64 x.spec.gpus, .string x.spec.tag, .bool x.spec.whole, .int .i64 x.spec.long, .int .i64 x.spec.prio, .slice A3 m3 c3, .int .i64 x.state, .int .i64 x.came, .int .i64 x.frm, .int .i64 x.to]) := Lib.hid (ejb_steady.keep HEA.out (fun b hb' => hb.block b hb'.1) (fun b hb' => ⟨Nat.lt_of_lt_of_le hb'.1 hb.size, hb'.2⟩))
        have BX5 := Lib.hid (BX.out.next hb)
        clear hb HC HKA HEA BX e0 e1 e2 e3 e4 e5 e6 e7 e8 e9 e10 e11 e12 q0 q1 q2 q3 q4 q5 q6 q7 q8 q9 q10 q11 q12
        have q0 := BX5.out.c0
        have q1 := BX5.out.c1
        have q2 := BX5.out.c2
        have q3 := BX5.out.c3
        have q4 := BX5.out.c4
        have q5 := BX5.out.c5
        have q6 := BX5.out.c6
        have q7 := BX5.out.c7
        have q8 := BX5.out.c8
        have q9 := BX5.out.c9
        have q10 := BX5.out.c10
        have q11 := BX5.out.c11
        have q12 := BX5.out.c12
        go_wp2_with (at_builtin; refine wpList_append_ON rfl (.tmp 21) (.tmp 23) 22 rfl ejb_steady HK5.out j0 (.agg #[.int .i64 0, .int .i64 0, .int .i64 0, .int .i64 0, .string ⟨#[]⟩, .bool false, .int .i64 0, .int .i64 0, .slice none 0 0, .int .i64 0, .int .i64 0, .int .i64 0, .int .i64 0]) 128 Try.underlying22 hj0 hy0 hy1 hy2 rfl (by decide) rfl x #[.int .i64 x.id, .int .i64 x.spec.nodes, .int .i64 x.spec.cores, .int .i64 x.spec.gpus, .string x.spec.tag, .bool x.spec.whole, .int .i64 x.spec.long, .int .i64 x.spec.prio, .slice A3 m3 c3, .int .i64 x.state, .int .i64 x.came, .int .i64 x.frm, .int .i64 x.to] rfl rfl H1C.out HE5.out HLA.out HLB.out ?_; intro v' w6 hON6; refine Hid.out ?_)
        refine Lib.hid ?_
        rw [← HTN.out] at hON6
        have HO6 := Lib.hid hON6
        clear hON6
        go_wp2
        go_roundw
        case rel => exact ⟨k + 1, _, rfl, by omega, by go_num, HO6.out⟩
        case measure => simp [intOf]; omega
      | false =>
        have HC := Lib.hid (HCF.out false hv)
        have HTN : Hid ((l.take (k + 1)).filter (readyB l) = xs) := Lib.hid (by rw [HTK.out, List.filter_append, HXS.out, List.filter_cons, if_neg (by rw [hv]; decide)]; simp)
        clear hv HCF
        go_wp2_with fail
        refine HC.out.mono ?_
        rintro e w5 ⟨rfl, hb⟩
        have HK5 := Lib.hid (HKA.out.next ejb_steady hb)
        rw [← HTN.out] at HK5
        clear hb HC HKA HEA BX e0 e1 e2 e3 e4 e5 e6 e7 e8 e9 e10 e11 e12 q0 q1 q2 q3 q4 q5 q6 q7 q8 q9 q10 q11 q12
        go_wp2
        go_roundw
        case rel => exact ⟨k + 1, _, rfl, by omega, by go_num, HK5.out⟩
        case measure => simp [intOf]; omega
    · have HK2 : Hid (ON EJb 13 30 w1 v0 (l.filter (readyB l)) wr) := Lib.hid (by
        have h1 := HK.out
        rw [List.take_of_length_le (by rw [HL.out]; omega)] at h1
        exact h1)
      clear HK
      have HRI := Lib.hid (rise_filter HR.out (readyB l))
      have HLF : Hid ((l.filter (readyB l)).length ≤ 64) := Lib.hid (Nat.le_trans (List.length_filter_le _ _) HR.out.1)
      have HLM : Hid (∀ xs : Qu, xs.length = (l.filter (readyB l)).length → SameIn (jAt (l.filter (readyB l))) (jAt xs) 0 (l.filter (readyB l)).length → SrtB (jAt xs) 0 (l.filter (readyB l)).length → xs = readyL l) := Lib.hid (fun xs h1 h2 h3 => srt_line h1 h2 h3 HR.out.readyOrder (fun x => mem_orderQ))
      obtain ⟨ys, hys⟩ : ∃ ys, l.filter (readyB l) = ys := ⟨_, rfl⟩
      rw [hys] at HK2 HRI HLF HLM
      clear hys
      obtain ⟨L, hL⟩ : ∃ L, ys.length = L := ⟨_, rfl⟩
      have HLL := Lib.hid hL
      obtain ⟨A0, c0, rfl, hn0, hc0⟩ := HK2.out.form
      rw [hL] at HRI HLF HLM hc0 HK2 ⊢
      -- the sort: a line that holds the ready ones in their order
      have HSORT : Hid (Calls Try.prog 26 #[.slice A0 L c0, .func (.func 27) #[] #[]] wr fun e w' => e = .returned (.tuple #[]) ∧ QAsk w' A0 L c0 (readyL l) ∧ Below w1.heap.size w1 w') := Lib.hid (by
        have hown : (A0 = none ∧ L = 0 ∧ c0 = 0) ∨ ∃ g, A0 = some ⟨g, 0, none⟩ := by
          obtain ⟨fl, f1, _⟩ := HK2.out
          rcases f1.2 with ⟨e, h0⟩ | ⟨g, cap, cur, e, _⟩
          · injection e with e1 e2 e3
            exact .inl ⟨e1, e2, e3⟩
          · injection e with e1 e2 e3
            exact .inr ⟨g, e1⟩
        rcases hown with ⟨rfl, h0, rfl⟩ | ⟨g, rfl⟩
        · subst h0
          have hys0 : ys = [] := List.eq_nil_of_length_eq_zero hL
          have hxs0 : readyL l = [] := ((HLM.out [] rfl ⟨fun q h1 h2 => by omega, fun q h1 h2 => by omega, fun q _ => by rw [hys0]⟩ (fun i k h1 h2 h3 => by omega))).symm
          rw [hxs0]
          exact (sort_nil wr).mono fun e w' ⟨h1, h2⟩ => ⟨h1, qask_nil _, by rw [h2]; exact HK2.out.below⟩
        · have hrow : RowF w1 g L c0 (jAt ys) wr := ⟨ys, hL, rfl, HK2.out⟩
          refine (sort_any w1 g L c0 (jAt ys) wr hrow (by have := HLF.out; omega) HRI.out).mono ?_
          rintro e w' ⟨h1, f, h2, h3, xs, h4, h5, h6⟩
          subst h5
          have hxl := HLM.out xs h4 h2 h3
          refine ⟨h1, ⟨?_, hn0, hc0, by unfold maxLen; have := HLF.out; omega⟩, h6.below⟩
          rw [← hxl]
          exact h6.reads ejb_steady (by omega) rfl)
      have hL64 : L ≤ 64 := HLF.out
      clear HRI HLF HLM HK2 hn0 hc0 hL HLL
      obtain ⟨zs, hzs⟩ : ∃ zs, readyL l = zs := ⟨_, rfl⟩
      rw [hzs] at HSORT
      have HZS := Lib.hid hzs
      clear hzs
      go_wp2_with fail
      refine HSORT.out.mono ?_
      rintro e w5 ⟨rfl, hq, hb5⟩
      have QZ := Lib.hid hq
      have HZL := Lib.hid hq.reads.len
      have HB5 := Lib.hid (HB.out.trans (hb5.mono HB.out.size))
      clear hq hb5 HSORT
      go_wp2
      go_loopw [6, 30] (fun ov iv wr2 => ∃ (k : Nat) (v0 : Value), v0 = ov ∧ k ≤ L ∧ iv = .int .i64 k ∧ ON EI 1 3 w5 v0 ((zs.take k).map Jb.id) wr2) (fun _ iv _ => L - (intOf iv).toNat)
      case atStart => exact ⟨0, _, rfl, Nat.zero_le _, rfl, by simpa using ON.nil _⟩
      case round =>
        obtain ⟨k, v0, rfl, hk, rfl, hrel⟩ := hrel
        have HK := Lib.hid hrel
        clear hrel
        by_cases hlt : k < L
        · have hkl : k < zs.length := by rw [HZL.out]; exact hlt
          have QAI := Lib.hid (QZ.out.next HK.out.below)
          have HTK : Hid ((zs.take (k + 1)).map Jb.id = (zs.take k).map Jb.id ++ [(jAt zs k).id]) := Lib.hid (by rw [jAt_lt hkl, List.take_succ_eq_append_getElem hkl, List.map_append]; rfl)
          obtain ⟨b, off, A3, m3, c3, rfl, hb1, ⟨e0, e1, e2, e3, e4, e5, e6, e7, e8, e9, e10, e11, e12⟩, ja⟩ := QAI.out.reads.one hlt
          obtain ⟨x, hx⟩ : ∃ x, jAt zs k = x := ⟨_, rfl⟩
          rw [hx] at HTK ja e0 e1 e2 e3 e4 e5 e6 e7 e9 e10 e11 e12
          have HLA : Hid (((zs.take k).map Jb.id).length ≤ 1000) := Lib.hid (by rw [List.length_map, List.length_take]; omega)
          have hba : Below wr.heap.size wr (wr.alloc (.cells #[.int .i64 x.id, .int .i64 x.spec.nodes, .int .i64 x.spec.cores, .int .i64 x.spec.gpus, .string x.spec.tag, .bool x.spec.whole, .int .i64 x.spec.long, .int .i64 x.spec.prio, .slice A3 m3 c3, .int .i64 x.state, .int .i64 x.came, .int .i64 x.frm, .int .i64 x.to] 30)) := (Below.refl _ _).alloc (Nat.le_refl _) _
          have HK5 := Lib.hid (HK.out.next ei_steady hba)
          have q0 := (boxJ_new wr x A3 m3 c3).c0
          unfold jO at q0
          clear hba hx ja hkl HK hb1
          go_wp2_with (at_builtin; refine append_JI rfl (.tmp 34) (.tmp 37) 28 3 rfl HK5.out i0 Try.underlying28 hi0 hz0 hz1 hz2 rfl x.id (by first | rfl | (simp; rfl)) HLA.out ?_; intro v' w6 hON6; refine Hid.out ?_)
          refine Lib.hid ?_
          rw [← HTK.out] at hON6
          have HO6 := Lib.hid hON6
          clear hON6
          go_wp2
          go_roundw
          case rel => exact ⟨k + 1, _, rfl, by omega, by go_num, HO6.out⟩
          case measure => simp [intOf]; omega
        · have HP : Hid (IPost ((readyL l).map Jb.id) w (.returned v0) wr) := Lib.hid (by
            have h1 := HK.out.ipost
            rw [List.take_of_length_le (by rw [HZL.out]; omega)] at h1
            rw [HZS.out]
            exact h1.trans HB5.out)
          clear HK
          go_wp2
          go_ret
          exact HP.out
theorem readyQP_any {A : Option Addr} {n c : Nat} {l : Qu} {w : World} (hl : QAsk w A n c l) : Calls Try.prog 11 #[.slice A n c] w (IPost (readyQ l) w) := by
  unfold readyQ
  cases hr : rightQ l with
  | true =>
    have h := of_decide_eq_true hr
    rw [if_pos h]
    exact readyQP_yes hl h
  | false =>
    rw [if_neg (of_decide_eq_false hr)]
    exact readyQP_no hl hr

end Go.Proofs.Ytimgdlddfnglaaa

namespace Go.Proofs.Ytimgdlddfnglaaa
open Go.RowKit

section
variable {l : Qu} {s : Sp} {ns : List Int} {now : Int}
theorem add_er {er : Int} (h : addQE l s ns now = er) (hne : er ≠ 0) : addQL l s ns now = l ∧ addN l s ns now = 0 := by
  subst h
  exact ⟨if_neg hne, if_neg hne⟩
theorem add_ok (h : addQE l s ns now = 0) : addQL l s ns now = l ++ [⟨nextId l, s, ns, 0, now, 0, 0⟩] ∧ addN l s ns now = nextId l := ⟨if_pos h, if_pos h⟩
theorem add_arg (h : ¬ AddArg l s ns now) : addQE l s ns now = 1 := if_neg h
theorem addQP_any (A : Option Addr) (n c : Nat) (l : Qu) (s : Sp) (A2 : Option Addr) (m c2 : Nat) (ns : List Int) (now : Int) (w : World) (hl : QAsk w A n c l) (hf : FewQ l) (hs : SAsk s) (hm : MAsk w A2 m c2 ns) (hmm : m ≤ 100) (hi : I64 now) :
    Calls Try.prog 18 #[.slice A n c, .agg #[.int .i64 s.nodes, .int .i64 s.cores, .int .i64 s.gpus, .string s.tag, .bool s.whole, .int .i64 s.long, .int .i64 s.prio], .slice A2 m c2, .int .i64 now] w (QNPost (addQL l s ns now) (addN l s ns now) (addQE l s ns now) w) := by
  have hln := hl.reads.len
  have bad : ¬ AddArg l s ns now → addQE l s ns now = 1 ∧ addQL l s ns now = l ∧ addN l s ns now = 0 := fun h =>
    ⟨add_arg h, add_er (add_arg h) (by decide)⟩
  by_cases hr : RightQ l
  rotate_left
  · obtain ⟨e1, e2, e3⟩ := bad fun h => hr h.1
    rw [e1, e2, e3]
    exact addQP_1 hl hf hs hm hmm hi (decide_eq_false hr)
  cases h2 : rightS s with
  | false =>
    obtain ⟨e1, e2, e3⟩ := bad fun h => by have := h.2.1; rw [h2] at this; cases this
    rw [e1, e2, e3]
    exact addQP_2 hl hf hs hm hmm hi hr h2
  | true =>
  cases h3 : mayB ns with
  | false =>
    obtain ⟨e1, e2, e3⟩ := bad fun h => of_decide_eq_false h3 ⟨h.2.2.1, h.2.2.2.1⟩
    rw [e1, e2, e3]
    exact addQP_3 hl hf hs hm hmm hi hr h2 h3
  | true =>
  cases h4 : timeB now with
  | false =>
    obtain ⟨e1, e2, e3⟩ := bad fun h => of_decide_eq_false h4 h.2.2.2.2.1
    rw [e1, e2, e3]
    exact addQP_4 hl hf hs hm hmm hi hr h2 h3 h4
  | true =>
  have h3' := of_decide_eq_true h3
  have h4' := of_decide_eq_true h4
  rcases Nat.eq_zero_or_pos n with h0 | h0
  · have harg : AddArg l s ns now := ⟨hr, h2, h3'.1, h3'.2, h4', fun h => by omega⟩
    have hnx : nextId l = 1 := if_pos (by omega)
    cases h6 : decide (AllHas l ns) with
    | false =>
      have e1 : addQE l s ns now = 6 := by unfold addQE; rw [if_pos harg, if_neg (of_decide_eq_false h6)]
      obtain ⟨e2, e3⟩ := add_er e1 (by decide)
      rw [e1, e2, e3]
      exact addQP_6e hl hf hs hm hmm hi hr h2 h3 h4 h0 h6
    | true =>
      have e1 : addQE l s ns now = 0 := by unfold addQE; rw [if_pos harg, if_pos (of_decide_eq_true h6), if_neg (by omega), hnx, if_neg (by omega)]
      obtain ⟨e2, e3⟩ := add_ok e1
      rw [e1, e2, e3, hnx]
      exact addQP_9e hl hf hs hm hmm hi hr h2 h3 h4 h0 h6
  · have hlc : lastCame l = (jAt l (n - 1)).came := by unfold lastCame; rw [hln]
    have hli : lastId l = (jAt l (n - 1)).id := by unfold lastId; rw [hln]
    have hnx : nextId l = (jAt l (n - 1)).id + 1 := by unfold nextId; rw [if_neg (by omega), hli]
    by_cases h5 : now < (jAt l (n - 1)).came
    · obtain ⟨e1, e2, e3⟩ := bad fun h => by
        have := h.2.2.2.2.2 (by omega)
        rw [hlc] at this; omega
      rw [e1, e2, e3]
      exact addQP_5 hl hf hs hm hmm hi hr h2 h3 h4 h0 h5
    have harg : AddArg l s ns now := ⟨hr, h2, h3'.1, h3'.2, h4', fun _ => by rw [hlc]; omega⟩
    cases h6 : decide (AllHas l ns) with
    | false =>
      have e1 : addQE l s ns now = 6 := by unfold addQE; rw [if_pos harg, if_neg (of_decide_eq_false h6)]
      obtain ⟨e2, e3⟩ := add_er e1 (by decide)
      rw [e1, e2, e3]
      exact addQP_6m hl hf hs hm hmm hi hr h2 h3 h4 h0 h5 h6
    | true =>
      have h64 := hr.1
      by_cases h7 : n = 64
      · have e1 : addQE l s ns now = 5 := by unfold addQE; rw [if_pos harg, if_pos (of_decide_eq_true h6), if_pos (by omega)]
        obtain ⟨e2, e3⟩ := add_er e1 (by decide)
        rw [e1, e2, e3]
        exact addQP_7 hl hf hs hm hmm hi hr h2 h3 h4 h0 h5 h6 h7
      · by_cases h8 : 1073741824 < (jAt l (n - 1)).id + 1
        · have e1 : addQE l s ns now = 9 := by unfold addQE; rw [if_pos harg, if_pos (of_decide_eq_true h6), if_neg (by omega), hnx, if_pos h8]
          obtain ⟨e2, e3⟩ := add_er e1 (by decide)
          rw [e1, e2, e3]
          exact addQP_8 hl hf hs hm hmm hi hr h2 h3 h4 h0 h5 h6 h7 h8
        · have e1 : addQE l s ns now = 0 := by unfold addQE; rw [if_pos harg, if_pos (of_decide_eq_true h6), if_neg (by omega), hnx, if_neg h8]
          obtain ⟨e2, e3⟩ := add_ok e1
          rw [e1, e2, e3, hnx]
          exact addQP_9m hl hf hs hm hmm hi hr h2 h3 h4 h0 h5 h6 h7 h8 _ rfl
end

theorem queueOk_is : QueueOk where
  right := fun A n c l w hl _ => rightQP_any A n c l w hl
  add A n c l s A2 m c2 ns now w hl hf hs hm hmm hn := addQP_any A n c l s A2 m c2 ns now w hl hf hs hm hmm hn
  does := fun _ _ _ _ _ _ _ _ hl hr hh _ _ hn => doQP_yes hl hr hh hn
  get := fun _ _ _ _ _ _ hl _ _ => getQP_any hl
  ready := fun _ _ _ _ _ hl _ => readyQP_any hl
  lost := fun _ _ _ _ _ hl _ => lostQP_any hl
  counts := fun _ _ _ _ _ hl _ => countsQP_any hl

end Go.Proofs.Ytimgdlddfnglaaa
