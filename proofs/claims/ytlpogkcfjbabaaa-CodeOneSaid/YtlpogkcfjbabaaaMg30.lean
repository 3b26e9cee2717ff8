/- The reference's Same of layer 8 (bailiwickref08): what it answers of any two lists of parts. The reference's functions of layer 8 (bailiwickref08) in the form of the contracts: Spec, Set, List, Short, Same. -/
import Derived.Deep.QuietTactic
import Derived.BigQuiet
import Derived.LoopTactic
import Derived.Test.YtlpogkcfjbabaaaMg03
import Derived.Test.YtlpogkcfjbabaaaMg06
import Derived.Test.YtlpogkcfjbabaaaMg22
import Derived.Test.YtlpogkcfjbabaaaMg23
import Derived.Test.YtlpogkcfjbabaaaMg29
namespace Go.Proofs.Ytlpogkcfjbabaaa
open Go.RowKit

theorem bytes_eq {p q : Bs} : ((⟨p.toArray⟩ : ByteArray) = ⟨q.toArray⟩) ↔ p = q := by
  constructor
  · intro h
    injection h with h
    simpa using h
  · rintro rfl; rfl
theorem parts_ext {ps qs : List Bs} (hl : ps.length = qs.length) (h : ∀ j, j < ps.length → ps.getD j [] = qs.getD j []) : ps = qs := by
  apply List.ext_getElem hl
  intro j h1 h2
  have := h j h1
  rwa [List.getD, List.getD, List.getElem?_eq_getElem h1, List.getElem?_eq_getElem h2] at this

set_option maxRecDepth 100000 in
set_option maxHeartbeats 2000000 in
theorem refSameP_any (A : Option Addr) (n c : Nat) (A2 : Option Addr) (n2 c2 : Nat) (ps qs : List Bs) (w : World) (h : PAsk w A n c ps) (h2 : PAsk w A2 n2 c2 qs) :
    Calls Try.prog 21 #[.slice A n c, .slice A2 n2 c2] w fun e w' => e = .returned (.bool (decide (ps = qs))) ∧ Below w.heap.size w w' := by
  have H := Lib.hid h
  have H2 := Lib.hid h2
  have HL := Lib.hid h.reads.len
  have HL2 := Lib.hid h2.reads.len
  have hn := h.few
  have hn2 := h2.few
  unfold maxLen at hn hn2
  clear h h2
  by_cases hnn : n = n2
  · subst hnn
    go_enter Try.func21, Try.ntmps21
    go_wp2
    go_loopw [5] (fun i wr => ∃ k : Nat, k ≤ n ∧ i = .int .i64 k ∧ (∀ j, j < k → ps.getD j [] = qs.getD j []) ∧ Below w.heap.size w wr) (fun i _ => n - (intOf i).toNat)
    case atStart => exact ⟨0, Nat.zero_le _, rfl, fun j hj => absurd hj (by omega), Below.refl _ _⟩
    case round =>
      obtain ⟨k, hk, rfl, hpre, hb⟩ := hrel
      have HP := Lib.hid hpre
      have HB := Lib.hid hb
      clear hpre hb
      by_cases hlt : k < n
      · obtain ⟨b, off, A', m, c', rfl, _, hc, hp⟩ := (H.out.next HB.out).one hlt
        obtain ⟨b2, off2, A2', m2, c2', rfl, _, hc2, hq⟩ := (H2.out.next HB.out).one hlt
        have s1 := fun q => string_of (c := c') (hp.reads.drewN q)
        have s2 := fun q => string_of (c := c2') (hq.reads.drewN q)
        have hkz : (k : Int) < (n : Int) := by omega
        obtain ⟨p, hpe⟩ : ∃ p, ps.getD k [] = p := ⟨_, rfl⟩
        obtain ⟨q, hqe⟩ : ∃ q, qs.getD k [] = q := ⟨_, rfl⟩
        have HPE := Lib.hid hpe
        have HQE := Lib.hid hqe
        rw [hpe] at s1
        rw [hqe] at s2
        clear hp hq hpe hqe
        by_cases he : p = q
        · have e1 : Hid (∀ j, j < k + 1 → ps.getD j [] = qs.getD j []) := Lib.hid (by
            intro j hj
            rcases Nat.lt_or_ge j k with h' | h'
            · exact HP.out j h'
            · obtain rfl : j = k := by omega
              rw [HPE.out, HQE.out]; exact he)
          subst he
          go_wp2
          go_quiet (fail)
          go_wp2
          go_roundw
          case rel => exact ⟨k + 1, by omega, by go_num, e1.out, bel_more HB.out _⟩
          case measure => simp [intOf]; omega
        · have e0 : Hid (decide (ps = qs) = false) := Lib.hid (decide_eq_false (fun e => he (by rw [← HPE.out, ← HQE.out, e])))
          have hbl : (p == q) = false := beq_eq_false_iff_ne.2 he
          have hbm : (!p == q) = true := by rw [hbl]; rfl
          go_wp2
          go_quiet (fail)
          go_wp2
          go_ret
          exact ⟨ret_bool e0.out, bel_more HB.out _⟩
      · have hkn : k = n := by omega
        have e0 : Hid (decide (ps = qs) = true) := Lib.hid (decide_eq_true (parts_ext (by rw [HL.out, HL2.out]) (fun j hj => HP.out j (by rw [HL.out] at hj; omega))))
        go_wp2
        go_ret
        exact ⟨ret_bool e0.out, HB.out⟩
  · have hd : ((n : Int) != (n2 : Int)) = true := by simp; omega
    have hd2 : ((n : Int) == (n2 : Int)) = false := by simp; omega
    have e0 : Hid (decide (ps = qs) = false) := Lib.hid (decide_eq_false (fun e => hnn (by rw [← HL.out, ← HL2.out, e])))
    go_enter Try.func21, Try.ntmps21
    go_wp2
    go_ret
    exact ⟨ret_bool e0.out, Below.refl _ _⟩

end Go.Proofs.Ytlpogkcfjbabaaa

namespace Go.Proofs.Ytlpogkcfjbabaaa
open Go.RowKit

section
variable {w : World}
theorem r8_spec {s : Sp} {b : Bs} {er : Int} (hs : SAsk s) (e : ptSpec s = (b, er)) : Calls Try.prog 10 #[.agg #[.int .i64 s.nodes, .int .i64 s.cores, .int .i64 s.gpus, .string s.tag, .bool s.whole, .int .i64 s.long, .int .i64 s.prio]] w (BP b er w) := by
  have := refPutSpec_any s w hs
  have hl := ptSpec_len s
  rw [e] at this hl
  exact this.mono fun _ _ h => bp_of (ml_of hl (by omega)) h
theorem r8_set {A : Option Addr} {n c : Nat} {l : List Int} {b : Bs} {er : Int} (h : LAsk w A n c l) (e : ptSet l = (b, er)) : Calls Try.prog 12 #[.slice A n c] w (BP b er w) := by
  have := refPutSet_any A n c l w h.reads (ml300 h.few)
  have hl := ptSet_len l
  rw [e] at this hl
  exact this.mono fun _ _ h => bp_of (ml_of hl (by omega)) h
theorem r8_list {A : Option Addr} {n c : Nat} {ps : List Bs} {b : Bs} {er : Int} (h : PAsk w A n c ps) (hs : ps.flatten.length ≤ 100000) (e : ptList ps = (b, er)) : Calls Try.prog 14 #[.slice A n c] w (BP b er w) := by
  have := refList_any A n c ps w h hs
  have hl := ptList_len hs
  rw [e] at this hl
  exact this.mono fun _ _ h => bp_of (ml_of hl (by omega)) h
theorem r8_short {A : Option Addr} {n c : Nat} {ps : List Bs} {b : Bool} (h : PAsk w A n c ps) (e : shortB ps = b) : Calls Try.prog 8 #[.slice A n c] w fun e w' => e = .returned (.bool b) ∧ Below w.heap.size w w' := by
  subst e; exact refShort_any A n c ps w h
theorem r8_same {A : Option Addr} {n c : Nat} {A2 : Option Addr} {n2 c2 : Nat} {ps qs : List Bs} (h : PAsk w A n c ps) (h2 : PAsk w A2 n2 c2 qs) (e : ps = qs) : Calls Try.prog 21 #[.slice A n c, .slice A2 n2 c2] w fun e w' => e = .returned (.bool true) ∧ Below w.heap.size w w' := by
  have := refSameP_any A n c A2 n2 c2 ps qs w h h2
  rw [decide_eq_true e] at this
  exact this
end
theorem flatten_sum : ∀ (ps : List Bs) (m : Nat), (∀ p ∈ ps, p.length ≤ m) → ps.flatten.length ≤ ps.length * m
  | [], m, _ => by simp
  | p :: ps, m, h => by
    have h1 := flatten_sum ps m (fun q hq => h q (List.mem_cons_of_mem _ hq))
    have h2 := h p (List.mem_cons_self ..)
    rw [List.flatten_cons, List.length_append, List.length_cons, Nat.succ_mul]
    omega
theorem BAsk.str {w : World} {B n c : Nat} {A : Option Addr} {bs : Bs} (h : BAsk w B A n c bs) (c' : Nat) : (convert 28 9 (.slice A n c')).run Try.prog w = .ok (.string ⟨bs.toArray⟩) w := string_of h.reads

end Go.Proofs.Ytlpogkcfjbabaaa
