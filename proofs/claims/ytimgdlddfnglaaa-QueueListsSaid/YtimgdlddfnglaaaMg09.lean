/- Words for memory: a slice of things that reads as a graph's list. Plain words for layer 5's walks: strings that are tags, where a graph breaks off, a number appended. The reference's readers of a graph (bailiwickref05): Tag, Right, Over: what they answer of any list of things. -/
import Derived.Test.YtimgdlddfnglaaaMg02
import Derived.Test.YtimgdlddfnglaaaMg01
import Derived.LoopTactic
import Derived.Deep.QuietTactic
import Derived.BigQuiet
namespace Go.Proofs.Ytimgdlddfnglaaa
open Go.RowKit

/-- a thing as an element: three cells -/
def ETh : Elem Th := fun _ _ x vs => vs = [.int .i64 x.kind, .int .i64 x.up, .string x.tag] ∧ I64 x.kind ∧ I64 x.up ∧ x.tag.size ≤ maxLen
theorem eth_steady : Steady ETh := ⟨fun h _ _ => h⟩
/-- '.slice A n c' reads as the things g, all below block B -/
def RG (w : World) (B : Nat) (A : Option Addr) (n : Nat) (g : Gr) : Prop := RN ETh 3 w (Lt B) A n g
section
variable {w w' : World} {B n : Nat} {A : Option Addr} {g : Gr}
theorem RG.len (h : RG w B A n g) : g.length = n := h.1
theorem RG.nil : RG w B A 0 [] := RN.nil
theorem RG.next (h : RG w w.heap.size A n g) (hb : Below w.heap.size w w') : RG w' w'.heap.size A n g := RN.next eth_steady h hb
theorem RG.below (h : RG w B A n g) (hb : Below B w w') : RG w' B A n g := RN.below eth_steady h hb
theorem RG.drewN (h : RG w B A n g) (k : Nat) : RG (w.drewN k) B A n g := RN.drewN h eth_steady k
theorem RG.one (h : RG w B A n g) {k : Nat} (hk : k < n) : ∃ b off, A = some ⟨b, off, none⟩ ∧ b < B ∧ w.cell? ⟨b, off + k * 3, none⟩ = some (.int .i64 (gk g k)) ∧ w.cell? ⟨b, off + k * 3 + 1, none⟩ = some (.int .i64 (gu g k)) ∧ w.cell? ⟨b, off + k * 3 + 2, none⟩ = some (.string (gt g k)) ∧ (I64 (gk g k) ∧ I64 (gu g k) ∧ (gt g k).size ≤ maxLen) := by
  have hl : k < g.length := by rw [h.1]; exact hk
  obtain ⟨b, off, vs, e, hb, _, hc, hv⟩ := RN.at h (List.getElem?_eq_getElem hl)
  obtain ⟨hv', hb1⟩ := hv
  subst hv'
  have hg : g.getD k th0 = g[k] := by rw [List.getD, List.getElem?_eq_getElem hl]; rfl
  refine ⟨b, off, e, hb, ?_, ?_, ?_, by unfold gk gu gt; rw [hg]; exact hb1⟩
  · have := hc 0 _ rfl; unfold gk; rw [hg]; exact this
  · have := hc 1 _ rfl; unfold gu; rw [hg]; exact this
  · have := hc 2 _ rfl; unfold gt; rw [hg]; exact this
end

/-- the counts of five kinds, as an array's value -/
def kVal (g : Gr) (l : List Int) : Value := .agg #[.int .i64 (kc g l 0), .int .i64 (kc g l 1), .int .i64 (kc g l 2), .int .i64 (kc g l 3), .int .i64 (kc g l 4)]

end Go.Proofs.Ytimgdlddfnglaaa

namespace Go.Proofs.Ytimgdlddfnglaaa
open Go.RowKit

theorem bytes_snoc (s : ByteArray) (k : Nat) (h : k < s.size) : s.data.toList.take (k + 1) = s.data.toList.take k ++ [s[k]] := by
  rw [List.take_succ_eq_append_getElem (by simpa using h)]; rfl
theorem str_empty {s : ByteArray} (h : s.size = 0) : s = ⟨#[]⟩ := by
  apply ByteArray.ext
  exact Array.eq_empty_of_size_eq_zero h
theorem str_facts {s : ByteArray} (h : s.size ≠ 0) : (¬ s.toList = []) ∧ s.toList.isEmpty = false ∧ (s.toList == []) = false ∧ (s.toList != []) = true := by
  have h1 : ¬ s.toList = [] := fun e => h (by
    rw [ByteArray.toList_eq] at e
    have : s.data.toList.length = 0 := by rw [e]; rfl
    simpa using this)
  refine ⟨h1, ?_, ?_, ?_⟩
  · rw [← Bool.not_eq_true, List.isEmpty_iff]; exact h1
  · rw [← Bool.not_eq_true, beq_iff_eq]; exact h1
  · rw [bne_iff_ne]; exact h1
theorem tagB_size {s : ByteArray} (h : tagB s = true) : s.size ≤ 16 := by
  unfold tagB at h
  rw [Bool.and_eq_true, decide_eq_true_eq] at h
  exact h.2
theorem rightG_no {g : Gr} {i : Nat} (hi : i < g.length) (h : ¬ okT g i) : rightG g = false := by
  unfold rightG
  rw [decide_eq_false_iff_not]
  exact fun h' => h (h'.2.2 i hi)
theorem okT_zero (g : Gr) : okT g 0 ↔ gk g 0 = 0 ∧ gu g 0 = -1 ∧ (gt g 0).size = 0 := by unfold okT; rw [if_pos rfl]
theorem okT_pos {g : Gr} {i : Nat} (h : 0 < i) : okT g i ↔ 0 ≤ gu g i ∧ gu g i < i ∧ ((gt g i).size = 0 ∨ gk g i = 2) ∧ tagB (gt g i) = true ∧
      ((gk g i = 1 ∧ gk g (gu g i).toNat = 0) ∨ (gk g i = 2 ∧ gk g (gu g i).toNat < 2) ∨ ((gk g i = 3 ∨ gk g i = 4) ∧ gk g (gu g i).toNat = 2)) := by unfold okT; rw [if_neg (by omega)]
/-- one number more is appended -/
theorem wpList_append_EI {P : Program} {ops : Array Oper} {rest : List Oper} {o : Oper} {a : Act} {Q : Exit → Act → World → Prop} {w wr : World} {v : Value} {xs : List Int} (hgd : o.guard = none) (s x : Operand) (ty t : TypeId)
    (ho : o.op = .call { callee := .builtin .append, args := #[s, x], argTypes := #[ty, ty] })
    (h : ON EI 1 t w v xs wr) (i : TypeInfo) (ht : P.underlying ty = some (.slice t)) (hi : P.info? t = some i) (hz : i.zero = some (.int .i64 0)) (hsize : i.size = 1) (hby : i.bytes = 8)
    (hs : a.eval s = v) (x0 : Int) (hx : a.eval x = .slice (some ⟨wr.heap.size, 0, none⟩) 1 1) (hl : xs.length ≤ 1000)
    (hk : ∀ v' w', ON EI 1 t w v' (xs ++ [x0]) w' → wpList P ops Q rest (a.put o.dst v') w') : wpList P ops Q (o :: rest) a (wr.alloc (.cells #[.int .i64 x0] t)) :=
  wpList_append_ON hgd s x ty ho ei_steady h i (.int .i64 0) 8 ht hi hz hsize hby rfl (by decide) hs x0 #[.int .i64 x0] hx rfl (by intro u hu; simp at hu; subst hu; rfl) rfl (by unfold maxLen; omega) (by omega) hk

theorem wholeL_no {g : Gr} {l : List Int} (h : ¬ (rightG g = true ∧ rightB l = true ∧ ∀ x ∈ l, x < g.length)) : wholeL g l = [] := by
  unfold wholeL wholeOk
  rw [if_neg]
  intro h'
  rw [Bool.and_eq_true, Bool.and_eq_true, decide_eq_true_eq] at h'
  exact h ⟨h'.1.1, h'.1.2, h'.2⟩
theorem wholeL_yes {g : Gr} {l : List Int} (h1 : rightG g = true) (h2 : rightB l = true) (h3 : ∀ x ∈ l, x < g.length) : wholeL g l = numsF (anyOver g l) g.length := by
  unfold wholeL wholeOk
  rw [if_pos (by rw [h1, h2, decide_eq_true h3]; rfl)]
theorem right_lt_last {l : List Int} (h : rightB l = true) : ∀ (j i : Nat), i < j → j < l.length → l.getD i 0 < l.getD j 0 := by
  rw [rightB_iff] at h
  intro j
  induction j with
  | zero => intro i hi; omega
  | succ j ih =>
    intro i hi hj
    have := (h (j + 1) hj).2.2 (by omega)
    rw [Nat.add_sub_cancel] at this
    rcases Nat.lt_or_ge i j with h' | h'
    · have := ih i h' (by omega); omega
    · obtain rfl : i = j := by omega
      exact this
theorem all_lt_last {l : List Int} (h : rightB l = true) (hl : 0 < l.length) (N : Nat) : l.getD (l.length - 1) 0 < N → ∀ x ∈ l, x < N := by
  intro h1 x hx
  obtain ⟨i, hi, rfl⟩ := List.getElem_of_mem hx
  have e : l[i] = l.getD i 0 := by rw [List.getD, List.getElem?_eq_getElem hi]; rfl
  rw [e]
  rcases Nat.lt_or_ge i (l.length - 1) with h' | h'
  · have := right_lt_last h (l.length - 1) i h' (by omega); omega
  · obtain rfl : i = l.length - 1 := by omega
    exact h1
theorem anyOver_no {g : Gr} {l : List Int} {k : Nat} (h : ∀ i, i < l.length → overG g k (l.getD i 0).toNat = false) : anyOver g l k = false := by
  unfold anyOver
  rw [List.any_eq_false]
  intro x hx
  obtain ⟨i, hi, rfl⟩ := List.getElem_of_mem hx
  have := h i hi
  rw [List.getD, List.getElem?_eq_getElem hi] at this
  intro h'
  rw [show l[i] = (some l[i]).getD 0 from rfl, this] at h'
  cases h'

end Go.Proofs.Ytimgdlddfnglaaa

namespace Go.Proofs.Ytimgdlddfnglaaa
open Go.RowKit


set_option maxRecDepth 100000 in
set_option maxHeartbeats 2000000 in
theorem refTag_any (s : ByteArray) (w : World) (hs : s.size ≤ maxLen) :
    Calls Try.prog 59 #[.string s] w fun e w' => e = .returned (.bool (tagB s)) ∧ w = w' := by
  unfold maxLen at hs
  go_enter Try.func59, Try.ntmps59
  go_wp2
  go_loop [3] (fun i => ∃ k : Nat, k ≤ s.size ∧ i = .int .i64 k ∧ (s.data.toList.take k).all tagC = true) (fun i => s.size - (intOf i).toNat)
  case atStart => exact ⟨0, Nat.zero_le _, rfl, rfl⟩
  case round =>
    obtain ⟨k, hk, rfl, hpre⟩ := hrel
    have HP := Lib.hid hpre
    clear hpre
    by_cases hlt : k < s.size
    · have hs1 := Lib.hid (bytes_snoc s k hlt)
      have hno : Hid (tagC s[k] = false → tagB s = false) := Lib.hid (fun h => by
        unfold tagB
        have : s.data.toList.all tagC = false := by
          rw [List.all_eq_false]
          exact ⟨s[k], Array.getElem_mem_toList _, by rw [h]; simp⟩
        rw [this]; rfl)
      have hyes : Hid (tagC s[k] = true → (s.data.toList.take (k + 1)).all tagC = true) := Lib.hid (fun h => by rw [hs1.out, List.all_append, HP.out]; simp [h])
      have hC : Hid (tagC s[k] = ((97 ≤ s[k].toNat && s[k].toNat ≤ 122) || (48 ≤ s[k].toNat && s[k].toNat ≤ 57))) := Lib.hid rfl
      rcases (show s[k].toNat < 48 ∨ (48 ≤ s[k].toNat ∧ s[k].toNat ≤ 57) ∨ (57 < s[k].toNat ∧ s[k].toNat < 97) ∨ (97 ≤ s[k].toNat ∧ s[k].toNat ≤ 122) ∨ 122 < s[k].toNat by omega) with h | ⟨h, h'⟩ | ⟨h, h'⟩ | ⟨h, h'⟩ | h
      · have e1 := Lib.hid (hno.out (by rw [hC.out]; simp; omega))
        clear hno hyes hC hs1
        have d0 : decide (48 ≤ (s[k].toNat : Int)) = false := by simp; omega
        have d1 : decide ((s[k].toNat : Int) ≤ 57) = true := by simp; omega
        have d2 : decide (97 ≤ (s[k].toNat : Int)) = false := by simp; omega
        have d3 : decide ((s[k].toNat : Int) ≤ 122) = true := by simp; omega
        go_wp2
        go_ret
        exact ⟨ret_bool e1.out, rfl⟩
      · have e1 := Lib.hid (hyes.out (by rw [hC.out]; simp; omega))
        clear hno hyes hC hs1
        have d0 : decide (48 ≤ (s[k].toNat : Int)) = true := by simp; omega
        have d1 : decide ((s[k].toNat : Int) ≤ 57) = true := by simp; omega
        have d2 : decide (97 ≤ (s[k].toNat : Int)) = false := by simp; omega
        have d3 : decide ((s[k].toNat : Int) ≤ 122) = true := by simp; omega
        go_wp2
        go_round
        case rel => exact ⟨k + 1, by omega, by go_num, e1.out⟩
        case measure => simp [intOf]; omega
      · have e1 := Lib.hid (hno.out (by rw [hC.out]; simp; omega))
        clear hno hyes hC hs1
        have d0 : decide (48 ≤ (s[k].toNat : Int)) = true := by simp; omega
        have d1 : decide ((s[k].toNat : Int) ≤ 57) = false := by simp; omega
        have d2 : decide (97 ≤ (s[k].toNat : Int)) = false := by simp; omega
        have d3 : decide ((s[k].toNat : Int) ≤ 122) = true := by simp; omega
        go_wp2
        go_ret
        exact ⟨ret_bool e1.out, rfl⟩
      · have e1 := Lib.hid (hyes.out (by rw [hC.out]; simp; omega))
        clear hno hyes hC hs1
        have d0 : decide (48 ≤ (s[k].toNat : Int)) = true := by simp; omega
        have d1 : decide ((s[k].toNat : Int) ≤ 57) = false := by simp; omega
        have d2 : decide (97 ≤ (s[k].toNat : Int)) = true := by simp; omega
        have d3 : decide ((s[k].toNat : Int) ≤ 122) = true := by simp; omega
        go_wp2
        go_round
        case rel => exact ⟨k + 1, by omega, by go_num, e1.out⟩
        case measure => simp [intOf]; omega
      · have e1 := Lib.hid (hno.out (by rw [hC.out]; simp; omega))
        clear hno hyes hC hs1
        have d0 : decide (48 ≤ (s[k].toNat : Int)) = true := by simp; omega
        have d1 : decide ((s[k].toNat : Int) ≤ 57) = false := by simp; omega
        have d2 : decide (97 ≤ (s[k].toNat : Int)) = true := by simp; omega
        have d3 : decide ((s[k].toNat : Int) ≤ 122) = false := by simp; omega
        go_wp2
        go_ret
        exact ⟨ret_bool e1.out, rfl⟩
    · have hkn : k = s.size := by omega
      have hA : Hid (s.data.toList.all tagC = true) := Lib.hid (by have := HP.out; rwa [List.take_of_length_le (by simp; omega)] at this)
      by_cases h16 : s.size ≤ 16
      · have e1 : Hid (tagB s = true) := Lib.hid (by unfold tagB; rw [hA.out, decide_eq_true h16]; rfl)
        have h16d : decide ((s.size : Int) ≤ 16) = true := by simp; omega
        clear hkn
        go_wp2
        go_ret
        exact ⟨ret_bool e1.out, rfl⟩
      · have e1 : Hid (tagB s = false) := Lib.hid (by unfold tagB; rw [decide_eq_false h16, Bool.and_false])
        have h16d : decide ((s.size : Int) ≤ 16) = false := by simp; omega
        clear hkn
        go_wp2
        go_ret
        exact ⟨ret_bool e1.out, rfl⟩
theorem refTag_b {s : ByteArray} {w : World} {b : Bool} (hs : s.size ≤ maxLen) (h : tagB s = b) : Calls Try.prog 59 #[.string s] w fun e w' => e = .returned (.bool b) ∧ w = w' := by
  subst h; exact refTag_any s w hs



end Go.Proofs.Ytimgdlddfnglaaa
