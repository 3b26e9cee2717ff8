/- What a graph of things is, and what is over what, in plain words: chains of parents. No program's text is walked here. The program's busy and Busy of layer 10. The program's Add of layer 10. Written by gen/gen_heldpadd.py. -/
import Derived.Test.YtbiofikijehlcaaMg01
import Derived.Test.YtbiofikijehlcaaMg09
import Derived.Deep.RegionHeld3
namespace Go.Proofs.Ytbiofikijehlcaa

/-- a thing: its kind, what it is part of, its tag -/
structure Th where
  kind : Int
  up : Int
  tag : ByteArray
def th0 : Th := ⟨0, 0, ⟨#[]⟩⟩
abbrev Gr := List Th
def gk (g : Gr) (i : Nat) : Int := (g.getD i th0).kind
def gu (g : Gr) (i : Nat) : Int := (g.getD i th0).up
def gt (g : Gr) (i : Nat) : ByteArray := (g.getD i th0).tag

def tagC (c : UInt8) : Bool := (97 ≤ c.toNat && c.toNat ≤ 122) || (48 ≤ c.toNat && c.toNat ≤ 57)
def tagB (s : ByteArray) : Bool := s.data.toList.all tagC && decide (s.size ≤ 16)
/-- thing i stands where it may -/
def okT (g : Gr) (i : Nat) : Prop :=
  if i = 0 then gk g 0 = 0 ∧ gu g 0 = -1 ∧ (gt g 0).size = 0 else
    0 ≤ gu g i ∧ gu g i < i ∧ ((gt g i).size = 0 ∨ gk g i = 2) ∧ tagB (gt g i) = true ∧
      ((gk g i = 1 ∧ gk g (gu g i).toNat = 0) ∨ (gk g i = 2 ∧ gk g (gu g i).toNat < 2) ∨ ((gk g i = 3 ∨ gk g i = 4) ∧ gk g (gu g i).toNat = 2))
instance (g : Gr) (i : Nat) : Decidable (okT g i) := by unfold okT; infer_instance
def rightG (g : Gr) : Bool := decide (g ≠ [] ∧ g.length ≤ 256 ∧ ∀ i, i < g.length → okT g i)

/-- the parent's number -/
def par (g : Gr) (k : Nat) : Nat := (gu g k).toNat
/-- is n the thing k, or is k a part of it: up the chain, as far as n -/
def overF (g : Gr) (n : Nat) : Nat → Nat → Bool
  | 0, k => k == n
  | f + 1, k => if n < k then overF g n f (par g k) else k == n
def overG (g : Gr) (n k : Nat) : Bool := overF g n k k

structure RightG (g : Gr) : Prop where
  pos : 0 < g.length
  few : g.length ≤ 256
  top : gk g 0 = 0 ∧ gu g 0 = -1
  up : ∀ i, 0 < i → i < g.length → 0 ≤ gu g i ∧ par g i < i
  kind : ∀ i, 0 < i → i < g.length → (gk g i = 1 ∧ gk g (par g i) = 0) ∨ (gk g i = 2 ∧ gk g (par g i) < 2) ∨ ((gk g i = 3 ∨ gk g i = 4) ∧ gk g (par g i) = 2)
theorem rightG_is {g : Gr} (h : rightG g = true) : RightG g := by
  unfold rightG at h
  rw [decide_eq_true_eq] at h
  obtain ⟨h1, h2, h3⟩ := h
  have h0 := h3 0 (List.length_pos_iff.2 h1)
  unfold okT at h0
  rw [if_pos rfl] at h0
  refine ⟨List.length_pos_iff.2 h1, h2, ⟨h0.1, h0.2.1⟩, fun i hi hl => ?_, fun i hi hl => ?_⟩
  all_goals
    have := h3 i hl
    unfold okT at this
    rw [if_neg (by omega)] at this
  · unfold par; omega
  · exact this.2.2.2.2
section
variable {g : Gr} (hg : RightG g) {n k m : Nat}
include hg
theorem RightG.kinds (hk : k < g.length) : 0 ≤ gk g k ∧ gk g k ≤ 4 := by
  rcases Nat.eq_zero_or_pos k with h | h
  · subst h; have := hg.top.1; omega
  · rcases hg.kind k h hk with h | h | h <;> omega
/-- more steps than are needed change nothing -/
theorem overF_more : ∀ (f : Nat) (k : Nat), k < g.length → k ≤ f → overF g n f k = overF g n k k := by
  have hg' := hg
  intro f
  induction f using Nat.strongRecOn with
  | _ f ih =>
    intro k hk hf
    rcases Nat.eq_zero_or_pos k with h | h
    · subst h
      cases f with
      | zero => rfl
      | succ f => show (if n < 0 then _ else (0 == n)) = (0 == n); rw [if_neg (by omega)]
    · obtain ⟨f', rfl⟩ : ∃ f', f = f' + 1 := ⟨f - 1, by omega⟩
      obtain ⟨k', rfl⟩ : ∃ k', k = k' + 1 := ⟨k - 1, by omega⟩
      have hp := (hg.up (k' + 1) (by omega) hk).2
      show (if n < k' + 1 then overF g n f' (par g (k' + 1)) else _) = (if n < k' + 1 then overF g n k' (par g (k' + 1)) else _)
      split
      · rw [ih f' (by omega) _ (by omega) (by omega)]
        by_cases hkf : k' = f'
        · subst hkf; rw [ih k' (by omega) _ (by omega) (by omega)]
        · rw [ih k' (by omega) _ (by omega) (by omega)]
      · rfl
/-- up one step -/
theorem over_up (hk : k < g.length) (h : n < k) : overG g n k = overG g n (par g k) := by
  have hp := (hg.up k (by omega) hk).2
  obtain ⟨k', rfl⟩ : ∃ k', k = k' + 1 := ⟨k - 1, by omega⟩
  show (if n < k' + 1 then overF g n k' (par g (k' + 1)) else _) = _
  rw [if_pos h]
  exact overF_more hg k' (par g (k' + 1)) (by omega) (by omega)
omit hg in
theorem over_end (h : ¬ n < k) : overG g n k = (k == n) := by
  unfold overG
  cases k with
  | zero => rfl
  | succ k => show (if n < k + 1 then _ else _) = _; rw [if_neg h]
omit hg in
theorem over_self : overG g n n = true := by rw [over_end (by omega)]; simp
omit hg in
theorem over_le (h : overG g n k = true) : n ≤ k := by
  by_cases hnk : n < k
  · omega
  · rw [over_end hnk] at h; simp at h; omega
theorem over_zero : ∀ (k : Nat), k < g.length → overG g 0 k = true := by
  intro k
  induction k using Nat.strongRecOn with
  | _ k ih =>
    intro hk
    rcases Nat.eq_zero_or_pos k with h | h
    · subst h; exact over_self
    · rw [over_up hg hk h]
      have := (hg.up k h hk).2
      exact ih _ this (by omega)
/-- what is part of a part is a part -/
theorem over_trans : ∀ (k : Nat), k < g.length → overG g m k = true → overG g n m = true → overG g n k = true := by
  intro k
  induction k using Nat.strongRecOn with
  | _ k ih =>
    intro hk h1 h2
    by_cases hmk : m < k
    · have hp := (hg.up k (by omega) hk).2
      rw [over_up hg hk hmk] at h1
      have hnm := over_le h2
      have hmp := over_le h1
      rw [over_up hg hk (by omega)]
      exact ih _ hp (by omega) h1 h2
    · rw [over_end hmk] at h1
      simp at h1
      subst h1
      exact h2
/-- of two that are over one thing, one is over the other -/
theorem over_chain : ∀ (k : Nat), k < g.length → overG g n k = true → overG g m k = true → n ≤ m → overG g n m = true := by
  intro k
  induction k using Nat.strongRecOn with
  | _ k ih =>
    intro hk h1 h2 hnm
    by_cases hmk : m < k
    · have hp := (hg.up k (by omega) hk).2
      rw [over_up hg hk hmk] at h2
      rw [over_up hg hk (by omega)] at h1
      exact ih _ hp (by omega) h1 h2 hnm
    · rw [over_end hmk] at h2
      simp at h2
      subst h2
      exact h1
end

/-! sets of things -/
def numsF (p : Nat → Bool) (n : Nat) : List Int := ((List.range n).filter p).map Int.ofNat
theorem mem_numsF {p : Nat → Bool} {n : Nat} {x : Int} : x ∈ numsF p n ↔ ∃ k : Nat, k < n ∧ p k = true ∧ x = k := by
  unfold numsF
  rw [List.mem_map]
  constructor
  · rintro ⟨k, hk, rfl⟩
    rw [List.mem_filter, List.mem_range] at hk
    exact ⟨k, hk.1, hk.2, rfl⟩
  · rintro ⟨k, hk, hp, rfl⟩
    exact ⟨k, by rw [List.mem_filter, List.mem_range]; exact ⟨hk, hp⟩, rfl⟩
theorem mem_numsF_nat {p : Nat → Bool} {n k : Nat} : (k : Int) ∈ numsF p n ↔ k < n ∧ p k = true := by
  rw [mem_numsF]
  constructor
  · rintro ⟨j, h1, h2, h3⟩
    obtain rfl : k = j := by omega
    exact ⟨h1, h2⟩
  · rintro ⟨h1, h2⟩
    exact ⟨k, h1, h2, rfl⟩
theorem numsF_succ (p : Nat → Bool) (n : Nat) : numsF p (n + 1) = numsF p n ++ (if p n = true then [(n : Int)] else []) := by
  unfold numsF
  rw [List.range_succ, List.filter_append, List.map_append]
  congr 1
  by_cases h : p n = true
  · rw [if_pos h]; simp [h]
  · rw [if_neg h]; simp [h]
theorem numsF_yes {p : Nat → Bool} {n : Nat} (h : p n = true) : numsF p (n + 1) = numsF p n ++ [(n : Int)] := by rw [numsF_succ, if_pos h]
theorem numsF_no {p : Nat → Bool} {n : Nat} (h : p n = false) : numsF p (n + 1) = numsF p n := by rw [numsF_succ, if_neg (by rw [h]; simp), List.append_nil]
theorem numsF_len (p : Nat → Bool) (n : Nat) : (numsF p n).length ≤ n := by
  unfold numsF
  rw [List.length_map]
  have := List.length_filter_le p (List.range n)
  rw [List.length_range] at this
  exact this
theorem numsF_pick (p : Nat → Bool) (n : Nat) : ∀ (_ : n ≤ 256), numsF p n = pickN (fun x => decide (0 ≤ x) && p x.toNat) 0 n := by
  intro hn
  induction n with
  | zero => rfl
  | succ n ih =>
    rw [numsF_succ, pickN_snoc, ih (by omega)]
    simp
theorem numsF_right (p : Nat → Bool) {n : Nat} (hn : n ≤ 256) : rightB (numsF p n) = true := by
  rw [numsF_pick p n hn]; exact right_pickN _ n 0 (by omega)
theorem numsF_ext {p q : Nat → Bool} {n : Nat} (h : ∀ k, k < n → p k = q k) : numsF p n = numsF q n := by
  unfold numsF
  congr 1
  exact List.filter_congr fun k hk => h k (List.mem_range.1 hk)

/-- thing n and all that is part of it; n and what it is part of -/
def underL (g : Gr) (n : Int) : List Int := if rightG g = true ∧ 0 ≤ n ∧ n < g.length then numsF (overG g n.toNat) g.length else []
def aboveL (g : Gr) (n : Int) : List Int := if rightG g = true ∧ 0 ≤ n ∧ n < g.length then numsF (fun k => overG g k n.toNat) (n.toNat + 1) else []
def nodeG (g : Gr) (n : Int) : Int :=
  if rightG g = true ∧ 0 ≤ n ∧ n < g.length then (if gk g n.toNat = 2 then n else if 2 < gk g n.toNat then gu g n.toNat else -1) else -1
def nodesL (g : Gr) : List Int := if rightG g = true then numsF (fun k => gk g k == 2) g.length else []
/-- how many of the first n things are in the set and of this kind -/
def cntK (g : Gr) (l : List Int) (c : Int) (n : Nat) : Nat := ((List.range n).filter fun k : Nat => hasB l (k : Int) && gk g k == c).length
def kc (g : Gr) (l : List Int) (c : Int) : Int := if rightG g = true then (cntK g l c g.length : Int) else 0
theorem cntK_succ (g : Gr) (l : List Int) (c : Int) (n : Nat) : cntK g l c (n + 1) = cntK g l c n + (if hasB l n = true ∧ gk g n = c then 1 else 0) := by
  unfold cntK
  rw [List.range_succ, List.filter_append, List.length_append]
  congr 1
  by_cases h : hasB l n = true ∧ gk g n = c
  · rw [if_pos h]; simp [h.1, h.2]
  · rw [if_neg h]
    rw [List.filter_eq_nil_iff.2]
    · rfl
    · intro x hx
      simp at hx
      subst hx
      intro h'
      rw [Bool.and_eq_true, beq_iff_eq] at h'
      exact h h'
theorem cntK_le (g : Gr) (l : List Int) (c : Int) (n : Nat) : cntK g l c n ≤ n := by
  unfold cntK
  have := List.length_filter_le (fun k : Nat => hasB l (k : Int) && gk g k == c) (List.range n)
  rw [List.length_range] at this
  exact this
/-- is a thing above one of the set? -/
def anyOver (g : Gr) (l : List Int) (n : Nat) : Bool := l.any fun x => overG g n x.toNat
def wholeOk (g : Gr) (l : List Int) : Bool := rightG g && rightB l && decide (∀ x ∈ l, x < g.length)
def wholeL (g : Gr) (l : List Int) : List Int := if wholeOk g l = true then numsF (anyOver g l) g.length else []

end Go.Proofs.Ytbiofikijehlcaa

namespace Go.Proofs.Ytbiofikijehlcaa
open Go.RowKit

theorem append_EI {P : Program} {ops : Array Oper} {rest : List Oper} {o : Oper} {a : Act} {Q : Exit → Act → World → Prop} {w wr : World} {v : Value} {xs : List Int} (hgd : o.guard = none) (s x : Operand) (ty t : TypeId)
    (ho : o.op = .call { callee := .builtin .append, args := #[s, x], argTypes := #[ty, ty] })
    (h : ON EI 1 t w v xs wr) (i : TypeInfo) (ht : P.underlying ty = some (.slice t)) (hi : P.info? t = some i) (hz : i.zero = some (.int .i64 0)) (hsize : i.size = 1) (hby : i.bytes = 8)
    (hs : a.eval s = v) (x0 : Int) (hx : a.eval x = .slice (some ⟨wr.heap.size, 0, none⟩) 1 1) (hl : xs.length ≤ 1000)
    (hk : ∀ v' w', ON EI 1 t w v' (xs ++ [x0]) w' → wpList P ops Q rest (a.put o.dst v') w') : wpList P ops Q (o :: rest) a (wr.alloc (.cells #[.int .i64 x0] t)) :=
  wpList_append_ON hgd s x ty ho ei_steady h i (.int .i64 0) 8 ht hi hz hsize hby rfl (by decide) hs x0 #[.int .i64 x0] hx rfl (by intro u hu; simp at hu; subst hu; rfl) rfl (by unfold maxLen; omega) (by omega) hk
theorem EH.things {w : World} {ok : Nat → Prop} {x : Hd} {A : Option Addr} {m c : Nat} {a b d : Value} (h : EH w ok x [a, .slice A m c, b, d]) : RN EI 1 w ok A m x.things := by
  obtain ⟨A', m', c', hv, hr, _⟩ := h
  injection hv with _ hv
  injection hv with hv _
  injection hv with e1 e2 e3
  subst e1 e2 e3
  exact hr
theorem busyP_succ {l : Tb} {k : Nat} (hk : k < l.length) (a b n : Int) : busyP (l.take (k + 1)) a b n = (busyP (l.take k) a b n || (meetsZ (l.getD k hd0).frm (l.getD k hd0).to a b && (l.getD k hd0).things.contains n)) := by
  unfold busyP
  rw [List.take_succ_eq_append_getElem hk, List.any_append, getD_at hk]
  simp
theorem take_contains {xs : List Int} {j : Nat} (hj : j < xs.length) (n : Int) : (xs.take (j + 1)).contains n = ((xs.take j).contains n || (n == xs.getD j 0)) := by
  rw [List.take_succ_eq_append_getElem hj, z_at hj, Bool.eq_iff_iff, Bool.or_eq_true, List.contains_iff_mem, List.contains_iff_mem, List.mem_append, List.mem_singleton, beq_iff_eq]
theorem busy_list {l : Tb} (hr : rightT l = true) (a b : Int) : numsF (fun i => busyP l a b (i : Int)) 256 = busyT l a b := by
  unfold busyT pickL
  rw [if_pos hr, numsF_pick _ _ (Nat.le_refl _)]
  refine right_ext (right_pickL (fun x => decide (0 ≤ x) && busyP l a b (x.toNat : Int))) (right_pickL (busyP l a b)) fun n => ?_
  show n ∈ pickL _ ↔ n ∈ pickL _
  rw [mem_pickL, mem_pickL]
  constructor
  · rintro ⟨h1, h2, h3⟩
    rw [Bool.and_eq_true, decide_eq_true_eq] at h3
    rw [Int.toNat_of_nonneg h1] at h3
    exact ⟨h1, h2, h3.2⟩
  · rintro ⟨h1, h2, h3⟩
    refine ⟨h1, h2, ?_⟩
    rw [Bool.and_eq_true, decide_eq_true_eq, Int.toNat_of_nonneg h1]
    exact ⟨h1, h3⟩

set_option maxRecDepth 100000 in
set_option maxHeartbeats 8000000 in
theorem busy_any (A : Option Addr) (n c : Nat) (l : Tb) (a b : Int) (w : World) (hr : RT w w.heap.size A n l) (hf : FewT l) (hrt : rightT l = true) :
    Calls Try.prog 30 #[.slice A n c, .int .i64 a, .int .i64 b] w (IPost (busyT l a b) w) := by
  obtain ⟨i0, hi0, hz0, hz1, hz2⟩ := info_parts int_info
  have HL := Lib.hid hr.len
  have HR := Lib.hid hr
  have hn : n ≤ 100 := by rw [← hr.len]; exact hf.1
  have HF := Lib.hid hf
  have HRT := Lib.hid (rightT_is.1 hrt)
  have HE := Lib.hid (busy_list hrt a b)
  rw [← HE.out]
  obtain ⟨p, hp⟩ : ∃ p : Nat → Bool, (fun i : Nat => busyP l a b (i : Int)) = p := ⟨_, rfl⟩
  have HP : Hid (∀ i : Nat, p i = busyP l a b (i : Int)) := Lib.hid (fun i => by rw [← hp])
  rw [hp]
  clear hr hf hrt hp
  go_enter Try.func30, Try.ntmps30
  go_wp2_with (with_reducible refine wpList_alloc_marks rfl rfl ?_; intro w2 hm; refine Hid.out ?_)
  refine Lib.hid ?_
  have HM2 := Lib.hid hm
  clear hm
  go_wp2
  go_loopw [17] (fun i wr => ∃ k : Nat, k ≤ n ∧ i = .int .i64 k ∧ Marks w (fun i => busyP (l.take k) a b (i : Int)) wr) (fun i _ => n - (intOf i).toNat)
  case atStart => exact ⟨0, Nat.zero_le _, rfl, HM2.out.ext (fun k _ => by simp [busyP])⟩
  case round =>
    obtain ⟨k, hk, rfl, hm⟩ := hrel
    have HM := Lib.hid hm
    clear hm
    by_cases hlt : k < n
    · have hkl : k < l.length := by rw [HL.out]; exact hlt
      obtain ⟨b1, off, A2, m2, c2, rfl, hbl, c0, c1, c2', c3, hel⟩ := RT.el (HR.out.below HM.out.bel) hlt
      have hx := RN.ri (hel.things.keep ei_steady (fun b hb => (HM.out.bel.block b hb).symm) (fun _ h => h))
      have hsucc := busyP_succ hkl a b
      have hxm := HRT.out.may _ (List.getElem_mem hkl)
      rw [← getD_at hkl] at hxm
      obtain ⟨x, hxx⟩ : ∃ x, l.getD k hd0 = x := ⟨_, rfl⟩
      rw [hxx] at c0 c2' c3 hx hsucc hxm hel
      have HSU := Lib.hid hsucc
      have HXM := Lib.hid hxm
      have hm100 : m2 ≤ 100 := by have := HF.out.at hkl; rw [hxx] at this; have := hx.1; omega
      have hba : Below wr.heap.size wr (wr.alloc (hO x A2 m2 c2)) := (Below.refl _ _).alloc (Nat.le_refl _) _
      have HX : Hid (RI w w.heap.size A2 m2 x.things) := Lib.hid hx
      have HMa := Lib.hid (HM.out.next hba)
      have HBX : Hid (BoxH (wr.alloc (hO x A2 m2 c2)) wr.heap.size x A2 m2 c2) := Lib.hid (boxH_new wr x A2 m2 c2)
      unfold hO at HMa HBX
      obtain ⟨Wa, hWa⟩ : ∃ Wa, wr.alloc (.cells #[.int .i64 x.id, .slice A2 m2 c2, .int .i64 x.frm, .int .i64 x.to] 36) = Wa := ⟨_, rfl⟩
      rw [hWa] at HMa HBX
      have q2 := HBX.out.c2
      have q3 := HBX.out.c3
      clear hx hel hxx hba hbl hsucc hxm hkl HM
      cases hme : meetsZ x.frm x.to a b with
      | false =>
        have EM := Lib.hid hme
        go_wp2_with (simp only [hWa])
        clear hWa c0 c1 c2' c3
        refine (meets_any EM.out).mono ?_
        rintro e w5 ⟨rfl, hb⟩
        have HM5 := Lib.hid (HMa.out.next hb)
        clear hb q2 q3
        go_wp2
        go_roundw
        case rel => exact ⟨k + 1, by omega, by go_num, HM5.out.ext (fun i _ => by rw [HSU.out, EM.out, Bool.false_and, Bool.or_false])⟩
        case measure => simp [intOf]; omega
      | true =>
        have EM := Lib.hid hme
        go_wp2_with (simp only [hWa])
        clear hWa c0 c1 c2' c3
        refine (meets_any EM.out).mono ?_
        rintro e w5 ⟨rfl, hb⟩
        have HM5 := Lib.hid (HMa.out.next hb)
        have HBX5 := Lib.hid (HBX.out.next hb)
        clear hb q2 q3
        have q1 := HBX5.out.c1
        go_wp2
        clear q1
        go_loopw [32] (fun i wq => ∃ j : Nat, j ≤ m2 ∧ i = .int .i64 j ∧ Marks w (fun i => busyP (l.take k) a b (i : Int) || (x.things.take j).contains (i : Int)) wq) (fun i _ => m2 - (intOf i).toNat)
        case atStart => exact ⟨0, Nat.zero_le _, rfl, HM5.out.ext (fun i _ => by simp)⟩
        case round =>
          obtain ⟨j, hj, rfl, hm⟩ := hrel
          have HMq := Lib.hid hm
          clear hm
          by_cases hltj : j < m2
          · have hjl : j < x.things.length := by rw [HX.out.1]; exact hltj
            obtain ⟨b2, o2, rfl, _, hcy⟩ := (HX.out.below HMq.out.bel).one hltj
            have hym := right_mem HXM.out.2.1 _ (z_mem hjl)
            have htc := take_contains hjl
            obtain ⟨y, hy⟩ : ∃ y, x.things.getD j 0 = y := ⟨_, rfl⟩
            rw [hy] at hcy hym htc
            obtain ⟨q, rfl⟩ : ∃ q : Nat, y = (q : Int) := ⟨y.toNat, by omega⟩
            have hq256 : q < 256 := by omega
            have hqz : (q : Int) < 256 := by omega
            have HTC := Lib.hid htc
            have ht := HMq.out.cell hq256
            have hz := HMq.out.frozen q
            have HMN : Hid (Marks w (fun i => busyP (l.take k) a b (i : Int) || (x.things.take (j + 1)).contains (i : Int)) (wr.setCell ⟨w.heap.size, q, none⟩ (.bool true))) := Lib.hid ((HMq.out.set true).ext (fun i _ => by
              rw [HTC.out]
              by_cases e : i = q
              · subst e; rw [mset_same]; simp
              · rw [mset_other _ _ e, show ((i : Int) == (q : Int)) = false from beq_eq_false_iff_ne.2 (by omega), Bool.or_false]))
            clear hy hym htc hjl
            go_wp2
            go_roundw
            case rel => exact ⟨j + 1, by omega, by go_num, HMN.out⟩
            case measure => simp [intOf]; omega
          · have hjm : j = m2 := by omega
            have HFIN : Hid (Marks w (fun i => busyP (l.take (k + 1)) a b (i : Int)) wr) := Lib.hid (HMq.out.ext (fun i _ => by rw [HSU.out, EM.out, Bool.true_and, List.take_of_length_le (l := x.things) (by rw [HX.out.1]; omega)]))
            go_wp2
            go_roundw
            case rel => exact ⟨k + 1, by omega, by go_num, HFIN.out⟩
            case measure => simp [intOf]; omega
    · have hkn : k = n := by omega
      have HM1 : Hid (Marks w p wr) := Lib.hid (HM.out.ext (fun i _ => by rw [HP.out, List.take_of_length_le (by rw [HL.out]; omega)]))
      have HB1 := Lib.hid HM1.out.bel
      clear HM
      go_wp2_with (with_reducible refine wpList_load_marks rfl _ rfl HM1.out rfl ?_; refine Hid.out ?_)
      refine Lib.hid ?_
      go_wp2
      obtain ⟨wm, hwm⟩ : ∃ wm, wr = wm := ⟨_, rfl⟩
      subst hwm
      go_loopw [12, 41] (fun v i wx => ∃ k : Nat, k ≤ 256 ∧ i = .int .i64 k ∧ ON EI 1 3 wr v (numsF p k) wx) (fun _ i _ => 256 - (intOf i).toNat)
      case atStart => exact ⟨0, Nat.zero_le _, rfl, ON.nil _⟩
      case round =>
        obtain ⟨k, hk, rfl, hf⟩ := hrel
        have HO := Lib.hid hf
        clear hf
        by_cases hlt : k < 256
        · have hlen : Hid ((numsF p k).length ≤ 1000) := Lib.hid (by have := numsF_len p k; omega)
          have hix := run_ix_marks p hlt
          cases hp : p k with
          | true =>
            have HS := Lib.hid (numsF_yes hp)
            rw [hp] at hix
            clear hp
            go_wp2_with (at_builtin; refine append_EI rfl (.tmp 46) (.tmp 48) 28 3 rfl HO.out i0 Try.underlying28 hi0 hz0 hz1 hz2 rfl _ rfl hlen.out ?_; intro v' w4 hON4; refine Hid.out ?_)
            refine Lib.hid ?_
            have HO4 := Lib.hid hON4
            clear hON4 hix
            go_wp2
            go_roundw
            case rel => exact ⟨k + 1, by omega, by go_num, by rw [HS.out]; exact HO4.out⟩
            case measure => simp [intOf]; omega
          | false =>
            have HS := Lib.hid (numsF_no hp)
            rw [hp] at hix
            clear hp
            go_wp2
            go_roundw
            case rel => exact ⟨k + 1, by omega, by go_num, by rw [HS.out]; exact HO.out⟩
            case measure => simp [intOf]; omega
        · have hkn : k = 256 := by omega
          subst hkn
          go_wp2
          go_ret
          exact HO.out.ipost.trans HB1.out

end Go.Proofs.Ytbiofikijehlcaa

namespace Go.Proofs.Ytbiofikijehlcaa
open Go.RowKit

theorem keep_cellH {w wx : World} {p : Addr} {v : Value} (hl : p.block < w.heap.size) (h : w.cell? p = some v) (hb : Below w.heap.size w wx) : wx.cell? p = some v := (hb.cell hl).trans h
theorem bel_drewH (w : World) : Below w.heap.size w w.drew := bel_drew w 1
/-- a row of holdings of one's own, carried from world to world -/
def ONH (w : World) (v : Value) (l : Tb) (wr : World) : Prop := ON EH 4 36 w v l wr
theorem ONH.next {w wr w1 : World} {v : Value} {l : Tb} (h : ONH w v l wr) (hb : Below wr.heap.size wr w1) : ONH w v l w1 := ON.next eh_steady h hb
theorem onh_post {W w wr : World} {A : Option Addr} {n c : Nat} {l : Tb} {er : Int} (h : ONH W (.slice A n c) l wr) (hb : Below w.heap.size w wr) : TEPost l er w (.returned (.tuple #[.slice A n c, .int .i64 er])) wr := by
  obtain ⟨A', c', e, h1, h2⟩ := ON.form h
  injection e with e1 e2 e3
  subst e1 e2 e3
  exact tepost_mk (ON.reads eh_steady (by omega) h rfl) h1 h2 hb
set_option maxHeartbeats 4000000 in
set_option maxRecDepth 100000 in
/-- into no row at all -/
theorem insertH_none {base vb : Nat} {v0 v1 v2 v3 : Value} {w : World} (hb : base ≤ w.heap.size)
    (hv : w.heap[vb]? = some (.cells #[v0, v1, v2, v3] 36 (0, 0))) (h4 : ∀ u ∈ ([v0, v1, v2, v3] : List Value), u.oneCell' = true) :
    Calls Try.prog 38 #[.slice none 0 0, .int .i64 0, .slice (some ⟨vb, 0, none⟩) 1 1] w (InsQ base 1 [v0, v1, v2, v3] (.slice none 0 0) w) := by
  obtain ⟨i0, hi0, hz0, hz1, hz2⟩ : ∃ i, Try.prog.info? 36 = some i ∧ i.zero = some (.agg #[.int .i64 0, .slice none 0 0, .int .i64 0, .int .i64 0]) ∧ i.size = 4 ∧ i.bytes = 48 := info_parts held_info
  have HO : Hid (w.ownsRow base 36 4 (.slice none 0 0) 0 []) := Lib.hid (by simpa using World.ownsRow_nil w base 36 4)
  have HV := Lib.hid hv
  have H4 := Lib.hid h4
  have HBB := Lib.hid hb
  clear hv h4 hb
  go_enter Try.func38, Try.ntmps38
  go_wp2_with (at_builtin; refine wpList_append_lies _ rfl _ _ 22 rfl base 36 i0 (.agg #[.int .i64 0, .slice none 0 0, .int .i64 0, .int .i64 0]) 4 48 Try.underlying22 hi0 hz0 hz1 hz2 rfl (by decide) (.slice none 0 0) 0 _ rfl HO.out ⟨vb, 0, none⟩ 1 1 [v0, v1, v2, v3] rfl rfl (World.news_of_block HV.out) H4.out (by omega) (by unfold maxLen; omega) (by omega) HBB.out _ rfl ?_; intro g' cap' w1 hown' hgrow hat _; refine Hid.out ?_)
  all_goals refine Lib.hid ?_
  all_goals have R := Lib.hid hown'
  all_goals have HB : Hid (Below base w w1) := Lib.hid ((Below.refl _ _).grown hgrow HBB.out (fun k hk => by cases hk))
  all_goals have HK : Hid (Keeps w (.slice none 0 0) w1 (.slice (some ⟨g', 0, none⟩) 1 cap')) := Lib.hid ⟨fun b hb hne => hgrow.block b hb (fun e => hne e.symm), hgrow.size, hat.imp (fun e => e.symm) (fun e b hb => by
      have hb' : g' = b := by simpa [Value.ownBlock] using hb
      rw [← hb', e]; exact Nat.le_refl _)⟩
  all_goals clear hown' hgrow hat
  all_goals go_wp2
  all_goals go_ret
  all_goals exact ⟨_, rfl, R.out, HB.out, HK.out⟩
theorem insertH_all (base i vb n : Nat) (A : Option Addr) (c : Nat) (fl : List Value) (v0 v1 v2 v3 : Value) (w : World) (hi : i ≤ n) (hn : n ≤ 3000) (hb : base ≤ w.heap.size) (hown : w.ownsRow base 36 4 (.slice A n c) n fl) (h1c : ∀ u ∈ fl, u.oneCell' = true)
    (hv : w.heap[vb]? = some (.cells #[v0, v1, v2, v3] 36 (0, 0))) (h41 : ∀ u ∈ ([v0, v1, v2, v3] : List Value), u.oneCell' = true) (hne : ∀ g, A = some ⟨g, 0, none⟩ → vb ≠ g) :
    Calls Try.prog 38 #[.slice A n c, .int .i64 i, .slice (some ⟨vb, 0, none⟩) 1 1] w (InsQ base (n + 1) (fl.take (i * 4) ++ ([v0, v1, v2, v3] ++ fl.drop (i * 4))) (.slice A n c) w) := by
  rcases Nat.eq_zero_or_pos n with h0 | h0
  · subst h0
    obtain rfl : i = 0 := by omega
    have hfl : fl = [] := List.eq_nil_of_length_eq_zero (by have := hown.1; omega)
    subst hfl
    rcases id hown.2 with ⟨e, _⟩ | ⟨g, cap, cur, e, _⟩
    · injection e with e1 _ e3
      subst e1 e3
      exact insertH_none hb hv h41
    · injection e with e1 _ e3
      subst e1 e3
      exact insertH_end (fl := []) (by omega) hown hv h41
  · exact insertH_any base i vb n A c fl v0 v1 v2 v3 w h0 hi hn hown h1c hv h41 hne
theorem four_one (h : Hd) (A : Option Addr) (m c : Nat) : ∀ u ∈ ([.int .i64 h.id, .slice A m c, .int .i64 h.frm, .int .i64 h.to] : List Value), u.oneCell' = true := by
  intro u hu
  simp at hu
  rcases hu with rfl | rfl | rfl | rfl <;> rfl
/-- a holding more in a table of one's own -/
theorem insertH_on {W wr : World} {A : Option Addr} {n c K : Nat} {l : Tb} {h : Hd} {A5 : Option Addr} {m c5 : Nat} (hO : ONH W (.slice A n c) l wr) (hn : n ≤ 3000) (hln : l.length = n) (hK : K ≤ n) (hh : EH wr (fun b => b < wr.heap.size ∧ (Value.slice A n c).ownBlock ≠ some b) h [.int .i64 h.id, .slice A5 m c5, .int .i64 h.frm, .int .i64 h.to]) :
    Calls Try.prog 38 #[.slice A n c, .int .i64 K, .slice (some ⟨wr.heap.size, 0, none⟩) 1 1] (wr.alloc (.cells #[.int .i64 h.id, .slice A5 m c5, .int .i64 h.frm, .int .i64 h.to] 36)) fun e w' => ∃ v', e = .returned v' ∧ ONH W v' (l.take K ++ h :: l.drop K) w' := by
  have hba : Below wr.heap.size wr (wr.alloc (.cells #[.int .i64 h.id, .slice A5 m c5, .int .i64 h.frm, .int .i64 h.to] 36)) := (Below.refl _ _).alloc (Nat.le_refl _) _
  have hO1 := hO.next hba
  obtain ⟨fl, f1, f2, f3⟩ := id hO1
  have hfl := f1.1
  have hWs : W.heap.size ≤ wr.heap.size := (ON.below hO).size
  rw [hln] at f1
  refine (insertH_all W.heap.size K wr.heap.size n A c fl _ _ _ _ _ hK hn (by simp; omega) f1 (flat_one hfl f3) (heap_alloc_new wr _) (four_one h A5 m c5) (fun g e => ?_)).mono ?_
  · subst e
    obtain ⟨_, h1, _⟩ := id hO
    have := (h1.lt g rfl).2
    omega
  · rintro e w7 ⟨v', rfl, h1, h2, h3⟩
    refine ⟨v', rfl, ins_on f2 h1 h2 h3 (by simp [hln]; omega) (ins_cells (ok := fun b => b < (wr.alloc (.cells #[.int .i64 h.id, .slice A5 m c5, .int .i64 h.frm, .int .i64 h.to] 36)).heap.size ∧ (Value.slice A n c).ownBlock ≠ some b) hfl (by omega) f3 (eh_steady.keep hh (fun b hb => hba.block b hb.1) (fun b hb => ⟨Nat.lt_of_lt_of_le hb.1 hba.size, hb.2⟩)))⟩
theorem busyT_len (l : Tb) (a b : Int) : (busyT l a b).length ≤ 256 := by
  unfold busyT
  split
  · exact length_pickL _
  · exact Nat.zero_le _
theorem apart_comm (a b : List Int) : apartB a b = apartB b a := by
  unfold apartB
  rw [Bool.eq_iff_iff]
  simp only [Bool.and_eq_true, List.all_eq_true, Bool.not_eq_true', ← Bool.not_eq_true, List.contains_iff_mem]
  exact ⟨fun ⟨⟨h1, h2⟩, h3⟩ => ⟨⟨h2, h1⟩, fun n hn hm => h3 n hm hn⟩, fun ⟨⟨h1, h2⟩, h3⟩ => ⟨⟨h2, h1⟩, fun n hn hm => h3 n hm hn⟩⟩

set_option maxRecDepth 100000 in
set_option maxHeartbeats 8000000 in
theorem heldAdd_1 (A : Option Addr) (n c : Nat) (l : Tb) (A2 : Option Addr) (m c2 : Nat) (h : Hd) (w : World) (hl : TAsk w A n c l) (hf : FewT l) (hh : HAsk w A2 m c2 h) (_ : m ≤ 100) (h1 : rightT l = false) :
    Calls Try.prog 21 #[.slice A n c, .agg #[.int .i64 h.id, .slice A2 m c2, .int .i64 h.frm, .int .i64 h.to]] w (TEPost l 1 w) := by
  obtain ⟨W, hW⟩ : ∃ W, W = w.alloc (hO h A2 m c2) := ⟨_, rfl⟩
  have BX : Hid (BoxH W w.heap.size h A2 m c2) := Lib.hid (by rw [hW]; exact boxH_new w h A2 m c2)
  have hb0 : Below w.heap.size w W := by rw [hW]; exact (Below.refl _ _).alloc (Nat.le_refl _) _
  have HB := Lib.hid hb0
  have HB0 := Lib.hid hb0
  have HT := Lib.hid (hl.next hb0)
  have HH := Lib.hid (hh.next hb0)
  have HF := Lib.hid hf
  have HLN := Lib.hid hl.reads.len
  have hn100 : n ≤ 100 := by rw [← hl.reads.len]; exact hf.1
  have R1 := Lib.hid h1
  clear h1
  unfold hO at hW
  clear hb0 hl hh hf
  have q0 := BX.out.c0
  have q1 := BX.out.c1
  have q2 := BX.out.c2
  have q3 := BX.out.c3
  go_enter Try.func21, Try.ntmps21
  go_wp2_with fail
  rw [← hW]
  refine (heldSame_any A n c l W HT.out.reads HT.out.nil HF.out).mono ?_
  rintro e w1 ⟨v, rfl, hon⟩
  have hb := hon.below
  obtain ⟨A1, c1, rfl, hz1, hz2⟩ := hon.form
  rw [HLN.out] at hon ⊢
  clear hz1 hz2
  have HBq := Lib.hid (HB.out.trans (hb.mono HB.out.size))
  clear HB
  have HB := HBq
  clear HBq
  have HTq := Lib.hid (HT.out.next hb)
  clear HT
  have HT := HTq
  clear HTq
  have HHq := Lib.hid (HH.out.next hb)
  clear HH
  have HH := HHq
  clear HHq
  have BXq := Lib.hid (BX.out.next hb)
  clear BX
  have BX := BXq
  clear BXq
  clear hb
  have HO := Lib.hid (show ONH W _ l w1 from hon)
  clear hon
  clear hW
  clear q0 q1 q2 q3
  have q0 := BX.out.c0
  have q1 := BX.out.c1
  have q2 := BX.out.c2
  have q3 := BX.out.c3
  go_wp2_with fail
  refine (heldRight_b HT.out.reads HT.out.nil HF.out R1.out).mono ?_
  rintro e w2 ⟨rfl, hb⟩
  have HBq := Lib.hid (HB.out.trans (hb.mono HB.out.size))
  clear HB
  have HB := HBq
  clear HBq
  have HTq := Lib.hid (HT.out.next hb)
  clear HT
  have HT := HTq
  clear HTq
  have HHq := Lib.hid (HH.out.next hb)
  clear HH
  have HH := HHq
  clear HHq
  have BXq := Lib.hid (BX.out.next hb)
  clear BX
  have BX := BXq
  clear BXq
  have HOq := Lib.hid (HO.out.next hb)
  clear HO
  have HO := HOq
  clear HOq
  clear hb
  clear q0 q1 q2 q3
  have q0 := BX.out.c0
  have q1 := BX.out.c1
  have q2 := BX.out.c2
  have q3 := BX.out.c3
  go_wp2
  go_ret2
  exact onh_post HO.out HB.out

set_option maxRecDepth 100000 in
set_option maxHeartbeats 8000000 in
theorem heldAdd_2 (A : Option Addr) (n c : Nat) (l : Tb) (A2 : Option Addr) (m c2 : Nat) (h : Hd) (w : World) (hl : TAsk w A n c l) (hf : FewT l) (hh : HAsk w A2 m c2 h) (_ : m ≤ 100) (h1 : rightT l = true) (h2 : mayH h = false) :
    Calls Try.prog 21 #[.slice A n c, .agg #[.int .i64 h.id, .slice A2 m c2, .int .i64 h.frm, .int .i64 h.to]] w (TEPost l 1 w) := by
  obtain ⟨W, hW⟩ : ∃ W, W = w.alloc (hO h A2 m c2) := ⟨_, rfl⟩
  have BX : Hid (BoxH W w.heap.size h A2 m c2) := Lib.hid (by rw [hW]; exact boxH_new w h A2 m c2)
  have hb0 : Below w.heap.size w W := by rw [hW]; exact (Below.refl _ _).alloc (Nat.le_refl _) _
  have HB := Lib.hid hb0
  have HB0 := Lib.hid hb0
  have HT := Lib.hid (hl.next hb0)
  have HH := Lib.hid (hh.next hb0)
  have HF := Lib.hid hf
  have HLN := Lib.hid hl.reads.len
  have hn100 : n ≤ 100 := by rw [← hl.reads.len]; exact hf.1
  have R1 := Lib.hid h1
  have M1 := Lib.hid h2
  clear h1 h2
  unfold hO at hW
  clear hb0 hl hh hf
  have q0 := BX.out.c0
  have q1 := BX.out.c1
  have q2 := BX.out.c2
  have q3 := BX.out.c3
  go_enter Try.func21, Try.ntmps21
  go_wp2_with fail
  rw [← hW]
  refine (heldSame_any A n c l W HT.out.reads HT.out.nil HF.out).mono ?_
  rintro e w1 ⟨v, rfl, hon⟩
  have hb := hon.below
  obtain ⟨A1, c1, rfl, hz1, hz2⟩ := hon.form
  rw [HLN.out] at hon ⊢
  clear hz1 hz2
  have HBq := Lib.hid (HB.out.trans (hb.mono HB.out.size))
  clear HB
  have HB := HBq
  clear HBq
  have HTq := Lib.hid (HT.out.next hb)
  clear HT
  have HT := HTq
  clear HTq
  have HHq := Lib.hid (HH.out.next hb)
  clear HH
  have HH := HHq
  clear HHq
  have BXq := Lib.hid (BX.out.next hb)
  clear BX
  have BX := BXq
  clear BXq
  clear hb
  have HO := Lib.hid (show ONH W _ l w1 from hon)
  clear hon
  clear hW
  clear q0 q1 q2 q3
  have q0 := BX.out.c0
  have q1 := BX.out.c1
  have q2 := BX.out.c2
  have q3 := BX.out.c3
  go_wp2_with fail
  refine (heldRight_b HT.out.reads HT.out.nil HF.out R1.out).mono ?_
  rintro e w2 ⟨rfl, hb⟩
  have HBq := Lib.hid (HB.out.trans (hb.mono HB.out.size))
  clear HB
  have HB := HBq
  clear HBq
  have HTq := Lib.hid (HT.out.next hb)
  clear HT
  have HT := HTq
  clear HTq
  have HHq := Lib.hid (HH.out.next hb)
  clear HH
  have HH := HHq
  clear HHq
  have BXq := Lib.hid (BX.out.next hb)
  clear BX
  have BX := BXq
  clear BXq
  have HOq := Lib.hid (HO.out.next hb)
  clear HO
  have HO := HOq
  clear HOq
  clear hb
  clear q0 q1 q2 q3
  have q0 := BX.out.c0
  have q1 := BX.out.c1
  have q2 := BX.out.c2
  have q3 := BX.out.c3
  go_wp2_with fail
  refine (may_any HH.out M1.out).mono ?_
  rintro e w3 ⟨rfl, hb⟩
  have HBq := Lib.hid (HB.out.trans (hb.mono HB.out.size))
  clear HB
  have HB := HBq
  clear HBq
  have HTq := Lib.hid (HT.out.next hb)
  clear HT
  have HT := HTq
  clear HTq
  have HHq := Lib.hid (HH.out.next hb)
  clear HH
  have HH := HHq
  clear HHq
  have BXq := Lib.hid (BX.out.next hb)
  clear BX
  have BX := BXq
  clear BXq
  have HOq := Lib.hid (HO.out.next hb)
  clear HO
  have HO := HOq
  clear HOq
  clear hb
  clear q0 q1 q2 q3
  have q0 := BX.out.c0
  have q1 := BX.out.c1
  have q2 := BX.out.c2
  have q3 := BX.out.c3
  go_wp2
  go_ret2
  exact onh_post HO.out HB.out

set_option maxRecDepth 100000 in
set_option maxHeartbeats 8000000 in
theorem heldAdd_3 (A : Option Addr) (n c : Nat) (l : Tb) (A2 : Option Addr) (m c2 : Nat) (h : Hd) (w : World) (hl : TAsk w A n c l) (hf : FewT l) (hh : HAsk w A2 m c2 h) (_ : m ≤ 100) (h1 : rightT l = true) (h2 : mayH h = true) (h3 : hasT l h.id = true) :
    Calls Try.prog 21 #[.slice A n c, .agg #[.int .i64 h.id, .slice A2 m c2, .int .i64 h.frm, .int .i64 h.to]] w (TEPost l 7 w) := by
  obtain ⟨W, hW⟩ : ∃ W, W = w.alloc (hO h A2 m c2) := ⟨_, rfl⟩
  have BX : Hid (BoxH W w.heap.size h A2 m c2) := Lib.hid (by rw [hW]; exact boxH_new w h A2 m c2)
  have hb0 : Below w.heap.size w W := by rw [hW]; exact (Below.refl _ _).alloc (Nat.le_refl _) _
  have HB := Lib.hid hb0
  have HB0 := Lib.hid hb0
  have HT := Lib.hid (hl.next hb0)
  have HH := Lib.hid (hh.next hb0)
  have HF := Lib.hid hf
  have HLN := Lib.hid hl.reads.len
  have hn100 : n ≤ 100 := by rw [← hl.reads.len]; exact hf.1
  have R1 := Lib.hid h1
  have M1 := Lib.hid h2
  have HHAS := Lib.hid h3
  have HIDS := Lib.hid (rightT_is.1 h1).ids
  clear h1 h2 h3
  unfold hO at hW
  clear hb0 hl hh hf
  have q0 := BX.out.c0
  have q1 := BX.out.c1
  have q2 := BX.out.c2
  have q3 := BX.out.c3
  go_enter Try.func21, Try.ntmps21
  go_wp2_with fail
  rw [← hW]
  refine (heldSame_any A n c l W HT.out.reads HT.out.nil HF.out).mono ?_
  rintro e w1 ⟨v, rfl, hon⟩
  have hb := hon.below
  obtain ⟨A1, c1, rfl, hz1, hz2⟩ := hon.form
  rw [HLN.out] at hon ⊢
  clear hz1 hz2
  have HBq := Lib.hid (HB.out.trans (hb.mono HB.out.size))
  clear HB
  have HB := HBq
  clear HBq
  have HTq := Lib.hid (HT.out.next hb)
  clear HT
  have HT := HTq
  clear HTq
  have HHq := Lib.hid (HH.out.next hb)
  clear HH
  have HH := HHq
  clear HHq
  have BXq := Lib.hid (BX.out.next hb)
  clear BX
  have BX := BXq
  clear BXq
  clear hb
  have HO := Lib.hid (show ONH W _ l w1 from hon)
  clear hon
  clear hW
  clear q0 q1 q2 q3
  have q0 := BX.out.c0
  have q1 := BX.out.c1
  have q2 := BX.out.c2
  have q3 := BX.out.c3
  go_wp2_with fail
  refine (heldRight_b HT.out.reads HT.out.nil HF.out R1.out).mono ?_
  rintro e w2 ⟨rfl, hb⟩
  have HBq := Lib.hid (HB.out.trans (hb.mono HB.out.size))
  clear HB
  have HB := HBq
  clear HBq
  have HTq := Lib.hid (HT.out.next hb)
  clear HT
  have HT := HTq
  clear HTq
  have HHq := Lib.hid (HH.out.next hb)
  clear HH
  have HH := HHq
  clear HHq
  have BXq := Lib.hid (BX.out.next hb)
  clear BX
  have BX := BXq
  clear BXq
  have HOq := Lib.hid (HO.out.next hb)
  clear HO
  have HO := HOq
  clear HOq
  clear hb
  clear q0 q1 q2 q3
  have q0 := BX.out.c0
  have q1 := BX.out.c1
  have q2 := BX.out.c2
  have q3 := BX.out.c3
  go_wp2_with fail
  refine (may_any HH.out M1.out).mono ?_
  rintro e w3 ⟨rfl, hb⟩
  have HBq := Lib.hid (HB.out.trans (hb.mono HB.out.size))
  clear HB
  have HB := HBq
  clear HBq
  have HTq := Lib.hid (HT.out.next hb)
  clear HT
  have HT := HTq
  clear HTq
  have HHq := Lib.hid (HH.out.next hb)
  clear HH
  have HH := HHq
  clear HHq
  have BXq := Lib.hid (BX.out.next hb)
  clear BX
  have BX := BXq
  clear BXq
  have HOq := Lib.hid (HO.out.next hb)
  clear HO
  have HO := HOq
  clear HOq
  clear hb
  clear q0 q1 q2 q3
  have q0 := BX.out.c0
  have q1 := BX.out.c1
  have q2 := BX.out.c2
  have q3 := BX.out.c3
  go_wp2_with fail
  refine (find_any A n c l h.id _ HT.out.reads (by omega) HIDS.out).mono ?_
  rintro e w4 ⟨⟨K, rfl, hK⟩, hb⟩
  have HK := Lib.hid hK
  have HKN : Hid (K ≤ n) := Lib.hid (by rw [← HLN.out]; exact hK.le)
  rw [here_has HIDS.out hK, HHAS.out]
  clear hK
  have HBq := Lib.hid (HB.out.trans (hb.mono HB.out.size))
  clear HB
  have HB := HBq
  clear HBq
  have HTq := Lib.hid (HT.out.next hb)
  clear HT
  have HT := HTq
  clear HTq
  have HHq := Lib.hid (HH.out.next hb)
  clear HH
  have HH := HHq
  clear HHq
  have BXq := Lib.hid (BX.out.next hb)
  clear BX
  have BX := BXq
  clear BXq
  have HOq := Lib.hid (HO.out.next hb)
  clear HO
  have HO := HOq
  clear HOq
  clear hb
  clear q0 q1 q2 q3
  have q0 := BX.out.c0
  have q1 := BX.out.c1
  have q2 := BX.out.c2
  have q3 := BX.out.c3
  go_wp2
  go_ret2
  exact onh_post HO.out HB.out

set_option maxRecDepth 100000 in
set_option maxHeartbeats 8000000 in
theorem heldAdd_4 (A : Option Addr) (n c : Nat) (l : Tb) (A2 : Option Addr) (m c2 : Nat) (h : Hd) (w : World) (hl : TAsk w A n c l) (hf : FewT l) (hh : HAsk w A2 m c2 h) (hm : m ≤ 100) (h1 : rightT l = true) (h2 : mayH h = true) (h3 : hasT l h.id = false) (h4 : apartB h.things (busyT l h.frm h.to) = false) :
    Calls Try.prog 21 #[.slice A n c, .agg #[.int .i64 h.id, .slice A2 m c2, .int .i64 h.frm, .int .i64 h.to]] w (TEPost l 5 w) := by
  obtain ⟨W, hW⟩ : ∃ W, W = w.alloc (hO h A2 m c2) := ⟨_, rfl⟩
  have BX : Hid (BoxH W w.heap.size h A2 m c2) := Lib.hid (by rw [hW]; exact boxH_new w h A2 m c2)
  have hb0 : Below w.heap.size w W := by rw [hW]; exact (Below.refl _ _).alloc (Nat.le_refl _) _
  have HB := Lib.hid hb0
  have HB0 := Lib.hid hb0
  have HT := Lib.hid (hl.next hb0)
  have HH := Lib.hid (hh.next hb0)
  have HF := Lib.hid hf
  have HLN := Lib.hid hl.reads.len
  have hn100 : n ≤ 100 := by rw [← hl.reads.len]; exact hf.1
  have R1 := Lib.hid h1
  have M1 := Lib.hid h2
  have HHAS := Lib.hid h3
  have HIDS := Lib.hid (rightT_is.1 h1).ids
  have HBN : Hid ((busyT l h.frm h.to).length ≤ maxLen) := Lib.hid (by have := busyT_len l h.frm h.to; unfold maxLen; omega)
  have HAP : Hid (apartB h.things (busyT l h.frm h.to) = false) := Lib.hid h4
  have d256 : (n == 256) = false := beq_eq_false_iff_ne.2 (by omega)
  have d256' : ((n : Int) == 256) = false := beq_eq_false_iff_ne.2 (by omega)
  have HMM := Lib.hid hm
  clear h1 h2 h3 h4
  unfold hO at hW
  clear hb0 hl hh hf
  have q0 := BX.out.c0
  have q1 := BX.out.c1
  have q2 := BX.out.c2
  have q3 := BX.out.c3
  go_enter Try.func21, Try.ntmps21
  go_wp2_with fail
  rw [← hW]
  refine (heldSame_any A n c l W HT.out.reads HT.out.nil HF.out).mono ?_
  rintro e w1 ⟨v, rfl, hon⟩
  have hb := hon.below
  obtain ⟨A1, c1, rfl, hz1, hz2⟩ := hon.form
  rw [HLN.out] at hon ⊢
  clear hz1 hz2
  have HBq := Lib.hid (HB.out.trans (hb.mono HB.out.size))
  clear HB
  have HB := HBq
  clear HBq
  have HTq := Lib.hid (HT.out.next hb)
  clear HT
  have HT := HTq
  clear HTq
  have HHq := Lib.hid (HH.out.next hb)
  clear HH
  have HH := HHq
  clear HHq
  have BXq := Lib.hid (BX.out.next hb)
  clear BX
  have BX := BXq
  clear BXq
  clear hb
  have HO := Lib.hid (show ONH W _ l w1 from hon)
  clear hon
  clear hW
  clear q0 q1 q2 q3
  have q0 := BX.out.c0
  have q1 := BX.out.c1
  have q2 := BX.out.c2
  have q3 := BX.out.c3
  go_wp2_with fail
  refine (heldRight_b HT.out.reads HT.out.nil HF.out R1.out).mono ?_
  rintro e w2 ⟨rfl, hb⟩
  have HBq := Lib.hid (HB.out.trans (hb.mono HB.out.size))
  clear HB
  have HB := HBq
  clear HBq
  have HTq := Lib.hid (HT.out.next hb)
  clear HT
  have HT := HTq
  clear HTq
  have HHq := Lib.hid (HH.out.next hb)
  clear HH
  have HH := HHq
  clear HHq
  have BXq := Lib.hid (BX.out.next hb)
  clear BX
  have BX := BXq
  clear BXq
  have HOq := Lib.hid (HO.out.next hb)
  clear HO
  have HO := HOq
  clear HOq
  clear hb
  clear q0 q1 q2 q3
  have q0 := BX.out.c0
  have q1 := BX.out.c1
  have q2 := BX.out.c2
  have q3 := BX.out.c3
  go_wp2_with fail
  refine (may_any HH.out M1.out).mono ?_
  rintro e w3 ⟨rfl, hb⟩
  have HBq := Lib.hid (HB.out.trans (hb.mono HB.out.size))
  clear HB
  have HB := HBq
  clear HBq
  have HTq := Lib.hid (HT.out.next hb)
  clear HT
  have HT := HTq
  clear HTq
  have HHq := Lib.hid (HH.out.next hb)
  clear HH
  have HH := HHq
  clear HHq
  have BXq := Lib.hid (BX.out.next hb)
  clear BX
  have BX := BXq
  clear BXq
  have HOq := Lib.hid (HO.out.next hb)
  clear HO
  have HO := HOq
  clear HOq
  clear hb
  clear q0 q1 q2 q3
  have q0 := BX.out.c0
  have q1 := BX.out.c1
  have q2 := BX.out.c2
  have q3 := BX.out.c3
  go_wp2_with fail
  refine (find_any A n c l h.id _ HT.out.reads (by omega) HIDS.out).mono ?_
  rintro e w4 ⟨⟨K, rfl, hK⟩, hb⟩
  have HK := Lib.hid hK
  have HKN : Hid (K ≤ n) := Lib.hid (by rw [← HLN.out]; exact hK.le)
  rw [here_has HIDS.out hK, HHAS.out]
  clear hK
  have HBq := Lib.hid (HB.out.trans (hb.mono HB.out.size))
  clear HB
  have HB := HBq
  clear HBq
  have HTq := Lib.hid (HT.out.next hb)
  clear HT
  have HT := HTq
  clear HTq
  have HHq := Lib.hid (HH.out.next hb)
  clear HH
  have HH := HHq
  clear HHq
  have BXq := Lib.hid (BX.out.next hb)
  clear BX
  have BX := BXq
  clear BXq
  have HOq := Lib.hid (HO.out.next hb)
  clear HO
  have HO := HOq
  clear HOq
  clear hb
  clear q0 q1 q2 q3
  have q0 := BX.out.c0
  have q1 := BX.out.c1
  have q2 := BX.out.c2
  have q3 := BX.out.c3
  go_wp2
  have HKEEP : Hid (∀ wx, Below w4.drew.heap.size w4.drew wx → wx.cell? ⟨w.heap.size, 1, none⟩ = some (.slice A2 m c2) ∧ wx.cell? ⟨w.heap.size, 2, none⟩ = some (.int .i64 h.frm) ∧ wx.cell? ⟨w.heap.size, 3, none⟩ = some (.int .i64 h.to)) := Lib.hid (fun wx hz' => by
    have hz := (bel_drewH w4).trans (hz'.mono (bel_drewH w4).size)
    exact ⟨keep_cellH BX.out.lt BX.out.c1 hz, keep_cellH BX.out.lt BX.out.c2 hz, keep_cellH BX.out.lt BX.out.c3 hz⟩)
  have hd := bel_drewH w4
  have HBq := Lib.hid (HB.out.trans (hd.mono HB.out.size))
  clear HB
  have HB := HBq
  clear HBq
  have HTq := Lib.hid (HT.out.next hd)
  clear HT
  have HT := HTq
  clear HTq
  have HHq := Lib.hid (HH.out.next hd)
  clear HH
  have HH := HHq
  clear HHq
  have BXq := Lib.hid (BX.out.next hd)
  clear BX
  have BX := BXq
  clear BXq
  have HOq := Lib.hid (HO.out.next hd)
  clear HO
  have HO := HOq
  clear HOq
  clear hd
  have HY := Lib.hid (Below.refl w4.drew.heap.size w4.drew)
  go_region_held3 (fun w' => w'.cell? ⟨w.heap.size, 1, none⟩ = some (.slice A2 m c2) ∧ w'.cell? ⟨w.heap.size, 2, none⟩ = some (.int .i64 h.frm) ∧ w'.cell? ⟨w.heap.size, 3, none⟩ = some (.int .i64 h.to))
    (first | exact HKEEP.out _ (Below.refl _ _) | exact HKEEP.out _ HY.out | go_keep | fail)
    (first | (go_at_call 30; (with_reducible refine (busy_any A n c l h.frm h.to w4.drew HT.out.reads HF.out R1.out).mono ?_); rintro e w5 ⟨⟨Ab, cb, rfl, hrb, _, _⟩, hb⟩; have HY := Lib.hid (HY.out.trans (hb.mono HY.out.size)); have HB := Lib.hid (HB.out.trans (hb.mono HB.out.size)); have HT := Lib.hid (HT.out.next hb); have HH := Lib.hid (HH.out.next hb); have BX := Lib.hid (BX.out.next hb); have HO := Lib.hid (HO.out.next hb); have HBS := Lib.hid hrb; clear hb) | (go_at_call 24; (with_reducible refine (s_apart HH.out.reads HBS.out HH.out.few HBN.out HAP.out).mono ?_); rintro e w6 ⟨rfl, hb⟩; have HY := Lib.hid (HY.out.trans (hb.mono HY.out.size)); have HB := Lib.hid (HB.out.trans (hb.mono HB.out.size)); have HT := Lib.hid (HT.out.next hb); have HH := Lib.hid (HH.out.next hb); have BX := Lib.hid (BX.out.next hb); have HO := Lib.hid (HO.out.next hb); have HBS := Lib.hid (HBS.out.next hb); clear hb) | fail)
  clear HKEEP HY
  clear q0 q1 q2 q3
  go_wp2
  go_ret2
  exact onh_post HO.out HB.out

set_option maxRecDepth 100000 in
set_option maxHeartbeats 8000000 in
theorem heldAdd_5 (A : Option Addr) (n c : Nat) (l : Tb) (A2 : Option Addr) (m c2 : Nat) (h : Hd) (w : World) (hl : TAsk w A n c l) (hf : FewT l) (hh : HAsk w A2 m c2 h) (hm : m ≤ 100) (h1 : rightT l = true) (h2 : mayH h = true) (h3 : hasT l h.id = false) (h4 : apartB h.things (busyT l h.frm h.to) = true) :
    Calls Try.prog 21 #[.slice A n c, .agg #[.int .i64 h.id, .slice A2 m c2, .int .i64 h.frm, .int .i64 h.to]] w (TEPost (insT l h) 0 w) := by
  obtain ⟨W, hW⟩ : ∃ W, W = w.alloc (hO h A2 m c2) := ⟨_, rfl⟩
  have BX : Hid (BoxH W w.heap.size h A2 m c2) := Lib.hid (by rw [hW]; exact boxH_new w h A2 m c2)
  have hb0 : Below w.heap.size w W := by rw [hW]; exact (Below.refl _ _).alloc (Nat.le_refl _) _
  have HB := Lib.hid hb0
  have HB0 := Lib.hid hb0
  have HT := Lib.hid (hl.next hb0)
  have HH := Lib.hid (hh.next hb0)
  have HF := Lib.hid hf
  have HLN := Lib.hid hl.reads.len
  have hn100 : n ≤ 100 := by rw [← hl.reads.len]; exact hf.1
  have R1 := Lib.hid h1
  have M1 := Lib.hid h2
  have HHAS := Lib.hid h3
  have HIDS := Lib.hid (rightT_is.1 h1).ids
  have HBN : Hid ((busyT l h.frm h.to).length ≤ maxLen) := Lib.hid (by have := busyT_len l h.frm h.to; unfold maxLen; omega)
  have HAP : Hid (apartB h.things (busyT l h.frm h.to) = true) := Lib.hid h4
  have d256 : (n == 256) = false := beq_eq_false_iff_ne.2 (by omega)
  have d256' : ((n : Int) == 256) = false := beq_eq_false_iff_ne.2 (by omega)
  have HMM := Lib.hid hm
  clear h1 h2 h3 h4
  unfold hO at hW
  clear hb0 hl hh hf
  have q0 := BX.out.c0
  have q1 := BX.out.c1
  have q2 := BX.out.c2
  have q3 := BX.out.c3
  go_enter Try.func21, Try.ntmps21
  go_wp2_with fail
  rw [← hW]
  refine (heldSame_any A n c l W HT.out.reads HT.out.nil HF.out).mono ?_
  rintro e w1 ⟨v, rfl, hon⟩
  have hb := hon.below
  obtain ⟨A1, c1, rfl, hz1, hz2⟩ := hon.form
  rw [HLN.out] at hon ⊢
  clear hz1 hz2
  have HBq := Lib.hid (HB.out.trans (hb.mono HB.out.size))
  clear HB
  have HB := HBq
  clear HBq
  have HTq := Lib.hid (HT.out.next hb)
  clear HT
  have HT := HTq
  clear HTq
  have HHq := Lib.hid (HH.out.next hb)
  clear HH
  have HH := HHq
  clear HHq
  have BXq := Lib.hid (BX.out.next hb)
  clear BX
  have BX := BXq
  clear BXq
  clear hb
  have HO := Lib.hid (show ONH W _ l w1 from hon)
  clear hon
  clear hW
  clear q0 q1 q2 q3
  have q0 := BX.out.c0
  have q1 := BX.out.c1
  have q2 := BX.out.c2
  have q3 := BX.out.c3
  go_wp2_with fail
  refine (heldRight_b HT.out.reads HT.out.nil HF.out R1.out).mono ?_
  rintro e w2 ⟨rfl, hb⟩
  have HBq := Lib.hid (HB.out.trans (hb.mono HB.out.size))
  clear HB
  have HB := HBq
  clear HBq
  have HTq := Lib.hid (HT.out.next hb)
  clear HT
  have HT := HTq
  clear HTq
  have HHq := Lib.hid (HH.out.next hb)
  clear HH
  have HH := HHq
  clear HHq
  have BXq := Lib.hid (BX.out.next hb)
  clear BX
  have BX := BXq
  clear BXq
  have HOq := Lib.hid (HO.out.next hb)
  clear HO
  have HO := HOq
  clear HOq
  clear hb
  clear q0 q1 q2 q3
  have q0 := BX.out.c0
  have q1 := BX.out.c1
  have q2 := BX.out.c2
  have q3 := BX.out.c3
  go_wp2_with fail
  refine (may_any HH.out M1.out).mono ?_
  rintro e w3 ⟨rfl, hb⟩
  have HBq := Lib.hid (HB.out.trans (hb.mono HB.out.size))
  clear HB
  have HB := HBq
  clear HBq
  have HTq := Lib.hid (HT.out.next hb)
  clear HT
  have HT := HTq
  clear HTq
  have HHq := Lib.hid (HH.out.next hb)
  clear HH
  have HH := HHq
  clear HHq
  have BXq := Lib.hid (BX.out.next hb)
  clear BX
  have BX := BXq
  clear BXq
  have HOq := Lib.hid (HO.out.next hb)
  clear HO
  have HO := HOq
  clear HOq
  clear hb
  clear q0 q1 q2 q3
  have q0 := BX.out.c0
  have q1 := BX.out.c1
  have q2 := BX.out.c2
  have q3 := BX.out.c3
  go_wp2_with fail
  refine (find_any A n c l h.id _ HT.out.reads (by omega) HIDS.out).mono ?_
  rintro e w4 ⟨⟨K, rfl, hK⟩, hb⟩
  have HK := Lib.hid hK
  have HKN : Hid (K ≤ n) := Lib.hid (by rw [← HLN.out]; exact hK.le)
  rw [here_has HIDS.out hK, HHAS.out]
  clear hK
  have HBq := Lib.hid (HB.out.trans (hb.mono HB.out.size))
  clear HB
  have HB := HBq
  clear HBq
  have HTq := Lib.hid (HT.out.next hb)
  clear HT
  have HT := HTq
  clear HTq
  have HHq := Lib.hid (HH.out.next hb)
  clear HH
  have HH := HHq
  clear HHq
  have BXq := Lib.hid (BX.out.next hb)
  clear BX
  have BX := BXq
  clear BXq
  have HOq := Lib.hid (HO.out.next hb)
  clear HO
  have HO := HOq
  clear HOq
  clear hb
  clear q0 q1 q2 q3
  have q0 := BX.out.c0
  have q1 := BX.out.c1
  have q2 := BX.out.c2
  have q3 := BX.out.c3
  go_wp2
  have HKEEP : Hid (∀ wx, Below w4.drew.heap.size w4.drew wx → wx.cell? ⟨w.heap.size, 1, none⟩ = some (.slice A2 m c2) ∧ wx.cell? ⟨w.heap.size, 2, none⟩ = some (.int .i64 h.frm) ∧ wx.cell? ⟨w.heap.size, 3, none⟩ = some (.int .i64 h.to)) := Lib.hid (fun wx hz' => by
    have hz := (bel_drewH w4).trans (hz'.mono (bel_drewH w4).size)
    exact ⟨keep_cellH BX.out.lt BX.out.c1 hz, keep_cellH BX.out.lt BX.out.c2 hz, keep_cellH BX.out.lt BX.out.c3 hz⟩)
  have hd := bel_drewH w4
  have HBq := Lib.hid (HB.out.trans (hd.mono HB.out.size))
  clear HB
  have HB := HBq
  clear HBq
  have HTq := Lib.hid (HT.out.next hd)
  clear HT
  have HT := HTq
  clear HTq
  have HHq := Lib.hid (HH.out.next hd)
  clear HH
  have HH := HHq
  clear HHq
  have BXq := Lib.hid (BX.out.next hd)
  clear BX
  have BX := BXq
  clear BXq
  have HOq := Lib.hid (HO.out.next hd)
  clear HO
  have HO := HOq
  clear HOq
  clear hd
  have HY := Lib.hid (Below.refl w4.drew.heap.size w4.drew)
  go_region_held3 (fun w' => w'.cell? ⟨w.heap.size, 1, none⟩ = some (.slice A2 m c2) ∧ w'.cell? ⟨w.heap.size, 2, none⟩ = some (.int .i64 h.frm) ∧ w'.cell? ⟨w.heap.size, 3, none⟩ = some (.int .i64 h.to))
    (first | exact HKEEP.out _ (Below.refl _ _) | exact HKEEP.out _ HY.out | go_keep | fail)
    (first | (go_at_call 30; (with_reducible refine (busy_any A n c l h.frm h.to w4.drew HT.out.reads HF.out R1.out).mono ?_); rintro e w5 ⟨⟨Ab, cb, rfl, hrb, _, _⟩, hb⟩; have HY := Lib.hid (HY.out.trans (hb.mono HY.out.size)); have HB := Lib.hid (HB.out.trans (hb.mono HB.out.size)); have HT := Lib.hid (HT.out.next hb); have HH := Lib.hid (HH.out.next hb); have BX := Lib.hid (BX.out.next hb); have HO := Lib.hid (HO.out.next hb); have HBS := Lib.hid hrb; clear hb) | (go_at_call 24; (with_reducible refine (s_apart HH.out.reads HBS.out HH.out.few HBN.out HAP.out).mono ?_); rintro e w6 ⟨rfl, hb⟩; have HY := Lib.hid (HY.out.trans (hb.mono HY.out.size)); have HB := Lib.hid (HB.out.trans (hb.mono HB.out.size)); have HT := Lib.hid (HT.out.next hb); have HH := Lib.hid (HH.out.next hb); have BX := Lib.hid (BX.out.next hb); have HO := Lib.hid (HO.out.next hb); have HBS := Lib.hid (HBS.out.next hb); clear hb) | fail)
  clear HKEEP HY
  clear q0 q1 q2 q3
  have q0 := BX.out.c0
  have q1 := BX.out.c1
  have q2 := BX.out.c2
  have q3 := BX.out.c3
  go_wp2_with fail
  refine (own_any A2 m c2 h _ HH.out (by omega)).mono ?_
  rintro e w7 ⟨⟨A5, c5, rfl, hx5, he5⟩, hb⟩
  have hlt5 : ∀ b, (Value.slice A1 n c1).ownBlock = some b → b < _ := fun b hb => (let ⟨_, h1, _⟩ := HO.out; h1.lt b hb).2
  have HE5 : Hid (EH w7 (fun b => b < w7.heap.size ∧ (Value.slice A1 n c1).ownBlock ≠ some b) h _) := Lib.hid (eh_steady.keep he5 (fun _ _ => rfl) (fun b hb => ⟨hb.2, fun e => by have h1 := hlt5 b e; have h2 := hb.1; omega⟩))
  clear hlt5 hx5 he5
  have HBq := Lib.hid (HB.out.trans (hb.mono HB.out.size))
  clear HB
  have HB := HBq
  clear HBq
  have HTq := Lib.hid (HT.out.next hb)
  clear HT
  have HT := HTq
  clear HTq
  have HHq := Lib.hid (HH.out.next hb)
  clear HH
  have HH := HHq
  clear HHq
  have BXq := Lib.hid (BX.out.next hb)
  clear BX
  have BX := BXq
  clear BXq
  have HOq := Lib.hid (HO.out.next hb)
  clear HO
  have HO := HOq
  clear HOq
  have HBSq := Lib.hid (HBS.out.next hb)
  clear HBS
  have HBS := HBSq
  clear HBSq
  clear hb
  clear q0 q1 q2 q3
  have HINS : Hid (l.take K ++ h :: l.drop K = insT l h) := Lib.hid (ins_at HK.out (has_no.1 HHAS.out)).symm
  go_wp2_with fail
  refine (insertH_on HO.out (by omega) HLN.out HKN.out HE5.out).mono ?_
  rintro e w8 ⟨v', rfl, hon⟩
  rw [HINS.out] at hon
  obtain ⟨A7, c7, rfl, hz1, hz2⟩ := ON.form hon
  have HON := Lib.hid hon
  have HBF := Lib.hid (HB0.out.trans ((ON.below hon).mono HB0.out.size))
  clear hon hz1 hz2
  go_wp2
  go_ret2
  exact onh_post HON.out HBF.out

theorem heldAdd_any (A : Option Addr) (n c : Nat) (l : Tb) (A2 : Option Addr) (m c2 : Nat) (h : Hd) (w : World) (hl : TAsk w A n c l) (hf : FewT l) (hh : HAsk w A2 m c2 h) (hm : m ≤ 100) : Calls Try.prog 21 #[.slice A n c, .agg #[.int .i64 h.id, .slice A2 m c2, .int .i64 h.frm, .int .i64 h.to]] w (TEPost (addT l h) (addE l h) w) := by
  unfold addT
  cases h1 : rightT l with
  | false =>
    have e : addE l h = 1 := by unfold addE; rw [h1]; rfl
    rw [e, if_neg (by omega)]
    exact heldAdd_1 A n c l A2 m c2 h w hl hf hh hm h1
  | true =>
    cases h2 : mayH h with
    | false =>
      have e : addE l h = 1 := by unfold addE; rw [h1, h2]; rfl
      rw [e, if_neg (by omega)]
      exact heldAdd_2 A n c l A2 m c2 h w hl hf hh hm h1 h2
    | true =>
      have hmay : MayH h := of_decide_eq_true h2
      cases h3 : hasT l h.id with
      | true =>
        have e : addE l h = 7 := by unfold addE; rw [h1, h2, if_neg (by simp), if_pos h3]
        rw [e, if_neg (by omega)]
        exact heldAdd_3 A n c l A2 m c2 h w hl hf hh hm h1 h2 h3
      | false =>
        have hn : ¬ 256 ≤ l.length := by have := hf.1; omega
        cases h4 : apartB h.things (busyT l h.frm h.to) with
        | false =>
          have hc : (l.any fun x => clashH x h) = true := by
            refine Classical.byContradiction fun hc => ?_
            rw [Bool.not_eq_true, List.any_eq_false] at hc
            have := (busy_apart h1 hmay).1 (fun x hx => by simpa using hc x hx)
            rw [apart_comm, h4] at this
            cases this
          have e : addE l h = 5 := by unfold addE; rw [h1, h2, if_neg (by simp), if_neg (by rw [h3]; simp), if_pos (.inr hc)]
          rw [e, if_neg (by omega)]
          exact heldAdd_4 A n c l A2 m c2 h w hl hf hh hm h1 h2 h3 h4
        | true =>
          have hc := (busy_apart h1 hmay).2 (by rw [apart_comm]; exact h4)
          have e : addE l h = 0 := add_ok.2 ⟨rightT_is.1 h1, hmay, has_no.1 h3, by omega, hc⟩
          rw [e, if_pos rfl]
          exact heldAdd_5 A n c l A2 m c2 h w hl hf hh hm h1 h2 h3 h4

end Go.Proofs.Ytbiofikijehlcaa
