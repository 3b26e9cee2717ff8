/- What a graph of things is, and what is over what, in plain words: chains of parents. No program's text is walked here. Words for memory: a slice of things that reads as a graph's list. An argument that is a list of things, opened. The reference's Plus (bailiwickref02): a time and a length further on, at most Never; of any two numbers. What a job asks for, in plain words. No program's text is walked here. Words for memory: a block that holds a spec. An argument that is a spec by value, opened. How layer 9's arguments are opened: things, numbers, specs. What the small readers of a slice of int answer: set.Right, the reference's Right, in and Same; the slices read as lists of numbers. Plain facts on sets kept as bits of four words; no condition. What the words of a set answer: join, meet, less and empty, on four words each; every word below 2^64. -/
import Derived.Test.YtglboolijhekkaaDoorMg01
import Derived.LoopTactic
import Derived.Laws.Rows
import Derived.Deep.QuietTactic
import Derived.BigQuiet
import Derived.Lib.TrailingZeros
import Derived.RegionTactic
import Derived.ChangeAlike
import Derived.Handy
import Derived.Laws.BitsAllLaws
namespace Go.Proofs.YtglboolijhekkaaDoor

/-- a thing: its kind, what it is part of, its tag -/
structure Th where
  kind : Int
  up : Int
  tag : ByteArray
def th0 : Th := ⟨0, 0, ⟨#[]⟩⟩
abbrev Gr := List Th
def gk (g : Gr) (i : Nat) : Int := (g.getD i th0).kind
def gu (g : Gr) (i : Nat) : Int := (g.getD i th0).up
def gt (g : Gr) (i : Nat) : ByteArray := (g.getD i th0).tag

def tagC (c : UInt8) : Bool := (97 ≤ c.toNat && c.toNat ≤ 122) || (48 ≤ c.toNat && c.toNat ≤ 57)
def tagB (s : ByteArray) : Bool := s.data.toList.all tagC && decide (s.size ≤ 16)
/-- thing i stands where it may -/
def okT (g : Gr) (i : Nat) : Prop :=
  if i = 0 then gk g 0 = 0 ∧ gu g 0 = -1 ∧ (gt g 0).size = 0 else
    0 ≤ gu g i ∧ gu g i < i ∧ ((gt g i).size = 0 ∨ gk g i = 2) ∧ tagB (gt g i) = true ∧
      ((gk g i = 1 ∧ gk g (gu g i).toNat = 0) ∨ (gk g i = 2 ∧ gk g (gu g i).toNat < 2) ∨ ((gk g i = 3 ∨ gk g i = 4) ∧ gk g (gu g i).toNat = 2))
instance (g : Gr) (i : Nat) : Decidable (okT g i) := by unfold okT; infer_instance
def rightG (g : Gr) : Bool := decide (g ≠ [] ∧ g.length ≤ 256 ∧ ∀ i, i < g.length → okT g i)

/-- the parent's number -/
def par (g : Gr) (k : Nat) : Nat := (gu g k).toNat
/-- is n the thing k, or is k a part of it: up the chain, as far as n -/
def overF (g : Gr) (n : Nat) : Nat → Nat → Bool
  | 0, k => k == n
  | f + 1, k => if n < k then overF g n f (par g k) else k == n
def overG (g : Gr) (n k : Nat) : Bool := overF g n k k

structure RightG (g : Gr) : Prop where
  pos : 0 < g.length
  few : g.length ≤ 256
  top : gk g 0 = 0 ∧ gu g 0 = -1
  up : ∀ i, 0 < i → i < g.length → 0 ≤ gu g i ∧ par g i < i
  kind : ∀ i, 0 < i → i < g.length → (gk g i = 1 ∧ gk g (par g i) = 0) ∨ (gk g i = 2 ∧ gk g (par g i) < 2) ∨ ((gk g i = 3 ∨ gk g i = 4) ∧ gk g (par g i) = 2)
theorem rightG_is {g : Gr} (h : rightG g = true) : RightG g := by
  unfold rightG at h
  rw [decide_eq_true_eq] at h
  obtain ⟨h1, h2, h3⟩ := h
  have h0 := h3 0 (List.length_pos_iff.2 h1)
  unfold okT at h0
  rw [if_pos rfl] at h0
  refine ⟨List.length_pos_iff.2 h1, h2, ⟨h0.1, h0.2.1⟩, fun i hi hl => ?_, fun i hi hl => ?_⟩
  all_goals
    have := h3 i hl
    unfold okT at this
    rw [if_neg (by omega)] at this
  · unfold par; omega
  · exact this.2.2.2.2
section
variable {g : Gr} (hg : RightG g) {n k m : Nat}
include hg
theorem RightG.kinds (hk : k < g.length) : 0 ≤ gk g k ∧ gk g k ≤ 4 := by
  rcases Nat.eq_zero_or_pos k with h | h
  · subst h; have := hg.top.1; omega
  · rcases hg.kind k h hk with h | h | h <;> omega
/-- more steps than are needed change nothing -/
theorem overF_more : ∀ (f : Nat) (k : Nat), k < g.length → k ≤ f → overF g n f k = overF g n k k := by
  have hg' := hg
  intro f
  induction f using Nat.strongRecOn with
  | _ f ih =>
    intro k hk hf
    rcases Nat.eq_zero_or_pos k with h | h
    · subst h
      cases f with
      | zero => rfl
      | succ f => show (if n < 0 then _ else (0 == n)) = (0 == n); rw [if_neg (by omega)]
    · obtain ⟨f', rfl⟩ : ∃ f', f = f' + 1 := ⟨f - 1, by omega⟩
      obtain ⟨k', rfl⟩ : ∃ k', k = k' + 1 := ⟨k - 1, by omega⟩
      have hp := (hg.up (k' + 1) (by omega) hk).2
      show (if n < k' + 1 then overF g n f' (par g (k' + 1)) else _) = (if n < k' + 1 then overF g n k' (par g (k' + 1)) else _)
      split
      · rw [ih f' (by omega) _ (by omega) (by omega)]
        by_cases hkf : k' = f'
        · subst hkf; rw [ih k' (by omega) _ (by omega) (by omega)]
        · rw [ih k' (by omega) _ (by omega) (by omega)]
      · rfl
/-- up one step -/
theorem over_up (hk : k < g.length) (h : n < k) : overG g n k = overG g n (par g k) := by
  have hp := (hg.up k (by omega) hk).2
  obtain ⟨k', rfl⟩ : ∃ k', k = k' + 1 := ⟨k - 1, by omega⟩
  show (if n < k' + 1 then overF g n k' (par g (k' + 1)) else _) = _
  rw [if_pos h]
  exact overF_more hg k' (par g (k' + 1)) (by omega) (by omega)
omit hg in
theorem over_end (h : ¬ n < k) : overG g n k = (k == n) := by
  unfold overG
  cases k with
  | zero => rfl
  | succ k => show (if n < k + 1 then _ else _) = _; rw [if_neg h]
omit hg in
theorem over_self : overG g n n = true := by rw [over_end (by omega)]; simp
omit hg in
theorem over_le (h : overG g n k = true) : n ≤ k := by
  by_cases hnk : n < k
  · omega
  · rw [over_end hnk] at h; simp at h; omega
theorem over_zero : ∀ (k : Nat), k < g.length → overG g 0 k = true := by
  intro k
  induction k using Nat.strongRecOn with
  | _ k ih =>
    intro hk
    rcases Nat.eq_zero_or_pos k with h | h
    · subst h; exact over_self
    · rw [over_up hg hk h]
      have := (hg.up k h hk).2
      exact ih _ this (by omega)
/-- what is part of a part is a part -/
theorem over_trans : ∀ (k : Nat), k < g.length → overG g m k = true → overG g n m = true → overG g n k = true := by
  intro k
  induction k using Nat.strongRecOn with
  | _ k ih =>
    intro hk h1 h2
    by_cases hmk : m < k
    · have hp := (hg.up k (by omega) hk).2
      rw [over_up hg hk hmk] at h1
      have hnm := over_le h2
      have hmp := over_le h1
      rw [over_up hg hk (by omega)]
      exact ih _ hp (by omega) h1 h2
    · rw [over_end hmk] at h1
      simp at h1
      subst h1
      exact h2
/-- of two that are over one thing, one is over the other -/
theorem over_chain : ∀ (k : Nat), k < g.length → overG g n k = true → overG g m k = true → n ≤ m → overG g n m = true := by
  intro k
  induction k using Nat.strongRecOn with
  | _ k ih =>
    intro hk h1 h2 hnm
    by_cases hmk : m < k
    · have hp := (hg.up k (by omega) hk).2
      rw [over_up hg hk hmk] at h2
      rw [over_up hg hk (by omega)] at h1
      exact ih _ hp (by omega) h1 h2 hnm
    · rw [over_end hmk] at h2
      simp at h2
      subst h2
      exact h1
end

/-! sets of things -/
def numsF (p : Nat → Bool) (n : Nat) : List Int := ((List.range n).filter p).map Int.ofNat
theorem mem_numsF {p : Nat → Bool} {n : Nat} {x : Int} : x ∈ numsF p n ↔ ∃ k : Nat, k < n ∧ p k = true ∧ x = k := by
  unfold numsF
  rw [List.mem_map]
  constructor
  · rintro ⟨k, hk, rfl⟩
    rw [List.mem_filter, List.mem_range] at hk
    exact ⟨k, hk.1, hk.2, rfl⟩
  · rintro ⟨k, hk, hp, rfl⟩
    exact ⟨k, by rw [List.mem_filter, List.mem_range]; exact ⟨hk, hp⟩, rfl⟩
theorem mem_numsF_nat {p : Nat → Bool} {n k : Nat} : (k : Int) ∈ numsF p n ↔ k < n ∧ p k = true := by
  rw [mem_numsF]
  constructor
  · rintro ⟨j, h1, h2, h3⟩
    obtain rfl : k = j := by omega
    exact ⟨h1, h2⟩
  · rintro ⟨h1, h2⟩
    exact ⟨k, h1, h2, rfl⟩
theorem numsF_succ (p : Nat → Bool) (n : Nat) : numsF p (n + 1) = numsF p n ++ (if p n = true then [(n : Int)] else []) := by
  unfold numsF
  rw [List.range_succ, List.filter_append, List.map_append]
  congr 1
  by_cases h : p n = true
  · rw [if_pos h]; simp [h]
  · rw [if_neg h]; simp [h]
theorem numsF_yes {p : Nat → Bool} {n : Nat} (h : p n = true) : numsF p (n + 1) = numsF p n ++ [(n : Int)] := by rw [numsF_succ, if_pos h]
theorem numsF_no {p : Nat → Bool} {n : Nat} (h : p n = false) : numsF p (n + 1) = numsF p n := by rw [numsF_succ, if_neg (by rw [h]; simp), List.append_nil]
theorem numsF_len (p : Nat → Bool) (n : Nat) : (numsF p n).length ≤ n := by
  unfold numsF
  rw [List.length_map]
  have := List.length_filter_le p (List.range n)
  rw [List.length_range] at this
  exact this
theorem numsF_pick (p : Nat → Bool) (n : Nat) : ∀ (_ : n ≤ 256), numsF p n = pickN (fun x => decide (0 ≤ x) && p x.toNat) 0 n := by
  intro hn
  induction n with
  | zero => rfl
  | succ n ih =>
    rw [numsF_succ, pickN_snoc, ih (by omega)]
    simp
theorem numsF_right (p : Nat → Bool) {n : Nat} (hn : n ≤ 256) : rightB (numsF p n) = true := by
  rw [numsF_pick p n hn]; exact right_pickN _ n 0 (by omega)
theorem numsF_ext {p q : Nat → Bool} {n : Nat} (h : ∀ k, k < n → p k = q k) : numsF p n = numsF q n := by
  unfold numsF
  congr 1
  exact List.filter_congr fun k hk => h k (List.mem_range.1 hk)

/-- thing n and all that is part of it; n and what it is part of -/
def underL (g : Gr) (n : Int) : List Int := if rightG g = true ∧ 0 ≤ n ∧ n < g.length then numsF (overG g n.toNat) g.length else []
def aboveL (g : Gr) (n : Int) : List Int := if rightG g = true ∧ 0 ≤ n ∧ n < g.length then numsF (fun k => overG g k n.toNat) (n.toNat + 1) else []
def nodeG (g : Gr) (n : Int) : Int :=
  if rightG g = true ∧ 0 ≤ n ∧ n < g.length then (if gk g n.toNat = 2 then n else if 2 < gk g n.toNat then gu g n.toNat else -1) else -1
def nodesL (g : Gr) : List Int := if rightG g = true then numsF (fun k => gk g k == 2) g.length else []
/-- how many of the first n things are in the set and of this kind -/
def cntK (g : Gr) (l : List Int) (c : Int) (n : Nat) : Nat := ((List.range n).filter fun k : Nat => hasB l (k : Int) && gk g k == c).length
def kc (g : Gr) (l : List Int) (c : Int) : Int := if rightG g = true then (cntK g l c g.length : Int) else 0
theorem cntK_succ (g : Gr) (l : List Int) (c : Int) (n : Nat) : cntK g l c (n + 1) = cntK g l c n + (if hasB l n = true ∧ gk g n = c then 1 else 0) := by
  unfold cntK
  rw [List.range_succ, List.filter_append, List.length_append]
  congr 1
  by_cases h : hasB l n = true ∧ gk g n = c
  · rw [if_pos h]; simp [h.1, h.2]
  · rw [if_neg h]
    rw [List.filter_eq_nil_iff.2]
    · rfl
    · intro x hx
      simp at hx
      subst hx
      intro h'
      rw [Bool.and_eq_true, beq_iff_eq] at h'
      exact h h'
theorem cntK_le (g : Gr) (l : List Int) (c : Int) (n : Nat) : cntK g l c n ≤ n := by
  unfold cntK
  have := List.length_filter_le (fun k : Nat => hasB l (k : Int) && gk g k == c) (List.range n)
  rw [List.length_range] at this
  exact this
/-- is a thing above one of the set? -/
def anyOver (g : Gr) (l : List Int) (n : Nat) : Bool := l.any fun x => overG g n x.toNat
def wholeOk (g : Gr) (l : List Int) : Bool := rightG g && rightB l && decide (∀ x ∈ l, x < g.length)
def wholeL (g : Gr) (l : List Int) : List Int := if wholeOk g l = true then numsF (anyOver g l) g.length else []

end Go.Proofs.YtglboolijhekkaaDoor

namespace Go.Proofs.YtglboolijhekkaaDoor
open Go.RowKit

/-- a thing as an element: three cells -/
def ETh : Elem Th := fun _ _ x vs => vs = [.int .i64 x.kind, .int .i64 x.up, .string x.tag] ∧ I64 x.kind ∧ I64 x.up ∧ x.tag.size ≤ maxLen
theorem eth_steady : Steady ETh := ⟨fun h _ _ => h⟩
/-- '.slice A n c' reads as the things g, all below block B -/
def RG (w : World) (B : Nat) (A : Option Addr) (n : Nat) (g : Gr) : Prop := RN ETh 3 w (Lt B) A n g
section
variable {w w' : World} {B n : Nat} {A : Option Addr} {g : Gr}
theorem RG.len (h : RG w B A n g) : g.length = n := h.1
theorem RG.nil : RG w B A 0 [] := RN.nil
theorem RG.next (h : RG w w.heap.size A n g) (hb : Below w.heap.size w w') : RG w' w'.heap.size A n g := RN.next eth_steady h hb
theorem RG.below (h : RG w B A n g) (hb : Below B w w') : RG w' B A n g := RN.below eth_steady h hb
theorem RG.drewN (h : RG w B A n g) (k : Nat) : RG (w.drewN k) B A n g := RN.drewN h eth_steady k
theorem RG.one (h : RG w B A n g) {k : Nat} (hk : k < n) : ∃ b off, A = some ⟨b, off, none⟩ ∧ b < B ∧ w.cell? ⟨b, off + k * 3, none⟩ = some (.int .i64 (gk g k)) ∧ w.cell? ⟨b, off + k * 3 + 1, none⟩ = some (.int .i64 (gu g k)) ∧ w.cell? ⟨b, off + k * 3 + 2, none⟩ = some (.string (gt g k)) ∧ (I64 (gk g k) ∧ I64 (gu g k) ∧ (gt g k).size ≤ maxLen) := by
  have hl : k < g.length := by rw [h.1]; exact hk
  obtain ⟨b, off, vs, e, hb, _, hc, hv⟩ := RN.at h (List.getElem?_eq_getElem hl)
  obtain ⟨hv', hb1⟩ := hv
  subst hv'
  have hg : g.getD k th0 = g[k] := by rw [List.getD, List.getElem?_eq_getElem hl]; rfl
  refine ⟨b, off, e, hb, ?_, ?_, ?_, by unfold gk gu gt; rw [hg]; exact hb1⟩
  · have := hc 0 _ rfl; unfold gk; rw [hg]; exact this
  · have := hc 1 _ rfl; unfold gu; rw [hg]; exact this
  · have := hc 2 _ rfl; unfold gt; rw [hg]; exact this
end

/-- the counts of five kinds, as an array's value -/
def kVal (g : Gr) (l : List Int) : Value := .agg #[.int .i64 (kc g l 0), .int .i64 (kc g l 1), .int .i64 (kc g l 2), .int .i64 (kc g l 3), .int .i64 (kc g l 4)]

end Go.Proofs.YtglboolijhekkaaDoor

namespace Go.Proofs.YtglboolijhekkaaDoor
open Go.ChangeShapes Go.WideShapes Go.ChangeAt Go.RowKit Go.Deep

theorem open_thing {H : Type} {enc : TypeId × Value → H} {W : World} {cs : List Value} {x : DataW H × List MemPlace} {fuel : Nat}
    (hl : cs.length = 3) (hf : DataW.trod enc Tryd.prog W 0 (fun _ => true) true fuel 44 cs = some x) : ∃ a, ETh W (Lt W.heap.size) a cs := by
  obtain ⟨ys, n', hn', hy, hlen, hyl, hfs⟩ := DataW.trod_struct Tryd.underlying44 hf
  obtain ⟨v0, v1, v2, rfl⟩ : ∃ v0 v1 v2, cs = [v0, v1, v2] := by
    match cs, hl with
    | [a, b, c], _ => exact ⟨a, b, c, rfl⟩
  have c3 : Tryd.prog.cellsOf 3 = 1 := by kernel_rfl
  have c9 : Tryd.prog.cellsOf 9 = 1 := by kernel_rfl
  have h0 : DataW.trod enc Tryd.prog W 0 (fun _ => true) true n' 3 (List.take (Tryd.prog.cellsOf 3) [v0, v1, v2]) = ys[0]? := hfs 0 _ rfl
  have h1 : DataW.trod enc Tryd.prog W 0 (fun _ => true) true n' 3 (List.take (Tryd.prog.cellsOf 3) [v1, v2]) = ys[1]? := hfs 1 _ rfl
  have h2 : DataW.trod enc Tryd.prog W 0 (fun _ => true) true n' 9 (List.take (Tryd.prog.cellsOf 9) [v2]) = ys[2]? := hfs 2 _ rfl
  rw [c3] at h0 h1
  rw [c9] at h2
  obtain ⟨y0, y1, y2, rfl⟩ : ∃ y0 y1 y2, ys = [y0, y1, y2] := by
    match ys, hyl with
    | [a, b, c], _ => exact ⟨a, b, c, rfl⟩
  obtain ⟨z0, e0, _, w0⟩ := DataW.trod_int Tryd.underlying3 h0
  obtain ⟨z1, e1, _, w1⟩ := DataW.trod_int Tryd.underlying3 h1
  obtain ⟨s, e2, _, w2⟩ := DataW.trod_string Tryd.underlying9 h2
  simp at e0 e1 e2
  subst e0 e1 e2
  exact ⟨⟨z0, z1, s⟩, rfl, i64_wf w0, i64_wf w1, w2⟩
theorem open_RG {H : Type} {enc : TypeId × Value → H} {W : World} {b0 : Nat} {v : Value} {d : DataW H} {ps : List MemPlace}
    (hval : Value.okWide Tryd.prog W .any b0 22 v) (h : DataW.Trod enc Tryd.prog W 0 (fun _ => true) true 22 v d ps) :
    ∃ A n c g, v = .slice A n c ∧ RG W W.heap.size A n g ∧ (A = none → c = 0) ∧ n ≤ c ∧ n ≤ maxLen := by
  obtain ⟨fuel, hf⟩ := h
  obtain ⟨a', n', c', rfl⟩ := okWide_slice Tryd.underlying22 hval
  obtain ⟨A, n, c, xs, e, hr, h1, h2, h3⟩ := open_RN (E := ETh) (C := 3) Tryd.underlying22 (by kernel_rfl) (by omega) (fun n cs y hl ht => open_thing hl ht) hf
  simp [Value.cells] at e
  obtain ⟨rfl, rfl, rfl⟩ := e
  exact ⟨_, _, _, xs, rfl, hr, h1, h2, h3⟩

end Go.Proofs.YtglboolijhekkaaDoor

namespace Go.Proofs.YtglboolijhekkaaDoor
open Go.RowKit

def nearZ (x : Int) : Int := if x < 0 then 0 else if 4611686018427387904 < x then 4611686018427387904 else x
def plusZ (t l : Int) : Int := if 4611686018427387904 < nearZ t + nearZ l then 4611686018427387904 else nearZ t + nearZ l
theorem nearZ_range (x : Int) : 0 ≤ nearZ x ∧ nearZ x ≤ 4611686018427387904 := by unfold nearZ; repeat' split; all_goals omega



end Go.Proofs.YtglboolijhekkaaDoor

namespace Go.Proofs.YtglboolijhekkaaDoor

/-- a spec -/
structure Sp where
  nodes : Int
  cores : Int
  gpus : Int
  tag : ByteArray
  whole : Bool
  long : Int
  prio : Int
def sp0 : Sp := ⟨0, 0, 0, ⟨#[]⟩, false, 0, 0⟩
def rightS (s : Sp) : Bool :=
  tagB s.tag && decide ((1 ≤ s.nodes ∧ s.nodes ≤ 64) ∧ (0 ≤ s.cores ∧ s.cores ≤ 64) ∧ (0 ≤ s.gpus ∧ s.gpus ≤ 64) ∧ ¬ (s.cores = 0 ∧ s.gpus = 0 ∧ s.whole = false) ∧ (1 ≤ s.long ∧ s.long ≤ 1099511627776) ∧ (-1000 ≤ s.prio ∧ s.prio ≤ 1000))
/-- how many cores and gpus in all -/
def sizeS (s : Sp) : Int := s.nodes * s.cores + s.nodes * s.gpus
def endsS (s : Sp) (a : Int) : Int := plusZ a (if rightS s = true then s.long else 0)
def aheadS (a b : Sp) : Bool := rightS a && (rightS b && (if a.prio ≠ b.prio then decide (b.prio < a.prio) else if sizeS a ≠ sizeS b then decide (sizeS a < sizeS b) else decide (a.long < b.long)))
def partS (s : Sp) (n : Int) : Sp × Int := if rightS s = false ∨ n < 0 then (sp0, 1) else if s.nodes ≤ n then (sp0, 6) else ({ s with nodes := s.nodes - n }, 0)
def asksS (s : Sp) : Int × Int × Int := if rightS s = true then (s.nodes, s.nodes * s.cores, s.nodes * s.gpus) else (0, 0, 0)

theorem rightS_is {s : Sp} (h : rightS s = true) : tagB s.tag = true ∧ (1 ≤ s.nodes ∧ s.nodes ≤ 64) ∧ (0 ≤ s.cores ∧ s.cores ≤ 64) ∧ (0 ≤ s.gpus ∧ s.gpus ≤ 64) ∧ ¬ (s.cores = 0 ∧ s.gpus = 0 ∧ s.whole = false) ∧ (1 ≤ s.long ∧ s.long ≤ 1099511627776) ∧ (-1000 ≤ s.prio ∧ s.prio ≤ 1000) := by
  unfold rightS at h
  rwa [Bool.and_eq_true, decide_eq_true_eq] at h
theorem rightS_no {s : Sp} (h : ¬ (tagB s.tag = true ∧ (1 ≤ s.nodes ∧ s.nodes ≤ 64) ∧ (0 ≤ s.cores ∧ s.cores ≤ 64) ∧ (0 ≤ s.gpus ∧ s.gpus ≤ 64) ∧ ¬ (s.cores = 0 ∧ s.gpus = 0 ∧ s.whole = false) ∧ (1 ≤ s.long ∧ s.long ≤ 1099511627776) ∧ (-1000 ≤ s.prio ∧ s.prio ≤ 1000))) : rightS s = false := by
  cases hr : rightS s with
  | false => rfl
  | true => exact absurd (rightS_is hr) h
theorem rightS_mk {s : Sp} (h : tagB s.tag = true ∧ (1 ≤ s.nodes ∧ s.nodes ≤ 64) ∧ (0 ≤ s.cores ∧ s.cores ≤ 64) ∧ (0 ≤ s.gpus ∧ s.gpus ≤ 64) ∧ ¬ (s.cores = 0 ∧ s.gpus = 0 ∧ s.whole = false) ∧ (1 ≤ s.long ∧ s.long ≤ 1099511627776) ∧ (-1000 ≤ s.prio ∧ s.prio ≤ 1000)) : rightS s = true := by
  unfold rightS
  rwa [Bool.and_eq_true, decide_eq_true_eq]
theorem mul_bounds {x y : Int} (h1 : 0 ≤ x) (h2 : x ≤ 64) (h3 : 0 ≤ y) (h4 : y ≤ 64) : 0 ≤ x * y ∧ x * y ≤ 4096 := by
  refine ⟨Int.mul_nonneg h1 h3, ?_⟩
  have := Int.mul_le_mul h2 h4 h3 (by omega)
  omega
theorem sizeS_bounds {s : Sp} (h : rightS s = true) : 0 ≤ sizeS s ∧ sizeS s ≤ 8192 := by
  obtain ⟨_, h1, h2, h3, _⟩ := rightS_is h
  have a := mul_bounds (by omega) h1.2 h2.1 h2.2
  have b := mul_bounds (x := s.nodes) (by omega) h1.2 h3.1 h3.2
  unfold sizeS
  omega
theorem aheadS_iff {a b : Sp} : aheadS a b = true ↔ rightS a = true ∧ rightS b = true ∧ (b.prio < a.prio ∨ (a.prio = b.prio ∧ (sizeS a < sizeS b ∨ (sizeS a = sizeS b ∧ a.long < b.long)))) := by
  unfold aheadS
  rw [Bool.and_eq_true, Bool.and_eq_true]
  refine and_congr_right fun _ => and_congr_right fun _ => ?_
  split
  · rw [decide_eq_true_eq]; omega
  · split
    · rw [decide_eq_true_eq]; omega
    · rw [decide_eq_true_eq]; omega
theorem ahead_self (a : Sp) : aheadS a a = false := by
  rw [← Bool.not_eq_true, aheadS_iff]; omega
theorem ahead_both (a b : Sp) : ¬ (aheadS a b = true ∧ aheadS b a = true) := by
  rw [aheadS_iff, aheadS_iff]; omega
theorem ahead_on {a b c : Sp} (h1 : aheadS a b = true) (h2 : aheadS b c = true) : aheadS a c = true := by
  rw [aheadS_iff] at *
  obtain ⟨r1, _, h1⟩ := h1
  obtain ⟨_, r3, h2⟩ := h2
  exact ⟨r1, r3, by omega⟩
theorem ahead_alike {a b c : Sp} (ha : rightS a = true) (hb : rightS b = true) (hc : rightS c = true) (h1 : aheadS a b = false) (h2 : aheadS b a = false) (h3 : aheadS b c = false) (h4 : aheadS c b = false) : aheadS a c = false ∧ aheadS c a = false := by
  rw [← Bool.not_eq_true, aheadS_iff] at *
  rw [← Bool.not_eq_true, aheadS_iff]
  simp only [ha, hb, hc, true_and] at *
  omega
theorem ahead_round {a b c : Sp} (h : ¬ (rightS a = true ∧ rightS b = true ∧ rightS c = true)) : ¬ (aheadS a b = true ∧ aheadS b c = true ∧ aheadS c a = true) := by
  rw [aheadS_iff, aheadS_iff, aheadS_iff]
  rintro ⟨⟨h1, h2, _⟩, ⟨_, h3, _⟩, _⟩
  exact h ⟨h1, h2, h3⟩
theorem plus_rise {x y l : Int} (h : x ≤ y) : plusZ x l ≤ plusZ y l := by unfold plusZ nearZ; repeat' split; all_goals omega
theorem plus_near {x l : Int} (h0 : 0 ≤ x) (h1 : x ≤ 4294967295) (hl : 0 ≤ l) (hl2 : l ≤ 1099511627776) : plusZ x l = x + l := by unfold plusZ nearZ; repeat' split; all_goals omega
theorem plus_never {l : Int} (hl : 0 ≤ l) : plusZ 4611686018427387904 l = 4611686018427387904 := by unfold plusZ nearZ; repeat' split; all_goals omega
theorem partS_ok {s : Sp} {n : Int} (hr : rightS s = true) (hn : 0 ≤ n) : partS s n = if s.nodes ≤ n then (sp0, 6) else ({ s with nodes := s.nodes - n }, 0) := by
  unfold partS
  rw [if_neg]
  rintro (h | h)
  · rw [hr] at h; cases h
  · omega
/-- a part of a part is one part -/
theorem part_part {s a : Sp} {x y : Int} (hx : 0 ≤ x) (hy : 0 ≤ y) (h : partS s x = (a, 0)) : rightS a = true ∧ a.nodes = s.nodes - x ∧ a.cores = s.cores ∧ a.gpus = s.gpus ∧ rightS s = true ∧ partS a y = partS s (x + y) := by
  unfold partS at h
  split at h
  · injection h with _ h2; cases h2
  · rename_i h0
    split at h
    · injection h with _ h2; cases h2
    · rename_i h1
      injection h with h2
      subst h2
      have hr : rightS s = true := by
        cases hr : rightS s with
        | true => rfl
        | false => exact absurd (.inl hr) h0
      have hs := rightS_is hr
      have hr' : rightS { s with nodes := s.nodes - x } = true := rightS_mk ⟨hs.1, ⟨by show 1 ≤ s.nodes - x; omega, by show s.nodes - x ≤ 64; omega⟩, hs.2.2⟩
      refine ⟨hr', rfl, rfl, rfl, hr, ?_⟩
      rw [partS_ok hr' hy, partS_ok hr (by omega)]
      by_cases hlt : s.nodes ≤ x + y
      · rw [if_pos (by show s.nodes - x ≤ y; omega), if_pos hlt]
      · rw [if_neg (by show ¬ s.nodes - x ≤ y; omega), if_neg hlt]
        show (({ s with nodes := s.nodes - x - y } : Sp), (0 : Int)) = ({ s with nodes := s.nodes - (x + y) }, 0)
        rw [show s.nodes - x - y = s.nodes - (x + y) by omega]

end Go.Proofs.YtglboolijhekkaaDoor

namespace Go.Proofs.YtglboolijhekkaaDoor
open Go.RowKit

/-- a spec's value -/
def spV (s : Sp) : Value := .agg #[.int .i64 s.nodes, .int .i64 s.cores, .int .i64 s.gpus, .string s.tag, .bool s.whole, .int .i64 s.long, .int .i64 s.prio]
/-- a block with a spec's cells -/
def spO (s : Sp) : Obj := .cells #[.int .i64 s.nodes, .int .i64 s.cores, .int .i64 s.gpus, .string s.tag, .bool s.whole, .int .i64 s.long, .int .i64 s.prio] 25
/-- a spec as it may be handed in -/
structure SAsk (s : Sp) : Prop where
  nodes : I64 s.nodes
  cores : I64 s.cores
  gpus : I64 s.gpus
  tag : s.tag.size ≤ maxLen
  long : I64 s.long
  prio : I64 s.prio
/-- block g holds the spec s -/
structure BoxS (wr : World) (g : Nat) (s : Sp) : Prop where
  lt : g < wr.heap.size
  at' : wr.heap[g]? = some (spO s)
section
variable {w wr w' : World} {g : Nat} {s : Sp}
theorem BoxS.next (h : BoxS wr g s) (hb : Below wr.heap.size wr w') : BoxS w' g s := ⟨Nat.lt_of_lt_of_le h.lt hb.size, (hb.block _ h.lt).trans h.at'⟩
theorem BoxS.alloc (h : BoxS wr g s) (o : Obj) : BoxS (wr.alloc o) g s := h.next ((Below.refl _ _).alloc (Nat.le_refl _) _)
theorem BoxS.drewN (h : BoxS wr g s) (q : Nat) : BoxS (wr.drewN q) g s := h.next (bel_drew wr q)
theorem box_new (w : World) (s : Sp) : BoxS (w.alloc (spO s)) w.heap.size s := ⟨by simp, heap_alloc_new w _⟩
theorem BoxS.c0 (h : BoxS wr g s) : wr.cell? ⟨g, 0, none⟩ = some (.int .i64 s.nodes) := (cell_of_row wr g 0 _ _ (0, 0) h.at').trans rfl
theorem BoxS.c1 (h : BoxS wr g s) : wr.cell? ⟨g, 1, none⟩ = some (.int .i64 s.cores) := (cell_of_row wr g 1 _ _ (0, 0) h.at').trans rfl
theorem BoxS.c2 (h : BoxS wr g s) : wr.cell? ⟨g, 2, none⟩ = some (.int .i64 s.gpus) := (cell_of_row wr g 2 _ _ (0, 0) h.at').trans rfl
theorem BoxS.c3 (h : BoxS wr g s) : wr.cell? ⟨g, 3, none⟩ = some (.string s.tag) := (cell_of_row wr g 3 _ _ (0, 0) h.at').trans rfl
theorem BoxS.c4 (h : BoxS wr g s) : wr.cell? ⟨g, 4, none⟩ = some (.bool s.whole) := (cell_of_row wr g 4 _ _ (0, 0) h.at').trans rfl
theorem BoxS.c5 (h : BoxS wr g s) : wr.cell? ⟨g, 5, none⟩ = some (.int .i64 s.long) := (cell_of_row wr g 5 _ _ (0, 0) h.at').trans rfl
theorem BoxS.c6 (h : BoxS wr g s) : wr.cell? ⟨g, 6, none⟩ = some (.int .i64 s.prio) := (cell_of_row wr g 6 _ _ (0, 0) h.at').trans rfl
theorem BoxS.frozen (h : BoxS wr g s) (j : Nat) : wr.frozen? ⟨g, j, none⟩ = false := frozen_of_row wr g j _ _ h.at'
end
theorem spec_size : (Tryd.prog.info? 25).map (·.size) = some 7 := by kernel_rfl
/-- a whole spec is loaded -/
theorem wpList_load_spec {ops : Array Oper} {rest : List Oper} {o : Oper} {a : Act} {Q : Exit → Act → World → Prop} {w : World} {g : Nat} {s : Sp} (hgd : o.guard = none) (x : Operand) (ho : o.op = .load 25 x)
    (hm : BoxS w g s) (hx : a.eval x = .pointer (some ⟨g, 0, none⟩))
    (h : wpList Tryd.prog ops Q rest (a.put o.dst (spV s)) w) : wpList Tryd.prog ops Q (o :: rest) a w :=
  wpList_load_row hgd _ x ho g hx _ _ (0, 0) _ hm.at' Tryd.underlying25 rfl spec_size h

end Go.Proofs.YtglboolijhekkaaDoor

namespace Go.Proofs.YtglboolijhekkaaDoor
open Go.ChangeShapes Go.WideShapes Go.ChangeAt Go.RowKit Go.Deep

theorem open_spec {H : Type} {enc : TypeId × Value → H} {W : World} {cs : List Value} {x : DataW H × List MemPlace} {fuel : Nat}
    (hl : cs.length = 7) (hf : DataW.trod enc Tryd.prog W 0 (fun _ => true) true fuel 25 cs = some x) :
    ∃ s : Sp, cs = [.int .i64 s.nodes, .int .i64 s.cores, .int .i64 s.gpus, .string s.tag, .bool s.whole, .int .i64 s.long, .int .i64 s.prio] ∧ SAsk s := by
  obtain ⟨ys, n', hn', hy, hlen, hyl, hfs⟩ := DataW.trod_struct Tryd.underlying25 hf
  obtain ⟨v0, v1, v2, v3, v4, v5, v6, rfl⟩ : ∃ v0 v1 v2 v3 v4 v5 v6, cs = [v0, v1, v2, v3, v4, v5, v6] := by
    match cs, hl with
    | [a, b, c, d, e, f, g], _ => exact ⟨a, b, c, d, e, f, g, rfl⟩
  have ci : Tryd.prog.cellsOf 3 = 1 := by kernel_rfl
  have cl : Tryd.prog.cellsOf 2 = 1 := by kernel_rfl
  have cs' : Tryd.prog.cellsOf 9 = 1 := by kernel_rfl
  have cb : Tryd.prog.cellsOf 4 = 1 := by kernel_rfl
  have h0 : DataW.trod enc Tryd.prog W 0 (fun _ => true) true n' 3 (List.take (Tryd.prog.cellsOf 3) [v0, v1, v2, v3, v4, v5, v6]) = ys[0]? := hfs 0 _ rfl
  have h1 : DataW.trod enc Tryd.prog W 0 (fun _ => true) true n' 3 (List.take (Tryd.prog.cellsOf 3) [v1, v2, v3, v4, v5, v6]) = ys[1]? := hfs 1 _ rfl
  have h2 : DataW.trod enc Tryd.prog W 0 (fun _ => true) true n' 3 (List.take (Tryd.prog.cellsOf 3) [v2, v3, v4, v5, v6]) = ys[2]? := hfs 2 _ rfl
  have h3 : DataW.trod enc Tryd.prog W 0 (fun _ => true) true n' 9 (List.take (Tryd.prog.cellsOf 9) [v3, v4, v5, v6]) = ys[3]? := hfs 3 _ rfl
  have h4 : DataW.trod enc Tryd.prog W 0 (fun _ => true) true n' 4 (List.take (Tryd.prog.cellsOf 4) [v4, v5, v6]) = ys[4]? := hfs 4 _ rfl
  have h5 : DataW.trod enc Tryd.prog W 0 (fun _ => true) true n' 2 (List.take (Tryd.prog.cellsOf 2) [v5, v6]) = ys[5]? := hfs 5 _ rfl
  have h6 : DataW.trod enc Tryd.prog W 0 (fun _ => true) true n' 3 (List.take (Tryd.prog.cellsOf 3) [v6]) = ys[6]? := hfs 6 _ rfl
  rw [ci] at h0 h1 h2 h6
  rw [cl] at h5
  rw [cs'] at h3
  rw [cb] at h4
  obtain ⟨y0, y1, y2, y3, y4, y5, y6, rfl⟩ : ∃ y0 y1 y2 y3 y4 y5 y6, ys = [y0, y1, y2, y3, y4, y5, y6] := by
    match ys, hyl with
    | [a, b, c, d, e, f, g], _ => exact ⟨a, b, c, d, e, f, g, rfl⟩
  obtain ⟨z0, e0, _, w0⟩ := DataW.trod_int Tryd.underlying3 h0
  obtain ⟨z1, e1, _, w1⟩ := DataW.trod_int Tryd.underlying3 h1
  obtain ⟨z2, e2, _, w2⟩ := DataW.trod_int Tryd.underlying3 h2
  obtain ⟨z3, e3, _, w3⟩ := DataW.trod_string Tryd.underlying9 h3
  obtain ⟨z4, e4, _⟩ := DataW.trod_bool Tryd.underlying4 h4
  obtain ⟨z5, e5, _, w5⟩ := DataW.trod_int Tryd.underlying2 h5
  obtain ⟨z6, e6, _, w6⟩ := DataW.trod_int Tryd.underlying3 h6
  simp at e0 e1 e2 e3 e4 e5 e6
  subst e0 e1 e2 e3 e4 e5 e6
  exact ⟨⟨z0, z1, z2, z3, z4, z5, z6⟩, rfl, ⟨i64_wf w0, i64_wf w1, i64_wf w2, w3, i64_wf w5, i64_wf w6⟩⟩
theorem open_S {H : Type} {enc : TypeId × Value → H} {W : World} {b0 : Nat} {v : Value} {d : DataW H} {ps : List MemPlace}
    (hval : Value.okWide Tryd.prog W .any b0 25 v) (h : DataW.Trod enc Tryd.prog W 0 (fun _ => true) true 25 v d ps) :
    ∃ s : Sp, v = .agg #[.int .i64 s.nodes, .int .i64 s.cores, .int .i64 s.gpus, .string s.tag, .bool s.whole, .int .i64 s.long, .int .i64 s.prio] ∧ SAsk s := by
  obtain ⟨fuel, hf⟩ := h
  obtain ⟨cs, rfl, hsz⟩ := okWide_struct Tryd.underlying25 hval
  have c7 : Tryd.prog.cellsOf 25 = 7 := by kernel_rfl
  obtain ⟨s, hs, ha⟩ := open_spec (by simpa [Value.cells] using hsz.trans c7) hf
  refine ⟨s, ?_, ha⟩
  congr 1
  apply Array.ext'
  simpa [Value.cells] using hs

end Go.Proofs.YtglboolijhekkaaDoor

namespace Go.Proofs.YtglboolijhekkaaDoor

end Go.Proofs.YtglboolijhekkaaDoor

namespace Go.Proofs.YtglboolijhekkaaDoor
open Go.RowKit

theorem getD_mem_i64 (xs : List Int) (h : ∀ x ∈ xs, -9223372036854775808 ≤ x ∧ x ≤ 9223372036854775807) (j : Nat) : -9223372036854775808 ≤ xs.getD j 0 ∧ xs.getD j 0 ≤ 9223372036854775807 := by
  by_cases hj : j < xs.length
  · have : xs.getD j 0 = xs[j] := by simp [List.getD, hj]
    rw [this]; exact h _ (List.getElem_mem hj)
  · have : xs.getD j 0 = 0 := by simp [List.getD, hj]
    omega

def lastOf (xs : List Int) (k : Nat) : Int := if k = 0 then -1 else xs.getD (k - 1) 0
theorem right_step (xs : List Int) (k : Nat) (hpre : ∀ i, i < k → okAt xs i) : okAt xs k ↔ (lastOf xs k < xs.getD k 0 ∧ xs.getD k 0 < 256) := by
  unfold lastOf
  rcases Nat.eq_zero_or_pos k with rfl | hp
  · unfold okAt; simp; omega
  · have h := hpre (k - 1) (by omega)
    rw [if_neg (by omega)]
    unfold okAt at h ⊢
    omega

set_option maxHeartbeats 400000 in
theorem right_any (A : Option Addr) (n c : Nat) (xs : List Int) (w : World) (B : Nat) (hr : RI w B A n xs) (hn : n ≤ maxLen) :
    Calls Tryd.prog 16 #[.slice A n c] w fun e w' => e = .returned (.bool (rightB xs)) ∧ w = w' := by
  unfold maxLen at hn
  have hlen := hr.1
  have HLEN := Lib.hid hlen
  clear hlen
  go_enter Tryd.func16, Tryd.ntmps16
  go_wp2
  go_loop [3, 8] (fun l i => ∃ k : Nat, k ≤ n ∧ i = .int .i64 k ∧ l = .int .i64 (lastOf xs k) ∧ (∀ i, i < k → okAt xs i)) (fun _ i => n - (intOf i).toNat)
  case atStart => exact ⟨0, Nat.zero_le _, rfl, rfl, fun i hi => absurd hi (by omega)⟩
  case round =>
    obtain ⟨k, hk, rfl, rfl, hpre⟩ := hrel
    have HP := Lib.hid hpre
    clear hpre
    by_cases hlt : k < n
    · obtain ⟨b, off, rfl, hb, hc⟩ := hr.2 (by omega)
      have hck := hc k hlt
      have hst := Lib.hid (right_step xs k HP.out)
      clear hc hr
      by_cases hok : lastOf xs k < xs.getD k 0 ∧ xs.getD k 0 < 256
      · obtain ⟨h1, h2⟩ := hok
        have g1 : ¬ xs.getD k 0 ≤ lastOf xs k := by omega
        have g2 : ¬ 256 ≤ xs.getD k 0 := by omega
        generalize hx : xs.getD k 0 = x at *
        generalize hl : lastOf xs k = l at *
        have HX := Lib.hid hx
        have HL := Lib.hid hl
        clear hx hl
        go_wp2
        go_round
        case rel =>
          refine ⟨k + 1, by omega, by go_num, ?_, ?_⟩
          · unfold lastOf
            rw [if_neg (by omega), Nat.add_sub_cancel, HX.out]
          · intro i hi
            rcases Nat.lt_or_ge i k with h | h
            · exact HP.out i h
            · obtain rfl : i = k := by omega
              exact hst.out.2 ⟨h1, h2⟩
        case measure => simp [intOf]; omega
      · have hbad := Lib.hid (rightB_false xs k (by rw [HLEN.out]; exact hlt) (fun h => hok (hst.out.1 h)))
        clear hst HP
        generalize xs.getD k 0 = x at *
        generalize lastOf xs k = l at *
        by_cases h1 : x ≤ l
        · clear hok
          go_wp2
          go_ret
          exact ⟨ret_bool hbad.out, rfl⟩
        · have h2 : 256 ≤ x := by omega
          clear hok
          go_wp2
          go_ret
          exact ⟨ret_bool hbad.out, rfl⟩
    · have hall : Hid (rightB xs = true) := Lib.hid ((rightB_iff xs).2 fun i hi => HP.out i (by have := HLEN.out; omega))
      clear hr
      go_wp2
      go_ret
      exact ⟨ret_bool hall.out, rfl⟩




end Go.Proofs.YtglboolijhekkaaDoor

namespace Go.Proofs.YtglboolijhekkaaDoor

/-- the number whose bit b, of the first k ones, is q b -/
def bitsTo (q : Nat → Bool) : Nat → Nat
  | 0 => 0
  | k + 1 => bitsTo q k ||| (if q k then 2 ^ k else 0)
theorem testBit_bitsTo (q : Nat → Bool) (j : Nat) : ∀ k, (bitsTo q k).testBit j = (decide (j < k) && q j)
  | 0 => by simp [bitsTo]
  | k + 1 => by
    have ih := testBit_bitsTo q j k
    unfold bitsTo
    rw [Nat.testBit_or, ih]
    by_cases hj : j = k
    · subst hj
      by_cases h : q j = true <;> simp [h]
    · have e : (if q k then 2 ^ k else 0 : Nat).testBit j = false := by
        split
        · rw [Nat.testBit_two_pow]; simp; omega
        · simp
      rw [e, Bool.or_false]
      have : decide (j < k + 1) = decide (j < k) := by
        rw [decide_eq_decide]; omega
      rw [this]
theorem bitsTo_lt (q : Nat → Bool) : ∀ k, bitsTo q k < 2 ^ k
  | 0 => by simp [bitsTo]
  | k + 1 => by
    have ih := bitsTo_lt q k
    unfold bitsTo
    refine Nat.or_lt_two_pow (by have : 2 ^ k < 2 ^ (k + 1) := Nat.pow_lt_pow_right (by omega) (by omega); omega) ?_
    split
    · exact Nat.pow_lt_pow_right (by omega) (by omega)
    · exact Nat.two_pow_pos _
theorem bitsTo_congr {q r : Nat → Bool} {k : Nat} (h : ∀ j, j < k → q j = r j) : bitsTo q k = bitsTo r k := by
  refine Nat.eq_of_testBit_eq fun j => ?_
  rw [testBit_bitsTo, testBit_bitsTo]
  by_cases hj : j < k
  · rw [h j hj]
  · simp [hj]
theorem bitsTo_or (q r : Nat → Bool) (k : Nat) : bitsTo q k ||| bitsTo r k = bitsTo (fun j => q j || r j) k := by
  refine Nat.eq_of_testBit_eq fun j => ?_
  rw [Nat.testBit_or, testBit_bitsTo, testBit_bitsTo, testBit_bitsTo]
  cases decide (j < k) <;> simp
theorem bitsTo_and (q r : Nat → Bool) (k : Nat) : bitsTo q k &&& bitsTo r k = bitsTo (fun j => q j && r j) k := by
  refine Nat.eq_of_testBit_eq fun j => ?_
  rw [Nat.testBit_and, testBit_bitsTo, testBit_bitsTo, testBit_bitsTo]
  cases decide (j < k) <;> simp
theorem testBit_compl {k b : Nat} (hb : b < 2 ^ k) (j : Nat) : (2 ^ k - 1 - b).testBit j = (decide (j < k) && !b.testBit j) := by
  rw [Nat.sub_sub, Nat.add_comm 1 b]
  exact Nat.testBit_two_pow_sub_succ hb j
theorem bitsTo_andNot (q r : Nat → Bool) (k : Nat) : bitsTo q k &&& (2 ^ k - 1 - bitsTo r k) = bitsTo (fun j => q j && !r j) k := by
  refine Nat.eq_of_testBit_eq fun j => ?_
  rw [Nat.testBit_and, testBit_compl (bitsTo_lt r k), testBit_bitsTo, testBit_bitsTo, testBit_bitsTo]
  cases decide (j < k) <;> simp
theorem bitsTo_zero {q : Nat → Bool} {k : Nat} : bitsTo q k = 0 ↔ ∀ j, j < k → q j = false := by
  constructor
  · intro h j hj
    have := testBit_bitsTo q j k
    rw [h] at this
    simpa [hj] using this.symm
  · intro h
    refine Nat.eq_of_testBit_eq fun j => ?_
    rw [testBit_bitsTo]
    by_cases hj : j < k
    · simp [h j hj]
    · simp [hj]

/-- word i of the set of those that p says yes to -/
def wordOf (p : Int → Bool) (i : Nat) : Nat := bitsTo (fun b => p ((64 * i + b : Nat) : Int)) 64
theorem wordOf_lt (p : Int → Bool) (i : Nat) : wordOf p i < 18446744073709551616 := bitsTo_lt _ 64
theorem wordOf_congr {p q : Int → Bool} {i : Nat} (h : ∀ b : Nat, b < 64 → p ((64 * i + b : Nat) : Int) = q ((64 * i + b : Nat) : Int)) : wordOf p i = wordOf q i := bitsTo_congr h
theorem wordOf_or (p q : Int → Bool) (i : Nat) : wordOf p i ||| wordOf q i = wordOf (fun n => p n || q n) i := bitsTo_or _ _ _
theorem wordOf_and (p q : Int → Bool) (i : Nat) : wordOf p i &&& wordOf q i = wordOf (fun n => p n && q n) i := bitsTo_and _ _ _
theorem wordOf_andNot (p q : Int → Bool) (i : Nat) : wordOf p i &&& (18446744073709551615 - wordOf q i) = wordOf (fun n => p n && !q n) i := bitsTo_andNot _ _ 64

/-- the four words of a set -/
def Four (p : Int → Bool) (a0 a1 a2 a3 : Nat) : Prop := a0 = wordOf p 0 ∧ a1 = wordOf p 1 ∧ a2 = wordOf p 2 ∧ a3 = wordOf p 3

/-- one more number put in -/
theorem wordOf_put (p : Int → Bool) (x i r : Nat) (hr : r < 64) (hx : x = 64 * i + r) : wordOf p i ||| 2 ^ r = wordOf (fun n => p n || n == (x : Int)) i := by
  refine Nat.eq_of_testBit_eq fun j => ?_
  unfold wordOf
  rw [Nat.testBit_or, testBit_bitsTo, testBit_bitsTo, Nat.testBit_two_pow]
  subst hx
  have e : (((64 * i + j : Nat) : Int) == ((64 * i + r : Nat) : Int)) = decide (r = j) := by
    rw [Bool.eq_iff_iff, beq_iff_eq, decide_eq_true_eq]; omega
  show _ = (decide (j < 64) && (p ((64 * i + j : Nat) : Int) || (((64 * i + j : Nat) : Int) == ((64 * i + r : Nat) : Int))))
  rw [e]
  by_cases h : r = j
  · subst h; simp [hr]
  · simp [h]
theorem wordOf_put_other (p : Int → Bool) (x i : Nat) (hx : x / 64 ≠ i) : wordOf (fun n => p n || n == (x : Int)) i = wordOf p i :=
  wordOf_congr fun b hb => by
    have : (((64 * i + b : Nat) : Int) == (x : Int)) = false := by
      rw [← Bool.not_eq_true, beq_iff_eq]; intro e; omega
    rw [this, Bool.or_false]

theorem two_pow_small (r : Nat) (hr : r < 64) : 2 ^ r < 18446744073709551616 := by
  have : (2 : Nat) ^ r < 2 ^ 64 := Nat.pow_lt_pow_right (by omega) hr
  exact this

/-- word i without its bits below t -/
def wordFrom (p : Int → Bool) (i t : Nat) : Nat := bitsTo (fun b => decide (t ≤ b) && p ((64 * i + b : Nat) : Int)) 64
theorem wordFrom_zero (p : Int → Bool) (i : Nat) : wordFrom p i 0 = wordOf p i := bitsTo_congr fun j _ => by simp
theorem wordFrom_lt (p : Int → Bool) (i t : Nat) : wordFrom p i t < 18446744073709551616 := bitsTo_lt _ 64
theorem testBit_wordFrom (p : Int → Bool) (i t j : Nat) : (wordFrom p i t).testBit j = (decide (j < 64) && (decide (t ≤ j) && p ((64 * i + j : Nat) : Int))) := testBit_bitsTo _ _ _

theorem and_pred_testBit (m c j : Nat) : ((2 ^ c * (2 * m + 1)) &&& (2 ^ c * (2 * m + 1) - 1)).testBit j = ((2 ^ c * (2 * m + 1)).testBit j && decide (j ≠ c)) := by
  have hp : 0 < 2 ^ c := Nat.two_pow_pos c
  have e1 : 2 ^ c * (2 * m + 1) = 2 ^ (c + 1) * m + 2 ^ c := by
    rw [Nat.pow_succ, Nat.mul_add, Nat.mul_one, Nat.mul_assoc]
  have hlt : 2 ^ c < 2 ^ (c + 1) := Nat.pow_lt_pow_right (by omega) (by omega)
  have e2 : 2 ^ c * (2 * m + 1) - 1 = 2 ^ (c + 1) * m + (2 ^ c - 1) := by rw [e1]; omega
  rw [Nat.testBit_and, e2, e1, Nat.testBit_two_pow_mul_add _ hlt, Nat.testBit_two_pow_mul_add _ (show 2 ^ c - 1 < 2 ^ (c + 1) by omega)]
  by_cases hj : j < c + 1
  · rw [if_pos hj, if_pos hj, Nat.testBit_two_pow, Nat.testBit_two_pow_sub_one]
    by_cases hjc : j = c
    · subst hjc; simp
    · have : ¬ c = j := fun e => hjc e.symm
      simp [this]
  · rw [if_neg hj, if_neg hj]
    have : j ≠ c := by omega
    simp [this]

/-- what the lowest bit of the rest of a word tells -/
theorem wordFrom_next {p : Int → Bool} {i t : Nat} (h : wordFrom p i t ≠ 0) :
    Lib.ctz 64 (wordFrom p i t) < 64 ∧ t ≤ Lib.ctz 64 (wordFrom p i t) ∧ p ((64 * i + Lib.ctz 64 (wordFrom p i t) : Nat) : Int) = true ∧
    (∀ b, t ≤ b → b < Lib.ctz 64 (wordFrom p i t) → p ((64 * i + b : Nat) : Int) = false) ∧
    wordFrom p i t &&& (wordFrom p i t - 1) = wordFrom p i (Lib.ctz 64 (wordFrom p i t) + 1) := by
  obtain ⟨m, hm, hc⟩ := Lib.ctzFrom_spec 64 (wordFrom p i t) (by omega) (wordFrom_lt p i t)
  have hz : Lib.ctz 64 (wordFrom p i t) = Lib.ctzFrom 64 (wordFrom p i t) := by unfold Lib.ctz; rw [if_neg h]
  rw [hz]
  generalize Lib.ctzFrom 64 (wordFrom p i t) = c at *
  have hlt : 2 ^ c < 2 ^ (c + 1) := Nat.pow_lt_pow_right (by omega) (by omega)
  have bit : ∀ j, j ≤ c → (wordFrom p i t).testBit j = decide (j = c) := fun j hj => by
    have e1 : wordFrom p i t = 2 ^ (c + 1) * m + 2 ^ c := by
      rw [hm, Nat.pow_succ, Nat.mul_add, Nat.mul_one, Nat.mul_assoc]
    rw [e1, Nat.testBit_two_pow_mul_add _ hlt, if_pos (by omega), Nat.testBit_two_pow]
    by_cases hjc : j = c
    · subst hjc; simp
    · have : ¬ c = j := fun e => hjc e.symm
      simp [hjc, this]
  have hbc := bit c (Nat.le_refl _)
  rw [testBit_wordFrom] at hbc
  have hbc' : (decide (c < 64) && (decide (t ≤ c) && p ((64 * i + c : Nat) : Int))) = true := by rw [hbc]; simp
  simp only [Bool.and_eq_true, decide_eq_true_eq] at hbc'
  refine ⟨hc, hbc'.2.1, hbc'.2.2, ?_, ?_⟩
  · intro b hb1 hb2
    have := bit b (by omega)
    rw [testBit_wordFrom] at this
    have h64 : b < 64 := by omega
    have hne : b ≠ c := by omega
    simpa [h64, hb1, hne] using this
  · refine Nat.eq_of_testBit_eq fun j => ?_
    have e := and_pred_testBit m c j
    rw [← hm] at e
    rw [e, testBit_wordFrom, testBit_wordFrom]
    by_cases hj : j ≤ c
    · have hb := bit j hj
      rw [testBit_wordFrom] at hb
      rw [hb]
      have h2 : ¬ c + 1 ≤ j := by omega
      by_cases hjc : j = c
      · simp [hjc]; omega
      · simp [hjc, h2]
    · have h1 : t ≤ j := by omega
      have h2 : c + 1 ≤ j := by omega
      have h3 : j ≠ c := by omega
      simp [h1, h2, h3]

theorem pickN_skip (p : Int → Bool) (m : Nat) : ∀ (d k : Nat), (∀ b, k ≤ b → b < k + d → p ((m + b : Nat) : Int) = false) → pickN p m (k + d) = pickN p m k
  | 0, k, _ => rfl
  | d + 1, k, h => by
    rw [← Nat.add_assoc, pickN_snoc, h (k + d) (by omega) (by omega), pickN_skip p m d k fun b h1 h2 => h b h1 (by omega)]
    simp
theorem wordFrom_done {p : Int → Bool} {i t : Nat} (ht : t ≤ 64) (h : wordFrom p i t = 0) : pickN p 0 (64 * i + t) = pickN p 0 (64 * (i + 1)) := by
  have e : 64 * (i + 1) = (64 * i + t) + (64 - t) := by omega
  rw [e]
  refine (pickN_skip p 0 (64 - t) (64 * i + t) ?_).symm
  intro b h1 h2
  have := bitsTo_zero.1 h (b - 64 * i) (by omega)
  have h3 : t ≤ b - 64 * i := by omega
  have h4 : 64 * i + (b - 64 * i) = 0 + b := by omega
  rw [h4] at this
  simpa [h3] using this
theorem wordFrom_take {p : Int → Bool} {i t : Nat} (h : wordFrom p i t ≠ 0) :
    pickN p 0 (64 * i + (Lib.ctz 64 (wordFrom p i t) + 1)) = pickN p 0 (64 * i + t) ++ [((64 * i + Lib.ctz 64 (wordFrom p i t) : Nat) : Int)] := by
  obtain ⟨h1, h2, h3, h4, -⟩ := wordFrom_next h
  generalize Lib.ctz 64 (wordFrom p i t) = c at *
  rw [← Nat.add_assoc, pickN_snoc, Nat.zero_add, if_pos h3]
  have e : 64 * i + c = (64 * i + t) + (c - t) := by omega
  conv => lhs; lhs; rw [e]
  refine congrArg (· ++ [((64 * i + c : Nat) : Int)]) (pickN_skip p 0 (c - t) (64 * i + t) ?_)
  intro b g1 g2
  have := h4 (b - 64 * i) (by omega) (by omega)
  have h5 : 64 * i + (b - 64 * i) = 0 + b := by omega
  rwa [h5] at this

end Go.Proofs.YtglboolijhekkaaDoor

namespace Go.Proofs.YtglboolijhekkaaDoor
open Go.RowKit

def U64 (a : Nat) : Prop := a < 18446744073709551616
theorem or64 {a b : Nat} (ha : U64 a) (hb : U64 b) : bits .or .u64 (a : Int) (b : Int) = ((a ||| b : Nat) : Int) := u64_or_nat a b ha hb
theorem and64 {a b : Nat} (ha : U64 a) (hb : U64 b) : bits .and .u64 (a : Int) (b : Int) = ((a &&& b : Nat) : Int) := u64_and_nat a b ha hb
/-- the complement of a word -/
def neg64 (b : Nat) : Nat := 18446744073709551615 - b
theorem andNot64 {a b : Nat} (ha : U64 a) (hb : U64 b) : bits .andNot .u64 (a : Int) (b : Int) = ((a &&& neg64 b : Nat) : Int) := u64_andNot_nat a b ha hb

set_option maxHeartbeats 1000000 in
theorem wjoin_any (a0 a1 a2 a3 b0 b1 b2 b3 : Nat) (w : World) (ha0 : U64 a0) (ha1 : U64 a1) (ha2 : U64 a2) (ha3 : U64 a3) (hb0 : U64 b0) (hb1 : U64 b1) (hb2 : U64 b2) (hb3 : U64 b3) :
    Calls Tryd.prog 36 #[.agg #[.int .u64 a0, .int .u64 a1, .int .u64 a2, .int .u64 a3], .agg #[.int .u64 b0, .int .u64 b1, .int .u64 b2, .int .u64 b3]] w fun e w' =>
      e = .returned (.agg #[.int .u64 (a0 ||| b0 : Nat), .int .u64 (a1 ||| b1 : Nat), .int .u64 (a2 ||| b2 : Nat), .int .u64 (a3 ||| b3 : Nat)]) ∧ Below w.heap.size w w' := by
  have e0 := or64 ha0 hb0
  have e1 := or64 ha1 hb1
  have e2 := or64 ha2 hb2
  have e3 := or64 ha3 hb3
  clear ha0 ha1 ha2 ha3 hb0 hb1 hb2 hb3
  go_enter Tryd.func36, Tryd.ntmps36
  go_wp2
  refine wp_loop_rounds 6 ?_
  rw [rounds_succ]; go_wp2
  go_region
  go_wp2
  rw [rounds_succ]; go_wp2
  go_region
  go_wp2
  rw [rounds_succ]; go_wp2
  go_region
  go_wp2
  rw [rounds_succ]; go_wp2
  go_region
  go_wp2
  rw [rounds_succ]; go_wp2
  refine bodyPost_ret (v := .agg #[.int .u64 (a0 ||| b0 : Nat), .int .u64 (a1 ||| b1 : Nat), .int .u64 (a2 ||| b2 : Nat), .int .u64 (a3 ||| b3 : Nat)]) (by simp [results, Tryd.results36, go_sem]) rfl ⟨rfl, ?_⟩
  go_grown

set_option maxHeartbeats 1000000 in
theorem wmeet_any (a0 a1 a2 a3 b0 b1 b2 b3 : Nat) (w : World) (ha0 : U64 a0) (ha1 : U64 a1) (ha2 : U64 a2) (ha3 : U64 a3) (hb0 : U64 b0) (hb1 : U64 b1) (hb2 : U64 b2) (hb3 : U64 b3) :
    Calls Tryd.prog 29 #[.agg #[.int .u64 a0, .int .u64 a1, .int .u64 a2, .int .u64 a3], .agg #[.int .u64 b0, .int .u64 b1, .int .u64 b2, .int .u64 b3]] w fun e w' =>
      e = .returned (.agg #[.int .u64 (a0 &&& b0 : Nat), .int .u64 (a1 &&& b1 : Nat), .int .u64 (a2 &&& b2 : Nat), .int .u64 (a3 &&& b3 : Nat)]) ∧ Below w.heap.size w w' := by
  have e0 := and64 ha0 hb0
  have e1 := and64 ha1 hb1
  have e2 := and64 ha2 hb2
  have e3 := and64 ha3 hb3
  clear ha0 ha1 ha2 ha3 hb0 hb1 hb2 hb3
  go_enter Tryd.func29, Tryd.ntmps29
  go_wp2
  refine wp_loop_rounds 6 ?_
  rw [rounds_succ]; go_wp2
  go_region
  go_wp2
  rw [rounds_succ]; go_wp2
  go_region
  go_wp2
  rw [rounds_succ]; go_wp2
  go_region
  go_wp2
  rw [rounds_succ]; go_wp2
  go_region
  go_wp2
  rw [rounds_succ]; go_wp2
  refine bodyPost_ret (v := .agg #[.int .u64 (a0 &&& b0 : Nat), .int .u64 (a1 &&& b1 : Nat), .int .u64 (a2 &&& b2 : Nat), .int .u64 (a3 &&& b3 : Nat)]) (by simp [results, Tryd.results29, go_sem]) rfl ⟨rfl, ?_⟩
  go_grown

set_option maxHeartbeats 1000000 in
theorem wless_any (a0 a1 a2 a3 b0 b1 b2 b3 : Nat) (w : World) (ha0 : U64 a0) (ha1 : U64 a1) (ha2 : U64 a2) (ha3 : U64 a3) (hb0 : U64 b0) (hb1 : U64 b1) (hb2 : U64 b2) (hb3 : U64 b3) :
    Calls Tryd.prog 27 #[.agg #[.int .u64 a0, .int .u64 a1, .int .u64 a2, .int .u64 a3], .agg #[.int .u64 b0, .int .u64 b1, .int .u64 b2, .int .u64 b3]] w fun e w' =>
      e = .returned (.agg #[.int .u64 (a0 &&& neg64 b0 : Nat), .int .u64 (a1 &&& neg64 b1 : Nat), .int .u64 (a2 &&& neg64 b2 : Nat), .int .u64 (a3 &&& neg64 b3 : Nat)]) ∧ Below w.heap.size w w' := by
  have e0 := andNot64 ha0 hb0
  have e1 := andNot64 ha1 hb1
  have e2 := andNot64 ha2 hb2
  have e3 := andNot64 ha3 hb3
  clear ha0 ha1 ha2 ha3 hb0 hb1 hb2 hb3
  go_enter Tryd.func27, Tryd.ntmps27
  go_wp2
  refine wp_loop_rounds 6 ?_
  rw [rounds_succ]; go_wp2
  go_region
  go_wp2
  rw [rounds_succ]; go_wp2
  go_region
  go_wp2
  rw [rounds_succ]; go_wp2
  go_region
  go_wp2
  rw [rounds_succ]; go_wp2
  go_region
  go_wp2
  rw [rounds_succ]; go_wp2
  refine bodyPost_ret (v := .agg #[.int .u64 (a0 &&& neg64 b0 : Nat), .int .u64 (a1 &&& neg64 b1 : Nat), .int .u64 (a2 &&& neg64 b2 : Nat), .int .u64 (a3 &&& neg64 b3 : Nat)]) (by simp [results, Tryd.results27, go_sem]) rfl ⟨rfl, ?_⟩
  go_grown

end Go.Proofs.YtglboolijhekkaaDoor
