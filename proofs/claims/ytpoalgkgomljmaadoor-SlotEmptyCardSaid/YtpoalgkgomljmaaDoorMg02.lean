/- What a graph of things is, and what is over what, in plain words: chains of parents. No program's text is walked here. Words for memory: a slice of things that reads as a graph's list. An argument that is a list of things, opened. The reference's Plus (bailiwickref02): a time and a length further on, at most Never; of any two numbers. What a job asks for, in plain words. No program's text is walked here. Words for memory: a block that holds a spec. An argument that is a spec by value, opened. How layer 9's arguments are opened: things, numbers, specs. What a table of holdings is, and what is added, dropped, got, cut short, busy, over, in plain words. No program's text is walked here. What the small readers of a slice of int answer: set.Right, the reference's Right, in and Same; the slices read as lists of numbers. -/
import Derived.Test.YtpoalgkgomljmaaDoorMg01
import Derived.LoopTactic
import Derived.Laws.Rows
import Derived.Deep.QuietTactic
import Derived.BigQuiet
namespace Go.Proofs.YtpoalgkgomljmaaDoor

/-- a thing: its kind, what it is part of, its tag -/
structure Th where
  kind : Int
  up : Int
  tag : ByteArray
def th0 : Th := ⟨0, 0, ⟨#[]⟩⟩
abbrev Gr := List Th
def gk (g : Gr) (i : Nat) : Int := (g.getD i th0).kind
def gu (g : Gr) (i : Nat) : Int := (g.getD i th0).up
def gt (g : Gr) (i : Nat) : ByteArray := (g.getD i th0).tag

def tagC (c : UInt8) : Bool := (97 ≤ c.toNat && c.toNat ≤ 122) || (48 ≤ c.toNat && c.toNat ≤ 57)
def tagB (s : ByteArray) : Bool := s.data.toList.all tagC && decide (s.size ≤ 16)
/-- thing i stands where it may -/
def okT (g : Gr) (i : Nat) : Prop :=
  if i = 0 then gk g 0 = 0 ∧ gu g 0 = -1 ∧ (gt g 0).size = 0 else
    0 ≤ gu g i ∧ gu g i < i ∧ ((gt g i).size = 0 ∨ gk g i = 2) ∧ tagB (gt g i) = true ∧
      ((gk g i = 1 ∧ gk g (gu g i).toNat = 0) ∨ (gk g i = 2 ∧ gk g (gu g i).toNat < 2) ∨ ((gk g i = 3 ∨ gk g i = 4) ∧ gk g (gu g i).toNat = 2))
instance (g : Gr) (i : Nat) : Decidable (okT g i) := by unfold okT; infer_instance
def rightG (g : Gr) : Bool := decide (g ≠ [] ∧ g.length ≤ 256 ∧ ∀ i, i < g.length → okT g i)

/-- the parent's number -/
def par (g : Gr) (k : Nat) : Nat := (gu g k).toNat
/-- is n the thing k, or is k a part of it: up the chain, as far as n -/
def overF (g : Gr) (n : Nat) : Nat → Nat → Bool
  | 0, k => k == n
  | f + 1, k => if n < k then overF g n f (par g k) else k == n
def overG (g : Gr) (n k : Nat) : Bool := overF g n k k

structure RightG (g : Gr) : Prop where
  pos : 0 < g.length
  few : g.length ≤ 256
  top : gk g 0 = 0 ∧ gu g 0 = -1
  up : ∀ i, 0 < i → i < g.length → 0 ≤ gu g i ∧ par g i < i
  kind : ∀ i, 0 < i → i < g.length → (gk g i = 1 ∧ gk g (par g i) = 0) ∨ (gk g i = 2 ∧ gk g (par g i) < 2) ∨ ((gk g i = 3 ∨ gk g i = 4) ∧ gk g (par g i) = 2)
theorem rightG_is {g : Gr} (h : rightG g = true) : RightG g := by
  unfold rightG at h
  rw [decide_eq_true_eq] at h
  obtain ⟨h1, h2, h3⟩ := h
  have h0 := h3 0 (List.length_pos_iff.2 h1)
  unfold okT at h0
  rw [if_pos rfl] at h0
  refine ⟨List.length_pos_iff.2 h1, h2, ⟨h0.1, h0.2.1⟩, fun i hi hl => ?_, fun i hi hl => ?_⟩
  all_goals
    have := h3 i hl
    unfold okT at this
    rw [if_neg (by omega)] at this
  · unfold par; omega
  · exact this.2.2.2.2
section
variable {g : Gr} (hg : RightG g) {n k m : Nat}
include hg
theorem RightG.kinds (hk : k < g.length) : 0 ≤ gk g k ∧ gk g k ≤ 4 := by
  rcases Nat.eq_zero_or_pos k with h | h
  · subst h; have := hg.top.1; omega
  · rcases hg.kind k h hk with h | h | h <;> omega
/-- more steps than are needed change nothing -/
theorem overF_more : ∀ (f : Nat) (k : Nat), k < g.length → k ≤ f → overF g n f k = overF g n k k := by
  have hg' := hg
  intro f
  induction f using Nat.strongRecOn with
  | _ f ih =>
    intro k hk hf
    rcases Nat.eq_zero_or_pos k with h | h
    · subst h
      cases f with
      | zero => rfl
      | succ f => show (if n < 0 then _ else (0 == n)) = (0 == n); rw [if_neg (by omega)]
    · obtain ⟨f', rfl⟩ : ∃ f', f = f' + 1 := ⟨f - 1, by omega⟩
      obtain ⟨k', rfl⟩ : ∃ k', k = k' + 1 := ⟨k - 1, by omega⟩
      have hp := (hg.up (k' + 1) (by omega) hk).2
      show (if n < k' + 1 then overF g n f' (par g (k' + 1)) else _) = (if n < k' + 1 then overF g n k' (par g (k' + 1)) else _)
      split
      · rw [ih f' (by omega) _ (by omega) (by omega)]
        by_cases hkf : k' = f'
        · subst hkf; rw [ih k' (by omega) _ (by omega) (by omega)]
        · rw [ih k' (by omega) _ (by omega) (by omega)]
      · rfl
/-- up one step -/
theorem over_up (hk : k < g.length) (h : n < k) : overG g n k = overG g n (par g k) := by
  have hp := (hg.up k (by omega) hk).2
  obtain ⟨k', rfl⟩ : ∃ k', k = k' + 1 := ⟨k - 1, by omega⟩
  show (if n < k' + 1 then overF g n k' (par g (k' + 1)) else _) = _
  rw [if_pos h]
  exact overF_more hg k' (par g (k' + 1)) (by omega) (by omega)
omit hg in
theorem over_end (h : ¬ n < k) : overG g n k = (k == n) := by
  unfold overG
  cases k with
  | zero => rfl
  | succ k => show (if n < k + 1 then _ else _) = _; rw [if_neg h]
omit hg in
theorem over_self : overG g n n = true := by rw [over_end (by omega)]; simp
omit hg in
theorem over_le (h : overG g n k = true) : n ≤ k := by
  by_cases hnk : n < k
  · omega
  · rw [over_end hnk] at h; simp at h; omega
theorem over_zero : ∀ (k : Nat), k < g.length → overG g 0 k = true := by
  intro k
  induction k using Nat.strongRecOn with
  | _ k ih =>
    intro hk
    rcases Nat.eq_zero_or_pos k with h | h
    · subst h; exact over_self
    · rw [over_up hg hk h]
      have := (hg.up k h hk).2
      exact ih _ this (by omega)
/-- what is part of a part is a part -/
theorem over_trans : ∀ (k : Nat), k < g.length → overG g m k = true → overG g n m = true → overG g n k = true := by
  intro k
  induction k using Nat.strongRecOn with
  | _ k ih =>
    intro hk h1 h2
    by_cases hmk : m < k
    · have hp := (hg.up k (by omega) hk).2
      rw [over_up hg hk hmk] at h1
      have hnm := over_le h2
      have hmp := over_le h1
      rw [over_up hg hk (by omega)]
      exact ih _ hp (by omega) h1 h2
    · rw [over_end hmk] at h1
      simp at h1
      subst h1
      exact h2
/-- of two that are over one thing, one is over the other -/
theorem over_chain : ∀ (k : Nat), k < g.length → overG g n k = true → overG g m k = true → n ≤ m → overG g n m = true := by
  intro k
  induction k using Nat.strongRecOn with
  | _ k ih =>
    intro hk h1 h2 hnm
    by_cases hmk : m < k
    · have hp := (hg.up k (by omega) hk).2
      rw [over_up hg hk hmk] at h2
      rw [over_up hg hk (by omega)] at h1
      exact ih _ hp (by omega) h1 h2 hnm
    · rw [over_end hmk] at h2
      simp at h2
      subst h2
      exact h1
end

/-! sets of things -/
def numsF (p : Nat → Bool) (n : Nat) : List Int := ((List.range n).filter p).map Int.ofNat
theorem mem_numsF {p : Nat → Bool} {n : Nat} {x : Int} : x ∈ numsF p n ↔ ∃ k : Nat, k < n ∧ p k = true ∧ x = k := by
  unfold numsF
  rw [List.mem_map]
  constructor
  · rintro ⟨k, hk, rfl⟩
    rw [List.mem_filter, List.mem_range] at hk
    exact ⟨k, hk.1, hk.2, rfl⟩
  · rintro ⟨k, hk, hp, rfl⟩
    exact ⟨k, by rw [List.mem_filter, List.mem_range]; exact ⟨hk, hp⟩, rfl⟩
theorem mem_numsF_nat {p : Nat → Bool} {n k : Nat} : (k : Int) ∈ numsF p n ↔ k < n ∧ p k = true := by
  rw [mem_numsF]
  constructor
  · rintro ⟨j, h1, h2, h3⟩
    obtain rfl : k = j := by omega
    exact ⟨h1, h2⟩
  · rintro ⟨h1, h2⟩
    exact ⟨k, h1, h2, rfl⟩
theorem numsF_succ (p : Nat → Bool) (n : Nat) : numsF p (n + 1) = numsF p n ++ (if p n = true then [(n : Int)] else []) := by
  unfold numsF
  rw [List.range_succ, List.filter_append, List.map_append]
  congr 1
  by_cases h : p n = true
  · rw [if_pos h]; simp [h]
  · rw [if_neg h]; simp [h]
theorem numsF_yes {p : Nat → Bool} {n : Nat} (h : p n = true) : numsF p (n + 1) = numsF p n ++ [(n : Int)] := by rw [numsF_succ, if_pos h]
theorem numsF_no {p : Nat → Bool} {n : Nat} (h : p n = false) : numsF p (n + 1) = numsF p n := by rw [numsF_succ, if_neg (by rw [h]; simp), List.append_nil]
theorem numsF_len (p : Nat → Bool) (n : Nat) : (numsF p n).length ≤ n := by
  unfold numsF
  rw [List.length_map]
  have := List.length_filter_le p (List.range n)
  rw [List.length_range] at this
  exact this
theorem numsF_pick (p : Nat → Bool) (n : Nat) : ∀ (_ : n ≤ 256), numsF p n = pickN (fun x => decide (0 ≤ x) && p x.toNat) 0 n := by
  intro hn
  induction n with
  | zero => rfl
  | succ n ih =>
    rw [numsF_succ, pickN_snoc, ih (by omega)]
    simp
theorem numsF_right (p : Nat → Bool) {n : Nat} (hn : n ≤ 256) : rightB (numsF p n) = true := by
  rw [numsF_pick p n hn]; exact right_pickN _ n 0 (by omega)
theorem numsF_ext {p q : Nat → Bool} {n : Nat} (h : ∀ k, k < n → p k = q k) : numsF p n = numsF q n := by
  unfold numsF
  congr 1
  exact List.filter_congr fun k hk => h k (List.mem_range.1 hk)

/-- thing n and all that is part of it; n and what it is part of -/
def underL (g : Gr) (n : Int) : List Int := if rightG g = true ∧ 0 ≤ n ∧ n < g.length then numsF (overG g n.toNat) g.length else []
def aboveL (g : Gr) (n : Int) : List Int := if rightG g = true ∧ 0 ≤ n ∧ n < g.length then numsF (fun k => overG g k n.toNat) (n.toNat + 1) else []
def nodeG (g : Gr) (n : Int) : Int :=
  if rightG g = true ∧ 0 ≤ n ∧ n < g.length then (if gk g n.toNat = 2 then n else if 2 < gk g n.toNat then gu g n.toNat else -1) else -1
def nodesL (g : Gr) : List Int := if rightG g = true then numsF (fun k => gk g k == 2) g.length else []
/-- how many of the first n things are in the set and of this kind -/
def cntK (g : Gr) (l : List Int) (c : Int) (n : Nat) : Nat := ((List.range n).filter fun k : Nat => hasB l (k : Int) && gk g k == c).length
def kc (g : Gr) (l : List Int) (c : Int) : Int := if rightG g = true then (cntK g l c g.length : Int) else 0
theorem cntK_succ (g : Gr) (l : List Int) (c : Int) (n : Nat) : cntK g l c (n + 1) = cntK g l c n + (if hasB l n = true ∧ gk g n = c then 1 else 0) := by
  unfold cntK
  rw [List.range_succ, List.filter_append, List.length_append]
  congr 1
  by_cases h : hasB l n = true ∧ gk g n = c
  · rw [if_pos h]; simp [h.1, h.2]
  · rw [if_neg h]
    rw [List.filter_eq_nil_iff.2]
    · rfl
    · intro x hx
      simp at hx
      subst hx
      intro h'
      rw [Bool.and_eq_true, beq_iff_eq] at h'
      exact h h'
theorem cntK_le (g : Gr) (l : List Int) (c : Int) (n : Nat) : cntK g l c n ≤ n := by
  unfold cntK
  have := List.length_filter_le (fun k : Nat => hasB l (k : Int) && gk g k == c) (List.range n)
  rw [List.length_range] at this
  exact this
/-- is a thing above one of the set? -/
def anyOver (g : Gr) (l : List Int) (n : Nat) : Bool := l.any fun x => overG g n x.toNat
def wholeOk (g : Gr) (l : List Int) : Bool := rightG g && rightB l && decide (∀ x ∈ l, x < g.length)
def wholeL (g : Gr) (l : List Int) : List Int := if wholeOk g l = true then numsF (anyOver g l) g.length else []

end Go.Proofs.YtpoalgkgomljmaaDoor

namespace Go.Proofs.YtpoalgkgomljmaaDoor
open Go.RowKit

/-- a thing as an element: three cells -/
def ETh : Elem Th := fun _ _ x vs => vs = [.int .i64 x.kind, .int .i64 x.up, .string x.tag] ∧ I64 x.kind ∧ I64 x.up ∧ x.tag.size ≤ maxLen
theorem eth_steady : Steady ETh := ⟨fun h _ _ => h⟩
/-- '.slice A n c' reads as the things g, all below block B -/
def RG (w : World) (B : Nat) (A : Option Addr) (n : Nat) (g : Gr) : Prop := RN ETh 3 w (Lt B) A n g
section
variable {w w' : World} {B n : Nat} {A : Option Addr} {g : Gr}
theorem RG.len (h : RG w B A n g) : g.length = n := h.1
theorem RG.nil : RG w B A 0 [] := RN.nil
theorem RG.next (h : RG w w.heap.size A n g) (hb : Below w.heap.size w w') : RG w' w'.heap.size A n g := RN.next eth_steady h hb
theorem RG.below (h : RG w B A n g) (hb : Below B w w') : RG w' B A n g := RN.below eth_steady h hb
theorem RG.drewN (h : RG w B A n g) (k : Nat) : RG (w.drewN k) B A n g := RN.drewN h eth_steady k
theorem RG.one (h : RG w B A n g) {k : Nat} (hk : k < n) : ∃ b off, A = some ⟨b, off, none⟩ ∧ b < B ∧ w.cell? ⟨b, off + k * 3, none⟩ = some (.int .i64 (gk g k)) ∧ w.cell? ⟨b, off + k * 3 + 1, none⟩ = some (.int .i64 (gu g k)) ∧ w.cell? ⟨b, off + k * 3 + 2, none⟩ = some (.string (gt g k)) ∧ (I64 (gk g k) ∧ I64 (gu g k) ∧ (gt g k).size ≤ maxLen) := by
  have hl : k < g.length := by rw [h.1]; exact hk
  obtain ⟨b, off, vs, e, hb, _, hc, hv⟩ := RN.at h (List.getElem?_eq_getElem hl)
  obtain ⟨hv', hb1⟩ := hv
  subst hv'
  have hg : g.getD k th0 = g[k] := by rw [List.getD, List.getElem?_eq_getElem hl]; rfl
  refine ⟨b, off, e, hb, ?_, ?_, ?_, by unfold gk gu gt; rw [hg]; exact hb1⟩
  · have := hc 0 _ rfl; unfold gk; rw [hg]; exact this
  · have := hc 1 _ rfl; unfold gu; rw [hg]; exact this
  · have := hc 2 _ rfl; unfold gt; rw [hg]; exact this
end

/-- the counts of five kinds, as an array's value -/
def kVal (g : Gr) (l : List Int) : Value := .agg #[.int .i64 (kc g l 0), .int .i64 (kc g l 1), .int .i64 (kc g l 2), .int .i64 (kc g l 3), .int .i64 (kc g l 4)]

end Go.Proofs.YtpoalgkgomljmaaDoor

namespace Go.Proofs.YtpoalgkgomljmaaDoor
open Go.ChangeShapes Go.WideShapes Go.ChangeAt Go.RowKit Go.Deep

set_option maxRecDepth 100000 in
theorem open_thing {H : Type} {enc : TypeId × Value → H} {W : World} {cs : List Value} {x : DataW H × List MemPlace} {fuel : Nat}
    (hl : cs.length = 3) (hf : DataW.trod enc Tryd.prog W 0 (fun _ => true) true fuel 37 cs = some x) : ∃ a, ETh W (Lt W.heap.size) a cs := by
  obtain ⟨ys, n', hn', hy, hlen, hyl, hfs⟩ := DataW.trod_struct Tryd.underlying37 hf
  obtain ⟨v0, v1, v2, rfl⟩ : ∃ v0 v1 v2, cs = [v0, v1, v2] := by
    match cs, hl with
    | [a, b, c], _ => exact ⟨a, b, c, rfl⟩
  have c3 : Tryd.prog.cellsOf 3 = 1 := by kernel_rfl
  have c9 : Tryd.prog.cellsOf 9 = 1 := by kernel_rfl
  have h0 : DataW.trod enc Tryd.prog W 0 (fun _ => true) true n' 3 (List.take (Tryd.prog.cellsOf 3) [v0, v1, v2]) = ys[0]? := hfs 0 _ rfl
  have h1 : DataW.trod enc Tryd.prog W 0 (fun _ => true) true n' 3 (List.take (Tryd.prog.cellsOf 3) [v1, v2]) = ys[1]? := hfs 1 _ rfl
  have h2 : DataW.trod enc Tryd.prog W 0 (fun _ => true) true n' 9 (List.take (Tryd.prog.cellsOf 9) [v2]) = ys[2]? := hfs 2 _ rfl
  rw [c3] at h0 h1
  rw [c9] at h2
  obtain ⟨y0, y1, y2, rfl⟩ : ∃ y0 y1 y2, ys = [y0, y1, y2] := by
    match ys, hyl with
    | [a, b, c], _ => exact ⟨a, b, c, rfl⟩
  obtain ⟨z0, e0, _, w0⟩ := DataW.trod_int Tryd.underlying3 h0
  obtain ⟨z1, e1, _, w1⟩ := DataW.trod_int Tryd.underlying3 h1
  obtain ⟨s, e2, _, w2⟩ := DataW.trod_string Tryd.underlying9 h2
  simp at e0 e1 e2
  subst e0 e1 e2
  exact ⟨⟨z0, z1, s⟩, rfl, i64_wf w0, i64_wf w1, w2⟩
set_option maxRecDepth 100000 in
theorem open_RG {H : Type} {enc : TypeId × Value → H} {W : World} {b0 : Nat} {v : Value} {d : DataW H} {ps : List MemPlace}
    (hval : Value.okWide Tryd.prog W .any b0 22 v) (h : DataW.Trod enc Tryd.prog W 0 (fun _ => true) true 22 v d ps) :
    ∃ A n c g, v = .slice A n c ∧ RG W W.heap.size A n g ∧ (A = none → c = 0) ∧ n ≤ c ∧ n ≤ maxLen := by
  obtain ⟨fuel, hf⟩ := h
  obtain ⟨a', n', c', rfl⟩ := okWide_slice Tryd.underlying22 hval
  obtain ⟨A, n, c, xs, e, hr, h1, h2, h3⟩ := open_RN (E := ETh) (C := 3) Tryd.underlying22 (by kernel_rfl) (by omega) (fun n cs y hl ht => open_thing hl ht) hf
  simp [Value.cells] at e
  obtain ⟨rfl, rfl, rfl⟩ := e
  exact ⟨_, _, _, xs, rfl, hr, h1, h2, h3⟩

end Go.Proofs.YtpoalgkgomljmaaDoor

namespace Go.Proofs.YtpoalgkgomljmaaDoor
open Go.RowKit

def nearZ (x : Int) : Int := if x < 0 then 0 else if 4611686018427387904 < x then 4611686018427387904 else x
def plusZ (t l : Int) : Int := if 4611686018427387904 < nearZ t + nearZ l then 4611686018427387904 else nearZ t + nearZ l
theorem nearZ_range (x : Int) : 0 ≤ nearZ x ∧ nearZ x ≤ 4611686018427387904 := by unfold nearZ; repeat' split; all_goals omega



end Go.Proofs.YtpoalgkgomljmaaDoor

namespace Go.Proofs.YtpoalgkgomljmaaDoor

/-- a spec -/
structure Sp where
  nodes : Int
  cores : Int
  gpus : Int
  tag : ByteArray
  whole : Bool
  long : Int
  prio : Int
def sp0 : Sp := ⟨0, 0, 0, ⟨#[]⟩, false, 0, 0⟩
def rightS (s : Sp) : Bool :=
  tagB s.tag && decide ((1 ≤ s.nodes ∧ s.nodes ≤ 64) ∧ (0 ≤ s.cores ∧ s.cores ≤ 64) ∧ (0 ≤ s.gpus ∧ s.gpus ≤ 64) ∧ ¬ (s.cores = 0 ∧ s.gpus = 0 ∧ s.whole = false) ∧ (1 ≤ s.long ∧ s.long ≤ 1099511627776) ∧ (-1000 ≤ s.prio ∧ s.prio ≤ 1000))
/-- how many cores and gpus in all -/
def sizeS (s : Sp) : Int := s.nodes * s.cores + s.nodes * s.gpus
def endsS (s : Sp) (a : Int) : Int := plusZ a (if rightS s = true then s.long else 0)
def aheadS (a b : Sp) : Bool := rightS a && (rightS b && (if a.prio ≠ b.prio then decide (b.prio < a.prio) else if sizeS a ≠ sizeS b then decide (sizeS a < sizeS b) else decide (a.long < b.long)))
def partS (s : Sp) (n : Int) : Sp × Int := if rightS s = false ∨ n < 0 then (sp0, 1) else if s.nodes ≤ n then (sp0, 6) else ({ s with nodes := s.nodes - n }, 0)
def asksS (s : Sp) : Int × Int × Int := if rightS s = true then (s.nodes, s.nodes * s.cores, s.nodes * s.gpus) else (0, 0, 0)

theorem rightS_is {s : Sp} (h : rightS s = true) : tagB s.tag = true ∧ (1 ≤ s.nodes ∧ s.nodes ≤ 64) ∧ (0 ≤ s.cores ∧ s.cores ≤ 64) ∧ (0 ≤ s.gpus ∧ s.gpus ≤ 64) ∧ ¬ (s.cores = 0 ∧ s.gpus = 0 ∧ s.whole = false) ∧ (1 ≤ s.long ∧ s.long ≤ 1099511627776) ∧ (-1000 ≤ s.prio ∧ s.prio ≤ 1000) := by
  unfold rightS at h
  rwa [Bool.and_eq_true, decide_eq_true_eq] at h
theorem rightS_no {s : Sp} (h : ¬ (tagB s.tag = true ∧ (1 ≤ s.nodes ∧ s.nodes ≤ 64) ∧ (0 ≤ s.cores ∧ s.cores ≤ 64) ∧ (0 ≤ s.gpus ∧ s.gpus ≤ 64) ∧ ¬ (s.cores = 0 ∧ s.gpus = 0 ∧ s.whole = false) ∧ (1 ≤ s.long ∧ s.long ≤ 1099511627776) ∧ (-1000 ≤ s.prio ∧ s.prio ≤ 1000))) : rightS s = false := by
  cases hr : rightS s with
  | false => rfl
  | true => exact absurd (rightS_is hr) h
theorem rightS_mk {s : Sp} (h : tagB s.tag = true ∧ (1 ≤ s.nodes ∧ s.nodes ≤ 64) ∧ (0 ≤ s.cores ∧ s.cores ≤ 64) ∧ (0 ≤ s.gpus ∧ s.gpus ≤ 64) ∧ ¬ (s.cores = 0 ∧ s.gpus = 0 ∧ s.whole = false) ∧ (1 ≤ s.long ∧ s.long ≤ 1099511627776) ∧ (-1000 ≤ s.prio ∧ s.prio ≤ 1000)) : rightS s = true := by
  unfold rightS
  rwa [Bool.and_eq_true, decide_eq_true_eq]
theorem mul_bounds {x y : Int} (h1 : 0 ≤ x) (h2 : x ≤ 64) (h3 : 0 ≤ y) (h4 : y ≤ 64) : 0 ≤ x * y ∧ x * y ≤ 4096 := by
  refine ⟨Int.mul_nonneg h1 h3, ?_⟩
  have := Int.mul_le_mul h2 h4 h3 (by omega)
  omega
theorem sizeS_bounds {s : Sp} (h : rightS s = true) : 0 ≤ sizeS s ∧ sizeS s ≤ 8192 := by
  obtain ⟨_, h1, h2, h3, _⟩ := rightS_is h
  have a := mul_bounds (by omega) h1.2 h2.1 h2.2
  have b := mul_bounds (x := s.nodes) (by omega) h1.2 h3.1 h3.2
  unfold sizeS
  omega
theorem aheadS_iff {a b : Sp} : aheadS a b = true ↔ rightS a = true ∧ rightS b = true ∧ (b.prio < a.prio ∨ (a.prio = b.prio ∧ (sizeS a < sizeS b ∨ (sizeS a = sizeS b ∧ a.long < b.long)))) := by
  unfold aheadS
  rw [Bool.and_eq_true, Bool.and_eq_true]
  refine and_congr_right fun _ => and_congr_right fun _ => ?_
  split
  · rw [decide_eq_true_eq]; omega
  · split
    · rw [decide_eq_true_eq]; omega
    · rw [decide_eq_true_eq]; omega
theorem ahead_self (a : Sp) : aheadS a a = false := by
  rw [← Bool.not_eq_true, aheadS_iff]; omega
theorem ahead_both (a b : Sp) : ¬ (aheadS a b = true ∧ aheadS b a = true) := by
  rw [aheadS_iff, aheadS_iff]; omega
theorem ahead_on {a b c : Sp} (h1 : aheadS a b = true) (h2 : aheadS b c = true) : aheadS a c = true := by
  rw [aheadS_iff] at *
  obtain ⟨r1, _, h1⟩ := h1
  obtain ⟨_, r3, h2⟩ := h2
  exact ⟨r1, r3, by omega⟩
theorem ahead_alike {a b c : Sp} (ha : rightS a = true) (hb : rightS b = true) (hc : rightS c = true) (h1 : aheadS a b = false) (h2 : aheadS b a = false) (h3 : aheadS b c = false) (h4 : aheadS c b = false) : aheadS a c = false ∧ aheadS c a = false := by
  rw [← Bool.not_eq_true, aheadS_iff] at *
  rw [← Bool.not_eq_true, aheadS_iff]
  simp only [ha, hb, hc, true_and] at *
  omega
theorem ahead_round {a b c : Sp} (h : ¬ (rightS a = true ∧ rightS b = true ∧ rightS c = true)) : ¬ (aheadS a b = true ∧ aheadS b c = true ∧ aheadS c a = true) := by
  rw [aheadS_iff, aheadS_iff, aheadS_iff]
  rintro ⟨⟨h1, h2, _⟩, ⟨_, h3, _⟩, _⟩
  exact h ⟨h1, h2, h3⟩
theorem plus_rise {x y l : Int} (h : x ≤ y) : plusZ x l ≤ plusZ y l := by unfold plusZ nearZ; repeat' split; all_goals omega
theorem plus_near {x l : Int} (h0 : 0 ≤ x) (h1 : x ≤ 4294967295) (hl : 0 ≤ l) (hl2 : l ≤ 1099511627776) : plusZ x l = x + l := by unfold plusZ nearZ; repeat' split; all_goals omega
theorem plus_never {l : Int} (hl : 0 ≤ l) : plusZ 4611686018427387904 l = 4611686018427387904 := by unfold plusZ nearZ; repeat' split; all_goals omega
theorem partS_ok {s : Sp} {n : Int} (hr : rightS s = true) (hn : 0 ≤ n) : partS s n = if s.nodes ≤ n then (sp0, 6) else ({ s with nodes := s.nodes - n }, 0) := by
  unfold partS
  rw [if_neg]
  rintro (h | h)
  · rw [hr] at h; cases h
  · omega
/-- a part of a part is one part -/
theorem part_part {s a : Sp} {x y : Int} (hx : 0 ≤ x) (hy : 0 ≤ y) (h : partS s x = (a, 0)) : rightS a = true ∧ a.nodes = s.nodes - x ∧ a.cores = s.cores ∧ a.gpus = s.gpus ∧ rightS s = true ∧ partS a y = partS s (x + y) := by
  unfold partS at h
  split at h
  · injection h with _ h2; cases h2
  · rename_i h0
    split at h
    · injection h with _ h2; cases h2
    · rename_i h1
      injection h with h2
      subst h2
      have hr : rightS s = true := by
        cases hr : rightS s with
        | true => rfl
        | false => exact absurd (.inl hr) h0
      have hs := rightS_is hr
      have hr' : rightS { s with nodes := s.nodes - x } = true := rightS_mk ⟨hs.1, ⟨by show 1 ≤ s.nodes - x; omega, by show s.nodes - x ≤ 64; omega⟩, hs.2.2⟩
      refine ⟨hr', rfl, rfl, rfl, hr, ?_⟩
      rw [partS_ok hr' hy, partS_ok hr (by omega)]
      by_cases hlt : s.nodes ≤ x + y
      · rw [if_pos (by show s.nodes - x ≤ y; omega), if_pos hlt]
      · rw [if_neg (by show ¬ s.nodes - x ≤ y; omega), if_neg hlt]
        show (({ s with nodes := s.nodes - x - y } : Sp), (0 : Int)) = ({ s with nodes := s.nodes - (x + y) }, 0)
        rw [show s.nodes - x - y = s.nodes - (x + y) by omega]

end Go.Proofs.YtpoalgkgomljmaaDoor

namespace Go.Proofs.YtpoalgkgomljmaaDoor
open Go.RowKit

/-- a spec's value -/
def spV (s : Sp) : Value := .agg #[.int .i64 s.nodes, .int .i64 s.cores, .int .i64 s.gpus, .string s.tag, .bool s.whole, .int .i64 s.long, .int .i64 s.prio]
/-- a block with a spec's cells -/
def spO (s : Sp) : Obj := .cells #[.int .i64 s.nodes, .int .i64 s.cores, .int .i64 s.gpus, .string s.tag, .bool s.whole, .int .i64 s.long, .int .i64 s.prio] 26
/-- a spec as it may be handed in -/
structure SAsk (s : Sp) : Prop where
  nodes : I64 s.nodes
  cores : I64 s.cores
  gpus : I64 s.gpus
  tag : s.tag.size ≤ maxLen
  long : I64 s.long
  prio : I64 s.prio
/-- block g holds the spec s -/
structure BoxS (wr : World) (g : Nat) (s : Sp) : Prop where
  lt : g < wr.heap.size
  at' : wr.heap[g]? = some (spO s)
section
variable {w wr w' : World} {g : Nat} {s : Sp}
theorem BoxS.next (h : BoxS wr g s) (hb : Below wr.heap.size wr w') : BoxS w' g s := ⟨Nat.lt_of_lt_of_le h.lt hb.size, (hb.block _ h.lt).trans h.at'⟩
theorem BoxS.alloc (h : BoxS wr g s) (o : Obj) : BoxS (wr.alloc o) g s := h.next ((Below.refl _ _).alloc (Nat.le_refl _) _)
theorem BoxS.drewN (h : BoxS wr g s) (q : Nat) : BoxS (wr.drewN q) g s := h.next (bel_drew wr q)
theorem box_new (w : World) (s : Sp) : BoxS (w.alloc (spO s)) w.heap.size s := ⟨by simp, heap_alloc_new w _⟩
theorem BoxS.c0 (h : BoxS wr g s) : wr.cell? ⟨g, 0, none⟩ = some (.int .i64 s.nodes) := (cell_of_row wr g 0 _ _ (0, 0) h.at').trans rfl
theorem BoxS.c1 (h : BoxS wr g s) : wr.cell? ⟨g, 1, none⟩ = some (.int .i64 s.cores) := (cell_of_row wr g 1 _ _ (0, 0) h.at').trans rfl
theorem BoxS.c2 (h : BoxS wr g s) : wr.cell? ⟨g, 2, none⟩ = some (.int .i64 s.gpus) := (cell_of_row wr g 2 _ _ (0, 0) h.at').trans rfl
theorem BoxS.c3 (h : BoxS wr g s) : wr.cell? ⟨g, 3, none⟩ = some (.string s.tag) := (cell_of_row wr g 3 _ _ (0, 0) h.at').trans rfl
theorem BoxS.c4 (h : BoxS wr g s) : wr.cell? ⟨g, 4, none⟩ = some (.bool s.whole) := (cell_of_row wr g 4 _ _ (0, 0) h.at').trans rfl
theorem BoxS.c5 (h : BoxS wr g s) : wr.cell? ⟨g, 5, none⟩ = some (.int .i64 s.long) := (cell_of_row wr g 5 _ _ (0, 0) h.at').trans rfl
theorem BoxS.c6 (h : BoxS wr g s) : wr.cell? ⟨g, 6, none⟩ = some (.int .i64 s.prio) := (cell_of_row wr g 6 _ _ (0, 0) h.at').trans rfl
theorem BoxS.frozen (h : BoxS wr g s) (j : Nat) : wr.frozen? ⟨g, j, none⟩ = false := frozen_of_row wr g j _ _ h.at'
end
theorem spec_size : (Tryd.prog.info? 26).map (·.size) = some 7 := by kernel_rfl
/-- a whole spec is loaded -/
theorem wpList_load_spec {ops : Array Oper} {rest : List Oper} {o : Oper} {a : Act} {Q : Exit → Act → World → Prop} {w : World} {g : Nat} {s : Sp} (hgd : o.guard = none) (x : Operand) (ho : o.op = .load 26 x)
    (hm : BoxS w g s) (hx : a.eval x = .pointer (some ⟨g, 0, none⟩))
    (h : wpList Tryd.prog ops Q rest (a.put o.dst (spV s)) w) : wpList Tryd.prog ops Q (o :: rest) a w :=
  wpList_load_row hgd _ x ho g hx _ _ (0, 0) _ hm.at' Tryd.underlying26 rfl spec_size h

end Go.Proofs.YtpoalgkgomljmaaDoor

namespace Go.Proofs.YtpoalgkgomljmaaDoor
open Go.ChangeShapes Go.WideShapes Go.ChangeAt Go.RowKit Go.Deep

set_option maxRecDepth 100000 in
theorem open_spec {H : Type} {enc : TypeId × Value → H} {W : World} {cs : List Value} {x : DataW H × List MemPlace} {fuel : Nat}
    (hl : cs.length = 7) (hf : DataW.trod enc Tryd.prog W 0 (fun _ => true) true fuel 26 cs = some x) :
    ∃ s : Sp, cs = [.int .i64 s.nodes, .int .i64 s.cores, .int .i64 s.gpus, .string s.tag, .bool s.whole, .int .i64 s.long, .int .i64 s.prio] ∧ SAsk s := by
  obtain ⟨ys, n', hn', hy, hlen, hyl, hfs⟩ := DataW.trod_struct Tryd.underlying26 hf
  obtain ⟨v0, v1, v2, v3, v4, v5, v6, rfl⟩ : ∃ v0 v1 v2 v3 v4 v5 v6, cs = [v0, v1, v2, v3, v4, v5, v6] := by
    match cs, hl with
    | [a, b, c, d, e, f, g], _ => exact ⟨a, b, c, d, e, f, g, rfl⟩
  have ci : Tryd.prog.cellsOf 3 = 1 := by kernel_rfl
  have cl : Tryd.prog.cellsOf 2 = 1 := by kernel_rfl
  have cs' : Tryd.prog.cellsOf 9 = 1 := by kernel_rfl
  have cb : Tryd.prog.cellsOf 4 = 1 := by kernel_rfl
  have h0 : DataW.trod enc Tryd.prog W 0 (fun _ => true) true n' 3 (List.take (Tryd.prog.cellsOf 3) [v0, v1, v2, v3, v4, v5, v6]) = ys[0]? := hfs 0 _ rfl
  have h1 : DataW.trod enc Tryd.prog W 0 (fun _ => true) true n' 3 (List.take (Tryd.prog.cellsOf 3) [v1, v2, v3, v4, v5, v6]) = ys[1]? := hfs 1 _ rfl
  have h2 : DataW.trod enc Tryd.prog W 0 (fun _ => true) true n' 3 (List.take (Tryd.prog.cellsOf 3) [v2, v3, v4, v5, v6]) = ys[2]? := hfs 2 _ rfl
  have h3 : DataW.trod enc Tryd.prog W 0 (fun _ => true) true n' 9 (List.take (Tryd.prog.cellsOf 9) [v3, v4, v5, v6]) = ys[3]? := hfs 3 _ rfl
  have h4 : DataW.trod enc Tryd.prog W 0 (fun _ => true) true n' 4 (List.take (Tryd.prog.cellsOf 4) [v4, v5, v6]) = ys[4]? := hfs 4 _ rfl
  have h5 : DataW.trod enc Tryd.prog W 0 (fun _ => true) true n' 2 (List.take (Tryd.prog.cellsOf 2) [v5, v6]) = ys[5]? := hfs 5 _ rfl
  have h6 : DataW.trod enc Tryd.prog W 0 (fun _ => true) true n' 3 (List.take (Tryd.prog.cellsOf 3) [v6]) = ys[6]? := hfs 6 _ rfl
  rw [ci] at h0 h1 h2 h6
  rw [cl] at h5
  rw [cs'] at h3
  rw [cb] at h4
  obtain ⟨y0, y1, y2, y3, y4, y5, y6, rfl⟩ : ∃ y0 y1 y2 y3 y4 y5 y6, ys = [y0, y1, y2, y3, y4, y5, y6] := by
    match ys, hyl with
    | [a, b, c, d, e, f, g], _ => exact ⟨a, b, c, d, e, f, g, rfl⟩
  obtain ⟨z0, e0, _, w0⟩ := DataW.trod_int Tryd.underlying3 h0
  obtain ⟨z1, e1, _, w1⟩ := DataW.trod_int Tryd.underlying3 h1
  obtain ⟨z2, e2, _, w2⟩ := DataW.trod_int Tryd.underlying3 h2
  obtain ⟨z3, e3, _, w3⟩ := DataW.trod_string Tryd.underlying9 h3
  obtain ⟨z4, e4, _⟩ := DataW.trod_bool Tryd.underlying4 h4
  obtain ⟨z5, e5, _, w5⟩ := DataW.trod_int Tryd.underlying2 h5
  obtain ⟨z6, e6, _, w6⟩ := DataW.trod_int Tryd.underlying3 h6
  simp at e0 e1 e2 e3 e4 e5 e6
  subst e0 e1 e2 e3 e4 e5 e6
  exact ⟨⟨z0, z1, z2, z3, z4, z5, z6⟩, rfl, ⟨i64_wf w0, i64_wf w1, i64_wf w2, w3, i64_wf w5, i64_wf w6⟩⟩
set_option maxRecDepth 100000 in
theorem open_S {H : Type} {enc : TypeId × Value → H} {W : World} {b0 : Nat} {v : Value} {d : DataW H} {ps : List MemPlace}
    (hval : Value.okWide Tryd.prog W .any b0 26 v) (h : DataW.Trod enc Tryd.prog W 0 (fun _ => true) true 26 v d ps) :
    ∃ s : Sp, v = .agg #[.int .i64 s.nodes, .int .i64 s.cores, .int .i64 s.gpus, .string s.tag, .bool s.whole, .int .i64 s.long, .int .i64 s.prio] ∧ SAsk s := by
  obtain ⟨fuel, hf⟩ := h
  obtain ⟨cs, rfl, hsz⟩ := okWide_struct Tryd.underlying26 hval
  have c7 : Tryd.prog.cellsOf 26 = 7 := by kernel_rfl
  obtain ⟨s, hs, ha⟩ := open_spec (by simpa [Value.cells] using hsz.trans c7) hf
  refine ⟨s, ?_, ha⟩
  congr 1
  apply Array.ext'
  simpa [Value.cells] using hs

end Go.Proofs.YtpoalgkgomljmaaDoor

namespace Go.Proofs.YtpoalgkgomljmaaDoor

end Go.Proofs.YtpoalgkgomljmaaDoor

namespace Go.Proofs.YtpoalgkgomljmaaDoor

/-- a holding: its number, which things, from when till when -/
structure Hd where
  id : Int
  things : List Int
  frm : Int
  to : Int
def hd0 : Hd := ⟨0, [], 0, 0⟩
abbrev Tb := List Hd
/-- do two spans meet -/
def meetsZ (a b c d : Int) : Bool := decide (a < b ∧ c < d ∧ a < d ∧ c < b)
/-- have two sets a number in common -/
def touchB (a b : List Int) : Bool := a.any fun n => b.contains n
def clashH (a b : Hd) : Bool := meetsZ a.frm a.to b.frm b.to && touchB a.things b.things
def MayH (h : Hd) : Prop := 0 < h.things.length ∧ rightB h.things = true ∧ 0 ≤ h.frm ∧ h.frm < h.to ∧ h.to ≤ 4611686018427387904
instance (h : Hd) : Decidable (MayH h) := by unfold MayH; infer_instance
def mayH (h : Hd) : Bool := decide (MayH h)
def Ahead (a b : Hd) : Prop := a.id < b.id ∧ clashH a b = false
instance (a b : Hd) : Decidable (Ahead a b) := by unfold Ahead; infer_instance
structure RightT (l : Tb) : Prop where
  few : l.length ≤ 256
  may : ∀ h ∈ l, MayH h
  row : l.Pairwise Ahead
def rightT (l : Tb) : Bool := decide (l.length ≤ 256) && (l.all mayH && decide (l.Pairwise Ahead))
theorem rightT_is {l : Tb} : rightT l = true ↔ RightT l := by
  unfold rightT mayH
  rw [Bool.and_eq_true, Bool.and_eq_true, decide_eq_true_eq, decide_eq_true_eq, List.all_eq_true]
  constructor
  · rintro ⟨h1, h2, h3⟩
    exact ⟨h1, fun h hh => of_decide_eq_true (h2 h hh), h3⟩
  · rintro ⟨h1, h2, h3⟩
    exact ⟨h1, fun h hh => decide_eq_true (h2 h hh), h3⟩
/-- the table with h, by rising numbers -/
def insT (l : Tb) (h : Hd) : Tb := l.filter (fun x => decide (x.id < h.id)) ++ h :: l.filter (fun x => decide (h.id < x.id))
def hasT (l : Tb) (id : Int) : Bool := l.any fun x => x.id == id
def getT (l : Tb) (id : Int) : Hd := ((if rightT l = true then l else []).find? fun x => x.id == id).getD hd0
def gotT (l : Tb) (id : Int) : Bool := rightT l && hasT l id
def addE (l : Tb) (h : Hd) : Int := if (rightT l && mayH h) = false then 1 else if hasT l h.id = true then 7 else if 256 ≤ l.length ∨ (l.any fun x => clashH x h) = true then 5 else 0
def addT (l : Tb) (h : Hd) : Tb := if addE l h = 0 then insT l h else l
def dropE (l : Tb) (id : Int) : Int := if rightT l = false then 1 else if hasT l id = false then 6 else 0
def dropT (l : Tb) (id : Int) : Tb := if dropE l id = 0 then l.filter (fun x => x.id != id) else l
def cutE (l : Tb) (id to : Int) : Int := if rightT l = false then 1 else if hasT l id = false then 6 else if to ≤ (getT l id).frm ∨ (getT l id).to < to then 1 else 0
def cutT (l : Tb) (id to : Int) : Tb := if cutE l id to = 0 then l.map (fun x => if x.id = id then { x with to := to } else x) else l
/-- what is busy in a span -/
def busyP (l : Tb) (a b : Int) (n : Int) : Bool := l.any fun x => meetsZ x.frm x.to a b && x.things.contains n
def busyT (l : Tb) (a b : Int) : List Int := if rightT l = true then pickL (busyP l a b) else []
def restT (l : Tb) (now : Int) : Tb := if rightT l = true then l.filter (fun x => decide (now < x.to)) else l
def goneT (l : Tb) (now : Int) : Tb := if rightT l = true then l.filter (fun x => decide (x.to ≤ now)) else []
/-- a number more in a rising list -/
def insZ (x : Int) : List Int → List Int
  | [] => [x]
  | y :: r => if x < y then x :: y :: r else if x = y then y :: r else y :: insZ x r
def endsT (l : Tb) (frm : Int) : List Int := if rightT l = true then ((l.map Hd.to).filter fun t => decide (frm < t)).foldr insZ [] else []

/-! two rows by rising numbers with the same holdings are one -/
theorem table_ext : ∀ {a b : Tb}, a.Pairwise (fun x y => x.id < y.id) → b.Pairwise (fun x y => x.id < y.id) → (∀ x, x ∈ a ↔ x ∈ b) → a = b
  | [], [], _, _, _ => rfl
  | [], y :: b, _, _, h => by have := (h y).2 (List.mem_cons_self ..); cases this
  | x :: a, [], _, _, h => by have := (h x).1 (List.mem_cons_self ..); cases this
  | x :: a, y :: b, ha, hb, h => by
    rw [List.pairwise_cons] at ha hb
    have hxy : x = y := by
      rcases List.mem_cons.1 ((h x).1 (List.mem_cons_self ..)) with e | e
      · exact e
      · rcases List.mem_cons.1 ((h y).2 (List.mem_cons_self ..)) with e' | e'
        · exact e'.symm
        · have h1 := hb.1 x e
          have h2 := ha.1 y e'
          omega
    subst hxy
    congr 1
    refine table_ext ha.2 hb.2 fun z => ?_
    constructor
    · intro hz
      rcases List.mem_cons.1 ((h z).1 (List.mem_cons_of_mem _ hz)) with e | e
      · subst e; have := ha.1 z hz; omega
      · exact e
    · intro hz
      rcases List.mem_cons.1 ((h z).2 (List.mem_cons_of_mem _ hz)) with e | e
      · subst e; have := hb.1 z hz; omega
      · exact e

section
variable {l : Tb} {h a b x : Hd} {id : Int}
theorem RightT.ids (hl : RightT l) : l.Pairwise (fun x y => x.id < y.id) := hl.row.imp fun h => h.1
theorem RightT.sub {m : Tb} (hl : RightT l) (h : m.Sublist l) : RightT m := ⟨Nat.le_trans h.length_le hl.few, fun x hx => hl.may x (h.subset hx), hl.row.sublist h⟩
theorem RightT.filter (hl : RightT l) (p : Hd → Bool) : RightT (l.filter p) := hl.sub List.filter_sublist
/-- of one number there is one holding -/
theorem RightT.one (hl : RightT l) (ha : a ∈ l) (hb : b ∈ l) (h : a.id = b.id) : a = b := by
  have := hl.ids
  induction l with
  | nil => cases ha
  | cons y r ih =>
    rw [List.pairwise_cons] at this
    rcases List.mem_cons.1 ha with e1 | e1
    · rcases List.mem_cons.1 hb with e2 | e2
      · rw [e1, e2]
      · have := this.1 b e2; rw [← e1] at this; omega
    · rcases List.mem_cons.1 hb with e2 | e2
      · have := this.1 a e1; rw [← e2] at this; omega
      · exact ih (hl.sub (List.sublist_cons_self ..)) e1 e2 this.2
theorem meets_comm (a b c d : Int) : meetsZ a b c d = meetsZ c d a b := decide_eq_decide.2 (by omega)
theorem touch_iff {a b : List Int} : touchB a b = true ↔ ∃ n, n ∈ a ∧ n ∈ b := by
  unfold touchB
  rw [List.any_eq_true]
  constructor
  · rintro ⟨n, h1, h2⟩; exact ⟨n, h1, List.contains_iff_mem.1 h2⟩
  · rintro ⟨n, h1, h2⟩; exact ⟨n, h1, List.contains_iff_mem.2 h2⟩
theorem touch_comm (a b : List Int) : touchB a b = touchB b a := by
  rw [Bool.eq_iff_iff, touch_iff, touch_iff]
  exact ⟨fun ⟨n, h1, h2⟩ => ⟨n, h2, h1⟩, fun ⟨n, h1, h2⟩ => ⟨n, h2, h1⟩⟩
theorem clash_comm (a b : Hd) : clashH a b = clashH b a := by unfold clashH; rw [meets_comm, touch_comm]
theorem has_iff_id : hasT l id = true ↔ ∃ x ∈ l, x.id = id := by
  unfold hasT
  rw [List.any_eq_true]
  exact ⟨fun ⟨x, h1, h2⟩ => ⟨x, h1, by simpa using h2⟩, fun ⟨x, h1, h2⟩ => ⟨x, h1, by simpa using h2⟩⟩
theorem hasT_no : hasT l id = false ↔ ∀ x ∈ l, x.id ≠ id := by
  constructor
  · intro h x hx e
    rw [has_iff_id.2 ⟨x, hx, e⟩] at h; cases h
  · intro h
    refine Bool.eq_false_iff.2 fun h' => ?_
    obtain ⟨x, hx, e⟩ := has_iff_id.1 h'
    exact h x hx e
theorem get_is (hr : rightT l = true) (hx : x ∈ l) : getT l x.id = x := by
  have hl := rightT_is.1 hr
  unfold getT
  rw [if_pos hr]
  cases hf : l.find? (fun y => y.id == x.id) with
  | none => exact absurd (List.find?_eq_none.1 hf x hx) (by simp)
  | some y =>
    have h1 := List.find?_some hf
    have h2 := List.mem_of_find?_eq_some hf
    show y = x
    exact hl.one h2 hx (by simpa using h1)
theorem get_mem (h : gotT l id = true) : getT l id ∈ l ∧ (getT l id).id = id := by
  unfold gotT at h
  rw [Bool.and_eq_true] at h
  obtain ⟨x, hx, e⟩ := has_iff_id.1 h.2
  subst e
  rw [get_is h.1 hx]
  exact ⟨hx, rfl⟩
theorem get_none (h : gotT l id = false) : getT l id = hd0 := by
  unfold getT
  split
  · rename_i hr
    unfold gotT at h
    rw [hr, Bool.true_and] at h
    rw [List.find?_eq_none.2 (fun x hx => by simpa using hasT_no.1 h x hx)]
    rfl
  · rfl

/-! Adding -/
structure MayAdd (l : Tb) (h : Hd) : Prop where
  right : RightT l
  may : MayH h
  new : ∀ x ∈ l, x.id ≠ h.id
  room : l.length < 256
  free : ∀ x ∈ l, clashH x h = false
theorem add_ok : addE l h = 0 ↔ MayAdd l h := by
  unfold addE
  constructor
  · intro he
    split at he
    · omega
    · rename_i h1
      split at he
      · omega
      · rename_i h2
        split at he
        · omega
        · rename_i h3
          rw [Bool.not_eq_false, Bool.and_eq_true] at h1
          rw [Bool.not_eq_true] at h2
          rw [not_or, Bool.not_eq_true] at h3
          refine ⟨rightT_is.1 h1.1, of_decide_eq_true h1.2, hasT_no.1 h2, by omega, fun x hx => ?_⟩
          have := List.any_eq_false.1 h3.2 x hx
          simpa using this
  · intro hm
    rw [if_neg (by rw [rightT_is.2 hm.right, show mayH h = true from decide_eq_true hm.may]; simp), if_neg (by rw [hasT_no.2 hm.new]; simp), if_neg]
    rw [not_or, Bool.not_eq_true, List.any_eq_false]
    exact ⟨by have := hm.room; omega, fun x hx => by rw [hm.free x hx]; simp⟩
theorem mem_ins : x ∈ insT l h ↔ (x ∈ l ∧ x.id ≠ h.id) ∨ x = h := by
  unfold insT
  rw [List.mem_append, List.mem_cons, List.mem_filter, List.mem_filter, decide_eq_true_eq, decide_eq_true_eq]
  constructor
  · rintro (⟨h1, h2⟩ | h1 | ⟨h1, h2⟩)
    · exact .inl ⟨h1, by omega⟩
    · exact .inr h1
    · exact .inl ⟨h1, by omega⟩
  · rintro (⟨h1, h2⟩ | h1)
    · by_cases h3 : x.id < h.id
      · exact .inl ⟨h1, h3⟩
      · exact .inr (.inr ⟨h1, by omega⟩)
    · exact .inr (.inl h1)
theorem MayAdd.mem (hm : MayAdd l h) : x ∈ insT l h ↔ x ∈ l ∨ x = h := by
  rw [mem_ins]
  constructor
  · rintro (⟨h1, _⟩ | h1)
    · exact .inl h1
    · exact .inr h1
  · rintro (h1 | h1)
    · exact .inl ⟨h1, hm.new x h1⟩
    · exact .inr h1
theorem ins_len (hn : ∀ x ∈ l, x.id ≠ h.id) : (insT l h).length = l.length + 1 := by
  unfold insT
  rw [List.length_append, List.length_cons]
  have : ∀ l : Tb, (∀ x ∈ l, x.id ≠ h.id) → (l.filter fun x => decide (x.id < h.id)).length + (l.filter fun x => decide (h.id < x.id)).length = l.length := by
    intro l hl
    induction l with
    | nil => rfl
    | cons y r ih =>
      have ih := ih (fun x hx => hl x (List.mem_cons_of_mem _ hx))
      have hy := hl y (List.mem_cons_self ..)
      rw [List.filter_cons, List.filter_cons]
      by_cases h1 : y.id < h.id
      · rw [if_pos (by simpa using h1), if_neg (by simp; omega)]; simp; omega
      · rw [if_neg (by simpa using h1), if_pos (by simp; omega)]; simp; omega
  have := this l hn
  omega
theorem MayAdd.ids (hm : MayAdd l h) : (insT l h).Pairwise Ahead := by
  unfold insT
  rw [List.pairwise_append, List.pairwise_cons]
  refine ⟨(hm.right.filter _).row, ⟨fun x hx => ?_, (hm.right.filter _).row⟩, fun x hx y hy => ?_⟩
  · rw [List.mem_filter, decide_eq_true_eq] at hx
    exact ⟨hx.2, by rw [clash_comm]; exact hm.free x hx.1⟩
  · rw [List.mem_filter, decide_eq_true_eq] at hx
    rcases List.mem_cons.1 hy with e | e
    · subst e; exact ⟨hx.2, hm.free x hx.1⟩
    · rw [List.mem_filter, decide_eq_true_eq] at e
      have hlt : x.id < y.id := by omega
      -- both stand in the table
      have key : ∀ l : Tb, l.Pairwise Ahead → x ∈ l → y ∈ l → Ahead x y := by
        intro l
        induction l with
        | nil => intro _ h1; cases h1
        | cons z r ih =>
          intro hp h1 h2
          rw [List.pairwise_cons] at hp
          rcases List.mem_cons.1 h1 with e1 | e1
          · rcases List.mem_cons.1 h2 with e2 | e2
            · rw [e1, e2] at hlt; omega
            · rw [e1]; exact hp.1 y e2
          · rcases List.mem_cons.1 h2 with e2 | e2
            · have := (hp.1 x e1).1; rw [← e2] at this; omega
            · exact ih hp.2 e1 e2
      exact key l hm.right.row hx.1 e.1
theorem MayAdd.right' (hm : MayAdd l h) : RightT (insT l h) :=
  ⟨by rw [ins_len hm.new]; exact hm.room, fun x hx => by
    rcases hm.mem.1 hx with e | e
    · exact hm.right.may x e
    · subst e; exact hm.may, hm.ids⟩
/-- what was added and dropped leaves all as it was -/
theorem MayAdd.drop (hm : MayAdd l h) : (insT l h).filter (fun x => x.id != h.id) = l := by
  refine table_ext (hm.right'.filter _).ids hm.right.ids fun x => ?_
  rw [List.mem_filter, hm.mem]
  constructor
  · rintro ⟨h1 | h1, h2⟩
    · exact h1
    · subst h1; simp at h2
  · intro hx
    exact ⟨.inl hx, by simpa using hm.new x hx⟩
/-- in whatever order two are added -/
theorem MayAdd.swap (ha : MayAdd l a) (hb : MayAdd l b) (hab : MayAdd (insT l a) b) (hba : MayAdd (insT l b) a) : insT (insT l a) b = insT (insT l b) a := by
  refine table_ext hab.right'.ids hba.right'.ids fun x => ?_
  rw [hab.mem, hba.mem, ha.mem, hb.mem]
  constructor
  · rintro ((h | h) | h)
    · exact .inl (.inl h)
    · exact .inr h
    · exact .inl (.inr h)
  · rintro ((h | h) | h)
    · exact .inl (.inl h)
    · exact .inr h
    · exact .inl (.inr h)
theorem add_two (ha : MayAdd l a) : MayAdd (insT l a) b ↔ MayAdd l b ∧ MayAdd (insT l b) a := by
  constructor
  · intro h
    have hb : MayAdd l b := ⟨ha.right, h.may, fun x hx => h.new x (ha.mem.2 (.inl hx)), ha.room, fun x hx => h.free x (ha.mem.2 (.inl hx))⟩
    refine ⟨hb, hb.right', ha.may, fun x hx => ?_, ?_, fun x hx => ?_⟩
    · rcases hb.mem.1 hx with e | e
      · exact ha.new x e
      · subst e; exact fun e2 => h.new a (ha.mem.2 (.inr rfl)) e2.symm
    · have := h.room; rw [ins_len ha.new] at this; rw [ins_len hb.new]; exact this
    · rcases hb.mem.1 hx with e | e
      · exact ha.free x e
      · subst e; rw [clash_comm]; exact h.free a (ha.mem.2 (.inr rfl))
  · rintro ⟨hb, hba⟩
    refine ⟨ha.right', hb.may, fun x hx => ?_, ?_, fun x hx => ?_⟩
    · rcases ha.mem.1 hx with e | e
      · exact hb.new x e
      · subst e; exact fun e2 => hba.new b (hb.mem.2 (.inr rfl)) e2.symm
    · have := hba.room; rw [ins_len hb.new] at this; rw [ins_len ha.new]; exact this
    · rcases ha.mem.1 hx with e | e
      · exact hb.free x e
      · subst e; rw [clash_comm]; exact hba.free b (hb.mem.2 (.inr rfl))
theorem getT_add (hm : MayAdd l h) : getT (insT l h) h.id = h := get_is (rightT_is.2 hm.right') (hm.mem.2 (.inr rfl))
theorem getT_old (hm : MayAdd l h) (hx : x ∈ l) : getT (insT l h) x.id = x := get_is (rightT_is.2 hm.right') (hm.mem.2 (.inl hx))

/-! Cutting short -/
theorem meets_less {a b b' c d : Int} (h : b' ≤ b) (hm : meetsZ a b' c d = true) : meetsZ a b c d = true := by
  unfold meetsZ at *
  rw [decide_eq_true_eq] at *
  omega
theorem meets_less' {a b c d d' : Int} (h : d' ≤ d) (hm : meetsZ a b c d' = true) : meetsZ a b c d = true := by
  rw [meets_comm] at hm ⊢; exact meets_less h hm
def shortH (id to : Int) (x : Hd) : Hd := if x.id = id then { x with to := to } else x
theorem short_id (id to : Int) (x : Hd) : (shortH id to x).id = x.id := by unfold shortH; split <;> rfl
theorem short_things (id to : Int) (x : Hd) : (shortH id to x).things = x.things := by unfold shortH; split <;> rfl
theorem short_frm (id to : Int) (x : Hd) : (shortH id to x).frm = x.frm := by unfold shortH; split <;> rfl
theorem cut_right {to : Int} (hl : RightT l) (hx : x ∈ l) (h1 : x.frm < to) (h2 : to ≤ x.to) : RightT (l.map (shortH x.id to)) := by
  have hto : ∀ y ∈ l, (shortH x.id to y).to ≤ y.to ∧ y.frm < (shortH x.id to y).to := by
    intro y hy
    unfold shortH
    split
    · rename_i e
      have := hl.one hy hx e
      subst this
      exact ⟨h2, h1⟩
    · exact ⟨Int.le_refl _, (hl.may y hy).2.2.2.1⟩
  refine ⟨by rw [List.length_map]; exact hl.few, fun y hy => ?_, ?_⟩
  · obtain ⟨z, hz, rfl⟩ := List.mem_map.1 hy
    have := hl.may z hz
    have ht := hto z hz
    unfold MayH at *
    rw [short_things, short_frm]
    exact ⟨this.1, this.2.1, this.2.2.1, ht.2, by omega⟩
  · rw [List.pairwise_map]
    have key : ∀ m : Tb, (∀ y ∈ m, y ∈ l) → m.Pairwise Ahead → m.Pairwise (fun a b => Ahead (shortH x.id to a) (shortH x.id to b)) := by
      intro m
      induction m with
      | nil => intro _ _; exact List.Pairwise.nil
      | cons y r ih =>
        intro hm hp
        rw [List.pairwise_cons] at hp ⊢
        refine ⟨fun z hz => ?_, ih (fun z hz => hm z (List.mem_cons_of_mem _ hz)) hp.2⟩
        have h0 := hp.1 z hz
        have hy := hto y (hm y (List.mem_cons_self ..))
        have hz' := hto z (hm z (List.mem_cons_of_mem _ hz))
        refine ⟨by rw [short_id, short_id]; exact h0.1, ?_⟩
        refine Bool.eq_false_iff.2 fun hc => ?_
        have hc0 := h0.2
        unfold clashH at hc hc0
        rw [Bool.and_eq_true, short_things, short_things, short_frm, short_frm] at hc
        rw [meets_less hy.1 (meets_less' hz'.1 hc.1), hc.2] at hc0
        cases hc0
    exact key l (fun _ h => h) hl.row

/-! What is busy, and what is over -/
theorem busy_right (a b : Int) : rightB (busyT l a b) = true := by
  unfold busyT
  split
  · exact right_pickL _
  · rfl
theorem mem_busy (hr : rightT l = true) {a b n : Int} : n ∈ busyT l a b ↔ ∃ x ∈ l, meetsZ x.frm x.to a b = true ∧ n ∈ x.things := by
  unfold busyT busyP
  rw [if_pos hr, mem_pickL]
  constructor
  · rintro ⟨_, _, h⟩
    obtain ⟨x, hx, h⟩ := List.any_eq_true.1 h
    rw [Bool.and_eq_true, List.contains_iff_mem] at h
    exact ⟨x, hx, h⟩
  · rintro ⟨x, hx, h1, h2⟩
    have := right_mem ((rightT_is.1 hr).may x hx).2.1 n h2
    exact ⟨this.1, this.2, List.any_eq_true.2 ⟨x, hx, by rw [h1, List.contains_iff_mem.2 h2]; rfl⟩⟩
theorem rest_rest {a b : Int} (h : a ≤ b) : restT (restT l a) b = restT l b := by
  unfold restT
  by_cases hr : rightT l = true
  · rw [if_pos hr, if_pos hr, if_pos (rightT_is.2 ((rightT_is.1 hr).filter _)), List.filter_filter]
    congr 1
    funext x
    rw [Bool.eq_iff_iff, Bool.and_eq_true, decide_eq_true_eq, decide_eq_true_eq]
    omega
  · rw [if_neg hr, if_neg hr]
theorem busy_part {a b c : Int} (h : b ≤ c) : partB (busyT l a b) (busyT l a c) = true := by
  unfold partB
  rw [busy_right, busy_right, Bool.true_and, Bool.true_and, List.all_eq_true]
  intro n hn
  rw [List.contains_iff_mem]
  by_cases hr : rightT l = true
  · rw [mem_busy hr] at hn ⊢
    obtain ⟨x, hx, h1, h2⟩ := hn
    exact ⟨x, hx, meets_less' h h1, h2⟩
  · unfold busyT at hn; rw [if_neg hr] at hn; cases hn
theorem busy_join {a b c : Int} (h1 : a < b) (h2 : b < c) : joinL (busyT l a b) (busyT l b c) = busyT l a c := by
  refine right_ext (right_joinL _ _) (busy_right _ _) fun n => ?_
  rw [mem_joinL (busy_right _ _) (busy_right _ _)]
  by_cases hr : rightT l = true
  · rw [mem_busy hr, mem_busy hr, mem_busy hr]
    constructor
    · rintro (⟨x, hx, hm, hn⟩ | ⟨x, hx, hm, hn⟩)
      · exact ⟨x, hx, meets_less' (by omega) hm, hn⟩
      · refine ⟨x, hx, ?_, hn⟩
        unfold meetsZ at *
        rw [decide_eq_true_eq] at *
        omega
    · rintro ⟨x, hx, hm, hn⟩
      by_cases hb : meetsZ x.frm x.to a b = true
      · exact .inl ⟨x, hx, hb, hn⟩
      · refine .inr ⟨x, hx, ?_, hn⟩
        unfold meetsZ at *
        rw [decide_eq_true_eq] at *
        omega
  · unfold busyT
    rw [if_neg hr, if_neg hr, if_neg hr]
    simp
/-- what is busy in a span is what can't be added for it -/
theorem busy_apart (hr : rightT l = true) (hh : MayH h) : (∀ x ∈ l, clashH x h = false) ↔ apartB (busyT l h.frm h.to) h.things = true := by
  unfold apartB
  rw [busy_right, hh.2.1, Bool.true_and, Bool.true_and, List.all_eq_true]
  constructor
  · intro hc n hn
    rw [Bool.not_eq_true', ← Bool.not_eq_true, List.contains_iff_mem]
    intro hm
    obtain ⟨x, hx, h1, h2⟩ := (mem_busy hr).1 hn
    have := hc x hx
    unfold clashH at this
    rw [h1, touch_iff.2 ⟨n, h2, hm⟩] at this
    cases this
  · intro ha x hx
    refine Bool.eq_false_iff.2 fun hc => ?_
    unfold clashH at hc
    rw [Bool.and_eq_true] at hc
    obtain ⟨n, h1, h2⟩ := touch_iff.1 hc.2
    have := ha n ((mem_busy hr).2 ⟨x, hx, hc.1, h1⟩)
    rw [List.contains_iff_mem.2 h2] at this
    cases this
end

/-! How much is busy at a time -/
theorem right_nodup : ∀ {l : List Int}, rightB l = true → l.Nodup
  | [], _ => List.nodup_nil
  | x :: r, h => by
    rw [List.nodup_cons]
    refine ⟨fun hm => ?_, right_nodup (right_tail h)⟩
    have := right_below h x hm
    omega
theorem join_len {a b : List Int} (ha : rightB a = true) (hb : rightB b = true) (h : ∀ n ∈ a, n ∉ b) : (joinL a b).length = a.length + b.length := by
  rw [← List.length_append]
  refine List.Perm.length_eq ((List.perm_ext_iff_of_nodup (right_nodup (right_joinL a b)) ?_).2 fun n => ?_)
  · rw [List.nodup_append]
    refine ⟨right_nodup ha, right_nodup hb, fun x hx y hy e => ?_⟩
    subst e
    exact h x hx hy
  · rw [mem_joinL ha hb, List.mem_append]
/-- of the first k holdings: what is busy -/
def busyN (l : Tb) (a b : Int) (k : Nat) : List Int := pickL (busyP (l.take k) a b)
theorem busyN_zero (l : Tb) (a b : Int) : busyN l a b 0 = [] := by
  refine right_ext (right_pickL _) (by rfl) fun n => ?_
  unfold busyN
  rw [mem_pickL]
  constructor
  · rintro ⟨_, _, h⟩
    simp [busyP] at h
  · intro h; cases h
theorem busyN_all {l : Tb} (hr : rightT l = true) (a b : Int) : busyN l a b l.length = busyT l a b := by
  unfold busyN busyT
  rw [if_pos hr, List.take_length]
theorem busyN_right (l : Tb) (a b : Int) (k : Nat) : rightB (busyN l a b k) = true := right_pickL _
theorem mem_busyN {l : Tb} (hl : RightT l) {a b n : Int} {k : Nat} : n ∈ busyN l a b k ↔ ∃ x ∈ l.take k, meetsZ x.frm x.to a b = true ∧ n ∈ x.things := by
  unfold busyN busyP
  rw [mem_pickL]
  constructor
  · rintro ⟨_, _, h⟩
    obtain ⟨x, hx, h⟩ := List.any_eq_true.1 h
    rw [Bool.and_eq_true, List.contains_iff_mem] at h
    exact ⟨x, hx, h⟩
  · rintro ⟨x, hx, h1, h2⟩
    have := right_mem (hl.may x (List.mem_of_mem_take hx)).2.1 n h2
    exact ⟨this.1, this.2, List.any_eq_true.2 ⟨x, hx, by rw [h1, List.contains_iff_mem.2 h2]; rfl⟩⟩
theorem busyN_succ {l : Tb} (hl : RightT l) (a b : Int) {k : Nat} (hk : k < l.length) :
    busyN l a b (k + 1) = if meetsZ l[k].frm l[k].to a b = true then joinL (busyN l a b k) l[k].things else busyN l a b k := by
  have hx := hl.may l[k] (List.getElem_mem hk)
  refine right_ext (busyN_right _ _ _ _) (by split; exact right_joinL _ _; exact busyN_right _ _ _ _) fun n => ?_
  rw [mem_busyN hl, List.take_succ_eq_append_getElem hk]
  split
  · rename_i hm
    rw [mem_joinL (busyN_right _ _ _ _) hx.2.1, mem_busyN hl]
    constructor
    · rintro ⟨x, h1, h2, h3⟩
      rcases List.mem_append.1 h1 with e | e
      · exact .inl ⟨x, e, h2, h3⟩
      · rw [List.mem_singleton] at e; subst e; exact .inr h3
    · rintro (⟨x, h1, h2, h3⟩ | h3)
      · exact ⟨x, List.mem_append_left _ h1, h2, h3⟩
      · exact ⟨_, List.mem_append_right _ (List.mem_singleton.2 rfl), hm, h3⟩
  · rename_i hm
    rw [mem_busyN hl]
    constructor
    · rintro ⟨x, h1, h2, h3⟩
      rcases List.mem_append.1 h1 with e | e
      · exact ⟨x, e, h2, h3⟩
      · rw [List.mem_singleton] at e; subst e; exact absurd h2 hm
    · rintro ⟨x, h1, h2, h3⟩
      exact ⟨x, List.mem_append_left _ h1, h2, h3⟩
/-- the sum over the first k that hold something at the time t -/
def sumN (l : Tb) (t : Int) (k : Nat) : Nat := (((l.take k).filter fun x => meetsZ x.frm x.to t (t + 1)).map fun x => x.things.length).sum
theorem sumN_succ {l : Tb} (t : Int) {k : Nat} (hk : k < l.length) : sumN l t (k + 1) = sumN l t k + if meetsZ l[k].frm l[k].to t (t + 1) = true then l[k].things.length else 0 := by
  unfold sumN
  rw [List.take_succ_eq_append_getElem hk, List.filter_append, List.map_append, List.sum_append]
  congr 1
  cases h : meetsZ l[k].frm l[k].to t (t + 1) <;> simp [h]
theorem sumN_busy {l : Tb} (hl : RightT l) (t : Int) : ∀ {k : Nat}, k ≤ l.length → (busyN l t (t + 1) k).length = sumN l t k := by
  intro k
  induction k with
  | zero => intro _; rw [busyN_zero]; rfl
  | succ k ih =>
    intro hk
    have ih := ih (by omega)
    rw [busyN_succ hl _ _ (by omega), sumN_succ t (by omega)]
    have hx := hl.may l[k] (List.getElem_mem (by omega))
    split
    · rename_i hm
      rw [join_len (busyN_right _ _ _ _) hx.2.1, ih]
      intro n hn hn2
      obtain ⟨x, h1, h2, h3⟩ := (mem_busyN hl).1 hn
      -- both hold it at the time t
      have hp : Ahead x l[k] := by
        have := hl.row
        rw [show l = l.take k ++ l.drop k from (List.take_append_drop k l).symm, List.pairwise_append] at this
        refine this.2.2 x h1 _ ?_
        rw [List.mem_iff_getElem]
        exact ⟨0, by rw [List.length_drop]; omega, by simp⟩
      have hc := hp.2
      unfold clashH at hc
      rw [touch_iff.2 ⟨n, h3, hn2⟩, Bool.and_true] at hc
      unfold meetsZ at *
      rw [decide_eq_true_eq] at *
      rw [decide_eq_false_iff_not] at hc
      omega
    · rw [ih]; rfl
theorem busy_sum {l : Tb} (hr : rightT l = true) (t : Int) : (busyT l t (t + 1)).length = sumN l t l.length := by
  rw [← busyN_all hr, sumN_busy (rightT_is.1 hr) t (Nat.le_refl _)]

end Go.Proofs.YtpoalgkgomljmaaDoor

namespace Go.Proofs.YtpoalgkgomljmaaDoor
open Go.RowKit

theorem getD_mem_i64 (xs : List Int) (h : ∀ x ∈ xs, -9223372036854775808 ≤ x ∧ x ≤ 9223372036854775807) (j : Nat) : -9223372036854775808 ≤ xs.getD j 0 ∧ xs.getD j 0 ≤ 9223372036854775807 := by
  by_cases hj : j < xs.length
  · have : xs.getD j 0 = xs[j] := by simp [List.getD, hj]
    rw [this]; exact h _ (List.getElem_mem hj)
  · have : xs.getD j 0 = 0 := by simp [List.getD, hj]
    omega

def lastOf (xs : List Int) (k : Nat) : Int := if k = 0 then -1 else xs.getD (k - 1) 0
theorem right_step (xs : List Int) (k : Nat) (hpre : ∀ i, i < k → okAt xs i) : okAt xs k ↔ (lastOf xs k < xs.getD k 0 ∧ xs.getD k 0 < 256) := by
  unfold lastOf
  rcases Nat.eq_zero_or_pos k with rfl | hp
  · unfold okAt; simp; omega
  · have h := hpre (k - 1) (by omega)
    rw [if_neg (by omega)]
    unfold okAt at h ⊢
    omega

set_option maxHeartbeats 400000 in
theorem right_any (A : Option Addr) (n c : Nat) (xs : List Int) (w : World) (B : Nat) (hr : RI w B A n xs) (hn : n ≤ maxLen) :
    Calls Tryd.prog 7 #[.slice A n c] w fun e w' => e = .returned (.bool (rightB xs)) ∧ w = w' := by
  unfold maxLen at hn
  have hlen := hr.1
  have HLEN := Lib.hid hlen
  clear hlen
  go_enter Tryd.func7, Tryd.ntmps7
  go_wp2
  go_loop [3, 8] (fun l i => ∃ k : Nat, k ≤ n ∧ i = .int .i64 k ∧ l = .int .i64 (lastOf xs k) ∧ (∀ i, i < k → okAt xs i)) (fun _ i => n - (intOf i).toNat)
  case atStart => exact ⟨0, Nat.zero_le _, rfl, rfl, fun i hi => absurd hi (by omega)⟩
  case round =>
    obtain ⟨k, hk, rfl, rfl, hpre⟩ := hrel
    have HP := Lib.hid hpre
    clear hpre
    by_cases hlt : k < n
    · obtain ⟨b, off, rfl, hb, hc⟩ := hr.2 (by omega)
      have hck := hc k hlt
      have hst := Lib.hid (right_step xs k HP.out)
      clear hc hr
      by_cases hok : lastOf xs k < xs.getD k 0 ∧ xs.getD k 0 < 256
      · obtain ⟨h1, h2⟩ := hok
        have g1 : ¬ xs.getD k 0 ≤ lastOf xs k := by omega
        have g2 : ¬ 256 ≤ xs.getD k 0 := by omega
        generalize hx : xs.getD k 0 = x at *
        generalize hl : lastOf xs k = l at *
        have HX := Lib.hid hx
        have HL := Lib.hid hl
        clear hx hl
        go_wp2
        go_round
        case rel =>
          refine ⟨k + 1, by omega, by go_num, ?_, ?_⟩
          · unfold lastOf
            rw [if_neg (by omega), Nat.add_sub_cancel, HX.out]
          · intro i hi
            rcases Nat.lt_or_ge i k with h | h
            · exact HP.out i h
            · obtain rfl : i = k := by omega
              exact hst.out.2 ⟨h1, h2⟩
        case measure => simp [intOf]; omega
      · have hbad := Lib.hid (rightB_false xs k (by rw [HLEN.out]; exact hlt) (fun h => hok (hst.out.1 h)))
        clear hst HP
        generalize xs.getD k 0 = x at *
        generalize lastOf xs k = l at *
        by_cases h1 : x ≤ l
        · clear hok
          go_wp2
          go_ret
          exact ⟨ret_bool hbad.out, rfl⟩
        · have h2 : 256 ≤ x := by omega
          clear hok
          go_wp2
          go_ret
          exact ⟨ret_bool hbad.out, rfl⟩
    · have hall : Hid (rightB xs = true) := Lib.hid ((rightB_iff xs).2 fun i hi => HP.out i (by have := HLEN.out; omega))
      clear hr
      go_wp2
      go_ret
      exact ⟨ret_bool hall.out, rfl⟩




end Go.Proofs.YtpoalgkgomljmaaDoor
