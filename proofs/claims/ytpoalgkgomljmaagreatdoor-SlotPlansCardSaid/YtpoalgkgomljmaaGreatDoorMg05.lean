/- What a job gets: how much of each kind, in how many nodes; more free things, other tags, whole nodes. No program's text is walked here. When a job could begin, and where, in plain words. No program's text is walked here. Words for memory: a slice of those who would begin. Written by gen/gen_slot.py. How layer 13's arguments are opened: a graph, numbers, a table of holdings, a spec, a list of those who would begin. Written by hand. What the frames of statements that list the library's tables share: the tables out of the row's list; the wrap that hands on both the list and the world's shape. No condition of its own. What the calls of layer 10 answer, in words for memory; tables that can be looked at whole. Plain words for layer 5's walks: strings that are tags, where a graph breaks off, a number appended. -/
import Derived.Test.YtpoalgkgomljmaaGreatDoorMg04
import Derived.Test.YtpoalgkgomljmaaGreatDoorMg02
import Derived.Test.YtpoalgkgomljmaaGreatDoorTie
import Derived.Lib.LaidTab
import Derived.LaidMore
import Derived.Lay
import Derived.SevenTiedAt
import Derived.Stop.Joined
import Derived.Test.YtpoalgkgomljmaaGreatDoorMg01
import Derived.Test.YtpoalgkgomljmaaGreatDoorMg03
namespace Go.Proofs.YtpoalgkgomljmaaGreatDoor

section
variable {g : Gr} {F : List Int} {s : Sp}
theorem kc_numsF (hg : rightG g = true) (p : Nat → Bool) (c : Int) : kc g (numsF p g.length) c = (cntP (fun x => p x && gk g x == c) g.length : Nat) := by
  rw [kc_is hg]
  congr 1
  refine cntP_congr fun x hx => ?_
  rw [hasB_numsF (rightG_is hg).few, decide_eq_true hx, Bool.true_and]
/-- of each node just as many cores and gpus as were asked for -/
theorem here_kinds (hg : rightG g = true) (hs : rightS s = true) {k : Nat} (h : selP g F s k = true) (hw : s.whole = false) :
    kc g (hereL g F s k) 3 = s.cores ∧ kc g (hereL g F s k) 4 = s.gpus ∧ kc g (hereL g F s k) 2 = 0 := by
  obtain ⟨k1, k2, k3, ⟨k4, k5⟩, k6⟩ := suitP_is.1 (sel_suit h)
  obtain ⟨_, _, q2, q3, _⟩ := rightS_is hs
  have key : ∀ (c m : Int), 0 ≤ m → m ≤ frN g F c k g.length → (∀ x, (getP g F s k x && gk g x == c) = (frP g F c k x && decide (cntP (frP g F c k) (x + 1) ≤ m.toNat))) → (cntP (fun x => getP g F s k x && gk g x == c) g.length : Int) = m := by
    intro c m h0 h1 h2
    rw [show cntP (fun x => getP g F s k x && gk g x == c) g.length = cntP (fun x => frP g F c k x && decide (cntP (frP g F c k) (x + 1) ≤ m.toNat)) g.length from cntP_congr fun x _ => h2 x, cntP_first]
    have : frN g F c k g.length = cntP (frP g F c k) g.length := rfl
    omega
  have form : ∀ x, getP g F s k x = (overG g k x && (hasB F (x : Int) && ((gk g x == 3 && decide ((frN g F 3 k (x + 1) : Int) ≤ s.cores)) || (gk g x == 4 && decide ((frN g F 4 k (x + 1) : Int) ≤ s.gpus))))) := fun x => by
    unfold getP; rw [hw, Bool.false_or]
  have dec : ∀ (c m : Int) (x : Nat), 0 ≤ m → decide ((frN g F c k (x + 1) : Int) ≤ m) = decide (cntP (frP g F c k) (x + 1) ≤ m.toNat) := fun c m x h0 => by
    have : frN g F c k (x + 1) = cntP (frP g F c k) (x + 1) := rfl
    rw [this]
    exact decide_eq_decide.2 (by omega)
  rw [here_yes h, kc_numsF hg, kc_numsF hg, kc_numsF hg]
  refine ⟨key 3 s.cores q2.1 k4 fun x => ?_, key 4 s.gpus q3.1 k5 fun x => ?_, ?_⟩
  · rw [form, ← dec 3 s.cores x q2.1]
    unfold frP
    by_cases h3 : gk g x = 3
    · have h4 : (gk g x == 4) = false := by rw [h3]; rfl
      rw [h3]
      cases overG g k x <;> cases hasB F (x : Int) <;> simp
    · have h3' : (gk g x == 3) = false := by simpa using h3
      rw [h3']
      simp
  · rw [form, ← dec 4 s.gpus x q3.1]
    unfold frP
    by_cases h4 : gk g x = 4
    · rw [h4]
      cases overG g k x <;> cases hasB F (x : Int) <;> simp
    · have h4' : (gk g x == 4) = false := by simpa using h4
      rw [h4']
      simp
  · have : cntP (fun x => getP g F s k x && gk g x == 2) g.length = 0 := cntP_zero fun x _ => by
      rw [form]
      by_cases h2 : gk g x = 2
      · rw [h2]; simp
      · have h2' : (gk g x == 2) = false := by simpa using h2
        rw [h2']; simp
    rw [this]; rfl
theorem whole_free {k : Nat} (h : suitP g F s k = true) (hw : s.whole = true) (c : Int) : frN g F c k g.length = cntP (fun x => overG g k x && gk g x == c) g.length := by
  refine cntP_congr fun x hx => ?_
  unfold frP
  cases ho : overG g k x with
  | false => rfl
  | true => rw [(suitP_is.1 h).2.2.2.2 hw x hx ho]; simp
/-- of a whole node at least as many -/
theorem here_kinds_whole (hg : rightG g = true) {k : Nat} (hk : k < g.length) (h : selP g F s k = true) (hw : s.whole = true) :
    s.cores ≤ kc g (hereL g F s k) 3 ∧ s.gpus ≤ kc g (hereL g F s k) 4 := by
  obtain ⟨k1, k2, k3, ⟨k4, k5⟩, k6⟩ := suitP_is.1 (sel_suit h)
  rw [here_whole hg hk h hw, kc_under hg hk, kc_under hg hk, ← whole_free (sel_suit h) hw, ← whole_free (sel_suit h) hw]
  exact ⟨k4, k5⟩

/-- how many of the first i nodes of the list are chosen -/
def selN (g : Gr) (F : List Int) (s : Sp) (i : Nat) : Nat := (((nodesL g).take i).filter fun x => selP g F s x.toNat).length
theorem selN_succ {i x : Nat} (hi : i < (nodesL g).length) (hx : (nodesL g).getD i 0 = x) : selN g F s (i + 1) = selN g F s i + (if selP g F s x = true then 1 else 0) := by
  unfold selN
  rw [List.take_succ_eq_append_getElem hi, List.filter_append, List.length_append]
  rw [List.getD, List.getElem?_eq_getElem hi] at hx
  have hx' : (nodesL g)[i] = (x : Int) := hx
  rw [hx']
  congr 1
  by_cases h : selP g F s x = true
  · rw [if_pos h]; simp [h]
  · rw [if_neg h]; simp [h]
theorem filter_numsF (p q : Nat → Bool) : ∀ n, ((numsF p n).filter fun x => q x.toNat).length = cntP (fun k => p k && q k) n
  | 0 => rfl
  | n + 1 => by
    rw [numsF_succ, List.filter_append, List.length_append, filter_numsF p q n, cntP_succ]
    congr 1
    cases hp : p n with
    | false => simp
    | true => cases hq : q n <;> simp [hq]
/-- as many nodes are chosen as were asked for -/
theorem selN_all (h : hadB g F s = true) : (selN g F s (nodesL g).length : Int) = s.nodes := by
  obtain ⟨hm, hc⟩ := hadB_is.1 h
  obtain ⟨h1, h2, h3⟩ := mayB_is hm
  have hn := (rightS_is h3).2.1
  unfold selN
  rw [List.take_length]
  unfold nodesL
  rw [if_pos h1, filter_numsF]
  have e : cntP (fun k => gk g k == 2 && selP g F s k) g.length = cntP (fun k => suitP g F s k && decide (cntP (suitP g F s) k < s.nodes.toNat)) g.length := by
    refine cntP_congr fun k _ => ?_
    have hd : decide ((cntS g F s k : Int) < s.nodes) = decide (cntP (suitP g F s) k < s.nodes.toNat) := by
      have : cntS g F s k = cntP (suitP g F s) k := rfl
      rw [this]
      exact decide_eq_decide.2 (by omega)
    unfold selP
    rw [hd]
    cases hs : suitP g F s k with
    | false => simp
    | true => rw [suit_node hs]; rfl
  rw [e, cntP_ahead]
  unfold cntS at hc
  omega
theorem selN_le (i : Nat) : selN g F s i ≤ (nodesL g).length := by
  unfold selN
  refine Nat.le_trans (List.length_filter_le _ _) ?_
  rw [List.length_take]
  omega

/-! More that is free -/
variable {F' : List Int}
theorem suit_mono {k : Nat} (hF : ∀ x, x < g.length → hasB F (x : Int) = true → hasB F' (x : Int) = true) (hk : k < g.length) (h : suitP g F s k = true) : suitP g F' s k = true := by
  obtain ⟨k1, k2, k3, ⟨k4, k5⟩, k6⟩ := suitP_is.1 h
  have mono : ∀ c, frN g F c k g.length ≤ frN g F' c k g.length := fun c => cntP_mono fun x hx hp => by
    unfold frP at hp ⊢
    rw [Bool.and_eq_true, Bool.and_eq_true] at hp ⊢
    exact ⟨hp.1, hF x hx hp.2.1, hp.2.2⟩
  have m3 := mono 3
  have m4 := mono 4
  exact suitP_is.2 ⟨k1, hF k hk k2, k3, ⟨by omega, by omega⟩, fun hw x hx ho => hF x hx (k6 hw x hx ho)⟩
theorem many_mono (hF : ∀ x, x < g.length → hasB F (x : Int) = true → hasB F' (x : Int) = true) : cntS g F s g.length ≤ cntS g F' s g.length :=
  cntP_mono fun _ hk h => suit_mono hF hk h
theorem had_mono (hr : rightB F' = true) (hF : ∀ x, x < g.length → hasB F (x : Int) = true → hasB F' (x : Int) = true) (h : hadB g F s = true) : hadB g F' s = true := by
  obtain ⟨hm, hc⟩ := hadB_is.1 h
  obtain ⟨h1, h2, h3⟩ := mayB_is hm
  have := many_mono (s := s) hF
  exact hadB_is.2 ⟨by unfold mayB; rw [h1, hr, h3]; rfl, by omega⟩
theorem has_all {n k : Nat} (hn : n ≤ 256) (hk : k < n) : hasB (allN n) (k : Int) = true := by
  unfold allN
  rw [hasB_numsF hn, decide_eq_true hk]; rfl
theorem had_could (h : hadB g F s = true) : couldL g s = true := by
  have hg := (mayB_is (hadB_is.1 h).1).1
  exact had_mono (numsF_right _ (rightG_is hg).few) (fun x hx _ => has_all (rightG_is hg).few hx) h
theorem has_iff {l : List Int} (hr : rightB l = true) {x : Int} : hasB l x = true ↔ x ∈ l := by
  unfold hasB
  rw [hr, Bool.true_and, List.contains_iff_mem]
theorem suit_congr {k : Nat} (hk : k < g.length) (hF : ∀ x, x < g.length → overG g k x = true → hasB F (x : Int) = hasB F' (x : Int)) : suitP g F s k = suitP g F' s k := by
  have hc : ∀ c, frN g F c k g.length = frN g F' c k g.length := fun c => cntP_congr fun x hx => by
    unfold frP
    cases ho : overG g k x with
    | false => rfl
    | true => rw [hF x hx ho]
  rw [Bool.eq_iff_iff, suitP_is, suitP_is, hc, hc, hF k hk over_self]
  refine and_congr_right fun _ => and_congr_right fun _ => and_congr_right fun _ => and_congr_right fun _ => ?_
  constructor
  · intro h hw x hx ho; rw [← hF x hx ho]; exact h hw x hx ho
  · intro h hw x hx ho; rw [hF x hx ho]; exact h hw x hx ho
/-- what one spec got, taken away, leaves all other nodes as they were -/
theorem suit_left {k : Nat} {t : Sp} (hg : rightG g = true) (hF : rightB F = true) (hk : k < g.length) {l : List Int} (hl : rightB l = true) (ha : apartB l (underL g (k : Int)) = true) : suitP g (lessL F l) t k = suitP g F t k := by
  rw [apart_iff hl (underL_right hg hk)] at ha
  refine suit_congr hk fun x hx ho => ?_
  have hn : (x : Int) ∉ l := fun hm => ha _ hm ((mem_under hg hk).2 ⟨x, hx, ho, rfl⟩)
  rw [Bool.eq_iff_iff, has_iff (right_lessL _ _), has_iff hF, mem_lessL hF hl]
  exact ⟨fun h => h.1, fun h => ⟨h, hn⟩⟩
theorem left_apart {t : Sp} (hF : rightB F = true) {l : List Int} (hl : rightB l = true) (h : hadB g (lessL F l) t = true) : apartB l (findL g (lessL F l) t) = true := by
  have hg := (mayB_is (hadB_is.1 h).1).1
  rw [apart_iff hl (findL_right hg)]
  intro x hx hm
  have := (part_iff (findL_right hg) (right_lessL _ _)).1 (find_part h) x hm
  rw [mem_lessL hF hl] at this
  exact this.2 hx

/-! Tags -/
def plainS (s : Sp) : Sp := { s with tag := ⟨#[]⟩ }
theorem plain_right (h : rightS s = true) : rightS (plainS s) = true := by
  have := rightS_is h
  exact rightS_mk ⟨show tagB ⟨#[]⟩ = true from by decide, this.2⟩
theorem plain_suit {k : Nat} (h : suitP g F s k = true) : suitP g F (plainS s) k = true := by
  obtain ⟨k1, k2, k3, k4, k6⟩ := suitP_is.1 h
  exact suitP_is.2 ⟨k1, k2, .inl rfl, k4, k6⟩
theorem tag_suit {k : Nat} (h : suitP g F s k = true) : s.tag.size = 0 ∨ s.tag = gt g k := (suitP_is.1 h).2.2.1
theorem tag_same {k : Nat} (h : gt g k = s.tag) : suitP g F s k = suitP g F (plainS s) k := by
  rw [Bool.eq_iff_iff]
  constructor
  · exact plain_suit
  · intro h'
    obtain ⟨k1, k2, k3, k4, k6⟩ := suitP_is.1 h'
    exact suitP_is.2 ⟨k1, k2, .inr h.symm, k4, k6⟩
theorem many_plain : manyL g F s ≤ manyL g F (plainS s) := by
  unfold manyL
  by_cases h : mayB g F s = true
  · obtain ⟨h1, h2, h3⟩ := mayB_is h
    have h' : mayB g F (plainS s) = true := by unfold mayB; rw [h1, h2, plain_right h3]; rfl
    rw [if_pos h, if_pos h']
    have := cntP_mono (p := suitP g F s) (q := suitP g F (plainS s)) (m := g.length) (fun k _ => plain_suit)
    unfold cntS
    omega
  · rw [if_neg h]
    split <;> omega
theorem many_nodes (hg : rightG g = true) : manyL g F s ≤ (nodesL g).length := by
  unfold manyL
  split
  · unfold nodesL
    rw [if_pos hg, numsF_cnt]
    have := cntP_mono (p := suitP g F s) (q := fun k => gk g k == 2) (m := g.length) (fun k _ h => by rw [suit_node h]; rfl)
    unfold cntS
    omega
  · omega
theorem many_bounds (hg : rightG g = true) : 0 ≤ manyL g F s ∧ manyL g F s ≤ 256 := by
  unfold manyL
  split
  · have := cntP_le (suitP g F s) g.length
    have := (rightG_is hg).few
    unfold cntS
    omega
  · omega

/-! Whole nodes -/
def wholeS (s : Sp) (b : Bool) : Sp := { s with whole := b }
theorem part_of_whole (h : rightS (wholeS s true) = true) : rightS (wholeS s false) = decide (0 < s.cores ∨ 0 < s.gpus) := by
  have h1 := rightS_is h
  rw [Bool.eq_iff_iff, decide_eq_true_eq]
  have e1 : (wholeS s true).cores = s.cores := rfl
  have e2 : (wholeS s true).gpus = s.gpus := rfl
  constructor
  · intro h2
    have h3 := (rightS_is h2).2.2.2.2.1
    have e3 : (wholeS s false).cores = s.cores := rfl
    have e4 : (wholeS s false).gpus = s.gpus := rfl
    rw [e3, e4] at h3
    rw [e1] at h1
    rw [e2] at h1
    have c0 := h1.2.2.1
    have g0 := h1.2.2.2.1
    by_cases hc : s.cores = 0
    · by_cases hp : s.gpus = 0
      · exact absurd ⟨hc, hp, rfl⟩ h3
      · exact .inr (by omega)
    · exact .inl (by omega)
  · intro h2
    refine rightS_mk ⟨h1.1, h1.2.1, h1.2.2.1, h1.2.2.2.1, ?_, h1.2.2.2.2.2⟩
    show ¬ (s.cores = 0 ∧ s.gpus = 0 ∧ false = false)
    omega
theorem whole_had (h : hadB g F (wholeS s true) = true) : hadB g F (wholeS s false) = decide (0 < s.cores ∨ 0 < s.gpus) := by
  obtain ⟨hm, hc⟩ := hadB_is.1 h
  obtain ⟨h1, h2, h3⟩ := mayB_is hm
  have hp := part_of_whole h3
  have hmono := cntP_mono (p := suitP g F (wholeS s true)) (q := suitP g F (wholeS s false)) (m := g.length) (fun k _ h => by
    obtain ⟨k1, k2, k3, k4, k6⟩ := suitP_is.1 h
    exact suitP_is.2 ⟨k1, k2, k3, k4, fun e => by cases e⟩)
  unfold hadB mayB
  rw [h1, h2, hp]
  have e : (wholeS s false).nodes = (wholeS s true).nodes := rfl
  rw [e, decide_eq_true (show (wholeS s true).nodes ≤ (cntS g F (wholeS s false) g.length : Int) by unfold cntS at hc ⊢; omega)]
  simp
/-- a node that is chosen is got whole; of another one nothing is got -/
theorem whole_node (h : hadB g F s = true) (hw : s.whole = true) {k : Nat} (hk : k < g.length) (h2 : gk g k = 2) :
    (selP g F s k = true → partB (underL g (k : Int)) (findL g F s) = true) ∧ (selP g F s k = false → partB (underL g (k : Int)) (findL g F s) = false ∧ apartB (underL g (k : Int)) (findL g F s) = true) := by
  obtain ⟨hg, hF, hs⟩ := mayB_is (hadB_is.1 h).1
  have hgr := rightG_is hg
  have hu := underL_right hg hk
  have hf := findL_right (F := F) (s := s) hg
  constructor
  · intro hsel
    rw [part_iff hu hf]
    intro x hx
    obtain ⟨j, hj, ho, rfl⟩ := (mem_under hg hk).1 hx
    refine (mem_find h).2 ⟨j, hj, ?_, rfl⟩
    rw [find_under hgr h2 hj ho, hsel]
    unfold getP
    rw [ho, hw]; rfl
  · intro hsel
    have hno : ∀ x ∈ underL g (k : Int), x ∉ findL g F s := by
      intro x hx hm
      obtain ⟨j, hj, ho, rfl⟩ := (mem_under hg hk).1 hx
      obtain ⟨i, hi, hp, e⟩ := (mem_find h).1 hm
      obtain rfl : j = i := by omega
      rw [find_under hgr h2 hj ho, hsel] at hp
      cases hp
    refine ⟨?_, (apart_iff hu hf).2 hno⟩
    cases hp : partB (underL g (k : Int)) (findL g F s) with
    | false => rfl
    | true =>
      rw [part_iff hu hf] at hp
      have hself : (k : Int) ∈ underL g (k : Int) := (mem_under hg hk).2 ⟨k, hk, over_self, rfl⟩
      exact absurd (hp _ hself) (hno _ hself)
end

end Go.Proofs.YtpoalgkgomljmaaGreatDoor

namespace Go.Proofs.YtpoalgkgomljmaaGreatDoor

/-- what may be used, less what is busy in a span -/
def freeS (use : List Int) (l : Tb) (a b : Int) : List Int := lessL use (busyT l a b)
/-- a job fits at a time -/
def FitsS (g : Gr) (use : List Int) (l : Tb) (s : Sp) (until' t : Int) : Prop :=
  (0 ≤ t ∧ t < 4611686018427387904) ∧ rightT l = true ∧ rightB use = true ∧ endsS s t ≤ until' ∧ hadB g (freeS use l t (endsS s t)) s = true
instance (g : Gr) (use : List Int) (l : Tb) (s : Sp) (until' t : Int) : Decidable (FitsS g use l s until' t) := by unfold FitsS; infer_instance
/-- what it gets then -/
def gotS (g : Gr) (use : List Int) (l : Tb) (s : Sp) (until' t : Int) : List Int := if FitsS g use l s until' t then findL g (freeS use l t (endsS s t)) s else []
/-- the least of a list -/
def leastO : List Int → Option Int
  | [] => none
  | x :: r => match leastO r with
    | none => some x
    | some y => some (if x ≤ y then x else y)
/-- the times that count, from a time on -/
def timesS (l : Tb) (frm : Int) : List Int := frm :: (l.map Hd.to).filter fun t => decide (frm < t)
def firstS (g : Gr) (use : List Int) (l : Tb) (s : Sp) (frm until' : Int) : Option Int := leastO ((timesS l frm).filter fun t => decide (FitsS g use l s until' t))
/-- the first slot: when, what it gets, and whether there is one -/
def firstAtS (g : Gr) (use : List Int) (l : Tb) (s : Sp) (frm until' : Int) : Int := (firstS g use l s frm until').getD 0
def firstLS (g : Gr) (use : List Int) (l : Tb) (s : Sp) (frm until' : Int) : List Int := match firstS g use l s frm until' with
  | none => []
  | some t => gotS g use l s until' t
def firstBS (g : Gr) (use : List Int) (l : Tb) (s : Sp) (frm until' : Int) : Bool := (firstS g use l s frm until').isSome

section
variable {g : Gr} {use more : List Int} {l : Tb} {s : Sp} {frm until' t u : Int}
theorem leastO_some : ∀ {l : List Int} {t : Int}, leastO l = some t ↔ t ∈ l ∧ ∀ u ∈ l, t ≤ u
  | [], t => by simp [leastO]
  | x :: r, t => by
    have ih := @leastO_some r
    unfold leastO
    cases h : leastO r with
    | none =>
      have hr : r = [] := by
        cases r with
        | nil => rfl
        | cons y q => simp only [leastO] at h; split at h <;> cases h
      subst hr
      simp only [Option.some.injEq, List.mem_singleton]
      constructor
      · rintro rfl; exact ⟨rfl, fun u hu => by rw [hu]; exact Int.le_refl _⟩
      · rintro ⟨e, _⟩; exact e.symm
    | some y =>
      have h1 := ih.1 h
      simp only [Option.some.injEq, List.mem_cons]
      by_cases hxy : x ≤ y
      · rw [if_pos hxy]
        constructor
        · rintro rfl
          exact ⟨.inl rfl, fun u hu => by
            rcases hu with rfl | hu
            · exact Int.le_refl _
            · have := h1.2 u hu; omega⟩
        · rintro ⟨h2, h3⟩
          have h4 := h3 x (.inl rfl)
          rcases h2 with h2 | h2
          · exact h2.symm
          · have := h1.2 t h2; omega
      · rw [if_neg hxy]
        constructor
        · rintro rfl
          exact ⟨.inr h1.1, fun u hu => by
            rcases hu with rfl | hu
            · omega
            · exact h1.2 u hu⟩
        · rintro ⟨h2, h3⟩
          have h4 := h3 y (.inr h1.1)
          rcases h2 with h2 | h2
          · omega
          · have := h1.2 t h2; omega
theorem leastO_none {l : List Int} : leastO l = none ↔ l = [] := by
  cases l with
  | nil => simp [leastO]
  | cons x r =>
    unfold leastO
    split <;> simp
theorem mem_timesS : u ∈ timesS l frm ↔ u = frm ∨ (frm < u ∧ ∃ x ∈ l, x.to = u) := by
  unfold timesS
  rw [List.mem_cons, List.mem_filter, List.mem_map, decide_eq_true_eq]
  exact ⟨fun h => h.imp id fun h => ⟨h.2, h.1⟩, fun h => h.imp id fun h => ⟨h.2, h.1⟩⟩
theorem firstS_some : firstS g use l s frm until' = some t ↔ (t ∈ timesS l frm ∧ FitsS g use l s until' t) ∧ ∀ u ∈ timesS l frm, FitsS g use l s until' u → t ≤ u := by
  unfold firstS
  rw [leastO_some, List.mem_filter, decide_eq_true_eq]
  exact ⟨fun h => ⟨h.1, fun u hu hf => h.2 u (List.mem_filter.2 ⟨hu, decide_eq_true hf⟩)⟩, fun h => ⟨h.1, fun u hu => h.2 u (List.mem_filter.1 hu).1 (of_decide_eq_true (List.mem_filter.1 hu).2)⟩⟩
theorem firstS_none : firstS g use l s frm until' = none ↔ ∀ u ∈ timesS l frm, ¬ FitsS g use l s until' u := by
  unfold firstS
  rw [leastO_none, List.filter_eq_nil_iff]
  exact ⟨fun h u hu hf => h u hu (decide_eq_true hf), fun h u hu hf => h u hu (of_decide_eq_true hf)⟩
theorem firstS_from (h : firstS g use l s frm until' = some t) : frm ≤ t := by
  rcases mem_timesS.1 (firstS_some.1 h).1.1 with e | e
  · omega
  · omega

/-! what more of it does -/
theorem endsS_rise (h : t ≤ u) : endsS s t ≤ endsS s u := by unfold endsS; exact plus_rise h
theorem endsS_after (hr : rightS s = true) (h0 : 0 ≤ t) (h1 : t < 4611686018427387904) : t < endsS s t := by
  have h2 := rightS_is hr
  unfold endsS plusZ nearZ
  rw [if_pos hr]
  repeat' split
  all_goals omega
theorem endsS_never (h0 : 0 ≤ t) : endsS s t ≤ 4611686018427387904 := by
  unfold endsS plusZ nearZ
  repeat' split
  all_goals omega
theorem fits_spec (h : FitsS g use l s until' t) : rightG g = true ∧ rightS s = true := by
  have := mayB_is (hadB_is.1 h.2.2.2.2).1
  exact ⟨this.1, this.2.2⟩
theorem had_sub {F F' : List Int} (hF : rightB F = true) (hF' : rightB F' = true) (h : ∀ x ∈ F, x ∈ F') (hh : hadB g F s = true) : hadB g F' s = true :=
  had_mono hF' (fun _ _ hx => (has_iff hF').2 (h _ ((has_iff hF).1 hx))) hh
theorem mem_freeS (hu : rightB use = true) {a b n : Int} : n ∈ freeS use l a b ↔ n ∈ use ∧ n ∉ busyT l a b := mem_lessL hu (busy_right _ _) n
theorem freeS_right {a b : Int} : rightB (freeS use l a b) = true := right_lessL _ _
/-- with more that may be used -/
theorem fits_more (hm : rightB more = true) (h : FitsS g use l s until' t) : FitsS g (joinL use more) l s until' t := by
  obtain ⟨h1, h2, h3, h4, h5⟩ := h
  refine ⟨h1, h2, right_whichL 0 _ _, h4, had_sub freeS_right freeS_right (fun x hx => ?_) h5⟩
  rw [mem_freeS h3] at hx
  rw [mem_freeS (use := joinL use more) (right_whichL 0 use more)]
  exact ⟨(mem_joinL h3 hm x).2 (.inl hx.1), hx.2⟩
/-- till a later time -/
theorem fits_until {v : Int} (hv : until' ≤ v) (h : FitsS g use l s until' t) : FitsS g use l s v t := ⟨h.1, h.2.1, h.2.2.1, by have := h.2.2.2.1; omega, h.2.2.2.2⟩
theorem fits_earlier {v : Int} (h : FitsS g use l s v t) (he : endsS s t ≤ until') : FitsS g use l s until' t := ⟨h.1, h.2.1, h.2.2.1, he, h.2.2.2.2⟩
/-- where nothing is held it fits at any time ahead -/
theorem fits_empty (h : FitsS g use l s until' t) (h0 : 0 ≤ u) (hu : u ≤ t) : FitsS g use [] s until' u := by
  obtain ⟨h1, h2, h3, h4, h5⟩ := h
  refine ⟨⟨h0, by omega⟩, rfl, h3, by have := endsS_rise (s := s) hu; omega, had_sub freeS_right freeS_right (fun x hx => ?_) h5⟩
  rw [mem_freeS h3] at hx ⊢
  refine ⟨hx.1, fun hb => ?_⟩
  obtain ⟨y, hy, _⟩ := (mem_busy rfl).1 hb
  cases hy
theorem timesS_nil : timesS [] frm = [frm] := rfl
theorem firstS_nil : firstS g use [] s frm until' = if FitsS g use [] s until' frm then some frm else none := by
  by_cases h : FitsS g use [] s until' frm
  · rw [if_pos h]
    refine firstS_some.2 ⟨⟨mem_timesS.2 (.inl rfl), h⟩, fun u hu _ => ?_⟩
    rcases mem_timesS.1 hu with e | ⟨_, x, hx, _⟩
    · omega
    · cases hx
  · rw [if_neg h]
    refine firstS_none.2 fun u hu hf => ?_
    rcases mem_timesS.1 hu with e | ⟨_, x, hx, _⟩
    · subst e; exact h hf
    · cases hx
/-- what is got may be used, is busy nowhere in the span, and may be held -/
theorem gotS_is (h : FitsS g use l s until' t) : gotS g use l s until' t = findL g (freeS use l t (endsS s t)) s := if_pos h
theorem gotS_part (h : FitsS g use l s until' t) : partB (gotS g use l s until' t) use = true := by
  have hg := (fits_spec h).1
  have h1 := (part_iff (findL_right hg) freeS_right).1 (find_part h.2.2.2.2)
  rw [gotS_is h, part_iff (findL_right hg) h.2.2.1]
  exact fun x hx => ((mem_freeS h.2.2.1).1 (h1 x hx)).1
theorem gotS_apart (h : FitsS g use l s until' t) : apartB (gotS g use l s until' t) (busyT l t (endsS s t)) = true := by
  have hg := (fits_spec h).1
  have h1 := (part_iff (findL_right hg) freeS_right).1 (find_part h.2.2.2.2)
  rw [gotS_is h, apart_iff (findL_right hg) (busy_right _ _)]
  exact fun x hx => ((mem_freeS h.2.2.1).1 (h1 x hx)).2
theorem gotS_right (h : FitsS g use l s until' t) : rightB (gotS g use l s until' t) = true := by rw [gotS_is h]; exact findL_right (fits_spec h).1
theorem gotS_no (h : ¬ FitsS g use l s until' t) : gotS g use l s until' t = [] := if_neg h
end

/-! a plan -/
structure Wn where
  id : Int
  spec : Sp
/-- the holding of one that would begin, at its first slot -/
def heldW (g : Gr) (use : List Int) (l : Tb) (w : Wn) (frm until' : Int) : Hd := ⟨w.id, firstLS g use l w.spec frm until', firstAtS g use l w.spec frm until', endsS w.spec (firstAtS g use l w.spec frm until')⟩
/-- from a table so far on: the table, and an error's number -/
def planR (g : Gr) (use : List Int) (frm until' : Int) : Tb → List Wn → Tb × Int
  | out, [] => (out, 0)
  | out, w :: r => if firstBS g use out w.spec frm until' = true then
      (if addE out (heldW g use out w frm until') = 0 then planR g use frm until' (insT out (heldW g use out w frm until')) r else (out, addE out (heldW g use out w frm until')))
    else planR g use frm until' out r
def planE (g : Gr) (use : List Int) (l : Tb) (ws : List Wn) (frm until' : Int) : Int := if rightT l = true then (planR g use frm until' l ws).2 else 1
def planT (g : Gr) (use : List Int) (l : Tb) (ws : List Wn) (frm until' : Int) : Tb := if planE g use l ws frm until' = 0 then (planR g use frm until' l ws).1 else l

end Go.Proofs.YtpoalgkgomljmaaGreatDoor

namespace Go.Proofs.YtpoalgkgomljmaaGreatDoor
open Go.RowKit

def wn0 : Wn := ⟨0, ⟨0, 0, 0, ⟨#[]⟩, false, 0, 0⟩⟩
/-- one who would begin, as an element: eight cells -/
def EWn : Elem Wn := fun _ _ x vs => vs = [.int .i64 x.id, .int .i64 x.spec.nodes, .int .i64 x.spec.cores, .int .i64 x.spec.gpus, .string x.spec.tag, .bool x.spec.whole, .int .i64 x.spec.long, .int .i64 x.spec.prio] ∧ SAsk x.spec ∧ I64 x.id
theorem ewn_steady : Steady EWn := ⟨fun h _ _ => h⟩
def RW (w : World) (B : Nat) (A : Option Addr) (n : Nat) (ws : List Wn) : Prop := RN EWn 8 w (Lt B) A n ws
/-- a list that is asked about -/
structure WnAsk (w : World) (A : Option Addr) (n c : Nat) (ws : List Wn) : Prop where
  reads : RW w w.heap.size A n ws
  nil : A = none → c = 0
  cap : n ≤ c
  few : n ≤ maxLen
section
variable {w w' : World} {n c : Nat} {A : Option Addr} {ws : List Wn}
theorem WnAsk.next (h : WnAsk w A n c ws) (hb : Below w.heap.size w w') : WnAsk w' A n c ws := ⟨RN.next ewn_steady h.reads hb, h.nil, h.cap, h.few⟩
theorem WnAsk.len (h : WnAsk w A n c ws) : ws.length = n := h.reads.1
/-- the k-th -/
theorem WnAsk.one (h : WnAsk w A n c ws) {k : Nat} (hk : k < n) : ∃ b off, A = some ⟨b, off, none⟩ ∧ b < w.heap.size ∧ (w.cell? ⟨b, off + k * 8, none⟩ = some (.int .i64 (ws.getD k wn0).id) ∧ w.cell? ⟨b, off + k * 8 + 1, none⟩ = some (.int .i64 (ws.getD k wn0).spec.nodes) ∧ w.cell? ⟨b, off + k * 8 + 2, none⟩ = some (.int .i64 (ws.getD k wn0).spec.cores) ∧ w.cell? ⟨b, off + k * 8 + 3, none⟩ = some (.int .i64 (ws.getD k wn0).spec.gpus) ∧ w.cell? ⟨b, off + k * 8 + 4, none⟩ = some (.string (ws.getD k wn0).spec.tag) ∧ w.cell? ⟨b, off + k * 8 + 5, none⟩ = some (.bool (ws.getD k wn0).spec.whole) ∧ w.cell? ⟨b, off + k * 8 + 6, none⟩ = some (.int .i64 (ws.getD k wn0).spec.long) ∧ w.cell? ⟨b, off + k * 8 + 7, none⟩ = some (.int .i64 (ws.getD k wn0).spec.prio)) ∧ SAsk (ws.getD k wn0).spec ∧ I64 (ws.getD k wn0).id := by
  have hl : k < ws.length := by rw [h.len]; exact hk
  obtain ⟨b, off, vs, e, hb, _, hc, hv, h5, h6⟩ := RN.at h.reads (List.getElem?_eq_getElem hl)
  subst hv
  have hg : ws.getD k wn0 = ws[k] := by rw [List.getD, List.getElem?_eq_getElem hl]; rfl
  rw [hg]
  exact ⟨b, off, e, hb, ⟨hc 0 _ rfl, hc 1 _ rfl, hc 2 _ rfl, hc 3 _ rfl, hc 4 _ rfl, hc 5 _ rfl, hc 6 _ rfl, hc 7 _ rfl⟩, h5, h6⟩
end

end Go.Proofs.YtpoalgkgomljmaaGreatDoor

namespace Go.Proofs.YtpoalgkgomljmaaGreatDoor
open Go.ChangeShapes Go.WideShapes Go.ChangeAt Go.RowKit Go.Deep

set_option maxRecDepth 100000 in
theorem open_want {H : Type} {enc : TypeId × Value → H} {W : World} {cs : List Value} {x : DataW H × List MemPlace} {fuel : Nat}
    (hl : cs.length = 8) (hf : DataW.trod enc Tryz.prog W 0 (fun _ => true) true fuel 57 cs = some x) : ∃ y, EWn W (Lt W.heap.size) y cs := by
  obtain ⟨ys, n', hn', hy, hlen, hyl, hfs⟩ := DataW.trod_struct Tryz.underlying57 hf
  obtain ⟨v0, v1, v2, v3, v4, v5, v6, v7, rfl⟩ : ∃ v0 v1 v2 v3 v4 v5 v6 v7, cs = [v0, v1, v2, v3, v4, v5, v6, v7] := by
    match cs, hl with
    | [a, b, c, d, e, f, g, h], _ => exact ⟨a, b, c, d, e, f, g, h, rfl⟩
  have ci : Tryz.prog.cellsOf 3 = 1 := by kernel_rfl
  have cp : Tryz.prog.cellsOf 26 = 7 := by kernel_rfl
  have h0 : DataW.trod enc Tryz.prog W 0 (fun _ => true) true n' 3 (List.take (Tryz.prog.cellsOf 3) [v0, v1, v2, v3, v4, v5, v6, v7]) = ys[0]? := hfs 0 _ rfl
  have h1 : DataW.trod enc Tryz.prog W 0 (fun _ => true) true n' 26 (List.take (Tryz.prog.cellsOf 26) [v1, v2, v3, v4, v5, v6, v7]) = ys[1]? := hfs 1 _ rfl
  rw [ci] at h0
  rw [cp] at h1
  obtain ⟨y0, y1, rfl⟩ : ∃ y0 y1, ys = [y0, y1] := by
    match ys, hyl with
    | [a, b], _ => exact ⟨a, b, rfl⟩
  obtain ⟨z0, e0, _, w0⟩ := DataW.trod_int Tryz.underlying3 h0
  obtain ⟨s, e1, hs⟩ := open_spec rfl h1
  simp at e0 e1
  obtain ⟨q1, q2, q3, q4, q5, q6, q7⟩ := e1
  subst e0 q1 q2 q3 q4 q5 q6 q7
  exact ⟨⟨z0, s⟩, rfl, hs, i64_wf w0⟩
set_option maxRecDepth 100000 in
theorem open_WN {H : Type} {enc : TypeId × Value → H} {W : World} {b0 : Nat} {v : Value} {d : DataW H} {ps : List MemPlace}
    (hval : Value.okWide Tryz.prog W .any b0 35 v) (h : DataW.Trod enc Tryz.prog W 0 (fun _ => true) true 35 v d ps) :
    ∃ A n c l, v = .slice A n c ∧ WnAsk W A n c l := by
  obtain ⟨fuel, hf⟩ := h
  obtain ⟨a', n', c', rfl⟩ := okWide_slice Tryz.underlying35 hval
  obtain ⟨A, n, c, xs, e, hr, h1, h2, h3⟩ := open_RN (E := EWn) (C := 8) Tryz.underlying35 (by kernel_rfl) (by omega) (fun n cs y hl ht => open_want hl ht) hf
  simp [Value.cells] at e
  obtain ⟨rfl, rfl, rfl⟩ := e
  exact ⟨_, _, _, xs, rfl, hr, h1, h2, h3⟩

end Go.Proofs.YtpoalgkgomljmaaGreatDoor

namespace Go.Proofs.YtpoalgkgomljmaaGreatDoor
open Go.ChangeShapes Go.WideShapes Go.ChangeAt Go.RowKit

section
variable {H : Type} {enc : TypeId × Value → H} {P : Program}
/-- one of the listed variables, by its place -/
theorem laid_at {w : World} : ∀ {laid : List (String × DataW Unit)} {ps : List MemPlace}, DataW.LaidVars P w laid ps → ∀ (i : Nat) (n : String) (d : DataW Unit), laid[i]? = some (n, d) →
    ∃ g t cs fuel p, P.globalNamed n = some g ∧ (P.globals[g]?).map (·.type) = some t ∧ w.var? P n = some cs ∧ DataW.trod (fun _ => ()) P w 0 (fun _ => true) false fuel t cs.toList = some (d, p)
  | [], _, _, i, n, d, h => by simp at h
  | (m, x) :: r, ps, hl, i, n, d, h => by
    obtain ⟨g, t, cs, fuel, p, q, h1, h2, h3, h4, h5, _⟩ := hl
    cases i with
    | zero =>
      simp only [List.getElem?_cons_zero, Option.some.injEq, Prod.mk.injEq] at h
      obtain ⟨rfl, rfl⟩ := h
      exact ⟨g, t, cs, fuel, p, h1, h2, h3, h4⟩
    | succ i => exact laid_at h5 i n d (by simpa using h)

theorem tabIs_at {W : World} {name : String} {k : IntKind} {zs : List Int} {laid : List (String × DataW Unit)} {g : Nat} {t e : TypeId} {n : Nat}
    (hg : P.globalNamed name = some g) (hty : (P.globals[g]?).map (·.type) = some t) (ht : P.underlying t = some (.array n e)) (he : P.underlying e = some (.int k)) (hce : P.cellsOf e = 1) (hct : P.cellsOf t = n)
    (h : laidMet P laid W) (i : Nat) (hi : laid[i]? = some (name, Lib.tabData k zs)) : Lib.TabIs P W name k zs := by
  obtain ⟨ps, hl, _⟩ := h
  obtain ⟨g', t', cs, fuel, p, hg', ht', hvar, hd⟩ := laid_at hl i _ _ hi
  obtain rfl := Option.some.inj (hg.symm.trans hg')
  obtain rfl := Option.some.inj (hty.symm.trans ht')
  unfold Lib.TabIs
  rw [hvar, ← Lib.cells_of_tab ht he hce hct hd]

/-- the wrap that hands on the list and the world's shape -/
theorem returnsInHanded_of_laid {a : Assume} {C : Checked} {os : Os} {f : FuncId} {fn : Func} {s : ChangeSpec} {conds : List PathCond} {apart fresh handsOn again : Bool} {X : World → Array Value → Prop}
    (hX : ∀ (w w' : World) (args : Array Value), w.heap = w'.heap → X w args → X w' args)
    (own : ownKnob C.prog.godebug = none) (started : os.Started) (noInit : C.prog.inits.idxOf? f = none) (hfn : C.prog.funcs[f]? = some fn)
    (witness : ∃ (w : World) (tape : Tape) (i : Input), w.os = os ∧ (w.forCall tape i).Shaped C.prog ∧ i.vars = [] ∧ Input.okWide C.prog (w.forCall tape i) .any w.heap.size f i ∧
      ((s.pre enc C.prog fn conds apart (w.forCall tape i).memory i.args ∧ X (w.forCall tape i).memory i.args) ∧ sizedMet enc C.prog fn (OpenSpec.ofChange s) apart (w.forCall tape i).memory i.args) ∧ a.holds C.prog (lone (Frame.enter C.prog f i.args .normal) [] (w.forCall tape i)))
    (contract : ∀ (W : World) (base : Nat) (args : Array Value) (ds gs : List (DataW H)) (before : List MemPlace),
      (∀ (j : Nat) t v, fn.params[j]? = some t → args[j]? = some v → Value.okWide C.prog W .any base t v) →
      DataW.Whole enc C.prog fn.params.toList s.vars apart W args.toList ds gs before →
      conds.all (PathCond.test C.prog ⟨fn.params.toList, ds, s.plain.varTypes C.prog, gs⟩) = true →
      X W args → W.ShapedOpen C.prog →
      Calls C.prog f args W fun e W' => ∃ v, e = .returned v ∧ s.post enc C.prog fn apart fresh handsOn again W args v W') :
    ReturnsInHanded a C os f .any (fun w args => (s.pre enc C.prog fn conds apart w args ∧ X w args) ∧ sizedMet enc C.prog fn (OpenSpec.ofChange s) apart w args) (s.post enc C.prog fn apart fresh handsOn again) := by
  refine returnsInHanded_of_calls own started noInit witness ?_
  intro w tape i _ hsh _ hok hpre _
  obtain ⟨_, _, _, fn', hfn', _, _, _, _, hval⟩ := hok
  have e : fn' = fn := Option.some.inj (hfn'.symm.trans hfn)
  subst e
  obtain ⟨⟨⟨ds, gs, before, hw, hc⟩, hx⟩, hz⟩ := hpre
  have hw' := DataW.Whole.of_heap (w' := w.forCall tape i) (by rfl) hw
  refine (contract (w.forCall tape i) w.heap.size i.args ds gs before hval hw' hc (hX _ _ _ (by rfl) hx) hsh).mono fun e W' ⟨v, he, hp⟩ => ?_
  subst he
  exact ChangeSpec.post_blind hp
end

theorem glob_of {laid : List (String × DataW Unit)} {W : World} (i : Nat) (hp : laidMetH Tryz.prog laid W = laidMet Tryz.prog laid W) (hi : laid[i]? = some ("math/bits.deBruijn64tab", Lib.tabData .u8 (Lib.deBruijn64tab.map Int.ofNat))) (h : laidMetH Tryz.prog laid W) : Glob W := by
  rw [hp] at h
  have h64 : Lib.TabIs Tryz.prog W "math/bits.deBruijn64tab" .u8 (Lib.deBruijn64tab.map Int.ofNat) :=
    tabIs_at (g := 0) (t := 147) (e := 5) (by kernel_rfl) (by kernel_rfl) Tryz.underlying147 Tryz.underlying5 (by kernel_rfl) (by kernel_rfl) h i hi
  refine ⟨rfl, ?_, fun j hj => ?_⟩
  · have := h64.cell (g := 0) (by kernel_rfl) 0 (by decide)
    have : 0 < W.heap.size := World.block_lt_of_cell? W _ this
    omega
  · have := h64.cell (g := 0) (by kernel_rfl) j (by simpa using hj)
    rw [this]
    simp [List.getD, hj]

set_option maxRecDepth 100000 in
/-- a law's frame: from its walk to what the row says -/
theorem lifted_tied {os : Os} {H : Type} {enc : TypeId × Value → H} {f : FuncId} {fn : Func} {s : ChangeSpec} {conds : List PathCond} {apart : Bool} {laid : List (String × DataW Unit)}
    (hglob : ∀ W, laidMetH Tryz.prog laid W → Glob W)
    (started : os.Started) (noInit : Tryz.prog.inits.idxOf? f = none) (hfn : Tryz.prog.funcs[f]? = some fn) (hrt : fn.resultTypes = #[4]) (hv : s.vars = [])
    (hrows : ∀ t ∈ fn.params.toList, Tryz.prog.readableRec t = true ∧ t < Tryz.prog.types.size)
    (witness : ∃ (w : World) (tape : Tape) (i : Input), w.os = os ∧ (w.forCall tape i).Shaped Tryz.checked.prog ∧ i.vars = [] ∧ Input.okWide Tryz.checked.prog (w.forCall tape i) .any w.heap.size f i ∧
      ((s.pre enc Tryz.checked.prog fn conds apart (w.forCall tape i).memory i.args ∧ laidMetH Tryz.prog laid (w.forCall tape i).memory) ∧ sizedMet enc Tryz.checked.prog fn (OpenSpec.ofChange s) apart (w.forCall tape i).memory i.args) ∧ ({ modest := false } : Assume).holds Tryz.checked.prog (lone (Frame.enter Tryz.checked.prog f i.args .normal) [] (w.forCall tape i)))
    (walk : ∀ (W : World) (base : Nat) (args : Array Value) (ds : List (DataW H)) (p : List MemPlace),
      (∀ (j : Nat) t v, fn.params[j]? = some t → args[j]? = some v → Value.okWide Tryz.prog W .any base t v) →
      DataW.TrodAll enc Tryz.prog W 0 (fun _ => true) true fn.params.toList args.toList ds p → Glob W →
      s.fn H ds = { results := [.lit (.bool true)], args := ds } ∧ Calls Tryz.prog f args W fun e W' => e = .returned (.bool true) ∧ Below W.heap.size W W') :
    ReturnsInHanded {} Tryz.checked os f .any (fun w args => (s.pre enc Tryz.prog fn conds apart w args ∧ laidMetH Tryz.prog laid w) ∧ sizedMet enc Tryz.prog fn (OpenSpec.ofChange s) apart w args) (s.post enc Tryz.prog fn apart true false false) := by
  refine returnsInHanded_of_laid (C := Tryz.checked) (X := fun w _ => laidMetH Tryz.prog laid w) (fun _ _ _ hh h => h.of_heap hh) own_knob started noInit hfn witness ?_
  intro W base args ds gs before hval hW _ hL _
  have hW' := hW
  obtain ⟨p, q, hA, hV, rfl, _, _⟩ := hW
  rw [hv] at hV
  obtain ⟨rfl, rfl⟩ := trodVars_none hV
  obtain ⟨hs, hw⟩ := walk W base args ds p hval hA (hglob W hL)
  refine hw.mono fun e W' ⟨he, hb⟩ => ?_
  subst he
  exact ⟨_, rfl, post_true laid_out Tryz.underlying4 hrt hv hrows (by simpa using hs) hW' hb⟩

end Go.Proofs.YtpoalgkgomljmaaGreatDoor

namespace Go.Proofs.YtpoalgkgomljmaaGreatDoor
open Go.RowKit

/-- a table that can be looked at whole: few holdings of few things -/
def FewT (l : Tb) : Prop := l.length ≤ 100 ∧ ∀ h ∈ l, h.things.length ≤ 100
theorem FewT.at {l : Tb} (h : FewT l) {k : Nat} (hk : k < l.length) : (l.getD k hd0).things.length ≤ 100 := by
  rw [List.getD, List.getElem?_eq_getElem hk]
  exact h.2 _ (List.getElem_mem hk)

/-- a holding and a yes or no -/
def GHPost (h : Hd) (b : Bool) (w : World) (e : Ending) (w' : World) : Prop :=
  (∃ A m c, e = .returned (.tuple #[.agg #[.int .i64 h.id, .slice A m c, .int .i64 h.frm, .int .i64 h.to], .bool b]) ∧ HAsk w' A m c h) ∧ Below w.heap.size w w'
/-- a table, a holding, and no error -/
def DPost (l : Tb) (h : Hd) (w : World) (e : Ending) (w' : World) : Prop :=
  (∃ A1 n1 c1 A m c, e = .returned (.tuple #[.slice A1 n1 c1, .agg #[.int .i64 h.id, .slice A m c, .int .i64 h.frm, .int .i64 h.to], .int .i64 0]) ∧ (RT w' w'.heap.size A1 n1 l ∧ (A1 = none → c1 = 0) ∧ n1 ≤ c1) ∧ HAsk w' A m c h) ∧ Below w.heap.size w w'
/-- some table and an error's number -/
def CPost (er : Int) (w : World) (e : Ending) (w' : World) : Prop :=
  (∃ A1 n1 c1, e = .returned (.tuple #[.slice A1 n1 c1, .int .i64 er])) ∧ Below w.heap.size w w'
/-- two tables -/
def TTPost (a b : Tb) (w : World) (e : Ending) (w' : World) : Prop :=
  (∃ A1 c1 A2 c2, e = .returned (.tuple #[.slice A1 a.length c1, .slice A2 b.length c2]) ∧ RT w' w'.heap.size A1 a.length a ∧ RT w' w'.heap.size A2 b.length b ∧ ((A1 = none → c1 = 0) ∧ a.length ≤ c1) ∧ ((A2 = none → c2 = 0) ∧ b.length ≤ c2)) ∧ Below w.heap.size w w'

end Go.Proofs.YtpoalgkgomljmaaGreatDoor

namespace Go.Proofs.YtpoalgkgomljmaaGreatDoor
open Go.RowKit

theorem bytes_snoc (s : ByteArray) (k : Nat) (h : k < s.size) : s.data.toList.take (k + 1) = s.data.toList.take k ++ [s[k]] := by
  rw [List.take_succ_eq_append_getElem (by simpa using h)]; rfl
theorem str_empty {s : ByteArray} (h : s.size = 0) : s = ⟨#[]⟩ := by
  apply ByteArray.ext
  exact Array.eq_empty_of_size_eq_zero h
theorem str_facts {s : ByteArray} (h : s.size ≠ 0) : (¬ s.toList = []) ∧ s.toList.isEmpty = false ∧ (s.toList == []) = false ∧ (s.toList != []) = true := by
  have h1 : ¬ s.toList = [] := fun e => h (by
    rw [ByteArray.toList_eq] at e
    have : s.data.toList.length = 0 := by rw [e]; rfl
    simpa using this)
  refine ⟨h1, ?_, ?_, ?_⟩
  · rw [← Bool.not_eq_true, List.isEmpty_iff]; exact h1
  · rw [← Bool.not_eq_true, beq_iff_eq]; exact h1
  · rw [bne_iff_ne]; exact h1
theorem tagB_size {s : ByteArray} (h : tagB s = true) : s.size ≤ 16 := by
  unfold tagB at h
  rw [Bool.and_eq_true, decide_eq_true_eq] at h
  exact h.2
theorem rightG_no {g : Gr} {i : Nat} (hi : i < g.length) (h : ¬ okT g i) : rightG g = false := by
  unfold rightG
  rw [decide_eq_false_iff_not]
  exact fun h' => h (h'.2.2 i hi)
theorem okT_zero (g : Gr) : okT g 0 ↔ gk g 0 = 0 ∧ gu g 0 = -1 ∧ (gt g 0).size = 0 := by unfold okT; rw [if_pos rfl]
theorem okT_pos {g : Gr} {i : Nat} (h : 0 < i) : okT g i ↔ 0 ≤ gu g i ∧ gu g i < i ∧ ((gt g i).size = 0 ∨ gk g i = 2) ∧ tagB (gt g i) = true ∧
      ((gk g i = 1 ∧ gk g (gu g i).toNat = 0) ∨ (gk g i = 2 ∧ gk g (gu g i).toNat < 2) ∨ ((gk g i = 3 ∨ gk g i = 4) ∧ gk g (gu g i).toNat = 2)) := by unfold okT; rw [if_neg (by omega)]
/-- one number more is appended -/
theorem wpList_append_EI {P : Program} {ops : Array Oper} {rest : List Oper} {o : Oper} {a : Act} {Q : Exit → Act → World → Prop} {w wr : World} {v : Value} {xs : List Int} (hgd : o.guard = none) (s x : Operand) (ty t : TypeId)
    (ho : o.op = .call { callee := .builtin .append, args := #[s, x], argTypes := #[ty, ty] })
    (h : ON EI 1 t w v xs wr) (i : TypeInfo) (ht : P.underlying ty = some (.slice t)) (hi : P.info? t = some i) (hz : i.zero = some (.int .i64 0)) (hsize : i.size = 1) (hby : i.bytes = 8)
    (hs : a.eval s = v) (x0 : Int) (hx : a.eval x = .slice (some ⟨wr.heap.size, 0, none⟩) 1 1) (hl : xs.length ≤ 1000)
    (hk : ∀ v' w', ON EI 1 t w v' (xs ++ [x0]) w' → wpList P ops Q rest (a.put o.dst v') w') : wpList P ops Q (o :: rest) a (wr.alloc (.cells #[.int .i64 x0] t)) :=
  wpList_append_ON hgd s x ty ho ei_steady h i (.int .i64 0) 8 ht hi hz hsize hby rfl (by decide) hs x0 #[.int .i64 x0] hx rfl (by intro u hu; simp at hu; subst hu; rfl) rfl (by unfold maxLen; omega) (by omega) hk

theorem wholeL_no {g : Gr} {l : List Int} (h : ¬ (rightG g = true ∧ rightB l = true ∧ ∀ x ∈ l, x < g.length)) : wholeL g l = [] := by
  unfold wholeL wholeOk
  rw [if_neg]
  intro h'
  rw [Bool.and_eq_true, Bool.and_eq_true, decide_eq_true_eq] at h'
  exact h ⟨h'.1.1, h'.1.2, h'.2⟩
theorem wholeL_yes {g : Gr} {l : List Int} (h1 : rightG g = true) (h2 : rightB l = true) (h3 : ∀ x ∈ l, x < g.length) : wholeL g l = numsF (anyOver g l) g.length := by
  unfold wholeL wholeOk
  rw [if_pos (by rw [h1, h2, decide_eq_true h3]; rfl)]
theorem right_lt_last {l : List Int} (h : rightB l = true) : ∀ (j i : Nat), i < j → j < l.length → l.getD i 0 < l.getD j 0 := by
  rw [rightB_iff] at h
  intro j
  induction j with
  | zero => intro i hi; omega
  | succ j ih =>
    intro i hi hj
    have := (h (j + 1) hj).2.2 (by omega)
    rw [Nat.add_sub_cancel] at this
    rcases Nat.lt_or_ge i j with h' | h'
    · have := ih i h' (by omega); omega
    · obtain rfl : i = j := by omega
      exact this
theorem all_lt_last {l : List Int} (h : rightB l = true) (hl : 0 < l.length) (N : Nat) : l.getD (l.length - 1) 0 < N → ∀ x ∈ l, x < N := by
  intro h1 x hx
  obtain ⟨i, hi, rfl⟩ := List.getElem_of_mem hx
  have e : l[i] = l.getD i 0 := by rw [List.getD, List.getElem?_eq_getElem hi]; rfl
  rw [e]
  rcases Nat.lt_or_ge i (l.length - 1) with h' | h'
  · have := right_lt_last h (l.length - 1) i h' (by omega); omega
  · obtain rfl : i = l.length - 1 := by omega
    exact h1
theorem anyOver_no {g : Gr} {l : List Int} {k : Nat} (h : ∀ i, i < l.length → overG g k (l.getD i 0).toNat = false) : anyOver g l k = false := by
  unfold anyOver
  rw [List.any_eq_false]
  intro x hx
  obtain ⟨i, hi, rfl⟩ := List.getElem_of_mem hx
  have := h i hi
  rw [List.getD, List.getElem?_eq_getElem hi] at this
  intro h'
  rw [show l[i] = (some l[i]).getD 0 from rfl, this] at h'
  cases h'

end Go.Proofs.YtpoalgkgomljmaaGreatDoor
