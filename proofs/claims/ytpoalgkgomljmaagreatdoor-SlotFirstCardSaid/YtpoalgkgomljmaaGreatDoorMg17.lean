/- The program's Nodes of layer 5 (graph): what it answers of any list of things. Words for memory: a slice of counts of five kinds each, that the call itself made. The program's home and count: what they answer. -/
import Derived.Test.YtpoalgkgomljmaaGreatDoorMg16
import Derived.OwnWalk
import Derived.Laws.OwnMore
import Derived.LoopTactic
import Derived.RegionTactic
namespace Go.Proofs.YtpoalgkgomljmaaGreatDoor
open Go.RowKit

theorem alloc_size (w : World) (o : Obj) : (w.alloc o).heap.size = w.heap.size + 1 := by simp
set_option maxRecDepth 100000 in
set_option maxHeartbeats 4000000 in
/-- of a graph: the nodes, in a row of the call's own -/
theorem nodes_own (A : Option Addr) (n c : Nat) (g : Gr) (w : World) (h : GAsk w A n c g) (hg : rightG g = true) :
    Calls Tryz.prog 108 #[.slice A n c] w fun e w' => ∃ v w1, e = .returned v ∧ Below w.heap.size w w1 ∧ ON EI 1 3 w1 v (nodesL g) w' := by
  obtain ⟨i0, hi0, hz0, hz1, hz2⟩ := info_parts int_info
  have HN : Hid (n ≤ maxLen) := Lib.hid (ml300 h.few)
  have HR := Lib.hid h.reads
  have HL := Lib.hid h.reads.len
  clear h
  have HGR := Lib.hid (rightG_is hg)
  have HG := Lib.hid hg
  have HRES : Hid (nodesL g = numsF (fun k => gk g k == 2) n) := Lib.hid (by unfold nodesL; rw [if_pos hg, HL.out])
  clear hg
  have hn256 : n ≤ 256 := by have := HGR.out.few; have := HL.out; omega
  go_enter Tryz.func108, Tryz.ntmps108
  go_wp2_with fail
  refine (graphRight_b HR.out HN.out HG.out).mono ?_
  rintro e w1 ⟨rfl, hb⟩
  have HB := Lib.hid hb
  have HR1 := Lib.hid (HR.out.next hb)
  clear hb
  go_wp2
  go_loopw [3, 11] (fun v i wr => ∃ k : Nat, k ≤ n ∧ i = .int .i64 k ∧ ON EI 1 3 w1 v (numsF (fun k => gk g k == 2) k) wr) (fun _ i _ => n - (intOf i).toNat)
  case atStart => exact ⟨0, Nat.zero_le _, rfl, ON.nil _⟩
  case round =>
    obtain ⟨k, hk, rfl, hf⟩ := hrel
    by_cases hlt : k < n
    · have hlen : Hid ((numsF (fun k => gk g k == 2) k).length ≤ 1000) := Lib.hid (by have := numsF_len (fun k => gk g k == 2) k; omega)
      have HRk := Lib.hid (HR1.out.next hf.below)
      obtain ⟨b, off, rfl, _, hc0, hc1, hc2, _⟩ := HRk.out.one hlt
      obtain ⟨kk, hkk⟩ : ∃ kk, gk g k = kk := ⟨_, rfl⟩
      obtain ⟨uu, huu⟩ : ∃ uu, gu g k = uu := ⟨_, rfl⟩
      obtain ⟨ss, hss⟩ : ∃ ss, gt g k = ss := ⟨_, rfl⟩
      rw [hkk] at hc0
      rw [huu] at hc1
      rw [hss] at hc2
      have HF : Hid (ON EI 1 3 w1 _ (numsF (fun k => gk g k == 2) k) (wr.alloc (.cells #[.int .i64 kk, .int .i64 uu, .string ss] 59))) := Lib.hid (hf.next ei_steady ((Below.refl _ _).alloc (Nat.le_refl _) _))
      clear hf huu hss
      by_cases h2 : kk = 2
      · have HS : Hid (numsF (fun k => gk g k == 2) (k + 1) = numsF (fun k => gk g k == 2) k ++ [(k : Int)]) := Lib.hid (numsF_yes (by rw [hkk, h2]; rfl))
        subst h2
        clear hkk
        go_wp2_with (at_builtin; refine wpList_append_EI rfl (.tmp 19) (.tmp 21) 23 3 rfl HF.out i0 Tryz.underlying23 hi0 hz0 hz1 hz2 rfl _ (by rw [alloc_size]; rfl) hlen.out ?_; intro v' w4 hON4; refine Hid.out ?_)
        refine Lib.hid ?_
        have HO4 := Lib.hid hON4
        clear hON4 hc0 hc1 hc2
        go_wp2
        go_roundw
        case rel => exact ⟨k + 1, by omega, by go_num, by rw [HS.out]; exact HO4.out⟩
        case measure => simp [intOf]; omega
      · have h2d : (kk == 2) = false := by simpa using h2
        have HS : Hid (numsF (fun k => gk g k == 2) (k + 1) = numsF (fun k => gk g k == 2) k) := Lib.hid (numsF_no (by rw [hkk]; exact h2d))
        clear hkk h2
        go_wp2
        go_roundw
        case rel => exact ⟨k + 1, by omega, by go_num, by rw [HS.out]; exact HF.out⟩
        case measure => simp [intOf]; omega
    · have hkn : k = n := by omega
      subst hkn
      have HF := Lib.hid hf
      clear hf
      go_wp2
      go_ret
      rw [HRES.out]
      exact ⟨_, w1, rfl, HB.out, HF.out⟩

set_option maxRecDepth 100000 in
set_option maxHeartbeats 4000000 in
theorem nodes_any (A : Option Addr) (n c : Nat) (g : Gr) (w : World) (h : GAsk w A n c g) :
    Calls Tryz.prog 108 #[.slice A n c] w (IPost (nodesL g) w) := by
  obtain ⟨i0, hi0, hz0, hz1, hz2⟩ := info_parts int_info
  have HN : Hid (n ≤ maxLen) := Lib.hid (ml300 h.few)
  have HR := Lib.hid h.reads
  have HL := Lib.hid h.reads.len
  have hnil := h.nil
  have hcap := h.cap
  have hfew := h.few
  clear h
  cases hg : rightG g with
  | false =>
    have e0 : nodesL g = [] := by unfold nodesL; rw [hg]; rfl
    rw [e0]
    have HG := Lib.hid hg
    clear hg e0
    go_enter Tryz.func108, Tryz.ntmps108
    go_wp2_with fail
    refine (graphRight_b HR.out HN.out HG.out).mono ?_
    rintro e w1 ⟨rfl, hb⟩
    have HB := Lib.hid hb
    clear hb
    go_wp2
    go_ret
    exact ipost_nil HB.out
  | true =>
    exact (nodes_own A n c g w ⟨HR.out, hnil, hcap, hfew⟩ hg).mono fun e w' ⟨v, w1, h1, h2, h3⟩ => by rw [h1]; exact h3.ipost.trans h2

end Go.Proofs.YtpoalgkgomljmaaGreatDoor

namespace Go.Proofs.YtpoalgkgomljmaaGreatDoor
open Go.RowKit

def tabL (n : Nat) (T : Nat → Nat → Int) : List Value := (List.range (n * 5)).map fun i => Value.int .i64 (T (i / 5) (i % 5))
section
variable {n k c : Nat} {T T' : Nat → Nat → Int}
theorem tabL_len (n : Nat) (T : Nat → Nat → Int) : (tabL n T).length = n * 5 := by unfold tabL; simp
theorem tabL_at (hk : k < n) (hc : c < 5) : (tabL n T)[k * 5 + c]? = some (.int .i64 (T k c)) := by
  have h1 : k * 5 + c < n * 5 := by omega
  unfold tabL
  rw [List.getElem?_map, List.getElem?_range h1]
  show some (Value.int .i64 (T ((k * 5 + c) / 5) ((k * 5 + c) % 5))) = _
  rw [show (k * 5 + c) / 5 = k by omega, show (k * 5 + c) % 5 = c by omega]
theorem tabL_ext (h : ∀ k c, k < n → c < 5 → T k c = T' k c) : tabL n T = tabL n T' := by
  unfold tabL
  apply List.map_congr_left
  intro i hi
  rw [List.mem_range] at hi
  rw [h _ _ (by omega) (Nat.mod_lt _ (by omega))]
theorem tabL_set (hc : c < 5) (v : Int) : (tabL n T).set (k * 5 + c) (.int .i64 v) = tabL n (upT T k c v) := by
  apply List.ext_getElem?
  intro i
  rw [List.getElem?_set]
  by_cases hi : i < n * 5
  · have e : ∀ T, (tabL n T)[i]? = some (.int .i64 (T (i / 5) (i % 5))) := fun T => by
      have := tabL_at (T := T) (n := n) (k := i / 5) (c := i % 5) (by omega) (Nat.mod_lt _ (by omega))
      rwa [show i / 5 * 5 + i % 5 = i by omega] at this
    rw [e, e]
    unfold upT
    split
    · rename_i h
      subst h
      rw [if_pos (by rw [tabL_len]; exact hi), if_pos ⟨by omega, by omega⟩]
    · rename_i h
      rw [if_neg (fun h' => h (by omega))]
  · rw [List.getElem?_eq_none (by rw [tabL_len]; omega), List.getElem?_eq_none (by rw [tabL_len]; omega)]
    split
    · rw [if_neg (by rw [tabL_len]; omega)]
    · rfl
end
theorem kinds_info : (Tryz.prog.info? 128).map (fun i => (i.zero, i.size, i.bytes)) = some (some (.agg #[.int .i64 0, .int .i64 0, .int .i64 0, .int .i64 0, .int .i64 0]), 5, 40) := by kernel_rfl
theorem kinds_parts {z : Value} {s b : Nat} (h : (Tryz.prog.info? 128).map (fun i => (i.zero, i.size, i.bytes)) = some (some z, s, b)) : ∃ i, Tryz.prog.info? 128 = some i ∧ i.zero = some z ∧ i.size = s ∧ i.bytes = b := info_parts h
theorem made_kinds (n : Nat) : (madeCells (Value.agg #[.int .i64 0, .int .i64 0, .int .i64 0, .int .i64 0, .int .i64 0]).cells (n * 5)).toList = tabL n fun _ _ => 0 := by
  have e : (Value.agg #[.int .i64 0, .int .i64 0, .int .i64 0, .int .i64 0, .int .i64 0]).cells = #[.int .i64 0, .int .i64 0, .int .i64 0, .int .i64 0, .int .i64 0] := rfl
  rw [e]
  apply List.ext_getElem?
  intro i
  by_cases hi : i < n * 5
  · have h5 := Nat.mod_lt i (show 0 < 5 by omega)
    unfold tabL madeCells
    simp only [Array.toList_map, Array.toList_range, List.getElem?_map, List.getElem?_range hi, Option.map_some]
    congr 1
    show #[Value.int .i64 0, .int .i64 0, .int .i64 0, .int .i64 0, .int .i64 0][i % 5]! = _
    rcases (show i % 5 = 0 ∨ i % 5 = 1 ∨ i % 5 = 2 ∨ i % 5 = 3 ∨ i % 5 = 4 by omega) with h | h | h | h | h <;> rw [h] <;> rfl
  · rw [List.getElem?_eq_none (by rw [Array.length_toList, size_madeCells]; omega), List.getElem?_eq_none (by rw [tabL_len]; omega)]

/-- block g holds the table T of n rows; it was made in a world that keeps all that was there in w -/
structure Tab (w : World) (g n : Nat) (T : Nat → Nat → Int) (wr : World) : Prop where
  own : wr.ownsRow w.heap.size 128 5 (.slice (some ⟨g, 0, none⟩) n n) n (tabL n T)
  bel : Below w.heap.size w wr
section
variable {w wr w1 : World} {g n k c : Nat} {T T' : Nat → Nat → Int}
theorem Tab.lt (h : Tab w g n T wr) : w.heap.size ≤ g ∧ g < wr.heap.size := h.own.lt g rfl
theorem Tab.cell (h : Tab w g n T wr) (hk : k < n) (hc : c < 5) : wr.cell? ⟨g, k * 5 + c, none⟩ = some (.int .i64 (T k c)) := by
  rw [h.own.cellAt _ (by omega), tabL_at hk hc]
theorem Tab.frozen (h : Tab w g n T wr) (j : Nat) : wr.frozen? ⟨g, j, none⟩ = false := h.own.frozenAt j
theorem Tab.next (h : Tab w g n T wr) (hb : Below wr.heap.size wr w1) : Tab w g n T w1 := by
  refine ⟨⟨h.own.1, h.own.2.imp id ?_⟩, h.bel.trans (hb.mono h.bel.size)⟩
  rintro ⟨g', cap, cur, e1, e2, e3, e4⟩
  exact ⟨g', cap, cur, e1, e2, (hb.block g' (Array.getElem?_eq_some_iff.1 e3).1).trans e3, e4⟩
theorem Tab.ext (h : Tab w g n T wr) (he : ∀ k c, k < n → c < 5 → T k c = T' k c) : Tab w g n T' wr := ⟨by rw [← tabL_ext he]; exact h.own, h.bel⟩
theorem Tab.set (h : Tab w g n T wr) (hc : c < 5) (k : Nat) (v : Int) : Tab w g n (upT T k c v) (wr.setCell ⟨g, k * 5 + c, none⟩ (.int .i64 v)) := by
  have hs := h.own.stored (k * 5 + c) (.int .i64 v)
  rw [tabL_set hc] at hs
  exact ⟨hs.1, h.bel.setCell h.lt.1 _⟩
theorem Tab.made {fl : List Value} (h : wr.ownsRow w.heap.size 128 5 (.slice (some ⟨g, 0, none⟩) n n) n fl) (e : fl = tabL n fun _ _ => 0) (hg : w.grownBy wr none) : Tab w g n (fun _ _ => 0) wr := by
  subst e
  exact ⟨h, (Below.refl _ _).grown hg (Nat.le_refl _) (fun k hk => by cases hk)⟩
/-- seen from an earlier world -/
theorem Tab.early {w0 : World} (h : Tab w g n T wr) (hb : Below w0.heap.size w0 w) : Tab w0 g n T wr := ⟨own_base h.own hb.size, hb.trans (h.bel.mono hb.size)⟩
end

/-! home -/
set_option maxRecDepth 100000 in
set_option maxHeartbeats 2000000 in
theorem home_any (A : Option Addr) (n c : Nat) (g : Gr) (x : Nat) (w : World) (hr : RG w w.heap.size A n g) (_ : n ≤ 256) (_ : x ≤ 300) :
    Calls Tryz.prog 113 #[.slice A n c, .int .i64 (x : Int)] w fun e w' => e = .returned (.tuple #[.int .i64 (homeG g (x : Int)).1, .bool (homeG g (x : Int)).2]) ∧ w = w' := by
  have hl := hr.len
  by_cases hlt : x < n
  · obtain ⟨b, off, rfl, _, hc0, hc1, _, _⟩ := hr.one hlt
    have e : homeG g (x : Int) = if gk g x = 2 then ((x : Int), true) else if gk g x = 3 ∨ gk g x = 4 then (gu g x, true) else (0, false) := by
      unfold homeG
      rw [if_pos (by omega), Int.toNat_natCast]
    rw [e]
    obtain ⟨kk, hkk⟩ : ∃ kk, gk g x = kk := ⟨_, rfl⟩
    obtain ⟨uu, huu⟩ : ∃ uu, gu g x = uu := ⟨_, rfl⟩
    rw [hkk] at hc0 ⊢
    rw [huu] at hc1 ⊢
    clear e hl hkk huu hr
    by_cases h2 : kk = 2
    · subst h2
      go_enter Tryz.func113, Tryz.ntmps113
      go_wp2
      go_ret2
      exact ⟨rfl, rfl⟩
    · have d2 : (kk == 2) = false := by simpa using h2
      rw [if_neg h2]
      by_cases h3 : kk = 3
      · subst h3
        rw [if_pos (.inl rfl)]
        go_enter Tryz.func113, Tryz.ntmps113
        go_wp2
        go_ret2
        exact ⟨rfl, rfl⟩
      · have d3 : (kk == 3) = false := by simpa using h3
        by_cases h4 : kk = 4
        · subst h4
          rw [if_pos (.inr rfl)]
          go_enter Tryz.func113, Tryz.ntmps113
          go_wp2
          go_ret2
          exact ⟨rfl, rfl⟩
        · have d4 : (kk == 4) = false := by simpa using h4
          rw [if_neg (by omega)]
          go_enter Tryz.func113, Tryz.ntmps113
          go_wp2
          go_ret2
          exact ⟨rfl, rfl⟩
  · have e : homeG g (x : Int) = (0, false) := home_far (by omega)
    rw [e]
    clear e hl hr
    have hd : decide (n ≤ x) = true := by simp; omega
    have hd' : n ≤ x := by omega
    go_enter Tryz.func113, Tryz.ntmps113
    go_wp2
    go_ret2
    exact ⟨rfl, rfl⟩
theorem home_b {A : Option Addr} {n c : Nat} {g : Gr} {x : Nat} {w : World} {u : Int} {b : Bool} (hr : RG w w.heap.size A n g) (hn : n ≤ 256) (hx : x ≤ 300) (h : homeG g (x : Int) = (u, b)) :
    Calls Tryz.prog 113 #[.slice A n c, .int .i64 (x : Int)] w fun e w' => e = .returned (.tuple #[.int .i64 u, .bool b]) ∧ w = w' := by
  have := home_any A n c g x w hr hn hx
  rw [h] at this
  exact this

/-! count -/
theorem set_numsF {F : List Int} (h : rightB F = true) : F = numsF (fun k => hasB F (k : Int)) 256 := by
  refine right_ext h (numsF_right _ (Nat.le_refl _)) fun x => ?_
  rw [mem_numsF]
  constructor
  · intro hx
    have := right_mem h x hx
    exact ⟨x.toNat, by omega, by rw [has_iff h, Int.toNat_of_nonneg (by omega)]; exact hx, by omega⟩
  · rintro ⟨k, _, h2, rfl⟩
    exact (has_iff h).1 h2
set_option maxRecDepth 100000 in
set_option maxHeartbeats 4000000 in
theorem mcount_any (A : Option Addr) (n c : Nat) (A2 : Option Addr) (n2 c2 : Nat) (g : Gr) (F : List Int) (w : World) (hr : RG w w.heap.size A n g) (hg : rightG g = true) (hi : RI w w.heap.size A2 n2 F) (hF : rightB F = true) :
    Calls Tryz.prog 106 #[.slice A n c, .slice A2 n2 c2] w fun e w' => ∃ b, e = .returned (.slice (some ⟨b, 0, none⟩) n n) ∧ Tab w b n (tabT g F 256) w' := by
  obtain ⟨i0, hi0, hz0, hz1, hz2⟩ := kinds_parts kinds_info
  have hl := hr.len
  have HGR := Lib.hid (rightG_is hg)
  have hn256 : n ≤ 256 := by have := HGR.out.few; omega
  have hset := set_numsF hF
  have hn2 : n2 ≤ 256 := by rw [← hi.1, hset]; exact numsF_len _ _
  have HRB : Hid (∀ wr, Below w.heap.size w wr → RG wr w.heap.size A n g ∧ RI wr w.heap.size A2 n2 F) := Lib.hid (fun wr hb' => ⟨hr.below hb', hi.below hb'⟩)
  have HL := Lib.hid hl
  have HL2 := Lib.hid hi.1
  have HSET := Lib.hid hset
  clear hr hi hF hl hset hg
  go_enter Tryz.func106, Tryz.ntmps106
  go_wp2_with (at_make; refine wpList_make_full _ rfl _ _ 121 rfl w.heap.size 128 i0 _ 5 Tryz.underlying121 hi0 hz0 hz1 .i64 .i64 _ _ n rfl rfl rfl rfl (by rw [hz2]; omega) (by unfold maxLen; omega) (Nat.le_refl _) ?_; intro w1 hown hgrow; refine Hid.out ?_)
  refine Lib.hid ?_
  have HT := Lib.hid (Tab.made hown (made_kinds n) hgrow)
  clear hown hgrow
  go_wp2
  go_loopw [15] (fun i wr => ∃ k m : Nat, k ≤ n2 ∧ i = .int .i64 k ∧ m ≤ 256 ∧ F.take k = numsF (fun j => hasB F (j : Int)) m ∧ Tab w w.heap.size n (tabT g F m) wr) (fun i _ => n2 - (intOf i).toNat)
  case atStart => exact ⟨0, 0, Nat.zero_le _, rfl, Nat.zero_le _, by simp [numsF], HT.out.ext fun k c _ _ => tab_zero.symm⟩
  case round =>
    obtain ⟨k, m, hk, rfl, hm, htake, hrel⟩ := hrel
    have HK := Lib.hid hrel
    clear hrel
    obtain ⟨hRk, hIk⟩ := HRB.out wr HK.out.bel
    by_cases hlt : k < n2
    · have HRk := Lib.hid (show RG wr wr.heap.size A n g from RN.keep eth_steady hRk (fun _ _ => rfl) (fun b (hb : b < w.heap.size) => Nat.lt_of_lt_of_le hb HK.out.bel.size))
      obtain ⟨x, hmx, hx256, hxk, hxF, hgap, htk⟩ := take_next (by rw [← HSET.out, HL2.out]; exact hlt) (by rw [← HSET.out]; exact htake) hm
      rw [← HSET.out] at hxk htk
      obtain ⟨b, off, rfl, _, hcl⟩ := hIk.one hlt
      rw [hxk] at hcl
      have HTK := Lib.hid htk
      have HXF := Lib.hid hxF
      have HGAP := Lib.hid hgap
      clear hIk hRk htake hxk htk hxF hgap
      by_cases hxn : x < n
      · rcases home_is HGR.out (x := x) (by rw [HL.out]; exact hxn) with ⟨j, hj, hh, h2, ho, hd⟩ | ⟨hh, hd⟩
        · have hjn : j < n := by rw [HL.out] at hj; exact hj
          have HH := Lib.hid hh
          have HJ := Lib.hid h2
          have HO := Lib.hid ho
          have HRx := Lib.hid HRk.out
          obtain ⟨b2, off2, rfl, _, hc0, _, _, _⟩ := HRk.out.one hxn
          obtain ⟨kd, hkd⟩ : ∃ kd, gk g x = kd := ⟨_, rfl⟩
          rw [hkd] at hc0 hd
          have HD := Lib.hid hkd
          clear hh h2 ho hkd hj
          rcases hd with h | h | h
          · subst h
            have hct := HK.out.cell (k := j) (c := 2) hjn (by omega)
            have hft := HK.out.frozen (j * 5 + 2)
            have hle := tab_le (g := g) (F := F) (m := m) (k := j) (c := 2)
            have HT4 : Hid (Tab w w.heap.size n (tabT g F (x + 1)) (wr.drew.setCell ⟨w.heap.size, j * 5 + 2, none⟩ (.int .i64 (tabT g F m j 2 + 1)))) := Lib.hid (((HK.out.next (bel_drew wr 1)).set (by omega) j (tabT g F m j 2 + 1)).ext fun k c hk _ => by
              rw [tab_step HGR.out (by rw [HL.out]; exact hxn) HJ.out HO.out (d := 2) HD.out HXF.out c (by rw [HL.out]; exact hk)]
              unfold upT
              rw [tab_gap hmx HGAP.out, tab_gap hmx HGAP.out])
            obtain ⟨y, hy⟩ : ∃ y, tabT g F m j 2 = y := ⟨_, rfl⟩
            rw [hy] at hct hle HT4
            clear hy
            have hjz : (j : Int) < (n : Int) := by omega
            go_wp2_with fail
            refine (home_b HRx.out hn256 (by omega) HH.out).mono ?_
            rintro e w4 ⟨rfl, rfl⟩
            go_wp2
            go_region
            all_goals go_wp2
            go_roundw
            case rel => exact ⟨k + 1, x + 1, by omega, by go_num, by omega, HTK.out, HT4.out⟩
            case measure => simp [intOf]; omega
          · subst h
            have hct := HK.out.cell (k := j) (c := 3) hjn (by omega)
            have hft := HK.out.frozen (j * 5 + 3)
            have hle := tab_le (g := g) (F := F) (m := m) (k := j) (c := 3)
            have HT4 : Hid (Tab w w.heap.size n (tabT g F (x + 1)) (wr.drew.setCell ⟨w.heap.size, j * 5 + 3, none⟩ (.int .i64 (tabT g F m j 3 + 1)))) := Lib.hid (((HK.out.next (bel_drew wr 1)).set (by omega) j (tabT g F m j 3 + 1)).ext fun k c hk _ => by
              rw [tab_step HGR.out (by rw [HL.out]; exact hxn) HJ.out HO.out (d := 3) HD.out HXF.out c (by rw [HL.out]; exact hk)]
              unfold upT
              rw [tab_gap hmx HGAP.out, tab_gap hmx HGAP.out])
            obtain ⟨y, hy⟩ : ∃ y, tabT g F m j 3 = y := ⟨_, rfl⟩
            rw [hy] at hct hle HT4
            clear hy
            have hjz : (j : Int) < (n : Int) := by omega
            go_wp2_with fail
            refine (home_b HRx.out hn256 (by omega) HH.out).mono ?_
            rintro e w4 ⟨rfl, rfl⟩
            go_wp2
            go_region
            all_goals go_wp2
            go_roundw
            case rel => exact ⟨k + 1, x + 1, by omega, by go_num, by omega, HTK.out, HT4.out⟩
            case measure => simp [intOf]; omega
          · subst h
            have hct := HK.out.cell (k := j) (c := 4) hjn (by omega)
            have hft := HK.out.frozen (j * 5 + 4)
            have hle := tab_le (g := g) (F := F) (m := m) (k := j) (c := 4)
            have HT4 : Hid (Tab w w.heap.size n (tabT g F (x + 1)) (wr.drew.setCell ⟨w.heap.size, j * 5 + 4, none⟩ (.int .i64 (tabT g F m j 4 + 1)))) := Lib.hid (((HK.out.next (bel_drew wr 1)).set (by omega) j (tabT g F m j 4 + 1)).ext fun k c hk _ => by
              rw [tab_step HGR.out (by rw [HL.out]; exact hxn) HJ.out HO.out (d := 4) HD.out HXF.out c (by rw [HL.out]; exact hk)]
              unfold upT
              rw [tab_gap hmx HGAP.out, tab_gap hmx HGAP.out])
            obtain ⟨y, hy⟩ : ∃ y, tabT g F m j 4 = y := ⟨_, rfl⟩
            rw [hy] at hct hle HT4
            clear hy
            have hjz : (j : Int) < (n : Int) := by omega
            go_wp2_with fail
            refine (home_b HRx.out hn256 (by omega) HH.out).mono ?_
            rintro e w4 ⟨rfl, rfl⟩
            go_wp2
            go_region
            all_goals go_wp2
            go_roundw
            case rel => exact ⟨k + 1, x + 1, by omega, by go_num, by omega, HTK.out, HT4.out⟩
            case measure => simp [intOf]; omega
        · have HT4 : Hid (Tab w w.heap.size n (tabT g F (x + 1)) wr) := Lib.hid (HK.out.ext fun k c _ _ => by
            rw [tab_skip (.inr hd), tab_gap hmx HGAP.out])
          have HH := Lib.hid hh
          clear hh hd
          go_wp2_with fail
          refine (home_b HRk.out hn256 (by omega) HH.out).mono ?_
          rintro e w4 ⟨rfl, rfl⟩
          go_wp2
          go_roundw
          case rel => exact ⟨k + 1, x + 1, by omega, by go_num, by omega, HTK.out, HT4.out⟩
          case measure => simp [intOf]; omega
      · have hfar := far_kind (g := g) (x := x) (by rw [HL.out]; omega)
        have HT4 : Hid (Tab w w.heap.size n (tabT g F (x + 1)) wr) := Lib.hid (HK.out.ext fun k c _ _ => by
          rw [tab_skip (.inr (.inl hfar)), tab_gap hmx HGAP.out])
        have HH := Lib.hid (home_far (g := g) (x := x) (by rw [HL.out]; omega))
        clear hfar
        go_wp2_with fail
        refine (home_b HRk.out hn256 (by omega) HH.out).mono ?_
        rintro e w4 ⟨rfl, rfl⟩
        go_wp2
        go_roundw
        case rel => exact ⟨k + 1, x + 1, by omega, by go_num, by omega, HTK.out, HT4.out⟩
        case measure => simp [intOf]; omega
    · have hkn : k = n2 := by omega
      subst hkn
      have hend := take_end (p := fun j => hasB F (j : Int)) (n := 256) (by rw [← HSET.out, ← htake, List.take_of_length_le (by rw [HL2.out]; omega)]) hm
      have HT4 : Hid (Tab w w.heap.size n (tabT g F 256) wr) := Lib.hid (HK.out.ext fun k c _ _ => (tab_gap hm hend).symm)
      clear hRk hIk htake hend
      go_wp2
      go_ret
      exact ⟨_, rfl, HT4.out⟩

end Go.Proofs.YtpoalgkgomljmaaGreatDoor
