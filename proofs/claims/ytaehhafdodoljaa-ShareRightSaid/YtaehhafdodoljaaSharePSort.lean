/- The places are sorted by the library's own text, whatever their number. Written by gen/gen_sharep.py. -/
import Derived.Test.YtaehhafdodoljaaSharePOrdA
import Derived.Test.YtaehhafdodoljaaShelfSortInt
namespace Go.Proofs.Ytaehhafdodoljaa
open Go.RowKit Go.Sort

section
variable {α : Type} [Inhabited α] {enc : α → Value} {w : World} {g m : Nat} {d : Array α} {os : Array Obj}
theorem sorted1_other {b : Nat} (hb : b < w.heap.size) (hne : b ≠ g) : (sortWorld enc w g 0 m d os).heap[b]? = w.heap[b]? := by
  unfold sortWorld
  rw [heap_grow_old _ _ (by simp [putRow, mapBlock]; exact hb)]
  show ((Sort.ahead w m).heap.modify g (onCells (putCells enc 0 d)))[b]? = _
  rw [Array.getElem?_modify, if_neg (fun e => hne e.symm)]
  rfl
theorem sorted1_size : w.heap.size ≤ (sortWorld enc w g 0 m d os).heap.size := by
  unfold sortWorld
  simp [putRow, mapBlock]
theorem sorted1_below {B : Nat} {w0 : World} (h : Below B w0 w) (hB : B ≤ g) (hB' : B ≤ w.heap.size) : Below B w0 (sortWorld enc w g 0 m d os) :=
  h.trans ⟨rfl, rfl, rfl, sorted1_size, fun b hb => sorted1_other (by omega) (by omega)⟩
end
theorem cell_block {w w' : World} {q j : Nat} (h : w'.heap[q]? = w.heap[q]?) : w'.cell? ⟨q, j, none⟩ = w.cell? ⟨q, j, none⟩ := by
  simp only [World.cell?, h]
/-- which of two places is ahead, as a comparison -/
def cfU (l : List Us) (n : Nat) (x y : Fin n) : Int := cmpU l x.1 y.1
theorem ltU (l : List Us) (n : Nat) (x y : Fin n) : Go.Proofs.ltOf (cfU l n) x y = aheadU l x.1 y.1 := cmpU_ahead l x.1 y.1
theorem swoU (l : List Us) (n : Nat) : SWO (Go.Proofs.ltOf (cfU l n)) where
  irrefl x := by rw [ltU]; exact ahead_self
  trans x y z h1 h2 := by rw [ltU] at *; exact ahead_trans h1 h2
  ntrans x y z h1 h2 := by
    rw [ltU] at *
    cases h3 : aheadU l x.1 z.1 with
    | false => rfl
    | true =>
      exfalso
      by_cases e : x.1 = y.1
      · rw [e, h2] at h3; cases h3
      · rcases ahead_tri (l := l) e with h4 | h4
        · rw [h1] at h4; cases h4
        · rw [ahead_trans h4 h3] at h2; cases h2
def encF (n : Nat) (x : Fin n) : Value := .int .i64 (x.1 : Int)
/-- the first n numbers, each once -/
def allF (n : Nat) : Array (Fin n) := (List.finRange n).toArray
theorem allF_size (n : Nat) : (allF n).size = n := by unfold allF; simp
theorem allF_val (n : Nat) : (allF n).toList.map Fin.val = List.range n := by
  unfold allF
  refine List.ext_getElem? (fun j => ?_)
  by_cases hj : j < n
  · rw [List.getElem?_range hj, List.getElem?_map, List.getElem?_eq_getElem (by simpa using hj)]
    simp
  · rw [List.getElem?_eq_none (by simp; omega), List.getElem?_eq_none (by simp; omega)]
theorem allF_at {n k : Nat} [Inhabited (Fin n)] (hk : k < n) : ((allF n)[k]!).1 = k := by
  rw [getElem!_pos _ _ (by rw [allF_size]; exact hk)]
  unfold allF
  simp
theorem places_order {l : List Us} {n : Nat} [Inhabited (Fin n)] {d' : Array (Fin n)} (hp : PermIn 0 n (allF n) d') (hs : SortedIn (Go.Proofs.ltOf (cfU l n)) 0 n d') : d'.toList.map Fin.val = ordN l n := by
  have hsz : d'.size = n := by rw [hp.1, allF_size]
  have hperm : (d'.toList.map Fin.val).Perm (List.range n) := by
    obtain ⟨h1, _, h3⟩ := hp
    rw [Array.extract_eq_self_of_le (by omega), Array.extract_eq_self_of_le (by rw [allF_size]; omega)] at h3
    rw [← allF_val]
    exact h3.map Fin.val
  refine ord_sorted_unique hperm ?_
  have hnd : (d'.toList.map Fin.val).Nodup := hperm.nodup_iff.2 List.nodup_range
  rw [List.pairwise_iff_getElem]
  intro i j hi hj hij
  have hne := List.pairwise_iff_getElem.1 hnd i j hi hj hij
  rw [List.length_map, Array.length_toList] at hi hj
  have := hs i j (Nat.zero_le _) hij (by omega)
  rw [ltU, getElem!_pos d' i hi, getElem!_pos d' j hj] at this
  rw [List.getElem_map, List.getElem_map, Array.getElem_toList, Array.getElem_toList] at hne ⊢
  rcases ahead_tri (l := l) hne with h | h
  · exact h
  · rw [this] at h; cases h
set_option maxRecDepth 100000 in
set_option maxHeartbeats 8000000 in
theorem sort_places (A : Option Addr) (n c : Nat) (l : List Us) (bl gs bs gp : Nat) (V U : Nat → Value) (w wr : World) (hu : UAsk w A n c l) (h : OrdSt w A n c l bl gs bs gp n V U wr) (hn : n ≤ 1000) :
    Calls Try.prog 28 #[.slice (some ⟨gp, 0, none⟩) n n, .func (.func 29) #[] #[.pointer (some ⟨bs, 0, none⟩), .pointer (some ⟨bl, 0, none⟩)]] wr fun e w' => e = .returned (.tuple #[]) ∧ Below w.heap.size w w' ∧ RI w' w'.heap.size (some ⟨gp, 0, none⟩) n (orderU l) := by
  have hne := h.ne
  have hln := hu.len
  have hbel := h.below
  rcases Nat.eq_zero_or_pos n with h0 | h0
  · subst h0
    have hcon := Go.Proofs.AnyF.slices_SortFunc_none (P := Try.prog) (ρ := Try.sortPl_ren) { Try.sortPl with } (some ⟨gp, 0, none⟩) 0 (.func (.func 29) #[] #[.pointer (some ⟨bs, 0, none⟩), .pointer (some ⟨bl, 0, none⟩)]) wr
    change Calls Try.prog 28 _ _ _ at hcon
    refine hcon.mono ?_
    rintro e w' ⟨rfl, rfl⟩
    have hl : l = [] := List.eq_nil_of_length_eq_zero hln
    subst hl
    exact ⟨rfl, hbel, rfl, fun h => absurd h (by omega)⟩
  · haveI : Inhabited (Fin n) := ⟨⟨0, h0⟩⟩
    obtain ⟨b, off, rfl, hbl, -, -⟩ := hu.one h0
    have hblw : b < w.heap.size := hbl
    have eg : ∀ args w, (callFunc 29 args).run Try.prog w = .ok (.enter 29 args) w := Go.Proofs.enters_of Try.func29 (by kernel_rfl) rfl
    have hH : Holds (encF n) wr gp 0 (allF n) := by
      intro j hj
      rw [allF_size] at hj
      rw [Nat.zero_add]
      refine ⟨?_, h.it.frozen⟩
      rw [h.it.cell hj, h.u j hj]
      unfold encF
      rw [allF_at hj]
    have hcmp : Go.Proofs.CmpLays1 Try.prog 29 #[.pointer (some ⟨bs, 0, none⟩), .pointer (some ⟨bl, 0, none⟩)] (encF n) (cfU l n) gp 0 (allF n).size wr := by
      intro m os dk hs x y
      have ho : ∀ q, q < wr.heap.size → q ≠ gp → (sortWorld (encF n) wr gp 0 m dk os).heap[q]? = wr.heap[q]? := fun q h1 h2 => sorted1_other h1 h2
      have hsz : wr.heap.size ≤ (sortWorld (encF n) wr gp 0 m dk os).heap.size := sorted1_size
      have hB : Below w.heap.size w (sortWorld (encF n) wr gp 0 m dk os) := sorted1_below hbel (by omega) hbel.size
      have kc : ∀ q j, q < wr.heap.size → q ≠ gp → (sortWorld (encF n) wr gp 0 m dk os).cell? ⟨q, j, none⟩ = wr.cell? ⟨q, j, none⟩ := fun q j h1 h2 => cell_block (ho q h1 h2)
      exact order1_any b off n c gs bs bl x.1 y.1 l (sortWorld (encF n) wr gp 0 m dk os) x.2 y.2 (hu.next hB) (by omega) (by omega) (by omega) ((kc bs 0 (by omega) (by omega)).trans h.c1) ((kc bl 0 (by omega) (by omega)).trans h.c0)
        (fun k hk => (kc gs k (by omega) (by omega)).trans ((h.fl.cell hk).trans (congrArg some (h.v k hk))))
    have hcon := Go.Proofs.Any.slices_SortFunc Try.sortPl (encF n) (fun _ => rfl) (cfU l n) (swoU l n) 29 #[.pointer (some ⟨bs, 0, none⟩), .pointer (some ⟨bl, 0, none⟩)] gp 0 n (allF n) wr eg hcmp hH (by omega) (by rw [allF_size]; omega)
    change Calls Try.prog 28 _ _ _ at hcon
    rw [allF_size] at hcon
    refine hcon.mono ?_
    rintro e w' ⟨rfl, d', m, os, hp, hs, rfl⟩
    have hsz : d'.size = n := by rw [hp.1, allF_size]
    have hd : Holds (encF n) (sortWorld (encF n) wr gp 0 m d' os) gp 0 d' := holds_sortWorld (encF n) wr gp 0 m (allF n) d' os (by omega) hH (by rw [hsz, allF_size])
    have hor : orderU l = d'.toList.map fun x => (x.1 : Int) := by
      unfold orderU
      rw [hln, ← places_order hp hs, List.map_map]; rfl
    refine ⟨rfl, sorted1_below hbel (by omega) hbel.size, ?_, fun _ => ⟨gp, 0, rfl, Nat.lt_of_lt_of_le hne.2.2.2.2 sorted1_size, fun k hk => ?_⟩⟩
    · rw [orderU_length, hln]
    · rw [(hd k (by omega)).1, hor]
      unfold encF
      rw [List.getD, List.getElem?_map, List.getElem?_eq_getElem (by rw [Array.length_toList]; omega), getElem!_pos d' k (by omega)]
      simp

end Go.Proofs.Ytaehhafdodoljaa
