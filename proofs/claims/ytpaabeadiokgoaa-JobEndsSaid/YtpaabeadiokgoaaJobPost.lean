/- What layer 11's calls answer, in words for memory; how a whole job is stored. Written by gen/gen_job.py, gen_joblaws.py. -/
import Derived.Test.YtpaabeadiokgoaaJobMem
namespace Go.Proofs.Ytpaabeadiokgoaa
open Go.RowKit

section
variable {wr w : World} {g B : Nat} {j j' : Jb} {A A' : Option Addr} {m c m' c' : Nat}
theorem BoxJ.other {g' k : Nat} {v : Value} (h : BoxJ wr g j A m c) (hne : g ≠ g') : BoxJ (wr.setCell ⟨g', k, none⟩ v) g j A m c :=
  ⟨by simpa [World.setCell] using h.lt, by rw [Below.heap_setCell _ _ _ _ hne]; exact h.at'⟩
/-- a whole job is stored -/
theorem BoxJ.store (h : BoxJ wr g j A m c) (j' : Jb) (A' : Option Addr) (m' c' : Nat) : BoxJ (((((((((((((wr.setCell ⟨g, 0, none⟩ (.int .i64 j'.id)).setCell ⟨g, 1, none⟩ (.int .i64 j'.spec.nodes)).setCell ⟨g, 2, none⟩ (.int .i64 j'.spec.cores)).setCell ⟨g, 3, none⟩ (.int .i64 j'.spec.gpus)).setCell ⟨g, 4, none⟩ (.string j'.spec.tag)).setCell ⟨g, 5, none⟩ (.bool j'.spec.whole)).setCell ⟨g, 6, none⟩ (.int .i64 j'.spec.long)).setCell ⟨g, 7, none⟩ (.int .i64 j'.spec.prio)).setCell ⟨g, 8, none⟩ (.slice A' m' c')).setCell ⟨g, 9, none⟩ (.int .i64 j'.state)).setCell ⟨g, 10, none⟩ (.int .i64 j'.came)).setCell ⟨g, 11, none⟩ (.int .i64 j'.frm)).setCell ⟨g, 12, none⟩ (.int .i64 j'.to)) g j' A' m' c' := by
  have key : ∀ {wr : World} {cs : Array Value} {k : Nat} {v : Value}, (g < wr.heap.size ∧ wr.heap[g]? = some (.cells cs 26)) → (g < (wr.setCell ⟨g, k, none⟩ v).heap.size ∧ (wr.setCell ⟨g, k, none⟩ v).heap[g]? = some (.cells (cs.setIfInBounds k v) 26)) := by
    intro wr cs k v h
    refine ⟨by simpa [World.setCell] using h.1, ?_⟩
    show (wr.heap.modify g _)[g]? = _
    rw [Array.getElem?_modify, if_pos rfl, h.2]; rfl
  have h0 : g < wr.heap.size ∧ wr.heap[g]? = some (.cells (jA j A m c) 26) := ⟨h.lt, h.at'⟩
  have h1 := (key (k := 12) (v := .int .i64 j'.to) (key (k := 11) (v := .int .i64 j'.frm) (key (k := 10) (v := .int .i64 j'.came) (key (k := 9) (v := .int .i64 j'.state) (key (k := 8) (v := .slice A' m' c') (key (k := 7) (v := .int .i64 j'.spec.prio) (key (k := 6) (v := .int .i64 j'.spec.long) (key (k := 5) (v := .bool j'.spec.whole) (key (k := 4) (v := .string j'.spec.tag) (key (k := 3) (v := .int .i64 j'.spec.gpus) (key (k := 2) (v := .int .i64 j'.spec.cores) (key (k := 1) (v := .int .i64 j'.spec.nodes) (key (k := 0) (v := .int .i64 j'.id) h0)))))))))))))
  have hA : ((((((((((((((jA j A m c).setIfInBounds 0 (.int .i64 j'.id)).setIfInBounds 1 (.int .i64 j'.spec.nodes)).setIfInBounds 2 (.int .i64 j'.spec.cores)).setIfInBounds 3 (.int .i64 j'.spec.gpus)).setIfInBounds 4 (.string j'.spec.tag)).setIfInBounds 5 (.bool j'.spec.whole)).setIfInBounds 6 (.int .i64 j'.spec.long)).setIfInBounds 7 (.int .i64 j'.spec.prio)).setIfInBounds 8 (.slice A' m' c')).setIfInBounds 9 (.int .i64 j'.state)).setIfInBounds 10 (.int .i64 j'.came)).setIfInBounds 11 (.int .i64 j'.frm)).setIfInBounds 12 (.int .i64 j'.to)) = jA j' A' m' c' := by kernel_rfl
  rw [hA] at h1
  exact ⟨h1.1, h1.2⟩
theorem below_store {v0 v1 v2 v3 v4 v5 v6 v7 v8 v9 v10 v11 v12 : Value} (hb : Below B w wr) (hg : B ≤ g) : Below B w (((((((((((((wr.setCell ⟨g, 0, none⟩ (v0)).setCell ⟨g, 1, none⟩ (v1)).setCell ⟨g, 2, none⟩ (v2)).setCell ⟨g, 3, none⟩ (v3)).setCell ⟨g, 4, none⟩ (v4)).setCell ⟨g, 5, none⟩ (v5)).setCell ⟨g, 6, none⟩ (v6)).setCell ⟨g, 7, none⟩ (v7)).setCell ⟨g, 8, none⟩ (v8)).setCell ⟨g, 9, none⟩ (v9)).setCell ⟨g, 10, none⟩ (v10)).setCell ⟨g, 11, none⟩ (v11)).setCell ⟨g, 12, none⟩ (v12)) :=
  (((((((((((((hb.setCell (p := ⟨g, _, none⟩) hg v0).setCell (p := ⟨g, _, none⟩) hg v1).setCell (p := ⟨g, _, none⟩) hg v2).setCell (p := ⟨g, _, none⟩) hg v3).setCell (p := ⟨g, _, none⟩) hg v4).setCell (p := ⟨g, _, none⟩) hg v5).setCell (p := ⟨g, _, none⟩) hg v6).setCell (p := ⟨g, _, none⟩) hg v7).setCell (p := ⟨g, _, none⟩) hg v8).setCell (p := ⟨g, _, none⟩) hg v9).setCell (p := ⟨g, _, none⟩) hg v10).setCell (p := ⟨g, _, none⟩) hg v11).setCell (p := ⟨g, _, none⟩) hg v12)
theorem jAsk_into {now s : Int} (h : JAsk w A m c j) (hs : I64 s) (hn : I64 now) : JAsk w A m c (intoJ j s now) :=
  ⟨h.reads, h.nil, h.cap, h.few, h.spec, h.int.1, hs, h.int.2.2.1, by show I64 (if s = 2 then now else j.frm); split; exact hn; exact h.int.2.2.2.1, by show I64 (if 2 < s then now else j.to); split; exact hn; exact h.int.2.2.2.2.1, h.int.2.2.2.2.2⟩
end
/-- a job and an error's number -/
def JPost (j : Jb) (er : Int) (w : World) (e : Ending) (w' : World) : Prop :=
  (∃ A m c, e = .returned (.tuple #[.agg #[.int .i64 j.id, .int .i64 j.spec.nodes, .int .i64 j.spec.cores, .int .i64 j.spec.gpus, .string j.spec.tag, .bool j.spec.whole, .int .i64 j.spec.long, .int .i64 j.spec.prio, .slice A m c, .int .i64 j.state, .int .i64 j.came, .int .i64 j.frm, .int .i64 j.to], .int .i64 er]) ∧ JAsk w' A m c j) ∧ Below w.heap.size w w'

section
variable {wr : World} {b g : Nat} {v0 v1 v2 v3 v4 v5 v6 v7 v8 v9 v10 v11 v12 : Value}
theorem heap_store (hne : b ≠ g) : (((((((((((((wr.setCell ⟨g, 0, none⟩ (v0)).setCell ⟨g, 1, none⟩ (v1)).setCell ⟨g, 2, none⟩ (v2)).setCell ⟨g, 3, none⟩ (v3)).setCell ⟨g, 4, none⟩ (v4)).setCell ⟨g, 5, none⟩ (v5)).setCell ⟨g, 6, none⟩ (v6)).setCell ⟨g, 7, none⟩ (v7)).setCell ⟨g, 8, none⟩ (v8)).setCell ⟨g, 9, none⟩ (v9)).setCell ⟨g, 10, none⟩ (v10)).setCell ⟨g, 11, none⟩ (v11)).setCell ⟨g, 12, none⟩ (v12)).heap[b]? = wr.heap[b]? := by
  rw [Below.heap_setCell _ _ _ _ hne, Below.heap_setCell _ _ _ _ hne, Below.heap_setCell _ _ _ _ hne, Below.heap_setCell _ _ _ _ hne, Below.heap_setCell _ _ _ _ hne, Below.heap_setCell _ _ _ _ hne, Below.heap_setCell _ _ _ _ hne, Below.heap_setCell _ _ _ _ hne, Below.heap_setCell _ _ _ _ hne, Below.heap_setCell _ _ _ _ hne, Below.heap_setCell _ _ _ _ hne, Below.heap_setCell _ _ _ _ hne, Below.heap_setCell _ _ _ _ hne]
theorem size_store : (((((((((((((wr.setCell ⟨g, 0, none⟩ (v0)).setCell ⟨g, 1, none⟩ (v1)).setCell ⟨g, 2, none⟩ (v2)).setCell ⟨g, 3, none⟩ (v3)).setCell ⟨g, 4, none⟩ (v4)).setCell ⟨g, 5, none⟩ (v5)).setCell ⟨g, 6, none⟩ (v6)).setCell ⟨g, 7, none⟩ (v7)).setCell ⟨g, 8, none⟩ (v8)).setCell ⟨g, 9, none⟩ (v9)).setCell ⟨g, 10, none⟩ (v10)).setCell ⟨g, 11, none⟩ (v11)).setCell ⟨g, 12, none⟩ (v12)).heap.size = wr.heap.size := by simp [World.setCell]
theorem BoxJ.kept {j : Jb} {A : Option Addr} {m c : Nat} (h : BoxJ wr b j A m c) (hne : b ≠ g) : BoxJ (((((((((((((wr.setCell ⟨g, 0, none⟩ (v0)).setCell ⟨g, 1, none⟩ (v1)).setCell ⟨g, 2, none⟩ (v2)).setCell ⟨g, 3, none⟩ (v3)).setCell ⟨g, 4, none⟩ (v4)).setCell ⟨g, 5, none⟩ (v5)).setCell ⟨g, 6, none⟩ (v6)).setCell ⟨g, 7, none⟩ (v7)).setCell ⟨g, 8, none⟩ (v8)).setCell ⟨g, 9, none⟩ (v9)).setCell ⟨g, 10, none⟩ (v10)).setCell ⟨g, 11, none⟩ (v11)).setCell ⟨g, 12, none⟩ (v12)) b j A m c := ⟨by rw [size_store]; exact h.lt, (heap_store hne).trans h.at'⟩
theorem BoxS.kept {s : Sp} (h : BoxS wr b s) (hne : b ≠ g) : BoxS (((((((((((((wr.setCell ⟨g, 0, none⟩ (v0)).setCell ⟨g, 1, none⟩ (v1)).setCell ⟨g, 2, none⟩ (v2)).setCell ⟨g, 3, none⟩ (v3)).setCell ⟨g, 4, none⟩ (v4)).setCell ⟨g, 5, none⟩ (v5)).setCell ⟨g, 6, none⟩ (v6)).setCell ⟨g, 7, none⟩ (v7)).setCell ⟨g, 8, none⟩ (v8)).setCell ⟨g, 9, none⟩ (v9)).setCell ⟨g, 10, none⟩ (v10)).setCell ⟨g, 11, none⟩ (v11)).setCell ⟨g, 12, none⟩ (v12)) b s := ⟨by rw [size_store]; exact h.lt, (heap_store hne).trans h.at'⟩
end
theorem jAsk_len {w : World} {A : Option Addr} {m c : Nat} {j : Jb} (h : JAsk w A m c j) : j.needs.length = m := h.reads.1
/-- a job's fields, one by one -/
theorem jpost_out {i n c g l p st ca fr to er : Int} {tg : ByteArray} {wh : Bool} {ns : List Int} {w w' : World} {e : Ending} (h : JPost ⟨i, ⟨n, c, g, tg, wh, l, p⟩, ns, st, ca, fr, to⟩ er w e w') :
    (∃ A m c', e = .returned (.tuple #[.agg #[.int .i64 i, .int .i64 n, .int .i64 c, .int .i64 g, .string tg, .bool wh, .int .i64 l, .int .i64 p, .slice A m c', .int .i64 st, .int .i64 ca, .int .i64 fr, .int .i64 to], .int .i64 er]) ∧ JAsk w' A m c' ⟨i, ⟨n, c, g, tg, wh, l, p⟩, ns, st, ca, fr, to⟩) ∧ Below w.heap.size w w' := h

end Go.Proofs.Ytpaabeadiokgoaa
