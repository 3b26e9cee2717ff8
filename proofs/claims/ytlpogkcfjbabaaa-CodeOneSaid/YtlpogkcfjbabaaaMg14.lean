/- The program's whole: what a reader finds in bytes behind which nothing stands, or why it gave up. Written by gen/gen_codepwhole.py. The program's small functions of layer 5 (graph): Tag, partOf, tagged: what they answer of any string, kinds, thing. -/
import Derived.Laws.Pointers
import Derived.Test.YtlpogkcfjbabaaaMg13
import Derived.LoopTactic
import Derived.Deep.QuietTactic
import Derived.BigQuiet
import Derived.Test.YtlpogkcfjbabaaaMg04
namespace Go.Proofs.Ytlpogkcfjbabaaa
open Go.RowKit

theorem errno_is (x : Int) (w : World) : (Instr.typeAssert (.iface 29 (.int .i64 x)) 20 29 true).run Try.prog w = .ok (.tuple #[.int .i64 x, .bool true]) w := by kernel_rfl
/-- where nothing but the same is stored, all is as it was -/
theorem setCell_same {w : World} {b : Nat} {cs : Array Value} {t : TypeId} {fr : Nat × Nat} {j : Nat} {v : Value} (h : w.heap[b]? = some (.cells cs t fr)) (hj : cs[j]? = some v) : w.setCell ⟨b, j, none⟩ v = w := by
  have e : (w.setCell ⟨b, j, none⟩ v).heap = w.heap := by
    apply Array.ext_getElem?
    intro i
    by_cases hi : b = i
    · subst hi
      simp only [World.setCell, Array.getElem?_modify]
      rw [if_pos trivial, h]
      show some (Obj.cells (cs.setIfInBounds j v) t fr) = _
      congr 2
      apply Array.ext_getElem?
      intro k
      rw [Array.getElem?_setIfInBounds]
      by_cases hk : j = k
      · subst hk
        rw [if_pos rfl, hj]
        have := (Array.getElem?_eq_some_iff.1 hj).1
        rw [if_pos this]
      · rw [if_neg hk]
    · exact Below.heap_setCell _ _ _ _ (fun h => hi h.symm)
  show { w with heap := (w.setCell ⟨b, j, none⟩ v).heap } = w
  rw [e]
/-- the block for the error's number, behind what a reader did -/
theorem but_cell {w w3 : World} {o1 o2 : Obj} {g : Nat} (h : But g ((w.alloc o1).alloc o2) w3) (hg : w.heap.size < g) : w3.heap[w.heap.size]? = some o1 := by
  rw [h.block _ (by simp; omega) (by omega), heap_alloc_old _ _ (by simp), heap_alloc_new]
theorem but_cell3 {w w3 : World} {o1 o2 o3 : Obj} {g : Nat} (h : But g (((w.alloc o1).alloc o2).alloc o3) w3) (hg : w.heap.size + 1 < g) : w3.heap[w.heap.size + 1]? = some o2 := by
  rw [h.block _ (by simp) (by omega), heap_alloc_old _ _ (by simp), show w.heap.size + 1 = (w.alloc o1).heap.size by simp, heap_alloc_new]
/-- the world in which a reader of bs stands at their first byte -/
theorem rdr_new {w W : World} {A : Option Addr} {n c : Nat} {bs : Bs} (h : BAsk w w.heap.size A n c bs) (hG : Glob w) (hn : n ≤ 65536) (hb : Below w.heap.size w W) : Rdr (W.alloc (rdO A n c 0)) W.heap.size A n c 0 bs := by
  have hb2 : Below w.heap.size w (W.alloc (rdO A n c 0)) := hb.alloc hb.size _
  refine ⟨heap_alloc_new _ _, ?_, Nat.zero_le _, hn, w, hG, hb.size, hb2⟩
  exact ⟨RN.keep eb_steady h.reads (fun b hb' => hb2.block b hb') (fun b hb' => Nat.lt_of_lt_of_le hb' hb.size), h.nil, h.cap, h.few⟩
theorem whole_more {α : Type} {d : α} {p : Rd α} {b : Bs} {x : α} {c : UInt8} {t : Bs} (hl : b.length ≤ 65536) (h : p b = .ok (x, c :: t)) : wholeOf d p b = (d, 3) := by
  unfold wholeOf
  rw [if_neg (by omega), h]
theorem whole_long {α : Type} {d : α} {p : Rd α} {b : Bs} (hl : 65536 < b.length) : wholeOf d p b = (d, 4) := by
  unfold wholeOf
  rw [if_pos hl]
/-- an error's number beside what does not matter -/
def QPost (er : Int) (w : World) (e : Ending) (w' : World) : Prop := (∃ v, e = .returned (.tuple #[v, .int .i64 er])) ∧ Below w.heap.size w w'
theorem sepost_nil {er : Int} {w w' : World} (hb : Below w.heap.size w w') : SEPost sp0 er w (.returned (.tuple #[spV sp0, .int .i64 er])) w' := ⟨rfl, hb⟩
theorem qpost_nil {er : Int} {w w' : World} (hb : Below w.heap.size w w') : QPost er w (.returned (.tuple #[.slice none 0 0, .int .i64 er])) w' := ⟨⟨_, rfl⟩, hb⟩
theorem ppost_nil {er : Int} {w w' : World} (hb : Below w.heap.size w w') : PPost [] er w (.returned (.tuple #[.slice none 0 0, .int .i64 er])) w' := ⟨⟨none, 0, rfl, RP.nil, fun _ => rfl, Nat.le_refl _, Nat.zero_le _⟩, hb⟩
set_option maxRecDepth 100000 in
set_option maxHeartbeats 4000000 in
theorem catch_panicking0 (p : Addr) (x : Int) (er : Nat) (older : List PanicEntry) (w : World) (hc : w.cell? p = some (.int .i64 x)) (hz : w.frozen? p = false) :
    CallsD Try.prog 56 #[.pointer (some p)] (.panicking ({ v := .iface 29 (.int .i64 (er : Int)), recovered := false } :: older)) w fun e u' w' =>
      e = .returned (.tuple #[]) ∧ u' = .panicking ({ v := .iface 29 (.int .i64 (er : Int)), recovered := true } :: older) ∧ w' = w.setCell p (.int .i64 (er : Int)) := by
  have hta := errno_is
  refine callsD_of_wpS Try.func56 rfl fun c₀ cs hu => ?_
  simp only [Try.ntmps56, List.size_toArray, List.length_cons, List.length_nil, Nat.reduceAdd, Nat.reduceSub, Array.replicate_succ, Array.replicate_zero, List.push_toArray, List.append_toArray, List.nil_append, List.cons_append]
  apply wpS_seq
  apply wpS_region
  simp [wpOpsS, go_sem, recoverD, hu, Exit.thenS]
  refine wpS_of_wp ?_
  go_wp2
  simp [bodyPostS, results, Try.results56]
set_option maxRecDepth 100000 in
set_option maxHeartbeats 4000000 in
theorem catch_idle0 (p : Addr) (w : World) :
    CallsD Try.prog 56 #[.pointer (some p)] .returning w fun e u' w' => e = .returned (.tuple #[]) ∧ u' = .returning ∧ w' = w := by
  refine callsD_of_wpS Try.func56 rfl fun c₀ cs hu => ?_
  simp only [Try.ntmps56, List.size_toArray, List.length_cons, List.length_nil, Nat.reduceAdd, Nat.reduceSub, Array.replicate_succ, Array.replicate_zero, List.push_toArray, List.append_toArray, List.nil_append, List.cons_append]
  apply wpS_seq
  apply wpS_region
  simp [wpOpsS, go_sem, recoverD, hu, Exit.thenS]
  refine wpS_of_wp ?_
  go_wp2
  cases c₀
  simp_all [bodyPostS, results, Try.results56]
set_option maxRecDepth 100000 in
set_option maxHeartbeats 8000000 in
theorem whole0_any (HS : SpecOk) (A : Option Addr) (n c : Nat) (bs : Bs) (w : World) (h : BAsk w w.heap.size A n c bs) (hG : Glob w) :
    Calls Try.prog 36 #[.slice A n c, .func (.func 37) #[] #[]] w (SEPost (wholeOf sp0 specQ bs).1 (wholeOf sp0 specQ bs).2 w) := by
  have hmf : ∀ (fn : Fn) (first cap : Array Value) (w : World), (Instr.makeFunc fn first cap).run Try.prog w = .ok (.func fn first cap) w := fun _ _ _ _ => rfl
  have HL := Lib.hid h.reads.len
  by_cases hn : n ≤ 65536
  · have hb0 : Below w.heap.size w ((w.alloc (spO sp0)).alloc (.cells #[.int .i64 0] 29)) := ((Below.refl _ _).alloc (Nat.le_refl _) _).alloc (by simp) _
    have HR0 := Lib.hid (rdr_new h hG hn hb0)
    have hsz : ((w.alloc (spO sp0)).alloc (.cells #[.int .i64 0] 29)).heap.size = w.heap.size + 1 + 1 := by simp
    have HR : Hid (Rdr (((w.alloc (spO sp0)).alloc (.cells #[.int .i64 0] 29)).alloc (rdO A n c 0)) (w.heap.size + 1 + 1) A n c 0 bs) := Lib.hid (by have := HR0.out; rwa [hsz] at this)
    have HB0 := Lib.hid (hb0.alloc hb0.size (rdO A n c 0))
    have HN := Lib.hid (readSpec_any HS _ A n c 0 bs _ HR.out)
    have hd : decide ((65536 : Int) < (n : Int)) = false := by simp; omega
    have hd2 : decide (65536 < n) = false := by simp; omega
    have BX0 : Hid (BoxS (((w.alloc (spO sp0)).alloc (.cells #[.int .i64 0] 29)).alloc (rdO A n c 0)) w.heap.size sp0) := Lib.hid (((box_new w sp0).alloc _).alloc _)
    clear h hsz hb0 HR0
    rcases hr : specQ bs with er | ⟨x, t⟩
    · have HC := Lib.hid (rdp_err HN.out hr)
      have HQ : Hid (wholeOf sp0 specQ bs = (sp0, (er : Int))) := Lib.hid (whole_err (by rw [HL.out]; exact hn) hr)
      clear HN hr
      go_enter_defers Try.func36, Try.ntmps36
      go_wp2_with fail
      refine HC.out.mono ?_
      rintro e w3 ⟨rfl, hb⟩
      have HB := Lib.hid (HB0.out.trans (hb.below (B := w.heap.size) (by omega) (by simp)))
      have hB3 := BX0.out.but hb (by omega)
      have hcb := but_cell3 hb (by omega)
      have hc : w3.cell? ⟨w.heap.size + 1, 0, none⟩ = some (.int .i64 0) := (cell_of_row w3 _ 0 _ _ (0, 0) hcb).trans rfl
      have hz : ∀ j, w3.frozen? ⟨w.heap.size + 1, j, none⟩ = false := fun j => frozen_of_row w3 _ j _ _ hcb
      obtain ⟨ff, a0, a1, a2, a3, a4, a5, a6⟩ := cells7 hB3.at'
      dsimp only [sp0] at a0 a1 a2 a3 a4 a5 a6
      clear hb
      go_wp2_with fail
      refine leaves_cons (f := 56) (args := #[.pointer (some ⟨w.heap.size + 1, 0, none⟩)]) (by simp) (by simp [go_sem]) ?_
      refine (catch_panicking0 ⟨w.heap.size + 1, 0, none⟩ 0 er [] _ hc (hz 0)).mono ?_
      rintro e u' w'' ⟨rfl, rfl, rfl⟩
      simp [Leaves, settle, results, Try.results36, go_sem, hc, a0, a1, a2, a3, a4, a5, a6]
      rw [HQ.out]
      exact sepost_nil (HB.out.setCell (p := ⟨w.heap.size + 1, 0, none⟩) (by show _ ≤ w.heap.size + 1; omega) _)
    · have HC := Lib.hid (rdp_ok HN.out hr)
      clear HN
      cases t with
      | nil =>
        have HQ : Hid (wholeOf sp0 specQ bs = (x, 0)) := Lib.hid (whole_at (by rw [HL.out]; exact hn) hr)
        clear hr
        go_enter_defers Try.func36, Try.ntmps36
        go_wp2_with fail
        refine HC.out.mono ?_
        rintro e w3 ⟨v, rfl, hv, k', _, ht, hrd, hb⟩
        have HB := Lib.hid (HB0.out.trans (hb.below (B := w.heap.size) (by omega) (by simp)))
        have hB3 := BX0.out.but hb (by omega)
        have hcb := but_cell3 hb (by omega)
        have hk : k' = n := by
          have h1 := congrArg List.length ht
          have h2 := hrd.len
          have h3 := hrd.le
          simp only [List.length_drop, List.length_nil] at h1
          omega
        subst hk
        have g1 := (hrd.next ((Below.refl _ _).alloc (Nat.le_refl _) (spO x))).c1
        have hcb := (heap_alloc_old _ (spO x) (Array.getElem?_eq_some_iff.1 hcb).1).trans hcb
        have hc : (w3.alloc (spO x)).cell? ⟨w.heap.size + 1, 0, none⟩ = some (.int .i64 0) := (cell_of_row _ _ 0 _ _ (0, 0) hcb).trans rfl
        have hz : ∀ j, (w3.alloc (spO x)).frozen? ⟨w.heap.size + 1, j, none⟩ = false := fun j => frozen_of_row _ _ j _ _ hcb
        obtain ⟨ff, a0, a1, a2, a3, a4, a5, a6⟩ := cells7 (hB3.alloc (spO x)).at'
        dsimp only [sp0] at a0 a1 a2 a3 a4 a5 a6
        unfold spO at g1 hc hz ff a0 a1 a2 a3 a4 a5 a6
        have HVE : v = spV x := hv
        subst HVE
        clear hb ht hrd 
        unfold spV
        go_wp2_with fail
        refine (need_yes (by simp)).mono ?_
        rintro e w4 ⟨rfl, rfl⟩
        go_wp2_with fail
        refine leaves_cons (f := 56) (args := #[.pointer (some ⟨w.heap.size + 1, 0, none⟩)]) (by simp) (by simp [go_sem]) ?_
        refine (catch_idle0 ⟨w.heap.size + 1, 0, none⟩ _).mono ?_
        rintro e u' w'' ⟨rfl, rfl, rfl⟩
        have HBX := Lib.hid ((((((((HB.out.alloc HB.out.size (spO x)).setCell (p := ⟨w.heap.size, 0, none⟩) (Nat.le_refl _) (.int .i64 x.nodes)).setCell (p := ⟨w.heap.size, 1, none⟩) (Nat.le_refl _) (.int .i64 x.cores)).setCell (p := ⟨w.heap.size, 2, none⟩) (Nat.le_refl _) (.int .i64 x.gpus)).setCell (p := ⟨w.heap.size, 3, none⟩) (Nat.le_refl _) (.string x.tag)).setCell (p := ⟨w.heap.size, 4, none⟩) (Nat.le_refl _) (.bool x.whole)).setCell (p := ⟨w.heap.size, 5, none⟩) (Nat.le_refl _) (.int .i64 x.long)).setCell (p := ⟨w.heap.size, 6, none⟩) (Nat.le_refl _) (.int .i64 x.prio))
        simp [Leaves, settle, results, Try.results36, go_sem, hc, a0, a1, a2, a3, a4, a5, a6]
        rw [HQ.out]
        exact ⟨rfl, HBX.out.setCell (p := ⟨w.heap.size + 1, 0, none⟩) (by show _ ≤ w.heap.size + 1; omega) _⟩
      | cons y t =>
        have HQ : Hid (wholeOf sp0 specQ bs = (sp0, 3)) := Lib.hid (whole_more (by rw [HL.out]; exact hn) hr)
        clear hr
        go_enter_defers Try.func36, Try.ntmps36
        go_wp2_with fail
        refine HC.out.mono ?_
        rintro e w3 ⟨v, rfl, hv, k', _, ht, hrd, hb⟩
        have HB := Lib.hid (HB0.out.trans (hb.below (B := w.heap.size) (by omega) (by simp)))
        have hB3 := BX0.out.but hb (by omega)
        have hcb := but_cell3 hb (by omega)
        have hk : k' < n := by
          have h1 := congrArg List.length ht
          have h2 := hrd.len
          simp only [List.length_drop, List.length_cons] at h1
          omega
        have hkd : ((k' : Int) == (n : Int)) = false := by simp; omega
        have g1 := (hrd.next ((Below.refl _ _).alloc (Nat.le_refl _) (spO x))).c1
        have hcb := (heap_alloc_old _ (spO x) (Array.getElem?_eq_some_iff.1 hcb).1).trans hcb
        have hc : (w3.alloc (spO x)).cell? ⟨w.heap.size + 1, 0, none⟩ = some (.int .i64 0) := (cell_of_row _ _ 0 _ _ (0, 0) hcb).trans rfl
        have hz : ∀ j, (w3.alloc (spO x)).frozen? ⟨w.heap.size + 1, j, none⟩ = false := fun j => frozen_of_row _ _ j _ _ hcb
        obtain ⟨ff, a0, a1, a2, a3, a4, a5, a6⟩ := cells7 (hB3.alloc (spO x)).at'
        dsimp only [sp0] at a0 a1 a2 a3 a4 a5 a6
        unfold spO at g1 hc hz ff a0 a1 a2 a3 a4 a5 a6
        have HVE : v = spV x := hv
        subst HVE
        clear hb ht hrd  hk
        unfold spV
        go_wp2_with fail
        refine (need_no rfl).mono ?_
        rintro e w4 ⟨rfl, rfl⟩
        go_wp2_with fail
        refine leaves_cons (f := 56) (args := #[.pointer (some ⟨w.heap.size + 1, 0, none⟩)]) (by simp) (by simp [go_sem]) ?_
        refine (catch_panicking0 ⟨w.heap.size + 1, 0, none⟩ 0 3 [] _ hc (hz 0)).mono ?_
        rintro e u' w'' ⟨rfl, rfl, rfl⟩
        simp [Leaves, settle, results, Try.results36, go_sem, hc, a0, a1, a2, a3, a4, a5, a6]
        rw [HQ.out]
        exact sepost_nil ((HB.out.alloc HB.out.size (spO x)).setCell (p := ⟨w.heap.size + 1, 0, none⟩) (by show _ ≤ w.heap.size + 1; omega) _)
  · have hd : decide ((65536 : Int) < (n : Int)) = true := by simp; omega
    have hd2 : decide (65536 < n) = true := by simp; omega
    have HQ : Hid (wholeOf sp0 specQ bs = (sp0, 4)) := Lib.hid (whole_long (by rw [HL.out]; omega))
    clear h
    go_enter_defers Try.func36, Try.ntmps36
    go_wp2_with fail
    simp [bodyPostD, Leaves, results, Try.results36, go_sem]
    rw [HQ.out]
    exact sepost_nil (((Below.refl _ _).alloc (Nat.le_refl _) _).alloc (by simp) _)
set_option maxRecDepth 100000 in
set_option maxHeartbeats 4000000 in
theorem catch_panicking1 (p : Addr) (x : Int) (er : Nat) (older : List PanicEntry) (w : World) (hc : w.cell? p = some (.int .i64 x)) (hz : w.frozen? p = false) :
    CallsD Try.prog 57 #[.pointer (some p)] (.panicking ({ v := .iface 29 (.int .i64 (er : Int)), recovered := false } :: older)) w fun e u' w' =>
      e = .returned (.tuple #[]) ∧ u' = .panicking ({ v := .iface 29 (.int .i64 (er : Int)), recovered := true } :: older) ∧ w' = w.setCell p (.int .i64 (er : Int)) := by
  have hta := errno_is
  refine callsD_of_wpS Try.func57 rfl fun c₀ cs hu => ?_
  simp only [Try.ntmps57, List.size_toArray, List.length_cons, List.length_nil, Nat.reduceAdd, Nat.reduceSub, Array.replicate_succ, Array.replicate_zero, List.push_toArray, List.append_toArray, List.nil_append, List.cons_append]
  apply wpS_seq
  apply wpS_region
  simp [wpOpsS, go_sem, recoverD, hu, Exit.thenS]
  refine wpS_of_wp ?_
  go_wp2
  simp [bodyPostS, results, Try.results57]
set_option maxRecDepth 100000 in
set_option maxHeartbeats 4000000 in
theorem catch_idle1 (p : Addr) (w : World) :
    CallsD Try.prog 57 #[.pointer (some p)] .returning w fun e u' w' => e = .returned (.tuple #[]) ∧ u' = .returning ∧ w' = w := by
  refine callsD_of_wpS Try.func57 rfl fun c₀ cs hu => ?_
  simp only [Try.ntmps57, List.size_toArray, List.length_cons, List.length_nil, Nat.reduceAdd, Nat.reduceSub, Array.replicate_succ, Array.replicate_zero, List.push_toArray, List.append_toArray, List.nil_append, List.cons_append]
  apply wpS_seq
  apply wpS_region
  simp [wpOpsS, go_sem, recoverD, hu, Exit.thenS]
  refine wpS_of_wp ?_
  go_wp2
  cases c₀
  simp_all [bodyPostS, results, Try.results57]
set_option maxRecDepth 100000 in
set_option maxHeartbeats 8000000 in
theorem whole1_any (A : Option Addr) (n c : Nat) (bs : Bs) (w : World) (h : BAsk w w.heap.size A n c bs) (hG : Glob w) :
    Calls Try.prog 38 #[.slice A n c, .func (.func 39) #[] #[]] w (IEPost (wholeOf [] setQ bs).1 (wholeOf [] setQ bs).2 w) := by
  have hmf : ∀ (fn : Fn) (first cap : Array Value) (w : World), (Instr.makeFunc fn first cap).run Try.prog w = .ok (.func fn first cap) w := fun _ _ _ _ => rfl
  have HL := Lib.hid h.reads.len
  by_cases hn : n ≤ 65536
  · have hb0 : Below w.heap.size w (w.alloc (.cells #[.int .i64 0] 29)) := (Below.refl _ _).alloc (Nat.le_refl _) _
    have HR0 := Lib.hid (rdr_new h hG hn hb0)
    have hsz : (w.alloc (.cells #[.int .i64 0] 29)).heap.size = w.heap.size + 1 := by simp
    have HR : Hid (Rdr ((w.alloc (.cells #[.int .i64 0] 29)).alloc (rdO A n c 0)) (w.heap.size + 1) A n c 0 bs) := Lib.hid (by have := HR0.out; rwa [hsz] at this)
    have HB0 := Lib.hid (hb0.alloc hb0.size (rdO A n c 0))
    have HN := Lib.hid (readSet_any _ A n c 0 bs _ HR.out)
    have hd : decide ((65536 : Int) < (n : Int)) = false := by simp; omega
    have hd2 : decide (65536 < n) = false := by simp; omega
    clear h hsz hb0 HR0
    rcases hr : setQ bs with er | ⟨x, t⟩
    · have HC := Lib.hid (rdp_err HN.out hr)
      have HQ : Hid (wholeOf [] setQ bs = ([], (er : Int))) := Lib.hid (whole_err (by rw [HL.out]; exact hn) hr)
      clear HN hr
      go_enter_defers Try.func38, Try.ntmps38
      go_wp2_with fail
      refine HC.out.mono ?_
      rintro e w3 ⟨rfl, hb⟩
      have HB := Lib.hid (HB0.out.trans (hb.below (B := w.heap.size) (by omega) (by simp)))
      have hcb := but_cell hb (by omega)
      have hc : w3.cell? ⟨w.heap.size, 0, none⟩ = some (.int .i64 0) := (cell_of_row w3 _ 0 _ _ (0, 0) hcb).trans rfl
      have hz : ∀ j, w3.frozen? ⟨w.heap.size, j, none⟩ = false := fun j => frozen_of_row w3 _ j _ _ hcb
      clear hb
      go_wp2_with fail
      refine leaves_cons (f := 57) (args := #[.pointer (some ⟨w.heap.size, 0, none⟩)]) (by simp) (by simp [go_sem]) ?_
      refine (catch_panicking1 ⟨w.heap.size, 0, none⟩ 0 er [] _ hc (hz 0)).mono ?_
      rintro e u' w'' ⟨rfl, rfl, rfl⟩
      simp [Leaves, settle, results, Try.results38, go_sem, hc]
      rw [HQ.out]
      exact iepost_nil (HB.out.setCell (p := ⟨w.heap.size, 0, none⟩) (Nat.le_refl _) _)
    · have HC := Lib.hid (rdp_ok HN.out hr)
      clear HN
      cases t with
      | nil =>
        have HQ : Hid (wholeOf [] setQ bs = (x, 0)) := Lib.hid (whole_at (by rw [HL.out]; exact hn) hr)
        clear hr
        go_enter_defers Try.func38, Try.ntmps38
        go_wp2_with fail
        refine HC.out.mono ?_
        rintro e w3 ⟨v, rfl, hv, k', _, ht, hrd, hb⟩
        have HB := Lib.hid (HB0.out.trans (hb.below (B := w.heap.size) (by omega) (by simp)))
        have hcb := but_cell hb (by omega)
        have hc : w3.cell? ⟨w.heap.size, 0, none⟩ = some (.int .i64 0) := (cell_of_row w3 _ 0 _ _ (0, 0) hcb).trans rfl
        have hz : ∀ j, w3.frozen? ⟨w.heap.size, j, none⟩ = false := fun j => frozen_of_row w3 _ j _ _ hcb
        have hk : k' = n := by
          have h1 := congrArg List.length ht
          have h2 := hrd.len
          have h3 := hrd.le
          simp only [List.length_drop, List.length_nil] at h1
          omega
        subst hk
        have g1 := hrd.c1
        have HV := Lib.hid hv
        clear hb ht hrd hv
        go_wp2_with fail
        refine (need_yes (by simp)).mono ?_
        rintro e w4 ⟨rfl, rfl⟩
        go_wp2_with fail
        refine leaves_cons (f := 57) (args := #[.pointer (some ⟨w.heap.size, 0, none⟩)]) (by simp) (by simp [go_sem]) ?_
        refine (catch_idle1 ⟨w.heap.size, 0, none⟩ _).mono ?_
        rintro e u' w'' ⟨rfl, rfl, rfl⟩
        rw [setCell_same hcb rfl]
        simp [Leaves, settle, results, Try.results38, go_sem, hc]
        rw [HQ.out]
        obtain ⟨A2, c2, rfl, h1, h2, h3⟩ := HV.out
        exact iepost_mk h1 h2 h3 HB.out
      | cons y t =>
        have HQ : Hid (wholeOf [] setQ bs = ([], 3)) := Lib.hid (whole_more (by rw [HL.out]; exact hn) hr)
        clear hr
        go_enter_defers Try.func38, Try.ntmps38
        go_wp2_with fail
        refine HC.out.mono ?_
        rintro e w3 ⟨v, rfl, hv, k', _, ht, hrd, hb⟩
        have HB := Lib.hid (HB0.out.trans (hb.below (B := w.heap.size) (by omega) (by simp)))
        have hcb := but_cell hb (by omega)
        have hc : w3.cell? ⟨w.heap.size, 0, none⟩ = some (.int .i64 0) := (cell_of_row w3 _ 0 _ _ (0, 0) hcb).trans rfl
        have hz : ∀ j, w3.frozen? ⟨w.heap.size, j, none⟩ = false := fun j => frozen_of_row w3 _ j _ _ hcb
        have hk : k' < n := by
          have h1 := congrArg List.length ht
          have h2 := hrd.len
          simp only [List.length_drop, List.length_cons] at h1
          omega
        have hkd : ((k' : Int) == (n : Int)) = false := by simp; omega
        have g1 := hrd.c1
        clear hb ht hrd hv hk
        go_wp2_with fail
        refine (need_no rfl).mono ?_
        rintro e w4 ⟨rfl, rfl⟩
        go_wp2_with fail
        refine leaves_cons (f := 57) (args := #[.pointer (some ⟨w.heap.size, 0, none⟩)]) (by simp) (by simp [go_sem]) ?_
        refine (catch_panicking1 ⟨w.heap.size, 0, none⟩ 0 3 [] _ hc (hz 0)).mono ?_
        rintro e u' w'' ⟨rfl, rfl, rfl⟩
        simp [Leaves, settle, results, Try.results38, go_sem, hc]
        rw [HQ.out]
        exact iepost_nil (HB.out.setCell (p := ⟨w.heap.size, 0, none⟩) (Nat.le_refl _) _)
  · have hd : decide ((65536 : Int) < (n : Int)) = true := by simp; omega
    have hd2 : decide (65536 < n) = true := by simp; omega
    have HQ : Hid (wholeOf [] setQ bs = ([], 4)) := Lib.hid (whole_long (by rw [HL.out]; omega))
    clear h
    go_enter_defers Try.func38, Try.ntmps38
    go_wp2_with fail
    simp [bodyPostD, Leaves, results, Try.results38, go_sem]
    rw [HQ.out]
    exact iepost_nil ((Below.refl _ _).alloc (Nat.le_refl _) _)
set_option maxRecDepth 100000 in
set_option maxHeartbeats 4000000 in
theorem catch_panicking2 (p : Addr) (x : Int) (er : Nat) (older : List PanicEntry) (w : World) (hc : w.cell? p = some (.int .i64 x)) (hz : w.frozen? p = false) :
    CallsD Try.prog 58 #[.pointer (some p)] (.panicking ({ v := .iface 29 (.int .i64 (er : Int)), recovered := false } :: older)) w fun e u' w' =>
      e = .returned (.tuple #[]) ∧ u' = .panicking ({ v := .iface 29 (.int .i64 (er : Int)), recovered := true } :: older) ∧ w' = w.setCell p (.int .i64 (er : Int)) := by
  have hta := errno_is
  refine callsD_of_wpS Try.func58 rfl fun c₀ cs hu => ?_
  simp only [Try.ntmps58, List.size_toArray, List.length_cons, List.length_nil, Nat.reduceAdd, Nat.reduceSub, Array.replicate_succ, Array.replicate_zero, List.push_toArray, List.append_toArray, List.nil_append, List.cons_append]
  apply wpS_seq
  apply wpS_region
  simp [wpOpsS, go_sem, recoverD, hu, Exit.thenS]
  refine wpS_of_wp ?_
  go_wp2
  simp [bodyPostS, results, Try.results58]
set_option maxRecDepth 100000 in
set_option maxHeartbeats 4000000 in
theorem catch_idle2 (p : Addr) (w : World) :
    CallsD Try.prog 58 #[.pointer (some p)] .returning w fun e u' w' => e = .returned (.tuple #[]) ∧ u' = .returning ∧ w' = w := by
  refine callsD_of_wpS Try.func58 rfl fun c₀ cs hu => ?_
  simp only [Try.ntmps58, List.size_toArray, List.length_cons, List.length_nil, Nat.reduceAdd, Nat.reduceSub, Array.replicate_succ, Array.replicate_zero, List.push_toArray, List.append_toArray, List.nil_append, List.cons_append]
  apply wpS_seq
  apply wpS_region
  simp [wpOpsS, go_sem, recoverD, hu, Exit.thenS]
  refine wpS_of_wp ?_
  go_wp2
  cases c₀
  simp_all [bodyPostS, results, Try.results58]
set_option maxRecDepth 100000 in
set_option maxHeartbeats 8000000 in
theorem whole2_any (HS : SpecOk) (A : Option Addr) (n c : Nat) (bs : Bs) (w : World) (h : BAsk w w.heap.size A n c bs) (hG : Glob w) :
    Calls Try.prog 40 #[.slice A n c, .func (.func 41) #[] #[]] w (PPost (wholeOf [] listQ bs).1 (wholeOf [] listQ bs).2 w) := by
  have hmf : ∀ (fn : Fn) (first cap : Array Value) (w : World), (Instr.makeFunc fn first cap).run Try.prog w = .ok (.func fn first cap) w := fun _ _ _ _ => rfl
  have HL := Lib.hid h.reads.len
  by_cases hn : n ≤ 65536
  · have hb0 : Below w.heap.size w (w.alloc (.cells #[.int .i64 0] 29)) := (Below.refl _ _).alloc (Nat.le_refl _) _
    have HR0 := Lib.hid (rdr_new h hG hn hb0)
    have hsz : (w.alloc (.cells #[.int .i64 0] 29)).heap.size = w.heap.size + 1 := by simp
    have HR : Hid (Rdr ((w.alloc (.cells #[.int .i64 0] 29)).alloc (rdO A n c 0)) (w.heap.size + 1) A n c 0 bs) := Lib.hid (by have := HR0.out; rwa [hsz] at this)
    have HB0 := Lib.hid (hb0.alloc hb0.size (rdO A n c 0))
    have HN := Lib.hid (readList_any HS _ A n c 0 bs _ HR.out)
    have hd : decide ((65536 : Int) < (n : Int)) = false := by simp; omega
    have hd2 : decide (65536 < n) = false := by simp; omega
    clear h hsz hb0 HR0
    rcases hr : listQ bs with er | ⟨x, t⟩
    · have HC := Lib.hid (rdp_err HN.out hr)
      have HQ : Hid (wholeOf [] listQ bs = ([], (er : Int))) := Lib.hid (whole_err (by rw [HL.out]; exact hn) hr)
      clear HN hr
      go_enter_defers Try.func40, Try.ntmps40
      go_wp2_with fail
      refine HC.out.mono ?_
      rintro e w3 ⟨rfl, hb⟩
      have HB := Lib.hid (HB0.out.trans (hb.below (B := w.heap.size) (by omega) (by simp)))
      have hcb := but_cell hb (by omega)
      have hc : w3.cell? ⟨w.heap.size, 0, none⟩ = some (.int .i64 0) := (cell_of_row w3 _ 0 _ _ (0, 0) hcb).trans rfl
      have hz : ∀ j, w3.frozen? ⟨w.heap.size, j, none⟩ = false := fun j => frozen_of_row w3 _ j _ _ hcb
      clear hb
      go_wp2_with fail
      refine leaves_cons (f := 58) (args := #[.pointer (some ⟨w.heap.size, 0, none⟩)]) (by simp) (by simp [go_sem]) ?_
      refine (catch_panicking2 ⟨w.heap.size, 0, none⟩ 0 er [] _ hc (hz 0)).mono ?_
      rintro e u' w'' ⟨rfl, rfl, rfl⟩
      simp [Leaves, settle, results, Try.results40, go_sem, hc]
      rw [HQ.out]
      exact ppost_nil (HB.out.setCell (p := ⟨w.heap.size, 0, none⟩) (Nat.le_refl _) _)
    · have HC := Lib.hid (rdp_ok HN.out hr)
      clear HN
      cases t with
      | nil =>
        have HQ : Hid (wholeOf [] listQ bs = (x, 0)) := Lib.hid (whole_at (by rw [HL.out]; exact hn) hr)
        clear hr
        go_enter_defers Try.func40, Try.ntmps40
        go_wp2_with fail
        refine HC.out.mono ?_
        rintro e w3 ⟨v, rfl, hv, k', _, ht, hrd, hb⟩
        have HB := Lib.hid (HB0.out.trans (hb.below (B := w.heap.size) (by omega) (by simp)))
        have hcb := but_cell hb (by omega)
        have hc : w3.cell? ⟨w.heap.size, 0, none⟩ = some (.int .i64 0) := (cell_of_row w3 _ 0 _ _ (0, 0) hcb).trans rfl
        have hz : ∀ j, w3.frozen? ⟨w.heap.size, j, none⟩ = false := fun j => frozen_of_row w3 _ j _ _ hcb
        have hk : k' = n := by
          have h1 := congrArg List.length ht
          have h2 := hrd.len
          have h3 := hrd.le
          simp only [List.length_drop, List.length_nil] at h1
          omega
        subst hk
        have g1 := hrd.c1
        have HV := Lib.hid hv
        clear hb ht hrd hv
        go_wp2_with fail
        refine (need_yes (by simp)).mono ?_
        rintro e w4 ⟨rfl, rfl⟩
        go_wp2_with fail
        refine leaves_cons (f := 58) (args := #[.pointer (some ⟨w.heap.size, 0, none⟩)]) (by simp) (by simp [go_sem]) ?_
        refine (catch_idle2 ⟨w.heap.size, 0, none⟩ _).mono ?_
        rintro e u' w'' ⟨rfl, rfl, rfl⟩
        rw [setCell_same hcb rfl]
        simp [Leaves, settle, results, Try.results40, go_sem, hc]
        rw [HQ.out]
        obtain ⟨A2, c2, rfl, h1⟩ := HV.out
        exact ⟨⟨A2, c2, rfl, h1⟩, HB.out⟩
      | cons y t =>
        have HQ : Hid (wholeOf [] listQ bs = ([], 3)) := Lib.hid (whole_more (by rw [HL.out]; exact hn) hr)
        clear hr
        go_enter_defers Try.func40, Try.ntmps40
        go_wp2_with fail
        refine HC.out.mono ?_
        rintro e w3 ⟨v, rfl, hv, k', _, ht, hrd, hb⟩
        have HB := Lib.hid (HB0.out.trans (hb.below (B := w.heap.size) (by omega) (by simp)))
        have hcb := but_cell hb (by omega)
        have hc : w3.cell? ⟨w.heap.size, 0, none⟩ = some (.int .i64 0) := (cell_of_row w3 _ 0 _ _ (0, 0) hcb).trans rfl
        have hz : ∀ j, w3.frozen? ⟨w.heap.size, j, none⟩ = false := fun j => frozen_of_row w3 _ j _ _ hcb
        have hk : k' < n := by
          have h1 := congrArg List.length ht
          have h2 := hrd.len
          simp only [List.length_drop, List.length_cons] at h1
          omega
        have hkd : ((k' : Int) == (n : Int)) = false := by simp; omega
        have g1 := hrd.c1
        clear hb ht hrd hv hk
        go_wp2_with fail
        refine (need_no rfl).mono ?_
        rintro e w4 ⟨rfl, rfl⟩
        go_wp2_with fail
        refine leaves_cons (f := 58) (args := #[.pointer (some ⟨w.heap.size, 0, none⟩)]) (by simp) (by simp [go_sem]) ?_
        refine (catch_panicking2 ⟨w.heap.size, 0, none⟩ 0 3 [] _ hc (hz 0)).mono ?_
        rintro e u' w'' ⟨rfl, rfl, rfl⟩
        simp [Leaves, settle, results, Try.results40, go_sem, hc]
        rw [HQ.out]
        exact ppost_nil (HB.out.setCell (p := ⟨w.heap.size, 0, none⟩) (Nat.le_refl _) _)
  · have hd : decide ((65536 : Int) < (n : Int)) = true := by simp; omega
    have hd2 : decide (65536 < n) = true := by simp; omega
    have HQ : Hid (wholeOf [] listQ bs = ([], 4)) := Lib.hid (whole_long (by rw [HL.out]; omega))
    clear h
    go_enter_defers Try.func40, Try.ntmps40
    go_wp2_with fail
    simp [bodyPostD, Leaves, results, Try.results40, go_sem]
    rw [HQ.out]
    exact ppost_nil ((Below.refl _ _).alloc (Nat.le_refl _) _)
set_option maxRecDepth 100000 in
set_option maxHeartbeats 4000000 in
theorem catch_panicking3 (p : Addr) (x : Int) (er : Nat) (older : List PanicEntry) (w : World) (hc : w.cell? p = some (.int .i64 x)) (hz : w.frozen? p = false) :
    CallsD Try.prog 48 #[.pointer (some p)] (.panicking ({ v := .iface 29 (.int .i64 (er : Int)), recovered := false } :: older)) w fun e u' w' =>
      e = .returned (.tuple #[]) ∧ u' = .panicking ({ v := .iface 29 (.int .i64 (er : Int)), recovered := true } :: older) ∧ w' = w.setCell p (.int .i64 (er : Int)) := by
  have hta := errno_is
  refine callsD_of_wpS Try.func48 rfl fun c₀ cs hu => ?_
  simp only [Try.ntmps48, List.size_toArray, List.length_cons, List.length_nil, Nat.reduceAdd, Nat.reduceSub, Array.replicate_succ, Array.replicate_zero, List.push_toArray, List.append_toArray, List.nil_append, List.cons_append]
  apply wpS_seq
  apply wpS_region
  simp [wpOpsS, go_sem, recoverD, hu, Exit.thenS]
  refine wpS_of_wp ?_
  go_wp2
  simp [bodyPostS, results, Try.results48]
set_option maxRecDepth 100000 in
set_option maxHeartbeats 4000000 in
theorem catch_idle3 (p : Addr) (w : World) :
    CallsD Try.prog 48 #[.pointer (some p)] .returning w fun e u' w' => e = .returned (.tuple #[]) ∧ u' = .returning ∧ w' = w := by
  refine callsD_of_wpS Try.func48 rfl fun c₀ cs hu => ?_
  simp only [Try.ntmps48, List.size_toArray, List.length_cons, List.length_nil, Nat.reduceAdd, Nat.reduceSub, Array.replicate_succ, Array.replicate_zero, List.push_toArray, List.append_toArray, List.nil_append, List.cons_append]
  apply wpS_seq
  apply wpS_region
  simp [wpOpsS, go_sem, recoverD, hu, Exit.thenS]
  refine wpS_of_wp ?_
  go_wp2
  cases c₀
  simp_all [bodyPostS, results, Try.results48]
set_option maxRecDepth 100000 in
set_option maxHeartbeats 8000000 in
theorem whole3_any (HS : SpecOk) (A : Option Addr) (n c : Nat) (bs : Bs) (w : World) (h : BAsk w w.heap.size A n c bs) (hG : Glob w) :
    Calls Try.prog 29 #[.slice A n c, .func (.func 30) #[] #[]] w (QPost (wholeOf [] partQ bs).2 w) := by
  have hmf : ∀ (fn : Fn) (first cap : Array Value) (w : World), (Instr.makeFunc fn first cap).run Try.prog w = .ok (.func fn first cap) w := fun _ _ _ _ => rfl
  have HL := Lib.hid h.reads.len
  by_cases hn : n ≤ 65536
  · have hb0 : Below w.heap.size w (w.alloc (.cells #[.int .i64 0] 29)) := (Below.refl _ _).alloc (Nat.le_refl _) _
    have HR0 := Lib.hid (rdr_new h hG hn hb0)
    have hsz : (w.alloc (.cells #[.int .i64 0] 29)).heap.size = w.heap.size + 1 := by simp
    have HR : Hid (Rdr ((w.alloc (.cells #[.int .i64 0] 29)).alloc (rdO A n c 0)) (w.heap.size + 1) A n c 0 bs) := Lib.hid (by have := HR0.out; rwa [hsz] at this)
    have HB0 := Lib.hid (hb0.alloc hb0.size (rdO A n c 0))
    have HN := Lib.hid (readPart_any HS _ A n c 0 bs _ HR.out)
    have hd : decide ((65536 : Int) < (n : Int)) = false := by simp; omega
    have hd2 : decide (65536 < n) = false := by simp; omega
    clear h hsz hb0 HR0
    rcases hr : partQ bs with er | ⟨x, t⟩
    · have HC := Lib.hid (rdp_err HN.out hr)
      have HQ : Hid (wholeOf [] partQ bs = ([], (er : Int))) := Lib.hid (whole_err (by rw [HL.out]; exact hn) hr)
      clear HN hr
      go_enter_defers Try.func29, Try.ntmps29
      go_wp2_with fail
      refine HC.out.mono ?_
      rintro e w3 ⟨rfl, hb⟩
      have HB := Lib.hid (HB0.out.trans (hb.below (B := w.heap.size) (by omega) (by simp)))
      have hcb := but_cell hb (by omega)
      have hc : w3.cell? ⟨w.heap.size, 0, none⟩ = some (.int .i64 0) := (cell_of_row w3 _ 0 _ _ (0, 0) hcb).trans rfl
      have hz : ∀ j, w3.frozen? ⟨w.heap.size, j, none⟩ = false := fun j => frozen_of_row w3 _ j _ _ hcb
      clear hb
      go_wp2_with fail
      refine leaves_cons (f := 48) (args := #[.pointer (some ⟨w.heap.size, 0, none⟩)]) (by simp) (by simp [go_sem]) ?_
      refine (catch_panicking3 ⟨w.heap.size, 0, none⟩ 0 er [] _ hc (hz 0)).mono ?_
      rintro e u' w'' ⟨rfl, rfl, rfl⟩
      simp [Leaves, settle, results, Try.results29, go_sem, hc]
      rw [HQ.out]
      exact qpost_nil (HB.out.setCell (p := ⟨w.heap.size, 0, none⟩) (Nat.le_refl _) _)
    · have HC := Lib.hid (rdp_ok HN.out hr)
      clear HN
      cases t with
      | nil =>
        have HQ : Hid (wholeOf [] partQ bs = (x, 0)) := Lib.hid (whole_at (by rw [HL.out]; exact hn) hr)
        clear hr
        go_enter_defers Try.func29, Try.ntmps29
        go_wp2_with fail
        refine HC.out.mono ?_
        rintro e w3 ⟨v, rfl, hv, k', _, ht, hrd, hb⟩
        have HB := Lib.hid (HB0.out.trans (hb.below (B := w.heap.size) (by omega) (by simp)))
        have hcb := but_cell hb (by omega)
        have hc : w3.cell? ⟨w.heap.size, 0, none⟩ = some (.int .i64 0) := (cell_of_row w3 _ 0 _ _ (0, 0) hcb).trans rfl
        have hz : ∀ j, w3.frozen? ⟨w.heap.size, j, none⟩ = false := fun j => frozen_of_row w3 _ j _ _ hcb
        have hk : k' = n := by
          have h1 := congrArg List.length ht
          have h2 := hrd.len
          have h3 := hrd.le
          simp only [List.length_drop, List.length_nil] at h1
          omega
        subst hk
        have g1 := hrd.c1
        have HV := Lib.hid hv
        clear hb ht hrd hv
        go_wp2_with fail
        refine (need_yes (by simp)).mono ?_
        rintro e w4 ⟨rfl, rfl⟩
        go_wp2_with fail
        refine leaves_cons (f := 48) (args := #[.pointer (some ⟨w.heap.size, 0, none⟩)]) (by simp) (by simp [go_sem]) ?_
        refine (catch_idle3 ⟨w.heap.size, 0, none⟩ _).mono ?_
        rintro e u' w'' ⟨rfl, rfl, rfl⟩
        rw [setCell_same hcb rfl]
        simp [Leaves, settle, results, Try.results29, go_sem, hc]
        rw [HQ.out]
        exact ⟨⟨_, rfl⟩, HB.out⟩
      | cons y t =>
        have HQ : Hid (wholeOf [] partQ bs = ([], 3)) := Lib.hid (whole_more (by rw [HL.out]; exact hn) hr)
        clear hr
        go_enter_defers Try.func29, Try.ntmps29
        go_wp2_with fail
        refine HC.out.mono ?_
        rintro e w3 ⟨v, rfl, hv, k', _, ht, hrd, hb⟩
        have HB := Lib.hid (HB0.out.trans (hb.below (B := w.heap.size) (by omega) (by simp)))
        have hcb := but_cell hb (by omega)
        have hc : w3.cell? ⟨w.heap.size, 0, none⟩ = some (.int .i64 0) := (cell_of_row w3 _ 0 _ _ (0, 0) hcb).trans rfl
        have hz : ∀ j, w3.frozen? ⟨w.heap.size, j, none⟩ = false := fun j => frozen_of_row w3 _ j _ _ hcb
        have hk : k' < n := by
          have h1 := congrArg List.length ht
          have h2 := hrd.len
          simp only [List.length_drop, List.length_cons] at h1
          omega
        have hkd : ((k' : Int) == (n : Int)) = false := by simp; omega
        have g1 := hrd.c1
        clear hb ht hrd hv hk
        go_wp2_with fail
        refine (need_no rfl).mono ?_
        rintro e w4 ⟨rfl, rfl⟩
        go_wp2_with fail
        refine leaves_cons (f := 48) (args := #[.pointer (some ⟨w.heap.size, 0, none⟩)]) (by simp) (by simp [go_sem]) ?_
        refine (catch_panicking3 ⟨w.heap.size, 0, none⟩ 0 3 [] _ hc (hz 0)).mono ?_
        rintro e u' w'' ⟨rfl, rfl, rfl⟩
        simp [Leaves, settle, results, Try.results29, go_sem, hc]
        rw [HQ.out]
        exact qpost_nil (HB.out.setCell (p := ⟨w.heap.size, 0, none⟩) (Nat.le_refl _) _)
  · have hd : decide ((65536 : Int) < (n : Int)) = true := by simp; omega
    have hd2 : decide (65536 < n) = true := by simp; omega
    have HQ : Hid (wholeOf [] partQ bs = ([], 4)) := Lib.hid (whole_long (by rw [HL.out]; omega))
    clear h
    go_enter_defers Try.func29, Try.ntmps29
    go_wp2_with fail
    simp [bodyPostD, Leaves, results, Try.results29, go_sem]
    rw [HQ.out]
    exact qpost_nil ((Below.refl _ _).alloc (Nat.le_refl _) _)

end Go.Proofs.Ytlpogkcfjbabaaa

namespace Go.Proofs.Ytlpogkcfjbabaaa
open Go.RowKit

/-- may a thing of the one kind be part of one of the other -/
def partK (k u : Int) : Bool := decide ((k = 1 ∧ u = 0) ∨ (k = 2 ∧ (u = 0 ∨ u = 1)) ∨ ((k = 3 ∨ k = 4) ∧ u = 2))

/-- a byte that is a letter or a digit: what the two tests say -/
theorem tagC_parts (c : UInt8) : (tagC c = true ∧ ((decide (97 ≤ (c.toNat : Int)) = true ∧ decide ((c.toNat : Int) ≤ 122) = true ∧ decide (48 ≤ (c.toNat : Int)) = true ∧ decide ((c.toNat : Int) ≤ 57) = false) ∨
    (decide (97 ≤ (c.toNat : Int)) = false ∧ decide ((c.toNat : Int) ≤ 122) = true ∧ decide (48 ≤ (c.toNat : Int)) = true ∧ decide ((c.toNat : Int) ≤ 57) = true))) ∨
  (tagC c = false ∧ ((decide (97 ≤ (c.toNat : Int)) = false ∧ decide ((c.toNat : Int) ≤ 122) = true ∧ decide (48 ≤ (c.toNat : Int)) = false ∧ decide ((c.toNat : Int) ≤ 57) = true) ∨
    (decide (97 ≤ (c.toNat : Int)) = false ∧ decide ((c.toNat : Int) ≤ 122) = true ∧ decide (48 ≤ (c.toNat : Int)) = true ∧ decide ((c.toNat : Int) ≤ 57) = false) ∨
    (decide (97 ≤ (c.toNat : Int)) = true ∧ decide ((c.toNat : Int) ≤ 122) = false ∧ decide (48 ≤ (c.toNat : Int)) = true ∧ decide ((c.toNat : Int) ≤ 57) = false))) := by
  unfold tagC
  simp only [Bool.or_eq_true, Bool.and_eq_true, decide_eq_true_eq, decide_eq_false_iff_not, Bool.or_eq_false_iff, Bool.and_eq_false_iff]
  omega

def TagPost (s : ByteArray) (w : World) (e : Ending) (w' : World) : Prop := e = .returned (.bool (tagB s)) ∧ ∃ q, w' = w.drewN q
set_option maxRecDepth 100000 in
set_option maxHeartbeats 2000000 in
theorem tag_any (s : ByteArray) (w : World) (hs : s.size ≤ maxLen) :
    Calls Try.prog 34 #[.string s] w (TagPost s w) := by
  unfold maxLen at hs
  by_cases h16 : 16 < s.size
  · have e1 : Hid (tagB s = false) := Lib.hid (by unfold tagB; rw [decide_eq_false (by omega), Bool.and_false])
    go_enter Try.func34, Try.ntmps34
    go_wp2
    go_ret
    exact ⟨ret_bool e1.out, 0, rfl⟩
  · have h16d : decide ((16 : Int) < s.size) = false := by simp; omega
    go_enter Try.func34, Try.ntmps34
    go_wp2
    go_loopw [11] (fun i wr => ∃ k : Nat, k ≤ s.size ∧ i = .int .i64 k ∧ (s.data.toList.take k).all tagC = true ∧ ∃ q, wr = w.drewN q) (fun i _ => s.size - (intOf i).toNat)
    case atStart => exact ⟨0, Nat.zero_le _, rfl, rfl, 0, rfl⟩
    case round =>
      obtain ⟨k, hk, rfl, hpre, q, rfl⟩ := hrel
      have HP := Lib.hid hpre
      clear hpre
      by_cases hlt : k < s.size
      · have hs1 := Lib.hid (bytes_snoc s k hlt)
        rcases tagC_parts s[k] with ⟨hc, h⟩ | ⟨hc, h⟩
        · have e1 : Hid ((s.data.toList.take (k + 1)).all tagC = true) := Lib.hid (by rw [hs1.out, List.all_append, HP.out]; simp [hc])
          clear hc hs1
          rcases h with ⟨d0, d1, d2, d3⟩ | ⟨d0, d1, d2, d3⟩
          all_goals
            go_wp2
            go_quiet (fail)
            go_wp2
            go_roundw
            case rel => exact ⟨k + 1, by omega, by go_num, e1.out, q + _, rfl⟩
            case measure => simp [intOf]; omega
        · have e1 : Hid (tagB s = false) := Lib.hid (by
            unfold tagB
            have : s.data.toList.all tagC = false := by
              rw [List.all_eq_false]
              exact ⟨s[k], Array.getElem_mem_toList _, by rw [hc]; simp⟩
            rw [this]; rfl)
          clear hc hs1
          rcases h with ⟨d0, d1, d2, d3⟩ | ⟨d0, d1, d2, d3⟩ | ⟨d0, d1, d2, d3⟩
          all_goals
            go_wp2
            go_quiet (fail)
            go_wp2
            go_ret
            exact ⟨ret_bool e1.out, q + _, rfl⟩
      · have hkn : k = s.size := by omega
        have e1 : Hid (tagB s = true) := Lib.hid (by
          have := HP.out
          rw [List.take_of_length_le (by simp; omega)] at this
          unfold tagB
          rw [this, decide_eq_true (by omega)]; rfl)
        clear hkn
        go_wp2
        go_ret
        exact ⟨ret_bool e1.out, q, rfl⟩

end Go.Proofs.Ytlpogkcfjbabaaa
