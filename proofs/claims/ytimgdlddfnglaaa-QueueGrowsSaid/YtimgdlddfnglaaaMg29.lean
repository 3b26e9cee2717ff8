/- A row of jobs of one's own, as a function of the place: read, exchanged; the question that sorts. Written by gen/gen_queuesort.py. Go's slices.insertionSortCmpFunc of jobs. Written by gen/gen_queuesort.py. Go's slices.swapRangeCmpFunc and rotateCmpFunc of jobs. Written by gen/gen_queuesort.py. -/
import Derived.Deep.LoopGhost
import Derived.Deep.QuietTactic
import Derived.RegionTactic
import Derived.Shelf.Abstract
import Derived.Shelf.RegionOpenPlain
import Derived.Test.YtimgdlddfnglaaaMg28
import Derived.Test.YtimgdlddfnglaaaMg26
import Derived.Test.YtimgdlddfnglaaaMg16
import Derived.Test.YtimgdlddfnglaaaMg05
namespace Go.Proofs.Ytimgdlddfnglaaa
open Go.RowKit

/-- '.slice ⟨g, 0⟩ n cap' is a row of one's own since w, whose k-th job is f k -/
def RowF (w : World) (g n cap : Nat) (f : JF) (wr : World) : Prop := ∃ xs : Qu, xs.length = n ∧ jAt xs = f ∧ ON EJb 13 30 w (.slice (some ⟨g, 0, none⟩) n cap) xs wr
section
variable {w wr w1 : World} {g n cap i k : Nat} {f : JF}
theorem RowF.next (h : RowF w g n cap f wr) (hb : Below wr.heap.size wr w1) : RowF w g n cap f w1 := by
  obtain ⟨xs, h1, h2, h3⟩ := h
  exact ⟨xs, h1, h2, h3.next ejb_steady hb⟩
theorem RowF.drew (h : RowF w g n cap f wr) : RowF w g n cap f wr.drew := h.next (bel_drew1 wr)
theorem RowF.below (h : RowF w g n cap f wr) : Below w.heap.size w wr := by
  obtain ⟨xs, _, _, h3⟩ := h
  exact h3.below
theorem RowF.lt (h : RowF w g n cap f wr) : w.heap.size ≤ g ∧ g < wr.heap.size := by
  obtain ⟨xs, _, _, h3⟩ := h
  exact h3.own g rfl
/-- the k-th job -/
theorem RowF.at (h : RowF w g n cap f wr) (hk : k < n) : ∃ A2 m2 c2, (wr.cell? ⟨g, k * 13, none⟩ = some (.int .i64 (f k).id) ∧ wr.cell? ⟨g, k * 13 + 1, none⟩ = some (.int .i64 (f k).spec.nodes) ∧ wr.cell? ⟨g, k * 13 + 2, none⟩ = some (.int .i64 (f k).spec.cores) ∧ wr.cell? ⟨g, k * 13 + 3, none⟩ = some (.int .i64 (f k).spec.gpus) ∧ wr.cell? ⟨g, k * 13 + 4, none⟩ = some (.string (f k).spec.tag) ∧ wr.cell? ⟨g, k * 13 + 5, none⟩ = some (.bool (f k).spec.whole) ∧ wr.cell? ⟨g, k * 13 + 6, none⟩ = some (.int .i64 (f k).spec.long) ∧ wr.cell? ⟨g, k * 13 + 7, none⟩ = some (.int .i64 (f k).spec.prio) ∧ wr.cell? ⟨g, k * 13 + 8, none⟩ = some (.slice A2 m2 c2) ∧ wr.cell? ⟨g, k * 13 + 9, none⟩ = some (.int .i64 (f k).state) ∧ wr.cell? ⟨g, k * 13 + 10, none⟩ = some (.int .i64 (f k).came) ∧ wr.cell? ⟨g, k * 13 + 11, none⟩ = some (.int .i64 (f k).frm) ∧ wr.cell? ⟨g, k * 13 + 12, none⟩ = some (.int .i64 (f k).to)) ∧ EJb wr (fun b => b < wr.heap.size ∧ b ≠ g) (f k) [.int .i64 (f k).id, .int .i64 (f k).spec.nodes, .int .i64 (f k).spec.cores, .int .i64 (f k).spec.gpus, .string (f k).spec.tag, .bool (f k).spec.whole, .int .i64 (f k).spec.long, .int .i64 (f k).spec.prio, .slice A2 m2 c2, .int .i64 (f k).state, .int .i64 (f k).came, .int .i64 (f k).frm, .int .i64 (f k).to] := by
  obtain ⟨xs, h1, h2, fl, h3, h4, h5⟩ := h
  have hkl : k < xs.length := by omega
  have he := h5 k _ (List.getElem?_eq_getElem hkl)
  obtain ⟨A2, m2, c2, hv, h6⟩ := id he
  have hfl := h3.1
  have hx : xs[k] = f k := by rw [← h2, jAt_lt hkl]
  rw [hx] at hv h6 he
  have hle : k * 13 + 13 ≤ fl.length := by omega
  have hg : ∀ i u, ((fl.drop (k * 13)).take 13)[i]? = some u → wr.cell? ⟨g, k * 13 + i, none⟩ = some u := fun i u hu => by
    have hi : i < 13 := by
      have := (List.getElem?_eq_some_iff.1 hu).1
      rw [List.length_take] at this
      omega
    rw [List.getElem?_take_of_lt hi, List.getElem?_drop] at hu
    subst h1
    rw [h3.cellAt (k * 13 + i) (by omega)]
    exact hu
  rw [hv] at hg he
  refine ⟨A2, m2, c2, ⟨hg 0 _ rfl, hg 1 _ rfl, hg 2 _ rfl, hg 3 _ rfl, hg 4 _ rfl, hg 5 _ rfl, hg 6 _ rfl, hg 7 _ rfl, hg 8 _ rfl, hg 9 _ rfl, hg 10 _ rfl, hg 11 _ rfl, hg 12 _ rfl⟩, ejb_steady.keep he (fun _ _ => rfl) (fun b hb => ⟨hb.1, fun e => hb.2 (by rw [e]; rfl)⟩)⟩
/-- where it lies -/
theorem RowF.slot (h : RowF w g n cap f wr) {q : Nat} (hq : q < n * 13) : (∃ u, wr.cell? ⟨g, q, none⟩ = some u) ∧ wr.frozen? ⟨g, q, none⟩ = false := by
  obtain ⟨xs, _, _, h3⟩ := h
  exact h3.block hq
theorem jAt_swap {xs : Qu} {x y : Jb} (hi : i < xs.length) (hk : k < xs.length) (hx : jAt xs i = x) (hy : jAt xs k = y) : jAt ((xs.set i y).set k x) = swpF (jAt xs) k i := by
  funext q
  unfold swpF jAt
  simp only [List.getD, List.getElem?_set, List.length_set]
  unfold jAt at hx hy
  simp only [List.getD] at hx hy
  by_cases h1 : q = k
  · subst h1
    rw [if_pos rfl, if_pos rfl, if_pos hk, ← hx]; rfl
  · rw [if_neg (fun e => h1 e.symm), if_neg h1]
    by_cases h2 : q = i
    · subst h2
      rw [if_pos rfl, if_pos rfl, if_pos hi, ← hy]; rfl
    · rw [if_neg (fun e => h2 e.symm), if_neg h2]
/-- an exchange: the one is stored, then the other one -/
theorem RowF.swap (h : RowF w g n cap f wr) (hi : i < n) (hk : k < n) {x y : Jb} (hx : f i = x) (hy : f k = y) {A A2 : Option Addr} {m c m2 c2 : Nat}
    (ex : EJb wr (fun b => b < wr.heap.size ∧ b ≠ g) x [.int .i64 x.id, .int .i64 x.spec.nodes, .int .i64 x.spec.cores, .int .i64 x.spec.gpus, .string x.spec.tag, .bool x.spec.whole, .int .i64 x.spec.long, .int .i64 x.spec.prio, .slice A m c, .int .i64 x.state, .int .i64 x.came, .int .i64 x.frm, .int .i64 x.to]) (ey : EJb wr (fun b => b < wr.heap.size ∧ b ≠ g) y [.int .i64 y.id, .int .i64 y.spec.nodes, .int .i64 y.spec.cores, .int .i64 y.spec.gpus, .string y.spec.tag, .bool y.spec.whole, .int .i64 y.spec.long, .int .i64 y.spec.prio, .slice A2 m2 c2, .int .i64 y.state, .int .i64 y.came, .int .i64 y.frm, .int .i64 y.to]) :
    RowF w g n cap (swpF f k i) ((wr.setCells g (i * 13) [.int .i64 y.id, .int .i64 y.spec.nodes, .int .i64 y.spec.cores, .int .i64 y.spec.gpus, .string y.spec.tag, .bool y.spec.whole, .int .i64 y.spec.long, .int .i64 y.spec.prio, .slice A2 m2 c2, .int .i64 y.state, .int .i64 y.came, .int .i64 y.frm, .int .i64 y.to]).setCells g (k * 13) [.int .i64 x.id, .int .i64 x.spec.nodes, .int .i64 x.spec.cores, .int .i64 x.spec.gpus, .string x.spec.tag, .bool x.spec.whole, .int .i64 x.spec.long, .int .i64 x.spec.prio, .slice A m c, .int .i64 x.state, .int .i64 x.came, .int .i64 x.frm, .int .i64 x.to]) := by
  obtain ⟨xs, h1, h2, h3⟩ := h
  have s1 := h3.setN ejb_steady (i := i) (by omega) rfl ey
  have ex2 : EJb (wr.setCells g (i * 13) [.int .i64 y.id, .int .i64 y.spec.nodes, .int .i64 y.spec.cores, .int .i64 y.spec.gpus, .string y.spec.tag, .bool y.spec.whole, .int .i64 y.spec.long, .int .i64 y.spec.prio, .slice A2 m2 c2, .int .i64 y.state, .int .i64 y.came, .int .i64 y.frm, .int .i64 y.to]) (fun b => b < (wr.setCells g (i * 13) [.int .i64 y.id, .int .i64 y.spec.nodes, .int .i64 y.spec.cores, .int .i64 y.spec.gpus, .string y.spec.tag, .bool y.spec.whole, .int .i64 y.spec.long, .int .i64 y.spec.prio, .slice A2 m2 c2, .int .i64 y.state, .int .i64 y.came, .int .i64 y.frm, .int .i64 y.to]).heap.size ∧ b ≠ g) x [.int .i64 x.id, .int .i64 x.spec.nodes, .int .i64 x.spec.cores, .int .i64 x.spec.gpus, .string x.spec.tag, .bool x.spec.whole, .int .i64 x.spec.long, .int .i64 x.spec.prio, .slice A m c, .int .i64 x.state, .int .i64 x.came, .int .i64 x.frm, .int .i64 x.to] := ejb_steady.keep ex (fun b hb => heap_setRow b _ _ _ hb.2) (fun b hb => ⟨by rw [size_setRow]; exact hb.1, hb.2⟩)
  have s2 := s1.setN ejb_steady (i := k) (by rw [List.length_set]; omega) rfl ex2
  refine ⟨(xs.set i y).set k x, by rw [List.length_set, List.length_set]; exact h1, ?_, s2⟩
  rw [← h2]
  exact jAt_swap (by omega) (by omega) (by rw [h2]; exact hx) (by rw [h2]; exact hy)
end
set_option maxHeartbeats 1000000 in
/-- the question that sorts: how two stand by their urgency -/
theorem urg_any (x y : Jb) (A A2 : Option Addr) (m c m2 c2 : Nat) (W : World) : Calls Try.prog 27 #[.agg #[.int .i64 x.id, .int .i64 x.spec.nodes, .int .i64 x.spec.cores, .int .i64 x.spec.gpus, .string x.spec.tag, .bool x.spec.whole, .int .i64 x.spec.long, .int .i64 x.spec.prio, .slice A m c, .int .i64 x.state, .int .i64 x.came, .int .i64 x.frm, .int .i64 x.to], .agg #[.int .i64 y.id, .int .i64 y.spec.nodes, .int .i64 y.spec.cores, .int .i64 y.spec.gpus, .string y.spec.tag, .bool y.spec.whole, .int .i64 y.spec.long, .int .i64 y.spec.prio, .slice A2 m2 c2, .int .i64 y.state, .int .i64 y.came, .int .i64 y.frm, .int .i64 y.to]] W fun e w' => e = .returned (.int .i64 (cmp3 y.spec.prio x.spec.prio)) ∧ Below W.heap.size W w' := by
  have hcon := fun W' => cmp3_any y.spec.prio x.spec.prio W'
  obtain ⟨r, hr⟩ : ∃ r, cmp3 y.spec.prio x.spec.prio = r := ⟨_, rfl⟩
  rw [hr] at hcon ⊢
  go_enter Try.func27, Try.ntmps27
  go_wp2_with (go_at_call 28; refine (hcon _).mono ?_; rintro e w' ⟨rfl, rfl⟩)
  go_ret
  exact ⟨rfl, ((Below.refl _ _).alloc (Nat.le_refl _) _).alloc (by simp) _⟩
theorem urg_b {x y : Jb} {A A2 : Option Addr} {m c m2 c2 : Nat} {W : World} {r : Int} (h : cmp3 y.spec.prio x.spec.prio = r) : Calls Try.prog 27 #[.agg #[.int .i64 x.id, .int .i64 x.spec.nodes, .int .i64 x.spec.cores, .int .i64 x.spec.gpus, .string x.spec.tag, .bool x.spec.whole, .int .i64 x.spec.long, .int .i64 x.spec.prio, .slice A m c, .int .i64 x.state, .int .i64 x.came, .int .i64 x.frm, .int .i64 x.to], .agg #[.int .i64 y.id, .int .i64 y.spec.nodes, .int .i64 y.spec.cores, .int .i64 y.spec.gpus, .string y.spec.tag, .bool y.spec.whole, .int .i64 y.spec.long, .int .i64 y.spec.prio, .slice A2 m2 c2, .int .i64 y.state, .int .i64 y.came, .int .i64 y.frm, .int .i64 y.to]] W fun e w' => e = .returned (.int .i64 r) ∧ Below W.heap.size W w' := by
  subst h; exact urg_any x y A A2 m c m2 c2 W
theorem urg_lt (x y : Jb) : decide (cmp3 y.spec.prio x.spec.prio < 0) = decide (UrgB x y) := cmp3_lt _ _
theorem eg_urg : ∀ args w, (callFunc 27 args).run Try.prog w = .ok (.enter 27 args) w := Go.Proofs.enters_of Try.func27 (by kernel_rfl) rfl

end Go.Proofs.Ytimgdlddfnglaaa

namespace Go.Proofs.Ytimgdlddfnglaaa
open Go.RowKit

set_option maxRecDepth 100000 in
set_option maxHeartbeats 8000000 in
theorem insertion_any (w0 : World) (g n cap a b : Nat) (ini : JF) (w : World) (hr : RowF w0 g n cap ini w) (hn : n ≤ 1000) (hab : a ≤ b) (hbn : b ≤ n) (hid : ∀ p q, a ≤ p → p < q → q < b → (ini p).id < (ini q).id) :
    Calls Try.prog 60 #[.slice (some ⟨g, 0, none⟩) n cap, .int .i64 a, .int .i64 b, .func (.func 27) #[] #[]] w fun e w' => e = .returned (.tuple #[]) ∧ ∃ f, SameIn ini f a b ∧ SrtB f a b ∧ RowF w0 g n cap f w' := by
  have HR := Lib.hid hr
  have HID := Lib.hid hid
  have eg := eg_urg
  have mixed : Try.prog.follows .mixedOrders = true := by kernel_rfl
  clear hr hid
  go_enter Try.func60, Try.ntmps60
  go_wp2
  go_loopg [8] (b - a) (fun g1 vi wr => ∃ (i : Nat) (f : JF), vi = .int .i64 i ∧ a < i ∧ (i ≤ b ∨ i = a + 1) ∧ b + 1 - i ≤ g1 + 1 ∧ SameIn ini f a i ∧ SrtB f a i ∧ RowF w0 g n cap f wr)
  case atStart => exact ⟨a + 1, ini, by go_num, by omega, .inr rfl, by omega, SameIn.refl _ _ _, fun p q h1 h2 h3 => by omega, HR.out⟩
  case round =>
    obtain ⟨i, f, rfl, hai, hib, hg1, hsame, hsrt, hrow⟩ := hrel
    have HSA := Lib.hid hsame
    have HSR := Lib.hid hsrt
    have HRW := Lib.hid hrow
    clear hsame hsrt hrow
    by_cases hlt : i < b
    · have hltz : (i : Int) < (b : Int) := by omega
      obtain ⟨x, hx⟩ : ∃ x, f i = x := ⟨_, rfl⟩
      have HXI := Lib.hid hx
      have HXD : Hid (∀ q, a ≤ q → q < i → (f q).id < x.id) := Lib.hid (fun q h1 h2 => by
        obtain ⟨k, k1, k2, e⟩ := HSA.out.to q h1 h2
        rw [e, ← hx, HSA.out.out i (.inr (Nat.le_refl _))]
        exact HID.out k i k1 k2 hlt)
      clear hx
      go_wp2
      go_loopg [9] i (fun g2 vj wr2 => ∃ (j : Nat) (f1 : JF), vj = .int .i64 j ∧ a ≤ j ∧ j ≤ i ∧ j ≤ g2 ∧ f1 j = x ∧ (∀ q, j < q → q ≤ i → f1 q = f (q - 1)) ∧ (∀ q, q < j ∨ i < q → f1 q = f q) ∧ (j = i ∨ Before x (f j)) ∧ SameIn f f1 a (i + 1) ∧ RowF w0 g n cap f1 wr2)
      case atStart => exact ⟨i, f, rfl, by omega, Nat.le_refl _, Nat.le_refl _, HXI.out, fun q h1 h2 => by omega, fun q _ => rfl, .inl rfl, SameIn.refl _ _ _, HRW.out⟩
      case round =>
        clear HRW
        obtain ⟨j, f1, rfl, haj, hji, hg2, hfj, hsh, hou, hbe, hsa, hrow⟩ := hrel
        have HFJ := Lib.hid hfj
        have HSH := Lib.hid hsh
        have HOU := Lib.hid hou
        have HBE := Lib.hid hbe
        have HS1 := Lib.hid hsa
        have HK := Lib.hid hrow
        clear hfj hsh hou hbe hsa hrow
        have OUT : Hid ((j = a ∨ Before (f (j - 1)) x) → SameIn ini f1 a (i + 1) ∧ SrtB f1 a (i + 1)) := Lib.hid (fun h => ⟨(HSA.out.wide (Nat.le_refl _) (Nat.le_succ _)).trans HS1.out,
          insert_right HSR.out haj hji (by rw [HXI.out]; exact h) (by rw [HXI.out]; exact HBE.out) HSH.out (by rw [HXI.out]; exact HFJ.out) HOU.out⟩)
        by_cases hja : a < j
        · have hjad : decide (a < j) = true := decide_eq_true hja
          have hjaz : (a : Int) < (j : Int) := by omega
          have hj1 : j - 1 < n := by omega
          have hj0 : j < n := by omega
          have hgl := HK.out.lt.2
          have HF1 : Hid (f1 (j - 1) = f (j - 1)) := Lib.hid (HOU.out _ (.inl (by omega)))
          have HXY : Hid ((f (j - 1)).id < x.id) := Lib.hid (HXD.out _ (by omega) (by omega))
          obtain ⟨y, hy⟩ : ∃ y, f (j - 1) = y := ⟨_, rfl⟩
          rw [hy] at HF1 HXY OUT
          have HYJ := Lib.hid hy
          clear hy
          obtain ⟨A3, m3, c3, ⟨e0, e1, e2, e3, e4, e5, e6, e7, e8, e9, e10, e11, e12⟩, hex⟩ := HK.out.at hj0
          obtain ⟨A4, m4, c4, ⟨o0, o1, o2, o3, o4, o5, o6, o7, o8, o9, o10, o11, o12⟩, hey⟩ := HK.out.at hj1
          rw [HFJ.out] at hex e0 e1 e2 e3 e4 e5 e6 e7 e9 e10 e11 e12
          rw [HF1.out] at hey o0 o1 o2 o3 o4 o5 o6 o7 o9 o10 o11 o12
          clear hex hey
          have hul := urg_lt x y
          obtain ⟨r, hrr⟩ : ∃ r, cmp3 y.spec.prio x.spec.prio = r := ⟨_, rfl⟩
          rw [hrr] at hul
          have RR := Lib.hid hrr
          clear hrr
          by_cases hu : UrgB x y
          · rw [decide_eq_true hu] at hul
            have HB2 := Lib.hid ((urg_before HXY.out).1 hu)
            clear hu
            go_wp2
            have zc0 : ∀ p : Later wr, p.now.cell? ⟨g, j * 13, none⟩ = some (.int .i64 x.id) := fun _ => Later.cell hgl e0
            have zc1 : ∀ p : Later wr, p.now.cell? ⟨g, j * 13 + 1, none⟩ = some (.int .i64 x.spec.nodes) := fun _ => Later.cell hgl e1
            have zc2 : ∀ p : Later wr, p.now.cell? ⟨g, j * 13 + 2, none⟩ = some (.int .i64 x.spec.cores) := fun _ => Later.cell hgl e2
            have zc3 : ∀ p : Later wr, p.now.cell? ⟨g, j * 13 + 3, none⟩ = some (.int .i64 x.spec.gpus) := fun _ => Later.cell hgl e3
            have zc4 : ∀ p : Later wr, p.now.cell? ⟨g, j * 13 + 4, none⟩ = some (.string x.spec.tag) := fun _ => Later.cell hgl e4
            have zc5 : ∀ p : Later wr, p.now.cell? ⟨g, j * 13 + 5, none⟩ = some (.bool x.spec.whole) := fun _ => Later.cell hgl e5
            have zc6 : ∀ p : Later wr, p.now.cell? ⟨g, j * 13 + 6, none⟩ = some (.int .i64 x.spec.long) := fun _ => Later.cell hgl e6
            have zc7 : ∀ p : Later wr, p.now.cell? ⟨g, j * 13 + 7, none⟩ = some (.int .i64 x.spec.prio) := fun _ => Later.cell hgl e7
            have zc8 : ∀ p : Later wr, p.now.cell? ⟨g, j * 13 + 8, none⟩ = some (.slice A3 m3 c3) := fun _ => Later.cell hgl e8
            have zc9 : ∀ p : Later wr, p.now.cell? ⟨g, j * 13 + 9, none⟩ = some (.int .i64 x.state) := fun _ => Later.cell hgl e9
            have zc10 : ∀ p : Later wr, p.now.cell? ⟨g, j * 13 + 10, none⟩ = some (.int .i64 x.came) := fun _ => Later.cell hgl e10
            have zc11 : ∀ p : Later wr, p.now.cell? ⟨g, j * 13 + 11, none⟩ = some (.int .i64 x.frm) := fun _ => Later.cell hgl e11
            have zc12 : ∀ p : Later wr, p.now.cell? ⟨g, j * 13 + 12, none⟩ = some (.int .i64 x.to) := fun _ => Later.cell hgl e12
            have zc13 : ∀ p : Later wr, p.now.cell? ⟨g, (j - 1) * 13, none⟩ = some (.int .i64 y.id) := fun _ => Later.cell hgl o0
            have zc14 : ∀ p : Later wr, p.now.cell? ⟨g, (j - 1) * 13 + 1, none⟩ = some (.int .i64 y.spec.nodes) := fun _ => Later.cell hgl o1
            have zc15 : ∀ p : Later wr, p.now.cell? ⟨g, (j - 1) * 13 + 2, none⟩ = some (.int .i64 y.spec.cores) := fun _ => Later.cell hgl o2
            have zc16 : ∀ p : Later wr, p.now.cell? ⟨g, (j - 1) * 13 + 3, none⟩ = some (.int .i64 y.spec.gpus) := fun _ => Later.cell hgl o3
            have zc17 : ∀ p : Later wr, p.now.cell? ⟨g, (j - 1) * 13 + 4, none⟩ = some (.string y.spec.tag) := fun _ => Later.cell hgl o4
            have zc18 : ∀ p : Later wr, p.now.cell? ⟨g, (j - 1) * 13 + 5, none⟩ = some (.bool y.spec.whole) := fun _ => Later.cell hgl o5
            have zc19 : ∀ p : Later wr, p.now.cell? ⟨g, (j - 1) * 13 + 6, none⟩ = some (.int .i64 y.spec.long) := fun _ => Later.cell hgl o6
            have zc20 : ∀ p : Later wr, p.now.cell? ⟨g, (j - 1) * 13 + 7, none⟩ = some (.int .i64 y.spec.prio) := fun _ => Later.cell hgl o7
            have zc21 : ∀ p : Later wr, p.now.cell? ⟨g, (j - 1) * 13 + 8, none⟩ = some (.slice A4 m4 c4) := fun _ => Later.cell hgl o8
            have zc22 : ∀ p : Later wr, p.now.cell? ⟨g, (j - 1) * 13 + 9, none⟩ = some (.int .i64 y.state) := fun _ => Later.cell hgl o9
            have zc23 : ∀ p : Later wr, p.now.cell? ⟨g, (j - 1) * 13 + 10, none⟩ = some (.int .i64 y.came) := fun _ => Later.cell hgl o10
            have zc24 : ∀ p : Later wr, p.now.cell? ⟨g, (j - 1) * 13 + 11, none⟩ = some (.int .i64 y.frm) := fun _ => Later.cell hgl o11
            have zc25 : ∀ p : Later wr, p.now.cell? ⟨g, (j - 1) * 13 + 12, none⟩ = some (.int .i64 y.to) := fun _ => Later.cell hgl o12
            refine wp_region_later (by kernel_rfl) (by kernel_rfl) ?_
            repeat (first | go_big_quiet_skip | (go_big_quiet_want; go_big_quiet_op; first | go_big_quiet_on | (apply Exists.intro; refine ⟨fun pz => ?_, ?_⟩; (first | (go_at_call 27; exact Calls.later_of (urg_b RR.out)) | fail); go_big_quiet_on)))
            refine wpQuiet_nil ?_
            intro _ hw'
            obtain ⟨pz, rfl⟩ := hw'
            obtain ⟨w5, hb⟩ := pz
            try dsimp only
            clear zc0 zc1 zc2 zc3 zc4 zc5 zc6 zc7 zc8 zc9 zc10 zc11 zc12 zc13 zc14 zc15 zc16 zc17 zc18 zc19 zc20 zc21 zc22 zc23 zc24 zc25
            have HKq := Lib.hid (HK.out.next hb)
            clear HK
            have HK := HKq
            clear HKq
            clear hb
            clear e0 e1 e2 e3 e4 e5 e6 e7 e8 e9 e10 e11 e12 o0 o1 o2 o3 o4 o5 o6 o7 o8 o9 o10 o11 o12 hgl
            have HK5 := HK
            clear HK
            go_wp2
            have hgl := HK5.out.lt.2
            obtain ⟨A3, m3, c3, ⟨e0, e1, e2, e3, e4, e5, e6, e7, e8, e9, e10, e11, e12⟩, hex⟩ := HK5.out.at hj0
            obtain ⟨A4, m4, c4, ⟨o0, o1, o2, o3, o4, o5, o6, o7, o8, o9, o10, o11, o12⟩, hey⟩ := HK5.out.at hj1
            rw [HFJ.out] at hex e0 e1 e2 e3 e4 e5 e6 e7 e9 e10 e11 e12
            rw [HF1.out] at hey o0 o1 o2 o3 o4 o5 o6 o7 o9 o10 o11 o12
            have HK6 : Hid (RowF w0 g n cap (swpF f1 (j - 1) j) (((((((((((((((((((((((((((w5.setCell ⟨g, j * 13, none⟩ (.int .i64 y.id)).setCell ⟨g, j * 13 + 1, none⟩ (.int .i64 y.spec.nodes)).setCell ⟨g, j * 13 + 2, none⟩ (.int .i64 y.spec.cores)).setCell ⟨g, j * 13 + 3, none⟩ (.int .i64 y.spec.gpus)).setCell ⟨g, j * 13 + 4, none⟩ (.string y.spec.tag)).setCell ⟨g, j * 13 + 5, none⟩ (.bool y.spec.whole)).setCell ⟨g, j * 13 + 6, none⟩ (.int .i64 y.spec.long)).setCell ⟨g, j * 13 + 7, none⟩ (.int .i64 y.spec.prio)).setCell ⟨g, j * 13 + 8, none⟩ (.slice A4 m4 c4)).setCell ⟨g, j * 13 + 9, none⟩ (.int .i64 y.state)).setCell ⟨g, j * 13 + 10, none⟩ (.int .i64 y.came)).setCell ⟨g, j * 13 + 11, none⟩ (.int .i64 y.frm)).setCell ⟨g, j * 13 + 12, none⟩ (.int .i64 y.to)).setCell ⟨g, (j - 1) * 13, none⟩ (.int .i64 x.id)).setCell ⟨g, (j - 1) * 13 + 1, none⟩ (.int .i64 x.spec.nodes)).setCell ⟨g, (j - 1) * 13 + 2, none⟩ (.int .i64 x.spec.cores)).setCell ⟨g, (j - 1) * 13 + 3, none⟩ (.int .i64 x.spec.gpus)).setCell ⟨g, (j - 1) * 13 + 4, none⟩ (.string x.spec.tag)).setCell ⟨g, (j - 1) * 13 + 5, none⟩ (.bool x.spec.whole)).setCell ⟨g, (j - 1) * 13 + 6, none⟩ (.int .i64 x.spec.long)).setCell ⟨g, (j - 1) * 13 + 7, none⟩ (.int .i64 x.spec.prio)).setCell ⟨g, (j - 1) * 13 + 8, none⟩ (.slice A3 m3 c3)).setCell ⟨g, (j - 1) * 13 + 9, none⟩ (.int .i64 x.state)).setCell ⟨g, (j - 1) * 13 + 10, none⟩ (.int .i64 x.came)).setCell ⟨g, (j - 1) * 13 + 11, none⟩ (.int .i64 x.frm)).setCell ⟨g, (j - 1) * 13 + 12, none⟩ (.int .i64 x.to)).drew)) := Lib.hid ((HK5.out.swap hj0 hj1 HFJ.out HF1.out hex hey).drew)
            clear hex hey
            obtain ⟨⟨u0, p0⟩, z0⟩ := HK5.out.slot (q := j * 13) (by omega)
            obtain ⟨⟨t0, r0⟩, y0⟩ := HK5.out.slot (q := (j - 1) * 13) (by omega)
            obtain ⟨⟨u1, p1⟩, z1⟩ := HK5.out.slot (q := j * 13 + 1) (by omega)
            obtain ⟨⟨t1, r1⟩, y1⟩ := HK5.out.slot (q := (j - 1) * 13 + 1) (by omega)
            obtain ⟨⟨u2, p2⟩, z2⟩ := HK5.out.slot (q := j * 13 + 2) (by omega)
            obtain ⟨⟨t2, r2⟩, y2⟩ := HK5.out.slot (q := (j - 1) * 13 + 2) (by omega)
            obtain ⟨⟨u3, p3⟩, z3⟩ := HK5.out.slot (q := j * 13 + 3) (by omega)
            obtain ⟨⟨t3, r3⟩, y3⟩ := HK5.out.slot (q := (j - 1) * 13 + 3) (by omega)
            obtain ⟨⟨u4, p4⟩, z4⟩ := HK5.out.slot (q := j * 13 + 4) (by omega)
            obtain ⟨⟨t4, r4⟩, y4⟩ := HK5.out.slot (q := (j - 1) * 13 + 4) (by omega)
            obtain ⟨⟨u5, p5⟩, z5⟩ := HK5.out.slot (q := j * 13 + 5) (by omega)
            obtain ⟨⟨t5, r5⟩, y5⟩ := HK5.out.slot (q := (j - 1) * 13 + 5) (by omega)
            obtain ⟨⟨u6, p6⟩, z6⟩ := HK5.out.slot (q := j * 13 + 6) (by omega)
            obtain ⟨⟨t6, r6⟩, y6⟩ := HK5.out.slot (q := (j - 1) * 13 + 6) (by omega)
            obtain ⟨⟨u7, p7⟩, z7⟩ := HK5.out.slot (q := j * 13 + 7) (by omega)
            obtain ⟨⟨t7, r7⟩, y7⟩ := HK5.out.slot (q := (j - 1) * 13 + 7) (by omega)
            obtain ⟨⟨u8, p8⟩, z8⟩ := HK5.out.slot (q := j * 13 + 8) (by omega)
            obtain ⟨⟨t8, r8⟩, y8⟩ := HK5.out.slot (q := (j - 1) * 13 + 8) (by omega)
            obtain ⟨⟨u9, p9⟩, z9⟩ := HK5.out.slot (q := j * 13 + 9) (by omega)
            obtain ⟨⟨t9, r9⟩, y9⟩ := HK5.out.slot (q := (j - 1) * 13 + 9) (by omega)
            obtain ⟨⟨u10, p10⟩, z10⟩ := HK5.out.slot (q := j * 13 + 10) (by omega)
            obtain ⟨⟨t10, r10⟩, y10⟩ := HK5.out.slot (q := (j - 1) * 13 + 10) (by omega)
            obtain ⟨⟨u11, p11⟩, z11⟩ := HK5.out.slot (q := j * 13 + 11) (by omega)
            obtain ⟨⟨t11, r11⟩, y11⟩ := HK5.out.slot (q := (j - 1) * 13 + 11) (by omega)
            obtain ⟨⟨u12, p12⟩, z12⟩ := HK5.out.slot (q := j * 13 + 12) (by omega)
            obtain ⟨⟨t12, r12⟩, y12⟩ := HK5.out.slot (q := (j - 1) * 13 + 12) (by omega)
            go_big_region_o
            all_goals go_wp2
            go_roundg (j - 1)
            case measure => omega
            case rel =>
              refine ⟨j - 1, _, by go_num, by omega, by omega, Nat.le_refl _, ?_, ?_, ?_, ?_, ?_, HK6.out⟩
              · unfold swpF; rw [if_pos rfl]; exact HFJ.out
              · intro q h1 h2
                unfold swpF
                rw [if_neg (by omega)]
                by_cases h3 : q = j
                · rw [if_pos h3, HF1.out, h3, HYJ.out]
                · rw [if_neg h3]; exact HSH.out q (by omega) h2
              · intro q h1
                unfold swpF
                rw [if_neg (by omega), if_neg (by omega)]; exact HOU.out q (by omega)
              · exact .inr (by rw [HYJ.out]; exact HB2.out)
              · exact HS1.out.trans (swpF_same ⟨by omega, by omega⟩ ⟨by omega, by omega⟩)
          · rw [decide_eq_false hu] at hul
            have HE := Lib.hid (OUT.out (.inr ((urg_not HXY.out).1 hu)))
            clear hu
            go_wp2
            have zc0 : ∀ p : Later wr, p.now.cell? ⟨g, j * 13, none⟩ = some (.int .i64 x.id) := fun _ => Later.cell hgl e0
            have zc1 : ∀ p : Later wr, p.now.cell? ⟨g, j * 13 + 1, none⟩ = some (.int .i64 x.spec.nodes) := fun _ => Later.cell hgl e1
            have zc2 : ∀ p : Later wr, p.now.cell? ⟨g, j * 13 + 2, none⟩ = some (.int .i64 x.spec.cores) := fun _ => Later.cell hgl e2
            have zc3 : ∀ p : Later wr, p.now.cell? ⟨g, j * 13 + 3, none⟩ = some (.int .i64 x.spec.gpus) := fun _ => Later.cell hgl e3
            have zc4 : ∀ p : Later wr, p.now.cell? ⟨g, j * 13 + 4, none⟩ = some (.string x.spec.tag) := fun _ => Later.cell hgl e4
            have zc5 : ∀ p : Later wr, p.now.cell? ⟨g, j * 13 + 5, none⟩ = some (.bool x.spec.whole) := fun _ => Later.cell hgl e5
            have zc6 : ∀ p : Later wr, p.now.cell? ⟨g, j * 13 + 6, none⟩ = some (.int .i64 x.spec.long) := fun _ => Later.cell hgl e6
            have zc7 : ∀ p : Later wr, p.now.cell? ⟨g, j * 13 + 7, none⟩ = some (.int .i64 x.spec.prio) := fun _ => Later.cell hgl e7
            have zc8 : ∀ p : Later wr, p.now.cell? ⟨g, j * 13 + 8, none⟩ = some (.slice A3 m3 c3) := fun _ => Later.cell hgl e8
            have zc9 : ∀ p : Later wr, p.now.cell? ⟨g, j * 13 + 9, none⟩ = some (.int .i64 x.state) := fun _ => Later.cell hgl e9
            have zc10 : ∀ p : Later wr, p.now.cell? ⟨g, j * 13 + 10, none⟩ = some (.int .i64 x.came) := fun _ => Later.cell hgl e10
            have zc11 : ∀ p : Later wr, p.now.cell? ⟨g, j * 13 + 11, none⟩ = some (.int .i64 x.frm) := fun _ => Later.cell hgl e11
            have zc12 : ∀ p : Later wr, p.now.cell? ⟨g, j * 13 + 12, none⟩ = some (.int .i64 x.to) := fun _ => Later.cell hgl e12
            have zc13 : ∀ p : Later wr, p.now.cell? ⟨g, (j - 1) * 13, none⟩ = some (.int .i64 y.id) := fun _ => Later.cell hgl o0
            have zc14 : ∀ p : Later wr, p.now.cell? ⟨g, (j - 1) * 13 + 1, none⟩ = some (.int .i64 y.spec.nodes) := fun _ => Later.cell hgl o1
            have zc15 : ∀ p : Later wr, p.now.cell? ⟨g, (j - 1) * 13 + 2, none⟩ = some (.int .i64 y.spec.cores) := fun _ => Later.cell hgl o2
            have zc16 : ∀ p : Later wr, p.now.cell? ⟨g, (j - 1) * 13 + 3, none⟩ = some (.int .i64 y.spec.gpus) := fun _ => Later.cell hgl o3
            have zc17 : ∀ p : Later wr, p.now.cell? ⟨g, (j - 1) * 13 + 4, none⟩ = some (.string y.spec.tag) := fun _ => Later.cell hgl o4
            have zc18 : ∀ p : Later wr, p.now.cell? ⟨g, (j - 1) * 13 + 5, none⟩ = some (.bool y.spec.whole) := fun _ => Later.cell hgl o5
            have zc19 : ∀ p : Later wr, p.now.cell? ⟨g, (j - 1) * 13 + 6, none⟩ = some (.int .i64 y.spec.long) := fun _ => Later.cell hgl o6
            have zc20 : ∀ p : Later wr, p.now.cell? ⟨g, (j - 1) * 13 + 7, none⟩ = some (.int .i64 y.spec.prio) := fun _ => Later.cell hgl o7
            have zc21 : ∀ p : Later wr, p.now.cell? ⟨g, (j - 1) * 13 + 8, none⟩ = some (.slice A4 m4 c4) := fun _ => Later.cell hgl o8
            have zc22 : ∀ p : Later wr, p.now.cell? ⟨g, (j - 1) * 13 + 9, none⟩ = some (.int .i64 y.state) := fun _ => Later.cell hgl o9
            have zc23 : ∀ p : Later wr, p.now.cell? ⟨g, (j - 1) * 13 + 10, none⟩ = some (.int .i64 y.came) := fun _ => Later.cell hgl o10
            have zc24 : ∀ p : Later wr, p.now.cell? ⟨g, (j - 1) * 13 + 11, none⟩ = some (.int .i64 y.frm) := fun _ => Later.cell hgl o11
            have zc25 : ∀ p : Later wr, p.now.cell? ⟨g, (j - 1) * 13 + 12, none⟩ = some (.int .i64 y.to) := fun _ => Later.cell hgl o12
            refine wp_region_later (by kernel_rfl) (by kernel_rfl) ?_
            repeat (first | go_big_quiet_skip | (go_big_quiet_want; go_big_quiet_op; first | go_big_quiet_on | (apply Exists.intro; refine ⟨fun pz => ?_, ?_⟩; (first | (go_at_call 27; exact Calls.later_of (urg_b RR.out)) | fail); go_big_quiet_on)))
            refine wpQuiet_nil ?_
            intro _ hw'
            obtain ⟨pz, rfl⟩ := hw'
            obtain ⟨w5, hb⟩ := pz
            try dsimp only
            clear zc0 zc1 zc2 zc3 zc4 zc5 zc6 zc7 zc8 zc9 zc10 zc11 zc12 zc13 zc14 zc15 zc16 zc17 zc18 zc19 zc20 zc21 zc22 zc23 zc24 zc25
            have HKq := Lib.hid (HK.out.next hb)
            clear HK
            have HK := HKq
            clear HKq
            clear hb
            clear e0 e1 e2 e3 e4 e5 e6 e7 e8 e9 e10 e11 e12 o0 o1 o2 o3 o4 o5 o6 o7 o8 o9 o10 o11 o12 hgl
            go_wp2
            go_roundg (b - (i + 1))
            case measure => omega
            case rel => exact ⟨i + 1, f1, by go_num, by omega, .inl (by omega), by omega, HE.out.1, HE.out.2, HK.out⟩
        · have hjad : decide (a < j) = false := decide_eq_false hja
          have hjaz : ¬ (a : Int) < (j : Int) := by omega
          have HE := Lib.hid (OUT.out (.inl (by omega)))
          go_wp2
          go_big_region_o
          all_goals go_wp2
          go_roundg (b - (i + 1))
          case measure => omega
          case rel => exact ⟨i + 1, f1, by go_num, by omega, .inl (by omega), by omega, HE.out.1, HE.out.2, HK.out.drew⟩
    · have hltz : ¬ (i : Int) < (b : Int) := by omega
      have HE : Hid (SameIn ini f a b ∧ SrtB f a b) := Lib.hid (by
        by_cases h : i = b
        · subst h; exact ⟨HSA.out, HSR.out⟩
        · have h3 : a = b := by omega
          subst h3
          refine ⟨⟨fun q h1 h2 => by omega, fun q h1 h2 => by omega, fun q h1 => ?_⟩, fun p q h1 h2 h3 => by omega⟩
          by_cases h4 : q = a
          · obtain ⟨k, k1, k2, e⟩ := HSA.out.to q (by omega) (by omega)
            rw [e, show k = q by omega]
          · exact HSA.out.out q (by omega))
      go_wp2
      go_end0
      exact ⟨rfl, f, HE.out.1, HE.out.2, HRW.out⟩

end Go.Proofs.Ytimgdlddfnglaaa

namespace Go.Proofs.Ytimgdlddfnglaaa
open Go.RowKit

set_option maxRecDepth 100000 in
set_option maxHeartbeats 8000000 in
theorem swapRange_any (w0 : World) (g n cap a b t : Nat) (f : JF) (w : World) (hr : RowF w0 g n cap f w) (hn : n ≤ 1000) (hab : a + t ≤ b) (hbn : b + t ≤ n) :
    Calls Try.prog 64 #[.slice (some ⟨g, 0, none⟩) n cap, .int .i64 a, .int .i64 b, .int .i64 t, .func (.func 27) #[] #[]] w fun e w' => e = .returned (.tuple #[]) ∧ RowF w0 g n cap (swpRF f a b t) w' := by
  have HR := Lib.hid hr
  have mixed : Try.prog.follows .mixedOrders = true := by kernel_rfl
  clear hr
  go_enter Try.func64, Try.ntmps64
  go_wp2
  go_loopw [10] (fun vi wr => ∃ (i : Nat), vi = .int .i64 i ∧ i ≤ t ∧ RowF w0 g n cap (swpRF f a b i) wr) (fun vi _ => t - (intOf vi).toNat)
  case atStart => exact ⟨0, rfl, Nat.zero_le _, by rw [swpRF_zero]; exact HR.out⟩
  case round =>
    obtain ⟨i, rfl, hit, hrow⟩ := hrel
    have HK := Lib.hid hrow
    clear hrow
    by_cases hlt : i < t
    · obtain ⟨f1, hf1⟩ : ∃ f1, swpRF f a b i = f1 := ⟨_, rfl⟩
      have HSU : Hid (swpF f1 (b + i) (a + i) = swpRF f a b (i + 1)) := Lib.hid (by rw [← hf1, swpF_comm]; exact swpRF_succ (by omega))
      rw [hf1] at HK
      obtain ⟨x, hx⟩ : ∃ x, f1 (a + i) = x := ⟨_, rfl⟩
      obtain ⟨y, hy⟩ : ∃ y, f1 (b + i) = y := ⟨_, rfl⟩
      have HX := Lib.hid hx
      have HY := Lib.hid hy
      clear hf1 hx hy
      have hai : a + i < n := by omega
      have hbi : b + i < n := by omega
      go_wp2
      have hgl := HK.out.lt.2
      obtain ⟨A3, m3, c3, ⟨e0, e1, e2, e3, e4, e5, e6, e7, e8, e9, e10, e11, e12⟩, hex⟩ := HK.out.at hai
      obtain ⟨A4, m4, c4, ⟨o0, o1, o2, o3, o4, o5, o6, o7, o8, o9, o10, o11, o12⟩, hey⟩ := HK.out.at hbi
      rw [HX.out] at hex e0 e1 e2 e3 e4 e5 e6 e7 e9 e10 e11 e12
      rw [HY.out] at hey o0 o1 o2 o3 o4 o5 o6 o7 o9 o10 o11 o12
      have HK6 : Hid (RowF w0 g n cap (swpF f1 (b + i) (a + i)) (((((((((((((((((((((((((((wr.setCell ⟨g, (a + i) * 13, none⟩ (.int .i64 y.id)).setCell ⟨g, (a + i) * 13 + 1, none⟩ (.int .i64 y.spec.nodes)).setCell ⟨g, (a + i) * 13 + 2, none⟩ (.int .i64 y.spec.cores)).setCell ⟨g, (a + i) * 13 + 3, none⟩ (.int .i64 y.spec.gpus)).setCell ⟨g, (a + i) * 13 + 4, none⟩ (.string y.spec.tag)).setCell ⟨g, (a + i) * 13 + 5, none⟩ (.bool y.spec.whole)).setCell ⟨g, (a + i) * 13 + 6, none⟩ (.int .i64 y.spec.long)).setCell ⟨g, (a + i) * 13 + 7, none⟩ (.int .i64 y.spec.prio)).setCell ⟨g, (a + i) * 13 + 8, none⟩ (.slice A4 m4 c4)).setCell ⟨g, (a + i) * 13 + 9, none⟩ (.int .i64 y.state)).setCell ⟨g, (a + i) * 13 + 10, none⟩ (.int .i64 y.came)).setCell ⟨g, (a + i) * 13 + 11, none⟩ (.int .i64 y.frm)).setCell ⟨g, (a + i) * 13 + 12, none⟩ (.int .i64 y.to)).setCell ⟨g, (b + i) * 13, none⟩ (.int .i64 x.id)).setCell ⟨g, (b + i) * 13 + 1, none⟩ (.int .i64 x.spec.nodes)).setCell ⟨g, (b + i) * 13 + 2, none⟩ (.int .i64 x.spec.cores)).setCell ⟨g, (b + i) * 13 + 3, none⟩ (.int .i64 x.spec.gpus)).setCell ⟨g, (b + i) * 13 + 4, none⟩ (.string x.spec.tag)).setCell ⟨g, (b + i) * 13 + 5, none⟩ (.bool x.spec.whole)).setCell ⟨g, (b + i) * 13 + 6, none⟩ (.int .i64 x.spec.long)).setCell ⟨g, (b + i) * 13 + 7, none⟩ (.int .i64 x.spec.prio)).setCell ⟨g, (b + i) * 13 + 8, none⟩ (.slice A3 m3 c3)).setCell ⟨g, (b + i) * 13 + 9, none⟩ (.int .i64 x.state)).setCell ⟨g, (b + i) * 13 + 10, none⟩ (.int .i64 x.came)).setCell ⟨g, (b + i) * 13 + 11, none⟩ (.int .i64 x.frm)).setCell ⟨g, (b + i) * 13 + 12, none⟩ (.int .i64 x.to)).drew)) := Lib.hid ((HK.out.swap hai hbi HX.out HY.out hex hey).drew)
      clear hex hey
      obtain ⟨⟨u0, p0⟩, z0⟩ := HK.out.slot (q := (a + i) * 13) (by omega)
      obtain ⟨⟨t0, r0⟩, y0⟩ := HK.out.slot (q := (b + i) * 13) (by omega)
      obtain ⟨⟨u1, p1⟩, z1⟩ := HK.out.slot (q := (a + i) * 13 + 1) (by omega)
      obtain ⟨⟨t1, r1⟩, y1⟩ := HK.out.slot (q := (b + i) * 13 + 1) (by omega)
      obtain ⟨⟨u2, p2⟩, z2⟩ := HK.out.slot (q := (a + i) * 13 + 2) (by omega)
      obtain ⟨⟨t2, r2⟩, y2⟩ := HK.out.slot (q := (b + i) * 13 + 2) (by omega)
      obtain ⟨⟨u3, p3⟩, z3⟩ := HK.out.slot (q := (a + i) * 13 + 3) (by omega)
      obtain ⟨⟨t3, r3⟩, y3⟩ := HK.out.slot (q := (b + i) * 13 + 3) (by omega)
      obtain ⟨⟨u4, p4⟩, z4⟩ := HK.out.slot (q := (a + i) * 13 + 4) (by omega)
      obtain ⟨⟨t4, r4⟩, y4⟩ := HK.out.slot (q := (b + i) * 13 + 4) (by omega)
      obtain ⟨⟨u5, p5⟩, z5⟩ := HK.out.slot (q := (a + i) * 13 + 5) (by omega)
      obtain ⟨⟨t5, r5⟩, y5⟩ := HK.out.slot (q := (b + i) * 13 + 5) (by omega)
      obtain ⟨⟨u6, p6⟩, z6⟩ := HK.out.slot (q := (a + i) * 13 + 6) (by omega)
      obtain ⟨⟨t6, r6⟩, y6⟩ := HK.out.slot (q := (b + i) * 13 + 6) (by omega)
      obtain ⟨⟨u7, p7⟩, z7⟩ := HK.out.slot (q := (a + i) * 13 + 7) (by omega)
      obtain ⟨⟨t7, r7⟩, y7⟩ := HK.out.slot (q := (b + i) * 13 + 7) (by omega)
      obtain ⟨⟨u8, p8⟩, z8⟩ := HK.out.slot (q := (a + i) * 13 + 8) (by omega)
      obtain ⟨⟨t8, r8⟩, y8⟩ := HK.out.slot (q := (b + i) * 13 + 8) (by omega)
      obtain ⟨⟨u9, p9⟩, z9⟩ := HK.out.slot (q := (a + i) * 13 + 9) (by omega)
      obtain ⟨⟨t9, r9⟩, y9⟩ := HK.out.slot (q := (b + i) * 13 + 9) (by omega)
      obtain ⟨⟨u10, p10⟩, z10⟩ := HK.out.slot (q := (a + i) * 13 + 10) (by omega)
      obtain ⟨⟨t10, r10⟩, y10⟩ := HK.out.slot (q := (b + i) * 13 + 10) (by omega)
      obtain ⟨⟨u11, p11⟩, z11⟩ := HK.out.slot (q := (a + i) * 13 + 11) (by omega)
      obtain ⟨⟨t11, r11⟩, y11⟩ := HK.out.slot (q := (b + i) * 13 + 11) (by omega)
      obtain ⟨⟨u12, p12⟩, z12⟩ := HK.out.slot (q := (a + i) * 13 + 12) (by omega)
      obtain ⟨⟨t12, r12⟩, y12⟩ := HK.out.slot (q := (b + i) * 13 + 12) (by omega)
      go_big_region_o
      rw [HSU.out] at HK6
      all_goals go_wp2
      go_roundw
      case rel => exact ⟨i + 1, by go_num, by omega, HK6.out⟩
      case measure => simp [intOf]; omega
    · obtain rfl : i = t := by omega
      go_wp2
      go_end0
      exact ⟨rfl, HK.out⟩

set_option maxRecDepth 100000 in
set_option maxHeartbeats 8000000 in
/-- two parts side by side change places -/
theorem rotate_any (w0 : World) (g n cap a m b : Nat) (f : JF) (w : World) (hr : RowF w0 g n cap f w) (hn : n ≤ 1000) (ham : a < m) (hmb : m < b) (hbn : b ≤ n) :
    Calls Try.prog 63 #[.slice (some ⟨g, 0, none⟩) n cap, .int .i64 a, .int .i64 m, .int .i64 b, .func (.func 27) #[] #[]] w fun e w' => e = .returned (.tuple #[]) ∧ RowF w0 g n cap (rotF f a m b) w' := by
  have HR := Lib.hid hr
  clear hr
  go_enter Try.func63, Try.ntmps63
  go_wp2
  go_loopg [10, 11] (b - a) (fun kx vi vj wr => ∃ (i j : Nat) (f1 : JF), vi = .int .i64 i ∧ vj = .int .i64 j ∧ 0 < i ∧ 0 < j ∧ i ≤ m - a ∧ m + j ≤ b ∧ i + j ≤ kx ∧ rotF f1 (m - i) m (m + j) = rotF f a m b ∧ RowF w0 g n cap f1 wr)
  case atStart => exact ⟨m - a, b - m, f, by go_num, by go_num, by omega, by omega, by omega, by omega, by omega, by rw [show m - (m - a) = a by omega, show m + (b - m) = b by omega], HR.out⟩
  case round =>
    obtain ⟨i, j, f1, rfl, rfl, hi0, hj0, him, hjb, hkx, hrot, hrow⟩ := hrel
    have HRO := Lib.hid hrot
    have HK := Lib.hid hrow
    clear hrot hrow
    by_cases he : i = j
    · subst he
      have HC := Lib.hid (swapRange_any w0 g n cap (m - i) m i f1 wr HK.out hn (by omega) (by omega))
      rw [rot_even (by omega), HRO.out] at HC
      have dd : ((i : Int) != (i : Int)) = false := by simp
      have emi : ((m - i : Nat) : Int) = (m : Int) - (i : Int) := by omega
      rw [emi] at HC
      clear emi
      go_wp2_with fail
      refine HC.out.mono ?_
      rintro e w5 ⟨rfl, h5⟩
      have H5 := Lib.hid h5
      clear h5 HC
      go_wp2
      go_end0
      exact ⟨rfl, H5.out⟩
    · have dd : ((i : Int) != (j : Int)) = true := bne_iff_ne.2 (by omega)
      by_cases hlt : j < i
      · have hltz : (j : Int) < (i : Int) := by omega
        have hltd : decide (j < i) = true := decide_eq_true hlt
        have HC := Lib.hid (swapRange_any w0 g n cap (m - i) m j f1 wr HK.out hn (by omega) (by omega))
        have HN : Hid (rotF (swpRF f1 (m - i) m j) (m - (i - j)) m (m + j) = rotF f a m b) := Lib.hid (by rw [rot_left (by omega) hlt hj0]; exact HRO.out)
        have emi : ((m - i : Nat) : Int) = (m : Int) - (i : Int) := by omega
        rw [emi] at HC
        clear emi
        go_wp2_with fail
        refine HC.out.mono ?_
        rintro e w5 ⟨rfl, h5⟩
        have H5 := Lib.hid h5
        clear h5 HC
        go_wp2
        go_roundg (i - j + j)
        case measure => omega
        case rel => exact ⟨i - j, j, _, by go_num, rfl, by omega, hj0, by omega, hjb, Nat.le_refl _, HN.out, H5.out⟩
      · have hltz : ¬ (j : Int) < (i : Int) := by omega
        have hltd : decide (j < i) = false := decide_eq_false hlt
        have HC := Lib.hid (swapRange_any w0 g n cap (m - i) (m + j - i) i f1 wr HK.out hn (by omega) (by omega))
        have HN : Hid (rotF (swpRF f1 (m - i) (m + j - i) i) (m - i) m (m + (j - i)) = rotF f a m b) := Lib.hid (by rw [rot_right (by omega) (by omega) hi0]; exact HRO.out)
        have emi : ((m - i : Nat) : Int) = (m : Int) - (i : Int) := by omega
        have emj : ((m + j - i : Nat) : Int) = (m : Int) + (j : Int) - (i : Int) := by omega
        rw [emi, emj] at HC
        clear emi emj
        go_wp2_with fail
        refine HC.out.mono ?_
        rintro e w5 ⟨rfl, h5⟩
        have H5 := Lib.hid h5
        clear h5 HC
        go_wp2
        go_roundg (i + (j - i))
        case measure => omega
        case rel => exact ⟨i, j - i, _, rfl, by go_num, hi0, by omega, him, by omega, Nat.le_refl _, HN.out, H5.out⟩

end Go.Proofs.Ytimgdlddfnglaaa
