/- The program's Under and Above of layer 5 (graph): what they answer of any list of things. -/
import Derived.Test.YtnlgnpdajblfnaaDoorGraphPList
import Derived.Test.YtnlgnpdajblfnaaDoorShelfRev
namespace Go.Proofs.YtnlgnpdajblfnaaDoor
open Go.RowKit

theorem underL_yes {g : Gr} {k : Nat} (h : rightG g = true) (hk : k < g.length) : underL g (k : Int) = numsF (overG g k) g.length := by
  unfold underL
  rw [if_pos ⟨h, by omega, by omega⟩, Int.toNat_natCast]
theorem aboveL_yes {g : Gr} {k : Nat} (h : rightG g = true) (hk : k < g.length) : aboveL g (k : Int) = numsF (fun m => overG g m k) (k + 1) := by
  unfold aboveL
  rw [if_pos ⟨h, by omega, by omega⟩, Int.toNat_natCast]
theorem underL_no {g : Gr} {a : Int} (h : thereB g a = false) : underL g a = [] := by
  unfold underL
  rw [if_neg (fun h' => by rw [thereB_is.2 h'] at h; cases h)]
theorem aboveL_no {g : Gr} {a : Int} (h : thereB g a = false) : aboveL g a = [] := by
  unfold aboveL
  rw [if_neg (fun h' => by rw [thereB_is.2 h'] at h; cases h)]
/-- the marks of what is under a, as far as i -/
def undM (g : Gr) (a i : Nat) : Nat → Bool := fun j => decide (j < i) && overG g a j
theorem undM_start (g : Gr) (a : Nat) : ∀ k, mset (fun _ => false) a true k = undM g a (a + 1) k := by
  intro k
  unfold undM
  by_cases h : k = a
  · subst h; rw [mset_same, over_self, decide_eq_true (by omega)]; rfl
  · rw [mset_other _ _ h]
    by_cases h' : k < a + 1
    · have : overG g a k = false := by
        cases ho : overG g a k with
        | false => rfl
        | true => exact absurd (over_le ho) (by omega)
      rw [this, Bool.and_false]
    · rw [decide_eq_false h', Bool.false_and]
theorem undM_step {g : Gr} (hg : RightG g) {a i : Nat} (hi : i < g.length) (ha : a < i) : ∀ k, mset (undM g a i) i (undM g a i (par g i)) k = undM g a (i + 1) k := by
  intro k
  have hp := (hg.up i (by omega) hi).2
  have e : undM g a i (par g i) = overG g a i := by
    unfold undM
    rw [decide_eq_true hp, Bool.true_and, over_up hg hi ha]
  by_cases h : k = i
  · subst h; rw [mset_same, e]; unfold undM; rw [decide_eq_true (by omega), Bool.true_and]
  · rw [mset_other _ _ h]
    unfold undM
    by_cases h' : k < i
    · rw [decide_eq_true h', decide_eq_true (by omega)]
    · rw [decide_eq_false h', decide_eq_false (by omega)]

set_option maxRecDepth 100000 in
set_option maxHeartbeats 4000000 in
theorem under_any (A : Option Addr) (n c : Nat) (g : Gr) (a : Int) (w : World) (h : GAsk w A n c g) (_ : I64 a) :
    Calls Tryd.prog 15 #[.slice A n c, .int .i64 a] w (IPost (underL g a) w) := by
  have HN : Hid (n ≤ maxLen) := Lib.hid (ml300 h.few)
  have HR := Lib.hid h.reads
  have HL := Lib.hid h.reads.len
  clear h
  cases ht : thereB g a with
  | false =>
    rw [underL_no ht]
    have HT := Lib.hid ht
    clear ht
    go_enter Tryd.func15, Tryd.ntmps15
    go_wp2_with fail
    refine (there_b HR.out HN.out HT.out).mono ?_
    rintro e w1 ⟨rfl, hb⟩
    have HB := Lib.hid hb
    clear hb
    go_wp2
    go_ret
    exact ipost_nil HB.out
  | true =>
    obtain ⟨hg, ha0, han⟩ := thereB_is.1 ht
    have HT := Lib.hid ht
    have HG := Lib.hid (rightG_is hg)
    obtain ⟨k0, rfl⟩ : ∃ k0 : Nat, a = (k0 : Int) := ⟨a.toNat, by omega⟩
    have hk0 : k0 < n := by have := HL.out; omega
    have hn256 : n ≤ 256 := by have := HG.out.few; have := HL.out; omega
    have hk256 : k0 < 256 := by omega
    have HRES : Hid (underL g (k0 : Int) = numsF (overG g k0) n) := Lib.hid (by rw [underL_yes hg (by have := HL.out; omega), HL.out])
    clear ht hg ha0 han
    go_enter Tryd.func15, Tryd.ntmps15
    go_wp2_with fail
    refine (there_b HR.out HN.out HT.out).mono ?_
    rintro e w1 ⟨rfl, hb⟩
    have HB := Lib.hid hb
    have HR1 := Lib.hid (HR.out.next hb)
    clear hb
    go_wp2_with (with_reducible refine wpList_alloc_marks rfl rfl ?_; intro w2 hm; refine Hid.out ?_)
    refine Lib.hid ?_
    have hc := hm.cell hk256
    have hf := hm.frozen k0
    have HM2 : Hid (Marks w1 (undM g k0 (k0 + 1)) (w2.setCell ⟨w1.heap.size, k0, none⟩ (.bool true))) := Lib.hid ((hm.set true).ext (fun j _ => undM_start g k0 j))
    clear hm
    go_wp2
    clear hc hf
    go_loopw [6] (fun i wr => ∃ k : Nat, k0 < k ∧ k ≤ n ∧ i = .int .i64 k ∧ Marks w1 (undM g k0 k) wr) (fun i _ => n - (intOf i).toNat)
    case atStart => exact ⟨k0 + 1, by omega, by omega, by go_num, HM2.out⟩
    case round =>
      obtain ⟨k, hk0k, hk, rfl, hm⟩ := hrel
      by_cases hlt : k < n
      · have HMk := Lib.hid hm
        have HRk := Lib.hid (HR1.out.next hm.bel)
        have hkl : k < g.length := by have := HL.out; omega
        have hup := HG.out.up k (by omega) hkl
        have HST := Lib.hid (undM_step HG.out hkl hk0k)
        obtain ⟨b, off, rfl, hbw, _, hc1, _, _⟩ := HRk.out.one hlt
        obtain ⟨p, hp⟩ : ∃ p, par g k = p := ⟨_, rfl⟩
        have hu : gu g k = (p : Int) := by unfold par at hp; omega
        rw [hu] at hc1
        rw [hp] at hup HST
        have hpk := hup.2
        have hp256 : p < 256 := by omega
        have hk256' : k < 256 := by omega
        have hcp := hm.cell hp256
        have hck := hm.cell hk256'
        have hfk := hm.frozen k
        have HM3 : Hid (Marks w1 (undM g k0 (k + 1)) (wr.setCell ⟨w1.heap.size, k, none⟩ (.bool (undM g k0 k p)))) := Lib.hid ((hm.set _).ext (fun j _ => HST.out j))
        generalize undM g k0 k p = bp at *
        clear hu hp hup hm hkl HST
        go_wp2
        clear hcp hck hfk hc1
        go_roundw
        case rel => exact ⟨k + 1, by omega, by omega, by go_num, HM3.out⟩
        case measure => simp [intOf]; omega
      · have hkn : k = n := by omega
        subst hkn
        have HM := Lib.hid hm
        have HBM := Lib.hid (HB.out.trans (hm.bel.mono HB.out.size))
        have e1 : Hid (numsF (undM g k0 k) 256 = underL g (k0 : Int)) := Lib.hid (by rw [HRES.out]; exact numsF_cut hn256)
        clear hm
        go_wp2_with (with_reducible refine wpList_load_marks rfl _ rfl HM.out rfl ?_; refine Hid.out ?_)
        refine Lib.hid ?_
        go_wp2_with fail
        refine (marksList_l e1.out).mono ?_
        rintro e w5 ⟨⟨A5, c5, rfl, hri, hnil, hcap⟩, hb5⟩
        have HX := Lib.hid (ipost_mk hri hnil hcap (HBM.out.trans (hb5.mono HBM.out.size)))
        clear hri hnil hcap hb5
        go_wp2
        go_ret
        exact HX.out

/-- the head of a set of numbers: m, and then only higher ones -/
theorem numsF_cons {p q : Nat → Bool} {m : Nat} : ∀ {n : Nat}, m < n → (∀ k, k < n → p k = (k == m || q k)) → (∀ k, k < n → q k = true → m < k) → numsF p n = (m : Int) :: numsF q n := by
  intro n
  induction n with
  | zero => intro h; omega
  | succ n ih =>
    intro hm hp hq
    rw [numsF_succ p n, numsF_succ q n, hp n (by omega)]
    by_cases h : n = m
    · subst h
      have e0 : ∀ r : Nat → Bool, (∀ k, k < n → r k = false) → numsF r n = [] := fun r hr => by
        unfold numsF
        rw [List.filter_eq_nil_iff.2 (fun x hx => by rw [hr x (List.mem_range.1 hx)]; simp)]
        rfl
      have hqk : ∀ k, k < n + 1 → q k = false := fun k hk => by
        cases hqk : q k with
        | false => rfl
        | true => exact absurd (hq k hk hqk) (by omega)
      rw [e0 p (fun k hk => by rw [hp k (by omega), hqk k (by omega)]; simp; omega), e0 q (fun k hk => hqk k (by omega)), hqk n (by omega)]
      simp
    · rw [ih (by omega) (fun k hk => hp k (by omega)) (fun k hk => hq k (by omega))]
      have : (n == m) = false := by simpa using h
      rw [this, Bool.false_or]
      rfl
/-- what is above a, beyond m -/
def upL (g : Gr) (a : Nat) (m : Int) : List Int := numsF (fun k => decide (m < k) && overG g k a) (a + 1)
theorem upL_start (g : Gr) (a : Nat) : upL g a (a : Int) = [] := by
  unfold upL numsF
  rw [List.filter_eq_nil_iff.2 (fun x hx => by have := List.mem_range.1 hx; rw [decide_eq_false (by omega)]; simp)]
  rfl
theorem upL_end (g : Gr) (a : Nat) : upL g a (-1) = numsF (fun m => overG g m a) (a + 1) := by
  unfold upL
  exact numsF_ext (fun k _ => by rw [decide_eq_true (by omega), Bool.true_and])
theorem upL_step {g : Gr} (hg : RightG g) {a m : Nat} (ha : a < g.length) (h : overG g m a = true) : upL g a (gu g m) = (m : Int) :: upL g a (m : Int) := by
  have hma := over_le h
  unfold upL
  refine numsF_cons (by omega) (fun k hk => ?_) (fun k _ hq => ?_)
  · rcases Nat.lt_trichotomy k m with hkm | hkm | hkm
    · have h1 : (k == m) = false := by simp; omega
      have h2 : decide ((m : Int) < (k : Int)) = false := by simp; omega
      rw [h1, h2, Bool.false_and, Bool.or_false]
      have hpu := (hg.up m (by omega) (by omega)).1
      by_cases hku : gu g m < (k : Int)
      · cases ho : overG g k a with
        | false => rw [Bool.and_false]
        | true =>
          have h3 := over_chain hg a ha ho h (by omega)
          rw [over_up hg (by omega) hkm] at h3
          have := over_le h3
          unfold par at this
          omega
      · rw [decide_eq_false hku, Bool.false_and]
    · subst hkm
      have hup : gu g k < (k : Int) := by
        rcases Nat.eq_zero_or_pos k with h0 | h0
        · subst h0; have := hg.top.2; omega
        · have := hg.up k h0 (by omega); unfold par at this; omega
      rw [decide_eq_true hup, h]; simp
    · have h1 : (k == m) = false := by simp; omega
      have h2 : decide ((m : Int) < (k : Int)) = true := by simp; omega
      have hup : gu g m < (k : Int) := by
        rcases Nat.eq_zero_or_pos m with h0 | h0
        · subst h0; have := hg.top.2; omega
        · have := hg.up m h0 (by omega); unfold par at this; omega
      rw [h1, h2, decide_eq_true hup]; simp
  · rw [Bool.and_eq_true, decide_eq_true_eq] at hq
    omega
theorem over_parent {g : Gr} (hg : RightG g) {a m : Nat} (ha : a < g.length) (hm : 0 < m) (h : overG g m a = true) : overG g (par g m) a = true := by
  have hma := over_le h
  have h2 : overG g (par g m) m = true := by
    rw [over_up hg (by omega) (hg.up m hm (by omega)).2]
    exact over_self
  exact over_trans hg a ha h h2

set_option maxRecDepth 100000 in
set_option maxHeartbeats 4000000 in
theorem above_any (A : Option Addr) (n c : Nat) (g : Gr) (a : Int) (w : World) (h : GAsk w A n c g) (_ : I64 a) :
    Calls Tryd.prog 13 #[.slice A n c, .int .i64 a] w (IPost (aboveL g a) w) := by
  obtain ⟨i0, hi0, hz0, hz1, hz2⟩ := info_parts int_info
  have HN : Hid (n ≤ maxLen) := Lib.hid (ml300 h.few)
  have HR := Lib.hid h.reads
  have HL := Lib.hid h.reads.len
  clear h
  cases ht : thereB g a with
  | false =>
    rw [aboveL_no ht]
    have HT := Lib.hid ht
    clear ht
    go_enter Tryd.func13, Tryd.ntmps13
    go_wp2_with fail
    refine (there_b HR.out HN.out HT.out).mono ?_
    rintro e w1 ⟨rfl, hb⟩
    have HB := Lib.hid hb
    clear hb
    go_wp2
    go_ret
    exact ipost_nil HB.out
  | true =>
    obtain ⟨hg, ha0, han⟩ := thereB_is.1 ht
    have HT := Lib.hid ht
    have HG := Lib.hid (rightG_is hg)
    obtain ⟨k0, rfl⟩ : ∃ k0 : Nat, a = (k0 : Int) := ⟨a.toNat, by omega⟩
    have hk0 : k0 < n := by have := HL.out; omega
    have hn256 : n ≤ 256 := by have := HG.out.few; have := HL.out; omega
    have HK0 : Hid (k0 < g.length) := Lib.hid (by have := HL.out; omega)
    have HRES : Hid (upL g k0 (-1) = aboveL g (k0 : Int)) := Lib.hid (by rw [aboveL_yes hg HK0.out, upL_end])
    clear ht hg ha0 han
    go_enter Tryd.func13, Tryd.ntmps13
    go_wp2_with fail
    refine (there_b HR.out HN.out HT.out).mono ?_
    rintro e w1 ⟨rfl, hb⟩
    have HB := Lib.hid hb
    have HR1 := Lib.hid (HR.out.next hb)
    clear hb
    go_wp2
    go_loopw [1, 5] (fun i v wr => (∃ m : Nat, m ≤ k0 ∧ i = .int .i64 m ∧ overG g m k0 = true ∧ ON EI 1 3 w1 v (upL g k0 (m : Int)).reverse wr) ∨ (i = .int .i64 (-1) ∧ ON EI 1 3 w1 v (upL g k0 (-1)).reverse wr)) (fun i _ _ => (intOf i + 1).toNat)
    case atStart => exact .inl ⟨k0, Nat.le_refl _, rfl, over_self, by rw [upL_start]; exact ON.nil _⟩
    case round =>
      rcases hrel with ⟨m, hmk, rfl, ho, hf⟩ | ⟨rfl, hf⟩
      · have HF := Lib.hid hf
        have HRk := Lib.hid (HR1.out.next hf.below)
        have HO := Lib.hid ho
        have HS := Lib.hid (upL_step HG.out HK0.out ho)
        clear hf ho
        have hmn : m < n := by omega
        have hml : Hid (m < g.length) := Lib.hid (by have := HK0.out; omega)
        have hlen : Hid ((upL g k0 (m : Int)).reverse.length ≤ 1000) := Lib.hid (by
          rw [List.length_reverse]
          exact Nat.le_trans (numsF_len _ _) (by omega))
        have hm0 : decide ((0 : Int) ≤ (m : Int)) = true := by simp
        go_wp2_with (at_builtin; refine wpList_append_EI rfl (.tmp 17) (.tmp 19) 23 3 rfl HF.out i0 Tryd.underlying23 hi0 hz0 hz1 hz2 rfl _ rfl hlen.out ?_; intro v' w4 hON4; refine Hid.out ?_)
        refine Lib.hid ?_
        have HO4 : Hid (ON EI 1 3 w1 v' (upL g k0 (gu g m)).reverse w4) := Lib.hid (by rw [HS.out, List.reverse_cons]; exact hON4)
        have HR4 := Lib.hid (HR1.out.next hON4.below)
        clear hON4
        obtain ⟨b, off, rfl, _, _, hc1, _, _⟩ := HR4.out.one hmn
        rcases Nat.eq_zero_or_pos m with h0 | h0
        · subst h0
          have htop := HG.out.top.2
          have HO5 : Hid (ON EI 1 3 w1 v' (upL g k0 (-1)).reverse w4) := Lib.hid (by have := HO4.out; rwa [htop] at this)
          rw [htop] at hc1
          clear htop
          simp only [Nat.zero_mul, Nat.add_zero] at hc1
          go_wp2
          go_roundw
          case rel => exact .inr ⟨rfl, HO5.out⟩
          case measure => simp [intOf]
        · have hup := HG.out.up m h0 hml.out
          obtain ⟨p, hp⟩ : ∃ p, par g m = p := ⟨_, rfl⟩
          have hu : gu g m = (p : Int) := by unfold par at hp; omega
          have HOP : Hid (overG g p k0 = true) := Lib.hid (by rw [← hp]; exact over_parent HG.out HK0.out h0 HO.out)
          have HO5 : Hid (ON EI 1 3 w1 v' (upL g k0 (p : Int)).reverse w4) := Lib.hid (by have := HO4.out; rwa [hu] at this)
          rw [hu] at hc1
          rw [hp] at hup
          have hpm := hup.2
          clear hu hp hup
          go_wp2
          go_roundw
          case rel => exact .inl ⟨p, by omega, rfl, HOP.out, HO5.out⟩
          case measure => simp [intOf]; omega
      · have HF := Lib.hid hf
        clear hf
        have HPOS : Hid (0 < (upL g k0 (-1)).reverse.length) := Lib.hid (by
          rw [List.length_reverse, HRES.out, List.length_pos_iff]
          intro he
          have : ((k0 : Int)) ∈ aboveL g (k0 : Int) := by
            rw [← HRES.out, upL_end, mem_numsF_nat]
            exact ⟨by omega, over_self⟩
          rw [he] at this
          cases this)
        go_wp2_with fail
        refine (reverse_any HF.out HPOS.out).mono ?_
        rintro e w5 ⟨rfl, ho5⟩
        have HX := Lib.hid (ho5.ipost.trans HB.out)
        clear ho5
        rw [List.reverse_reverse, HRES.out] at HX
        go_wp2
        go_ret
        exact HX.out

end Go.Proofs.YtnlgnpdajblfnaaDoor
