/- The program's add, Take and Give of layer 3 (step): what they answer of any list of steps, span and number. -/
import Derived.Test.YtkhnlbkghjjdnaaStepPCut
namespace Go.Proofs.Ytkhnlbkghjjdnaa
open Go.RowKit

theorem SOwn.alloc {w wr : World} {v : Value} {l : List (Int × Int)} (h : SOwn w v l wr) (o : Obj) : SOwn w v l (wr.alloc o) := ⟨h.1.alloc o, h.2.alloc h.2.size o⟩
theorem sown_last2 {w wr : World} {A : Option Addr} {c : Nat} {l : List (Int × Int)} (h : SOwn w (.slice A l.length c) l wr) (hn : 0 < l.length) :
    ∃ g, A = some ⟨g, 0, none⟩ ∧ g < wr.heap.size ∧ wr.cell? ⟨g, (l.length - 1) * 2 + 1, none⟩ = some (.int .i64 (l.getD (l.length - 1) (0, 0)).2) := by
  obtain ⟨g, e, hc⟩ := sown_last h hn
  exact ⟨g, e, (h.1.lt g (by rw [e]; rfl)).2, hc⟩
theorem news2 {W : World} {N : Nat} {x y : Value} {t : TypeId} (h : N = W.heap.size) : ∀ (j : Nat) (u : Value), ([x, y] : List Value)[j]? = some u → (W.alloc (.cells #[x, y] t)).cell? ((⟨N, 0, none⟩ : Addr).add j) = some u := by
  intro j u hj
  rw [add_none, World.cell?_alloc_at _ _ _ _ h, Nat.zero_add]
  match j, hj with
  | 0, hj => exact hj
  | 1, hj => exact hj
/-- what add leaves -/
def AddPost (L p : List (Int × Int)) (w : World) (e : Ending) (w' : World) : Prop :=
  (L.length ≤ 1024 ∧ ∃ v, e = .returned (.tuple #[v, .int .i64 0]) ∧ SOwn w v L w') ∨ (1024 < L.length ∧ ∃ v, e = .returned (.tuple #[v, .int .i64 4]) ∧ SOwn w v p w')
theorem clone_next (A : Option Addr) (n c : Nat) (p : List (Int × Int)) (w : World) (hr : RS w w.heap.size A n p) (hnil : A = none → c = 0) (hn : n ≤ 3000) (w0 : World) (hb : Below w0.heap.size w0 w) :
    Calls Try.prog 44 #[.slice A n c] w fun e w' => ∃ v, e = .returned v ∧ SOwn w0 v p w' :=
  (clone_any A n c p w hr hnil hn).mono fun _ _ ⟨v, h1, h2⟩ => ⟨v, h1, own_base h2.1 hb.size, hb.trans (h2.2.mono hb.size)⟩

set_option maxRecDepth 100000 in
set_option maxHeartbeats 8000000 in
theorem add_any (A : Option Addr) (n c : Nat) (p : List (Int × Int)) (a b d : Int) (w : World) (hr : RS w w.heap.size A n p) (hnil : A = none → c = 0) (hn : n ≤ 1024) (hp : Canon p) (hbd : Bounded p) (h0 : 0 ≤ a) (hab : a < b) (hd1 : -1048576 ≤ d) (hd2 : d ≤ 1048576) :
    Calls Try.prog 47 #[.slice A n c, .int .i64 a, .int .i64 b, .int .i64 d] w (AddPost (addQ p a b d) p w) := by
  have hup := canon_up hp
  have hpa := pos_canon hp h0
  have hcut1 : Up 0 (cutL p a) := by rw [cutL_eq hpa]; exact insT_up 0 hup h0
  have hpb : 0 < pos (cutL p a) b := by
    obtain ⟨f, r, rfl, _⟩ := canon_form hp
    rw [cutL_eq hpa]
    show 0 < pos (if (0 : Int) ≤ a then (0, f) :: insT f r a else (a, 0) :: (0, f) :: r) b
    rw [if_pos h0]
    show 0 < (if (0 : Int) ≤ b then pos (insT f r a) b + 1 else 0)
    rw [if_pos (by omega)]
    omega
  have hbd2 : ∀ s ∈ cutL (cutL p a) b, 0 ≤ s.2 ∧ s.2 ≤ 1048576 := by
    intro s hs
    rw [cutL_eq hpb] at hs
    rcases (insT_mem _ _ _ _).1 hs with hs | rfl
    · rw [cutL_eq hpa] at hs
      rcases (insT_mem _ _ _ _).1 hs with hs | rfl
      · exact hbd s hs
      · exact atP_bounds hbd a
    · show 0 ≤ atT 0 (cutL p a) b ∧ atT 0 (cutL p a) b ≤ 1048576
      rw [cutL_eq hpa, insT_at]
      exact atP_bounds hbd b
  have HR := Lib.hid hr
  have HNIL := Lib.hid hnil
  have HUP := Lib.hid hup
  have HPA := Lib.hid hpa
  have HC1 := Lib.hid hcut1
  have HPB := Lib.hid hpb
  have HBD := Lib.hid hbd2
  have HL1 : Hid ((cutL p a).length = n + 1) := Lib.hid (by rw [cutL_len, hr.1])
  have HL2 : Hid ((cutL (cutL p a) b).length = n + 2) := Lib.hid (by rw [cutL_len, cutL_len, hr.1])
  have HN5 : Hid (n ≤ 2500) := Lib.hid (by omega)
  have HN6 : Hid (n + 1 ≤ 2500) := Lib.hid (by omega)
  have HN3 : Hid (n ≤ 3000) := Lib.hid (by omega)
  clear hr hnil hup hpa hcut1 hpb hbd2 hp hbd
  obtain ⟨i0, hi0, hz0, hz1, hz2⟩ := info_parts step_info
  have HRes : Hid (addQ p a b d = (cutL (cutL p a) b).foldl (addStep a b d) []) := Lib.hid rfl
  go_enter Try.func47, Try.ntmps47
  go_wp2_with fail
  refine (cut_any _ n c p a _ HR.out HNIL.out HN5.out HUP.out HPA.out).mono ?_
  rintro e w1 ⟨v1, rfl, ho1⟩
  obtain ⟨A1, c1, rfl⟩ := own_form ho1.1
  have HO1 := Lib.hid ho1
  have hr1 : RS w1 w1.heap.size A1 (n + 1) (cutL p a) := by
    have := RS.of_own ho1.1
    rwa [HL1.out] at this
  have hnil1 := own_nil ho1.1
  rw [HL1.out]
  have HR1 := Lib.hid hr1
  have HNIL1 := Lib.hid hnil1
  clear ho1 hr1 hnil1
  go_wp2_with fail
  refine (cut_any _ (n + 1) c1 (cutL p a) b _ HR1.out HNIL1.out HN6.out HC1.out HPB.out).mono ?_
  rintro e w2 ⟨v2, rfl, ho2⟩
  obtain ⟨A2, c2, rfl⟩ := own_form ho2.1
  have HB2 : Hid (Below w.heap.size w w2) := Lib.hid (HO1.out.2.trans (ho2.2.mono HO1.out.2.size))
  generalize cutL (cutL p a) b = cs at *
  have hr2 : RS w2 w2.heap.size A2 (n + 2) cs := by
    have := RS.of_own ho2.1
    rwa [HL2.out] at this
  rw [HL2.out]
  have HR2 := Lib.hid hr2
  clear ho2 hr2
  obtain ⟨m, hm⟩ : ∃ m, n + 2 = m := ⟨_, rfl⟩
  rw [hm] at HR2 HL2 ⊢
  have hm2 : m ≤ 1026 := by omega
  clear hm
  go_wp2
  go_loopg [10, 19] m (fun g v i wr => ∃ k : Nat, k ≤ m ∧ g = m - k ∧ i = .int .i64 k ∧ SOwn w2 v ((cs.take k).foldl (addStep a b d) []) wr ∧ ((cs.take k).foldl (addStep a b d) []).length ≤ k)
  case atStart => exact ⟨0, by omega, rfl, rfl, SOwn.nil _, Nat.le_refl _⟩
  case round =>
    obtain ⟨k, hk, rfl, rfl, hT, hlen⟩ := hrel
    by_cases hlt : k < m
    · have hs : Hid ((cs.take (k + 1)).foldl (addStep a b d) [] = addStep a b d ((cs.take k).foldl (addStep a b d) []) (cs.getD k (0, 0))) := Lib.hid (foldl_take _ _ _ (0, 0) _ (by rw [HL2.out]; exact hlt))
      generalize (cs.take k).foldl (addStep a b d) [] = l at *
      obtain ⟨b1, o1, rfl, hb1, hc1, hc2⟩ := (HR2.out.next hT.2).cells hlt
      have hyb := HBD.out (cs.getD k (0, 0)) (getD_mem (by rw [HL2.out]; exact hlt))
      have hps : Hid (addStep a b d l (cs.getD k (0, 0)) = if l = [] ∨ (l.getD (l.length - 1) (0, 0)).2 ≠ addF a b d (cs.getD k (0, 0)) then l ++ [((cs.getD k (0, 0)).1, addF a b d (cs.getD k (0, 0)))] else l) := Lib.hid rfl
      have hF : Hid (addF a b d (cs.getD k (0, 0)) = if a ≤ (cs.getD k (0, 0)).1 ∧ (cs.getD k (0, 0)).1 < b then (cs.getD k (0, 0)).2 + d else (cs.getD k (0, 0)).2) := Lib.hid rfl
      generalize (cs.getD k (0, 0)).1 = x at *
      generalize (cs.getD k (0, 0)).2 = y at *
      obtain ⟨F, hFF⟩ : ∃ F, addF a b d (cs.getD k (0, 0)) = F := ⟨_, rfl⟩
      rw [hFF] at hF hps
      clear hFF
      obtain ⟨Av, cv, rfl⟩ := own_form hT.1
      have HT := Lib.hid hT
      clear hT
      by_cases h1 : a ≤ x
      · by_cases h2 : x < b
        · have hFv : Hid (F = y + d) := Lib.hid (by rw [hF.out, if_pos ⟨h1, h2⟩])
          by_cases hl : l.length = 0
          · have hln : l = [] := List.eq_nil_of_length_eq_zero hl
            have hput : Hid (addStep a b d l (cs.getD k (0, 0)) = l ++ [(x, y + d)]) := Lib.hid (by rw [hps.out, if_pos (.inl hln), hFv.out])
            have hlb : ((l.length : Int) == 0) = true := by simp [hln]
            clear hl hln
            go_wp2
            go_quiet (fail)
            have HT2 := Lib.hid ((HT.out.alloc (.cells #[.int .i64 x, .int .i64 (y + d)] 57)).drew nq)
            go_wp2_with (at_builtin; refine wpList_append_own _ rfl (.tmp 53) (.tmp 55) 26 rfl w2.heap.size 57 i0 (.agg #[.int .i64 0, .int .i64 0]) 2 16 Try.underlying26 hi0 hz0 hz1 hz2 rfl (by decide) (.slice Av l.length cv) l.length _ rfl (HT2.out.1.alloc _) ⟨wr.heap.size + 1, 0, none⟩ 1 1 [.int .i64 x, .int .i64 (y + d)] rfl rfl (news2 (by simp)) (by intro u hu; simp at hu; rcases hu with rfl | rfl <;> rfl) (by unfold maxLen; omega) (by omega) (by have := HT2.out.2.size; simp at this; simp; omega) ?_; intro v' w5 hown' hgrow _; refine Hid.out ?_)
            refine Lib.hid ?_
            have R := Lib.hid (HT2.out.snoc hown' hgrow)
            clear hown' hgrow
            go_wp2
            go_roundg (m - (k + 1))
            case measure => omega
            case rel => exact ⟨k + 1, by omega, rfl, by go_num, by rw [hs.out, hput.out]; exact R.out, by rw [hs.out, hput.out]; simp; omega⟩
          · have hlb : ((l.length : Int) == 0) = false := by simp; intro h; exact hl (by rw [h]; rfl)
            have hlne : l ≠ [] := fun h => hl (by rw [h]; rfl)
            obtain ⟨g1, rfl, hg1, hlast⟩ := sown_last2 HT.out (by omega)
            by_cases hne : (l.getD (l.length - 1) (0, 0)).2 = y + d
            · have hput : Hid (addStep a b d l (cs.getD k (0, 0)) = l) := Lib.hid (by rw [hps.out, if_neg (by rintro (h | h); exact hlne h; exact h (hne.trans hFv.out.symm))])
              have hneb : ((l.getD (l.length - 1) (0, 0)).2 != y + d) = false := by rw [hne]; simp
              have HLN := Lib.hid hlne
              clear hlne hne
              generalize (l.getD (l.length - 1) (0, 0)).2 = z at *
              go_wp2
              go_quiet (fail)
              go_wp2
              go_roundg (m - (k + 1))
              case measure => omega
              case rel => exact ⟨k + 1, by omega, rfl, by go_num, by rw [hs.out, hput.out]; exact (HT.out.alloc _).drew _, by rw [hs.out, hput.out]; omega⟩
            · have hput : Hid (addStep a b d l (cs.getD k (0, 0)) = l ++ [(x, y + d)]) := Lib.hid (by rw [hps.out, if_pos (.inr (fun h => hne (h.trans hFv.out))), hFv.out])
              have hneb : ((l.getD (l.length - 1) (0, 0)).2 != y + d) = true := bne_iff_ne.2 hne
              have HLN := Lib.hid hlne
              clear hlne hne
              generalize (l.getD (l.length - 1) (0, 0)).2 = z at *
              go_wp2
              go_quiet (fail)
              have HT2 := Lib.hid ((HT.out.alloc (.cells #[.int .i64 x, .int .i64 (y + d)] 57)).drew nq)
              go_wp2_with (at_builtin; refine wpList_append_own _ rfl (.tmp 53) (.tmp 55) 26 rfl w2.heap.size 57 i0 (.agg #[.int .i64 0, .int .i64 0]) 2 16 Try.underlying26 hi0 hz0 hz1 hz2 rfl (by decide) (.slice (some ⟨g1, 0, none⟩) l.length cv) l.length _ rfl (HT2.out.1.alloc _) ⟨wr.heap.size + 1, 0, none⟩ 1 1 [.int .i64 x, .int .i64 (y + d)] rfl rfl (news2 (by simp)) (by intro u hu; simp at hu; rcases hu with rfl | rfl <;> rfl) (by unfold maxLen; omega) (by omega) (by have := HT2.out.2.size; simp at this; simp; omega) ?_; intro v' w5 hown' hgrow _; refine Hid.out ?_)
              refine Lib.hid ?_
              have R := Lib.hid (HT2.out.snoc hown' hgrow)
              clear hown' hgrow
              go_wp2
              go_roundg (m - (k + 1))
              case measure => omega
              case rel => exact ⟨k + 1, by omega, rfl, by go_num, by rw [hs.out, hput.out]; exact R.out, by rw [hs.out, hput.out]; simp; omega⟩
        · have hFv : Hid (F = y) := Lib.hid (by rw [hF.out, if_neg (fun h => h2 h.2)])
          have h2d : decide (x < b) = false := by simpa using h2
          by_cases hl : l.length = 0
          · have hln : l = [] := List.eq_nil_of_length_eq_zero hl
            have hput : Hid (addStep a b d l (cs.getD k (0, 0)) = l ++ [(x, y)]) := Lib.hid (by rw [hps.out, if_pos (.inl hln), hFv.out])
            have hlb : ((l.length : Int) == 0) = true := by simp [hln]
            clear hl hln
            go_wp2
            go_quiet (fail)
            have HT2 := Lib.hid ((HT.out.alloc (.cells #[.int .i64 x, .int .i64 (y)] 57)).drew nq)
            go_wp2_with (at_builtin; refine wpList_append_own _ rfl (.tmp 53) (.tmp 55) 26 rfl w2.heap.size 57 i0 (.agg #[.int .i64 0, .int .i64 0]) 2 16 Try.underlying26 hi0 hz0 hz1 hz2 rfl (by decide) (.slice Av l.length cv) l.length _ rfl (HT2.out.1.alloc _) ⟨wr.heap.size + 1, 0, none⟩ 1 1 [.int .i64 x, .int .i64 (y)] rfl rfl (news2 (by simp)) (by intro u hu; simp at hu; rcases hu with rfl | rfl <;> rfl) (by unfold maxLen; omega) (by omega) (by have := HT2.out.2.size; simp at this; simp; omega) ?_; intro v' w5 hown' hgrow _; refine Hid.out ?_)
            refine Lib.hid ?_
            have R := Lib.hid (HT2.out.snoc hown' hgrow)
            clear hown' hgrow
            go_wp2
            go_roundg (m - (k + 1))
            case measure => omega
            case rel => exact ⟨k + 1, by omega, rfl, by go_num, by rw [hs.out, hput.out]; exact R.out, by rw [hs.out, hput.out]; simp; omega⟩
          · have hlb : ((l.length : Int) == 0) = false := by simp; intro h; exact hl (by rw [h]; rfl)
            have hlne : l ≠ [] := fun h => hl (by rw [h]; rfl)
            obtain ⟨g1, rfl, hg1, hlast⟩ := sown_last2 HT.out (by omega)
            by_cases hne : (l.getD (l.length - 1) (0, 0)).2 = y
            · have hput : Hid (addStep a b d l (cs.getD k (0, 0)) = l) := Lib.hid (by rw [hps.out, if_neg (by rintro (h | h); exact hlne h; exact h (hne.trans hFv.out.symm))])
              have hneb : ((l.getD (l.length - 1) (0, 0)).2 != y) = false := by rw [hne]; simp
              have HLN := Lib.hid hlne
              clear hlne hne
              generalize (l.getD (l.length - 1) (0, 0)).2 = z at *
              go_wp2
              go_quiet (fail)
              go_wp2
              go_roundg (m - (k + 1))
              case measure => omega
              case rel => exact ⟨k + 1, by omega, rfl, by go_num, by rw [hs.out, hput.out]; exact (HT.out.alloc _).drew _, by rw [hs.out, hput.out]; omega⟩
            · have hput : Hid (addStep a b d l (cs.getD k (0, 0)) = l ++ [(x, y)]) := Lib.hid (by rw [hps.out, if_pos (.inr (fun h => hne (h.trans hFv.out))), hFv.out])
              have hneb : ((l.getD (l.length - 1) (0, 0)).2 != y) = true := bne_iff_ne.2 hne
              have HLN := Lib.hid hlne
              clear hlne hne
              generalize (l.getD (l.length - 1) (0, 0)).2 = z at *
              go_wp2
              go_quiet (fail)
              have HT2 := Lib.hid ((HT.out.alloc (.cells #[.int .i64 x, .int .i64 (y)] 57)).drew nq)
              go_wp2_with (at_builtin; refine wpList_append_own _ rfl (.tmp 53) (.tmp 55) 26 rfl w2.heap.size 57 i0 (.agg #[.int .i64 0, .int .i64 0]) 2 16 Try.underlying26 hi0 hz0 hz1 hz2 rfl (by decide) (.slice (some ⟨g1, 0, none⟩) l.length cv) l.length _ rfl (HT2.out.1.alloc _) ⟨wr.heap.size + 1, 0, none⟩ 1 1 [.int .i64 x, .int .i64 (y)] rfl rfl (news2 (by simp)) (by intro u hu; simp at hu; rcases hu with rfl | rfl <;> rfl) (by unfold maxLen; omega) (by omega) (by have := HT2.out.2.size; simp at this; simp; omega) ?_; intro v' w5 hown' hgrow _; refine Hid.out ?_)
              refine Lib.hid ?_
              have R := Lib.hid (HT2.out.snoc hown' hgrow)
              clear hown' hgrow
              go_wp2
              go_roundg (m - (k + 1))
              case measure => omega
              case rel => exact ⟨k + 1, by omega, rfl, by go_num, by rw [hs.out, hput.out]; exact R.out, by rw [hs.out, hput.out]; simp; omega⟩
      · have hFv : Hid (F = y) := Lib.hid (by rw [hF.out, if_neg (fun h => h1 h.1)])
        have h1d : decide (a ≤ x) = false := by simpa using h1
        by_cases hl : l.length = 0
        · have hln : l = [] := List.eq_nil_of_length_eq_zero hl
          have hput : Hid (addStep a b d l (cs.getD k (0, 0)) = l ++ [(x, y)]) := Lib.hid (by rw [hps.out, if_pos (.inl hln), hFv.out])
          have hlb : ((l.length : Int) == 0) = true := by simp [hln]
          clear hl hln
          go_wp2
          go_quiet (fail)
          have HT2 := Lib.hid ((HT.out.alloc (.cells #[.int .i64 x, .int .i64 (y)] 57)).drew nq)
          go_wp2_with (at_builtin; refine wpList_append_own _ rfl (.tmp 53) (.tmp 55) 26 rfl w2.heap.size 57 i0 (.agg #[.int .i64 0, .int .i64 0]) 2 16 Try.underlying26 hi0 hz0 hz1 hz2 rfl (by decide) (.slice Av l.length cv) l.length _ rfl (HT2.out.1.alloc _) ⟨wr.heap.size + 1, 0, none⟩ 1 1 [.int .i64 x, .int .i64 (y)] rfl rfl (news2 (by simp)) (by intro u hu; simp at hu; rcases hu with rfl | rfl <;> rfl) (by unfold maxLen; omega) (by omega) (by have := HT2.out.2.size; simp at this; simp; omega) ?_; intro v' w5 hown' hgrow _; refine Hid.out ?_)
          refine Lib.hid ?_
          have R := Lib.hid (HT2.out.snoc hown' hgrow)
          clear hown' hgrow
          go_wp2
          go_roundg (m - (k + 1))
          case measure => omega
          case rel => exact ⟨k + 1, by omega, rfl, by go_num, by rw [hs.out, hput.out]; exact R.out, by rw [hs.out, hput.out]; simp; omega⟩
        · have hlb : ((l.length : Int) == 0) = false := by simp; intro h; exact hl (by rw [h]; rfl)
          have hlne : l ≠ [] := fun h => hl (by rw [h]; rfl)
          obtain ⟨g1, rfl, hg1, hlast⟩ := sown_last2 HT.out (by omega)
          by_cases hne : (l.getD (l.length - 1) (0, 0)).2 = y
          · have hput : Hid (addStep a b d l (cs.getD k (0, 0)) = l) := Lib.hid (by rw [hps.out, if_neg (by rintro (h | h); exact hlne h; exact h (hne.trans hFv.out.symm))])
            have hneb : ((l.getD (l.length - 1) (0, 0)).2 != y) = false := by rw [hne]; simp
            have HLN := Lib.hid hlne
            clear hlne hne
            generalize (l.getD (l.length - 1) (0, 0)).2 = z at *
            go_wp2
            go_quiet (fail)
            go_wp2
            go_roundg (m - (k + 1))
            case measure => omega
            case rel => exact ⟨k + 1, by omega, rfl, by go_num, by rw [hs.out, hput.out]; exact (HT.out.alloc _).drew _, by rw [hs.out, hput.out]; omega⟩
          · have hput : Hid (addStep a b d l (cs.getD k (0, 0)) = l ++ [(x, y)]) := Lib.hid (by rw [hps.out, if_pos (.inr (fun h => hne (h.trans hFv.out))), hFv.out])
            have hneb : ((l.getD (l.length - 1) (0, 0)).2 != y) = true := bne_iff_ne.2 hne
            have HLN := Lib.hid hlne
            clear hlne hne
            generalize (l.getD (l.length - 1) (0, 0)).2 = z at *
            go_wp2
            go_quiet (fail)
            have HT2 := Lib.hid ((HT.out.alloc (.cells #[.int .i64 x, .int .i64 (y)] 57)).drew nq)
            go_wp2_with (at_builtin; refine wpList_append_own _ rfl (.tmp 53) (.tmp 55) 26 rfl w2.heap.size 57 i0 (.agg #[.int .i64 0, .int .i64 0]) 2 16 Try.underlying26 hi0 hz0 hz1 hz2 rfl (by decide) (.slice (some ⟨g1, 0, none⟩) l.length cv) l.length _ rfl (HT2.out.1.alloc _) ⟨wr.heap.size + 1, 0, none⟩ 1 1 [.int .i64 x, .int .i64 (y)] rfl rfl (news2 (by simp)) (by intro u hu; simp at hu; rcases hu with rfl | rfl <;> rfl) (by unfold maxLen; omega) (by omega) (by have := HT2.out.2.size; simp at this; simp; omega) ?_; intro v' w5 hown' hgrow _; refine Hid.out ?_)
            refine Lib.hid ?_
            have R := Lib.hid (HT2.out.snoc hown' hgrow)
            clear hown' hgrow
            go_wp2
            go_roundg (m - (k + 1))
            case measure => omega
            case rel => exact ⟨k + 1, by omega, rfl, by go_num, by rw [hs.out, hput.out]; exact R.out, by rw [hs.out, hput.out]; simp; omega⟩
    · have hkm : k = m := by omega
      have hd : decide (k < m) = false := by simpa using hlt
      have hq : (cs.take k).foldl (addStep a b d) [] = addQ p a b d := by rw [HRes.out, List.take_of_length_le (by rw [HL2.out]; omega)]
      rw [hq] at hT hlen
      generalize addQ p a b d = L at *
      obtain ⟨Av, cv, rfl⟩ := own_form hT.1
      have hfin : Hid (SOwn w (.slice Av L.length cv) L wr) := Lib.hid ⟨own_base hT.1 HB2.out.size, HB2.out.trans (hT.2.mono HB2.out.size)⟩
      clear hT hq
      by_cases h1 : 1024 < L.length
      · have HRw := Lib.hid (HR.out.next hfin.out.2)
        go_wp2_with fail
        refine (clone_next _ n c p _ HRw.out HNIL.out HN3.out w hfin.out.2).mono ?_
        rintro e w5 ⟨v5, rfl, ho5⟩
        have HO5 := Lib.hid ho5
        clear ho5
        go_wp2
        go_ret2
        exact .inr ⟨h1, _, rfl, HO5.out⟩
      · go_wp2
        go_ret2
        exact .inl ⟨by omega, _, rfl, hfin.out⟩

end Go.Proofs.Ytkhnlbkghjjdnaa
