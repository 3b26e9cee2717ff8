/- The reference's Ends of layer 10: again and again the least that is later. -/
import Derived.Test.YtbiofikijehlcaaZHeldRefI
import Derived.Test.YtbiofikijehlcaaMg11
namespace Go.Proofs.Ytbiofikijehlcaa
open Go.RowKit

def laterZ (l : Tb) (z : Int) : List Int := ((l.map Hd.to).filter fun t => decide (z < t)).foldr insZ []
theorem mem_laterZ {l : Tb} {z t : Int} : t ∈ laterZ l z ↔ z < t ∧ ∃ x ∈ l, x.to = t := by
  unfold laterZ
  rw [mem_foldZ, List.mem_filter, List.mem_map, decide_eq_true_eq]
  exact ⟨fun h => ⟨h.2, h.1⟩, fun h => ⟨h.2, h.1⟩⟩
theorem insZ_len (x : Int) : ∀ l : List Int, (insZ x l).length ≤ l.length + 1
  | [] => by simp [insZ]
  | y :: r => by
    unfold insZ
    have := insZ_len x r
    split
    · simp
    · split <;> simp
      omega
theorem foldZ_len : ∀ l : List Int, (l.foldr insZ []).length ≤ l.length
  | [] => by simp
  | x :: r => by
    have h1 := insZ_len x (r.foldr insZ [])
    have h2 := foldZ_len r
    simp only [List.foldr_cons, List.length_cons]
    omega
theorem laterZ_len (l : Tb) (z : Int) : (laterZ l z).length ≤ l.length := by
  have h1 := foldZ_len ((l.map Hd.to).filter fun t => decide (z < t))
  have h2 := List.length_filter_le (fun t : Int => decide (z < t)) (l.map Hd.to)
  rw [List.length_map] at h2
  unfold laterZ
  omega
/-- the least that is later, of the first k -/
def LeastZ (l : Tb) (z : Int) (k : Nat) (b : Int) : Prop :=
  (b = -1 ∧ ∀ j, j < k → (l.getD j hd0).to ≤ z) ∨ (0 ≤ b ∧ z < b ∧ (∃ j, j < k ∧ (l.getD j hd0).to = b) ∧ ∀ j, j < k → z < (l.getD j hd0).to → b ≤ (l.getD j hd0).to)
section
variable {l : Tb} {z b : Int} {k : Nat} {x : Hd}
theorem least_zero : LeastZ l z 0 (-1) := .inl ⟨rfl, fun j hj => absurd hj (by omega)⟩
theorem least_no (h : LeastZ l z k b) (hx : l.getD k hd0 = x) (hz : ¬ z < x.to) : LeastZ l z (k + 1) b := by
  rcases h with ⟨h1, h2⟩ | ⟨h1, h2, ⟨j, hj, h3⟩, h4⟩
  · refine .inl ⟨h1, fun j hj => ?_⟩
    by_cases e : j = k
    · subst e; rw [hx]; omega
    · exact h2 j (by omega)
  · refine .inr ⟨h1, h2, ⟨j, by omega, h3⟩, fun i hi hzi => ?_⟩
    by_cases e : i = k
    · subst e; rw [hx] at hzi; exact absurd hzi hz
    · exact h4 i (by omega) hzi
theorem least_new (h : LeastZ l z k b) (hx : l.getD k hd0 = x) (hz : z < x.to) (hb : b < 0 ∨ x.to < b) (hp : 0 ≤ x.to) : LeastZ l z (k + 1) x.to := by
  refine .inr ⟨hp, hz, ⟨k, by omega, by rw [hx]⟩, fun i hi hzi => ?_⟩
  by_cases e : i = k
  · subst e; rw [hx]; exact Int.le_refl _
  · rcases h with ⟨h1, h2⟩ | ⟨h1, h2, h3, h4⟩
    · have := h2 i (by omega); omega
    · have := h4 i (by omega) hzi; omega
theorem least_old (h : LeastZ l z k b) (hx : l.getD k hd0 = x) (hb : ¬ b < 0) (hb2 : ¬ x.to < b) : LeastZ l z (k + 1) b := by
  rcases h with ⟨h1, h2⟩ | ⟨h1, h2, ⟨j, hj, h3⟩, h4⟩
  · omega
  · refine .inr ⟨h1, h2, ⟨j, by omega, h3⟩, fun i hi hzi => ?_⟩
    by_cases e : i = k
    · subst e; rw [hx]; omega
    · exact h4 i (by omega) hzi
theorem getD_mem_hd {l : Tb} {j : Nat} (hj : j < l.length) : l.getD j hd0 ∈ l := by
  rw [List.getD, List.getElem?_eq_getElem hj]; exact List.getElem_mem hj
theorem least_none (h : LeastZ l z l.length b) (hb : b < 0) : laterZ l z = [] := by
  rcases h with ⟨_, h2⟩ | ⟨h1, _⟩
  · refine List.eq_nil_iff_forall_not_mem.2 fun t ht => ?_
    obtain ⟨h3, y, hy, rfl⟩ := mem_laterZ.1 ht
    obtain ⟨j, hj, rfl⟩ := List.getElem_of_mem hy
    have := h2 j hj
    rw [List.getD, List.getElem?_eq_getElem hj] at this
    simp at this
    omega
  · omega
theorem least_some (h : LeastZ l z l.length b) (hb : ¬ b < 0) : laterZ l z = b :: laterZ l b := by
  rcases h with ⟨h1, _⟩ | ⟨h1, h2, ⟨j, hj, h3⟩, h4⟩
  · omega
  · refine rise_ext (rising_foldZ _) (List.pairwise_cons.2 ⟨fun t ht => (mem_laterZ.1 ht).1, rising_foldZ _⟩) fun t => ?_
    show t ∈ laterZ l z ↔ t ∈ b :: laterZ l b
    rw [List.mem_cons, mem_laterZ, mem_laterZ]
    constructor
    · rintro ⟨h5, y, hy, rfl⟩
      obtain ⟨i, hi, rfl⟩ := List.getElem_of_mem hy
      have h6 := h4 i hi
      rw [List.getD, List.getElem?_eq_getElem hi] at h6
      simp at h6
      have h7 := h6 h5
      by_cases e : l[i].to = b
      · exact .inl e
      · exact .inr ⟨by omega, _, hy, rfl⟩
    · rintro (rfl | ⟨h5, h6⟩)
      · exact ⟨h2, _, getD_mem_hd hj, h3⟩
      · exact ⟨by omega, h6⟩
end

set_option maxRecDepth 100000 in
set_option maxHeartbeats 8000000 in
theorem refEnds_yes (A : Option Addr) (n c : Nat) (l : Tb) (z : Int) (w : World) (hl : TAsk w A n c l) (hrt : rightT l = true) :
    Calls Try.prog 17 #[.slice A n c, .int .i64 z] w (NumsPost (endsT l z) w) := by
  obtain ⟨i0, hi0, hz0, hz1, hz2⟩ := info_parts int64_info
  have HT := Lib.hid hl
  have R1 := Lib.hid hrt
  have HL := Lib.hid hl.reads.len
  have hn256 : n ≤ 256 := by rw [← hl.reads.len]; exact (rightT_is.1 hrt).few
  have HPOS : Hid (∀ j, j < l.length → 0 ≤ (l.getD j hd0).to) := Lib.hid (fun j hj => by
    have := (rightT_is.1 hrt).may _ (getD_mem_hd hj)
    unfold MayH at this
    omega)
  obtain ⟨r, hr⟩ : ∃ r, endsT l z = r := ⟨_, rfl⟩
  have HE : Hid (laterZ l z = r) := Lib.hid (by rw [← hr]; unfold endsT laterZ; rw [if_pos hrt])
  have HRL : Hid (r.length ≤ 256) := Lib.hid (by rw [← HE.out]; have := laterZ_len l z; rw [HL.out] at this; omega)
  rw [hr]
  clear hl hrt hr
  go_enter Try.func17, Try.ntmps17
  go_wp2_with fail
  refine (refRightT_b HT.out.reads HT.out.few R1.out).mono ?_
  rintro e w1 ⟨rfl, hb1⟩
  have HB1 := Lib.hid hb1
  have HT1 := Lib.hid (HT.out.next hb1)
  clear hb1
  go_wp2
  go_loopg [1, 5] (r.length) (fun g zv ov wr => ∃ (zz : Int) (done : List Int) (v0 : Value), zv = .int .i64 zz ∧ v0 = ov ∧ g = (laterZ l zz).length ∧ done ++ laterZ l zz = r ∧ ON EI 1 2 w1 v0 done wr)
  case atStart => exact ⟨z, [], _, rfl, rfl, by rw [HE.out], HE.out, ON.nil _⟩
  case round =>
    obtain ⟨zz, done, v0, rfl, rfl, rfl, hd, hrel⟩ := hrel
    have HD := Lib.hid hd
    have HK := Lib.hid hrel
    clear hd hrel
    go_wp2
    go_loopg [6, 7] n (fun g bv kv wi => ∃ (k : Nat) (b : Int), k ≤ n ∧ g = n - k ∧ bv = .int .i64 b ∧ kv = .int .i64 k ∧ LeastZ l zz k b ∧ ON EI 1 2 w1 v0 done wi)
    case atStart => exact ⟨0, -1, Nat.zero_le _, rfl, rfl, rfl, least_zero, HK.out⟩
    case round =>
      clear HK
      obtain ⟨k, b, hk, rfl, rfl, rfl, hle, hrel⟩ := hrel
      have HK := Lib.hid hrel
      have HLE := Lib.hid hle
      clear hrel hle
      by_cases hlt : k < n
      · have hkl : k < l.length := by rw [HL.out]; exact hlt
        obtain ⟨bb, off, A2, m2, c2, rfl, hbl, c0, c1', c2', c3', hx⟩ := RT.one (HT1.out.reads.next HK.out.below) hlt
        have hp := HPOS.out k hkl
        obtain ⟨x, hxx⟩ : ∃ x, l.getD k hd0 = x := ⟨_, rfl⟩
        rw [hxx] at c0 c2' c3' hp
        have HXX := Lib.hid hxx
        clear hxx hx hbl hkl
        by_cases hz : zz < x.to
        · have d0 : decide (zz < x.to) = true := decide_eq_true hz
          by_cases hb : b < 0
          · have d1 : decide (b < 0) = true := decide_eq_true hb
            have HN := Lib.hid (least_new HLE.out HXX.out hz (.inl hb) hp)
            clear hb hz hp
            go_wp2
            go_roundg (n - (k + 1))
            case measure => omega
            case rel => exact ⟨k + 1, x.to, by omega, rfl, rfl, by go_num, HN.out, HK.out⟩
          · have d1 : decide (b < 0) = false := decide_eq_false hb
            by_cases hb2 : x.to < b
            · have d2 : decide (x.to < b) = true := decide_eq_true hb2
              have HN := Lib.hid (least_new HLE.out HXX.out hz (.inr hb2) hp)
              clear hb hb2 hz hp
              go_wp2
              go_roundg (n - (k + 1))
              case measure => omega
              case rel => exact ⟨k + 1, x.to, by omega, rfl, rfl, by go_num, HN.out, HK.out⟩
            · have d2 : decide (x.to < b) = false := decide_eq_false hb2
              have HN := Lib.hid (least_old HLE.out HXX.out hb hb2)
              clear hb hb2 hz hp
              go_wp2
              go_roundg (n - (k + 1))
              case measure => omega
              case rel => exact ⟨k + 1, b, by omega, rfl, rfl, by go_num, HN.out, HK.out⟩
        · have d0 : decide (zz < x.to) = false := decide_eq_false hz
          have HN := Lib.hid (least_no HLE.out HXX.out hz)
          clear hz hp
          go_wp2
          go_roundg (n - (k + 1))
          case measure => omega
          case rel => exact ⟨k + 1, b, by omega, rfl, rfl, by go_num, HN.out, HK.out⟩
      · obtain rfl : k = n := by omega
        have hkl := HL.out
        subst hkl
        by_cases hb : b < 0
        · have d1 : decide (b < 0) = true := decide_eq_true hb
          have hr : done = r := by rw [← HD.out, least_none HLE.out hb, List.append_nil]
          subst hr
          clear hb
          obtain ⟨A1, c1, rfl, hnil1, hc1⟩ := HK.out.form
          have HR : Hid (NumsPost done w (.returned (.slice A1 done.length c1)) wr) := Lib.hid ⟨⟨A1, c1, rfl, RN.ri (HK.out.reads ei_steady (by omega) rfl)⟩, HB1.out.trans (HK.out.below.mono HB1.out.size)⟩
          go_wp2
          go_ret
          exact HR.out
        · have d1 : decide (b < 0) = false := decide_eq_false hb
          have hs := least_some HLE.out hb
          have HS := Lib.hid hs
          have HLA : Hid (done.length ≤ 1000) := Lib.hid (by have := HRL.out; rw [← HD.out, List.length_append] at this; omega)
          clear hb hs
          go_wp2_with (at_builtin; refine append_EI rfl (.tmp 45) (.tmp 47) 32 2 rfl HK.out i0 Try.underlying32 hi0 hz0 hz1 hz2 rfl _ rfl HLA.out ?_; intro v' w4 hON4; refine Hid.out ?_)
          refine Lib.hid ?_
          have HO4 := Lib.hid hON4
          clear hON4
          go_wp2
          go_roundg ((laterZ l b).length)
          case measure => rw [HS.out]; simp
          case rel => exact ⟨b, done ++ [b], _, rfl, rfl, rfl, by rw [← HD.out, HS.out, List.append_assoc]; rfl, HO4.out⟩

theorem refEnds_any (A : Option Addr) (n c : Nat) (l : Tb) (z : Int) (w : World) (hl : TAsk w A n c l) :
    Calls Try.prog 17 #[.slice A n c, .int .i64 z] w (NumsPost (endsT l z) w) := by
  cases h1 : rightT l with
  | true => exact refEnds_yes A n c l z w hl h1
  | false =>
    have e : endsT l z = [] := by unfold endsT; rw [h1, if_neg (by simp)]
    rw [e]
    have R1 := Lib.hid h1
    have HT := Lib.hid hl
    clear h1 hl e
    go_enter Try.func17, Try.ntmps17
    go_wp2_with fail
    refine (refRightT_b HT.out.reads HT.out.few R1.out).mono ?_
    rintro e w1 ⟨rfl, hb⟩
    have HB := Lib.hid hb
    clear hb
    go_wp2
    go_ret
    exact ⟨⟨none, 0, rfl, RI.nil⟩, HB.out⟩

section
variable {A : Option Addr} {n c : Nat} {l : Tb} {w : World}
theorem refOver_b (hl : TAsk w A n c l) {z : Int} {a b : Tb} (e1 : restT l z = a) (e2 : goneT l z = b) : Calls Try.prog 10 #[.slice A n c, .int .i64 z] w (TTPost a b w) := by
  subst e1 e2; exact refOver_any A n c l z w hl
theorem refBusy_b (hl : TAsk w A n c l) {a b : Int} {r : List Int} (e : busyT l a b = r) : Calls Try.prog 13 #[.slice A n c, .int .i64 a, .int .i64 b] w (NumsPost r w) := by
  subst e; exact refBusy_any A n c l a b w hl
theorem refEnds_b (hl : TAsk w A n c l) {z : Int} {r : List Int} (e : endsT l z = r) : Calls Try.prog 17 #[.slice A n c, .int .i64 z] w (NumsPost r w) := by
  subst e; exact refEnds_any A n c l z w hl
end

end Go.Proofs.Ytbiofikijehlcaa
