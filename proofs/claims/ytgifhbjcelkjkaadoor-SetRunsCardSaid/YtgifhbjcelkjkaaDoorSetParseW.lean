/- What set.Parse answers, of a text of at most 8192 bytes: the set of which it is the text, or none; the library's variable MaxLen holds some int. -/
import Derived.Test.YtgifhbjcelkjkaaDoorSetReadRun
import Derived.Test.YtgifhbjcelkjkaaDoorSetShow
namespace Go.Proofs.YtgifhbjcelkjkaaDoor
open Go.RowKit Go.Shelf
attribute [local go_sem] alloc_drewN setCell_drewN

theorem splitK_length : ∀ (n : Nat) (s : List UInt8), s.length ≤ n → (Lib.splitK [44] 0 (Lib.count s [44]) s).length = Lib.count s [44] + 1 := by
  intro n
  induction n with
  | zero =>
    intro s hs
    have : s = [] := List.eq_nil_of_length_eq_zero (by omega)
    subst this
    rw [Lib.count_miss rfl]; rfl
  | succ n ih =>
    intro s hs
    rcases index_one 44 s with ⟨h1, h2⟩ | ⟨a, r, rfl, h2, h3⟩
    · rw [Lib.count_miss h1]; rfl
    · have e1 : (a ++ 44 :: r).drop (a.length + [(44 : UInt8)].length) = r := by
        rw [List.drop_append]; simp
      have e3 : (((a.length : Nat) : Int).toNat + [(44 : UInt8)].length) = a.length + [(44 : UInt8)].length := by simp
      rw [Lib.count_hit (by simp) h3, Nat.add_comm 1, Lib.splitK, if_neg (by rw [h3, len_ne]; simp), h3, List.length_cons, e3, e1, ih r (by simp at hs; omega)]
/-- what strings.Split gives at a comma -/
def pieces (s : ByteArray) : List ByteArray := Lib.splitB ⟨#[44]⟩ 0 (Lib.countB s ⟨#[44]⟩) s
theorem pieces_data (s : ByteArray) : (pieces s).map (·.data.toList) = splitC s.data.toList := by
  unfold pieces
  rw [Lib.splitB_data]
  exact splitK_splitC _ _ (Nat.le_refl _)
theorem pieces_length (s : ByteArray) : (pieces s).length = Lib.countB s ⟨#[44]⟩ + 1 := by
  have h := splitK_length _ s.data.toList (Nat.le_refl _)
  have e : (pieces s).length = ((pieces s).map (·.data.toList)).length := by simp
  rw [e, pieces_data, ← splitK_splitC _ _ (Nat.le_refl _)]
  exact h
theorem splitC_len : ∀ (l : List UInt8), ∀ x ∈ splitC l, x.length ≤ l.length
  | [], x, hx => by simp [splitC] at hx; subst hx; simp
  | c :: t, x, hx => by
    have ih := splitC_len t
    unfold splitC at hx
    split at hx
    · rcases List.mem_cons.1 hx with e | e
      · subst e; simp
      · have := ih x e; simp; omega
    · cases h : splitC t with
      | nil => exact absurd h (splitC_ne t)
      | cons r rs =>
        rw [h] at hx ih
        simp only at hx
        rcases List.mem_cons.1 hx with e | e
        · subst e; have := ih r (by simp); simp; omega
        · have := ih x (List.mem_cons_of_mem _ e); simp; omega

/-- the numbers from a up to below t -/
def upTo (a t : Nat) : List Int := (List.range' a (t - a)).map fun (n : Nat) => (n : Int)
theorem upTo_all (a b : Nat) : upTo a (b + 1) = rangeL a b := rfl
theorem upTo_nil (a : Nat) : upTo a a = [] := by unfold upTo; rw [Nat.sub_self]; rfl
theorem upTo_snoc {a t : Nat} (h : a ≤ t) : upTo a (t + 1) = upTo a t ++ [(t : Int)] := by
  unfold upTo
  have e : t + 1 - a = (t - a) + 1 := by omega
  rw [e, List.range'_concat, List.map_append]
  have e2 : a + 1 * (t - a) = t := by omega
  rw [e2]; rfl
theorem upTo_length (a t : Nat) : (upTo a t).length = t - a := by simp [upTo]

/-- where the outer loop stands -/
def ParseRel (s : ByteArray) (w : World) (v ls i : Value) (wr : World) : Prop :=
  ∃ (k least : Nat) (out : List Int), k ≤ (pieces s).length ∧ i = .int .i64 k ∧ ls = .int .i64 least ∧ least ≤ 257 ∧ out.length ≤ least ∧
    pruns (splitC s.data.toList) 0 = (pruns (((pieces s).drop k).map (·.data.toList)) least).map (out ++ ·) ∧
    wr.ownsRow (w.heap.size + 1) 3 1 v out.length (out.map (Value.int .i64)) ∧ Below (w.heap.size + 1) (w.alloc (.cells ((pieces s).map Value.string).toArray 9)) wr
/-- where the inner loop stands -/
def RunRel (out : List Int) (a b : Nat) (w : World) (W : World) (v t : Value) (wr : World) : Prop :=
  ∃ n : Nat, a ≤ n ∧ n ≤ b + 1 ∧ t = .int .i64 n ∧ wr.ownsRow (w.heap.size + 1) 3 1 v (out ++ upTo a n).length ((out ++ upTo a n).map (Value.int .i64)) ∧ Below (w.heap.size + 1) W wr

/-- 'the set of which it is the text, or none', kept from the walk -/
def ParsePost (k : Nat) (l : List Int) (er : Int) (w : World) (e : Ending) (w' : World) : Prop :=
  (∃ A c, l.length ≤ c ∧ e = .returned (.tuple #[.slice A l.length c, .int .i64 er]) ∧ RI w' w'.heap.size A l.length l) ∧ Below k w w'

theorem own_drewN {w : World} {B n : Nat} {e : TypeId} {v : Value} {xs : List Value} (h : w.ownsRow B e 1 v n xs) (q : Nat) : (w.drewN q).ownsRow B e 1 v n xs := h
theorem own_cap {w : World} {B n c : Nat} {e : TypeId} {A : Option Addr} {xs : List Value} (h : w.ownsRow B e 1 (.slice A n c) n xs) : n ≤ c := by
  rcases h.2 with ⟨hv, h0⟩ | ⟨g, cap, cur, hv, _, _, hcap, _⟩
  · omega
  · injection hv with _ _ h3
    omega
theorem parse_none {s : ByteArray} (hs : s.size ≤ 8192) (hne : s.data.toList ≠ []) (h : pruns (splitC s.data.toList) 0 = none) : parseL s.data.toList = ([], 3) := by
  unfold parseL
  rw [if_neg (by have : s.data.toList.length = s.size := rfl; omega), if_neg hne, h]
theorem parse_some {s : ByteArray} {l : List Int} (hs : s.size ≤ 8192) (hne : s.data.toList ≠ []) (h : pruns (splitC s.data.toList) 0 = some l) : parseL s.data.toList = (l, 0) := by
  unfold parseL
  rw [if_neg (by have : s.data.toList.length = s.size := rfl; omega), if_neg hne, h]

set_option maxHeartbeats 4000000 in
theorem parse_any (s : ByteArray) (m : Int) (w : World) (hs : s.size ≤ 8192) (hB : 1 < w.heap.size) (hm : w.cell? ⟨1, 0, none⟩ = some (.int .i64 m)) :
    Calls Tryd.prog 21 #[.string s] w (ParsePost w.heap.size (parseL s.data.toList).1 (parseL s.data.toList).2 w) := by
  by_cases he : s = ⟨#[]⟩
  · subst he
    go_enter Tryd.func21, Tryd.ntmps21
    go_wp2
    go_ret2
    exact ⟨⟨none, 0, Nat.le_refl _, rfl, RI.nil⟩, Below.refl _ _⟩
  · obtain ⟨hs1, hs2, hs3, hs4⟩ := ne_facts he
    have HNE : Hid (s.data.toList ≠ []) := Lib.hid (by rwa [ByteArray.toList_eq] at hs1)
    clear he
    have HM := Lib.hid hm
    clear hm
    obtain ⟨i0, hi, hz0, hz1, hz2⟩ := info_parts int_info
    go_enter Tryd.func21, Tryd.ntmps21
    go_wp2_with fail
    refine (Tryd.strings_Split s ⟨#[44]⟩ m _ (by omega) HM.out (by decide)).mono ?_
    rintro e w1 ⟨rfl, rfl⟩
    have hN : (pieces s).length ≤ 8194 := by
      rw [pieces_length]
      have h1 := Lib.count_le s.data.toList [44]
      have h2 : s.data.toList.length = s.size := rfl
      have h3 : Lib.countB s ⟨#[44]⟩ = Lib.count s.data.toList [44] := rfl
      omega
    rw [← pieces_length]
    rw [show Lib.splitB ⟨#[44]⟩ 0 (Lib.countB s ⟨#[44]⟩) s = pieces s from rfl]
    clear hs1 hs2 hs3 hs4
    go_wp2_with fail
    go_loopw [4, 5, 20] (fun v ls i wr => ParseRel s w v ls i wr) (fun _ _ i _ => (pieces s).length - (intOf i).toNat)
    case atStart => exact ⟨0, 0, [], Nat.zero_le _, rfl, rfl, by omega, by simp, by rw [List.drop_zero, pieces_data]; simp, World.ownsRow_nil _ _ _ _, Below.refl _ _⟩
    case round =>
      obtain ⟨k, least, out, hk, rfl, rfl, hl257, hol, hpr, hown, hb⟩ := hrel
      have hb0 : Below w.heap.size w wr := ((Below.refl w.heap.size w).alloc (Nat.le_refl _) _).trans (hb.mono (by omega))
      by_cases hlt : k < (pieces s).length
      · have hd : decide ((k : Int) < ((pieces s).length : Int)) = true := by simp; omega
        obtain ⟨p, hp⟩ : ∃ p, p = (pieces s)[k] := ⟨_, rfl⟩
        have hcell : wr.cell? ⟨w.heap.size, k, none⟩ = some (.string p) := by
          have h1 := hb.cell (p := ⟨w.heap.size, k, none⟩) (by show w.heap.size < w.heap.size + 1; omega)
          rw [h1, World.cell?_alloc_at _ _ _ _ rfl, hp]
          simp [hlt]
        have hpm : p.data.toList ∈ splitC s.data.toList := by
          rw [← pieces_data, hp]
          exact List.mem_map_of_mem (List.getElem_mem hlt)
        have hpsz : p.size ≤ 8192 := by
          have := splitC_len _ _ hpm
          have e1 : p.data.toList.length = p.size := rfl
          have e2 : s.data.toList.length = s.size := rfl
          omega
        have hdrop : ((pieces s).drop k).map (·.data.toList) = p.data.toList :: ((pieces s).drop (k + 1)).map (·.data.toList) := by
          rw [List.drop_eq_getElem_cons hlt, hp]; rfl
        rw [hdrop, pruns] at hpr
        have HPR := Lib.hid hpr
        clear hpr hdrop hpm hp
        have hmr : wr.cell? ⟨1, 0, none⟩ = some (.int .i64 m) := (hb0.cell (p := ⟨1, 0, none⟩) hB).trans HM.out
        have HMR := Lib.hid hmr
        clear hmr
        go_wp2_with fail
        refine (readRun_any p m _ hpsz HMR.out).mono ?_
        rintro e w2 ⟨⟨I, J, ok, hrun, rfl⟩, q, rfl⟩
        unfold RunIs at hrun
        clear hcell
        cases hrr : rrun p.data.toList with
        | none =>
          rw [hrr] at hrun
          simp only at hrun
          subst hrun
          have HN : Hid (parseL s.data.toList = ([], 3)) := Lib.hid (parse_none hs HNE.out (by have := HPR.out; rw [hrr] at this; simpa using this))
          clear hrr
          go_wp2
          go_ret2
          rw [HN.out]
          exact ⟨⟨none, 0, Nat.le_refl _, rfl, RI.nil⟩, below_drewN hb0 q⟩
        | some ab =>
          obtain ⟨a, b⟩ := ab
          rw [hrr] at hrun
          simp only at hrun
          obtain ⟨rfl, rfl, rfl⟩ := hrun
          obtain ⟨hab, hb256, -⟩ := rrun_some hrr
          by_cases hal : a < least
          · have HN : Hid (parseL s.data.toList = ([], 3)) := Lib.hid (parse_none hs HNE.out (by have := HPR.out; rw [hrr] at this; simpa [hal] using this))
            have hd2 : decide ((a : Int) < (least : Int)) = true := by simp; omega
            clear hrr
            go_wp2
            go_ret2
            rw [HN.out]
            exact ⟨⟨none, 0, Nat.le_refl _, rfl, RI.nil⟩, below_drewN hb0 q⟩
          · have hd2 : decide ((a : Int) < (least : Int)) = false := by simp; omega
            have HPR2 : Hid (pruns (splitC s.data.toList) 0 = (pruns (((pieces s).drop (k + 1)).map (·.data.toList)) (b + 2)).map ((out ++ rangeL a b) ++ ·)) := Lib.hid (by
              have := HPR.out
              rw [hrr] at this
              simp only at this
              rw [if_neg hal] at this
              rw [this, Option.map_map]
              congr 1
              funext l
              simp)
            have hownq := own_drewN hown q
            have hszq : w.heap.size + 1 ≤ (wr.drewN q).heap.size := by
              have h1 := hb.size
              simp at h1
              show w.heap.size + 1 ≤ wr.heap.size
              omega
            clear hrr hown
            go_wp2_with fail
            go_loopw [4, 11] (fun v t wr' => RunRel out a b w (wr.drewN q) v t wr') (fun _ t _ => b + 1 - (intOf t).toNat)
            case atStart => exact ⟨a, Nat.le_refl _, by omega, rfl, by rw [upTo_nil, List.append_nil]; exact hownq, Below.refl _ _⟩
            case round =>
              obtain ⟨n, han, hnb, rfl, hownn, hbn⟩ := hrel
              have hlen := upTo_length a n
              have hlen2 : (out ++ upTo a n).length ≤ 600 := by rw [List.length_append]; omega
              clear hlen
              by_cases hnb2 : n ≤ b
              · have hd3 : decide ((n : Int) ≤ (b : Int)) = true := by simp; omega
                have HU := Lib.hid (upTo_snoc han)
                generalize hL : out ++ upTo a n = L at *
                have HL := Lib.hid hL
                clear hL
                have hbase : w.heap.size + 1 ≤ wr.heap.size := Nat.le_trans hszq hbn.size
                go_wp2_with (at_builtin; refine wpList_append_own _ rfl (.tmp 43) (.tmp 45) 22 rfl (w.heap.size + 1) 3 i0 (.int .i64 0) 1 8 Tryd.underlying22 hi hz0 hz1 hz2 rfl (by decide) _ _ _ rfl (hownn.alloc _) ⟨wr.heap.size, 0, none⟩ 1 1 [.int .i64 (n : Int)] rfl rfl (by intro j u hj; match j, hj with | 0, hj => simp at hj; subst hj; exact cell_new _ _ _) (by intro u hu; simp at hu; subst hu; rfl) (by unfold maxLen; omega) (by omega) (Nat.le_trans hbase (by simp)) ?_; intro v2 w3 hown2 hg2 _; refine Hid.out ?_)
                refine Lib.hid ?_
                have R : Hid (RunRel out a b w _ v2 (.int .i64 ((n : Int) + 1)) w3) := Lib.hid ⟨n + 1, by omega, by omega, by go_num, by
                  rw [HU.out, ← List.append_assoc, HL.out, List.length_append, List.map_append]
                  exact hown2, (hbn.alloc hbase _).grown hg2 (Nat.le_trans hbase (by simp)) (fun j hj => (hownn.lt j hj).1)⟩
                clear hown2 hg2 HU
                go_wp2
                go_roundw
                case rel => exact R.out
                case measure => simp [intOf]; omega
              · have hd3 : decide ((n : Int) ≤ (b : Int)) = false := by simp; omega
                have hnb3 : n = b + 1 := by omega
                subst hnb3
                rw [upTo_all] at hownn hlen2
                have HO := Lib.hid hownn
                have HLL : Hid ((out ++ rangeL a b).length ≤ b + 2) := Lib.hid (by
                  rw [List.length_append, ← upTo_all, upTo_length]; omega)
                clear hownn hlen2
                go_wp2
                go_roundw
                case rel => exact ⟨k + 1, b + 2, out ++ rangeL a b, by omega, by go_num, by go_num, by omega, HLL.out, HPR2.out, HO.out, (below_drewN hb q).trans hbn⟩
                case measure => simp [intOf]; omega
      · have hkl : k = (pieces s).length := by omega
        have HP : Hid (parseL s.data.toList = (out, 0)) := Lib.hid (parse_some hs HNE.out (by rw [hpr, hkl, List.drop_length]; simp [pruns]))
        have hd : decide ((k : Int) < ((pieces s).length : Int)) = false := by simp; omega
        have HO := Lib.hid hown
        obtain ⟨A, c, rfl⟩ := own_form hown
        clear hpr hown hkl
        go_wp2
        go_ret2
        rw [HP.out]
        exact ⟨⟨A, c, own_cap HO.out, rfl, RI.of_own HO.out⟩, hb0⟩

end Go.Proofs.YtgifhbjcelkjkaaDoor
