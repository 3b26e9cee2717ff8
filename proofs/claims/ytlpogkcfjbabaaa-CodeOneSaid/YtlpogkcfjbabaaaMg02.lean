/- Specs, sets and lists as bytes, in plain words: put, and read. No program's text is walked here. Sets and lists as bytes, in plain words: what was put is read as it was, what is read was put so. No program's text is walked here. Lists of parts as bytes; what the calls of layer 8 answer; what the statements ask of it. No program's text is walked here. Words for memory, for any kind of element: a slice whose elements take C cells each and read as things; an owned row of them that grows. General: nothing of the program stands here. -/
import Derived.Test.YtlpogkcfjbabaaaMg01
import Derived.Deep.AppendLies
namespace Go.Proofs.Ytlpogkcfjbabaaa

/-! a spec -/
def signN (p : Int) : Nat := if p < 0 then (-2 * p - 1).toNat else (2 * p).toNat
def unsignN (n : Nat) : Int := if n % 2 = 1 then -1 - (n / 2 : Nat) else (n / 2 : Nat)
def specB (s : Sp) : Bs := 1 :: (numB s.nodes.toNat ++ (numB s.cores.toNat ++ (numB s.gpus.toNat ++ (numB s.tag.size ++ (s.tag.data.toList ++ ((if s.whole = true then 1 else 0) :: (numB s.long.toNat ++ numB (signN s.prio))))))))
def specR : Rd Sp := bindR byteR fun c => bindR (chkR (c = 1)) fun _ => bindR numR fun a => bindR numR fun b => bindR numR fun g => bindR numR fun n => bindR (chkR (n ≤ 16)) fun _ => bindR (takeR n) fun tg =>
  bindR byteR fun o => bindR (chkR (o.toNat ≤ 1)) fun _ => bindR numR fun l => bindR numR fun p => bindR (chkR (rightS ⟨a, b, g, ⟨tg.toArray⟩, o == 1, l, unsignN p⟩ = true)) fun _ => retR ⟨a, b, g, ⟨tg.toArray⟩, o == 1, l, unsignN p⟩
theorem sign_back {p : Int} (h : -1000 ≤ p ∧ p ≤ 1000) : unsignN (signN p) = p ∧ signN p ≤ 2000 := by unfold unsignN signN; repeat' split; all_goals omega
theorem sign_put (n : Nat) : signN (unsignN n) = n := by
  unfold unsignN
  by_cases h : n % 2 = 1
  · rw [if_pos h]; unfold signN; split <;> omega
  · rw [if_neg h]; unfold signN; split <;> omega
theorem clean_spec : Clean specR := by
  unfold specR
  exact clean_bind clean_byte fun _ => clean_bind (clean_chk _) fun _ => clean_bind clean_num fun _ => clean_bind clean_num fun _ => clean_bind clean_num fun _ => clean_bind clean_num fun _ => clean_bind (clean_chk _) fun _ => clean_bind (clean_take _) fun _ => clean_bind clean_byte fun _ => clean_bind (clean_chk _) fun _ => clean_bind clean_num fun _ => clean_bind clean_num fun _ => clean_bind (clean_chk _) fun _ => clean_ret _
theorem chk_ok {c : Prop} [Decidable c] {b : Bs} (h : c) : chkR c b = .ok ((), b) := by unfold chkR; rw [if_pos h]
theorem chk_is {c : Prop} [Decidable c] {b t : Bs} {x : Unit} (h : chkR c b = .ok (x, t)) : c ∧ b = t := by
  unfold chkR at h
  by_cases hc : c
  · rw [if_pos hc] at h; injection h with h; injection h with _ h2; exact ⟨hc, h2⟩
  · rw [if_neg hc] at h; cases h
theorem byte_is {b t : Bs} {c : UInt8} (h : byteR b = .ok (c, t)) : b = c :: t := by
  cases b with
  | nil => cases h
  | cons d s => unfold byteR at h; injection h with h; injection h with h1 h2; rw [h1, h2]
theorem take_is {b t u : Bs} {n : Nat} (h : takeR n b = .ok (u, t)) : b = u ++ t ∧ u.length = n := by
  unfold takeR at h
  by_cases hn : b.length < n
  · rw [if_pos hn] at h; cases h
  · rw [if_neg hn] at h
    injection h with h; injection h with h1 h2
    subst h1 h2
    exact ⟨(List.take_append_drop n b).symm, by rw [List.length_take]; omega⟩
theorem take_put (u t : Bs) : takeR u.length (u ++ t) = .ok (u, t) := by
  unfold takeR
  rw [if_neg (by rw [List.length_append]; omega), List.take_append_of_le_length (Nat.le_refl _), List.take_of_length_le (Nat.le_refl _), List.drop_append_of_le_length (Nat.le_refl _), List.drop_of_length_le (Nat.le_refl _), List.nil_append]
/-- what is read was put in just these bytes -/
theorem spec_put {b t : Bs} {s : Sp} (h : specR b = .ok (s, t)) : rightS s = true ∧ b = specB s ++ t := by
  unfold specR at h
  obtain ⟨c, t1, h1, h⟩ := bindR_ok h
  obtain ⟨_, t2, h2, h⟩ := bindR_ok h
  obtain ⟨a1, t3, h3, h⟩ := bindR_ok h
  obtain ⟨a2, t4, h4, h⟩ := bindR_ok h
  obtain ⟨a3, t5, h5, h⟩ := bindR_ok h
  obtain ⟨n, t6, h6, h⟩ := bindR_ok h
  obtain ⟨_, t7, h7, h⟩ := bindR_ok h
  obtain ⟨tg, t8, h8, h⟩ := bindR_ok h
  obtain ⟨o, t9, h9, h⟩ := bindR_ok h
  obtain ⟨_, t10, h10, h⟩ := bindR_ok h
  obtain ⟨l, t11, h11, h⟩ := bindR_ok h
  obtain ⟨p, t12, h12, h⟩ := bindR_ok h
  obtain ⟨_, t13, h13, h⟩ := bindR_ok h
  have e1 := byte_is h1
  obtain ⟨c2, e2⟩ := chk_is h2
  have e3 := (num_back h3).1
  have e4 := (num_back h4).1
  have e5 := (num_back h5).1
  have e6 := (num_back h6).1
  obtain ⟨_, e7⟩ := chk_is h7
  obtain ⟨e8, k8⟩ := take_is h8
  have e9 := byte_is h9
  obtain ⟨c10, e10⟩ := chk_is h10
  have e11 := (num_back h11).1
  have e12 := (num_back h12).1
  obtain ⟨c13, e13⟩ := chk_is h13
  unfold retR at h
  injection h with h; injection h with hs ht
  subst hs ht
  refine ⟨c13, ?_⟩
  have ho : (if (o == 1) = true then (1 : UInt8) else 0) = o := by
    by_cases h1 : o = 1
    · subst h1; rfl
    · have : o = 0 := by
        have h2 : o.toNat = 0 := by
          have : o.toNat ≠ 1 := fun e => h1 (by rw [← toNat_ofNat8 o, e]; rfl)
          omega
        rw [← toNat_ofNat8 o, h2]; rfl
      subst this; rfl
  have hsz : (⟨tg.toArray⟩ : ByteArray).size = n := by show tg.toArray.size = n; simp [k8]
  unfold specB
  dsimp only
  rw [Int.toNat_natCast, Int.toNat_natCast, Int.toNat_natCast, Int.toNat_natCast, hsz, sign_put, ho, e1, c2, e2, e3, e4, e5, e6, e7, e8, e9, e10, e11, e12, e13]
  simp
/-- what was put is read as it was -/
theorem spec_read {s : Sp} (h : rightS s = true) (t : Bs) : specR (specB s ++ t) = .ok (s, t) := by
  obtain ⟨h0, h1, h2, h3, h4, h5, h6⟩ := rightS_is h
  have hts : s.tag.size ≤ 16 := by unfold tagB at h0; rw [Bool.and_eq_true, decide_eq_true_eq] at h0; exact h0.2
  have htl : s.tag.data.toList.length = s.tag.size := by rw [Array.length_toList]; rfl
  obtain ⟨sb1, sb2⟩ := sign_back h6
  have e1 : ((s.nodes.toNat : Nat) : Int) = s.nodes := by omega
  have e2 : ((s.cores.toNat : Nat) : Int) = s.cores := by omega
  have e3 : ((s.gpus.toNat : Nat) : Int) = s.gpus := by omega
  have e4 : ((s.long.toNat : Nat) : Int) = s.long := by omega
  have e5 : (⟨s.tag.data.toList.toArray⟩ : ByteArray) = s.tag := by simp
  have e6 : ((if s.whole = true then (1 : UInt8) else 0) == 1) = s.whole := by cases s.whole <;> rfl
  have e7 : (if s.whole = true then (1 : UInt8) else 0).toNat ≤ 1 := by cases s.whole <;> decide
  have es : (⟨(s.nodes.toNat : Nat), (s.cores.toNat : Nat), (s.gpus.toNat : Nat), ⟨s.tag.data.toList.toArray⟩, (if s.whole = true then (1 : UInt8) else 0) == 1, (s.long.toNat : Nat), unsignN (signN s.prio)⟩ : Sp) = s := by
    rw [e1, e2, e3, e4, e5, e6, sb1]
  unfold specR specB
  simp only [List.append_assoc, List.cons_append]
  rw [bindR_at (x := 1) (t := _) rfl, bindR_at (chk_ok rfl), bindR_at (num_put (by omega) _), bindR_at (num_put (by omega) _), bindR_at (num_put (by omega) _), bindR_at (num_put (by omega) _), bindR_at (chk_ok hts), ← htl, bindR_at (take_put _ _), bindR_at (x := (if s.whole = true then (1 : UInt8) else 0)) (t := _) rfl, bindR_at (chk_ok e7), bindR_at (num_put (by omega) _), bindR_at (num_put (by omega) _), es, bindR_at (chk_ok h)]
  rfl
theorem specB_len {s : Sp} (h : rightS s = true) : (specB s).length ≤ 100 := by
  obtain ⟨h0, h1, h2, h3, h4, h5, h6⟩ := rightS_is h
  have hts : s.tag.size ≤ 16 := by unfold tagB at h0; rw [Bool.and_eq_true, decide_eq_true_eq] at h0; exact h0.2
  have htl : s.tag.data.toList.length = s.tag.size := by rw [Array.length_toList]; rfl
  have k1 := numB_len (n := s.nodes.toNat) (by omega)
  have k2 := numB_len (n := s.cores.toNat) (by omega)
  have k3 := numB_len (n := s.gpus.toNat) (by omega)
  have k4 := numB_len (n := s.tag.size) (by omega)
  have k5 := numB_len (n := s.long.toNat) (by omega)
  have k6 := numB_len (n := signN s.prio) (by have := (sign_back h6).2; omega)
  unfold specB
  simp only [List.length_cons, List.length_append]
  omega

/-! a set: its runs, each by its first number and how many follow -/
def runsL : List Int → List (Nat × Nat)
  | [] => []
  | x :: t => match runsL t with
    | [] => [(x.toNat, 0)]
    | (f, m) :: r => if f = x.toNat + 1 then (x.toNat, m + 1) :: r else (x.toNat, 0) :: (f, m) :: r
/-- the runs' bytes, behind number 'last' -/
def runsB (last : Nat) : List (Nat × Nat) → Bs
  | [] => []
  | (f, m) :: r => numB (f - last) ++ (numB m ++ runsB (f + m) r)
def setB (l : List Int) : Bs := 2 :: (numB (runsL l).length ++ runsB 0 (runsL l))
/-- all numbers of a run -/
def runN (f m : Nat) : List Int := (List.range (m + 1)).map fun k => ((f + k : Nat) : Int)
def runsR : Nat → Bool → Nat → Rd (List Int)
  | 0, _, _ => retR []
  | k + 1, first, last => bindR numR fun far => bindR numR fun more => bindR (chkR (far ≤ 255 ∧ more ≤ 255 ∧ last + far + more ≤ 255 ∧ (first = true ∨ 2 ≤ far))) fun _ =>
      bindR (runsR k false (last + far + more)) fun r => retR (runN (last + far) more ++ r)
def setR : Rd (List Int) := bindR byteR fun c => bindR (chkR (c = 2)) fun _ => bindR numR fun n => bindR (chkR (n ≤ 256)) fun _ => runsR n true 0
theorem clean_runs : ∀ (k : Nat) (first : Bool) (last : Nat), Clean (runsR k first last) := by
  intro k
  induction k with
  | zero => intro _ _; exact clean_ret _
  | succ k ih => intro first last; exact clean_bind clean_num fun _ => clean_bind clean_num fun _ => clean_bind (clean_chk _) fun _ => clean_bind (ih _ _) fun _ => clean_ret _
theorem clean_set : Clean setR := clean_bind clean_byte fun _ => clean_bind (clean_chk _) fun _ => clean_bind clean_num fun _ => clean_bind (clean_chk _) fun _ => clean_runs _ _ _

end Go.Proofs.Ytlpogkcfjbabaaa

namespace Go.Proofs.Ytlpogkcfjbabaaa

def flatR (rs : List (Nat × Nat)) : List Int := rs.flatMap fun r => runN r.1 r.2
theorem runN_zero (f : Nat) : runN f 0 = [(f : Int)] := rfl
theorem runN_succ (f m : Nat) : runN f (m + 1) = (f : Int) :: runN (f + 1) m := by
  unfold runN
  rw [List.range_succ_eq_map, List.map_cons, List.map_map]
  congr 1
  apply List.map_congr_left
  intro k _
  show ((f + (k + 1) : Nat) : Int) = ((f + 1 + k : Nat) : Int)
  omega
theorem flatR_cons (f m : Nat) (r : List (Nat × Nat)) : flatR ((f, m) :: r) = runN f m ++ flatR r := rfl
theorem runs_flat : ∀ (l : List Int), (∀ x ∈ l, 0 ≤ x) → flatR (runsL l) = l := by
  intro l
  induction l with
  | nil => intro _; rfl
  | cons x t ih =>
    intro h
    have ht := ih fun y hy => h y (by simp [hy])
    have hx := h x (by simp)
    unfold runsL
    cases hr : runsL t with
    | nil =>
      rw [hr] at ht
      rw [← ht]
      show [((x.toNat : Nat) : Int)] ++ [] = [x]
      rw [show ((x.toNat : Nat) : Int) = x by omega]; rfl
    | cons fm r =>
      obtain ⟨f, m⟩ := fm
      rw [hr, flatR_cons] at ht
      dsimp only
      split
      · rename_i hf
        rw [flatR_cons, runN_succ, ← hf, List.cons_append, ht, show ((x.toNat : Nat) : Int) = x by omega]
      · rw [flatR_cons, flatR_cons, runN_zero, ht, show ((x.toNat : Nat) : Int) = x by omega]; rfl
/-- runs that may stand behind 'last' -/
def okRuns : Bool → Nat → List (Nat × Nat) → Prop
  | _, _, [] => True
  | first, last, (f, m) :: r => last ≤ f ∧ f + m ≤ 255 ∧ (first = true ∨ last + 2 ≤ f) ∧ okRuns false (f + m) r
theorem runs_ok : ∀ (l : List Int), rightB l = true → okRuns true 0 (runsL l) := by
  intro l
  induction l with
  | nil => intro _; exact trivial
  | cons x t ih =>
    intro h
    have hx := right_head h
    have ht := right_tail h
    have hb := right_below h
    have ho := ih ht
    have hfl := runs_flat t fun y hy => (right_mem ht y hy).1
    unfold runsL
    cases hr : runsL t with
    | nil => exact ⟨Nat.zero_le _, by omega, .inl rfl, trivial⟩
    | cons fm r =>
      obtain ⟨f, m⟩ := fm
      rw [hr] at ho hfl
      obtain ⟨_, h2, _, h4⟩ := ho
      have hfm : (f : Int) ∈ t := by
        rw [← hfl, flatR_cons]
        refine List.mem_append.2 (.inl ?_)
        cases m with
        | zero => rw [runN_zero]; simp
        | succ m => rw [runN_succ]; simp
      have hxf := hb _ hfm
      dsimp only
      split
      · rename_i hf
        exact ⟨Nat.zero_le _, by omega, .inl rfl, by rw [show x.toNat + (m + 1) = f + m by omega]; exact h4⟩
      · rename_i hf
        exact ⟨Nat.zero_le _, by omega, .inl rfl, by omega, h2, .inr (by omega), h4⟩
theorem runs_read : ∀ (rs : List (Nat × Nat)) (first : Bool) (last : Nat) (t : Bs), okRuns first last rs → runsR rs.length first last (runsB last rs ++ t) = .ok (flatR rs, t) := by
  intro rs
  induction rs with
  | nil => intro _ _ t _; rfl
  | cons fm r ih =>
    intro first last t h
    obtain ⟨f, m⟩ := fm
    obtain ⟨h1, h2, h3, h4⟩ := h
    show runsR (r.length + 1) first last ((numB (f - last) ++ (numB m ++ runsB (f + m) r)) ++ t) = _
    rw [List.append_assoc, List.append_assoc]
    unfold runsR
    rw [bindR_at (num_put (by omega) _), bindR_at (num_put (by omega) _), bindR_at (chk_ok ⟨by omega, by omega, by omega, h3.imp id (by omega)⟩), show last + (f - last) + m = f + m by omega, bindR_at (ih false (f + m) t h4), show last + (f - last) = f by omega]
    rfl
theorem runsL_len : ∀ (l : List Int), (runsL l).length ≤ l.length := by
  intro l
  induction l with
  | nil => exact Nat.le_refl _
  | cons x t ih =>
    unfold runsL
    cases hr : runsL t with
    | nil => simp
    | cons fm r =>
      obtain ⟨f, m⟩ := fm
      rw [hr] at ih
      dsimp only
      split
      · simp only [List.length_cons] at ih ⊢; omega
      · simp only [List.length_cons] at ih ⊢; omega
theorem right_few {l : List Int} (h : rightB l = true) : l.length ≤ 256 := by
  have := length_pickL (fun n => l.contains n)
  rwa [right_pick h] at this
/-- a set that was put is read as it was -/
theorem set_read {l : List Int} (h : rightB l = true) (t : Bs) : setR (setB l ++ t) = .ok (l, t) := by
  have hk : (runsL l).length ≤ 256 := Nat.le_trans (runsL_len l) (right_few h)
  unfold setR setB
  rw [List.cons_append, List.append_assoc, bindR_at (x := 2) (t := _) rfl, bindR_at (chk_ok rfl), bindR_at (num_put (by omega) _), bindR_at (chk_ok hk), runs_read _ true 0 t (runs_ok l h), runs_flat l fun y hy => (right_mem h y hy).1]
theorem runs_put : ∀ (k : Nat) (first : Bool) (last : Nat) (b t : Bs) (l : List Int), runsR k first last b = .ok (l, t) → ∃ rs, rs.length = k ∧ okRuns first last rs ∧ l = flatR rs ∧ b = runsB last rs ++ t := by
  intro k
  induction k with
  | zero =>
    intro first last b t l h
    unfold runsR retR at h
    injection h with h; injection h with h1 h2
    exact ⟨[], rfl, trivial, h1.symm, h2⟩
  | succ k ih =>
    intro first last b t l h
    unfold runsR at h
    obtain ⟨far, t1, h1, h⟩ := bindR_ok h
    obtain ⟨more, t2, h2, h⟩ := bindR_ok h
    obtain ⟨_, t3, h3, h⟩ := bindR_ok h
    obtain ⟨r, t4, h4, h⟩ := bindR_ok h
    have e1 := (num_back h1).1
    have e2 := (num_back h2).1
    obtain ⟨c3, e3⟩ := chk_is h3
    obtain ⟨rs, q1, q2, q3, q4⟩ := ih _ _ _ _ _ h4
    unfold retR at h
    injection h with h; injection h with h5 h6
    refine ⟨(last + far, more) :: rs, by simp [q1], ⟨by omega, by omega, c3.2.2.2.imp id (by omega), q2⟩, by rw [← h5, q3]; rfl, ?_⟩
    show b = (numB (last + far - last) ++ (numB more ++ runsB (last + far + more) rs)) ++ t
    rw [show last + far - last = far by omega, e1, e2, e3, q4, h6, List.append_assoc, List.append_assoc]
theorem runs_one {f m : Nat} {L : List Int} {r : List (Nat × Nat)} (hL : runsL L = r) (hr : ∀ f' m' r', r = (f', m') :: r' → f + m + 2 ≤ f') : runsL (runN f m ++ L) = (f, m) :: r := by
  induction m generalizing f with
  | zero =>
    rw [runN_zero]
    show runsL ((f : Int) :: L) = _
    unfold runsL
    rw [hL]
    cases r with
    | nil => simp
    | cons fm r' =>
      obtain ⟨f', m'⟩ := fm
      have := hr f' m' r' rfl
      dsimp only
      rw [if_neg (by omega), Int.toNat_natCast]
  | succ m ih =>
    rw [runN_succ, List.cons_append]
    have h1 := ih (f := f + 1) (fun f' m' r' h => by have := hr f' m' r' h; omega)
    unfold runsL
    rw [h1]
    dsimp only
    rw [if_pos (by omega), Int.toNat_natCast]
theorem right_run {f m : Nat} {L : List Int} (h1 : f + m ≤ 255) (h2 : rightB L = true) (h3 : ∀ y ∈ L, ((f + m : Nat) : Int) < y) : rightB (runN f m ++ L) = true := by
  induction m generalizing f with
  | zero => rw [runN_zero]; exact right_cons (by omega) h2 (fun y hy => by have := h3 y hy; omega)
  | succ m ih =>
    rw [runN_succ, List.cons_append]
    refine right_cons (by omega) (ih (f := f + 1) (by omega) (fun y hy => by have := h3 y hy; omega)) fun y hy => ?_
    rcases List.mem_append.1 hy with hy | hy
    · unfold runN at hy
      obtain ⟨k, _, rfl⟩ := List.mem_map.1 hy
      omega
    · have := h3 y hy; omega
theorem runs_of : ∀ (rs : List (Nat × Nat)) (first : Bool) (last : Nat), okRuns first last rs → runsL (flatR rs) = rs ∧ rightB (flatR rs) = true ∧ ∀ y ∈ flatR rs, ((last : Nat) : Int) ≤ y ∧ (first = false → (last : Int) < y) := by
  intro rs
  induction rs with
  | nil => intro _ _ _; exact ⟨rfl, rfl, fun y hy => by cases hy⟩
  | cons fm r ih =>
    intro first last h
    obtain ⟨f, m⟩ := fm
    obtain ⟨h1, h2, h3, h4⟩ := h
    obtain ⟨q1, q2, q3⟩ := ih false (f + m) h4
    rw [flatR_cons]
    refine ⟨runs_one q1 fun f' m' r' hr => ?_, right_run h2 q2 fun y hy => (q3 y hy).2 rfl, fun y hy => ?_⟩
    · subst hr
      obtain ⟨_, _, h5, _⟩ := h4
      rcases h5 with h5 | h5
      · cases h5
      · omega
    · have hf : ((f : Nat) : Int) ≤ y := by
        rcases List.mem_append.1 hy with hy | hy
        · unfold runN at hy
          obtain ⟨k, _, rfl⟩ := List.mem_map.1 hy
          omega
        · have := (q3 y hy).1; omega
      refine ⟨by omega, fun h => ?_⟩
      rcases h3 with h3 | h3
      · rw [h] at h3; cases h3
      · omega
/-- a set that is read was put in just these bytes -/
theorem set_put {b t : Bs} {l : List Int} (h : setR b = .ok (l, t)) : rightB l = true ∧ b = setB l ++ t := by
  unfold setR at h
  obtain ⟨c, t1, h1, h⟩ := bindR_ok h
  obtain ⟨_, t2, h2, h⟩ := bindR_ok h
  obtain ⟨n, t3, h3, h⟩ := bindR_ok h
  obtain ⟨_, t4, h4, h⟩ := bindR_ok h
  have e1 := byte_is h1
  obtain ⟨c2, e2⟩ := chk_is h2
  have e3 := (num_back h3).1
  obtain ⟨_, e4⟩ := chk_is h4
  obtain ⟨rs, q1, q2, q3, q4⟩ := runs_put _ _ _ _ _ _ h
  obtain ⟨k1, k2, _⟩ := runs_of rs true 0 q2
  subst q3
  refine ⟨k2, ?_⟩
  unfold setB
  rw [k1, q1, e1, c2, e2, e3, e4, q4, List.cons_append, List.append_assoc]
theorem setB_len {l : List Int} (h : rightB l = true) : (setB l).length ≤ 4700 := by
  have hk : (runsL l).length ≤ 256 := Nat.le_trans (runsL_len l) (right_few h)
  have key : ∀ (rs : List (Nat × Nat)) (first : Bool) (last : Nat), okRuns first last rs → (runsB last rs).length ≤ 18 * rs.length := by
    intro rs
    induction rs with
    | nil => intro _ _ _; exact Nat.zero_le _
    | cons fm r ih =>
      intro first last h
      obtain ⟨f, m⟩ := fm
      obtain ⟨h1, h2, h3, h4⟩ := h
      have := ih false (f + m) h4
      have k1 := numB_len (n := f - last) (by omega)
      have k2 := numB_len (n := m) (by omega)
      show (numB (f - last) ++ (numB m ++ runsB (f + m) r)).length ≤ _
      simp only [List.length_append, List.length_cons]
      omega
  have k1 := key _ _ _ (runs_ok l h)
  have k2 := numB_len (n := (runsL l).length) (by omega)
  unfold setB
  simp only [List.length_append, List.length_cons]
  omega

end Go.Proofs.Ytlpogkcfjbabaaa

namespace Go.Proofs.Ytlpogkcfjbabaaa

/-- a part of a list: the bytes of a spec, or of a set -/
def partR : Rd Bs
  | [] => .error 2
  | c :: s => if c = 1 then (match specR (c :: s) with
      | .ok (_, t) => .ok ((c :: s).take ((c :: s).length - t.length), t)
      | .error e => .error e) else (match setR (c :: s) with
      | .ok (_, t) => .ok ((c :: s).take ((c :: s).length - t.length), t)
      | .error e => .error e)
theorem partR_cons (c : UInt8) (s : Bs) : partR (c :: s) = if c = 1 then (match specR (c :: s) with
      | .ok (_, t) => .ok ((c :: s).take ((c :: s).length - t.length), t)
      | .error e => .error e) else (match setR (c :: s) with
      | .ok (_, t) => .ok ((c :: s).take ((c :: s).length - t.length), t)
      | .error e => .error e) := rfl
def partsR : Nat → Rd (List Bs)
  | 0 => retR []
  | k + 1 => bindR partR fun p => bindR (partsR k) fun r => retR (p :: r)
def listR : Rd (List Bs) := bindR byteR fun c => bindR (chkR (c = 3)) fun _ => bindR numR fun n => bindR (chkR (n ≤ 1000)) fun _ => partsR n
def listB (ps : List Bs) : Bs := 3 :: (numB ps.length ++ ps.flatten)
def IsPart (p : Bs) : Prop := (∃ s, rightS s = true ∧ p = specB s) ∨ (∃ l, rightB l = true ∧ p = setB l)

theorem take_front (u t : Bs) : (u ++ t).take ((u ++ t).length - t.length) = u := by
  rw [List.length_append, Nat.add_sub_cancel, List.take_append_of_le_length (Nat.le_refl _), List.take_of_length_le (Nat.le_refl _)]
theorem specB_cons (s : Sp) : ∃ q, specB s = 1 :: q := ⟨_, rfl⟩
theorem setB_cons (l : List Int) : ∃ q, setB l = 2 :: q := ⟨_, rfl⟩
theorem part_read {p : Bs} (h : IsPart p) (t : Bs) : partR (p ++ t) = .ok (p, t) := by
  rcases h with ⟨s, hs, rfl⟩ | ⟨l, hl, rfl⟩
  · obtain ⟨q, hq⟩ := specB_cons s
    have h1 := spec_read hs t
    have h2 := take_front (specB s) t
    rw [hq] at h1 h2 ⊢
    rw [List.cons_append] at h1 h2 ⊢
    rw [partR_cons, if_pos rfl, h1]
    dsimp only
    rw [h2]
  · obtain ⟨q, hq⟩ := setB_cons l
    have h1 := set_read hl t
    have h2 := take_front (setB l) t
    rw [hq] at h1 h2 ⊢
    rw [List.cons_append] at h1 h2 ⊢
    rw [partR_cons, if_neg (by decide), h1]
    dsimp only
    rw [h2]
theorem part_put {b p t : Bs} (h : partR b = .ok (p, t)) : IsPart p ∧ b = p ++ t := by
  cases b with
  | nil => cases h
  | cons c s =>
    rw [partR_cons] at h
    by_cases hc : c = 1
    · rw [if_pos hc] at h
      cases hs : specR (c :: s) with
      | error e => rw [hs] at h; cases h
      | ok r =>
        obtain ⟨x, u⟩ := r
        rw [hs] at h
        dsimp only at h
        injection h with h; injection h with h1 h2
        obtain ⟨k1, k2⟩ := spec_put hs
        subst h2
        have := take_front (specB x) u
        rw [← k2, h1] at this
        subst this
        exact ⟨.inl ⟨x, k1, rfl⟩, k2⟩
    · rw [if_neg hc] at h
      cases hs : setR (c :: s) with
      | error e => rw [hs] at h; cases h
      | ok r =>
        obtain ⟨x, u⟩ := r
        rw [hs] at h
        dsimp only at h
        injection h with h; injection h with h1 h2
        obtain ⟨k1, k2⟩ := set_put hs
        subst h2
        have := take_front (setB x) u
        rw [← k2, h1] at this
        subst this
        exact ⟨.inr ⟨x, k1, rfl⟩, k2⟩
theorem parts_read : ∀ (ps : List Bs) (t : Bs), (∀ p ∈ ps, IsPart p) → partsR ps.length (ps.flatten ++ t) = .ok (ps, t) := by
  intro ps
  induction ps with
  | nil => intro t _; rfl
  | cons p r ih =>
    intro t h
    show partsR (r.length + 1) ((p ++ r.flatten) ++ t) = _
    unfold partsR
    rw [List.append_assoc, bindR_at (part_read (h p (by simp)) _), bindR_at (ih t fun q hq => h q (by simp [hq]))]
    rfl
theorem parts_put : ∀ (k : Nat) (b t : Bs) (ps : List Bs), partsR k b = .ok (ps, t) → ps.length = k ∧ (∀ p ∈ ps, IsPart p) ∧ b = ps.flatten ++ t := by
  intro k
  induction k with
  | zero =>
    intro b t ps h
    unfold partsR retR at h
    injection h with h; injection h with h1 h2
    subst h1 h2
    exact ⟨rfl, (fun p hp => by cases hp), rfl⟩
  | succ k ih =>
    intro b t ps h
    unfold partsR at h
    obtain ⟨p, t1, h1, h⟩ := bindR_ok h
    obtain ⟨r, t2, h2, h⟩ := bindR_ok h
    unfold retR at h
    injection h with h; injection h with h3 h4
    subst h3 h4
    obtain ⟨q1, q2⟩ := part_put h1
    obtain ⟨k1, k2, k3⟩ := ih _ _ _ h2
    refine ⟨by simp [k1], fun x hx => ?_, by rw [q2, k3]; simp⟩
    rcases List.mem_cons.1 hx with rfl | hx
    · exact q1
    · exact k2 x hx
theorem list_read {ps : List Bs} (h1 : ps.length ≤ 1000) (h2 : ∀ p ∈ ps, IsPart p) : listR (listB ps) = .ok (ps, []) := by
  unfold listR listB
  rw [bindR_at (x := 3) (t := _) rfl, bindR_at (chk_ok rfl), bindR_at (num_put (by omega) _), bindR_at (chk_ok h1)]
  have := parts_read ps [] h2
  rwa [List.append_nil] at this
theorem list_put {b : Bs} {ps : List Bs} (h : listR b = .ok (ps, [])) : ps.length ≤ 1000 ∧ (∀ p ∈ ps, IsPart p) ∧ b = listB ps := by
  unfold listR at h
  obtain ⟨c, t1, h1, h⟩ := bindR_ok h
  obtain ⟨_, t2, h2, h⟩ := bindR_ok h
  obtain ⟨n, t3, h3, h⟩ := bindR_ok h
  obtain ⟨_, t4, h4, h⟩ := bindR_ok h
  have e1 := byte_is h1
  obtain ⟨c2, e2⟩ := chk_is h2
  have e3 := (num_back h3).1
  obtain ⟨c4, e4⟩ := chk_is h4
  obtain ⟨q1, q2, q3⟩ := parts_put _ _ _ _ h
  refine ⟨by omega, q2, ?_⟩
  unfold listB
  rw [q1, e1, c2, e2, e3, e4, q3, List.append_nil]

/-! what the calls answer: the numbers of the errors are 1 (ErrArg), 2 (ErrShort), 3 (ErrForm), 4 (ErrLong) -/
/-- a reader's whole answer -/
def wholeOf {α : Type} (d : α) (p : Rd α) (b : Bs) : α × Int :=
  if 65536 < b.length then (d, 4) else match p b with
    | .ok (x, []) => (x, 0)
    | .ok (_, _ :: _) => (d, 3)
    | .error e => (d, (e : Int))
def spReadS (b : Bs) : Sp × Int := wholeOf sp0 specR b
def rdSet (b : Bs) : List Int × Int := wholeOf [] setR b
def rdList (b : Bs) : List Bs × Int := wholeOf [] listR b
def ptSpec (s : Sp) : Bs × Int := if rightS s = true then (specB s, 0) else ([], 1)
def ptSet (l : List Int) : Bs × Int := if rightB l = true then (setB l, 0) else ([], 1)
def partOk (p : Bs) : Bool := decide ((spReadS p).2 = 0 ∨ (rdSet p).2 = 0)
def ptList (ps : List Bs) : Bs × Int := if 1000 < ps.length then ([], 4) else if ps.all partOk = true then (listB ps, 0) else ([], 3)
section
variable {α : Type} {d : α} {p : Rd α}
/-- no reader's error is no error -/
def NoNil (p : Rd α) : Prop := ∀ b e, p b = .error e → e ≠ 0
theorem whole_ok (hp : NoNil p) {b : Bs} {x : α} (h : wholeOf d p b = (x, 0)) : p b = .ok (x, []) := by
  unfold wholeOf at h
  by_cases hl : 65536 < b.length
  · rw [if_pos hl] at h; injection h with _ h2; cases h2
  · rw [if_neg hl] at h
    cases hr : p b with
    | error e =>
      rw [hr] at h
      injection h with _ h2
      have h2' : (e : Int) = 0 := h2
      exact absurd (by omega) (hp b e hr)
    | ok r =>
      obtain ⟨y, t⟩ := r
      rw [hr] at h
      cases t with
      | nil => injection h with h1 _; rw [← h1]
      | cons _ _ => injection h with _ h2; cases h2
theorem whole_at {b : Bs} {x : α} (hl : b.length ≤ 65536) (h : p b = .ok (x, [])) : wholeOf d p b = (x, 0) := by
  unfold wholeOf
  rw [if_neg (by omega), h]
theorem whole_err {b : Bs} {e : Nat} (hl : b.length ≤ 65536) (h : p b = .error e) : wholeOf d p b = (d, (e : Int)) := by
  unfold wholeOf
  rw [if_neg (by omega), h]
/-- where it is none, nothing is told -/
theorem whole_none {b : Bs} (h : (wholeOf d p b).2 ≠ 0) : (wholeOf d p b).1 = d := by
  unfold wholeOf at h ⊢
  split
  · rfl
  · rename_i hl
    rw [if_neg hl] at h
    cases hr : p b with
    | error e => rfl
    | ok r =>
      obtain ⟨y, t⟩ := r
      rw [hr] at h
      cases t with
      | nil => exact absurd rfl h
      | cons _ _ => rfl
end
section
variable {α β : Type}
theorem nn_bind {p : Rd α} {f : α → Rd β} (hp : NoNil p) (hf : ∀ x, NoNil (f x)) : NoNil (bindR p f) := fun b e h => by
  cases hr : p b with
  | error e' => rw [bindR_err hr] at h; injection h with h; rw [← h]; exact hp b e' hr
  | ok r => rw [bindR_at (x := r.1) (t := r.2) hr] at h; exact hf _ _ _ h
theorem nn_ret (x : α) : NoNil (retR x) := fun b e h => by cases h
theorem nn_chk (c : Prop) [Decidable c] : NoNil (chkR c) := fun b e h => by
  unfold chkR at h
  split at h
  · cases h
  · injection h with h; omega
theorem nn_byte : NoNil byteR := fun b e h => by
  cases b with
  | nil => unfold byteR at h; injection h with h; omega
  | cons _ _ => cases h
theorem nn_take (n : Nat) : NoNil (takeR n) := fun b e h => by
  unfold takeR at h
  split at h
  · injection h with h; omega
  · cases h
theorem nn_num : NoNil numR := by
  have key : ∀ (b : Bs) (i acc e : Nat), gotR i acc b = .error e → e ≠ 0 := by
    intro b
    induction b with
    | nil => intro i acc e h; rw [gotR] at h; injection h with h; omega
    | cons c s ih =>
      intro i acc e h
      rw [gotR] at h
      split at h
      · injection h with h; omega
      · split at h
        · split at h
          · injection h with h; omega
          · cases h
        · exact ih _ _ _ h
  exact fun b e h => key b 0 0 e h
end
theorem nn_spec : NoNil specR :=
  nn_bind nn_byte fun _ => nn_bind (nn_chk _) fun _ => nn_bind nn_num fun _ => nn_bind nn_num fun _ => nn_bind nn_num fun _ => nn_bind nn_num fun _ => nn_bind (nn_chk _) fun _ => nn_bind (nn_take _) fun _ => nn_bind nn_byte fun _ => nn_bind (nn_chk _) fun _ => nn_bind nn_num fun _ => nn_bind nn_num fun _ => nn_bind (nn_chk _) fun _ => nn_ret _
theorem nn_runs : ∀ (k : Nat) (first : Bool) (last : Nat), NoNil (runsR k first last) := by
  intro k
  induction k with
  | zero => intro _ _; exact nn_ret _
  | succ k ih => intro first last; exact nn_bind nn_num fun _ => nn_bind nn_num fun _ => nn_bind (nn_chk _) fun _ => nn_bind (ih _ _) fun _ => nn_ret _
theorem nn_set : NoNil setR := nn_bind nn_byte fun _ => nn_bind (nn_chk _) fun _ => nn_bind nn_num fun _ => nn_bind (nn_chk _) fun _ => nn_runs _ _ _
theorem nn_part : NoNil partR := fun b e h => by
  cases b with
  | nil => unfold partR at h; injection h with h; omega
  | cons c s =>
    rw [partR_cons] at h
    split at h
    · cases hr : specR (c :: s) with
      | error e' => rw [hr] at h; injection h with h; rw [← h]; exact nn_spec _ _ hr
      | ok r => rw [hr] at h; cases h
    · cases hr : setR (c :: s) with
      | error e' => rw [hr] at h; injection h with h; rw [← h]; exact nn_set _ _ hr
      | ok r => rw [hr] at h; cases h
theorem nn_parts : ∀ (k : Nat), NoNil (partsR k) := by
  intro k
  induction k with
  | zero => exact nn_ret _
  | succ k ih => exact nn_bind nn_part fun _ => nn_bind ih fun _ => nn_ret _
theorem nn_list : NoNil listR := nn_bind nn_byte fun _ => nn_bind (nn_chk _) fun _ => nn_bind nn_num fun _ => nn_bind (nn_chk _) fun _ => nn_parts _

/-! what the statements ask -/
theorem spec_back {s : Sp} (h : rightS s = true) : ptSpec s = (specB s, 0) ∧ spReadS (specB s) = (s, 0) := by
  refine ⟨by unfold ptSpec; rw [if_pos h], whole_at (by have := specB_len h; omega) ?_⟩
  have := spec_read h []
  rwa [List.append_nil] at this
theorem set_back {l : List Int} (h : rightB l = true) : ptSet l = (setB l, 0) ∧ rdSet (setB l) = (l, 0) := by
  refine ⟨by unfold ptSet; rw [if_pos h], whole_at (by have := setB_len h; omega) ?_⟩
  have := set_read h []
  rwa [List.append_nil] at this
theorem part_ok {p : Bs} (h : IsPart p) : partOk p = true := by
  unfold partOk
  rw [decide_eq_true_eq]
  rcases h with ⟨s, hs, rfl⟩ | ⟨l, hl, rfl⟩
  · exact .inl (by rw [(spec_back hs).2])
  · exact .inr (by rw [(set_back hl).2])
theorem part_len {p : Bs} (h : IsPart p) : p.length ≤ 4700 := by
  rcases h with ⟨s, hs, rfl⟩ | ⟨l, hl, rfl⟩
  · have := specB_len hs; omega
  · exact setB_len hl
theorem list_back {ps : List Bs} (h1 : ps.length ≤ 3) (h2 : ∀ p ∈ ps, IsPart p) : ptList ps = (listB ps, 0) ∧ rdList (listB ps) = (ps, 0) := by
  refine ⟨?_, whole_at ?_ (list_read (by omega) h2)⟩
  · unfold ptList
    rw [if_neg (by omega), if_pos (List.all_eq_true.2 fun p hp => part_ok (h2 p hp))]
  · have k : ps.flatten.length ≤ 4700 * ps.length := by
      clear h1
      induction ps with
      | nil => exact Nat.zero_le _
      | cons p r ih =>
        have := part_len (h2 p (by simp))
        have := ih fun q hq => h2 q (by simp [hq])
        simp only [List.flatten_cons, List.length_append, List.length_cons]
        omega
    have k2 := numB_len (n := ps.length) (by omega)
    unfold listB
    simp only [List.length_cons, List.length_append]
    omega
/-- of bytes that are a spec's: they are put so, and one byte less is too short -/
theorem spec_one {b : Bs} {s : Sp} (h : spReadS b = (s, 0)) : b ≠ [] ∧ b.headD 0 = 1 ∧ ptSpec s = (b, 0) ∧ (b.length ≤ 65536 → spReadS b.dropLast = (sp0, 2)) := by
  have h1 := whole_ok nn_spec h
  obtain ⟨k1, k2⟩ := spec_put h1
  rw [List.append_nil] at k2
  obtain ⟨q, hq⟩ := specB_cons s
  have hb : b ≠ [] := by rw [k2, hq]; simp
  refine ⟨hb, by rw [k2, hq]; rfl, by unfold ptSpec; rw [if_pos k1, ← k2], fun hl => ?_⟩
  exact whole_err (by rw [List.length_dropLast]; omega) (clean_spec.short h1 hb)
theorem set_one {b : Bs} {l : List Int} (h : rdSet b = (l, 0)) : b ≠ [] ∧ b.headD 0 = 2 ∧ ptSet l = (b, 0) ∧ (b.length ≤ 65536 → rdSet b.dropLast = ([], 2)) := by
  have h1 := whole_ok nn_set h
  obtain ⟨k1, k2⟩ := set_put h1
  rw [List.append_nil] at k2
  obtain ⟨q, hq⟩ := setB_cons l
  have hb : b ≠ [] := by rw [k2, hq]; simp
  refine ⟨hb, by rw [k2, hq]; rfl, by unfold ptSet; rw [if_pos k1, ← k2], fun hl => ?_⟩
  exact whole_err (by rw [List.length_dropLast]; omega) (clean_set.short h1 hb)
theorem list_one {b : Bs} {ps : List Bs} (h : rdList b = (ps, 0)) : b.headD 0 = 3 ∧ ptList ps = (b, 0) := by
  obtain ⟨k1, k2, k3⟩ := list_put (whole_ok nn_list h)
  refine ⟨by rw [k3]; rfl, ?_⟩
  unfold ptList
  rw [if_neg (by omega), if_pos (List.all_eq_true.2 fun p hp => part_ok (k2 p hp)), ← k3]
/-- the bytes of one are never the beginning of another one's -/
theorem spec_apart {s t : Sp} {q : Bs} (hs : rightS s = true) (ht : rightS t = true) (h : specB t = specB s ++ q) : s = t := by
  have h1 := spec_read hs []
  have h2 := spec_read ht []
  rw [List.append_nil] at h1 h2
  exact (clean_spec.apart h1 h2 h).1
theorem set_apart {s t : List Int} {q : Bs} (hs : rightB s = true) (ht : rightB t = true) (h : setB t = setB s ++ q) : s = t := by
  have h1 := set_read hs []
  have h2 := set_read ht []
  rw [List.append_nil] at h1 h2
  exact (clean_set.apart h1 h2 h).1
theorem spec_set_apart {s : Sp} {l : List Int} {q : Bs} : specB s ≠ setB l ++ q ∧ setB l ≠ specB s ++ q := by
  obtain ⟨a, ha⟩ := specB_cons s
  obtain ⟨b, hb⟩ := setB_cons l
  rw [ha, hb]
  exact ⟨fun h => by injection h with h _; exact absurd h (by decide), fun h => by injection h with h _; exact absurd h (by decide)⟩

end Go.Proofs.Ytlpogkcfjbabaaa

namespace Go.Proofs.Ytlpogkcfjbabaaa
open Go.RowKit

/-- how an element reads: in a world, with all that it reaches in blocks that are 'ok', of its cells -/
abbrev Elem (α : Type) := World → (Nat → Prop) → α → List Value → Prop
/-- an element reads the same where its blocks are the same -/
structure Steady {α : Type} (E : Elem α) : Prop where
  keep : ∀ {w w' : World} {ok ok' : Nat → Prop} {x : α} {vs : List Value}, E w ok x vs → (∀ b, ok b → w'.heap[b]? = w.heap[b]?) → (∀ b, ok b → ok' b) → E w' ok' x vs

/-- '.slice A n c' reads as xs: elements of C cells -/
def RN {α : Type} (E : Elem α) (C : Nat) (w : World) (ok : Nat → Prop) (A : Option Addr) (n : Nat) (xs : List α) : Prop :=
  xs.length = n ∧ (0 < n → ∃ b off, A = some ⟨b, off, none⟩ ∧ ok b ∧
    ∀ j x, xs[j]? = some x → ∃ vs, vs.length = C ∧ (∀ i v, vs[i]? = some v → w.cell? ⟨b, off + (j * C + i), none⟩ = some v) ∧ E w ok x vs)
/-- the blocks below B -/
def Lt (B : Nat) : Nat → Prop := (· < B)

section
variable {α : Type} {E : Elem α} {C : Nat} {w w' : World} {ok ok' : Nat → Prop} {A : Option Addr} {n : Nat} {xs : List α}
theorem RN.nil : RN E C w ok A 0 [] := ⟨rfl, fun h => absurd h (by omega)⟩
theorem RN.keep (hE : Steady E) (h : RN E C w ok A n xs) (hk : ∀ b, ok b → w'.heap[b]? = w.heap[b]?) (ho : ∀ b, ok b → ok' b) : RN E C w' ok' A n xs :=
  ⟨h.1, fun hn => by
    obtain ⟨b, off, e, hb, hc⟩ := h.2 hn
    refine ⟨b, off, e, ho b hb, fun j x hx => ?_⟩
    obtain ⟨vs, h1, h2, h3⟩ := hc j x hx
    exact ⟨vs, h1, fun i v hv => (World.cell?_of_block (hk b hb)).trans (h2 i v hv), hE.keep h3 hk ho⟩⟩
theorem RN.below {B : Nat} (hE : Steady E) (h : RN E C w (Lt B) A n xs) (hb : Below B w w') : RN E C w' (Lt B) A n xs := h.keep hE (fun b hb' => hb.block b hb') (fun _ h => h)
theorem RN.next (hE : Steady E) (h : RN E C w (Lt w.heap.size) A n xs) (hb : Below w.heap.size w w') : RN E C w' (Lt w'.heap.size) A n xs :=
  h.keep hE (fun b hb' => hb.block b hb') (fun b (h : b < w.heap.size) => Nat.lt_of_lt_of_le h hb.size)
theorem RN.drewN (h : RN E C w ok A n xs) (hE : Steady E) (k : Nat) : RN E C (w.drewN k) ok A n xs := h.keep hE (fun _ _ => rfl) (fun _ h => h)
/-- the k-th element -/
theorem RN.at (h : RN E C w ok A n xs) {k : Nat} {x : α} (hk : xs[k]? = some x) : ∃ b off vs, A = some ⟨b, off, none⟩ ∧ ok b ∧ vs.length = C ∧ (∀ i v, vs[i]? = some v → w.cell? ⟨b, off + (k * C + i), none⟩ = some v) ∧ E w ok x vs := by
  have hl := (List.getElem?_eq_some_iff.1 hk).1
  obtain ⟨b, off, e, hb, hc⟩ := h.2 (by have := h.1; omega)
  obtain ⟨vs, h1, h2, h3⟩ := hc k x hk
  exact ⟨b, off, vs, e, hb, h1, h2, h3⟩
end

/-- an element that is itself a slice: one cell -/
def ESl {α : Type} (E : Elem α) (C : Nat) : Elem (List α) := fun w ok xs vs => ∃ A m c, vs = [.slice A m c] ∧ RN E C w ok A m xs ∧ (A = none → c = 0) ∧ m ≤ c ∧ m ≤ maxLen
theorem ESl.steady {α : Type} {E : Elem α} (hE : Steady E) (C : Nat) : Steady (ESl E C) :=
  ⟨fun ⟨A, m, c, h1, h2, h3⟩ hk ho => ⟨A, m, c, h1, h2.keep hE hk ho, h3⟩⟩

/-- an owned row that reads as xs, in a world that keeps all that was there in w -/
def ON {α : Type} (E : Elem α) (C : Nat) (t : TypeId) (w : World) (v : Value) (xs : List α) (wr : World) : Prop :=
  ∃ fl : List Value, wr.ownsRow w.heap.size t C v xs.length fl ∧ Below w.heap.size w wr ∧
    ∀ j x, xs[j]? = some x → E wr (fun b => b < wr.heap.size ∧ v.ownBlock ≠ some b) x ((fl.drop (j * C)).take C)
section
variable {α : Type} {E : Elem α} {C : Nat} {t : TypeId} {w w1 w2 wr : World} {v v' : Value} {xs : List α}
theorem ON.nil (w : World) : ON E C t w (.slice none 0 0) [] w := ⟨[], by simpa using World.ownsRow_nil w w.heap.size t C, Below.refl _ _, fun j x h => by simp at h⟩
/-- what makes memory, and changes nothing that was there, leaves the row as it is -/
theorem ON.next (hE : Steady E) (h : ON E C t w v xs wr) (hb : Below wr.heap.size wr w1) : ON E C t w v xs w1 := by
  obtain ⟨fl, h1, h2, h3⟩ := h
  refine ⟨fl, ?_, h2.trans (hb.mono h2.size), fun j x hx => hE.keep (h3 j x hx) (fun b hb' => hb.block b hb'.1) (fun b hb' => ⟨Nat.lt_of_lt_of_le hb'.1 hb.size, hb'.2⟩)⟩
  refine ⟨h1.1, h1.2.imp id ?_⟩
  rintro ⟨g, cap, cur, e1, e2, e3, e4⟩
  exact ⟨g, cap, cur, e1, e2, (hb.block g (Array.getElem?_eq_some_iff.1 e3).1).trans e3, e4⟩
theorem ON.drew (hE : Steady E) (h : ON E C t w v xs wr) (q : Nat) : ON E C t w v xs (wr.drewN q) := h.next hE ⟨rfl, rfl, rfl, Nat.le_refl _, fun _ _ => rfl⟩
theorem ON.below (h : ON E C t w v xs wr) : Below w.heap.size w wr := let ⟨_, _, h2, _⟩ := h; h2
theorem ON.form (h : ON E C t w v xs wr) : ∃ A c, v = .slice A xs.length c ∧ (A = none → c = 0) ∧ xs.length ≤ c := by
  obtain ⟨fl, h1, _⟩ := h
  rcases h1.2 with ⟨hv, h0⟩ | ⟨g, cap, cur, hv, _, _, hc, _⟩
  · exact ⟨none, 0, by rw [hv, h0], fun _ => rfl, by omega⟩
  · exact ⟨_, cap, hv, (fun e => by cases e), hc⟩
/-- one element more: it was laid in a block of its own, and appended -/
theorem ON.snoc (hE : Steady E) (h : ON E C t w v xs wr) {x : α} {vs : List Value} {o : Obj} {fl : List Value} {g cap : Nat}
    (hfl : wr.ownsRow w.heap.size t C v xs.length fl) (hx : E wr (fun b => b < wr.heap.size ∧ v.ownBlock ≠ some b) x vs) (hvs : vs.length = C)
    (hold : ∀ j y, xs[j]? = some y → E wr (fun b => b < wr.heap.size ∧ v.ownBlock ≠ some b) y ((fl.drop (j * C)).take C))
    (hown' : w2.ownsRow w.heap.size t C (.slice (some ⟨g, 0, none⟩) (xs.length + 1) cap) (xs.length + 1) (fl ++ vs)) (hgrow : (wr.alloc o).grownBy w2 v.ownBlock)
    (hat : v.ownBlock = some g ∨ wr.heap.size ≤ g) : ON E C t w (.slice (some ⟨g, 0, none⟩) (xs.length + 1) cap) (xs ++ [x]) w2 := by
  have hB := h.below
  have hsz : wr.heap.size ≤ w2.heap.size := by have := hgrow.size; simp at this; omega
  have hkeep : ∀ b, (b < wr.heap.size ∧ v.ownBlock ≠ some b) → w2.heap[b]? = wr.heap[b]? := fun b hb =>
    (hgrow.block b (by simp; omega) (fun e => hb.2 e.symm)).trans (Below.heap_alloc wr o b hb.1)
  have hok : ∀ b, (b < wr.heap.size ∧ v.ownBlock ≠ some b) → (b < w2.heap.size ∧ (Value.slice (some ⟨g, 0, none⟩) (xs.length + 1) cap).ownBlock ≠ some b) := fun b hb =>
    ⟨by omega, fun e => by
      have e' : g = b := by simpa [Value.ownBlock] using e
      subst e'
      rcases hat with h' | h'
      · exact hb.2 h'
      · omega⟩
  refine ⟨fl ++ vs, by rw [List.length_append]; exact hown', (hB.alloc hB.size o).grown hgrow (by have := hB.size; simp; omega) (fun j hj => (hfl.lt j hj).1), fun j y hy => ?_⟩
  have hfll := hfl.1
  rcases Nat.lt_trichotomy j xs.length with hj | hj | hj
  · rw [List.getElem?_append_left hj] at hy
    have e := hE.keep (hold j y hy) hkeep hok
    have hlen : j * C + C ≤ fl.length := by rw [hfll, ← Nat.succ_mul]; exact Nat.mul_le_mul_right C hj
    rw [List.drop_append_of_le_length (by omega), List.take_append_of_le_length (by rw [List.length_drop]; omega)]
    exact e
  · subst hj
    rw [List.getElem?_append_right (Nat.le_refl _)] at hy
    simp at hy
    subst hy
    rw [← hfll, List.drop_append_of_le_length (Nat.le_refl _), List.drop_length, List.nil_append, List.take_of_length_le (by omega)]
    exact hE.keep hx hkeep hok
  · rw [List.getElem?_eq_none (by rw [List.length_append]; simp; omega)] at hy
    cases hy
/-- 'out = append(out, x)' of an owned row of elements: x has been laid into a block of its own -/
theorem wpList_append_ON {P : Program} {ops : Array Oper} {rest : List Oper} {o : Oper} {a : Act} {Q : Exit → Act → World → Prop} (hgd : o.guard = none) (s x : Operand) (ty : TypeId)
    (ho : o.op = .call { callee := .builtin .append, args := #[s, x], argTypes := #[ty, ty] })
    (hE : Steady E) (h : ON E C t w v xs wr) (i : TypeInfo) (z : Value) (bytes : Nat) (ht : P.underlying ty = some (.slice t)) (hi : P.info? t = some i) (hz : i.zero = some z)
    (hsize : i.size = C) (hby : i.bytes = bytes) (hzs : z.cells.size = C) (hsz : 0 < C)
    (hs : a.eval s = v) (x0 : α) (cs : Array Value) (hx : a.eval x = .slice (some ⟨wr.heap.size, 0, none⟩) 1 1) (hl : cs.toList.length = C) (h1 : ∀ u ∈ cs.toList, u.oneCell' = true)
    (he : E wr (fun b => b < wr.heap.size ∧ v.ownBlock ≠ some b) x0 cs.toList)
    (h63 : xs.length + 1 ≤ maxLen) (hbytes : (xs.length + 1) * bytes ≤ 140737488355328)
    (hk : ∀ v' w', ON E C t w v' (xs ++ [x0]) w' → wpList P ops Q rest (a.put o.dst v') w') : wpList P ops Q (o :: rest) a (wr.alloc (.cells cs t)) := by
  have hB := h.below
  obtain ⟨fl, h2, _, h4⟩ := id h
  refine wpList_append_lies (wr.alloc (.cells cs t)) hgd s x ty ho w.heap.size t i z C bytes ht hi hz hsize hby hzs hsz v xs.length fl hs (h2.alloc _) ⟨wr.heap.size, 0, none⟩ 1 1 cs.toList hx (by rw [hl]; omega)
    (World.news_of_block (cs := cs) (t := t) (fr := (0, 0)) (heap_alloc_new wr _)) h1 (by omega) h63 hbytes (by have := hB.size; simp; omega) _ rfl ?_
  intro g cap w2 hown' hgrow hat hlt
  exact hk _ _ (h.snoc hE h2 he hl h4 hown' hgrow (hat.imp id (fun e => by rw [e]; simp)))
/-- an owned row reads as a slice -/
theorem ON.reads (hE : Steady E) (hC : 0 < C) (h : ON E C t w v xs wr) {A : Option Addr} {n c : Nat} (hv : v = .slice A n c) : RN E C wr (Lt wr.heap.size) A n xs := by
  obtain ⟨fl, h1, h2, h3⟩ := h
  rcases h1.2 with ⟨hv', h0⟩ | ⟨g, cap, cur, hv', _, hh, hc, _⟩
  · rw [hv] at hv'
    injection hv' with e1 e2 e3
    subst e1 e2
    have : xs = [] := List.eq_nil_of_length_eq_zero h0
    subst this
    exact RN.nil
  · have hg : v.ownBlock = some g := by rw [hv']; rfl
    have hcells := h1.cells hg
    rw [hv] at hv'
    injection hv' with e1 e2 e3
    subst e1 e2
    refine ⟨rfl, fun hn => ⟨g, 0, rfl, (Array.getElem?_eq_some_iff.1 hh).1, fun j x hx => ?_⟩⟩
    have hj := (List.getElem?_eq_some_iff.1 hx).1
    have hlen : j * C + C ≤ fl.length := by rw [h1.1, ← Nat.succ_mul]; exact Nat.mul_le_mul_right C hj
    refine ⟨(fl.drop (j * C)).take C, by rw [List.length_take, List.length_drop]; omega, fun i u hu => ?_, hE.keep (h3 j x hx) (fun _ _ => rfl) (fun b hb => hb.1)⟩
    have hi : i < C := by
      have := (List.getElem?_eq_some_iff.1 hu).1
      rw [List.length_take, List.length_drop] at this
      omega
    rw [List.getElem?_take_of_lt hi, List.getElem?_drop] at hu
    have := hcells (j * C + i) u hu
    have ha : (⟨g, 0, none⟩ : Addr).add (j * C + i) = ⟨g, 0 + (j * C + i), none⟩ := by unfold Addr.add; split <;> simp_all
    rw [ha] at this
    exact this
end

end Go.Proofs.Ytlpogkcfjbabaaa
