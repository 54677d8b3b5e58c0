import PyProof.Rows.All
import Wide.All
import OpenK.AllK
import Wide.FinOn
import HandS.ForMost
import HandS.Conv
import HandS.IsInst
import HandS.Defaults
import HandS.Wide
import HandS.More
import HandS.ForExc
import HandS.Evl
import HandS.Strs
import HandS.ExcIs
import KE.KRevSl
import HandS.Style
import PySem.Challenge.RW_countout_k06_beginnings_wished
namespace Jos
/-! ## rings -/
variable {α β : Type}
/-- turned by a -/
def rot (l : List α) (a : Nat) : List α := l.drop a ++ l.take a
theorem rot_len (l : List α) (a : Nat) : (rot l a).length = l.length := by
  unfold rot; rw [List.length_append, List.length_drop, List.length_take]; omega
theorem rot_zero (l : List α) : rot l 0 = l := by simp [rot]
theorem rot_all (l : List α) : rot l l.length = l := by simp [rot]
theorem rot_get {l : List α} {a i : Nat} (ha : a ≤ l.length) (hi : i < l.length) : (rot l a)[i]? = l[(a + i) % l.length]? := by
  unfold rot
  by_cases h : a + i < l.length
  · rw [List.getElem?_append_left (by rw [List.length_drop]; omega), List.getElem?_drop, Nat.mod_eq_of_lt h]
  · rw [List.getElem?_append_right (by rw [List.length_drop]; omega), List.length_drop, List.getElem?_take_of_lt (by omega)]
    have e : (a + i) % l.length = a + i - l.length := by
      rw [Nat.mod_eq_sub_mod (by omega), Nat.mod_eq_of_lt (by omega)]
    rw [e, show i - (l.length - a) = a + i - l.length by omega]
theorem ext_len {l m : List α} (h : l.length = m.length) (g : ∀ i, i < l.length → l[i]? = m[i]?) : l = m := by
  apply List.ext_getElem? 
  intro i
  by_cases hi : i < l.length
  · exact g i hi
  · rw [List.getElem?_eq_none_iff.mpr (by omega), List.getElem?_eq_none_iff.mpr (by omega)]
theorem rot_rot {l : List α} {a b : Nat} (ha : a ≤ l.length) (hb : b ≤ l.length) (hl : 0 < l.length) : rot (rot l a) b = rot l ((a + b) % l.length) := by
  apply ext_len
  · rw [rot_len, rot_len, rot_len]
  · intro i hi
    rw [rot_len, rot_len] at hi
    have hm : (a + b) % l.length < l.length := Nat.mod_lt _ hl
    rw [rot_get (by rw [rot_len]; exact hb) (by rw [rot_len]; exact hi), rot_len, rot_get ha (Nat.mod_lt _ hl), rot_get (Nat.le_of_lt hm) hi]
    congr 1
    simp only [Nat.add_mod_mod, Nat.mod_add_mod, Nat.add_assoc]
/-- one goes behind all -/
def rot1 : List α → List α
  | [] => []
  | x :: r => r ++ [x]
theorem rot1_eq {l : List α} (h : 0 < l.length) : rot1 l = rot l 1 := by
  cases l with
  | nil => simp at h
  | cons x r => simp [rot1, rot]
theorem rot1_len (l : List α) : (rot1 l).length = l.length := by
  cases l with
  | nil => rfl
  | cons x r => simp [rot1]
def rotN : Nat → List α → List α
  | 0, l => l
  | k + 1, l => rotN k (rot1 l)
theorem rotN_len : ∀ (k : Nat) (l : List α), (rotN k l).length = l.length
  | 0, _ => rfl
  | k + 1, l => by rw [rotN, rotN_len k, rot1_len]
theorem rotN_eq : ∀ (k : Nat) (l : List α), 0 < l.length → rotN k l = rot l (k % l.length)
  | 0, l, h => by rw [rotN, Nat.zero_mod, rot_zero]
  | k + 1, l, h => by
    have h1 : 0 < (rot1 l).length := by rw [rot1_len]; exact h
    rw [rotN, rotN_eq k _ h1, rot1_len, rot1_eq h, rot_rot (by omega) (Nat.le_of_lt (Nat.mod_lt _ h)) h]
    congr 1
    rw [Nat.add_mod_mod, Nat.add_comm]
theorem rotN_congr {j k : Nat} {l : List α} (h : j % l.length = k % l.length) : rotN j l = rotN k l := by
  by_cases hl : 0 < l.length
  · rw [rotN_eq j l hl, rotN_eq k l hl, h]
  · have : l = [] := by
      cases l with
      | nil => rfl
      | cons x r => simp at hl
    subst this
    have : ∀ k : Nat, rotN k ([] : List α) = [] := by
      intro k; induction k with
      | zero => rfl
      | succ k ih => exact ih
    rw [this, this]
theorem rotN_succ : ∀ (k : Nat) (l : List α), rotN (k + 1) l = rot1 (rotN k l)
  | 0, _ => rfl
  | k + 1, l => by rw [rotN, rotN_succ k (rot1 l)]; rfl
/-- who goes, one behind the other: s more are passed by each time (the step less 1) -/
def out (s : Nat) : Nat → List α → List α
  | 0, _ => []
  | n + 1, l => match rotN s l with
    | [] => []
    | x :: t => x :: out s n t
theorem out_len (s : Nat) : ∀ (n : Nat) (l : List α), l.length = n → (out s n l).length = n
  | 0, l, h => rfl
  | n + 1, l, h => by
    have hl := rotN_len s l
    unfold out
    split
    · rename_i e; rw [e] at hl; simp at hl; omega
    · rename_i x t e
      rw [e] at hl
      rw [List.length_cons, out_len s n t (by simp at hl; omega)]
theorem rot1_perm (l : List α) : (rot1 l).Perm l := by
  cases l with
  | nil => exact List.Perm.refl _
  | cons x r => exact List.perm_append_comm (l₁ := r) (l₂ := [x])
theorem rotN_perm : ∀ (k : Nat) (l : List α), (rotN k l).Perm l
  | 0, _ => List.Perm.refl _
  | k + 1, l => (rotN_perm k (rot1 l)).trans (rot1_perm l)
theorem out_perm (s : Nat) : ∀ (n : Nat) (l : List α), l.length = n → (out s n l).Perm l
  | 0, l, h => by
    have : l = [] := List.eq_nil_of_length_eq_zero h
    subst this; exact List.Perm.refl _
  | n + 1, l, h => by
    have hl := rotN_len s l
    have hp := rotN_perm s l
    unfold out
    split
    · rename_i e; rw [e] at hl; simp at hl; omega
    · rename_i x t e
      rw [e] at hl hp
      exact (List.Perm.cons x (out_perm s n t (by simp at hl; omega))).trans hp
theorem out_congr {s s' : Nat} : ∀ (n : Nat) (l : List α), l.length = n → (∀ k, 1 ≤ k → k ≤ n → s % k = s' % k) → out s n l = out s' n l
  | 0, _, _, _ => rfl
  | n + 1, l, h, hk => by
    have e : rotN s l = rotN s' l := rotN_congr (by rw [h]; exact hk (n + 1) (by omega) (Nat.le_refl _))
    have hl := rotN_len s' l
    unfold out
    rw [e]
    split
    · rfl
    · rename_i x t e'
      rw [e'] at hl
      rw [out_congr n t (by simp at hl; omega) fun k h1 h2 => hk k h1 (by omega)]
theorem rot1_map (f : α → β) (l : List α) : rot1 (l.map f) = (rot1 l).map f := by
  cases l with
  | nil => rfl
  | cons x r => simp [rot1]
theorem rotN_map (f : α → β) : ∀ (k : Nat) (l : List α), rotN k (l.map f) = (rotN k l).map f
  | 0, _ => rfl
  | k + 1, l => by rw [rotN, rot1_map, rotN_map f k]; rfl
theorem out_map (f : α → β) (s : Nat) : ∀ (n : Nat) (l : List α), out s n (l.map f) = (out s n l).map f
  | 0, _ => rfl
  | n + 1, l => by
    unfold out
    rw [rotN_map]
    cases rotN s l with
    | nil => rfl
    | cons x t => simp [out_map f s n t]
theorem rot_map (f : α → β) (l : List α) (a : Nat) : rot (l.map f) a = (rot l a).map f := by
  simp [rot, List.map_drop, List.map_take]
/-- the ring as a list and a place in it: one turn -/
theorem out_at {s a n : Nat} {l : List α} (hn : l.length = n + 1) (ha : a ≤ l.length) {x : α} (hx : l[(a + s) % l.length]? = some x) :
    out s (n + 1) (rot l a) = x :: out s n (rot (l.eraseIdx ((a + s) % l.length)) ((a + s) % l.length)) := by
  have hl : 0 < l.length := by omega
  have hj : (a + s) % l.length < l.length := Nat.mod_lt _ hl
  have e : rotN s (rot l a) = rot l ((a + s) % l.length) := by
    rw [rotN_eq s _ (by rw [rot_len]; exact hl), rot_len, rot_rot ha (Nat.le_of_lt (Nat.mod_lt _ hl)) hl, Nat.add_mod_mod]
  have e2 : rot l ((a + s) % l.length) = x :: rot (l.eraseIdx ((a + s) % l.length)) ((a + s) % l.length) := by
    generalize (a + s) % l.length = j at hx hj
    unfold rot
    obtain ⟨h1, h2⟩ := List.getElem?_eq_some_iff.mp hx
    rw [List.drop_eq_getElem_cons h1, h2, List.eraseIdx_eq_take_drop_succ, List.cons_append]
    have hk : (l.take j).length = j := by rw [List.length_take]; omega
    congr 1
    rw [List.drop_append, List.take_append, hk]
    simp [List.take_of_length_le (show (l.take j).length ≤ j by omega)]
  rw [out, e, e2]
/-! ## numbers told on and on -/
/-- who are left, the next one first, when t numbers have been told -/
def tell (d : Nat) (l : List α) : Nat → List α
  | 0 => l
  | t + 1 => match tell d l t with
    | [] => []
    | x :: r => if (t + 1) % d = 0 then r else r ++ [x]
theorem div_succ {t d : Nat} (_ : 0 < d) (h : (t + 1) % d = 0) : (t + 1) / d = t / d + 1 := by
  rw [Nat.succ_div, if_pos (Nat.dvd_of_mod_eq_zero h)]
theorem div_succ' {t d : Nat} (_ : 0 < d) (h : (t + 1) % d ≠ 0) : (t + 1) / d = t / d := by
  rw [Nat.succ_div, if_neg (fun z => h (Nat.mod_eq_zero_of_dvd z))]; omega
theorem tell_len {d : Nat} {l : List α} (hd : 0 < d) : ∀ t, t ≤ l.length * d → (tell d l t).length = l.length - t / d
  | 0, _ => by simp [tell]
  | t + 1, h => by
    have ih := tell_len (l := l) hd t (by omega)
    have hq : t / d < l.length := Nat.div_lt_of_lt_mul (by rw [Nat.mul_comm]; omega)
    unfold tell
    split
    · rename_i e; rw [e] at ih; simp at ih; omega
    · rename_i x r e
      rw [e, List.length_cons] at ih
      by_cases hz : (t + 1) % d = 0
      · rw [if_pos hz, div_succ hd hz]; omega
      · rw [if_neg hz, div_succ' hd hz, List.length_append]; simp; omega
/-- who is told a number -/
def told (d : Nat) (l : List α) (n : Nat) : Option α := (tell d l (n - 1))[0]?
theorem tell_shift {d : Nat} {l : List α} (hd : 0 < d) : ∀ (p t : Nat), t ≤ l.length * d → p < (tell d l t).length → (tell d l t)[p]? = (tell d l (t + p))[0]?
  | 0, t, _, _ => rfl
  | p + 1, t, ht, hp => by
    have hlen := tell_len (l := l) hd t ht
    have hq : t / d < l.length := by omega
    have ht' : t + 1 ≤ l.length * d := by
      have h1 := Nat.div_add_mod t d
      have h2 := Nat.mod_lt t hd
      have h3 : (t / d + 1) * d ≤ l.length * d := Nat.mul_le_mul_right d hq
      have h4 : (t / d + 1) * d = d * (t / d) + d := by rw [Nat.add_mul, Nat.one_mul, Nat.mul_comm]
      omega
    have key : (tell d l t)[p + 1]? = (tell d l (t + 1))[p]? ∧ p < (tell d l (t + 1)).length := by
      show _ = (match tell d l t with | [] => [] | x :: r => if (t + 1) % d = 0 then r else r ++ [x])[p]? ∧ p < (match tell d l t with | [] => [] | x :: r => if (t + 1) % d = 0 then r else r ++ [x]).length
      cases e : tell d l t with
      | nil => rw [e] at hp; simp at hp
      | cons x r =>
        rw [e, List.length_cons] at hp
        show (x :: r)[p + 1]? = (if (t + 1) % d = 0 then r else r ++ [x])[p]? ∧ p < (if (t + 1) % d = 0 then r else r ++ [x]).length
        by_cases hz : (t + 1) % d = 0
        · rw [if_pos hz]; exact ⟨by simp, by omega⟩
        · rw [if_neg hz]; refine ⟨?_, by simp; omega⟩
          rw [List.getElem?_append_left (by omega)]; simp
    rw [key.1, tell_shift hd p (t + 1) ht' key.2, show t + 1 + p = t + (p + 1) by omega]
theorem told_first {d : Nat} {l : List α} (hd : 0 < d) {n : Nat} (h1 : 1 ≤ n) (h2 : n ≤ l.length) : told d l n = l[n - 1]? := by
  have h := tell_shift (l := l) hd (n - 1) 0 (Nat.zero_le _) (by show n - 1 < l.length; omega)
  rw [Nat.zero_add] at h
  exact h.symm
theorem told_leap {d : Nat} {l : List α} (hd : 0 < d) {n : Nat} (h1 : 1 ≤ n) (h2 : n ≤ l.length * d) (hz : n % d ≠ 0) : told d l (l.length + n - n / d) = told d l n := by
  obtain ⟨t, rfl⟩ : ∃ t, n = t + 1 := ⟨n - 1, by omega⟩
  have hlen := tell_len (l := l) hd t (by omega)
  have hdv := div_succ' hd hz
  have hq : t / d < l.length := Nat.div_lt_of_lt_mul (by rw [Nat.mul_comm]; omega)
  have hlen1 := tell_len (l := l) hd (t + 1) h2
  rw [hdv] at hlen1
  show (tell d l (l.length + (t + 1) - (t + 1) / d - 1))[0]? = (tell d l (t + 1 - 1))[0]?
  rw [hdv, show l.length + (t + 1) - t / d - 1 = (t + 1) + (l.length - t / d - 1) by omega,
    ← tell_shift hd (l.length - t / d - 1) (t + 1) h2 (by omega)]
  show (match tell d l t with | [] => [] | x :: r => if (t + 1) % d = 0 then r else r ++ [x])[l.length - t / d - 1]? = (tell d l t)[0]?
  cases e : tell d l t with
  | nil => rw [e] at hlen; simp at hlen; omega
  | cons x r =>
    rw [e, List.length_cons] at hlen
    show (if (t + 1) % d = 0 then r else r ++ [x])[l.length - t / d - 1]? = some x
    rw [if_neg hz, List.getElem?_append_right (by omega)]
    rw [show l.length - t / d - 1 - r.length = 0 by omega]; rfl
theorem tell_turn {d : Nat} {l : List α} (hd : 0 < d) (c : Nat) : ∀ k, k < d → tell d l (c * d + k) = rotN k (tell d l (c * d))
  | 0, _ => rfl
  | k + 1, h => by
    have hz : (c * d + k + 1) % d ≠ 0 := by
      rw [Nat.add_assoc, Nat.add_comm, Nat.add_mul_mod_self_right, Nat.mod_eq_of_lt h]; omega
    rw [rotN_succ, ← tell_turn hd c k (by omega)]
    show (match tell d l (c * d + k) with | [] => [] | x :: r => if (c * d + k + 1) % d = 0 then r else r ++ [x]) = _
    cases tell d l (c * d + k) with
    | nil => rfl
    | cons x r => show (if (c * d + k + 1) % d = 0 then r else r ++ [x]) = r ++ [x]; rw [if_neg hz]
theorem out_tell {d : Nat} {l : List α} (hd : 0 < d) : ∀ (n c i : Nat), c + n = l.length → i < n → (out (d - 1) n (tell d l (c * d)))[i]? = told d l ((c + i + 1) * d)
  | 0, _, _, _, h => by omega
  | n + 1, c, i, hc, hi => by
    have hlen : (tell d l (c * d)).length = n + 1 := by
      rw [tell_len hd _ (Nat.mul_le_mul_right d (by omega)), Nat.mul_div_cancel _ hd]; omega
    have ht := tell_turn (l := l) hd c (d - 1) (by omega)
    have hl2 := rotN_len (d - 1) (tell d l (c * d))
    have hnext : tell d l ((c + 1) * d) = (rotN (d - 1) (tell d l (c * d))).tail := by
      rw [show (c + 1) * d = (c * d + (d - 1)) + 1 by rw [Nat.add_mul, Nat.one_mul]; omega]
      show (match tell d l (c * d + (d - 1)) with | [] => [] | x :: r => if (c * d + (d - 1) + 1) % d = 0 then r else r ++ [x]) = _
      rw [ht]
      have hz : (c * d + (d - 1) + 1) % d = 0 := by
        rw [Nat.add_assoc, show d - 1 + 1 = d by omega, Nat.add_mod_right, Nat.mul_mod_left]
      cases rotN (d - 1) (tell d l (c * d)) with
      | nil => rfl
      | cons x r => show (if (c * d + (d - 1) + 1) % d = 0 then r else r ++ [x]) = r; rw [if_pos hz]
    cases e : rotN (d - 1) (tell d l (c * d)) with
    | nil => rw [e, hlen] at hl2; simp at hl2
    | cons x r =>
      rw [e] at hnext ht
      have hn : tell d l ((c + 1) * d) = r := hnext
      rw [out, e]
      show (x :: out (d - 1) n r)[i]? = _
      cases i with
      | zero =>
        show some x = (tell d l ((c + 0 + 1) * d - 1))[0]?
        rw [show (c + 0 + 1) * d - 1 = c * d + (d - 1) by rw [Nat.add_zero, Nat.add_mul, Nat.one_mul]; omega, ht]; rfl
      | succ i =>
        have ih := out_tell (l := l) hd n (c + 1) i (by omega) (by omega)
        rw [hn] at ih
        rw [List.getElem?_cons_succ, ih, show c + 1 + i + 1 = c + (i + 1) + 1 by omega]
/-- at a count the one goes who is told the count's number -/
theorem out_told {d : Nat} {l : List α} (hd : 0 < d) {i : Nat} (hi : i < l.length) : (out (d - 1) l.length l)[i]? = told d l ((i + 1) * d) := by
  have h := out_tell (l := l) hd l.length 0 i (by omega) hi
  rw [Nat.zero_mul] at h
  rw [show (i + 1) = 0 + i + 1 by omega]
  exact h
/-! ## the two loops over numbers -/
theorem leap_up {m d n : Nat} (hd : 0 < d) (h2 : n ≤ m * d) (hz : n % d ≠ 0) : n < m + n - n / d ∧ m + n - n / d ≤ m * d ∧ n / d < m := by
  have h1 := Nat.div_add_mod n d
  have h3 := Nat.mod_lt n hd
  have hq : n / d < m := by
    apply Nat.div_lt_of_lt_mul
    rcases Nat.lt_or_ge n (m * d) with h | h
    · rw [Nat.mul_comm]; exact h
    · have e : n = m * d := by omega
      rw [e, Nat.mul_mod_left] at hz; exact absurd rfl hz
  refine ⟨by omega, ?_, hq⟩
  obtain ⟨k, hk⟩ : ∃ k, m = n / d + 1 + k := ⟨m - n / d - 1, by omega⟩
  obtain ⟨e, he⟩ : ∃ e, d = e + 1 := ⟨d - 1, by omega⟩
  have h4 : m * d = d * (n / d) + d + k * d := by
    rw [hk, Nat.add_mul, Nat.add_mul, Nat.one_mul, Nat.mul_comm (n / d) d]
  have h5 : k * d = k * e + k := by rw [he, Nat.mul_add, Nat.mul_one]
  omega
theorem leap_down {m d n : Nat} (hd : 0 < d) (h1 : m < n) (h2 : n ≤ m * d) :
    2 ≤ d ∧ 1 ≤ (n - m) + (n - m - 1) / (d - 1) ∧ (n - m) + (n - m - 1) / (d - 1) < n ∧ ((n - m) + (n - m - 1) / (d - 1)) % d ≠ 0 ∧ m + ((n - m) + (n - m - 1) / (d - 1)) - ((n - m) + (n - m - 1) / (d - 1)) / d = n := by
  have hd2 : 2 ≤ d := by
    rcases Nat.lt_or_ge d 2 with h | h
    · have : d = 1 := by omega
      subst this; omega
    · exact h
  obtain ⟨e, he⟩ : ∃ e, d = e + 1 := ⟨d - 1, by omega⟩
  subst he
  have h3 := Nat.div_add_mod (n - m - 1) e
  have h4 := Nat.mod_lt (n - m - 1) (show 0 < e by omega)
  rw [Nat.add_sub_cancel]
  generalize hq : (n - m - 1) / e = q at *
  generalize hr : (n - m - 1) % e = r at *
  have hqm : q < m := by
    rw [← hq]
    apply Nat.div_lt_of_lt_mul
    rw [Nat.mul_add, Nat.mul_one] at h2
    rw [Nat.mul_comm]; omega
  have en : n - m + q = (r + 1) + q * (e + 1) := by
    rw [Nat.mul_add, Nat.mul_one, Nat.mul_comm q e]; omega
  have hmod : (n - m + q) % (e + 1) = r + 1 := by
    rw [en, Nat.add_mul_mod_self_right, Nat.mod_eq_of_lt (by omega)]
  have hdiv : (n - m + q) / (e + 1) = q := by
    rw [en, Nat.add_mul_div_right _ _ (by omega), Nat.div_eq_of_lt (by omega)]; omega
  rw [hmod, hdiv]
  omega
theorem told_back {d : Nat} {l : List α} (hd : 0 < d) {n : Nat} (h1 : l.length < n) (h2 : n ≤ l.length * d) :
    told d l ((n - l.length) + (n - l.length - 1) / (d - 1)) = told d l n := by
  obtain ⟨_, a, b, c, e⟩ := leap_down hd h1 h2
  have h := told_leap (l := l) hd a (by omega) c
  rw [e] at h
  exact h.symm
theorem nodup_get {l : List α} (h : l.Nodup) {i j : Nat} {x : α} (a : l[i]? = some x) (b : l[j]? = some x) : i = j := by
  obtain ⟨h1, e1⟩ := List.getElem?_eq_some_iff.mp a
  obtain ⟨h2, e2⟩ := List.getElem?_eq_some_iff.mp b
  exact (List.getElem_inj h).mp (e1.trans e2.symm)
/-! ## places in a ring of numbers -/
def ring (m b : Nat) : List Nat := rot (List.range m) b
theorem ring_len (m b : Nat) : (ring m b).length = m := by rw [ring, rot_len, List.length_range]
theorem ring_get {m b i : Nat} (hb : b ≤ m) (hi : i < m) : (ring m b)[i]? = some ((b + i) % m) := by
  have h := rot_get (l := List.range m) (a := b) (i := i) (by rw [List.length_range]; exact hb) (by rw [List.length_range]; exact hi)
  rw [List.length_range] at h
  rw [ring, h, List.getElem?_range (Nat.mod_lt _ (by omega))]
/-- the places in the order in which they go -/
def order (d m b : Nat) : List Nat := out (d - 1) m (ring m b)
theorem order_len (d m b : Nat) : (order d m b).length = m := out_len _ _ _ (ring_len m b)
theorem rot_perm (l : List α) (a : Nat) : (rot l a).Perm l := by
  unfold rot
  exact List.perm_append_comm.trans (by rw [List.take_append_drop])
theorem order_perm (d m b : Nat) : (order d m b).Perm (List.range m) := (out_perm _ _ _ (ring_len m b)).trans (rot_perm _ _)
theorem order_nodup (d m b : Nat) : (order d m b).Nodup := (order_perm d m b).nodup_iff.mpr List.nodup_range
theorem order_lt {d m b x : Nat} (h : x ∈ order d m b) : x < m := List.mem_range.mp ((order_perm d m b).mem_iff.mp h)
theorem order_mem {d m b x : Nat} (h : x < m) : x ∈ order d m b := (order_perm d m b).mem_iff.mpr (List.mem_range.mpr h)
theorem order_told {d m b i : Nat} (hd : 0 < d) (hi : i < m) : (order d m b)[i]? = told d (ring m b) ((i + 1) * d) := by
  have h := out_told (l := ring m b) hd (i := i) (by rw [ring_len]; exact hi)
  rw [ring_len] at h
  exact h
end Jos

namespace Jos
variable {α β : Type}
theorem ring_map (m b : Nat) (h : b ≤ m) : ring m b = (ring m 0).map (fun i => (b + i) % m) := by
  apply ext_len
  · rw [List.length_map, ring_len, ring_len]
  · intro i hi
    rw [ring_len] at hi
    rw [ring_get h hi, List.getElem?_map, ring_get (Nat.zero_le _) hi]
    simp only [Option.map_some, Nat.zero_add, Nat.add_mod_mod]
theorem order_map (d m b : Nat) (h : b ≤ m) : order d m b = (order d m 0).map (fun i => (b + i) % m) := by
  unfold order
  rw [ring_map m b h, out_map]
/-- a begin turned -/
theorem order_turn {d m b c p : Nat} (h : b ≤ m) (hc : (order d m 0)[c]? = some p) : (order d m b)[c]? = some ((b + p) % m) := by
  rw [order_map d m b h, List.getElem?_map, hc]; rfl
/-- the first one gone, the rest is a ring of one fewer -/
theorem order_succ (d n : Nat) (hd : 0 < d) : order d (n + 1) 0 = ((d - 1) % (n + 1)) :: (order d n 0).map (fun i => (i + d) % (n + 1)) := by
  have h0 : ring (n + 1) 0 = List.range (n + 1) := rot_zero _
  have hx : (List.range (n + 1))[(0 + (d - 1)) % (List.range (n + 1)).length]? = some ((d - 1) % (n + 1)) := by
    rw [List.length_range, Nat.zero_add, List.getElem?_range (Nat.mod_lt _ (by omega))]
  have h := out_at (s := d - 1) (a := 0) (n := n) (l := List.range (n + 1)) (by rw [List.length_range]) (Nat.zero_le _) hx
  unfold order
  rw [h0, ← rot_zero (List.range (n + 1)), h]
  congr 1
  rw [List.length_range, Nat.zero_add]
  have hj : (d - 1) % (n + 1) < n + 1 := Nat.mod_lt _ (by omega)
  have e : rot ((List.range (n + 1)).eraseIdx ((d - 1) % (n + 1))) ((d - 1) % (n + 1)) = (ring n 0).map (fun i => (i + d) % (n + 1)) := by
    generalize hJ : (d - 1) % (n + 1) = j at hj
    have hl : ((List.range (n + 1)).eraseIdx j).length = n := by rw [List.length_eraseIdx, List.length_range, if_pos hj]; omega
    apply ext_len
    · rw [rot_len, hl, List.length_map, ring_len]
    · intro i hi
      rw [rot_len, hl] at hi
      rw [rot_get (by rw [hl]; omega) (by rw [hl]; exact hi), hl, List.getElem?_map, ring_get (Nat.zero_le _) hi, List.getElem?_eraseIdx]
      have e2 : (i + d) % (n + 1) = (j + i + 1) % (n + 1) := by
        rw [show i + d = (d - 1) + (i + 1) by omega, show j + i + 1 = j + (i + 1) by omega, ← hJ, Nat.mod_add_mod]
      simp only [Option.map_some, Nat.zero_add, Nat.mod_eq_of_lt hi, e2]
      by_cases hw : j + i < n
      · rw [Nat.mod_eq_of_lt hw, if_neg (by omega), List.getElem?_range (by omega), Nat.mod_eq_of_lt (by omega)]
      · have e3 : (j + i) % n = j + i - n := by
          by_cases hjn : j + i < n + n
          · rw [Nat.mod_eq_sub_mod (by omega), Nat.mod_eq_of_lt (by omega)]
          · omega
        rw [e3, if_pos (by omega), List.getElem?_range (by omega)]
        rw [show j + i + 1 = (j + i - n) + (n + 1) by omega, Nat.add_mod_right, Nat.mod_eq_of_lt (by omega)]
  rw [e, out_map]
theorem order_zero {d n : Nat} (hd : 0 < d) (hn : 0 < n) : (order d n 0)[0]? = some ((d - 1) % n) := by
  obtain ⟨k, rfl⟩ : ∃ k, n = k + 1 := ⟨n - 1, by omega⟩
  rw [order_succ d k hd]; rfl
theorem order_next {d n c p : Nat} (hd : 0 < d) (h : (order d n 0)[c]? = some p) : (order d (n + 1) 0)[c + 1]? = some ((p + d) % (n + 1)) := by
  rw [order_succ d n hd, List.getElem?_cons_succ, List.getElem?_map, h]; rfl
/-- hand by hand more, no round ending -/
theorem order_leap {d n c p : Nat} (hd : 0 < d) (h : (order d n 0)[c]? = some p) : ∀ L, p + (d - 1) * L < n → (order d (n + L) 0)[c + L]? = some (p + d * L)
  | 0, _ => by rw [Nat.mul_zero]; exact h
  | L + 1, hL => by
    have e1 : (d - 1) * (L + 1) = (d - 1) * L + (d - 1) := by rw [Nat.mul_add, Nat.mul_one]
    have e2 : d * (L + 1) = d * L + d := by rw [Nat.mul_add, Nat.mul_one]
    have e3 : d * L = (d - 1) * L + L := by
      obtain ⟨e, rfl⟩ : ∃ e, d = e + 1 := ⟨d - 1, by omega⟩
      rw [Nat.add_sub_cancel, Nat.add_mul, Nat.one_mul]
    have ih := order_leap hd h L (by omega)
    have k := order_next hd ih
    rw [show n + (L + 1) = n + L + 1 by omega, show c + (L + 1) = c + L + 1 by omega, k, Nat.mod_eq_of_lt (by omega)]
    congr 1
    omega
theorem order_leap1 {d n c p : Nat} (hd : 0 < d) (h : (order d n 0)[c]? = some p) (L : Nat) (hL : 1 ≤ L) (hk : p + (d - 1) * (L - 1) < n) : (order d (n + L) 0)[c + L]? = some ((p + d * L) % (n + L)) := by
  obtain ⟨k, rfl⟩ : ∃ k, L = k + 1 := ⟨L - 1, by omega⟩
  rw [Nat.add_sub_cancel] at hk
  have ih := order_leap hd h k hk
  have g := order_next hd ih
  rw [show n + (k + 1) = n + k + 1 by omega, show c + (k + 1) = c + k + 1 by omega, g]
  congr 2
  rw [Nat.mul_add, Nat.mul_one]; omega
end Jos

set_option Elab.async false
set_option linter.all false
set_option maxRecDepth 100000
set_option maxHeartbeats 2000000
namespace Cd
open PySem PySem.Spec PyProof.Rows L2
open Evl (Ex)
/-! ### operations by short names -/
abbrev oAdd : R2 := rI0 fun i j => .int (i + j)
abbrev oSub : R2 := rI0 fun i j => .int (i - j)
abbrev oMul : R2 := rI CMul fun i j => .int (i * j)
abbrev oMod : R2 := rI (fun _ j => 0 < j) fun i j => .int (i % j)
abbrev oFdiv : R2 := rI CDiv fun i j => .int (i / j)
abbrev oPow : R2 := rI CPow fun i j => .int (i ^ j.toNat)
abbrev oLt : R2 := rI0 fun i j => .bl (decide (i < j))
abbrev oLe : R2 := rI0 fun i j => .bl (decide (i ≤ j))
abbrev oGt : R2 := rI0 fun i j => .bl (decide (j < i))
abbrev oGe : R2 := rI0 fun i j => .bl (decide (j ≤ i))
abbrev oNeg : V → Hp → VK → Prop := rU fun i => .int (-i)
abbrev oAddS : R2 := fun x y H Q => ∃ i j, x = .str i ∧ y = .str j ∧ i.length + j.length ≤ sizeLine ∧ Q (.str (i ++ j)) H
abbrev oIsN : R2 := fun x y H Q => y = .non ∧ Q (.bl (decide (x = .non))) H
abbrev oNotN : R2 := fun x y H Q => y = .non ∧ Q (.bl (!decide (x = .non))) H
abbrev oMin2 : List V → Hp → VK → Prop := fun xs H Q => ∃ i j, xs = [.int i, .int j] ∧ Q (.int (if j < i then j else i)) H
abbrev oMax2 : List V → Hp → VK → Prop := fun xs H Q => ∃ i j, xs = [.int i, .int j] ∧ Q (.int (if j > i then j else i)) H
abbrev oStrI : List V → Hp → VK → Prop := fun xs H Q => ∃ i : Int, xs = [.int i] ∧ i.natAbs.log2 < 1920 ∧ Q (.str (toString i)) H
abbrev rLenL (K : PySem.W.Frag) : List V → Hp → VK → Prop := fun xs H Q => ∃ p ys, xs = [.ref p] ∧ (SqL K H p ys ∨ SqT K H p ys) ∧ Q (.int (ys.length : Int)) H
abbrev rLenV (K : PySem.W.Frag) : List V → Hp → VK → Prop := fun xs H Q => ∃ x n, xs = [x] ∧ LenV K x H n ∧ Q (.int (n : Int)) H
abbrev rListOf (K : PySem.W.Frag) : List V → Hp → VK → Prop := fun xs H Q => ∃ p ys, xs = [.ref p] ∧ (SqL K H p ys ∨ SqT K H p ys) ∧ ∀ l, H l = none → Q (.ref l) (upd H l (.lst ys))
abbrev rInsert : V → List V → Hp → VK → Prop := fun x vs H Q => ∃ (l : Addr) (xs : List V) (i : Int) (y : V), x = .ref l ∧ vs = [.int i, y] ∧ H l = some (.lst xs) ∧ xs.length < sizeLine ∧ 0 ≤ i ∧ i < 2 ^ 63 ∧
    Q .non (upd H l (.lst (xs.take i.toNat ++ [y] ++ xs.drop i.toNat)))
abbrev tRaise (C : Addr) (E : XK) : TS := fun _ _ H => E (.ref C) none H
theorem iteC {c : Bool} {A B : Prop} (h1 : c = true → A) (h2 : c = false → B) : if c = true then A else B := by
  cases c with
  | true => exact iteT (h1 rfl)
  | false => exact iteF (h2 rfl)
/-! ### data that compares plainly -/
/-- numbers and texts, None -/
def plain : V → Bool
  | .int _ => true
  | .str x => PyData.strOk x
  | .non => true
  | _ => false
def dat : V → PyData
  | .int i => .int i
  | .str x => .str x
  | _ => .none
theorem dat_dp {K : PySem.W.Frag} {H : Hp} {v : V} (h : plain v = true) : Dp K H v (dat v) := by
  cases v <;> first | exact .int _ | exact .str _ | exact .non | (simp [plain] at h; done)
theorem dats_dp {K : PySem.W.Frag} {H : Hp} : ∀ {vs : List V}, vs.all plain = true → DpAll K H vs (vs.map dat)
  | [], _ => .nil
  | v :: vs, h => by
    rw [List.all_cons, Bool.and_eq_true] at h
    exact .cons (dat_dp h.1) (dats_dp h.2)
theorem dat_eqv {v w : V} (h : plain v = true) (h' : plain w = true) : PyData.eqv (dat v) (dat w) = decide (v = w) := by
  cases v <;> cases w <;> first
    | (simp [plain] at h; done)
    | (simp [plain] at h'; done)
    | (simp [dat, PyData.eqv]; done)
    | (simp only [dat, PyData.eqv, V.int.injEq, V.str.injEq]; exact Bool.beq_eq_decide_eq _ _)
theorem dats_eqv : ∀ {vs ws : List V}, vs.all plain = true → ws.all plain = true → PyData.eqvAll (vs.map dat) (ws.map dat) = decide (vs = ws)
  | [], [], _, _ => by simp [PyData.eqvAll]
  | [], w :: ws, _, _ => by simp [PyData.eqvAll]
  | v :: vs, [], _, _ => by simp [PyData.eqvAll]
  | v :: vs, w :: ws, h, h' => by
    rw [List.all_cons, Bool.and_eq_true] at h h'
    rw [List.map_cons, List.map_cons, PyData.eqvAll, dat_eqv h.1 h'.1, dats_eqv h.2 h'.2]
    by_cases e : v = w
    · subst e; simp
    · simp [e]
theorem dats_can : ∀ {vs : List V}, vs.all plain = true → PyData.canLayAll0 (vs.map dat) = true
  | [], _ => by simp [PyData.canLayAll0]
  | v :: vs, h => by
    rw [List.all_cons, Bool.and_eq_true] at h
    rw [List.map_cons, PyData.canLayAll0, dats_can h.2, Bool.and_true]
    have h1 := h.1
    cases v <;> first | (simp [dat, PyData.canLay0]; done) | exact h1 | (simp [plain] at h1; done) | (simp only [dat, PyData.canLay0]; exact h1)
theorem dats_depth : ∀ vs : List V, PyData.depthAll (vs.map dat) = 0
  | [] => by simp [PyData.depthAll]
  | v :: vs => by
    rw [List.map_cons, PyData.depthAll, dats_depth vs]
    cases v <;> simp [dat, PyData.depth]
theorem dats_shaped {vs : List V} (h : vs.all plain = true) : SeqAt.shaped (.list (vs.map dat)) = true := by
  unfold SeqAt.shaped
  rw [PyData.canLay0, dats_can h, PyData.depth, dats_depth]
  rfl
/-- two lists of plain things -/
def rEqF (K : PySem.W.Frag) (neg : Bool) : R2 := fun x y H Q => ∃ p q xs ys, x = .ref p ∧ y = .ref q ∧ SqL K H p xs ∧ SqL K H q ys ∧ xs.all plain = true ∧ ys.all plain = true ∧ Q (.bl (if neg then !decide (xs = ys) else decide (xs = ys))) H
section
variable {X : Cx}
theorem op_eqF (hu : X.A.units + 64 < cLine) : OpR X (compareOp .Eq) (rEqF X.K false) := by
  intro pins s σ H x y v u Q I rx ry h
  obtain ⟨p, q, xs, ys, rfl, rfl, hp, hq, h1, h2, k⟩ := h
  refine op_eqD hu pins s σ H _ _ v u Q I rx ry ⟨_, _, .lst hp (dats_dp h1), .lst hq (dats_dp h2), dats_shaped h1, dats_shaped h2, ?_⟩
  rw [PyData.eqv, dats_eqv h1 h2]
  exact k
theorem op_neF (hu : X.A.units + 64 < cLine) : OpR X (compareOp .NotEq) (rEqF X.K true) := by
  intro pins s σ H x y v u Q I rx ry h
  obtain ⟨p, q, xs, ys, rfl, rfl, hp, hq, h1, h2, k⟩ := h
  refine op_neD hu pins s σ H _ _ v u Q I rx ry ⟨_, _, .lst hp (dats_dp h1), .lst hq (dats_dp h2), dats_shaped h1, dats_shaped h2, ?_⟩
  rw [PyData.eqv, dats_eqv h1 h2]
  exact k
end
end Cd

set_option Elab.async false
set_option linter.all false
set_option maxRecDepth 100000
set_option maxHeartbeats 4000000
/-! set(xs) of a list of texts, however many -/
namespace Tx
open PySem PySem.Spec PyProof.Rows
/-- those met so far, each once -/
def add1 (l : List Str) (x : Str) : List Str := if l.any (· == x) then l else l ++ [x]
def met (xs : List Str) (i : Nat) : List Str := (xs.take i).foldl add1 []
theorem met_next {xs : List Str} {i : Nat} {x : Str} (h : xs[i]? = some x) : met xs (i + 1) = add1 (met xs i) x := by
  unfold met
  rw [List.take_add_one, h, Option.toList_some, List.foldl_append]; rfl
theorem add1_any (l : List Str) (x k : Str) : (add1 l x).any (· == k) = (l.any (· == k) || decide (k = x)) := by
  unfold add1
  by_cases c : l.any (· == x) = true
  · rw [if_pos c]
    by_cases e : k = x
    · rw [e, c]; simp
    · simp [e]
  · rw [if_neg c]
    by_cases e : k = x
    · rw [e]; simp
    · have e' : (x == k) = false := beq_eq_false_iff_ne.mpr fun z => e z.symm
      simp [e, e']
theorem add1_len (l : List Str) (x : Str) : (add1 l x).length = if l.any (· == x) then l.length else l.length + 1 := by
  unfold add1; split <;> simp
theorem met_le (xs : List Str) : ∀ i, (met xs i).length ≤ i
  | 0 => by simp [met]
  | i + 1 => by
    have ih := met_le xs i
    cases h : xs[i]? with
    | none =>
      have e : met xs (i + 1) = met xs i := by
        unfold met
        rw [List.take_add_one, h]; simp
      rw [e]; omega
    | some x => rw [met_next h, add1_len]; split <;> omega
theorem met_mem (xs : List Str) (k : Str) : ∀ i, (met xs i).any (· == k) = true → k ∈ xs.take i
  | 0, h => by simp [met] at h
  | i + 1, h => by
    cases e : xs[i]? with
    | none =>
      have e2 : met xs (i + 1) = met xs i := by
        unfold met
        rw [List.take_add_one, e]; simp
      rw [e2] at h
      rw [List.take_add_one, e]
      exact List.mem_append_left _ (met_mem xs k i h)
    | some x =>
      rw [met_next e, add1_any, Bool.or_eq_true] at h
      rw [List.take_add_one, e]
      rcases h with h | h
      · exact List.mem_append_left _ (met_mem xs k i h)
      · have := of_decide_eq_true h
        subst this
        exact List.mem_append_right _ (by simp)
/-- all unlike: as many -/
theorem met_nodup {xs : List Str} (h : xs.Nodup) : ∀ i, i ≤ xs.length → (met xs i).length = i
  | 0, _ => by simp [met]
  | i + 1, hi => by
    have hx : xs[i]? = some xs[i] := List.getElem?_eq_getElem (by omega)
    rw [met_next hx, add1_len, met_nodup h i (by omega), if_neg]
    intro c
    have m := met_mem xs _ i c
    obtain ⟨j, hj, e⟩ := List.mem_iff_getElem.mp m
    rw [List.length_take] at hj
    rw [List.getElem_take] at e
    have := (List.getElem_inj h).mp e
    omega
section
variable {P : Program} {w : World} {A : Around} {R : Result → Shared → Prop} {It : Addr} {fp wr : List Addr} {G : Array GenState → Array GenState → Prop} {n : Nat} {Pv : Nat → Value → Prop} {T : Nat → Shared → Prop}
/-- the filling's turns, from the i-th on -/
theorem fill (W : WalksS P w A.in1 It fp wr G n Pv T) {S : Addr} (nf : S ∉ fp) {xs : List Str} (hz : n + 1 < scanBound) (hP : ∀ i v, Pv i v → ∃ x t, xs[i]? = some x ∧ v = .str x t) {m : Nat} :
    ∀ (i : Nat) (s : Shared), n - i = m → i ≤ n → T i s →
      s.heap.SetOf (PySem.strKind P w) S (fun k => (met xs i).any (· == k)) (met xs i).length →
      (∀ s1, Moved (S :: wr) G s s1 → s1.heap.SetOf (PySem.strKind P w) S (fun k => (met xs n).any (· == k)) (met xs n).length → R (.ok (.ret .none)) s1) →
      codeAny (model P w) A (.builtin "set.update.loop" { pos := [.ref S, .ref It], kw := [] }) R s := by
  have nw : S ∉ wr := fun z => nf (W.sub _ z)
  have wide : ∀ b ∈ wr, b ∈ S :: wr := fun b z => List.mem_cons.mpr (.inr z)
  have stays : ∀ {s s1 : Shared} {X : Str → Bool} {j : Nat}, Moved wr G s s1 → s.heap.SetOf (PySem.strKind P w) S X j → s1.heap.SetOf (PySem.strKind P w) S X j := fun mv z => by
    obtain ⟨o, es, ep, tb, ho, q⟩ := z
    exact ⟨o, es, ep, tb, mv.heap S _ nw ho, q⟩
  induction m with
  | zero =>
    intro i s hm hi st hS hR
    obtain rfl : i = n := by omega
    apply codeAny_builtin PyProof.Rows.F.entry_set_update_loop
    rw [Around.under_plainId PyProof.Rows.F.plain_set_update_loop]
    exact wpAny_bind (m := pyNext (.ref It)) (W.done s _ _ st fun s1 mv => wpAny_pure (hR s1 (mv.mono wide) (stays mv hS)))
  | succ m ih =>
    intro i s hm hi st hS hR
    apply codeAny_builtin PyProof.Rows.F.entry_set_update_loop
    rw [Around.under_plainId PyProof.Rows.F.plain_set_update_loop]
    refine wpAny_bind (m := pyNext (.ref It)) (W.item i s _ _ (by omega) st fun v s1 pv st1 mv => ?_)
    obtain ⟨x, t, hx, rfl⟩ := hP i v pv
    refine wpAny_bind (m := holding [Value.str x t] (setAdd S (.str x t))) (wpAny_holding ?_)
    unfold setAdd
    refine wpAny_holding (wpAny_bind ((PySem.strKind P w).pyHash (k := x) (strKind_is _ _ _ _) ?_))
    have few := met_le xs i
    refine wpAny_setAddHashed_of (knd := PySem.strKind P w) (k := x) (s := { s1 with toks := s1.toks + 1 }) (strKind_is _ _ _ _) rfl (show s1.heap.SetOf (PySem.strKind P w) S _ _ from stays mv hS) (Nat.lt_of_le_of_lt (Nat.succ_le_succ few) (by omega)) fun h2 sb hS2 => ?_
    have hS3 : h2.SetOf (PySem.strKind P w) S (fun k => (met xs (i + 1)).any (· == k)) (met xs (i + 1)).length := by
      refine SetOf_congr hS2 (fun k => ?_) ?_
      · rw [met_next hx, add1_any]
      · rw [met_next hx, add1_len]
    have nS : ∀ b ∈ fp, b ≠ S := fun b hb z => nf (z ▸ hb)
    refine wpAny_pure ⟨plainId_quiet PyProof.Rows.F.plain_set_update_loop _, ih (i + 1) _ (by omega) (by omega) (W.frame _ s1 _ _ st1 (Nat.le_succ _) fun b hb o e => (sb.2 b (nS b hb)).trans e) hS3 fun s3 mv3 q3 => hR s3 ?_ q3⟩
    refine Moved.trans W.gtrans ((mv.mono wide).then_heap (Nat.le_succ _) fun b o hb e => ?_) mv3
    exact (sb.2 b fun z => hb (List.mem_cons.mpr (.inl z))).trans e
end

section
variable {P : Program} {w : World} {A : Around} {E : Value → Shared → Prop} {s : Shared}
abbrev newSet (led : Bool) : Obj := { cls := .type "set", dict := none, data := .set #[] 0 (.fresh 0 0 led) }
/-- the new set is filled: behind set.__init__ -/
def Filled (P : Program) (w : World) (s : Shared) (xs : List Str) (h2 : Heap) : Prop :=
  h2.SetOf (PySem.strKind P w) s.heap.objs.size (fun k => (met xs xs.length).any (· == k)) (met xs xs.length).length ∧ ∀ b o, b < s.heap.objs.size → s.heap.get? b = some o → h2.get? b = some o
set_option maxHeartbeats 8000000 in
theorem call_set {l : Addr} {its : Array Value} {xs : List Str} {Q : Value → Shared → Prop} (hh : A.handled = none) (hl : s.heap.IsList l its) (hx : StrsAre its.toList xs) (hz : xs.length + 1 < scanBound)
    (q : ∀ h2 tk, Filled P w s xs h2 → Q (.ref s.heap.objs.size) { s with heap := h2, toks := tk }) : wpAny (model P w) A (call (.type "set") [.ref l]) Q E s := by
  have len : its.size = xs.length := by rw [← Array.length_toList]; exact hx.length
  obtain ⟨_, _, mr⟩ := PySem.F.called_set.mro
  have k1 := PySem.F.called_set.made
  have k2 := PySem.F.called_set.sub
  have k3 := PySem.F.called_set.notType
  have k4 := PySem.F.called_set.canCreate
  have k5 := PySem.F.typeCall_set_1 (.ref l)
  apply wpAny_call
  apply codeAny_of_tree
  show wpAny _ _ (callAny (.type "set") _) _ _ _
  refine wpAny_pure ⟨Code.quiet_builtin _ (by decide +kernel), codeAny_builtin PySem.F.entry_type_call ?_⟩
  have wt := weight_type_call_type "set" [.ref l] []
  rw [Around.under_plain wt rfl]
  repeat (any_goals (first | assumption | wp_step))
  -- set.__new__
  refine codeAny_mono (code_set_new_1 (.ref l) (E := E) (Q₁ := fun v s1 => ∃ led, v = .ref s.heap.objs.size ∧ s1 = { s with heap := s.heap.push (newSet led) }) fun led => ⟨led, rfl, rfl⟩) fun r s1 hr => ?_
  cases r with
  | error e => exact hr
  | ok fl =>
    cases fl with
    | next => exact False.elim hr
    | brk => exact False.elim hr
    | cont => exact False.elim hr
    | ret v =>
      obtain ⟨led, ev, es⟩ := hr
      subst ev es
      have at0 : (s.heap.push (newSet led)).get? s.heap.objs.size = some (newSet led) := Heap.get?_push_size _ rfl
      have ty0 : Shared.TypeIs { s with heap := s.heap.push (newSet led) } (.ref s.heap.objs.size) "set" := ⟨newSet led, at0, rfl⟩
      have k6 := PySem.F.called_set.init.lookup
      have k7 := PySem.F.called_set.init.bind (.ref s.heap.objs.size)
      repeat (any_goals (first | assumption | wp_step))
      -- set.__init__
      refine codeAny_mono (codeAny_call_builtin (R := wants (fun r s2 => r = .none ∧ ∃ h2 tk, s2 = { s with heap := h2, toks := tk } ∧ Filled P w s xs h2) E)
        PySem.F.called_set.init.plain PySem.F.entry_set_init (check_set_init_1 ty0 ?_)) fun r2 s2 hr2 => ?_
      · obtain ⟨⟨oc, od, odt, osl⟩, ho, hc, c, hd⟩ := hl
        simp only at hc hd
        subst hc hd
        have k8 := PySem.F.sub_list_set
        have k9 := PySem.F.sub_list_frozenset
        have k10 : (Value.type "list" == Value.type "dict") = false := by decide
        have ho1 : (s.heap.push (newSet led)).get? l = some { cls := .type "list", dict := od, data := .seq its c, slots := osl } := Heap.get?_push_of_some _ ho
        have li : (s.heap.push (newSet led)).IsList l its := ⟨_, ho1, rfl, c, rfl⟩
        have lt : l < s.heap.objs.size := Heap.lt_size ho
        have sz1 : (s.heap.push (newSet led)).objs.size = s.heap.objs.size + 1 := Heap.size_push _ _
        unfold Builtin.«set.__init__» noKeywords Builtin.Frozenset.updateFrom
        generalize hp : pyIter = itr
        wp_walk
        subst hp
        refine wpAny_pyIter_list li (wpAny_bind (wpAny_runValue ?_))
        have ne1 : l ≠ (s.heap.push (newSet led)).objs.size := by rw [sz1]; exact Nat.ne_of_lt (Nat.lt_succ_of_lt lt)
        have nf : s.heap.objs.size ∉ [(s.heap.push (newSet led)).objs.size, l] := by
          rw [sz1]
          intro z
          simp only [List.mem_cons, List.not_mem_nil, or_false] at z
          rcases z with z | z
          · exact Nat.ne_of_lt (Nat.lt_succ_self _) z
          · exact Nat.ne_of_gt lt z
        have hn : A.in1.in1.in1.handled = none := by simp [hh]
        have hP : ∀ (i : Nat) (v : Value), its[i]? = some v → ∃ x t, xs[i]? = some x ∧ v = .str x t := fun i v hv => by
          have hv2 : its.toList[i]? = some v := by rw [Array.getElem?_toList]; exact hv
          have hi : i < xs.length := by
            have := (List.getElem?_eq_some_iff.mp hv2).1
            rw [hx.length] at this; exact this
          obtain ⟨t, e⟩ := hx.get i xs[i] (List.getElem?_eq_getElem hi)
          rw [hv2] at e
          exact ⟨xs[i], t, List.getElem?_eq_getElem hi, Option.some.inj e⟩
        refine fill (Walks.list hn _ l ne1 its).toS nf (by rw [len]; exact hz) hP 0 _ rfl (Nat.zero_le _) ⟨⟨_, Heap.get?_push_size _ rfl, rfl, rfl⟩, li.push _⟩ ?_ ?_
        · have g : ((s.heap.push (newSet led)).push { cls := .type "list_iterator", data := .fields #[.ref l, .int 0 0] }).get? s.heap.objs.size = some (newSet led) := Heap.get?_push_of_some _ at0
          exact SetOf_congr ((setObjOf_fresh (knd := PySem.strKind P w) led).setOf g (by unfold scanBound; omega)) (fun _ => rfl) rfl
        · intro s3 mv q3
          obtain ⟨h3, g3, d3, t3, o3⟩ := s3
          obtain rfl : g3 = s.gens := mv.gens
          obtain rfl : d3 = s.drawn := mv.drawn
          obtain rfl : o3 = s.os := mv.os
          show wpAny _ _ _ _ _ _
          refine wpAny_pure ?_
          show wpAny _ _ (ret Value.none) _ _ _
          rw [len] at q3
          refine wpAny_pure ⟨rfl, h3, t3, rfl, q3, fun b o hb e => ?_⟩
          refine mv.heap b o (fun z => ?_) (Heap.get?_push_of_some _ (Heap.get?_push_of_some _ e))
          rw [sz1] at z
          simp only [List.mem_cons, List.not_mem_nil, or_false] at z
          rcases z with z | z
          · exact Nat.ne_of_lt hb z
          · exact Nat.ne_of_lt (Nat.lt_succ_of_lt hb) z
      · cases r2 with
        | error e => exact hr2
        | ok f2 =>
          cases f2 with
          | next => exact False.elim hr2
          | brk => exact False.elim hr2
          | cont => exact False.elim hr2
          | ret v2 =>
            obtain ⟨ev, h2, tk, es, fi⟩ := hr2
            subst ev es
            repeat (any_goals (first | assumption | wp_step))
            exact q h2 tk fi
end
end Tx

set_option Elab.async false
set_option linter.all false
set_option maxRecDepth 100000
set_option maxHeartbeats 4000000
namespace Tx
open PySem PySem.Spec PyProof.Rows L2
/-- a set of texts, made of the list ys -/
def SetT (P : Program) (w : World) (p : Addr) (ys : List Str) : HO := .ext fun h => h.SetOf (PySem.strKind P w) p (fun k => (met ys ys.length).any (· == k)) (met ys ys.length).length
abbrev rSetT (K : PySem.W.Frag) (P : Program) (w : World) : List V → Hp → VK → Prop := fun xs H Q => ∃ l ys, xs = [.ref l] ∧ SqL K H l (List.map V.str ys) ∧ ys.length ≤ 1000 ∧ ∀ p, H p = none → Q (.ref p) (upd H p (SetT P w p ys))
abbrev rLenT (P : Program) (w : World) : List V → Hp → VK → Prop := fun xs H Q => ∃ p ys, xs = [.ref p] ∧ H p = some (SetT P w p ys) ∧ ys.length ≤ 1000 ∧ Q (.int ((met ys ys.length).length : Int)) H
section
variable {X : Cx}
theorem cr_setT (hc : X.calm = true) : CallR X (.type "set") (rSetT X.K X.prog X.w) := by
  intro pins s σ H xs us Q I r h
  obtain ⟨l, ys, rfl, hl, hz, q⟩ := h
  obtain ⟨u, rfl, ru⟩ := vals1 r
  obtain rfl : u = Value.ref l := ru
  obtain ⟨its, rv, pl, _⟩ := I.list hl
  refine call_set (I.ok.hd hc) pl.isList (by simpa using strsAre_of rv) (by unfold scanBound; omega) fun h2 tk fi => ?_
  have new : ObjOk X.prog X.w (upd H s.heap.objs.size (SetT X.prog X.w s.heap.objs.size ys)) h2 s.heap.objs.size (SetT X.prog X.w s.heap.objs.size ys) := by
    refine ⟨fi.1, ?_, fun h3 h4 z k => ?_⟩
    · obtain ⟨o, _, _, _, ho, _⟩ := fi.1
      exact ⟨o, ho⟩
    · obtain ⟨o, es, ep, t, ho, z⟩ := z
      exact ⟨o, es, ep, t, k o ho, z⟩
  exact ⟨.ref s.heap.objs.size, upd H s.heap.objs.size (SetT X.prog X.w s.heap.objs.size ys), I.laid (t' := tk) (fun b o e => fi.2 b o (Heap.lt_size e) e) (Nat.le_refl _) new, rfl, q s.heap.objs.size (I.hok.fresh (Nat.le_refl _))⟩
theorem cr_lenT : CallR X (.builtin "len") (rLenT X.prog X.w) := by
  intro pins s σ H xs us Q I r h
  obtain ⟨p, ys, rfl, hp, hz, q⟩ := h
  obtain ⟨u, rfl, ru⟩ := vals1 r
  obtain rfl : u = Value.ref p := ru
  obtain ⟨⟨o, es, ep, t, ho, hex, hd, _, _, _, hf, hn⟩, _⟩ := (show ObjOk X.prog X.w H s.heap p (SetT X.prog X.w p ys) from I.hok p _ hp)
  have le := met_le ys ys.length
  refine call_len_set ho hex hd hf (by rw [hn] <;> omega) ⟨.int _, H, I.tok _, ⟨_, by rw [hn]⟩, q⟩
end
end Tx

set_option Elab.async false
set_option linter.all false
set_option maxRecDepth 100000
set_option maxHeartbeats 4000000
/-! an exception that is caught, and kept under another name: try .. except C as n: x = n -/
namespace Kp
open PySem PySem.Spec PyProof.Rows L2
/-- an exception object of the class cls, without a dict of its own -/
def ExT (cls : Value) (a : Addr) : HO := .ext fun h => ∃ (oe : Obj) (vs : Array Value), h.get? a = some oe ∧ Zc cls none oe ∧ oe.data = .fields vs
section
variable {X : Cx} {pins : List (Addr × Obj)} {σ : L2.St} {H : Hp} {s : Shared} {a : Addr} {oe : Obj} {vs : Array Value} {cls : Value}
/-- it is looked at from here on as a thing of ours -/
theorem track (I : Inv X pins σ H s) (he : s.heap.get? a = some oe) (hz : Zc cls none oe) (hd : oe.data = .fields vs) (na : H a = none) (n0 : X.s_0.heap.get? a = none) (nL : a ≠ X.env.locals)
    (np : ∀ p ∈ X.pn ++ pins, p.1 ≠ a) : Inv X pins σ (upd H a (ExT cls a)) s where
  ok := I.ok
  os := I.os
  bare := I.bare
  base := by
    have ne : ∀ b o, X.s_0.heap.get? b = some o → b ≠ a := fun b o e z => by rw [z, n0] at e; cases e
    have nh : ∀ b o, H b = some o → b ≠ a := fun b o e z => by rw [z, na] at e; cases e
    refine ⟨I.base.keep, I.base.slot, fun b o e n x => ?_, I.base.there, fun b xs e => ?_, fun b o u e => ?_, fun b ps e => ?_⟩
    · rw [upd_ne (ne b o e)]; exact I.base.free b o e n x
    · have z := I.base.tups b xs e
      rw [upd_ne (nh b _ z)]; exact z
    · have z := I.base.frzs b o u e
      rw [upd_ne (nh b _ z)]; exact z
    · obtain ⟨m, z⟩ := I.base.tbls b ps e
      exact ⟨m, by rw [upd_ne (nh b _ z)]; exact z⟩
  loc := I.loc
  cell := I.cell
  free := by rw [upd_ne nL.symm]; exact I.free
  freeC := fun x c e => by
    have nc : c ≠ a := fun z => by
      obtain ⟨v, q⟩ := I.cell x c e
      obtain ⟨oc, h1, h2⟩ := q
      rw [z, he] at h1
      cases h1
      rw [hd] at h2
      exact nomatch h2
    rw [upd_ne nc]; exact I.freeC x c e
  pin := fun p hp => by
    obtain ⟨q1, q2, q3⟩ := I.pin p hp
    exact ⟨q1, by rw [upd_ne (np p hp)]; exact q2, q3⟩
  hok := fun b u e => by
    by_cases hb : b = a
    · subst hb
      rw [upd_same] at e
      cases e
      exact ⟨⟨oe, vs, he, hz, hd⟩, ⟨oe, he⟩, fun _ _ ⟨o, v, q, r⟩ k => ⟨o, v, k o q, r⟩⟩
    · rw [upd_ne hb] at e
      exact (I.hok b u e).stay (fun c v _ q => q) (fun c q => by rw [upd_ne (ne_of_none q na)]; exact q) fun c xs q => by rw [upd_ne (ne_of_none q na)]; exact q
  len := I.len
/-- isinstance(e, c), e a kept exception of the class D -/
def rIsX (K : PySem.W.Frag) : List V → Hp → VK → Prop := fun xs H Q => ∃ (a D : Addr) (c : V) (cv : Value) (b : Bool), xs = [.ref a, c] ∧ ClsV c cv ∧ H a = some (ExT (.ref D) a) ∧ ExcC K D ∧ PySem.W.kitOne K (.ref D) cv = some b ∧ Q (.bl b) H
theorem call_isX : CallR X (.builtin "isinstance") (rIsX X.K) := by
  intro pins s σ H xs us Q I r h
  obtain ⟨a, D, c, cv, b, rfl, hc, ha, C, e, q⟩ := h
  obtain ⟨u1, u2, rfl, r1, r2⟩ := vals2 r
  obtain rfl : u1 = Value.ref a := r1
  obtain rfl := hc.eq r2
  obtain ⟨⟨oe, vs, he, hz, hd⟩, _⟩ := (show ObjOk X.prog X.w H s.heap a (ExT (.ref D) a) from I.hok a _ ha)
  have J : PySem.W.InstAt s.heap a oe D none := by
    obtain ⟨oc, od, oda, osl⟩ := oe
    obtain ⟨h1, h2⟩ := hz
    dsimp only at h1 h2 hd
    subst h1 h2 hd
    exact ⟨he, rfl, rfl, trivial⟩
  exact PySem.W.kia_one (PySem.W.handS_kitx_exc C.hg C.hk C.hs C.hd C.ha C.hn C.ht C.hm) I.kIn J e (fun z => nomatch z) fun tk => ⟨.bl b, H, I.kept (t' := tk) fun _ _ z => z, rfl, q⟩
end

/-- what the clause 'except x as n: m = n' asks of an exception of the body (n at slot i, m at slot j) -/
def wKp (K : PySem.W.Frag) (c : Value) (i j : Nat) (D : Ends) : WX := fun cls d σ H =>
  d = none ∧ PySem.W.exmOne K cls c = some true ∧ ∀ a, H a = none → D.nx (((σ.set i (some (.ref a))).set j (some (.ref a))).set i none) (upd H a (ExT cls a))
section
variable {X : Cx} {x n m : Str} {c : Value} {i j : Nat} {body : List Stmt} {np pos pos' q1 q2 q3 : Pos} {tb : WX → TS}
theorem ps_try_keep (hs : X.stack = X.env :: X.outer) (hf : X.env.frame = some X.env.locals) (hex : X.ex = []) (nd : X.N.Nodup) (hi : X.N[i]? = some n) (hj : X.N[j]? = some m) (hln : X.env.kindOf n = some .local) (hlm : X.env.scope.names.lookup m = some .local) (hvn : X.env.scope.names.lookup n = some .local)
    (hc : Names X x c) (h1 : (n == ("__debug__" : Str)) = false) (h2 : (n == ("__classdict__" : Str)) = false)
    (hb : ∀ (W : WX) (pn : List (Addr × Obj)) (xe : Value → Shared → Prop), Takes (X.tr pn xe) W → PassesOwn (model X.prog X.w) X.A X.env xe → PSs (X.tr pn xe) body (tb W))
    (hsw : swapsWith (.Name n q2) (some (.Name m q1)) q3.line X.env = pure false) :
    PS X (.Try body [.ExceptHandler (some (.Name x np)) (some n) [.Assign [.Name m q1] (.Name n q2) q3] pos'] [] [] pos) (fun D σ H => tb (wKp X.K c i j D) D σ H) where
  run pins s σ H D I h := by
    have ok := I.ok
    have frames : X.A.frames = some (X.env :: X.outer) := by rw [ok.frames, hs]
    apply wpAny_Try_except
    refine wpAny_mono ((hb (wKp X.K c i j D) (X.pn ++ pins) (fun e s1 => wpAny (model X.prog X.w) X.A (noteFrame e X.env) (fun _ s2 => wpAny (model X.prog X.w) X.A (setFlight e none)
      (fun _ s3 => wpAny (model X.prog X.w) X.A (handleBy e X.env [.ExceptHandler (some (.Name x np)) (some n) [.Assign [.Name m q1] (.Name n q2) q3] pos']) (SP X pins D) X.xe s3) X.xe s2) X.xe s1)
      (fun u s1 flown => ?_) PassesOwn.looking).run [] s σ H D (I.toTry _) h) (fun f s1 done => ?_) (fun _ _ z => z)
    · obtain ⟨a, B, s0, pins0, σ1, H1, cls, d, rfl, I0, ground, slots, sky, na, os, bare, ed, hit, go⟩ := flown
      subst ed
      have J0 : Inv X pins σ1 H1 s0 := I0.ofTry ok
      rw [show (X.tr (X.pn ++ pins) _).stack = X.env :: X.outer from hs] at sky
      show wpAny (model X.prog X.w) X.A (noteFrame (.ref a) X.env) _ _ _
      refine Sky.land Zc.steady frames hf sky fun hA flA upA => ?_
      have JA : Inv X pins σ1 H1 { s1 with heap := hA } := J0.landed ground flA.1 (slots.trans upA) os bare
      have noB : B.get? a = none := flA.2.1
      -- the exception is none of the frames
      have apart : ∀ {hh : Heap} {o : Obj} {ws : Array Value}, hh.FunFrames B (X.env :: X.outer) → hh.get? a = some o → o.data = .fields ws → a ∉ frs (X.env :: X.outer) := fun ff e dd z => by
        obtain ⟨_, o2, e2, nf⟩ := ff.mem z
        rw [e] at e2
        cases e2
        exact nf _ dd
      obtain ⟨oA, wA, eA, zA, dA⟩ := flA.there
      have nfr := apart flA.2.2.1 eA dA
      have nL : a ≠ X.env.locals := fun z => nfr (List.mem_filterMap.mpr ⟨X.env, List.mem_cons_self, by rw [hf, z]⟩)
      have nF : a ∉ X.fs := fun z => by
        obtain ⟨e, he, q⟩ := List.mem_filterMap.mp z
        exact nfr (List.mem_filterMap.mpr ⟨e, List.mem_cons_of_mem _ he, q⟩)
      -- it is younger than the frame's entry, and none of what is pinned
      have no0 : s0.heap.get? a = none := by
        cases e : s0.heap.get? a with
        | none => rfl
        | some o =>
          have z := ground a o e (by rw [show (X.tr (X.pn ++ pins) _).stack = X.env :: X.outer from hs]; exact nfr)
          rw [noB] at z
          cases z
      have n0 : X.s_0.heap.get? a = none := by
        cases e : X.s_0.heap.get? a with
        | none => rfl
        | some o =>
          obtain ⟨o2, z⟩ := J0.base.there a o e (by rw [hex]; exact fun z => nomatch z)
          rw [no0] at z
          cases z
      have npin : ∀ p ∈ X.pn ++ pins, p.1 ≠ a := fun p hp z => by
        have q := (J0.pin p hp).1
        rw [z, no0] at q
        cases q
      refine wpAny_handleBy_cons (codeAny_handlers_test ?_) (by intro z; cases z)
      have SA := JA.suite eA dA na nL nF
      have kind : PySem.W.Looks (model X.prog X.w) hA (typeOf (.ref a)) cls := fun A Q E s k q => wpAny_typeOf_ref (k _ _ eA) (by rw [zA.1]; exact q)
      have meets := PySem.W.exm_one (M := model X.prog X.w) JA.kIn kind hit
      have named : ∀ {Q : Value → Shared → Prop} {E : Value → Shared → Prop}, Q c { s1 with heap := hA } → wpAny (model X.prog X.w) (X.A.mark (some (.ref a))) (eval (.Name x np) X.env) Q E { s1 with heap := hA } := fun q => by
        obtain ⟨hg, hdb, hm | ⟨hm, hv, hn⟩⟩ := hc
        · exact ld_glob (X := X.suite a ((a, oA) :: (X.pn ++ pins))) SA hg hm q hdb
        · exact ld_blt (X := X.suite a ((a, oA) :: (X.pn ++ pins))) SA hg hm hv q hn hdb
      refine named (meets.here (codeAny_handlers_suite_as ?_))
      refine HandSPX.lands_againZ flA fun hB flB upB => ?_
      have JB : Inv X pins σ1 H1 { s1 with heap := hB } := J0.landed ground flB.1 ((slots.trans upA).trans upB) os bare
      obtain ⟨oB, wB, eB, zB, dB⟩ := flB.there
      have SB := JB.suite eB dB na nL nF
      refine store_ok (X := X.suite a ((a, oB) :: (X.pn ++ pins))) (v := .ref a) SB nd hi (.inl hln) rfl (fun s2 S2 => ?_) (.inr hvn)
      -- m = n
      have step : PSs (X.suite a ((a, oB) :: (X.pn ++ pins))) [.Assign [.Name m q1] (.Name n q2) q3] (tAsg (tVar i) (gName j)) :=
        pss_one (ps_set (X := X.suite a ((a, oB) :: (X.pn ++ pins))) nd hj (.inl hlm) (pe_var (X := X.suite a ((a, oB) :: (X.pn ++ pins))) hi (.inl hvn) h1 h2) hsw (.inr hlm))
      have li : i < σ1.length := by
        rw [J0.len]
        exact (List.getElem?_eq_some_iff.mp hi).1
      have reads : (σ1.set i (some (V.ref a)))[i]? = some (some (V.ref a)) := by rw [List.getElem?_set_self li]
      refine wpAny_mono (step.run [] s2 _ H1 { nx := fun σ' H' => σ' = (σ1.set i (some (.ref a))).set j (some (.ref a)) ∧ H' = H1, rt := fun _ _ => False, bk := fun _ _ => False, ct := fun _ _ => False } S2 ⟨_, reads, rfl, rfl⟩) (fun f s3 done => ?_) (fun _ _ z => False.elim z)
      cases f with
      | brk => obtain ⟨_, _, _, z⟩ := done; exact z.elim
      | cont => obtain ⟨_, _, _, z⟩ := done; exact z.elim
      | ret u => obtain ⟨_, _, _, _, _, z⟩ := done; exact z.elim
      | next =>
        obtain ⟨σ3, H3, S3, e3, e4⟩ := done
        subst e3 e4
        have he3 := (S3.pin (a, oB) (List.mem_append_left _ List.mem_cons_self)).1
        have J3 : Inv X pins _ (upd H3 a (ExT cls a)) s3 := track (S3.unsuite ok) he3 zB dB na n0 nL npin
        exact gone_ok J3 nd hi hln fun s4 J4 => ⟨_, _, J4, go a na⟩
    · cases f with
      | next =>
        obtain ⟨σ1, H1, J, q⟩ := done
        exact wpAny_execs_nil ⟨σ1, H1, J.ofTry ok, q⟩
      | brk =>
        obtain ⟨σ1, H1, J, q⟩ := done
        exact ⟨σ1, H1, J.ofTry ok, q⟩
      | cont =>
        obtain ⟨σ1, H1, J, q⟩ := done
        exact ⟨σ1, H1, J.ofTry ok, q⟩
      | ret u =>
        obtain ⟨v, σ1, H1, J, r, q⟩ := done
        exact ⟨v, σ1, H1, J.ofTry ok, r, q⟩
end
end Kp

set_option Elab.async false
set_option linter.all false
set_option maxRecDepth 100000
set_option maxHeartbeats 4000000
namespace Cd
open PySem PySem.Spec PyProof.Rows L2
open Evl (Ex sq_of ex_l sz_of sz_lt fresh_back)
/-! ### xs[::k], k 1 or -1; a text times a number -/
/-- all, or all backwards -/
def tSlS (K : PySem.W.Frag) (te ts : TE) : TE := fun σ H Q => te σ H fun x H1 => ts σ H1 fun y H2 => ∃ a xs, ∃ k : Int, x = .ref a ∧ y = .int k ∧ (k = 1 ∨ k = -1) ∧ SqL K H2 a xs ∧ ∀ p, H2 p = none → Q (.ref p) (upd H2 p (.lst (if k = 1 then xs else xs.reverse)))
theorem pick_one (its : Array Value) : slicePick its none none (some 1) = its.toList.toArray := by
  have h := slicePick_cut its.toList none none
  rw [Array.toArray_toList] at h
  have e : slicePick its none none (some 1) = slicePick its none none none := by
    unfold slicePick
    rfl
  rw [e, h, HT.sIx_none, HT.sIx_none, List.drop_zero, Nat.sub_zero, List.take_length]
theorem Vals.rev : ∀ {xs : List V} {us : List Value}, Vals xs us → Vals xs.reverse us.reverse
  | _, _, .nil => .nil
  | _, _, .cons r t => by
    rw [List.reverse_cons, List.reverse_cons]
    exact Vals.append (Vals.rev t) (.cons r .nil)
section
variable {X : Cx}
theorem pe_sliceStep {e st : Expr} {te ts : TE} {pos p2 : Pos} (he : PE X e te) (hst : PE X st ts) (hs : ∀ o i, ∃ ops, subscripted (.Slice none none (some st) p2) false o i = operate ops (getItem o i)) :
    PE X (.Subscript e (.Slice none none (some st) p2) pos) (tSlS X.K te ts) where
  run pins s σ H Q I h := by
    apply Subscript_
    refine thn (he.run pins s σ H _ I h) fun v s1 ⟨x, H1, I1, rx, q1⟩ => ?_
    apply wpAny_Slice
    rw [evalPart_none]
    refine wpAny_pure (wpAny_pure ?_)
    rw [evalPart_some]
    refine thn (hst.run pins s1 σ H1 _ I1 q1) fun u s2 ⟨y, H2, I2, ry, a, xs, k, ex, ey, hk, hl, q⟩ => ?_
    subst ex ey
    obtain rfl : v = Value.ref a := rx
    obtain ⟨t, rfl⟩ := ry
    have I3 : Inv X pins σ H2 { s2 with heap := s2.heap.push { cls := .type "slice", data := .fields #[.none, .none, .int k t] } } := I2.kept (t' := s2.toks) fun b o z => Heap.get?_push_of_some _ z
    obtain ⟨its, rv, pl, hz⟩ := I3.list hl
    have hlen := rv.length
    show wpAny _ _ (subscriptTail e (.Slice none none (some st) p2) (.ref a) (.ref s2.heap.objs.size)) _ _ _
    obtain ⟨ops, hops⟩ := hs (.ref a) (.ref s2.heap.objs.size)
    refine tail_any (ops := ops) pl.isList.typeIs PySem.slot_list_getitem.lookup ?_ hops
    refine wpAny_getItem_list_slice pl.isList (Heap.IsSliceOf.new ..) .none .none (.int k t) (by rcases hk with rfl | rfl <;> simp) ?_ (by rw [List.size_toArray, ← hlen]; exact hz)
    have fin : ∀ {ys : List V} {us : List Value}, Vals ys us → ys.length ≤ sizeLine → (∀ p, H2 p = none → Q (.ref p) (upd H2 p (.lst ys))) → EP X pins σ Q (.ref (s2.heap.push { cls := .type "slice", data := .fields #[.none, .none, .int k t] }).objs.size)
        { s2 with heap := (s2.heap.push { cls := .type "slice", data := .fields #[.none, .none, .int k t] }).push { cls := .type "list", data := .seq us.toArray } } := fun {ys us} r z g =>
      ⟨.ref _, upd H2 _ (.lst ys), I3.laid (t' := s2.toks) (fun b o z => Heap.get?_push_of_some _ z) (Nat.le_refl _) ⟨z, us, 0, r, Heap.get?_push_size _ rfl⟩, rfl, g _ (I3.hok.fresh (Nat.le_refl _))⟩
    rcases hk with rfl | rfl
    · rw [pick_one]
      exact fin rv hz fun p hp => q p hp
    · rw [PySem.W.krv_pick]
      exact fin (Vals.rev rv) (by rw [List.length_reverse]; exact hz) fun p hp => q p hp
/-- a text many times -/
abbrev oMulS : R2 := fun x y H Q => ∃ z, ∃ k : Nat, x = .str z ∧ y = .int (k : Int) ∧ z.length = 1 ∧ k ≤ 1000 ∧ Q (.str (PySem.Txt.mul z (k : Int))) H
theorem op_mulS : OpR X (binaryOp .Mult) oMulS := by
  intro pins s σ H x y v u Q I rx ry h
  obtain ⟨z, k, rfl, rfl, hz, hk, q⟩ := h
  obtain ⟨t, rfl⟩ := rx
  obtain ⟨t2, rfl⟩ := ry
  refine PySem.SB.mul ⟨?_, fun h1 _ h3 => ?_, fun h1 _ => ?_⟩ fun t3 j => ⟨.str _, H, I.kept (t' := j) fun _ _ z => z, ⟨t3, rfl⟩, q⟩
  · rw [Bool.or_eq_false_iff, decide_eq_false_iff_not, decide_eq_false_iff_not]
    omega
  · have h4 : (1 : Int) ≤ (2 ^ 63 - 1) / (k : Int) := (Int.le_ediv_iff_mul_le (by omega)).mpr (by omega)
    rw [hz] at h3
    omega
  · rw [hz]
    unfold PySem.Builtin.Str.tooLong
    rw [decide_eq_false_iff_not, sizeLine_eq]
    omega
end
end Cd

set_option Elab.async false
set_option linter.all false
set_option maxRecDepth 100000
set_option maxHeartbeats 4000000
namespace Cd
open PySem PySem.Spec PyProof.Rows L2
def sk (k : Nat) : Str := Str.ofString (toString (k : Int))
/-- read back -/
def skVal (z : Str) : Nat := z.cps.toList.foldl (fun n c => n * 10 + (c - 48)) 0
theorem sk_facts : ∀ k, k < 402 → skVal (sk k) = k ∧ (sk k).length ≤ 3 ∧ PyData.strOk (sk k) = true := by decide +kernel
def sa : Str := Str.ofString "a"
theorem fold_reps (x : Array Nat) : ∀ (n : Nat) (acc : Array Nat), ((List.replicate n x).foldl (· ++ ·) acc).toList = acc.toList ++ (List.replicate n x.toList).flatten
  | 0, acc => by simp
  | n + 1, acc => by rw [List.replicate_succ, List.foldl_cons, fold_reps x n, List.replicate_succ, List.flatten_cons, Array.toList_append, List.append_assoc]
theorem mul_sa (k : Nat) : (PySem.Txt.mul sa (k : Int)).cps.toList = List.replicate k 97 := by
  have ha : sa.cps = #[97] := by decide +kernel
  unfold PySem.Txt.mul
  by_cases h1 : (k : Int) < 1
  · rw [if_pos h1]
    have : k = 0 := by omega
    subst this; rfl
  · rw [if_neg h1]
    by_cases h2 : ((k : Int) == 1 || sa.length == 0) = true
    · rw [if_pos h2]
      have h3 : sa.length = 1 := by decide +kernel
      rw [h3] at h2
      have e1 : (k : Int) = 1 := by simpa using h2
      have : k = 1 := by omega
      subst this
      rw [ha]; rfl
    · rw [if_neg h2]
      show ((List.replicate (k : Int).toNat sa.cps).foldl (· ++ ·) #[]).toList = _
      rw [fold_reps, ha, Int.toNat_natCast]
      simp
/-- a hand of the law's, by one of three ways -/
def handAt (way : Nat) (base : Str) (k : Nat) : Str := match way with
  | 0 => base ++ sk k
  | 1 => sk k ++ base
  | _ => PySem.Txt.mul sa (k : Int) ++ base
theorem app_cps (x y : Str) : (x ++ y).cps = x.cps ++ y.cps := rfl
theorem app_len (x y : Str) : (x ++ y).length = x.length + y.length := by
  show (x.cps ++ y.cps).size = _
  rw [Array.size_append]; rfl
theorem str_ext {x y : Str} (h : x.cps = y.cps) : x = y := by
  cases x; cases y; cases h; rfl
theorem app_left {x y z : Str} (h : x ++ y = x ++ z) : y = z := by
  have e := congrArg Str.cps h
  rw [app_cps, app_cps] at e
  apply str_ext
  have := congrArg Array.toList e
  rw [Array.toList_append, Array.toList_append] at this
  exact Array.toList_inj.mp (List.append_cancel_left this)
theorem app_right {x y z : Str} (h : x ++ z = y ++ z) : x = y := by
  have e := congrArg Str.cps h
  rw [app_cps, app_cps] at e
  apply str_ext
  have := congrArg Array.toList e
  rw [Array.toList_append, Array.toList_append] at this
  exact Array.toList_inj.mp (List.append_cancel_right this)
theorem sk_inj {i j : Nat} (hi : i < 402) (hj : j < 402) (h : sk i = sk j) : i = j := by
  rw [← (sk_facts i hi).1, ← (sk_facts j hj).1, h]
theorem mul_len (k : Nat) : (PySem.Txt.mul sa (k : Int)).length = k := by
  have := congrArg List.length (mul_sa k)
  rw [List.length_replicate] at this
  simpa [Str.length] using this
theorem hand_inj {way : Nat} {base : Str} {i j : Nat} (hi : i < 402) (hj : j < 402) (h : handAt way base i = handAt way base j) : i = j := by
  unfold handAt at h
  split at h
  · exact sk_inj hi hj (app_left h)
  · exact sk_inj hi hj (app_right h)
  · have e := congrArg Str.length (app_right h)
    rw [mul_len, mul_len] at e
    exact e
theorem nodup_of_inj {α β : Type} {f : α → β} : ∀ {l : List α}, l.Nodup → (∀ x ∈ l, ∀ y ∈ l, f x = f y → x = y) → (l.map f).Nodup
  | [], _, _ => List.nodup_nil
  | a :: l, h, g => by
    rw [List.nodup_cons] at h
    rw [List.map_cons, List.nodup_cons]
    refine ⟨fun m => ?_, nodup_of_inj h.2 fun x hx y hy => g x (List.mem_cons_of_mem _ hx) y (List.mem_cons_of_mem _ hy)⟩
    obtain ⟨b, hb, e⟩ := List.mem_map.mp m
    have := g b (List.mem_cons_of_mem _ hb) a List.mem_cons_self e
    rw [this] at hb
    exact h.1 hb
theorem hands_nodup (way : Nat) (base : Str) {m : Nat} (hm : m ≤ 402) : ((List.range m).map (handAt way base)).Nodup := by
  refine nodup_of_inj List.nodup_range fun x hx y hy e => hand_inj ?_ ?_ e
  · have := List.mem_range.mp hx; omega
  · have := List.mem_range.mp hy; omega

theorem ok_app {x y : Str} (h : PyData.strOk x = true) (h' : PyData.strOk y = true) : PyData.strOk (x ++ y) = true := by
  unfold PyData.strOk at *
  rw [app_cps, Array.all_append, h, h']; rfl
theorem ok_mul (k : Nat) : PyData.strOk (PySem.Txt.mul sa (k : Int)) = true := by
  unfold PyData.strOk
  rw [← Array.all_toList, mul_sa, List.all_eq_true]
  intro x hx
  rw [List.eq_of_mem_replicate hx]
  decide
/-- the law's own text: a few signs -/
structure Base (z : Str) : Prop where
  len : z.length ≤ 5
  ok : PyData.strOk z = true
theorem hand_ok {way : Nat} {base : Str} (b : Base base) {k : Nat} (hk : k < 402) : PyData.strOk (handAt way base k) = true := by
  unfold handAt
  split
  · exact ok_app b.ok (sk_facts k hk).2.2
  · exact ok_app (sk_facts k hk).2.2 b.ok
  · exact ok_app (ok_mul k) b.ok
/-- single signs, one behind the other -/
theorem glue_len : ∀ (cs : List Nat) (acc : Array Nat), (((cs.map fun c => (⟨#[c]⟩ : Str))).foldl (fun a p => a ++ (Str.ofString "").cps ++ p.cps) acc).size = acc.size + cs.length
  | [], acc => by simp
  | c :: cs, acc => by
    rw [List.map_cons, List.foldl_cons, glue_len cs, List.length_cons]
    simp [show (Str.ofString "").cps = #[] by decide +kernel]
    omega
theorem glue_ok : ∀ (cs : List Nat) (acc : Array Nat), acc.all (· < 0x110000) = true → (∀ c ∈ cs, c < 0x110000) → (((cs.map fun c => (⟨#[c]⟩ : Str))).foldl (fun a p => a ++ (Str.ofString "").cps ++ p.cps) acc).all (· < 0x110000) = true
  | [], acc, h, _ => h
  | c :: cs, acc, h, g => by
    rw [List.map_cons, List.foldl_cons]
    refine glue_ok cs _ ?_ fun x hx => g x (List.mem_cons_of_mem _ hx)
    rw [show (Str.ofString "").cps = #[] by decide +kernel, Array.append_empty, Array.all_append, h]
    simp [g c List.mem_cons_self]
theorem base_of {cs : List Nat} (h5 : cs.length ≤ 5) (g : ∀ c ∈ cs, c < 0x110000) : Base (PySem.Txt.join (Str.ofString "") (cs.map fun c => (⟨#[c]⟩ : Str))) := by
  unfold PySem.Txt.join Builtin.Str.glued
  cases cs with
  | nil => exact ⟨by decide, by decide +kernel⟩
  | cons c cs =>
    rw [List.map_cons, List.drop_one, List.tail_cons, List.headD_cons]
    refine ⟨?_, ?_⟩
    · show Array.size _ ≤ 5
      rw [glue_len]
      rw [List.length_cons] at h5
      show 1 + cs.length ≤ 5
      omega
    · exact glue_ok cs _ (by simpa using g c List.mem_cons_self) fun x hx => g x (List.mem_cons_of_mem _ hx)
end Cd

set_option Elab.async false
set_option linter.all false
set_option maxRecDepth 100000
set_option maxHeartbeats 4000000
namespace Cd
open PySem PySem.Spec PyProof.Rows L2
/-! ### texts without the sign e -/
def noE (z : Str) : Prop := 101 ∉ z.cps.toList
theorem noE_app {x y : Str} (h : noE x) (h' : noE y) : noE (x ++ y) := by
  unfold noE at *
  rw [app_cps, Array.toList_append, List.mem_append]
  rintro (z | z)
  · exact h z
  · exact h' z
theorem sk_noE : ∀ k, k < 402 → noE (sk k) := by
  have : ∀ k, k < 402 → (sk k).cps.toList.contains 101 = false := by decide +kernel
  intro k hk z
  have h := this k hk
  rw [← Bool.not_eq_true, List.contains_iff_mem] at h
  exact h z
theorem mul_noE (k : Nat) : noE (PySem.Txt.mul sa (k : Int)) := by
  unfold noE
  rw [mul_sa]
  intro z
  have := List.eq_of_mem_replicate z
  omega
theorem glue_mem : ∀ (cs : List Nat) (acc : Array Nat) (x : Nat), x ∈ (((cs.map fun c => (⟨#[c]⟩ : Str))).foldl (fun a p => a ++ (Str.ofString "").cps ++ p.cps) acc).toList → x ∈ acc.toList ∨ x ∈ cs
  | [], acc, x, h => .inl h
  | c :: cs, acc, x, h => by
    rw [List.map_cons, List.foldl_cons] at h
    rcases glue_mem cs _ x h with h | h
    · rw [show (Str.ofString "").cps = #[] by decide +kernel, Array.append_empty, Array.toList_append, List.mem_append] at h
      rcases h with h | h
      · exact .inl h
      · refine .inr ?_
        have : x = c := by simpa using h
        rw [this]; exact List.mem_cons_self
    · exact .inr (List.mem_cons_of_mem _ h)
theorem join_noE {cs : List Nat} (h : ∀ c ∈ cs, c ≠ 101) : noE (PySem.Txt.join (Str.ofString "") (cs.map fun c => (⟨#[c]⟩ : Str))) := by
  unfold PySem.Txt.join Builtin.Str.glued noE
  cases cs with
  | nil => decide +kernel
  | cons c cs =>
    rw [List.map_cons, List.drop_one, List.tail_cons, List.headD_cons]
    intro z
    rcases glue_mem cs _ 101 z with z | z
    · have : 101 = c := by simpa using z
      exact h c List.mem_cons_self this.symm
    · exact h 101 (List.mem_cons_of_mem _ z) rfl
theorem hand_noE {way : Nat} {base : Str} (b : noE base) {k : Nat} (hk : k < 402) : noE (handAt way base k) := by
  unfold handAt
  split
  · exact noE_app b (sk_noE k hk)
  · exact noE_app (sk_noE k hk) b
  · exact noE_app (mul_noE k) b
/-- who comes: e stands within -/
def cam (k : Nat) : Str := Str.ofString "came" ++ sk k
theorem cam_e (k : Nat) : ¬ noE (cam k) := by
  unfold noE cam
  rw [app_cps, Array.toList_append, Classical.not_not]
  exact List.mem_append_left _ (by decide +kernel)
theorem cam_inj {i j : Nat} (hi : i < 402) (hj : j < 402) (h : cam i = cam j) : i = j := sk_inj hi hj (app_left h)
theorem cam_ok {k : Nat} (hk : k < 402) : PyData.strOk (cam k) = true := ok_app (by decide +kernel) (sk_facts k hk).2.2
end Cd

set_option Elab.async false
set_option linter.all false
set_option maxRecDepth 100000
set_option maxHeartbeats 2000000
namespace Cd
open PySem PySem.Spec PyProof.Rows L2
open Evl (Ex sq_of ex_l sz_of sz_lt fresh_back)
/-! ### the law's own chance: one number in a list -/
def StOk (s : Int) : Prop := 0 ≤ s ∧ s < 4294967296
def StAt (H : Hp) (p : Addr) : Prop := ∃ s, StOk s ∧ H p = some (.lst [.int s])
/-- all but the number stays -/
def Run (p : Addr) (H H' : Hp) : Prop := (∀ b o, b ≠ p → H b = some o → H' b = some o) ∧ StAt H' p
theorem Run.refl {p : Addr} {H : Hp} (h : StAt H p) : Run p H H := ⟨fun _ _ _ e => e, h⟩
theorem Run.trans {p : Addr} {H H1 H2 : Hp} (a : Run p H H1) (b : Run p H1 H2) : Run p H H2 := ⟨fun c o n e => b.1 c o n (a.1 c o n e), b.2⟩
theorem StAt.ex {p : Addr} {H H' : Hp} (h : StAt H p) (e : Ex H H') : StAt H' p := by
  obtain ⟨s, h1, h2⟩ := h
  exact ⟨s, h1, e _ _ h2⟩
theorem Run.ex {p : Addr} {H H' : Hp} (h : StAt H p) (e : Ex H H') : Run p H H' := ⟨fun b o _ x => e b o x, h.ex e⟩
theorem Run.new {p q : Addr} {H H' : Hp} {o : HO} (r : Run p H H') (h : H' q = none) : Run p H (upd H' q o) := r.trans (Run.ex r.2 (Ex.new h))
theorem Run.free {p q : Addr} {H H' : Hp} (r : Run p H H') (h : H' q = none) : H q = none := by
  cases e : H q with
  | none => rfl
  | some o =>
    by_cases n : q = p
    · obtain ⟨s, _, h2⟩ := r.2
      rw [← n, h] at h2; cases h2
    · rw [r.1 q o n e] at h; cases h
theorem StAt.ne {p q : Addr} {H : Hp} (h : StAt H p) (n : H q = none) : q ≠ p := fun e => by
  obtain ⟨s, _, h2⟩ := h
  rw [e, h2] at n; cases n
theorem Run.keep {p q : Addr} {H H' : Hp} {o : HO} (r : Run p H H') (n : q ≠ p) (e : H q = some o) : H' q = some o := r.1 q o n e
theorem pos0 {j : Int} (h : 0 < j) : 0 < j := h
theorem at0 {v : V} {xs : List V} : atI (v :: xs) 0 = some v := by simp [atI, ixN]
def t_next (K : PySem.W.Frag) : TS :=
(tSeq (tAsg (tOp oMod (tOp oAdd (tOp oMul (tOp (rIxL K) (tVar 0) (tC (.int 0))) (tC (.int 48271))) (tC (.int 11))) (tC (.int 2147483647))) (gSub (tVar 0) (tC (.int 0)) rSetL))
  (tRet (tOp oFdiv (tOp oMod (tOp oMul (tOp (rIxL K) (tVar 0) (tC (.int 0))) (tOp (rIxL K) (tVar 0) (tC (.int 0)))) (tC (.int 2147483629))) (tC (.int 7)))))
def sNext : Sp := fun vs H Q _ => ∃ p, vs = [.ref p] ∧ StAt H p ∧ ∀ H' n, Run p H H' → 0 ≤ n → n < 306783376 → Q (.int n) H'
theorem pure_next {K : PySem.W.Frag} {vs : List V} {H : Hp} {Q : VK} {E : XK} {nx : L2.St → Hp → Prop} (h : sNext vs H Q E) : t_next K { nx := nx, rt := Q } (start ["_law_state_here"] vs) H := by
  obtain ⟨p, rfl, ⟨s, hs, hp⟩, q⟩ := h
  have b1 : 0 ≤ (s * 48271 + 11) % 2147483647 := Int.emod_nonneg _ (by decide)
  have b2 : (s * 48271 + 11) % 2147483647 < 2147483647 := Int.emod_lt_of_pos _ (by decide)
  generalize hz : (s * 48271 + 11) % 2147483647 = z at b1 b2
  refine ⟨_, rfl, p, _, 0, _, rfl, rfl, sq_of hp, at0, _, _, rfl, rfl, .inr ⟨by decide, by decide⟩, _, _, rfl, rfl, _, _, rfl, rfl, pos0 (by decide), ?_⟩
  dsimp only
  rw [hz]
  refine ⟨_, rfl, p, _, 0, 0, rfl, rfl, hp, rfl, ?_⟩
  have hq : (upd H p (.lst [.int z])) p = some (.lst [.int z]) := upd_same
  refine ⟨_, rfl, p, _, 0, _, rfl, rfl, sq_of hq, at0, _, rfl, p, _, 0, _, rfl, rfl, sq_of hq, at0, _, _, rfl, rfl, .inl ⟨by omega, by omega⟩, _, _, rfl, rfl, pos0 (by decide), _, _, rfl, rfl, ⟨by decide, by decide⟩, ?_⟩
  have c1 : 0 ≤ z * z % 2147483629 := Int.emod_nonneg _ (by decide)
  have c2 : z * z % 2147483629 < 2147483629 := Int.emod_lt_of_pos _ (by decide)
  refine q _ _ ⟨fun b o n e => ?_, z, ⟨b1, by omega⟩, hq⟩ (by omega) (by omega)
  show upd H p (.lst [.int z]) b = some o
  rw [upd_ne n]
  exact e

def t_cell (K : PySem.W.Frag) : TS :=
(tSeq (tIfS (tTest (tOp oLt (tVar 1) (tCB (rLenL K) (tCons (tVar 0) tNil))))
  (tRet (tOp (rIxL K) (tVar 0) (tVar 1)))
  tNext)
  (tRet (tC (.int 0))))
def sCell (K : PySem.W.Frag) : Sp := fun vs H Q _ => ∃ l ns, ∃ j : Nat, vs = [.ref l, .int (j : Int)] ∧ SqL K H l (List.map V.int ns) ∧ ∀ z : Int, Q (.int z) H
theorem pure_cell {K : PySem.W.Frag} {vs : List V} {H : Hp} {Q : VK} {E : XK} {nx : L2.St → Hp → Prop} (h : sCell K vs H Q E) : t_cell K { nx := nx, rt := Q } (start ["_law_script", "_law_k"] vs) H := by
  obtain ⟨l, ns, j, rfl, hl, q⟩ := h
  refine ⟨_, rfl, _, rfl, l, _, rfl, .inl hl, _, _, rfl, rfl, _, rfl, ite2 (fun e => ?_) (fun e => ?_)⟩
  · have e1 := of_decide_eq_true e
    rw [List.length_map] at e1
    have e2 : j < ns.length := by omega
    refine ⟨_, rfl, _, rfl, l, _, _, .int ns[j], rfl, rfl, hl, atI_nat ?_, q _⟩
    rw [List.getElem?_map, List.getElem?_eq_getElem e2]; rfl
  · exact q 0
def t_state (K : PySem.W.Frag) : TS :=
(tRet (tLst (tCons (tOp oAdd (tOp oAdd (tC (.int 1)) (tOp oMod (tCall (sCell K) [] E0 (tCons (tVar 0) (tCons (tVar 1) tNil))) (tC (.int 2147483646)))) (tOp oMod (tCall (sCell K) [] E0 (tCons (tVar 0) (tCons (tOp oAdd (tVar 1) (tC (.int 1))) tNil))) (tC (.int 1000003)))) tNil)))
def sState (K : PySem.W.Frag) : Sp := fun vs H Q _ => ∃ l ns, ∃ j : Nat, vs = [.ref l, .int (j : Int)] ∧ SqL K H l (List.map V.int ns) ∧ ∀ p H', H p = none → Ex H H' → StAt H' p → Q (.ref p) H'
theorem pure_state {K : PySem.W.Frag} {vs : List V} {H : Hp} {Q : VK} {E : XK} {nx : L2.St → Hp → Prop} (h : sState K vs H Q E) : t_state K { nx := nx, rt := Q } (start ["_law_script", "_law_first"] vs) H := by
  obtain ⟨l, ns, j, rfl, hl, q⟩ := h
  refine ⟨_, rfl, _, rfl, l, ns, j, rfl, hl, fun z => ?_⟩
  refine ⟨_, _, rfl, rfl, pos0 (by decide), _, _, rfl, rfl, _, rfl, _, rfl, _, _, rfl, rfl, l, ns, j + 1, rfl, hl, fun y => ?_⟩
  refine ⟨_, _, rfl, rfl, pos0 (by decide), _, _, rfl, rfl, ?_⟩
  have a1 : 0 ≤ z % 2147483646 := Int.emod_nonneg _ (by decide)
  have a2 : z % 2147483646 < 2147483646 := Int.emod_lt_of_pos _ (by decide)
  have b1 : 0 ≤ y % 1000003 := Int.emod_nonneg _ (by decide)
  have b2 : y % 1000003 < 1000003 := Int.emod_lt_of_pos _ (by decide)
  refine ⟨(by decide : 1 ≤ sizeLine), fun p hp => q p _ hp (Evl.Ex.new hp) ⟨_, ⟨?_, ?_⟩, upd_same⟩⟩
  · omega
  · omega
def t_of (K : PySem.W.Frag) : TS :=
(tRet (tOp (rIx K) (tVar 1) (tOp oMod (tCall sNext [] E0 (tCons (tVar 0) tNil)) (tCB (rLenV K) (tCons (tVar 1) tNil)))))
/-- one of some things in a list, one of the signs of a text -/
def sOf : Sp := fun vs H Q _ => ∃ p x, vs = [.ref p, x] ∧ StAt H p ∧
  ((∃ l xs, x = .ref l ∧ l ≠ p ∧ H l = some (.lst xs) ∧ 0 < xs.length ∧ ∀ H' v, Run p H H' → v ∈ xs → Q v H') ∨
   (∃ z : Str, x = .str z ∧ 0 < z.length ∧ z.length ≤ 100000 ∧ ∀ H' c, Run p H H' → c ∈ z.cps.toList → Q (.str ⟨#[c]⟩) H'))
theorem at_mod {α : Type} {xs : List α} {n : Int} (h : 0 < xs.length) : ∃ v, v ∈ xs ∧ atI xs (n % (xs.length : Int)) = some v := by
  have h1 : 0 ≤ n % (xs.length : Int) := Int.emod_nonneg _ (by omega)
  have h2 : n % (xs.length : Int) < xs.length := Int.emod_lt_of_pos _ (by omega)
  obtain ⟨k, hk⟩ : ∃ k : Nat, n % (xs.length : Int) = (k : Int) := ⟨(n % (xs.length : Int)).toNat, by omega⟩
  have h3 : k < xs.length := by omega
  refine ⟨xs[k], List.getElem_mem h3, ?_⟩
  rw [hk]
  unfold atI ixN
  rw [if_pos (by omega), if_pos (by omega)]
  show xs[(k : Int).toNat]? = _
  rw [Int.toNat_natCast, List.getElem?_eq_getElem h3]
theorem pure_of {K : PySem.W.Frag} {vs : List V} {H : Hp} {Q : VK} {E : XK} {nx : L2.St → Hp → Prop} (h : sOf vs H Q E) : t_of K { nx := nx, rt := Q } (start ["_law_state_here", "_law_some"] vs) H := by
  obtain ⟨p, x, rfl, hst, ⟨l, xs, rfl, nl, hl, hx, q⟩ | ⟨z, rfl, hz, hz2, q⟩⟩ := h
  · refine ⟨_, rfl, _, rfl, p, rfl, hst, fun H1 n r n0 n1 => ?_⟩
    have hl1 := sq_of (K := K) (r.keep nl hl)
    refine ⟨_, rfl, _, _, rfl, .inl ⟨xs, hl1, rfl⟩, _, _, rfl, rfl, pos0 (by omega), ?_⟩
    obtain ⟨v, hv, e⟩ := at_mod (n := n) hx
    exact .inl ⟨l, xs, _, v, rfl, rfl, hl1, e, q H1 v r hv⟩
  · refine ⟨_, rfl, _, rfl, p, rfl, hst, fun H1 n r n0 n1 => ?_⟩
    refine ⟨_, rfl, _, _, rfl, ⟨sz_of hz2, rfl⟩, _, _, rfl, rfl, pos0 (by omega), ?_⟩
    have e0 : z.length = z.cps.toList.length := by simp [Str.length]
    obtain ⟨c, hc, e⟩ := at_mod (n := n) (xs := z.cps.toList) (by omega)
    rw [← e0] at e
    exact .inr (.inr ⟨z, _, c, rfl, rfl, sz_of hz2, e, q H1 c r hc⟩)
def t_turned (K : PySem.W.Frag) : TS :=
(tSeq (tAsg (tOp oMod (tVar 1) (tCB (rLenL K) (tCons (tVar 0) tNil))) (gName 1))
  (tRet (tOp rCat (tSl (rSlL K) (tVar 0) (tPart (tVar 1)) tNoPart) (tSl (rSlL K) (tVar 0) tNoPart (tPart (tVar 1))))))
def sTurned : Sp := fun vs H Q _ => ∃ l xs, ∃ m : Int, vs = [.ref l, .int m] ∧ H l = some (.lst xs) ∧ 0 < xs.length ∧ xs.length ≤ 100000 ∧
  ∀ q H', H q = none → Ex H H' → H' q = some (.lst (Jos.rot xs (m % (xs.length : Int)).toNat)) → Q (.ref q) H'
theorem cut_from {xs : List V} {k : Nat} (h : k ≤ xs.length) : cutV xs (some (k : Int)) none = xs.drop k := by
  unfold cutV
  rw [show HT.sIx xs.length 0 (some (k : Int)) = min k xs.length from HT.sIx_nat xs.length 0 k, HT.sIx_none, Nat.min_eq_left h]
  apply List.take_of_length_le
  rw [List.length_drop]
  exact Nat.le_refl _
theorem cut_to {xs : List V} {k : Nat} (h : k ≤ xs.length) : cutV xs none (some (k : Int)) = xs.take k := by
  unfold cutV
  rw [show HT.sIx xs.length xs.length (some (k : Int)) = min k xs.length from HT.sIx_nat xs.length xs.length k, HT.sIx_none, Nat.min_eq_left h]
  simp
theorem pure_turned {K : PySem.W.Frag} {vs : List V} {H : Hp} {Q : VK} {E : XK} {nx : L2.St → Hp → Prop} (h : sTurned vs H Q E) : t_turned K { nx := nx, rt := Q } (start ["_law_row", "_law_many"] vs) H := by
  obtain ⟨l, xs, m, rfl, hl, h0, hz, q⟩ := h
  have h1 : 0 ≤ m % (xs.length : Int) := Int.emod_nonneg _ (by omega)
  have h2 : m % (xs.length : Int) < xs.length := Int.emod_lt_of_pos _ (by omega)
  obtain ⟨k, hk⟩ : ∃ k : Nat, m % (xs.length : Int) = (k : Int) := ⟨(m % (xs.length : Int)).toNat, by omega⟩
  have hkl : k ≤ xs.length := by omega
  refine ⟨_, rfl, _, rfl, l, xs, rfl, .inl (sq_of hl), _, _, rfl, rfl, pos0 (by omega), ?_⟩
  dsimp only
  rw [hk]
  refine ⟨_, rfl, _, rfl, _, rfl, l, xs, rfl, sq_of hl, fun a na => ?_⟩
  have e1 : Ex H (upd H a (.lst (cutV xs (some (k : Int)) none))) := Evl.Ex.new na
  refine ⟨_, rfl, _, rfl, _, rfl, l, xs, rfl, sq_of (e1 _ _ hl), fun b nb => ?_⟩
  have e2 : Ex (upd H a (.lst (cutV xs (some (k : Int)) none))) (upd (upd H a (.lst (cutV xs (some (k : Int)) none))) b (.lst (cutV xs none (some (k : Int))))) := Evl.Ex.new nb
  refine ⟨a, b, _, _, rfl, rfl, e2 _ _ upd_same, upd_same, ?_, fun c nc => ?_⟩
  · rw [cut_from hkl, cut_to hkl, List.length_drop, List.length_take]
    exact sz_of (by omega)
  · have e3 := Evl.Ex.new (o := .lst (cutV xs (some (k : Int)) none ++ cutV xs none (some (k : Int)))) nc
    refine q c _ (fresh_back e1 (fresh_back e2 nc)) (e1.trans (e2.trans e3)) ?_
    rw [upd_same, hk, cut_from hkl, cut_to hkl, Int.toNat_natCast]
    rfl

/-! ### going round hand by hand -/
def t_out (K : PySem.W.Frag) : TS :=
(tSeq (tAsg (tLst tNil) (gName 2))
  (tSeq (tAsg (tCB (rListOf K) (tCons (tVar 0) tNil)) (gName 3))
  (tSeq (tWhile (tTest (tOp (rEqF K true) (tVar 3) (tLst tNil)))
  (tSeq (tAsg (tVar 1) (gName 4))
  (tSeq (tIfS (tTest (tOp oGt (tVar 1) (tOp oMul (tC (.int 3)) (tCB (rLenL K) (tCons (tVar 3) tNil)))))
  (tAsg (tOp oAdd (tOp oMod (tVar 1) (tCB (rLenL K) (tCons (tVar 3) tNil))) (tOp oMul (tC (.int 2)) (tCB (rLenL K) (tCons (tVar 3) tNil)))) (gName 4))
  tNext)
  (tSeq (tWhile (tTest (tOp oGt (tVar 4) (tC (.int 1))))
  (tSeq (tDrop (tBM K "list" rAppend (tVar 3) (tCons (tBM K "list" rPopAt (tVar 3) (tCons (tC (.int 0)) tNil)) tNil)))
  (tAsg (tOp oSub (tVar 4) (tC (.int 1))) (gName 4))))
  (tDrop (tBM K "list" rAppend (tVar 2) (tCons (tBM K "list" rPopAt (tVar 3) (tCons (tC (.int 0)) tNil)) tNil)))))))
  (tRet (tVar 2)))))
def sOut (K : PySem.W.Frag) : Sp := fun vs H Q _ => ∃ l xs, ∃ d : Int, vs = [.ref l, .int d] ∧ SqL K H l xs ∧ xs.length ≤ 1000 ∧ xs.all plain = true ∧ 1 ≤ d ∧
  ∀ q H', H q = none → Ex H H' → H' q = some (.lst (Jos.out (d - 1).toNat xs.length xs)) → Q (.ref q) H'
theorem ty_l {K : PySem.W.Frag} {H : Hp} {p : Addr} {xs : List V} (h : H p = some (.lst xs)) : tyV K "list" (.ref p) H := .inl ⟨rfl, _, sq_of h⟩
theorem rotN_plain {k : Nat} {l : List V} (h : l.all plain = true) : (Jos.rotN k l).all plain = true := by
  rw [List.all_eq_true] at h ⊢
  exact fun x hx => h x ((Jos.rotN_perm k l).mem_iff.mp hx)
/-- what stays: H, the two lists -/
structure OutAt (H H' : Hp) (f w : Addr) (done left : List V) : Prop where
  ex : Ex H H'
  nf : H f = none
  nw : H w = none
  ne : w ≠ f
  hf : H' f = some (.lst done)
  hw : H' w = some (.lst left)
theorem OutAt.setw {H H' : Hp} {f w : Addr} {done left ys : List V} (o : OutAt H H' f w done left) : OutAt H (upd H' w (.lst ys)) f w done ys :=
  ⟨Evl.Ex.mut o.ex o.nw, o.nf, o.nw, o.ne, by rw [upd_ne o.ne.symm]; exact o.hf, upd_same⟩
theorem OutAt.setf {H H' : Hp} {f w : Addr} {done left ys : List V} (o : OutAt H H' f w done left) : OutAt H (upd H' f (.lst ys)) f w ys left :=
  ⟨Evl.Ex.mut o.ex o.nf, o.nf, o.nw, o.ne, upd_same, by rw [upd_ne o.ne]; exact o.hw⟩
theorem OutAt.new {H H' : Hp} {f w q : Addr} {done left : List V} {u : HO} (o : OutAt H H' f w done left) (h : H' q = none) : OutAt H (upd H' q u) f w done left :=
  ⟨o.ex.trans (Evl.Ex.new h), o.nf, o.nw, o.ne, Evl.Ex.new h _ _ o.hf, Evl.Ex.new h _ _ o.hw⟩
theorem seq0 {n : Nat} (h : 0 < n) : seqIndex? 0 n = some 0 := by
  unfold seqIndex?
  simp
  omega
theorem pure_out {K : PySem.W.Frag} {vs : List V} {H : Hp} {Q : VK} {E : XK} {nx : L2.St → Hp → Prop} (h : sOut K vs H Q E) : t_out K { nx := nx, rt := Q } (start ["_law_row", "_law_step_here", "_law_found", "_law_left", "_law_told"] vs) H := by
  obtain ⟨l, xs, d, rfl, hl, hz, hp, hd, q⟩ := h
  refine ⟨Nat.zero_le _, fun f nf => ?_⟩
  have e1 : Ex H (upd H f (.lst [])) := Evl.Ex.new nf
  refine ⟨_, rfl, l, xs, rfl, .inl (ex_l e1 hl), fun w nw => ?_⟩
  have e2 : Ex (upd H f (.lst [])) (upd (upd H f (.lst [])) w (.lst xs)) := Evl.Ex.new nw
  have o0 : OutAt H (upd (upd H f (.lst [])) w (.lst xs)) f w [] xs := ⟨e1.trans e2, nf, fresh_back e1 nw, fun e => (by rw [e, upd_same] at nw; cases nw), e2 _ _ upd_same, upd_same⟩
  refine ⟨fun m σ H' => ∃ done left y4, σ = [some (.ref l), some (.int d), some (.ref f), some (.ref w), y4] ∧ m = left.length ∧ OutAt H H' f w done left ∧ left.length ≤ 1000 ∧ done.length + left.length ≤ 1000 ∧ left.all plain = true ∧
    done ++ Jos.out (d - 1).toNat left.length left = Jos.out (d - 1).toNat xs.length xs, ⟨xs.length, [], xs, none, rfl, rfl, o0, hz, by simpa using hz, hp, rfl⟩, ?_⟩
  intro m σ H' hW
  obtain ⟨done, left, y4, rfl, rfl, o, hz1, hz2, hpl, ho⟩ := hW
  refine ⟨_, rfl, Nat.zero_le _, fun c nc => ?_⟩
  have oc := o.new (u := .lst []) nc
  refine ⟨w, c, left, [], rfl, rfl, sq_of oc.hw, sq_of upd_same, hpl, rfl, _, rfl, ?_⟩
  cases left with
  | nil =>
    refine iteF ?_
    refine ⟨_, rfl, ?_⟩
    rw [← ho, List.length_nil, Jos.out, List.append_nil] at q
    exact q f _ nf oc.ex oc.hf
  | cons x0 r0 =>
    generalize hleft : x0 :: r0 = left at *
    have hpos : 0 < left.length := by rw [← hleft]; simp
    have hne : left ≠ [] := by rw [← hleft]; simp
    refine if_pos (show (if true = true then !decide (left = []) else decide (left = [])) = true by simp [hne]) ▸ ?_
    refine ⟨fun σ2 H2 => ∃ m', m' < left.length ∧ ∃ done' left' y4, σ2 = [some (.ref l), some (.int d), some (.ref f), some (.ref w), y4] ∧ m' = left'.length ∧ OutAt H H2 f w done' left' ∧ left'.length ≤ 1000 ∧ done'.length + left'.length ≤ 1000 ∧ left'.all plain = true ∧
      done' ++ Jos.out (d - 1).toNat left'.length left' = Jos.out (d - 1).toNat xs.length xs, fun _ _ h => h, ?_⟩
    generalize (upd H' c (.lst [])) = Hc at oc
    -- told = step, or what is left of it
    have key : ∀ (t : Int), 1 ≤ t → (t - 1).toNat % left.length = (d - 1).toNat % left.length → (tSeq (tWhile (tTest (tOp oGt (tVar 4) (tC (.int 1))))
      (tSeq (tDrop (tBM K "list" rAppend (tVar 3) (tCons (tBM K "list" rPopAt (tVar 3) (tCons (tC (.int 0)) tNil)) tNil)))
      (tAsg (tOp oSub (tVar 4) (tC (.int 1))) (gName 4))))
      (tDrop (tBM K "list" rAppend (tVar 2) (tCons (tBM K "list" rPopAt (tVar 3) (tCons (tC (.int 0)) tNil)) tNil))))
      { nx := fun σ2 H2 => ∃ m', m' < left.length ∧ ∃ done' left' y4, σ2 = [some (.ref l), some (.int d), some (.ref f), some (.ref w), y4] ∧ m' = left'.length ∧ OutAt H H2 f w done' left' ∧ left'.length ≤ 1000 ∧ done'.length + left'.length ≤ 1000 ∧ left'.all plain = true ∧
      done' ++ Jos.out (d - 1).toNat left'.length left' = Jos.out (d - 1).toNat xs.length xs, rt := Q } [some (.ref l), some (.int d), some (.ref f), some (.ref w), some (.int t)] Hc := by
      intro t ht hm
      have hrot : Jos.rotN (t - 1).toNat left = Jos.rotN (d - 1).toNat left := Jos.rotN_congr hm
      refine ⟨fun m σ3 H3 => ∃ s left', σ3 = [some (.ref l), some (.int d), some (.ref f), some (.ref w), some (.int s)] ∧ 1 ≤ s ∧ m = s.toNat ∧ OutAt H H3 f w done left' ∧ left'.length = left.length ∧ Jos.rotN (s - 1).toNat left' = Jos.rotN (d - 1).toNat left,
        ⟨t.toNat, t, left, rfl, ht, rfl, oc, rfl, hrot⟩, ?_⟩
      intro m σ3 H3 hW
      obtain ⟨s, left', rfl, hs, rfl, o3, hl3, hr3⟩ := hW
      refine ⟨_, rfl, _, _, rfl, rfl, _, rfl, ite2 (fun e => ?_) (fun e => ?_)⟩
      · have hs1 : 1 < s := of_decide_eq_true e
        refine ⟨fun σ4 H4 => ∃ m', m' < s.toNat ∧ ∃ s left', σ4 = [some (.ref l), some (.int d), some (.ref f), some (.ref w), some (.int s)] ∧ 1 ≤ s ∧ m' = s.toNat ∧ OutAt H H4 f w done left' ∧ left'.length = left.length ∧ Jos.rotN (s - 1).toNat left' = Jos.rotN (d - 1).toNat left, fun _ _ h => h, ?_⟩
        cases left' with
        | nil => simp at hl3; omega
        | cons x r =>
          refine ⟨_, rfl, ty_l o3.hw, _, rfl, ty_l o3.hw, w, x :: r, 0, 0, x, rfl, rfl, o3.hw, by omega, by omega, seq0 (by simp), rfl, ?_⟩
          have o4 : OutAt H (upd H3 w (.lst ((x :: r).eraseIdx 0))) f w done r := o3.setw
          refine ⟨w, r, x, rfl, rfl, o4.hw, sz_lt (by simp at hl3; omega), ?_⟩
          refine ⟨_, rfl, _, _, rfl, rfl, ?_⟩
          refine ⟨(s - 1).toNat, by omega, s - 1, r ++ [x], rfl, by omega, rfl, o4.setw, by simp at hl3 ⊢; omega, ?_⟩
          rw [← hr3, show (s - 1).toNat = (s - 1 - 1).toNat + 1 by omega]
          rfl
      · have hs1 : ¬ 1 < s := fun z => e (decide_eq_true z)
        have es : (s - 1).toNat = 0 := by omega
        rw [es] at hr3
        have hr4 : left' = Jos.rotN (d - 1).toNat left := hr3
        cases left' with
        | nil => simp at hl3; omega
        | cons x r =>
          refine ⟨_, rfl, ty_l o3.hf, _, rfl, ty_l o3.hw, w, x :: r, 0, 0, x, rfl, rfl, o3.hw, by omega, by omega, seq0 (by simp), rfl, ?_⟩
          have o4 : OutAt H (upd H3 w (.lst ((x :: r).eraseIdx 0))) f w done r := o3.setw
          refine ⟨f, done, x, rfl, rfl, o4.hf, sz_lt (by omega), ?_⟩
          simp only [List.length_cons] at hl3
          refine ⟨r.length, by omega, done ++ [x], r, _, rfl, rfl, o4.setf, by omega, by simp; omega, ?_, ?_⟩
          · have h1 := rotN_plain (k := (d - 1).toNat) hpl
            rw [← hr4, List.all_cons, Bool.and_eq_true] at h1
            exact h1.2
          · rw [← ho, List.append_assoc]
            congr 1
            rw [← hl3, Jos.out, ← hr4]
            rfl
    refine ⟨_, rfl, ?_⟩
    refine ⟨_, rfl, _, rfl, w, left, rfl, .inl (sq_of oc.hw), _, _, rfl, rfl, .inl ⟨by decide, by decide⟩, _, _, rfl, rfl, _, rfl, ite2 (fun e => ?_) (fun e => ?_)⟩
    · have e1 : 3 * (left.length : Int) < d := of_decide_eq_true e
      refine ⟨_, rfl, _, rfl, w, left, rfl, .inl (sq_of oc.hw), _, _, rfl, rfl, pos0 (by omega), _, rfl, w, left, rfl, .inl (sq_of oc.hw), _, _, rfl, rfl, .inl ⟨by decide, by decide⟩, _, _, rfl, rfl, ?_⟩
      have c1 : 0 ≤ d % (left.length : Int) := Int.emod_nonneg _ (by omega)
      have c2 : d % (left.length : Int) < left.length := Int.emod_lt_of_pos _ (by omega)
      refine key _ (by omega) ?_
      apply Int.ofNat.inj
      show (((d % (left.length : Int) + 2 * (left.length : Int) - 1).toNat % left.length : Nat) : Int) = (((d - 1).toNat % left.length : Nat) : Int)
      rw [Int.natCast_emod, Int.natCast_emod, Int.toNat_of_nonneg (by omega), Int.toNat_of_nonneg (by omega)]
      rw [show d % (left.length : Int) + 2 * (left.length : Int) - 1 = (d % (left.length : Int) - 1) + (left.length : Int) * 2 by omega, Int.add_mul_emod_self_left, Int.emod_sub_emod]
    · exact key d hd rfl
end Cd

set_option Elab.async false
set_option linter.all false
set_option maxRecDepth 100000
set_option maxHeartbeats 2000000
namespace Cd
open PySem PySem.Spec PyProof.Rows L2
open Evl (Ex sq_of ex_l sz_of sz_lt fresh_back)
def t_step : TS :=
(tRet (tCall sOf [] E0 (tCons (tVar 0) (tCons (tLst (tCons (tC (.int 1)) (tCons (tC (.int 2)) (tCons (tC (.int 3)) (tCons (tOp oAdd (tC (.int 1)) (tOp oMod (tCall sNext [] E0 (tCons (tVar 0) tNil)) (tC (.int 12)))) (tCons (tOp oAdd (tC (.int 1)) (tOp oMod (tCall sNext [] E0 (tCons (tVar 0) tNil)) (tVar 1))) (tCons (tVar 1) tNil))))))) tNil))))
def sStep : Sp := fun vs H Q _ => ∃ p, ∃ m : Int, vs = [.ref p, .int m] ∧ StAt H p ∧ 12 ≤ m ∧ ∀ H' d, Run p H H' → 1 ≤ d → d ≤ m → Q (.int d) H'
theorem pure_step {vs : List V} {H : Hp} {Q : VK} {E : XK} {nx : L2.St → Hp → Prop} (h : sStep vs H Q E) : t_step { nx := nx, rt := Q } (start ["_law_state_here", "_law_most"] vs) H := by
  obtain ⟨p, m, rfl, hst, hm, q⟩ := h
  refine ⟨_, rfl, ?_⟩
  refine ⟨_, rfl, p, rfl, hst, fun H1 n1 r1 n10 n11 => ?_⟩
  refine ⟨_, _, rfl, rfl, pos0 (by decide), _, _, rfl, rfl, _, rfl, p, rfl, r1.2, fun H2 n2 r2 n20 n21 => ?_⟩
  refine ⟨_, rfl, _, _, rfl, rfl, pos0 (by omega), _, _, rfl, rfl, _, rfl, (by decide : 6 ≤ sizeLine), fun l nl => ?_⟩
  have r := r1.trans r2
  refine ⟨p, .ref l, rfl, r2.2.ex (Evl.Ex.new nl), .inl ⟨l, _, rfl, r2.2.ne nl, upd_same, by simp, fun H3 v r3 hv => ?_⟩⟩
  have a1 : 0 ≤ n1 % 12 := Int.emod_nonneg _ (by decide)
  have a2 : n1 % 12 < 12 := Int.emod_lt_of_pos _ (by decide)
  have b1 : 0 ≤ n2 % m := Int.emod_nonneg _ (by omega)
  have b2 : n2 % m < m := Int.emod_lt_of_pos _ (by omega)
  have rr := (r.new nl).trans r3
  simp only [List.mem_cons, List.not_mem_nil, or_false] at hv
  rcases hv with rfl | rfl | rfl | rfl | rfl | rfl <;> exact q H3 _ rr (by omega) (by omega)
/-! ### kinds of things -/
/-- a thing of a told kind -/
def isI : V → Bool
  | .int _ => true
  | _ => false
def Typ (K : PySem.W.Frag) (H : Hp) (x : V) : Prop := ∃ T : String, TyX K H x (.type T) ∧ T ∈ ["NoneType", "bool", "int", "str", "list", "tuple", "dict"] ∧ (T = "int" ↔ isI x = true)
theorem Typ.int {K : PySem.W.Frag} {H : Hp} {i : Int} : Typ K H (.int i) := ⟨"int", .base (.int i), by decide, by simp [isI]⟩
theorem Typ.non {K : PySem.W.Frag} {H : Hp} : Typ K H .non := ⟨"NoneType", .base .non, by decide, by simp [isI]⟩
theorem Typ.bl {K : PySem.W.Frag} {H : Hp} {b : Bool} : Typ K H (.bl b) := ⟨"bool", .base (.bl b), by decide, by simp [isI]⟩
theorem Typ.str {K : PySem.W.Frag} {H : Hp} {x : Str} : Typ K H (.str x) := ⟨"str", .base (.str x), by decide, by simp [isI]⟩
theorem Typ.lst {K : PySem.W.Frag} {H : Hp} {a : Addr} {xs : List V} (h : H a = some (.lst xs)) : Typ K H (.ref a) := ⟨"list", .base (.lst h), by decide, by simp [isI]⟩
theorem Typ.tup {K : PySem.W.Frag} {H : Hp} {a : Addr} {xs : List V} (h : H a = some (.tup xs)) : Typ K H (.ref a) := ⟨"tuple", .base (.tup h), by decide, by simp [isI]⟩
theorem Typ.dic {K : PySem.W.Frag} {H : Hp} {a : Addr} {xs : List (Key × V)} (h : H a = some (.dK xs)) : Typ K H (.ref a) := ⟨"dict", .base (.dK h), by decide, by simp [isI]⟩
def whB (x : V) (lo hi : Int) : Bool := match x with
  | .int i => decide (lo ≤ i) && decide (i ≤ hi)
  | _ => false
def t_is_whole (K : PySem.W.Frag) : TS :=
(tRet (tAndV (tCB (rIsi K) (tCons (tVar 0) (tCons (tC (.ty "int")) tNil))) (tAndV (tNotV (tCB (rIsi K) (tCons (tVar 0) (tCons (tC (.ty "bool")) tNil)))) (tChain oLe oLe (tVar 1) (tVar 0) (tVar 2)))))
def sIsW (K : PySem.W.Frag) : Sp := fun vs H Q _ => ∃ x, ∃ lo hi : Int, vs = [x, .int lo, .int hi] ∧ Typ K H x ∧ Q (.bl (whB x lo hi)) H
theorem pure_is_whole {K : PySem.W.Frag} {vs : List V} {H : Hp} {Q : VK} {E : XK} {nx : L2.St → Hp → Prop} (h : sIsW K vs H Q E) : t_is_whole K { nx := nx, rt := Q } (start ["thing", "low", "high"] vs) H := by
  obtain ⟨x, lo, hi, rfl, ⟨T, hT, hm, hI⟩, q⟩ := h
  simp only [List.mem_cons, List.not_mem_nil, or_false] at hm
  by_cases e : T = "int"
  · subst e
    have hx := hI.mp rfl
    cases x <;> first | (simp [isI] at hx; done) | skip
    rename_i i
    refine ⟨_, rfl, _, _, _, _, true, rfl, .ty "int", hT, kit_ty (by decide +kernel), true, rfl, iteT ?_⟩
    refine ⟨_, rfl, _, _, _, _, false, rfl, .ty "bool", hT, kit_ty (by decide +kernel), false, rfl, true, rfl, iteT ?_⟩
    refine ⟨_, rfl, _, rfl, _, _, rfl, rfl, _, rfl, ite2 (fun e1 => ?_) (fun e1 => ?_)⟩
    · refine ⟨_, rfl, _, _, rfl, rfl, ?_⟩
      have e2 : whB (.int i) lo hi = decide (i ≤ hi) := by
        show (decide (lo ≤ i) && decide (i ≤ hi)) = _
        rw [e1, Bool.true_and]
      rw [e2] at q
      exact q
    · have e2 : whB (.int i) lo hi = false := by
        show (decide (lo ≤ i) && decide (i ≤ hi)) = _
        rw [Bool.eq_false_iff.mpr e1, Bool.false_and]
      rw [e2] at q
      exact q
  · have hx : isI x = false := by
      cases h : isI x with
      | false => rfl
      | true => exact absurd (hI.mpr h) e
    have hw : whB x lo hi = false := by cases x <;> first | rfl | (simp [isI] at hx; done)
    rw [hw] at q
    by_cases eb : T = "bool"
    · subst eb
      refine ⟨_, rfl, _, _, _, _, true, rfl, .ty "int", hT, kit_ty (by decide +kernel), true, rfl, iteT ?_⟩
      exact ⟨_, rfl, _, _, _, _, true, rfl, .ty "bool", hT, kit_ty (by decide +kernel), true, rfl, false, rfl, iteF q⟩
    · refine ⟨_, rfl, _, _, _, _, false, rfl, .ty "int", hT, kit_ty ?_, false, rfl, iteF q⟩
      rcases hm with rfl | rfl | rfl | rfl | rfl | rfl | rfl <;> first | exact absurd rfl e | exact absurd rfl eb | decide +kernel
def t_whole (K : PySem.W.Frag) : TS :=
(tRet (tAndV (tCB (rIsi K) (tCons (tVar 0) (tCons (tC (.ty "int")) tNil))) (tNotV (tCB (rIsi K) (tCons (tVar 0) (tCons (tC (.ty "bool")) tNil))))))
def sWhole : Sp := fun vs H Q _ => ∃ i : Int, vs = [.int i] ∧ Q (.bl true) H
theorem pure_whole {K : PySem.W.Frag} {vs : List V} {H : Hp} {Q : VK} {E : XK} {nx : L2.St → Hp → Prop} (h : sWhole vs H Q E) : t_whole K { nx := nx, rt := Q } (start ["_law_found"] vs) H := by
  obtain ⟨i, rfl, q⟩ := h
  refine ⟨_, rfl, _, _, _, _, true, rfl, .ty "int", .base (.int i), kit_ty (by decide +kernel), true, rfl, iteT ?_⟩
  exact ⟨_, rfl, _, _, _, _, false, rfl, .ty "bool", .base (.int i), kit_ty (by decide +kernel), false, rfl, q⟩
end Cd

set_option Elab.async false
set_option linter.all false
set_option maxRecDepth 100000
set_option maxHeartbeats 2000000
namespace Cd
open PySem PySem.Spec PyProof.Rows L2
open Evl (Ex sq_of ex_l sz_of sz_lt fresh_back)
/-! ### which numbers are taken -/
def t_check_many (K : PySem.W.Frag) (C : Addr) (E : XK) : TS :=
(tIfS (tNot (tB (tCall (sIsW K) [] E0 (tCons (tVar 0) (tCons (tC (.int 1)) (tCons (tVar 1) tNil))))))
  (tRaise C E)
  tNext)
/-- from 1 on (many, step) -/
def sCk1 (K : PySem.W.Frag) (C : Addr) : Sp := fun vs H Q E => ∃ x, ∃ hi : Int, vs = [x, .int hi] ∧ Typ K H x ∧ (whB x 1 hi = true → Q .non H) ∧ (whB x 1 hi = false → E (.ref C) none H)
theorem pure_ck1 {K : PySem.W.Frag} {C : Addr} {N : List Str} {vs : List V} {H : Hp} {Q : VK} {E : XK} (hN : N.length = 2) (h : sCk1 K C vs H Q E) : t_check_many K C E { nx := fun _ H' => Q .non H', rt := Q } (start N vs) H := by
  obtain ⟨x, hi, rfl, ht, q1, q2⟩ := h
  have e : L2.start N [x, .int hi] = [some x, some (.int hi)] := by simp [L2.start, hN]
  rw [e]
  refine ⟨_, rfl, _, rfl, x, 1, hi, rfl, ht, _, rfl, ?_⟩
  cases hw : whB x 1 hi with
  | true => exact iteF (q1 hw)
  | false => exact iteT (q2 hw)
def t_check_place (K : PySem.W.Frag) (C : Addr) (E : XK) : TS :=
(tIfS (tNot (tB (tCall (sIsW K) [] E0 (tCons (tVar 0) (tCons (tC (.int 0)) (tCons (tOp oSub (tVar 1) (tC (.int 1))) tNil))))))
  (tRaise C E)
  tNext)
def sCkP (K : PySem.W.Frag) (C : Addr) : Sp := fun vs H Q E => ∃ x, ∃ m : Int, vs = [x, .int m] ∧ Typ K H x ∧ (whB x 0 (m - 1) = true → Q .non H) ∧ (whB x 0 (m - 1) = false → E (.ref C) none H)
theorem pure_check_place {K : PySem.W.Frag} {C : Addr} {vs : List V} {H : Hp} {Q : VK} {E : XK} (h : sCkP K C vs H Q E) : t_check_place K C E { nx := fun _ H' => Q .non H', rt := Q } (start ["place", "many"] vs) H := by
  obtain ⟨x, m, rfl, ht, q1, q2⟩ := h
  refine ⟨_, rfl, _, rfl, _, _, rfl, rfl, x, 0, m - 1, rfl, ht, _, rfl, ?_⟩
  cases hw : whB x 0 (m - 1) with
  | true => exact iteF (q1 hw)
  | false => exact iteT (q2 hw)
def t_check_count (K : PySem.W.Frag) (C : Addr) (E : XK) : TS :=
(tIfS (tNot (tB (tCall (sIsW K) [] E0 (tCons (tVar 0) (tCons (tVar 1) (tCons (tVar 2) tNil))))))
  (tRaise C E)
  tNext)
def sCkC (K : PySem.W.Frag) (C : Addr) : Sp := fun vs H Q E => ∃ x, ∃ lo hi : Int, vs = [x, .int lo, .int hi] ∧ Typ K H x ∧ (whB x lo hi = true → Q .non H) ∧ (whB x lo hi = false → E (.ref C) none H)
theorem pure_check_count {K : PySem.W.Frag} {C : Addr} {vs : List V} {H : Hp} {Q : VK} {E : XK} (h : sCkC K C vs H Q E) : t_check_count K C E { nx := fun _ H' => Q .non H', rt := Q } (start ["count", "low", "high"] vs) H := by
  obtain ⟨x, lo, hi, rfl, ht, q1, q2⟩ := h
  refine ⟨_, rfl, _, rfl, _, rfl, x, lo, hi, rfl, ht, _, rfl, ?_⟩
  cases hw : whB x lo hi with
  | true => exact iteF (q1 hw)
  | false => exact iteT (q2 hw)
theorem wh_int {x : V} {lo hi : Int} (h : whB x lo hi = true) : ∃ i : Int, x = .int i ∧ lo ≤ i ∧ i ≤ hi := by
  cases x <;> first | (simp [whB] at h; done) | skip
  rename_i i
  rw [whB, Bool.and_eq_true, decide_eq_true_eq, decide_eq_true_eq] at h
  exact ⟨i, rfl, h.1, h.2⟩
theorem wh_of {i lo hi : Int} (h1 : lo ≤ i) (h2 : i ≤ hi) : whB (.int i) lo hi = true := by
  rw [whB, Bool.and_eq_true, decide_eq_true_eq, decide_eq_true_eq]; exact ⟨h1, h2⟩
/-! ### rings told by numbers -/
def big : Int := 1000000000000000000000000000000000000000000000000000000000000
def t_check_ring (K : PySem.W.Frag) (CM CS CP : Addr) (E : XK) : TS :=
(tSeq (tDrop (tCall (sCk1 K CM) [] E (tCons (tVar 0) (tCons (tC (.int (1000000000000000000000000000000000000000000000000000000000000))) tNil))))
  (tSeq (tDrop (tCall (sCk1 K CS) [] E (tCons (tVar 1) (tCons (tC (.int (100))) tNil))))
  (tDrop (tCall (sCkP K CP) [] E (tCons (tVar 2) (tCons (tVar 0) tNil))))))
/-- many, step, begin: the first refusal that is due -/
@[irreducible] def sRing (K : PySem.W.Frag) (CM CS CP : Addr) : Sp := fun vs H Q E => ∃ m d b, vs = [m, d, b] ∧ Typ K H m ∧ Typ K H d ∧ Typ K H b ∧
  (whB m 1 big = false → E (.ref CM) none H) ∧ (∀ n : Int, m = .int n → 1 ≤ n → n ≤ big →
    (whB d 1 100 = false → E (.ref CS) none H) ∧ (whB d 1 100 = true → (whB b 0 (n - 1) = false → E (.ref CP) none H) ∧ (whB b 0 (n - 1) = true → Q .non H)))
theorem pure_check_ring {K : PySem.W.Frag} {CM CS CP : Addr} {vs : List V} {H : Hp} {Q : VK} {E : XK} (h : sRing K CM CS CP vs H Q E) : t_check_ring K CM CS CP E { nx := fun _ H' => Q .non H', rt := Q } (start ["many", "step", "begin"] vs) H := by
  unfold sRing at h
  obtain ⟨m, d, b, rfl, tm, td, tb, q0, q⟩ := h
  refine ⟨_, rfl, m, _, rfl, tm, fun h1 => ?_, fun h1 => q0 h1⟩
  obtain ⟨n, rfl, n1, n2⟩ := wh_int h1
  have q := q n rfl n1 n2
  refine ⟨_, rfl, d, _, rfl, td, fun h2 => ?_, fun h2 => q.1 h2⟩
  have q := q.2 h2
  exact ⟨_, rfl, _, rfl, b, n, rfl, tb, fun h3 => q.2 h3, fun h3 => q.1 h3⟩
/-! the count of a place -/
/-- many m, step d, from number n on: the number at which the one who is told n goes -/
def goN (m d : Nat) : Nat → Nat → Nat
  | 0, n => n
  | f + 1, n => if n % d = 0 then n else goN m d f (m + n - n / d)
def t_count_of (K : PySem.W.Frag) (CM CS CP : Addr) (E : XK) : TS :=
(tSeq (tDrop (tCall (sRing K CM CS CP) [] E (tCons (tVar 0) (tCons (tVar 1) (tCons (tVar 2) tNil)))))
  (tSeq (tDrop (tCall (sCkP K CP) [] E (tCons (tVar 3) (tCons (tVar 0) tNil))))
  (tSeq (tAsg (tOp oAdd (tOp oMod (tOp oSub (tVar 3) (tVar 2)) (tVar 0)) (tC (.int 1))) (gName 4))
  (tSeq (tWhile (tTest (tOp rNe (tOp oMod (tVar 4) (tVar 1)) (tC (.int 0))))
  (tAsg (tOp oSub (tOp oAdd (tVar 0) (tVar 4)) (tOp oFdiv (tVar 4) (tVar 1))) (gName 4)))
  (tRet (tOp oFdiv (tVar 4) (tVar 1)))))))
/-- refused likewise: the ring's three, then what stands behind -/
def sRef (K : PySem.W.Frag) (CM CS CP : Addr) (m d b : V) (H : Hp) (E : XK) (ok : Int → Int → Int → Prop) : Prop :=
  Typ K H m ∧ Typ K H d ∧ Typ K H b ∧
  (whB m 1 big = false → E (.ref CM) none H) ∧ (∀ n : Int, m = .int n → 1 ≤ n → n ≤ big →
    (whB d 1 100 = false → E (.ref CS) none H) ∧ (∀ s : Int, d = .int s → 1 ≤ s → s ≤ 100 → (whB b 0 (n - 1) = false → E (.ref CP) none H) ∧ (∀ g : Int, b = .int g → 0 ≤ g → g < n → ok n s g)))
theorem sRef.ring {K : PySem.W.Frag} {CM CS CP : Addr} {m d b : V} {H : Hp} {Q : VK} {E : XK} {ok : Int → Int → Int → Prop} (h : sRef K CM CS CP m d b H E ok)
    (k : ∀ n s g : Int, m = .int n → d = .int s → b = .int g → 1 ≤ n → n ≤ big → 1 ≤ s → s ≤ 100 → 0 ≤ g → g < n → ok n s g → Q .non H) : sRing K CM CS CP [m, d, b] H Q E := by
  obtain ⟨tm, td, tb, q0, q⟩ := h
  unfold sRing
  refine ⟨m, d, b, rfl, tm, td, tb, q0, fun n en n1 n2 => ⟨(q n en n1 n2).1, fun hd => ?_⟩⟩
  obtain ⟨s, es, s1, s2⟩ := wh_int hd
  have q := (q n en n1 n2).2 s es s1 s2
  refine ⟨q.1, fun hb => ?_⟩
  obtain ⟨g, eg, g1, g2⟩ := wh_int hb
  exact k n s g en es eg n1 n2 s1 s2 g1 (by omega) (q.2 g eg g1 (by omega))
@[irreducible] def sCount (K : PySem.W.Frag) (CM CS CP : Addr) : Sp := fun vs H Q E => ∃ m d b x, vs = [m, d, b, x] ∧ Typ K H x ∧ sRef K CM CS CP m d b H E fun n s g =>
  (whB x 0 (n - 1) = false → E (.ref CP) none H) ∧ ∀ p : Nat, x = .int (p : Int) → (p : Int) < n → ∀ c : Nat, (Jos.order s.toNat n.toNat g.toNat)[c]? = some p → Q (.int ((c : Int) + 1)) H
theorem pure_count_of {K : PySem.W.Frag} {CM CS CP : Addr} {vs : List V} {H : Hp} {Q : VK} {E : XK} (h : sCount K CM CS CP vs H Q E) : t_count_of K CM CS CP E { nx := fun _ H' => Q .non H', rt := Q } (start ["many", "step", "begin", "place", "number"] vs) H := by
  unfold sCount at h
  obtain ⟨m, d, b, x, rfl, tx, h⟩ := h
  refine ⟨_, rfl, _, rfl, _, rfl, ?_⟩
  show sRing K CM CS CP [m, d, b] H _ E
  refine h.ring fun n s g em es eg n1 n2 s1 s2 g1 g2 ok => ?_
  subst em es eg
  refine ⟨_, rfl, _, rfl, x, n, rfl, tx, fun hx => ?_, fun hx => ok.1 hx⟩
  obtain ⟨p', rfl, p1, p2⟩ := wh_int hx
  obtain ⟨p, rfl⟩ : ∃ p : Nat, p' = (p : Int) := ⟨p'.toNat, by omega⟩
  have ok := ok.2 p rfl (by omega)
  obtain ⟨M, rfl⟩ : ∃ M : Nat, n = (M : Int) := ⟨n.toNat, by omega⟩
  obtain ⟨D, rfl⟩ : ∃ D : Nat, s = (D : Int) := ⟨s.toNat, by omega⟩
  obtain ⟨B, rfl⟩ : ∃ B : Nat, g = (B : Int) := ⟨g.toNat, by omega⟩
  simp only [Int.toNat_natCast] at ok
  have hD : 0 < D := by omega
  refine ⟨_, rfl, _, rfl, _, _, rfl, rfl, _, rfl, _, _, rfl, rfl, pos0 (by omega), _, _, rfl, rfl, ?_⟩
  -- the first number
  obtain ⟨N0, hN0, h0l, h0t⟩ : ∃ N0 : Nat, ((p : Int) - (B : Int)) % (M : Int) + 1 = (N0 : Int) ∧ 1 ≤ N0 ∧ N0 ≤ M ∧ Jos.told D (Jos.ring M B) N0 = some p := by
    have c1 : 0 ≤ ((p : Int) - (B : Int)) % (M : Int) := Int.emod_nonneg _ (by omega)
    have c2 : ((p : Int) - (B : Int)) % (M : Int) < M := Int.emod_lt_of_pos _ (by omega)
    refine ⟨(((p : Int) - (B : Int)) % (M : Int) + 1).toNat, by omega, by omega, by omega, ?_⟩
    rw [Jos.told_first hD (by omega) (by rw [Jos.ring_len]; omega), Jos.ring_get (by omega) (by omega)]
    congr 1
    apply Int.ofNat.inj
    show (((B + ((((p : Int) - (B : Int)) % (M : Int) + 1).toNat - 1)) % M : Nat) : Int) = (p : Int)
    rw [show B + ((((p : Int) - (B : Int)) % (M : Int) + 1).toNat - 1) = B + (((p : Int) - (B : Int)) % (M : Int)).toNat by omega, Int.natCast_emod, Int.natCast_add, Int.toNat_of_nonneg c1, Int.add_emod_emod, show (B : Int) + ((p : Int) - (B : Int)) = (p : Int) by omega]
    exact Int.emod_eq_of_lt (by omega) (by omega)
  dsimp only
  rw [hN0]
  have hMD : M ≤ M * D := Nat.le_mul_of_pos_right M hD
  refine ⟨fun μ σ H' => ∃ N : Nat, σ = [some (.int (M : Int)), some (.int (D : Int)), some (.int (B : Int)), some (.int (p : Int)), some (.int (N : Int))] ∧ H' = H ∧ μ = M * D - N ∧ 1 ≤ N ∧ N ≤ M * D ∧ Jos.told D (Jos.ring M B) N = some p,
    ⟨M * D - N0, N0, rfl, rfl, rfl, h0l, by omega, h0t.2⟩, ?_⟩
  intro μ σ H' hW
  obtain ⟨N, rfl, rfl, rfl, hN1, hN2, hN3⟩ := hW
  refine ⟨_, rfl, _, rfl, _, _, rfl, rfl, pos0 (by omega), rfl, _, rfl, ?_⟩
  refine iteC (fun e => ?_) (fun e => ?_)
  rotate_left
  · have hz : N % D = 0 := by
      rw [Bool.not_eq_false', decide_eq_true_eq] at e
      have z := V.int.inj e
      rw [← Int.natCast_emod] at z
      omega
    refine ⟨_, rfl, _, rfl, _, _, rfl, rfl, ⟨by omega, by omega⟩, ?_⟩
    dsimp only
    rw [← Int.natCast_ediv]
    have hq := Nat.div_add_mod N D
    rw [hz, Nat.add_zero] at hq
    have q1 : 0 < N / D := Nat.div_pos (Nat.le_of_dvd (by omega) (Nat.dvd_of_mod_eq_zero hz)) hD
    have q2 : N / D ≤ M := Nat.div_le_of_le_mul (by rw [Nat.mul_comm]; exact hN2)
    have k := ok (N / D - 1) (by
      rw [Jos.order_told hD (by omega), show (N / D - 1 + 1) * D = N by rw [show N / D - 1 + 1 = N / D by omega, Nat.mul_comm]; exact hq]
      exact hN3)
    rw [show ((N / D : Nat) : Int) = ((N / D - 1 : Nat) : Int) + 1 by omega]
    exact k
  · have hz : N % D ≠ 0 := by
      rw [Bool.not_eq_true', decide_eq_false_iff_not] at e
      intro z
      exact e (by show V.int ((N : Int) % (D : Int)) = V.int 0; rw [← Int.natCast_emod, z]; rfl)
    obtain ⟨l1, l2, l3⟩ := Jos.leap_up hD hN2 hz
    refine ⟨fun σ' H'' => ∃ m', m' < M * D - N ∧ ∃ N : Nat, σ' = [some (.int (M : Int)), some (.int (D : Int)), some (.int (B : Int)), some (.int (p : Int)), some (.int (N : Int))] ∧ H'' = H' ∧ m' = M * D - N ∧ 1 ≤ N ∧ N ≤ M * D ∧ Jos.told D (Jos.ring M B) N = some p, fun _ _ h => h, ?_⟩
    refine ⟨_, rfl, _, rfl, _, _, rfl, rfl, _, rfl, _, rfl, _, _, rfl, rfl, ⟨by omega, by omega⟩, _, _, rfl, rfl, ?_⟩
    refine ⟨M * D - (M + N - N / D), by omega, M + N - N / D, ?_, rfl, rfl, by omega, l2, ?_⟩
    · have e2 : (M : Int) + (N : Int) - (N : Int) / (D : Int) = ((M + N - N / D : Nat) : Int) := by
        rw [← Int.natCast_ediv]; omega
      dsimp only
      rw [e2]
      rfl
    · have := Jos.told_leap (l := Jos.ring M B) hD hN1 (by rw [Jos.ring_len]; exact hN2) hz
      rw [Jos.ring_len] at this
      rw [this]
      exact hN3
end Cd

set_option Elab.async false
set_option linter.all false
set_option maxRecDepth 100000
set_option maxHeartbeats 2000000
namespace Cd
open PySem PySem.Spec PyProof.Rows L2
open Evl (Ex sq_of ex_l sz_of sz_lt fresh_back)
def t_place_at : TS :=
(tSeq (tAsg (tOp oMul (tVar 3) (tVar 1)) (gName 4))
  (tSeq (tWhile (tTest (tOp oGt (tVar 4) (tVar 0)))
  (tSeq (tAsg (tOp oSub (tVar 4) (tVar 0)) (gName 5))
  (tAsg (tOp oAdd (tVar 5) (tOp oFdiv (tOp oSub (tVar 5) (tC (.int 1))) (tOp oSub (tVar 1) (tC (.int 1))))) (gName 4))))
  (tRet (tOp oMod (tOp oSub (tOp oAdd (tVar 2) (tVar 4)) (tC (.int 1))) (tVar 0)))))
def sPlace : Sp := fun vs H Q _ => ∃ M D B C : Nat, vs = [.int (M : Int), .int (D : Int), .int (B : Int), .int (C : Int)] ∧ 1 ≤ D ∧ D ≤ 100 ∧ B < M ∧ 1 ≤ C ∧ C ≤ M ∧
  ∀ p : Nat, (Jos.order D M B)[C - 1]? = some p → Q (.int (p : Int)) H
theorem pure_place_at {vs : List V} {H : Hp} {Q : VK} {E : XK} {nx : L2.St → Hp → Prop} (h : sPlace vs H Q E) : t_place_at { nx := nx, rt := Q } (start ["many", "step", "begin", "count", "number", "over"] vs) H := by
  obtain ⟨M, D, B, C, rfl, d1, d2, b1, c1, c2, q⟩ := h
  have hD : 0 < D := by omega
  refine ⟨_, rfl, _, rfl, _, _, rfl, rfl, .inr ⟨by omega, by omega⟩, ?_⟩
  have hCD : D ≤ C * D := Nat.le_mul_of_pos_left D (by omega)
  have hCM : C * D ≤ M * D := Nat.mul_le_mul_right D c2
  have hlen : (Jos.order D M B).length = M := Jos.order_len D M B
  obtain ⟨p, hp⟩ : ∃ p, (Jos.order D M B)[C - 1]? = some p := ⟨_, List.getElem?_eq_getElem (by omega)⟩
  have q := q p hp
  have ht : Jos.told D (Jos.ring M B) (C * D) = some p := by
    rw [Jos.order_told hD (by omega), show C - 1 + 1 = C by omega] at hp
    exact hp
  dsimp only
  rw [show (C : Int) * (D : Int) = ((C * D : Nat) : Int) by rw [Int.natCast_mul]]
  refine ⟨fun μ σ H' => ∃ N : Nat, ∃ y5, σ = [some (.int (M : Int)), some (.int (D : Int)), some (.int (B : Int)), some (.int (C : Int)), some (.int (N : Int)), y5] ∧ H' = H ∧ μ = N ∧ 1 ≤ N ∧ N ≤ M * D ∧ Jos.told D (Jos.ring M B) N = some p,
    ⟨C * D, C * D, none, rfl, rfl, rfl, by omega, hCM, ht⟩, ?_⟩
  intro μ σ H' hW
  obtain ⟨N, y5, rfl, rfl, hmu, hN1, hN2, hN3⟩ := hW
  refine ⟨_, rfl, _, rfl, _, _, rfl, rfl, _, rfl, iteC (fun e => ?_) (fun e => ?_)⟩
  · have e1 : (M : Int) < (N : Int) := of_decide_eq_true e
    obtain ⟨l0, l1, l2, l3, l4⟩ := Jos.leap_down hD (show M < N by omega) hN2
    refine ⟨fun σ' H'' => ∃ m', m' < μ ∧ ∃ N : Nat, ∃ y5, σ' = [some (.int (M : Int)), some (.int (D : Int)), some (.int (B : Int)), some (.int (C : Int)), some (.int (N : Int)), y5] ∧ H'' = H' ∧ m' = N ∧ 1 ≤ N ∧ N ≤ M * D ∧ Jos.told D (Jos.ring M B) N = some p, fun _ _ h => h, ?_⟩
    refine ⟨_, rfl, _, rfl, _, _, rfl, rfl, ?_⟩
    refine ⟨_, rfl, _, rfl, _, _, rfl, rfl, _, rfl, _, _, rfl, rfl, _, _, rfl, rfl, ⟨by omega, by omega⟩, _, _, rfl, rfl, ?_⟩
    refine ⟨N - M + (N - M - 1) / (D - 1), by omega, _, some (.int ((N : Int) - (M : Int))), ?_, rfl, rfl, l1, by omega, ?_⟩
    · have e2 : (N : Int) - (M : Int) + ((N : Int) - (M : Int) - 1) / ((D : Int) - 1) = ((N - M + (N - M - 1) / (D - 1) : Nat) : Int) := by
        rw [Int.natCast_add, Int.natCast_ediv]
        congr 1
        · omega
        · congr 1 <;> omega
      rw [← e2]
      rfl
    · have k := Jos.told_back (l := Jos.ring M B) hD (n := N) (by rw [Jos.ring_len]; omega) (by rw [Jos.ring_len]; exact hN2)
      rw [Jos.ring_len] at k
      rw [k]
      exact hN3
  · have e1 : ¬ (M : Int) < (N : Int) := of_decide_eq_false e
    refine ⟨_, rfl, _, rfl, _, _, rfl, rfl, _, _, rfl, rfl, _, rfl, _, _, rfl, rfl, pos0 (by omega), ?_⟩
    rw [Jos.told_first hD hN1 (by rw [Jos.ring_len]; omega), Jos.ring_get (by omega) (by omega)] at hN3
    have e2 := Option.some.inj hN3
    have e3 : ((B : Int) + (N : Int) - 1) % (M : Int) = (p : Int) := by
      rw [← e2, Int.natCast_emod, Int.natCast_add]
      congr 1
      omega
    dsimp only
    rw [e3]
    exact q
def t_goes_at (K : PySem.W.Frag) (CM CS CP CC : Addr) (E : XK) : TS :=
(tSeq (tDrop (tCall (sRing K CM CS CP) [] E (tCons (tVar 0) (tCons (tVar 1) (tCons (tVar 2) tNil)))))
  (tSeq (tDrop (tCall (sCkC K CC) [] E (tCons (tVar 3) (tCons (tC (.int 1)) (tCons (tVar 0) tNil)))))
  (tRet (tCall sPlace [] E0 (tCons (tVar 0) (tCons (tVar 1) (tCons (tVar 2) (tCons (tVar 3) tNil))))))))
@[irreducible] def sGoes (K : PySem.W.Frag) (CM CS CP CC : Addr) : Sp := fun vs H Q E => ∃ m d b x, vs = [m, d, b, x] ∧ Typ K H x ∧ sRef K CM CS CP m d b H E fun n s g =>
  (whB x 1 n = false → E (.ref CC) none H) ∧ ∀ c : Nat, x = .int (c : Int) → 1 ≤ c → (c : Int) ≤ n → ∀ p : Nat, (Jos.order s.toNat n.toNat g.toNat)[c - 1]? = some p → Q (.int (p : Int)) H
theorem pure_goes_at {K : PySem.W.Frag} {CM CS CP CC : Addr} {vs : List V} {H : Hp} {Q : VK} {E : XK} (h : sGoes K CM CS CP CC vs H Q E) : t_goes_at K CM CS CP CC E { nx := fun _ H' => Q .non H', rt := Q } (start ["many", "step", "begin", "count"] vs) H := by
  unfold sGoes at h
  obtain ⟨m, d, b, x, rfl, tx, h⟩ := h
  refine ⟨_, rfl, _, rfl, _, rfl, ?_⟩
  show sRing K CM CS CP [m, d, b] H _ E
  refine h.ring fun n s g em es eg n1 n2 s1 s2 g1 g2 ok => ?_
  subst em es eg
  refine ⟨_, rfl, _, rfl, x, 1, n, rfl, tx, fun hx => ?_, fun hx => ok.1 hx⟩
  obtain ⟨c', rfl, p1, p2⟩ := wh_int hx
  obtain ⟨c, rfl⟩ : ∃ c : Nat, c' = (c : Int) := ⟨c'.toNat, by omega⟩
  have ok := ok.2 c rfl (by omega) p2
  obtain ⟨M, rfl⟩ : ∃ M : Nat, n = (M : Int) := ⟨n.toNat, by omega⟩
  obtain ⟨D, rfl⟩ : ∃ D : Nat, s = (D : Int) := ⟨s.toNat, by omega⟩
  obtain ⟨B, rfl⟩ : ∃ B : Nat, g = (B : Int) := ⟨g.toNat, by omega⟩
  simp only [Int.toNat_natCast] at ok
  exact ⟨_, rfl, _, rfl, _, rfl, _, rfl, M, D, B, c, rfl, by omega, by omega, by omega, by omega, by omega, ok⟩
def t_last_of (K : PySem.W.Frag) (CM CS CP : Addr) (E : XK) : TS :=
(tSeq (tDrop (tCall (sRing K CM CS CP) [] E (tCons (tVar 0) (tCons (tVar 1) (tCons (tVar 2) tNil)))))
  (tRet (tCall sPlace [] E0 (tCons (tVar 0) (tCons (tVar 1) (tCons (tVar 2) (tCons (tVar 0) tNil)))))))
@[irreducible] def sLast (K : PySem.W.Frag) (CM CS CP : Addr) : Sp := fun vs H Q E => ∃ m d b, vs = [m, d, b] ∧ sRef K CM CS CP m d b H E fun n s g =>
  ∀ p : Nat, (Jos.order s.toNat n.toNat g.toNat)[n.toNat - 1]? = some p → Q (.int (p : Int)) H
theorem pure_last_of {K : PySem.W.Frag} {CM CS CP : Addr} {vs : List V} {H : Hp} {Q : VK} {E : XK} (h : sLast K CM CS CP vs H Q E) : t_last_of K CM CS CP E { nx := fun _ H' => Q .non H', rt := Q } (start ["many", "step", "begin"] vs) H := by
  unfold sLast at h
  obtain ⟨m, d, b, rfl, h⟩ := h
  refine ⟨_, rfl, _, rfl, _, rfl, ?_⟩
  show sRing K CM CS CP [m, d, b] H _ E
  refine h.ring fun n s g em es eg n1 n2 s1 s2 g1 g2 ok => ?_
  subst em es eg
  obtain ⟨M, rfl⟩ : ∃ M : Nat, n = (M : Int) := ⟨n.toNat, by omega⟩
  obtain ⟨D, rfl⟩ : ∃ D : Nat, s = (D : Int) := ⟨s.toNat, by omega⟩
  obtain ⟨B, rfl⟩ : ∃ B : Nat, g = (B : Int) := ⟨g.toNat, by omega⟩
  simp only [Int.toNat_natCast] at ok
  exact ⟨_, rfl, _, rfl, _, rfl, _, rfl, M, D, B, M, rfl, by omega, by omega, by omega, by omega, by omega, ok⟩
/-- right numbers: nothing is refused -/
theorem sRef.right {K : PySem.W.Frag} {CM CS CP : Addr} {M D B : Nat} {H : Hp} {E : XK} {ok : Int → Int → Int → Prop} (hM : (M : Int) ≤ big) (h1 : 1 ≤ D) (h2 : D ≤ 100) (h3 : B < M) (k : ok (M : Int) (D : Int) (B : Int)) :
    sRef K CM CS CP (.int (M : Int)) (.int (D : Int)) (.int (B : Int)) H E ok := by
  refine ⟨Typ.int, Typ.int, Typ.int, fun e => ?_, fun n en n1 n2 => ?_⟩
  · rw [wh_of (by omega) hM] at e; cases e
  · cases en
    refine ⟨fun e => ?_, fun s es s1 s2 => ?_⟩
    · rw [wh_of (by omega) (by omega)] at e; cases e
    · cases es
      refine ⟨fun e => ?_, fun g eg g1 g2 => ?_⟩
      · rw [wh_of (by omega) (by omega)] at e; cases e
      · cases eg
        exact k
end Cd

set_option Elab.async false
set_option linter.all false
set_option maxRecDepth 100000
set_option maxHeartbeats 2000000
namespace Cd
open PySem PySem.Spec PyProof.Rows L2
open Evl (Ex sq_of ex_l sz_of sz_lt fresh_back)
section
variable {K : PySem.W.Frag} {CM CS CP CC : Addr} {M D B P c : Nat} {H : Hp} {Q : VK} {E : XK}
theorem count_right (hM : (M : Int) ≤ big) (h1 : 1 ≤ D) (h2 : D ≤ 100) (h3 : B < M) (hc : (Jos.order D M B)[c]? = some P) (q : Q (.int ((c : Int) + 1)) H) : sCount K CM CS CP [.int (M : Int), .int (D : Int), .int (B : Int), .int (P : Int)] H Q E := by
  unfold sCount
  have hP : P < M := Jos.order_lt (List.mem_of_getElem? hc)
  refine ⟨_, _, _, _, rfl, Typ.int, sRef.right hM h1 h2 h3 ⟨fun e => ?_, fun p ep hp c' hc' => ?_⟩⟩
  · rw [wh_of (by omega) (by omega)] at e; cases e
  · have e1 : p = P := by have := V.int.inj ep; omega
    subst e1
    simp only [Int.toNat_natCast] at hc'
    rw [Jos.nodup_get (Jos.order_nodup D M B) hc' hc]
    exact q
theorem goes_right (hM : (M : Int) ≤ big) (h1 : 1 ≤ D) (h2 : D ≤ 100) (h3 : B < M) (hc : (Jos.order D M B)[c]? = some P) (q : Q (.int (P : Int)) H) : sGoes K CM CS CP CC [.int (M : Int), .int (D : Int), .int (B : Int), .int ((c : Int) + 1)] H Q E := by
  unfold sGoes
  have hl : c < M := by
    have := (List.getElem?_eq_some_iff.mp hc).1
    rw [Jos.order_len] at this; exact this
  refine ⟨_, _, _, _, rfl, Typ.int, sRef.right hM h1 h2 h3 ⟨fun e => ?_, fun c' ec h4 h5 p hp => ?_⟩⟩
  · rw [wh_of (by omega) (by omega)] at e; cases e
  · have e1 : c' = c + 1 := by have := V.int.inj ec; omega
    subst e1
    simp only [Int.toNat_natCast, Nat.add_sub_cancel] at hp
    rw [hc] at hp
    rw [← Option.some.inj hp]
    exact q
theorem last_right (hM : (M : Int) ≤ big) (h1 : 1 ≤ D) (h2 : D ≤ 100) (h3 : B < M) (hc : (Jos.order D M B)[M - 1]? = some P) (q : Q (.int (P : Int)) H) : sLast K CM CS CP [.int (M : Int), .int (D : Int), .int (B : Int)] H Q E := by
  unfold sLast
  refine ⟨_, _, _, rfl, sRef.right hM h1 h2 h3 fun p hp => ?_⟩
  simp only [Int.toNat_natCast] at hp
  rw [hc] at hp
  rw [← Option.some.inj hp]
  exact q
end
/-- over enumerate of a list that stays -/
theorem for_enum {K : PySem.W.Frag} {a : Addr} {xs : List V} {g : TG} {tb : TS} {D : Ends} {σ : L2.St} {H : Hp} (Pv : Nat → L2.St → Hp → Prop) (h0 : Pv 0 σ H) (hl : ∀ i σ H, i ≤ xs.length → Pv i σ H → SqL K H a xs)
    (hs : ∀ i x σ H T, xs[i]? = some x → Pv i σ H → H T = none → g (.ref T) σ (upd H T (.tup [.int (i : Nat), x])) fun σ2 H2 => tb { D with nx := Pv (i + 1), ct := Pv (i + 1), bk := D.nx } σ2 H2) (hd : ∀ σ H, Pv xs.length σ H → D.nx σ H) :
    ∃ W : Nat → Nat → L2.St → Hp → Prop, (∃ m, W 0 m σ H) ∧ ∀ i m σ H, W i m σ H →
      ((Ite K a).stop i H ∧ D.nx σ H) ∨ ((Ite K a).go i H ∧ ∃ N : L2.St → Hp → Prop, (∀ σ' H', N σ' H' → ∃ m', m' < m ∧ W (i + 1) m' σ' H') ∧ ∀ x H', (Ite K a).yld i H x H' → g x σ H' fun σ2 H2 => tb { D with nx := N, ct := N, bk := D.nx } σ2 H2) := by
  refine ⟨fun i m σ H => m = xs.length - i ∧ i ≤ xs.length ∧ Pv i σ H, ⟨xs.length, by simp, Nat.zero_le _, h0⟩, ?_⟩
  rintro i m σ H ⟨rfl, hi, p⟩
  have q := hl i σ H hi p
  by_cases hlt : i < xs.length
  · refine .inr ⟨⟨xs, xs[i], q, by simp [hlt]⟩, Pv (i + 1), fun σ' H' p' => ⟨xs.length - (i + 1), by omega, rfl, hlt, p'⟩, fun x H' y => ?_⟩
    obtain ⟨T, z, e1, e2, e3, e4⟩ := y
    subst e1 e3
    exact hs i z σ H T (e4 xs q) p e2
  · have e : i = xs.length := by omega
    subst e
    exact .inl ⟨⟨xs, q, Nat.le_refl _⟩, hd σ H p⟩
/-- numbers as values -/
def nV (k : Nat) : V := .int (k : Int)
theorem rg_nV (M : Nat) : rgV 0 (M : Int) = (List.range M).map nV := by
  unfold rgV nV
  rw [show ((M : Int) - 0).toNat = M by omega]
  congr 1
  funext i
  rw [Int.zero_add]
theorem nV_plain (l : List Nat) : (l.map nV).all plain = true := by
  rw [List.all_eq_true]
  intro x hx
  obtain ⟨k, _, rfl⟩ := List.mem_map.mp hx
  rfl
theorem nV_get {l : List Nat} {i : Nat} {x : V} (h : (l.map nV)[i]? = some x) : ∃ k, l[i]? = some k ∧ x = nV k := by
  rw [List.getElem?_map] at h
  cases e : l[i]? with
  | none => rw [e] at h; cases h
  | some k => rw [e] at h; exact ⟨k, rfl, (Option.some.inj h).symm⟩
/-- one of some numbers within bounds -/
theorem last_at {l : List V} {x : V} {n : Nat} (h : l[n - 1]? = some x) (hn : l.length = n) (h0 : 0 < n) : atI l (-1) = some x := by
  unfold atI ixN
  rw [if_neg (by decide), if_pos (by omega)]
  show l[((-1 : Int) + (l.length : Int)).toNat]? = some x
  rw [show ((-1 : Int) + (l.length : Int)).toNat = n - 1 by omega]
  exact h
end Cd

set_option Elab.async false
set_option linter.all false
set_option maxRecDepth 100000
set_option maxHeartbeats 4000000
namespace Cd
open PySem PySem.Spec PyProof.Rows L2
open Evl (Ex sq_of ex_l sz_of sz_lt fresh_back)
theorem ten9 : (10 : Int) ^ (9 : Int).toNat = 1000000000 := by decide
theorem ten60 : (10 : Int) ^ (60 : Int).toNat = big := by decide
def t_far : TS :=
(tSeq (tAsg (tC (.int 0)) (gName 2))
  (tSeq (tFor (iRng1 (tCons (tC (.int 7)) tNil)) (gName 3)
  (tAsg (tOp oAdd (tOp oMul (tVar 2) (tOp oPow (tC (.int 10)) (tC (.int 9)))) (tOp oMod (tCall sNext [] E0 (tCons (tVar 0) tNil)) (tOp oPow (tC (.int 10)) (tC (.int 9))))) (gName 2)))
  (tRet (tOp oMod (tVar 2) (tVar 1)))))
def sFar : Sp := fun vs H Q _ => ∃ p, ∃ m : Int, vs = [.ref p, .int m] ∧ StAt H p ∧ 1 ≤ m ∧ ∀ H', ∀ n : Nat, Run p H H' → (n : Int) < m → Q (.int (n : Int)) H'
theorem pure_far {vs : List V} {H : Hp} {Q : VK} {E : XK} {nx : L2.St → Hp → Prop} (h : sFar vs H Q E) : t_far { nx := nx, rt := Q } (start ["_law_state_here", "_law_many", "_law_found", "_law_k"] vs) H := by
  obtain ⟨p, m, rfl, st, hm, q⟩ := h
  refine ⟨7, rfl, by decide, by decide, for_range (lo := 0) (n := 7) (fun i σ H' => ∃ (z : Int) (y : Option V), σ = [some (.ref p), some (.int m), some (.int z), y] ∧ Run p H H') ⟨0, none, rfl, Run.refl st⟩ ?_ ?_⟩
  · intro i σ H' hi hP
    obtain ⟨z, y, rfl, r⟩ := hP
    refine ⟨_, rfl, _, _, rfl, rfl, ⟨by decide, by decide, by decide⟩, _, _, rfl, rfl, .inr (by rw [ten9]; decide), _, rfl, p, rfl, r.2, fun H1 n1 r1 _ _ => ?_⟩
    refine ⟨_, _, rfl, rfl, ⟨by decide, by decide, by decide⟩, _, _, rfl, rfl, pos0 (by rw [ten9]; decide), _, _, rfl, rfl, ?_⟩
    exact ⟨_, _, rfl, r.trans r1⟩
  · intro σ H' hP
    obtain ⟨z, y, rfl, r⟩ := hP
    refine ⟨_, rfl, _, rfl, _, _, rfl, rfl, pos0 (by omega), ?_⟩
    have b1 : 0 ≤ z % m := Int.emod_nonneg _ (by omega)
    have b2 : z % m < m := Int.emod_lt_of_pos _ (by omega)
    obtain ⟨k, hk⟩ : ∃ k : Nat, z % m = (k : Int) := ⟨(z % m).toNat, by omega⟩
    dsimp only
    rw [hk] at b2 ⊢
    exact q H' k r b2

def t_lcount : TS :=
(tSeq (tAsg (tOp oAdd (tVar 2) (tC (.int 1))) (gName 3))
  (tSeq (tWhile (tTest (tOp rNe (tOp oMod (tVar 3) (tVar 1)) (tC (.int 0))))
  (tAsg (tOp oSub (tOp oAdd (tVar 0) (tVar 3)) (tOp oFdiv (tVar 3) (tVar 1))) (gName 3)))
  (tRet (tOp oFdiv (tVar 3) (tVar 1)))))
@[irreducible] def sLCount : Sp := fun vs H Q _ => ∃ M D p : Nat, vs = [.int (M : Int), .int (D : Int), .int (p : Int)] ∧ 1 ≤ D ∧ D ≤ 100 ∧ p < M ∧ ∀ c : Nat, (Jos.order D M 0)[c]? = some p → Q (.int ((c : Int) + 1)) H
theorem pure_lcount {vs : List V} {H : Hp} {Q : VK} {E : XK} {nx : L2.St → Hp → Prop} (h : sLCount vs H Q E) : t_lcount { nx := nx, rt := Q } (start ["_law_many", "_law_step", "_law_place_here", "_law_number"] vs) H := by
  unfold sLCount at h
  obtain ⟨M, D, p, rfl, d1, d2, pM, ok⟩ := h
  have hD : 0 < D := by omega
  have hMD : M ≤ M * D := Nat.le_mul_of_pos_right M hD
  have h0 : Jos.told D (Jos.ring M 0) (p + 1) = some p := by
    rw [Jos.told_first hD (by omega) (by rw [Jos.ring_len]; omega), Nat.add_sub_cancel, Jos.ring_get (by omega) pM, Nat.zero_add, Nat.mod_eq_of_lt pM]
  refine ⟨_, rfl, _, _, rfl, rfl, ?_⟩
  refine ⟨fun μ σ H' => ∃ N : Nat, σ = [some (.int (M : Int)), some (.int (D : Int)), some (.int (p : Int)), some (.int (N : Int))] ∧ H' = H ∧ μ = M * D - N ∧ 1 ≤ N ∧ N ≤ M * D ∧ Jos.told D (Jos.ring M 0) N = some p,
    ⟨M * D - (p + 1), p + 1, rfl, rfl, rfl, by omega, by omega, h0⟩, ?_⟩
  intro μ σ H' hW
  obtain ⟨N, rfl, rfl, rfl, hN1, hN2, hN3⟩ := hW
  refine ⟨_, rfl, _, rfl, _, _, rfl, rfl, pos0 (by omega), rfl, _, rfl, iteC (fun e => ?_) (fun e => ?_)⟩
  rotate_left
  · have hz : N % D = 0 := by
      rw [Bool.not_eq_false', decide_eq_true_eq] at e
      have z := V.int.inj e
      rw [← Int.natCast_emod] at z
      omega
    refine ⟨_, rfl, _, rfl, _, _, rfl, rfl, ⟨by omega, by omega⟩, ?_⟩
    dsimp only
    rw [← Int.natCast_ediv]
    have hq := Nat.div_add_mod N D
    rw [hz, Nat.add_zero] at hq
    have q1 : 0 < N / D := Nat.div_pos (Nat.le_of_dvd (by omega) (Nat.dvd_of_mod_eq_zero hz)) hD
    have q2 : N / D ≤ M := Nat.div_le_of_le_mul (by rw [Nat.mul_comm]; exact hN2)
    have k := ok (N / D - 1) (by
      rw [Jos.order_told hD (by omega), show (N / D - 1 + 1) * D = N by rw [show N / D - 1 + 1 = N / D by omega, Nat.mul_comm]; exact hq]
      exact hN3)
    rw [show ((N / D : Nat) : Int) = ((N / D - 1 : Nat) : Int) + 1 by omega]
    exact k
  · have hz : N % D ≠ 0 := by
      rw [Bool.not_eq_true', decide_eq_false_iff_not] at e
      intro z
      exact e (by show V.int ((N : Int) % (D : Int)) = V.int 0; rw [← Int.natCast_emod, z]; rfl)
    obtain ⟨l1, l2, l3⟩ := Jos.leap_up hD hN2 hz
    refine ⟨fun σ' H'' => ∃ m', m' < M * D - N ∧ ∃ N : Nat, σ' = [some (.int (M : Int)), some (.int (D : Int)), some (.int (p : Int)), some (.int (N : Int))] ∧ H'' = H' ∧ m' = M * D - N ∧ 1 ≤ N ∧ N ≤ M * D ∧ Jos.told D (Jos.ring M 0) N = some p, fun _ _ h => h, ?_⟩
    refine ⟨_, rfl, _, rfl, _, _, rfl, rfl, _, rfl, _, rfl, _, _, rfl, rfl, ⟨by omega, by omega⟩, _, _, rfl, rfl, ?_⟩
    refine ⟨M * D - (M + N - N / D), by omega, M + N - N / D, ?_, rfl, rfl, by omega, l2, ?_⟩
    · have e2 : (M : Int) + (N : Int) - (N : Int) / (D : Int) = ((M + N - N / D : Nat) : Int) := by
        rw [← Int.natCast_ediv]; omega
      dsimp only
      rw [e2]
      rfl
    · have := Jos.told_leap (l := Jos.ring M 0) hD hN1 (by rw [Jos.ring_len]; exact hN2) hz
      rw [Jos.ring_len] at this
      rw [this]
      exact hN3
def t_lplace : TS :=
(tSeq (tAsg (tOp oAdd (tOp oSub (tVar 0) (tVar 2)) (tC (.int 1))) (gName 3))
  (tSeq (tAsg (tOp oMod (tOp oSub (tVar 1) (tC (.int 1))) (tVar 3)) (gName 4))
  (tSeq (tWhile (tTest (tOp oLt (tVar 3) (tVar 0)))
  (tSeq (tAsg (tOp oSub (tVar 0) (tVar 3)) (gName 5))
  (tSeq (tIfS (tTest (tOp oGt (tVar 1) (tC (.int 1))))
  (tAsg (tCB oMin2 (tCons (tVar 5) (tCons (tCB oMax2 (tCons (tC (.int 1)) (tCons (tOp oFdiv (tOp oSub (tOp oSub (tVar 3) (tVar 4)) (tC (.int 1))) (tOp oSub (tVar 1) (tC (.int 1)))) tNil))) tNil))) (gName 5))
  tNext)
  (tSeq (tAsg (tOp oAdd (tVar 4) (tOp oMul (tVar 1) (tVar 5))) (gName 4))
  (tSeq (tAsg (tOp oAdd (tVar 3) (tVar 5)) (gName 3))
  (tAsg (tOp oMod (tVar 4) (tVar 3)) (gName 4)))))))
  (tRet (tVar 4)))))
@[irreducible] def sLPlace : Sp := fun vs H Q _ => ∃ M D C : Nat, vs = [.int (M : Int), .int (D : Int), .int (C : Int)] ∧ 1 ≤ D ∧ D ≤ 100 ∧ 1 ≤ C ∧ C ≤ M ∧ ∀ p : Nat, (Jos.order D M 0)[C - 1]? = some p → Q (.int (p : Int)) H
theorem pure_lplace {vs : List V} {H : Hp} {Q : VK} {E : XK} {nx : L2.St → Hp → Prop} (h : sLPlace vs H Q E) : t_lplace { nx := nx, rt := Q } (start ["_law_many", "_law_step", "_law_count_here", "_law_size", "_law_place_here", "_law_leap"] vs) H := by
  unfold sLPlace at h
  obtain ⟨M, D, C, rfl, d1, d2, c1, c2, ok⟩ := h
  have hD : 0 < D := by omega
  refine ⟨_, rfl, _, rfl, _, _, rfl, rfl, _, _, rfl, rfl, ?_⟩
  dsimp only
  rw [show (M : Int) - (C : Int) + 1 = ((M - C + 1 : Nat) : Int) by omega]
  refine ⟨_, rfl, _, _, rfl, rfl, _, rfl, _, _, rfl, rfl, pos0 (by omega), ?_⟩
  dsimp only
  rw [show ((D : Int) - 1) % ((M - C + 1 : Nat) : Int) = (((D - 1) % (M - C + 1) : Nat) : Int) by rw [Int.natCast_emod]; congr 1; omega]
  refine ⟨fun μ σ H' => ∃ S P : Nat, ∃ y, σ = [some (.int (M : Int)), some (.int (D : Int)), some (.int (C : Int)), some (.int (S : Int)), some (.int (P : Int)), y] ∧ H' = H ∧ μ = M - S ∧ M - C + 1 ≤ S ∧ S ≤ M ∧ (Jos.order D S 0)[S - (M - C + 1)]? = some P,
    ⟨M - (M - C + 1), M - C + 1, (D - 1) % (M - C + 1), none, rfl, rfl, rfl, Nat.le_refl _, by omega, by rw [Nat.sub_self]; exact Jos.order_zero hD (by omega)⟩, ?_⟩
  intro μ σ H' hW
  obtain ⟨S, P, y, rfl, rfl, rfl, hS1, hS2, hP⟩ := hW
  have hPS : P < S := Jos.order_lt (List.mem_of_getElem? hP)
  refine ⟨_, rfl, _, rfl, _, _, rfl, rfl, _, rfl, iteC (fun e => ?_) (fun e => ?_)⟩
  · have e1 : (S : Int) < (M : Int) := of_decide_eq_true e
    refine ⟨fun σ' H'' => ∃ m', m' < M - S ∧ ∃ S P : Nat, ∃ y, σ' = [some (.int (M : Int)), some (.int (D : Int)), some (.int (C : Int)), some (.int (S : Int)), some (.int (P : Int)), y] ∧ H'' = H' ∧ m' = M - S ∧ M - C + 1 ≤ S ∧ S ≤ M ∧ (Jos.order D S 0)[S - (M - C + 1)]? = some P, fun _ _ h => h, ?_⟩
    refine ⟨_, rfl, _, rfl, _, _, rfl, rfl, ?_⟩
    have fin : ∀ L : Nat, 1 ≤ L → S + L ≤ M → P + (D - 1) * (L - 1) < S → (tSeq (tAsg (tOp oAdd (tVar 4) (tOp oMul (tVar 1) (tVar 5))) (gName 4))
        (tSeq (tAsg (tOp oAdd (tVar 3) (tVar 5)) (gName 3))
        (tAsg (tOp oMod (tVar 4) (tVar 3)) (gName 4)))) { nx := fun σ' H'' => ∃ m', m' < M - S ∧ ∃ S P : Nat, ∃ y, σ' = [some (.int (M : Int)), some (.int (D : Int)), some (.int (C : Int)), some (.int (S : Int)), some (.int (P : Int)), y] ∧ H'' = H' ∧ m' = M - S ∧ M - C + 1 ≤ S ∧ S ≤ M ∧ (Jos.order D S 0)[S - (M - C + 1)]? = some P, rt := Q }
        [some (.int (M : Int)), some (.int (D : Int)), some (.int (C : Int)), some (.int (S : Int)), some (.int (P : Int)), some (.int (L : Int))] H' := by
      intro L hL1 hL2 hL3
      refine ⟨_, rfl, _, rfl, _, rfl, _, _, rfl, rfl, .inl ⟨by omega, by omega⟩, _, _, rfl, rfl, ?_⟩
      refine ⟨_, rfl, _, rfl, _, _, rfl, rfl, ?_⟩
      refine ⟨_, rfl, _, rfl, _, _, rfl, rfl, pos0 (by omega), ?_⟩
      refine ⟨M - (S + L), by omega, S + L, (P + D * L) % (S + L), some (.int (L : Int)), ?_, rfl, rfl, by omega, hL2, ?_⟩
      rotate_left
      · have g := Jos.order_leap1 hD hP L hL1 hL3
        rw [show S + L - (M - C + 1) = S - (M - C + 1) + L by omega]
        exact g
      · have e2 : ((P : Int) + (D : Int) * (L : Int)) % ((S : Int) + (L : Int)) = (((P + D * L) % (S + L) : Nat) : Int) := by
          rw [Int.natCast_emod, Int.natCast_add, Int.natCast_add, Int.natCast_mul]
        dsimp only
        rw [e2]
        rfl
    refine ⟨_, rfl, _, _, rfl, rfl, _, rfl, iteC (fun e2 => ?_) (fun e2 => ?_)⟩
    · have e3 : 1 < (D : Int) := of_decide_eq_true e2
      refine ⟨_, rfl, _, rfl, _, rfl, _, _, rfl, rfl, _, _, rfl, rfl, _, rfl, _, _, rfl, rfl, _, _, rfl, rfl, ⟨by omega, by omega⟩, _, _, rfl, _, _, rfl, ?_⟩
      dsimp only
      obtain ⟨q, hq⟩ : ∃ q : Nat, ((S : Int) - (P : Int) - 1) / ((D : Int) - 1) = (q : Int) ∧ (D - 1) * q ≤ S - P - 1 := by
        refine ⟨(S - P - 1) / (D - 1), ?_, Nat.mul_div_le _ _⟩
        rw [Int.natCast_ediv]
        congr 1 <;> omega
      rw [hq.1]
      have hmax : (if (q : Int) > 1 then (q : Int) else 1) = ((max 1 q : Nat) : Int) := by
        split <;> omega
      rw [hmax]
      have hmin : (if ((max 1 q : Nat) : Int) < (M : Int) - (S : Int) then ((max 1 q : Nat) : Int) else (M : Int) - (S : Int)) = ((min (M - S) (max 1 q) : Nat) : Int) := by
        split <;> omega
      rw [hmin]
      refine fin (min (M - S) (max 1 q)) (by omega) (by omega) ?_
      by_cases hq1 : q ≤ 1
      · rw [show min (M - S) (max 1 q) - 1 = 0 by omega, Nat.mul_zero]; omega
      · have : (D - 1) * (min (M - S) (max 1 q) - 1) ≤ (D - 1) * q := Nat.mul_le_mul_left _ (by omega)
        omega
    · have e3 : ¬ 1 < (D : Int) := of_decide_eq_false e2
      have eD : D = 1 := by omega
      have k := fin (M - S) (by omega) (by omega) (by rw [eD]; omega)
      rw [show ((M - S : Nat) : Int) = (M : Int) - (S : Int) by omega] at k
      exact k
  · have e1 : ¬ (S : Int) < (M : Int) := of_decide_eq_false e
    have eS : S = M := by omega
    subst eS
    refine ⟨_, rfl, ok P ?_⟩
    rw [← hP]
    congr 1
    omega
/-- the script is read whatever the chance does -/
def ScAt (K : PySem.W.Frag) (H : Hp) (a p : Addr) (ns : List Int) : Prop := ∀ H', Run p H H' → SqL K H' a (ns.map V.int)
theorem ScAt.run {K : PySem.W.Frag} {H H' : Hp} {a p : Addr} {ns : List Int} (h : ScAt K H a p ns) (r : Run p H H') : ScAt K H' a p ns := fun H2 r2 => h H2 (r.trans r2)
theorem ScAt.of {K : PySem.W.Frag} {H H1 : Hp} {a p : Addr} {ns : List Int} (h : SqL K H a (ns.map V.int)) (np : H p = none) (e : Ex H H1) : ScAt K H1 a p ns := fun H' r => by
  have go : ∀ {b : Addr} {u : HO}, H b = some u → H' b = some u := fun {b u} hb => r.1 b u (ne_of_none hb np) (e b u hb)
  rcases h with (h | ⟨o, h⟩) | h
  · exact .inl (.inl (go h))
  · exact .inl (.inr ⟨o, go h⟩)
  · exact .inr h
/-- a number of a told range -/
theorem int_nat {z lo hi : Int} (h0 : 0 ≤ lo) (h1 : lo ≤ z) (h2 : z ≤ hi) : ∃ k : Nat, z = (k : Int) ∧ lo ≤ (k : Int) ∧ (k : Int) ≤ hi := ⟨z.toNat, by omega, by omega, by omega⟩
theorem dec_self {x : V} (h : (!decide (x = x)) = true) : False := by
  rw [decide_eq_true rfl] at h; cases h
theorem wh_off {i lo hi : Int} (h : ¬ (lo ≤ i ∧ i ≤ hi)) : whB (.int i) lo hi = false := by
  cases e : whB (.int i) lo hi with
  | false => rfl
  | true =>
    obtain ⟨j, ej, h1, h2⟩ := wh_int e
    cases ej
    exact absurd ⟨h1, h2⟩ h
end Cd

set_option Elab.async false
set_option linter.all false
set_option maxRecDepth 100000
set_option maxHeartbeats 4000000
namespace Cd
open PySem PySem.Spec PyProof.Rows L2 Tx Kp
open Evl (Ex sq_of ex_l sz_of sz_lt fresh_back)
abbrev tTru (K : PySem.W.Frag) (ta : TE) : TT := fun σ H Q => ta σ H fun x H' => ∃ k, TruV K x H' k ∧ Q k H'
abbrev rJoin (K : PySem.W.Frag) : V → List V → Hp → VK → Prop := fun x xs H Q => ∃ a p, ∃ ys : List Str, x = .str a ∧ xs = [.ref p] ∧ (SqL K H p (ys.map V.str) ∨ SqT K H p (ys.map V.str)) ∧
      (ys.map (·.length)).sum + ys.length * a.length ≤ 16777216 ∧ Q (.str (PySem.Txt.join a ys)) H
abbrev tTryK (K : PySem.W.Frag) (c : Addr) (i j : Nat) (tb : WX → TS) : TS := fun D σ H => tb (wKp K (.ref c) i j D) D σ H
/-! ### refusals -/
inductive Ek where
  | ring | many | step | place | count | hand | twice | much
  deriving DecidableEq
/-- where the classes stand -/
structure Cs where
  ring : Addr
  many : Addr
  step : Addr
  place : Addr
  count : Addr
  hand : Addr
  twice : Addr
  much : Addr
  err : Addr
def Cs.on (C : Cs) : Ek → Addr
  | .ring => C.ring
  | .many => C.many
  | .step => C.step
  | .place => C.place
  | .count => C.count
  | .hand => C.hand
  | .twice => C.twice
  | .much => C.much
def Ek.word : Ek → Str
  | .ring => "ring"
  | .many => "many"
  | .step => "step"
  | .place => "place"
  | .count => "count"
  | .hand => "hand"
  | .twice => "twice"
  | .much => "much"
structure ErrF (K : PySem.W.Frag) (C : Cs) : Prop where
  exc : ∀ k, ExcC K (C.on k)
  kit : ∀ k j, PySem.W.kitOne K (.ref (C.on k)) (.ref (C.on j)) = some (decide (k = j))
  val : ∀ k, PySem.W.kitOne K (.ref (C.on k)) (.type "ValueError") = some true
  caught : ∀ k, PySem.W.exmOne K (.ref (C.on k)) (.ref C.err) = some true
def tErr1 (K : PySem.W.Frag) (c : Addr) (z : Str) (rest : TS) : TS :=
  (tSeq (tIfS (tB (tCB (rIsX K) (tCons (tVar 0) (tCons (tC (.ref c)) tNil))))
  (tDrop (tBM K "list" rAppend (tVar 1) (tCons (tC (.str z)) tNil)))
  tNext) rest)
def t_error (K : PySem.W.Frag) (C : Cs) : TS :=
(tSeq (tAsg (tLst tNil) (gName 1))
  (tErr1 K C.ring "ring" (tErr1 K C.many "many" (tErr1 K C.step "step" (tErr1 K C.place "place" (tErr1 K C.count "count" (tErr1 K C.hand "hand" (tErr1 K C.twice "twice" (tErr1 K C.much "much"
  (tSeq (tIfS (tOr (tTest (tOp rNe (tCB (rLenL K) (tCons (tVar 1) tNil)) (tC (.int 1)))) (tNot (tB (tCB (rIsX K) (tCons (tVar 0) (tCons (tC (.ty "ValueError")) tNil))))))
  (tRet (tC (.str "other")))
  tNext)
  (tRet (tOp (rIxL K) (tVar 1) (tC (.int 0))))))))))))))
/-- the word of a kept refusal -/
def sErr (K : PySem.W.Frag) (C : Cs) : Sp := fun vs H Q _ => ∃ a k, vs = [.ref a] ∧ H a = some (ExT (.ref (C.on k)) a) ∧ ∀ H', Ex H H' → Q (.str k.word) H'
structure ErrAt (H0 H : Hp) (a l : Addr) (u : HO) (ws : List V) : Prop where
  ex : Ex H0 H
  nl : H0 l = none
  ha : H a = some u
  hl : H l = some (.lst ws)
theorem err_step {K : PySem.W.Frag} {C : Cs} (F : ErrF K C) {k : Ek} (j : Ek) {H0 H : Hp} {a l : Addr} {ws : List V} {rest : TS} {D : Ends} (hz : ws.length < 100) (e : ErrAt H0 H a l (ExT (.ref (C.on k)) a) ws)
    (g : ∀ H', ErrAt H0 H' a l (ExT (.ref (C.on k)) a) (ws ++ if k = j then [.str j.word] else []) → rest D [some (.ref a), some (.ref l)] H') : tErr1 K (C.on j) j.word rest D [some (.ref a), some (.ref l)] H := by
  refine ⟨_, rfl, a, C.on k, .ref (C.on j), _, _, rfl, .own _, e.ha, F.exc k, F.kit k j, _, rfl, iteC (fun c => ?_) (fun c => ?_)⟩
  · have ek := of_decide_eq_true c
    refine ⟨_, rfl, ty_l e.hl, l, ws, _, rfl, rfl, e.hl, sz_lt (by omega), g _ ⟨Evl.Ex.mut e.ex e.nl, e.nl, ?_, ?_⟩⟩
    · have n : a ≠ l := fun z => by
        have h1 := e.ha
        have h2 := e.hl
        rw [z, h2] at h1
        cases h1
      rw [upd_ne n]; exact e.ha
    · rw [upd_same, if_pos ek]
  · have ek := of_decide_eq_false c
    refine g H ?_
    rw [if_neg ek, List.append_nil]
    exact e
theorem pure_error {K : PySem.W.Frag} {C : Cs} (F : ErrF K C) {vs : List V} {H : Hp} {Q : VK} {E : XK} {nx : L2.St → Hp → Prop} (h : sErr K C vs H Q E) : t_error K C { nx := nx, rt := Q } (start ["_law_e", "_law_words"] vs) H := by
  obtain ⟨a, k, rfl, ha, q⟩ := h
  refine ⟨Nat.zero_le _, fun l nl => ?_⟩
  have na : a ≠ l := fun z => by rw [z, nl] at ha; cases ha
  have e0 : ErrAt H (upd H l (.lst [])) a l (ExT (.ref (C.on k)) a) [] := ⟨Evl.Ex.new nl, nl, by rw [upd_ne na]; exact ha, upd_same⟩
  refine err_step F .ring (by simp) e0 fun H1 e1 => ?_
  refine err_step F .many (by split at e1 <;> split <;> simp) e1 fun H2 e2 => ?_
  refine err_step F .step (by repeat' split <;> simp) e2 fun H3 e3 => ?_
  refine err_step F .place (by repeat' split <;> simp) e3 fun H4 e4 => ?_
  refine err_step F .count (by repeat' split <;> simp) e4 fun H5 e5 => ?_
  refine err_step F .hand (by repeat' split <;> simp) e5 fun H6 e6 => ?_
  refine err_step F .twice (by repeat' split <;> simp) e6 fun H7 e7 => ?_
  refine err_step F .much (by repeat' split <;> simp) e7 fun H8 e8 => ?_
  have e9 : ErrAt H H8 a l (ExT (.ref (C.on k)) a) [.str k.word] := by
    cases k <;> exact e8
  refine ⟨_, rfl, l, _, rfl, .inl (sq_of e9.hl), rfl, _, rfl, iteC (fun c => (by have c2 : (!decide (V.int 1 = V.int 1)) = true := c; simp at c2 : False).elim) (fun _ => ?_)⟩
  refine ⟨_, rfl, a, C.on k, .ty "ValueError", _, true, rfl, .ty _, e9.ha, F.exc k, F.val k, true, rfl, iteF ?_⟩
  exact ⟨_, rfl, l, _, 0, _, rfl, rfl, sq_of e9.hl, at0, q H8 e9.ex⟩

/-- from what the written part says of the classes -/
theorem errF_mk {K : PySem.W.Frag} {C : Cs} (hg : ∀ k, PySem.W.findIn K (.ref (C.on k)) "__getattribute__" = some (some (.builtin "BaseException.__getattribute__"))) (hk : ∀ k, PySem.W.findIn K (.ref (C.on k)) "__getattr__" = some none)
    (hs : ∀ k, PySem.W.subIn K (.ref (C.on k)) (.type "BaseException") = some true) (hd : ∀ k, PySem.W.hasDictIn K (C.on k) = true) (ha : ∀ k, PySem.W.findIn K (.ref (C.on k)) "__class__" = some (some (.builtin "object.__class__")))
    (hn : PySem.W.specialIn K (.builtin "object.__class__") "__get__" = some (some (.builtin "getset_descriptor.__get__"))) (ht : PySem.W.takesIn K (.builtin "object.__class__") = some true) (hm : ∀ k, PySem.W.mroIn K (C.on k) (.type "object") = some true)
    (ty : ∀ k, PySem.W.typeIn K (.ref (C.on k)) = some (.type "type")) (ic : ∀ k, PySem.W.isClsIn K (C.on k) = true) (sub : ∀ k j, PySem.W.subIn K (.ref (C.on k)) (.ref (C.on j)) = some (decide (k = j)))
    (sv : ∀ k, PySem.W.subIn K (.ref (C.on k)) (.type "ValueError") = some true) (eb : PySem.W.subIn K (.ref C.err) (.type "BaseException") = some true) (ed : PySem.W.hasDictIn K C.err = true) (et : PySem.W.typeIn K (.ref C.err) = some (.type "type"))
    (es : ∀ k, PySem.W.subIn K (.ref (C.on k)) (.ref C.err) = some true) : ErrF K C where
  exc k := ⟨hg k, hk k, hs k, hd k, ha k, hn, ht, hm k⟩
  kit k j := by
    unfold PySem.W.kitOne
    by_cases e : (Value.ref (C.on k) == Value.ref (C.on j)) = true
    · rw [if_pos e]
      have e1 : C.on k = C.on j := by simpa using e
      have h1 := sub k j
      rw [← e1, sub k k] at h1
      rw [← h1, decide_eq_true rfl]
    · rw [if_neg e]
      have h1 : ((PySem.W.clsIn K (C.on j)).isSome && PySem.W.typeIn K (.ref (C.on j)) == some (.type "type")) = true := by
        have h2 : (PySem.W.clsIn K (C.on j)).isSome = true := ic j
        rw [h2, ty j]; rfl
      show (if _ then _ else none) = _
      rw [if_pos h1]
      exact sub k j
  val k := by
    unfold PySem.W.kitOne
    rw [if_neg (by intro z; cases (beq_iff_eq.mp z))]
    show (if PySem.W.kitMeta "ValueError" = true then _ else none) = _
    rw [if_pos (by decide +kernel)]
    exact sv k
  caught k := PySem.W.exm_ref eb ed et (es k)
end Cd

set_option Elab.async false
set_option linter.all false
set_option maxRecDepth 100000
set_option maxHeartbeats 4000000
namespace Cd
open PySem PySem.Spec PyProof.Rows L2 Tx Kp
open Evl (Ex sq_of ex_l sz_of sz_lt fresh_back)
/-! ### what is a ring -/
def isS : V → Bool
  | .str _ => true
  | _ => false
def txt : V → Str
  | .str x => x
  | _ => Str.empty
def ringB (xs : List V) : Bool := decide (1 ≤ xs.length) && decide (xs.length ≤ 200) && xs.all isS && decide ((met (xs.map txt) xs.length).length = xs.length)
/-- things of any kind, and whether they are rings -/
inductive IsR (K : PySem.W.Frag) (H : Hp) : V → Bool → Prop where
  | no {x : V} {T : String} (t : TyX K H x (.type T)) (hT : T ∈ ["NoneType", "bool", "int", "str", "tuple", "dict"]) : IsR K H x false
  | lst {l : Addr} {xs : List V} (h : H l = some (.lst xs)) (hz : xs.length ≤ 1000) (ht : ∀ v ∈ xs, Typ K H v ∧ (isS v = true ∨ ∃ T : String, TyX K H v (.type T) ∧ T ∈ ["NoneType", "bool", "int", "list", "tuple", "dict"])) : IsR K H (.ref l) (ringB xs)
theorem tyx_ex {K : PySem.W.Frag} {H H' : Hp} {x : V} {t : Value} (h : TyX K H x t) (e : Ex H H') : TyX K H' x t := by
  cases h with
  | base b =>
    refine .base ?_
    cases b with
    | non => exact .non
    | bl x => exact .bl x
    | int i => exact .int i
    | str x => exact .str x
    | flt x => exact .flt x
    | lst h => exact .lst (e _ _ h)
    | frz h => exact .frz (e _ _ h)
    | tup h => exact .tup (e _ _ h)
    | dK h => exact .dK (e _ _ h)
    | dT h => exact .dT (e _ _ h)
    | ins h c a n t m => exact .ins (e _ _ h) c a n t m
  | byt b => exact .byt b
  | set h => exact .set (e _ _ h)
  | kList h c => exact .kList h c
  | kTuple h c => exact .kTuple h c
  | kDict h c => exact .kDict h c
  | fTuple h => exact .fTuple (e _ _ h)
  | fDict h => exact .fDict (e _ _ h)
theorem Typ.ex {K : PySem.W.Frag} {H H' : Hp} {x : V} (h : Typ K H x) (e : Ex H H') : Typ K H' x := by
  obtain ⟨T, t, m, i⟩ := h
  exact ⟨T, tyx_ex t e, m, i⟩
theorem IsR.ex {K : PySem.W.Frag} {H H' : Hp} {x : V} {b : Bool} (h : IsR K H x b) (e : Ex H H') : IsR K H' x b := by
  cases h with
  | no t m => exact .no (tyx_ex t e) m
  | lst h hz ht =>
    refine .lst (e _ _ h) hz fun v hv => ?_
    obtain ⟨t, q⟩ := ht v hv
    exact ⟨t.ex e, q.imp id fun ⟨T, a, b⟩ => ⟨T, tyx_ex a e, b⟩⟩
theorem IsR.texts {K : PySem.W.Frag} {H : Hp} {l : Addr} {ys : List Str} (h : H l = some (.lst (ys.map V.str))) (hz : ys.length ≤ 1000) : IsR K H (.ref l) (ringB (ys.map V.str)) := by
  refine .lst h (by rw [List.length_map]; exact hz) fun v hv => ?_
  obtain ⟨y, _, rfl⟩ := List.mem_map.mp hv
  exact ⟨Typ.str, .inl rfl⟩
theorem map_txt (ys : List Str) : (ys.map V.str).map txt = ys := by
  rw [List.map_map]
  exact (List.map_congr_left fun _ _ => rfl).trans (List.map_id ys)
theorem all_isS (ys : List Str) : (ys.map V.str).all isS = true := by
  rw [List.all_eq_true]
  intro x hx
  obtain ⟨y, _, rfl⟩ := List.mem_map.mp hx
  rfl
theorem ringB_texts {ys : List Str} (h1 : 1 ≤ ys.length) (h2 : ys.length ≤ 200) (hn : ys.Nodup) : ringB (ys.map V.str) = true := by
  unfold ringB
  rw [map_txt, all_isS, List.length_map, met_nodup hn _ (Nat.le_refl _)]
  simp [h1, h2]
theorem texts_of : ∀ {xs : List V}, xs.all isS = true → xs = (xs.map txt).map V.str
  | [], _ => rfl
  | x :: xs, h => by
    rw [List.all_cons, Bool.and_eq_true] at h
    rw [List.map_cons, List.map_cons, ← texts_of h.2]
    cases x <;> first | rfl | (simp [isS] at h; done)
def t_is_ring (K : PySem.W.Frag) (P : Program) (w : World) : TS :=
(tSeq (tIfS (tOr (tNot (tB (tCB (rIsi K) (tCons (tVar 0) (tCons (tC (.ty "list")) tNil))))) (tNot (tB (tCall (sIsW K) [] E0 (tCons (tCB (rLenL K) (tCons (tVar 0) tNil)) (tCons (tC (.int 1)) (tCons (tC (.int (200))) tNil)))))))
  (tRet (tC (.bl false)))
  tNext)
  (tRet (tAndV (tCB (rAll K) (tCons (tLc (iList K (tVar 0)) (gName 1) tYes (tCB (rIsi K) (tCons (tVar 1) (tCons (tC (.ty "str")) tNil))) [1]) tNil)) (tOp rEq (tCB (rLenT P w) (tCons (tCB (rSetT K P w) (tCons (tVar 0) tNil)) tNil)) (tCB (rLenL K) (tCons (tVar 0) tNil))))))
def sIsRing (K : PySem.W.Frag) : Sp := fun vs H Q _ => ∃ x, vs = [x] ∧ ∃ b, IsR K H x b ∧ ∀ H', Ex H H' → Q (.bl b) H'
theorem pure_is_ring {K : PySem.W.Frag} {P : Program} {w : World} {vs : List V} {H : Hp} {Q : VK} {E : XK} {nx : L2.St → Hp → Prop} (h : sIsRing K vs H Q E) : t_is_ring K P w { nx := nx, rt := Q } (start ["thing", "hand"] vs) H := by
  obtain ⟨x, rfl, b, hr, q⟩ := h
  cases hr with
  | no t m =>
    rename_i T
    refine ⟨_, rfl, _, _, _, _, false, rfl, .ty "list", t, kit_ty ?_, false, rfl, iteT (iteT (q H (Evl.Ex.refl H)))⟩
    simp only [List.mem_cons, List.not_mem_nil, or_false] at m
    rcases m with rfl | rfl | rfl | rfl | rfl | rfl <;> decide +kernel
  | lst h hz ht =>
    rename_i l xs
    refine ⟨_, rfl, _, _, _, _, true, rfl, .ty "list", .base (.lst h), kit_ty (by decide +kernel), true, rfl, iteF ?_⟩
    refine ⟨_, rfl, l, xs, rfl, .inl (sq_of h), _, _, _, rfl, Typ.int, _, rfl, iteC (fun c => ?_) (fun c => ?_)⟩
    · have c1 : whB (.int (xs.length : Int)) 1 200 = false := by simpa using c
      have e : ringB xs = false := by
        unfold ringB
        unfold whB at c1
        rw [Bool.and_eq_false_iff, decide_eq_false_iff_not, decide_eq_false_iff_not] at c1
        rcases c1 with c1 | c1
        · rw [decide_eq_false (show ¬ 1 ≤ xs.length by omega)]; rfl
        · rw [decide_eq_false (show ¬ xs.length ≤ 200 by omega)]; simp
      rw [e] at q
      exact q H (Evl.Ex.refl H)
    · have c1 : whB (.int (xs.length : Int)) 1 200 = true := by simpa using c
      unfold whB at c1
      rw [Bool.and_eq_true, decide_eq_true_eq, decide_eq_true_eq] at c1
      -- are all of them texts
      refine ⟨_, rfl, l, rfl, ⟨xs, sq_of h⟩, fun A nA => ?_⟩
      refine lc_list (xs := xs) (fun i H' => Ex H H' ∧ H A = none ∧ H' A = some (.lst ((xs.take i).map fun v => V.bl (isS v)))) ⟨Evl.Ex.new nA, nA, upd_same⟩ (fun i H' _ p => sq_of (p.1 _ _ h)) (fun i v H' hi p => ?_) (fun H' p => ?_)
      · obtain ⟨p1, p2, p3⟩ := p
        have hl : i < xs.length := (List.getElem?_eq_some_iff.mp hi).1
        have hv : v ∈ xs := List.mem_of_getElem? hi
        have go : ∀ b, isS v = b → Ex H (upd H' A (.lst ((xs.take i).map (fun v => V.bl (isS v)) ++ [V.bl b]))) ∧ H A = none ∧ (upd H' A (.lst ((xs.take i).map (fun v => V.bl (isS v)) ++ [V.bl b]))) A = some (.lst ((xs.take (i + 1)).map fun v => V.bl (isS v))) := by
          intro b hb
          refine ⟨Evl.Ex.mut p1 p2, p2, ?_⟩
          rw [upd_same, List.take_add_one, hi, List.map_append, ← hb]; rfl
        refine ⟨rfl, ?_⟩
        unfold tYes
        dsimp only
        rw [if_pos rfl]
        have small : ((xs.take i).map fun v => V.bl (isS v)).length < sizeLine := by rw [List.length_map, List.length_take]; exact sz_lt (by omega)
        obtain ⟨tv, hs | ⟨T, ty, hm⟩⟩ := ht v hv
        · obtain ⟨z, rfl⟩ : ∃ z, v = .str z := by cases v <;> first | exact ⟨_, rfl⟩ | (simp [isS] at hs; done)
          exact ⟨_, rfl, _, _, _, _, true, rfl, .ty "str", .base (.str z), kit_ty (by decide +kernel), _, p3, small, go true rfl⟩
        · have hs : isS v = false := by
            cases v <;> first | rfl | skip
            exfalso
            cases ty with
            | base b => cases b; revert hm; decide
          refine ⟨_, rfl, _, _, _, _, false, rfl, .ty "str", tyx_ex ty p1, kit_ty ?_, _, p3, small, go false hs⟩
          simp only [List.mem_cons, List.not_mem_nil, or_false] at hm
          rcases hm with rfl | rfl | rfl | rfl | rfl | rfl <;> decide +kernel
      · obtain ⟨p1, p2, p3⟩ := p
        rw [List.take_length] at p3
        refine ⟨A, xs.map isS, rfl, .inl (.inl (by rw [List.map_map]; exact p3)), (xs.map isS).all id, rfl, iteC (fun c2 => ?_) (fun c2 => ?_)⟩
        · have ha : xs.all isS = true := by rw [List.all_map] at c2; exact c2
          have ex := texts_of ha
          refine ⟨_, rfl, l, xs.map txt, rfl, by rw [← ex]; exact sq_of (p1 _ _ h), by rw [List.length_map]; exact hz, fun S nS => ?_⟩
          refine ⟨S, xs.map txt, rfl, upd_same, by rw [List.length_map]; exact hz, ?_⟩
          have e2 := Evl.Ex.new (o := SetT P w S (xs.map txt)) nS
          refine ⟨_, rfl, l, xs, rfl, .inl (sq_of (e2 _ _ (p1 _ _ h))), rfl, ?_⟩
          have eb : ringB xs = decide (V.int ((met (xs.map txt) (xs.map txt).length).length : Int) = V.int (xs.length : Int)) := by
            unfold ringB
            rw [ha, List.length_map, decide_eq_true (show 1 ≤ xs.length by omega), decide_eq_true (show xs.length ≤ 200 by omega)]
            simp only [Bool.true_and, V.int.injEq]
            congr 1
            exact propext ⟨fun z => by omega, fun z => by omega⟩
          rw [eb] at q
          exact q _ (p1.trans e2)
        · have ha : xs.all isS = false := by rw [List.all_map] at c2; exact c2
          have eb : ringB xs = false := by
            unfold ringB
            rw [ha]; simp
          rw [eb] at q
          exact q _ p1
end Cd

set_option Elab.async false
set_option linter.all false
set_option maxRecDepth 100000
set_option maxHeartbeats 4000000
namespace Cd
open PySem PySem.Spec PyProof.Rows L2 Tx Kp
open Evl (Ex sq_of ex_l sz_of sz_lt fresh_back)
/-! ### a ring laid out -/
def t_goes_next : TS :=
(tRet (tOp oMod (tOp oSub (tOp oAdd (tVar 2) (tVar 1)) (tC (.int 1))) (tVar 0)))
def sGN : Sp := fun vs H Q _ => ∃ m s g : Int, vs = [.int m, .int s, .int g] ∧ 0 < m ∧ Q (.int ((g + s - 1) % m)) H
theorem pure_goes_next {vs : List V} {H : Hp} {Q : VK} {E : XK} (h : sGN vs H Q E) : t_goes_next { nx := fun _ H' => Q .non H', rt := Q } (start ["many", "step", "begin"] vs) H := by
  obtain ⟨m, s, g, rfl, hm, q⟩ := h
  exact ⟨_, rfl, _, rfl, _, _, rfl, rfl, _, _, rfl, rfl, _, rfl, _, _, rfl, rfl, hm, q⟩
def t_check_laid (K : PySem.W.Frag) (CR CS CP : Addr) (E : XK) : TS :=
(tSeq (tIfS (tNot (tB (tCall (sIsRing K) [] E0 (tCons (tVar 0) tNil))))
  (tRaise CR E)
  tNext)
  (tSeq (tDrop (tCall (sCk1 K CS) [] E (tCons (tVar 1) (tCons (tC (.int (1000000000000000000000000000000000000000000000000000000000000))) tNil))))
  (tDrop (tCall (sCkP K CP) [] E (tCons (tVar 2) (tCons (tCB (rLenL K) (tCons (tVar 0) tNil)) tNil))))))
/-- what cannot be laid out -/
@[irreducible] def sLaid (K : PySem.W.Frag) (CR CS CP : Addr) : Sp := fun vs H Q E => ∃ h d b, vs = [h, d, b] ∧ ∃ rb, IsR K H h rb ∧ Typ K H d ∧ Typ K H b ∧
  (rb = false → ∀ H', Ex H H' → E (.ref CR) none H') ∧
  (rb = true → (whB d 1 big = false → ∀ H', Ex H H' → E (.ref CS) none H') ∧ ∀ s : Int, d = .int s → 1 ≤ s → s ≤ big → ∀ l xs, h = .ref l → H l = some (.lst xs) → xs.length ≤ 1000 →
    (whB b 0 ((xs.length : Int) - 1) = false → ∀ H', Ex H H' → E (.ref CP) none H') ∧ ∀ g : Nat, b = .int (g : Int) → g < xs.length → ∀ H', Ex H H' → Q .non H')
theorem pure_check_laid {K : PySem.W.Frag} {CR CS CP : Addr} {vs : List V} {H : Hp} {Q : VK} {E : XK} (h : sLaid K CR CS CP vs H Q E) : t_check_laid K CR CS CP E { nx := fun _ H' => Q .non H', rt := Q } (start ["hands", "step", "begin"] vs) H := by
  unfold sLaid at h
  obtain ⟨h, d, b, rfl, rb, hr, td, tb, q0, q⟩ := h
  refine ⟨_, rfl, h, rfl, rb, hr, fun H1 e1 => ⟨rb, rfl, iteC (fun c => ?_) (fun c => ?_)⟩⟩
  · have c1 : rb = false := by simpa using c
    exact q0 c1 H1 e1
  · have c1 : rb = true := by simpa using c
    have q := q c1
    refine ⟨_, rfl, d, _, rfl, td.ex e1, fun w1 => ?_, fun w1 => q.1 w1 H1 e1⟩
    obtain ⟨s, rfl, s1, s2⟩ := wh_int w1
    obtain ⟨l, xs, rfl, hl, hz⟩ : ∃ l xs, h = .ref l ∧ H l = some (.lst xs) ∧ xs.length ≤ 1000 := by
      cases hr with
      | no t m => cases c1
      | lst h hz _ => exact ⟨_, _, rfl, h, hz⟩
    have q := q.2 s rfl s1 s2 l xs rfl hl hz
    refine ⟨_, rfl, _, rfl, l, xs, rfl, .inl (sq_of (e1 _ _ hl)), b, _, rfl, tb.ex e1, fun w2 => ?_, fun w2 => q.1 w2 H1 e1⟩
    obtain ⟨g', rfl, g1, g2⟩ := wh_int w2
    obtain ⟨g, rfl⟩ : ∃ g : Nat, g' = (g : Int) := ⟨g'.toNat, by omega⟩
    exact q.2 g rfl (by omega) H1 e1
def t_counted_out (K : PySem.W.Frag) : TS :=
(tSeq (tAsg (tCB (rListOf K) (tCons (tVar 0) tNil)) (gName 3))
  (tSeq (tAsg (tLst tNil) (gName 4))
  (tSeq (tAsg (tVar 2) (gName 5))
  (tSeq (tWhile (tTru K (tVar 3))
  (tSeq (tAsg (tCall sGN [] E0 (tCons (tCB (rLenL K) (tCons (tVar 3) tNil)) (tCons (tVar 1) (tCons (tVar 5) tNil)))) (gName 5))
  (tDrop (tBM K "list" rAppend (tVar 4) (tCons (tBM K "list" rPopAt (tVar 3) (tCons (tVar 5) tNil)) tNil)))))
  (tRet (tVar 4))))))
/-- whatever stands there, in the order in which it goes -/
@[irreducible] def sCtd (K : PySem.W.Frag) : Sp := fun vs H Q _ => ∃ (l : Addr) (s : Int) (g : Nat) (xs : List V), vs = [.ref l, .int s, .int (g : Int)] ∧ H l = some (.lst xs) ∧ xs.length ≤ 1000 ∧ 1 ≤ s ∧ g ≤ xs.length ∧
  ∀ q H', H q = none → Ex H H' → H' q = some (.lst (Jos.out (s - 1).toNat xs.length (Jos.rot xs g))) → Q (.ref q) H'
def t_row_out (K : PySem.W.Frag) (CR CS CP : Addr) (E : XK) : TS :=
(tSeq (tDrop (tCall (sLaid K CR CS CP) [] E (tCons (tVar 0) (tCons (tVar 1) (tCons (tVar 2) tNil)))))
  (tRet (tCall (sCtd K) [] E0 (tCons (tVar 0) (tCons (tVar 1) (tCons (tVar 2) tNil))))))
/-- the list of those that go; the first refusal that is due -/
@[irreducible] def sRow (K : PySem.W.Frag) (CR CS CP : Addr) : Sp := fun vs H Q E => ∃ h d b, vs = [h, d, b] ∧ ∃ rb, IsR K H h rb ∧ Typ K H d ∧ Typ K H b ∧
  (rb = false → ∀ H', Ex H H' → E (.ref CR) none H') ∧
  (rb = true → (whB d 1 big = false → ∀ H', Ex H H' → E (.ref CS) none H') ∧ ∀ s : Int, d = .int s → 1 ≤ s → s ≤ big → ∀ l xs, h = .ref l → H l = some (.lst xs) →
    (whB b 0 ((xs.length : Int) - 1) = false → ∀ H', Ex H H' → E (.ref CP) none H') ∧ ∀ g : Nat, b = .int (g : Int) → g < xs.length →
      ∀ q H', H q = none → Ex H H' → H' q = some (.lst (Jos.out (s - 1).toNat xs.length (Jos.rot xs g))) → Q (.ref q) H')
theorem seq_at {n k : Nat} (h : k < n) : seqIndex? (k : Int) n = some k := by
  unfold seqIndex?
  simp
  omega
theorem pure_counted_out {K : PySem.W.Frag} {vs : List V} {H : Hp} {Q : VK} {E : XK} (h : sCtd K vs H Q E) : t_counted_out K { nx := fun _ H' => Q .non H', rt := Q } (start ["hands", "step", "begin", "left", "gone", "at"] vs) H := by
  unfold sCtd at h
  obtain ⟨l, s, g, xs, rfl, hl, hz, s1, hg, q⟩ := h
  refine ⟨_, rfl, l, xs, rfl, .inl (sq_of hl), fun w nw => ?_⟩
  have e2 := Evl.Ex.new (o := .lst xs) nw
  refine ⟨Nat.zero_le _, fun f nf => ?_⟩
  have e3 := Evl.Ex.new (o := .lst []) nf
  have ne : w ≠ f := fun z => by rw [← z, upd_same] at nf; cases nf
  have o0 : OutAt H (upd (upd H w (.lst xs)) f (.lst [])) f w [] xs := ⟨e2.trans e3, fresh_back e2 nf, nw, ne, upd_same, e3 _ _ upd_same⟩
  refine ⟨_, rfl, ?_⟩
  refine ⟨fun m σ H' => ∃ done left, ∃ a : Nat, σ = [some (.ref l), some (.int s), some (.int (g : Int)), some (.ref w), some (.ref f), some (.int (a : Int))] ∧ m = left.length ∧ OutAt H H' f w done left ∧ a ≤ left.length ∧ done.length + left.length ≤ 1000 ∧
    done ++ Jos.out (s - 1).toNat left.length (Jos.rot left a) = Jos.out (s - 1).toNat xs.length (Jos.rot xs g), ⟨xs.length, [], xs, g, rfl, rfl, o0, by omega, by simpa using hz, rfl⟩, ?_⟩
  intro m σ H' hW
  obtain ⟨done, left, a, rfl, rfl, o, ha, hz2, ho⟩ := hW
  refine ⟨_, rfl, !left.isEmpty, .inl ⟨left, sq_of o.hw, rfl⟩, iteC (fun c3 => ?_) (fun c3 => ?_)⟩
  rotate_left
  · have e0 : left = [] := by simpa using c3
    subst e0
    rw [← ho, List.length_nil, Jos.out, List.append_nil] at q
    exact ⟨_, rfl, q f _ o.nf o.ex o.hf⟩
  · have hpos : 0 < left.length := by
      rw [List.length_pos_iff]
      intro z
      rw [z] at c3
      cases c3
    refine ⟨fun σ2 H2 => ∃ m', m' < left.length ∧ ∃ done left, ∃ a : Nat, σ2 = [some (.ref l), some (.int s), some (.int (g : Int)), some (.ref w), some (.ref f), some (.int (a : Int))] ∧ m' = left.length ∧ OutAt H H2 f w done left ∧ a ≤ left.length ∧ done.length + left.length ≤ 1000 ∧
      done ++ Jos.out (s - 1).toNat left.length (Jos.rot left a) = Jos.out (s - 1).toNat xs.length (Jos.rot xs g), fun _ _ z => z, ?_⟩
    refine ⟨_, rfl, w, left, rfl, .inl (sq_of o.hw), _, rfl, _, rfl, _, _, _, rfl, (by omega), ?_⟩
    obtain ⟨j, hj, hjl, hjn⟩ : ∃ j : Nat, ((a : Int) + s - 1) % (left.length : Int) = (j : Int) ∧ j < left.length ∧ j = (a + (s - 1).toNat) % left.length := by
      refine ⟨(a + (s - 1).toNat) % left.length, ?_, Nat.mod_lt _ hpos, rfl⟩
      rw [Int.natCast_emod, Int.natCast_add, Int.toNat_of_nonneg (by omega)]
      congr 1
      omega
    dsimp only
    rw [hj]
    obtain ⟨x, hx⟩ : ∃ x, left[j]? = some x := ⟨_, List.getElem?_eq_getElem hjl⟩
    refine ⟨_, rfl, ty_l o.hf, _, rfl, ty_l o.hw, _, rfl, w, left, (j : Int), j, x, rfl, rfl, o.hw, by omega, by omega, seq_at hjl, hx, ?_⟩
    have o2 : OutAt H (upd H' w (.lst (left.eraseIdx j))) f w done (left.eraseIdx j) := o.setw
    have hel : (left.eraseIdx j).length = left.length - 1 := by rw [List.length_eraseIdx, if_pos hjl]
    refine ⟨f, done, x, rfl, rfl, o2.hf, sz_lt (by omega), ?_⟩
    refine ⟨(left.eraseIdx j).length, by rw [hel]; omega, done ++ [x], left.eraseIdx j, j, rfl, rfl, o2.setf, by rw [hel]; omega, by rw [hel]; simp; omega, ?_⟩
    rw [← ho, List.append_assoc]
    congr 1
    obtain ⟨k, hk⟩ : ∃ k, left.length = k + 1 := ⟨left.length - 1, by omega⟩
    have g3 := Jos.out_at (s := (s - 1).toNat) (a := a) (n := k) (l := left) hk ha (x := x) (by rw [← hjn]; exact hx)
    rw [← hjn] at g3
    rw [hel, hk, g3, Nat.add_sub_cancel]
    rfl
theorem pure_row_out {K : PySem.W.Frag} {CR CS CP : Addr} {vs : List V} {H : Hp} {Q : VK} {E : XK} (h : sRow K CR CS CP vs H Q E) : t_row_out K CR CS CP E { nx := fun _ H' => Q .non H', rt := Q } (start ["hands", "step", "begin"] vs) H := by
  unfold sRow at h
  obtain ⟨h, d, b, rfl, rb, hr, td, tb, q0, q⟩ := h
  refine ⟨_, rfl, _, rfl, _, rfl, ?_⟩
  show sLaid K CR CS CP [h, d, b] H _ E
  unfold sLaid
  refine ⟨h, d, b, rfl, rb, hr, td, tb, q0, fun c => ⟨(q c).1, fun s es s1 s2 l xs el hl hz => ⟨((q c).2 s es s1 s2 l xs el hl).1, fun g eg hg H1 e1 => ?_⟩⟩⟩
  subst es el eg
  have q := ((q c).2 s rfl s1 s2 l xs rfl hl).2 g rfl hg
  refine ⟨_, rfl, _, rfl, _, rfl, ?_⟩
  show sCtd K [.ref l, .int s, .int (g : Int)] H1 _ E0
  unfold sCtd
  exact ⟨l, s, g, xs, rfl, e1 _ _ hl, hz, s1, by omega, fun o H2 no e2 ho => q o H2 (fresh_back e1 no) (e1.trans e2) ho⟩
end Cd

set_option Elab.async false
set_option linter.all false
set_option maxRecDepth 100000
set_option maxHeartbeats 4000000
namespace Cd
open PySem PySem.Spec PyProof.Rows L2 Tx Kp
open Evl (Ex sq_of ex_l sz_of sz_lt fresh_back)
/-! ### the law's own hands -/
def t_hands (K : PySem.W.Frag) : TS :=
(tSeq (tAsg (tOp oMod (tCall sNext [] E0 (tCons (tVar 0) tNil)) (tC (.int 3))) (gName 2))
  (tSeq (tAsg (tM1 (rJoin K) (tC (.str "")) (tLc (iRng1 (tCons (tOp oMod (tCall sNext [] E0 (tCons (tVar 0) tNil)) (tC (.int 6))) tNil)) (gName 4) tYes (tCall sOf [] E0 (tCons (tVar 0) (tCons (tC (.str "abcxyz 019")) tNil))) [4])) (gName 3))
  (tSeq (tAsg (tLst tNil) (gName 5))
  (tSeq (tFor (iRng1 (tCons (tVar 1) tNil)) (gName 4)
  (tDrop (tBM K "list" rAppend (tVar 5) (tCons (tOp (rIxL K) (tLst (tCons (tOp oAddS (tVar 3) (tCB oStrI (tCons (tVar 4) tNil))) (tCons (tOp oAddS (tCB oStrI (tCons (tVar 4) tNil)) (tVar 3)) (tCons (tOp oAddS (tOp oMulS (tC (.str "a")) (tVar 4)) (tVar 3)) tNil)))) (tVar 2)) tNil))))
  (tRet (tSlS K (tVar 5) (tOp (rIxL K) (tLst (tCons (tC (.int 1)) (tCons (tUn oNeg (tC (.int 1))) tNil))) (tOp oMod (tCall sNext [] E0 (tCons (tVar 0) tNil)) (tC (.int 2))))))))))
def sHands : Sp := fun vs H Q _ => ∃ p, ∃ m : Nat, vs = [.ref p, .int (m : Int)] ∧ StAt H p ∧ m ≤ 402 ∧
  ∀ q H' zs, H q = none → Run p H H' → H' q = some (.lst (List.map V.str zs)) → zs.length = m → zs.Nodup → (∀ z ∈ zs, PyData.strOk z = true) → (∀ z ∈ zs, noE z) → Q (.ref q) H'
theorem signs_ok : ∀ c ∈ (Str.ofString "abcxyz 019").cps.toList, c < 0x110000 ∧ c ≠ 101 := by decide +kernel
theorem Run.mut {p q : Addr} {H H' : Hp} {o : HO} (r : Run p H H') (hq : H q = none) (n : q ≠ p) : Run p H (upd H' q o) := by
  refine ⟨fun b u nb e => ?_, ?_⟩
  · have nq : b ≠ q := fun z => by rw [z, hq] at e; cases e
    rw [upd_ne nq]; exact r.1 b u nb e
  · obtain ⟨s, h1, h2⟩ := r.2
    exact ⟨s, h1, by rw [upd_ne n.symm]; exact h2⟩
theorem pure_hands {K : PySem.W.Frag} {vs : List V} {H : Hp} {Q : VK} {E : XK} {nx : L2.St → Hp → Prop} (h : sHands vs H Q E) : t_hands K { nx := nx, rt := Q } (start ["_law_state_here", "_law_many", "_law_way", "_law_base", "_law_k", "_law_found"] vs) H := by
  obtain ⟨p, m, rfl, st, hm, q⟩ := h
  refine ⟨_, rfl, p, rfl, st, fun H1 n1 r1 _ _ => ⟨_, _, rfl, rfl, pos0 (by decide), ?_⟩⟩
  obtain ⟨way, hw, hw3⟩ : ∃ way : Nat, n1 % 3 = (way : Int) ∧ way < 3 := by
    have a1 : 0 ≤ n1 % 3 := Int.emod_nonneg _ (by decide)
    have a2 : n1 % 3 < 3 := Int.emod_lt_of_pos _ (by decide)
    exact ⟨(n1 % 3).toNat, by omega, by omega⟩
  dsimp only
  rw [hw]
  -- the base
  refine ⟨⟨_, rfl⟩, _, rfl, p, rfl, r1.2, fun H2 n2 r2 _ _ => ⟨_, _, rfl, rfl, pos0 (by decide), ?_⟩⟩
  obtain ⟨k6, hk6, hk65⟩ : ∃ k : Nat, n2 % 6 = (k : Int) ∧ k ≤ 5 := by
    have a1 : 0 ≤ n2 % 6 := Int.emod_nonneg _ (by decide)
    have a2 : n2 % 6 < 6 := Int.emod_lt_of_pos _ (by decide)
    exact ⟨(n2 % 6).toNat, by omega, by omega⟩
  refine ⟨n2 % 6, rfl, by omega, by omega, fun A nA => ?_⟩
  rw [hk6, Int.toNat_natCast]
  have rr2 : Run p H H2 := r1.trans r2
  have nAp : A ≠ p := r2.2.ne nA
  refine lc_range (lo := 0) (n := k6) (fun i H' => Run p H H' ∧ ∃ cs : List Nat, cs.length = i ∧ (∀ c ∈ cs, c < 0x110000 ∧ c ≠ 101) ∧ H' A = some (.lst (cs.map fun c => V.str ⟨#[c]⟩))) ⟨rr2.new nA, [], rfl, by simp, upd_same⟩ (fun i H' hi P => ?_) (fun H' P => ?_)
  · obtain ⟨r, cs, hcl, hcs, hA⟩ := P
    refine ⟨rfl, ?_⟩
    unfold tYes
    dsimp only
    rw [if_pos rfl]
    refine ⟨_, rfl, p, _, rfl, r.2, .inr ⟨_, rfl, by decide +kernel, by decide +kernel, fun H3 c r3 hc => ?_⟩⟩
    have hA3 := r3.keep nAp hA
    refine ⟨_, hA3, by rw [List.length_map]; exact sz_lt (by omega), (r.trans r3).mut (rr2.free nA) nAp, cs ++ [c], by simp [hcl], fun x hx => ?_, ?_⟩
    · rcases List.mem_append.mp hx with hx | hx
      · exact hcs x hx
      · rw [List.mem_singleton.mp hx]; exact signs_ok c hc
    · rw [upd_same, List.map_append]; rfl
  · obtain ⟨r, cs, hcl, hcs, hA⟩ := P
    have ex : (cs.map fun c => V.str ⟨#[c]⟩) = (cs.map fun c => (⟨#[c]⟩ : Str)).map V.str := by rw [List.map_map]; rfl
    rw [ex] at hA
    refine ⟨_, A, _, rfl, rfl, .inl (sq_of hA), ?_, ?_⟩
    · rw [List.length_map, show (Str.ofString "").length = 0 by decide +kernel, Nat.mul_zero, Nat.add_zero, List.map_map]
      have : ∀ l : List Nat, (l.map ((fun x : Str => x.length) ∘ fun c => (⟨#[c]⟩ : Str))).sum = l.length := by
        intro l
        induction l with
        | nil => rfl
        | cons c l ih => rw [List.map_cons, List.sum_cons, ih, List.length_cons]; show 1 + l.length = _; omega
      rw [this]; omega
    have hb := base_of (cs := cs) (by omega) fun c hc => (hcs c hc).1
    have hbe := join_noE (cs := cs) fun c hc => (hcs c hc).2
    generalize hbase : PySem.Txt.join (Str.ofString "") (cs.map fun c => (⟨#[c]⟩ : Str)) = base at hb hbe
    -- the hands
    refine ⟨Nat.zero_le _, fun F nF => ?_⟩
    have nFp : F ≠ p := r.2.ne nF
    have hF0 : H F = none := r.free nF
    refine ⟨_, rfl, (m : Int), rfl, by omega, by omega, ?_⟩
    rw [Int.toNat_natCast]
    refine for_range (lo := 0) (n := m) (fun i σ H' => ∃ y4, σ = [some (.ref p), some (.int (m : Int)), some (.int (way : Int)), some (.str base), y4, some (.ref F)] ∧ Run p H H' ∧ H' F = some (.lst (((List.range i).map (handAt way base)).map V.str))) ⟨_, rfl, r.new nF, upd_same⟩ ?_ ?_
    · intro i σ H4 hi P
      obtain ⟨y4, rfl, r4, hF⟩ := P
      have hi2 : i < 402 := by omega
      have f := sk_facts i hi2
      have lg : ((i : Int)).natAbs.log2 < 1920 := Nat.lt_of_le_of_lt (Nat.log2_le_self _) (by omega)
      have ei : ((0 : Int) + (i : Int)) = (i : Int) := Int.zero_add _
      show tDrop _ _ [some (.ref p), some (.int (m : Int)), some (.int (way : Int)), some (.str base), some (.int ((0 : Int) + (i : Int))), some (.ref F)] H4
      rw [ei]
      have bl := hb.len
      refine ⟨_, rfl, ty_l hF, _, rfl, _, rfl, _, rfl, lg, _, _, rfl, rfl, ?_, ?_⟩
      · show base.length + (sk i).length ≤ sizeLine
        exact sz_of (by omega)
      refine ⟨_, rfl, _, rfl, lg, _, rfl, _, _, rfl, rfl, ?_, ?_⟩
      · show (sk i).length + base.length ≤ sizeLine
        exact sz_of (by omega)
      refine ⟨_, rfl, _, i, rfl, rfl, by decide +kernel, by omega, _, rfl, _, _, rfl, rfl, ?_, ?_⟩
      · show (PySem.Txt.mul sa (i : Int)).length + base.length ≤ sizeLine
        rw [mul_len]
        exact sz_of (by omega)
      refine ⟨(by decide : 3 ≤ sizeLine), fun T nT => ?_⟩
      have eT := Evl.Ex.new (o := .lst [.str (base ++ sk i), .str (sk i ++ base), .str (PySem.Txt.mul sa (i : Int) ++ base)]) nT
      refine ⟨_, rfl, T, _, _, .str (handAt way base i), rfl, rfl, sq_of upd_same, ?_, F, _, _, rfl, rfl, eT _ _ hF, ?_, ?_⟩
      · rcases (by omega : way = 0 ∨ way = 1 ∨ way = 2) with rfl | rfl | rfl <;> rfl
      · rw [List.length_map, List.length_map, List.length_range]; exact sz_lt (by omega)
      · refine ⟨_, rfl, (r4.new nT).mut hF0 nFp, ?_⟩
        rw [upd_same, List.range_succ, List.map_append, List.map_append]; rfl
    · intro σ H4 P
      obtain ⟨y4, rfl, r4, hF⟩ := P
      refine ⟨_, rfl, _, rfl, (by decide : 2 ≤ sizeLine), fun T nT => ?_⟩
      have r5 := r4.new (o := .lst [.int 1, .int (-1)]) nT
      have eT := Evl.Ex.new (o := .lst [.int 1, .int (-1)]) nT
      refine ⟨_, rfl, p, rfl, r5.2, fun H6 n6 r6 _ _ => ⟨_, _, rfl, rfl, pos0 (by decide), ?_⟩⟩
      have hT6 := r6.keep (r4.2.ne nT) (show upd H4 T (.lst [.int 1, .int (-1)]) T = some _ from upd_same)
      have hF6 := r6.keep nFp (eT _ _ hF)
      have fin : ∀ k : Int, k = 1 ∨ k = -1 → ∃ a xs, ∃ k2 : Int, V.ref F = .ref a ∧ V.int k = .int k2 ∧ (k2 = 1 ∨ k2 = -1) ∧ SqL K H6 a xs ∧ ∀ t, H6 t = none → Q (.ref t) (upd H6 t (.lst (if k2 = 1 then xs else xs.reverse))) := by
        intro k hk
        refine ⟨F, _, k, rfl, rfl, hk, sq_of hF6, fun t nt => ?_⟩
        have rr := r5.trans r6
        have e7 := Evl.Ex.new (o := .lst (if k = 1 then ((List.range m).map (handAt way base)).map V.str else (((List.range m).map (handAt way base)).map V.str).reverse)) nt
        have ok : ∀ z ∈ (List.range m).map (handAt way base), PyData.strOk z = true := fun z hz => by
          obtain ⟨k, hk, rfl⟩ := List.mem_map.mp hz
          have := List.mem_range.mp hk
          exact hand_ok hb (by omega)
        have ne : ∀ z ∈ (List.range m).map (handAt way base), noE z := fun z hz => by
          obtain ⟨k, hk, rfl⟩ := List.mem_map.mp hz
          have := List.mem_range.mp hk
          exact hand_noE hbe (by omega)
        rcases hk with rfl | rfl
        · exact q t _ ((List.range m).map (handAt way base)) (rr.free nt) (rr.trans (Run.ex rr.2 e7)) upd_same (by simp) (hands_nodup way base hm) ok ne
        · refine q t _ ((List.range m).map (handAt way base)).reverse (rr.free nt) (rr.trans (Run.ex rr.2 e7)) ?_ (by simp) ((List.reverse_perm _).nodup_iff.mpr (hands_nodup way base hm)) (fun z hz => ok z (List.mem_reverse.mp hz)) fun z hz => ne z (List.mem_reverse.mp hz)
          rw [upd_same, List.map_reverse]; rfl
      have h2 : n6 % 2 = 0 ∨ n6 % 2 = 1 := by omega
      rcases h2 with h2 | h2
      · refine ⟨T, _, _, .int 1, rfl, rfl, sq_of hT6, ?_, fin 1 (.inl rfl)⟩
        rw [h2]; rfl
      · refine ⟨T, _, _, .int (-1), rfl, rfl, sq_of hT6, ?_, fin (-1) (.inr rfl)⟩
        rw [h2]; rfl
end Cd

set_option Elab.async false
set_option linter.all false
set_option maxRecDepth 100000
set_option maxHeartbeats 4000000
namespace Cd
open PySem PySem.Spec PyProof.Rows L2 Tx Kp
open Evl (Ex sq_of ex_l sz_of sz_lt fresh_back)
/-! ### wishes: the beginning from which a place stays last; what is refused -/
theorem sRef.imp {K : PySem.W.Frag} {CM CS CP : Addr} {m d b : V} {H : Hp} {E E' : XK} {ok ok' : Int → Int → Int → Prop} (h : sRef K CM CS CP m d b H E ok) (g : ∀ cls dd H', E cls dd H' → E' cls dd H') (k : ∀ n s g, ok n s g → ok' n s g) : sRef K CM CS CP m d b H E' ok' := by
  obtain ⟨tm, td, tb, q0, q⟩ := h
  refine ⟨tm, td, tb, fun a => g _ _ _ (q0 a), fun n en n1 n2 => ?_⟩
  obtain ⟨q1, q2⟩ := q n en n1 n2
  refine ⟨fun a => g _ _ _ (q1 a), fun s es s1 s2 => ?_⟩
  obtain ⟨q3, q4⟩ := q2 s es s1 s2
  exact ⟨fun a => g _ _ _ (q3 a), fun c ec c0 c1 => k _ _ _ (q4 c ec c0 c1)⟩
@[irreducible] def sBegin (K : PySem.W.Frag) (CM CS CP : Addr) : Sp := fun vs H Q E => ∃ m d x, vs = [m, d, x] ∧ sRef K CM CS CP m d x H (fun c o H1 => ∀ H', Ex H1 H' → E c o H') fun n s g =>
  ∀ b : Nat, (b : Int) < n → (Jos.order s.toNat n.toNat b)[n.toNat - 1]? = some g.toNat → ∀ H', Ex H H' → Q (.int (b : Int)) H'
/-- the kept refusal, as its word -/
abbrev eWord (C : Cs) (Q : VK) : XK := fun cls dd H' => dd = none ∧ ∃ k, cls = .ref (C.on k) ∧ ∀ H'', Ex H' H'' → Q (.str k.word) H''
namespace K04
def t_told (K : PySem.W.Frag) (C : Cs) : TS :=
(tSeq (tTryK K C.err 5 6 (fun W => (tSeq (tIfS (tTest (tOp rEq (tVar 0) (tC (.int 0))))
  (tRet (tCallS (sCount K C.many C.step C.place) (WE W) (tCons (tVar 1) (tCons (tVar 2) (tCons (tVar 3) (tCons (tVar 4) tNil))))))
  tNext)
  (tSeq (tIfS (tTest (tOp rEq (tVar 0) (tC (.int 1))))
  (tRet (tCallS (sGoes K C.many C.step C.place C.count) (WE W) (tCons (tVar 1) (tCons (tVar 2) (tCons (tVar 3) (tCons (tVar 4) tNil))))))
  tNext)
  (tSeq (tIfS (tTest (tOp rEq (tVar 0) (tC (.int 2))))
  (tRet (tCallS (sLast K C.many C.step C.place) (WE W) (tCons (tVar 1) (tCons (tVar 2) (tCons (tVar 3) tNil)))))
  tNext)
  (tRet (tCallS (sBegin K C.many C.step C.place) (WE W) (tCons (tVar 1) (tCons (tVar 2) (tCons (tVar 3) tNil))))))))))
  (tRet (tCall (sErr K C) [] E0 (tCons (tVar 6) tNil))))
def sTold (K : PySem.W.Frag) (C : Cs) : Sp := fun vs H Q _ => ∃ (way : Nat) (m d b x : V), vs = [.int (way : Int), m, d, b, x] ∧
  (way = 0 ∧ sCount K C.many C.step C.place [m, d, b, x] H Q (eWord C Q) ∨ way = 1 ∧ sGoes K C.many C.step C.place C.count [m, d, b, x] H Q (eWord C Q) ∨
   way = 2 ∧ sLast K C.many C.step C.place [m, d, b] H Q (eWord C Q) ∨ way = 3 ∧ sBegin K C.many C.step C.place [m, d, b] H Q (eWord C Q))
theorem pure_told {K : PySem.W.Frag} {C : Cs} (F : ErrF K C) {vs : List V} {H : Hp} {Q : VK} {E : XK} {nx : L2.St → Hp → Prop} (h : sTold K C vs H Q E) : t_told K C { nx := nx, rt := Q } (start ["_law_way", "_law_many", "_law_step", "_law_begin", "_law_last", "_law_e", "_law_error_here"] vs) H := by
  obtain ⟨way, m, d, b, x, rfl, hw⟩ := h
  -- a kept refusal is told by its word
  have keep : ∀ (σ : L2.St), σ = [some (.int (way : Int)), some m, some d, some b, some x, none, none] → ∀ cls dd H', eWord C Q cls dd H' →
      WE (wKp K (.ref C.err) 5 6 { nx := tRet (tCall (sErr K C) [] E0 (tCons (tVar 6) tNil)) { nx := nx, rt := Q }, rt := Q }) σ cls dd H' := by
    intro σ es cls dd H' e
    subst es
    obtain ⟨ed, k, ec, qq⟩ := e
    subst ed ec
    refine ⟨rfl, F.caught k, fun a na => ?_⟩
    exact ⟨_, rfl, a, k, rfl, upd_same, fun H'' ex => qq H'' ((Evl.Ex.new na).trans ex)⟩
  rcases hw with ⟨rfl, hr⟩ | ⟨rfl, hr⟩ | ⟨rfl, hr⟩ | ⟨rfl, hr⟩
  · refine ⟨_, rfl, rfl, _, rfl, iteC (fun _ => ?_) (fun c => by cases c)⟩
    refine ⟨_, rfl, _, rfl, _, rfl, _, rfl, ?_⟩
    show sCount K C.many C.step C.place [m, d, b, x] H _ _
    unfold sCount at hr ⊢
    obtain ⟨m', d', b', x', ev, tx, rr⟩ := hr
    refine ⟨m', d', b', x', ev, tx, rr.imp (keep _ rfl) fun n s g q => ⟨fun a => keep _ rfl _ _ _ (q.1 a), q.2⟩⟩
  · refine ⟨_, rfl, rfl, _, rfl, iteC (fun c => by cases c) (fun _ => ?_)⟩
    refine ⟨_, rfl, rfl, _, rfl, iteC (fun _ => ?_) (fun c => by cases c)⟩
    refine ⟨_, rfl, _, rfl, _, rfl, _, rfl, ?_⟩
    show sGoes K C.many C.step C.place C.count [m, d, b, x] H _ _
    unfold sGoes at hr ⊢
    obtain ⟨m', d', b', x', ev, tx, rr⟩ := hr
    refine ⟨m', d', b', x', ev, tx, rr.imp (keep _ rfl) fun n s g q => ⟨fun a => keep _ rfl _ _ _ (q.1 a), q.2⟩⟩
  · refine ⟨_, rfl, rfl, _, rfl, iteC (fun c => by cases c) (fun _ => ?_)⟩
    refine ⟨_, rfl, rfl, _, rfl, iteC (fun c => by cases c) (fun _ => ?_)⟩
    refine ⟨_, rfl, rfl, _, rfl, iteC (fun _ => ?_) (fun c => by cases c)⟩
    refine ⟨_, rfl, _, rfl, _, rfl, ?_⟩
    show sLast K C.many C.step C.place [m, d, b] H _ _
    unfold sLast at hr ⊢
    obtain ⟨m', d', b', ev, rr⟩ := hr
    exact ⟨m', d', b', ev, rr.imp (keep _ rfl) fun n s g q => q⟩
  · refine ⟨_, rfl, rfl, _, rfl, iteC (fun c => by cases c) (fun _ => ?_)⟩
    refine ⟨_, rfl, rfl, _, rfl, iteC (fun c => by cases c) (fun _ => ?_)⟩
    refine ⟨_, rfl, rfl, _, rfl, iteC (fun c => by cases c) (fun _ => ?_)⟩
    refine ⟨_, rfl, _, rfl, _, rfl, ?_⟩
    show sBegin K C.many C.step C.place [m, d, b] H _ _
    unfold sBegin at hr ⊢
    obtain ⟨m', d', b', ev, rr⟩ := hr
    exact ⟨m', d', b', ev, rr.imp (fun c o H1 z H' e => keep _ rfl _ _ _ (z H' e)) fun n s g q => q⟩
/-- the first refusal that is due -/
theorem ref_many {K : PySem.W.Frag} {CM CS CP : Addr} {m d b : V} {H : Hp} {E : XK} {ok : Int → Int → Int → Prop} (tm : Typ K H m) (td : Typ K H d) (tb : Typ K H b) (h : whB m 1 big = false) (q : E (.ref CM) none H) : sRef K CM CS CP m d b H E ok := by
  refine ⟨tm, td, tb, fun _ => q, fun n en n1 n2 => ?_⟩
  subst en
  rw [wh_of n1 n2] at h; cases h
theorem ref_step {K : PySem.W.Frag} {CM CS CP : Addr} {n : Int} {d b : V} {H : Hp} {E : XK} {ok : Int → Int → Int → Prop} (td : Typ K H d) (tb : Typ K H b) (n1 : 1 ≤ n) (n2 : n ≤ big) (h : whB d 1 100 = false) (q : E (.ref CS) none H) : sRef K CM CS CP (.int n) d b H E ok := by
  refine ⟨Typ.int, td, tb, fun e => ?_, fun n' en _ _ => ⟨fun _ => q, fun s es s1 s2 => ?_⟩⟩
  · rw [wh_of n1 n2] at e; cases e
  · subst es
    rw [wh_of s1 s2] at h; cases h
theorem ref_place {K : PySem.W.Frag} {CM CS CP : Addr} {n s : Int} {b : V} {H : Hp} {E : XK} {ok : Int → Int → Int → Prop} (tb : Typ K H b) (n1 : 1 ≤ n) (n2 : n ≤ big) (s1 : 1 ≤ s) (s2 : s ≤ 100) (h : whB b 0 (n - 1) = false) (q : E (.ref CP) none H) : sRef K CM CS CP (.int n) (.int s) b H E ok := by
  refine ⟨Typ.int, Typ.int, tb, fun e => ?_, fun n' en _ _ => ⟨fun e => ?_, fun s' es _ _ => ⟨fun _ => ?_, fun g eg g0 g1 => ?_⟩⟩⟩
  · rw [wh_of n1 n2] at e; cases e
  · rw [wh_of s1 s2] at e; cases e
  · exact q
  · cases en
    subst eg
    rw [wh_of g0 (by omega)] at h; cases h
theorem eWord_of {C : Cs} {Q : VK} {H : Hp} (k : Ek) (q : ∀ H', Ex H H' → Q (.str k.word) H') : eWord C Q (.ref (C.on k)) none H := ⟨rfl, k, rfl, q⟩
/-- refused alike, by each of the four ways -/
theorem told_ref {K : PySem.W.Frag} {C : Cs} {way : Nat} {m d b x : V} {H : Hp} {Q : VK} {E : XK} (hw : way < 4) (tx : Typ K H x) (h : ∀ (E' : XK) (ok : Int → Int → Int → Prop), (∀ c o, eWord C Q c o H → E' c o H) → sRef K C.many C.step C.place m d b H E' ok) : sTold K C [.int (way : Int), m, d, b, x] H Q E := by
  refine ⟨way, m, d, b, x, rfl, ?_⟩
  rcases (by omega : way = 0 ∨ way = 1 ∨ way = 2 ∨ way = 3) with rfl | rfl | rfl | rfl
  · exact .inl ⟨rfl, by unfold sCount; exact ⟨_, _, _, _, rfl, tx, h _ _ fun _ _ z => z⟩⟩
  · exact .inr (.inl ⟨rfl, by unfold sGoes; exact ⟨_, _, _, _, rfl, tx, h _ _ fun _ _ z => z⟩⟩)
  · exact .inr (.inr (.inl ⟨rfl, by unfold sLast; exact ⟨_, _, _, rfl, h _ _ fun _ _ z => z⟩⟩))
  · refine .inr (.inr (.inr ⟨rfl, ?_⟩))
    unfold sBegin
    refine ⟨_, _, _, rfl, h _ _ fun c o z H' e => ?_⟩
    obtain ⟨e1, k, e2, g⟩ := z
    exact ⟨e1, k, e2, fun H'' e3 => g H'' (e.trans e3)⟩
end K04
end Cd

set_option Elab.async false
set_option linter.all false
set_option maxRecDepth 100000
set_option maxHeartbeats 4000000
namespace Cd
open PySem PySem.Spec PyProof.Rows L2 Tx Kp
open Evl (Ex sq_of ex_l sz_of sz_lt fresh_back)
theorem Jos.order_last_uniq {D M R b b' g : Nat} (h0 : (Jos.order D M 0)[M - 1]? = some R) (hb : b < M) (hb' : b' < M) (h : (Jos.order D M b)[M - 1]? = some g) (h' : (Jos.order D M b')[M - 1]? = some g) : b = b' := by
  have e := Jos.order_turn (b := b) (by omega) h0
  have e' := Jos.order_turn (b := b') (by omega) h0
  rw [e] at h
  rw [e'] at h'
  have hR : R < M := Jos.order_lt (List.mem_of_getElem? h0)
  have z := (Option.some.inj h).trans (Option.some.inj h').symm
  have i1 : (b + R) % M = if b + R < M then b + R else b + R - M := by
    split
    · exact Nat.mod_eq_of_lt (by omega)
    · rw [Nat.mod_eq_sub_mod (by omega), Nat.mod_eq_of_lt (by omega)]
  have i2 : (b' + R) % M = if b' + R < M then b' + R else b' + R - M := by
    split
    · exact Nat.mod_eq_of_lt (by omega)
    · rw [Nat.mod_eq_sub_mod (by omega), Nat.mod_eq_of_lt (by omega)]
  rw [i1, i2] at z
  split at z <;> split at z <;> omega
/-- from the beginning that is told, the place stays last -/
theorem begin_right {K : PySem.W.Frag} {CM CS CP : Addr} {M D B g : Nat} {H : Hp} {Q : VK} {E : XK} (hM : (M : Int) ≤ big) (h1 : 1 ≤ D) (h2 : D ≤ 100) (hg : g < M) (hB : B < M) (h : (Jos.order D M B)[M - 1]? = some g) (q : ∀ H', Ex H H' → Q (.int (B : Int)) H') : sBegin K CM CS CP [.int (M : Int), .int (D : Int), .int (g : Int)] H Q E := by
  unfold sBegin
  refine ⟨_, _, _, rfl, sRef.right hM h1 h2 hg fun b hb hl H' e => ?_⟩
  simp only [Int.toNat_natCast] at hl
  obtain ⟨R, h0⟩ : ∃ R, (Jos.order D M 0)[M - 1]? = some R := ⟨_, List.getElem?_eq_getElem (by rw [Jos.order_len]; omega)⟩
  rw [Jos.order_last_uniq h0 (by omega) hB hl h]
  exact q H' e
/-- there is one -/
theorem begin_is {M D g : Nat} (hg : g < M) : ∃ B, B < M ∧ (Jos.order D M B)[M - 1]? = some g := by
  obtain ⟨R, h0⟩ : ∃ R, (Jos.order D M 0)[M - 1]? = some R := ⟨_, List.getElem?_eq_getElem (by rw [Jos.order_len]; omega)⟩
  have hR : R < M := Jos.order_lt (List.mem_of_getElem? h0)
  refine ⟨(g + (M - R)) % M, Nat.mod_lt _ (by omega), ?_⟩
  rw [Jos.order_turn (b := (g + (M - R)) % M) (Nat.le_of_lt (Nat.mod_lt _ (by omega))) h0, Nat.mod_add_mod, show g + (M - R) + R = g + M by omega, Nat.add_mod_right, Nat.mod_eq_of_lt hg]
namespace K04
/-- the four right answers -/
structure Ans (M D B P : Nat) (v0 v1 v2 v3 : Nat) : Prop where
  a0 : ∃ c, v0 = c + 1 ∧ (Jos.order D M B)[c]? = some P
  a1 : (Jos.order D M B)[P]? = some v1
  a2 : (Jos.order D M B)[M - 1]? = some v2
  a3 : v3 < M ∧ (Jos.order D M v3)[M - 1]? = some B
theorem ans_is {M D B P : Nat} (hB : B < M) (hP : P < M) : ∃ v0 v1 v2 v3, Ans M D B P v0 v1 v2 v3 := by
  obtain ⟨c, hc⟩ : ∃ c, (Jos.order D M B)[c]? = some P := List.mem_iff_getElem?.mp (Jos.order_mem hP)
  obtain ⟨b, hb, hl⟩ := begin_is (D := D) hB
  exact ⟨c + 1, _, _, b, ⟨c, rfl, hc⟩, List.getElem?_eq_getElem (by rw [Jos.order_len]; omega), List.getElem?_eq_getElem (by rw [Jos.order_len]; omega), hb, hl⟩
def ans4 (v0 v1 v2 v3 : Nat) : List V := [nV v0, nV v1, nV v2, nV v3]
def arg4 (P : Nat) : List V := [.int (P : Int), .int ((P : Int) + 1), .int 0, .int 0]
theorem told_right {K : PySem.W.Frag} {C : Cs} {M D B P i : Nat} {v0 v1 v2 v3 : Nat} {H : Hp} {Q : VK} {E : XK} (A : Ans M D B P v0 v1 v2 v3) (hM : (M : Int) ≤ big) (h1 : 1 ≤ D) (h2 : D ≤ 100) (hB : B < M) (hP : P < M) {x v : V} (hx : (arg4 P)[i]? = some x) (hv : (ans4 v0 v1 v2 v3)[i]? = some v) (q : ∀ H', Ex H H' → Q v H') : sTold K C [.int (i : Int), .int (M : Int), .int (D : Int), .int (B : Int), x] H Q E := by
  refine ⟨i, _, _, _, _, rfl, ?_⟩
  have hi : i < 4 := (List.getElem?_eq_some_iff.mp hx).1
  rcases (by omega : i = 0 ∨ i = 1 ∨ i = 2 ∨ i = 3) with rfl | rfl | rfl | rfl
  · cases hx
    cases hv
    obtain ⟨c, ec, hc⟩ := A.a0
    refine .inl ⟨rfl, count_right hM h1 h2 hB hc ?_⟩
    have := q H (Evl.Ex.refl _)
    unfold nV at this
    rw [ec, Int.natCast_add] at this
    exact this
  · cases hx
    cases hv
    exact .inr (.inl ⟨rfl, goes_right hM h1 h2 hB A.a1 (q H (Evl.Ex.refl _))⟩)
  · cases hv
    exact .inr (.inr (.inl ⟨rfl, last_right hM h1 h2 hB A.a2 (q H (Evl.Ex.refl _))⟩))
  · cases hv
    exact .inr (.inr (.inr ⟨rfl, begin_right hM h1 h2 hB A.a3.1 A.a3.2 q⟩))
/-- what stands behind the ring is refused -/
theorem told_off0 {K : PySem.W.Frag} {C : Cs} {M D B : Nat} {x : V} {H : Hp} {Q : VK} {E : XK} (hM : (M : Int) ≤ big) (h1 : 1 ≤ D) (h2 : D ≤ 100) (hB : B < M) (tx : Typ K H x) (hw : whB x 0 ((M : Int) - 1) = false) (q : ∀ H', Ex H H' → Q (.str "place") H') : sTold K C [.int ((0 : Nat) : Int), .int (M : Int), .int (D : Int), .int (B : Int), x] H Q E := by
  refine ⟨0, _, _, _, _, rfl, .inl ⟨rfl, ?_⟩⟩
  unfold sCount
  refine ⟨_, _, _, _, rfl, tx, sRef.right hM h1 h2 hB ⟨fun _ => eWord_of .place q, fun p ep hp => ?_⟩⟩
  subst ep
  rw [wh_of (by omega) (by omega)] at hw
  cases hw
theorem told_off1 {K : PySem.W.Frag} {C : Cs} {M D B : Nat} {x : V} {H : Hp} {Q : VK} {E : XK} (hM : (M : Int) ≤ big) (h1 : 1 ≤ D) (h2 : D ≤ 100) (hB : B < M) (tx : Typ K H x) (hw : whB x 1 (M : Int) = false) (q : ∀ H', Ex H H' → Q (.str "count") H') : sTold K C [.int ((1 : Nat) : Int), .int (M : Int), .int (D : Int), .int (B : Int), x] H Q E := by
  refine ⟨1, _, _, _, _, rfl, .inr (.inl ⟨rfl, ?_⟩)⟩
  unfold sGoes
  refine ⟨_, _, _, _, rfl, tx, sRef.right hM h1 h2 hB ⟨fun _ => eWord_of .count q, fun p ep h3 h4 => ?_⟩⟩
  subst ep
  rw [wh_of (by omega) (by omega)] at hw
  cases hw
def tAns (K : PySem.W.Frag) (C : Cs) : TE := (tLc (iRng1 (tCons (tC (.int 4)) tNil)) (gName 7) tYes (tCall (sTold K C) [] E0 (tCons (tVar 7) (tCons (tVar 2) (tCons (tVar 3) (tCons (tVar 4) (tCons (tOp (rIxL K) (tLst (tCons (tVar 5) (tCons (tOp oAdd (tVar 5) (tC (.int 1))) (tCons (tC (.int 0)) (tCons (tC (.int 0)) tNil))))) (tVar 7)) tNil)))))) [7])
theorem ans_go {K : PySem.W.Frag} {C : Cs} {M D B P : Nat} {v0 v1 v2 v3 : Nat} {y0 y1 y6 y7 y8 y9 y10 y11 y12 y13 y14 : Option V} {H : Hp} {Q : VK} (A : Ans M D B P v0 v1 v2 v3) (hM : (M : Int) ≤ big) (h1 : 1 ≤ D) (h2 : D ≤ 100) (hB : B < M) (hP : P < M)
    (q : ∀ a H', H a = none → Ex H H' → H' a = some (.lst (ans4 v0 v1 v2 v3)) → Q (.ref a) H') :
    tAns K C [y0, y1, some (.int (M : Int)), some (.int (D : Int)), some (.int (B : Int)), some (.int (P : Int)), y6, y7, y8, y9, y10, y11, y12, y13, y14] H Q := by
  refine ⟨4, rfl, by decide, by decide, fun R nR => ?_⟩
  refine lc_range (lo := 0) (n := 4) (fun i H' => Ex H H' ∧ H' R = some (.lst ((ans4 v0 v1 v2 v3).take i))) ⟨Evl.Ex.new nR, upd_same⟩ (fun i H' hi p => ?_) (fun H' p => ?_)
  · obtain ⟨p1, p2⟩ := p
    refine ⟨rfl, ?_⟩
    unfold tYes
    dsimp only
    rw [if_pos rfl]
    have ei : ((0 : Int) + (i : Int)) = (i : Int) := Int.zero_add _
    rw [ei]
    refine ⟨_, rfl, _, rfl, _, rfl, _, rfl, _, rfl, _, rfl, _, _, rfl, rfl, (by decide : 4 ≤ sizeLine), fun l nl => ?_⟩
    have el := Evl.Ex.new (o := .lst [.int (P : Int), .int ((P : Int) + 1), .int 0, .int 0]) nl
    obtain ⟨x, hx⟩ : ∃ x, (arg4 P)[i]? = some x := ⟨_, List.getElem?_eq_getElem hi⟩
    obtain ⟨v, hv⟩ : ∃ v, (ans4 v0 v1 v2 v3)[i]? = some v := ⟨_, List.getElem?_eq_getElem hi⟩
    have hat : atI (arg4 P) (i : Int) = some x := by
      have e : atI (arg4 P) (i : Int) = (arg4 P)[i]? := by
        rcases (by omega : i = 0 ∨ i = 1 ∨ i = 2 ∨ i = 3) with rfl | rfl | rfl | rfl <;> rfl
      rw [e, hx]
    refine ⟨_, rfl, l, _, _, x, rfl, rfl, sq_of upd_same, hat, ?_⟩
    refine told_right (E := E0) A hM h1 h2 hB hP hx hv fun H2 e2 => ?_
    refine ⟨_, e2 _ _ (el _ _ p2), ?_, Evl.Ex.mut (p1.trans (el.trans e2)) nR, ?_⟩
    · refine sz_lt ?_
      rw [List.length_take]; have : (ans4 v0 v1 v2 v3).length = 4 := rfl; omega
    · rw [upd_same, List.take_succ, hv]; rfl
  · exact q R H' nR p.1 p.2
end K04
end Cd

set_option Elab.async false
set_option linter.all false
set_option maxRecDepth 100000
set_option maxHeartbeats 4000000
namespace Cd
open PySem PySem.Spec PyProof.Rows L2 Tx Kp
open Evl (Ex sq_of ex_l sz_of sz_lt fresh_back)
/-! ### begin_for as it landed -/
def t_begin_for (K : PySem.W.Frag) (CM CS CP : Addr) (E : XK) : TS :=
(tSeq (tAsg (tCall (sLast K CM CS CP) [.int 0] E (tCons (tVar 0) (tCons (tVar 1) tNil))) (gName 3))
  (tSeq (tDrop (tCall (sCkP K CP) [] E (tCons (tVar 2) (tCons (tVar 0) tNil))))
  (tRet (tOp oMod (tOp oSub (tVar 2) (tVar 3)) (tVar 0)))))
theorem pure_begin_for {K : PySem.W.Frag} {CM CS CP : Addr} {vs : List V} {H : Hp} {Q : VK} {E : XK} (h : sBegin K CM CS CP vs H Q E) : t_begin_for K CM CS CP E { nx := fun _ H' => Q .non H', rt := Q } (start ["many", "step", "place", "last"] vs) H := by
  unfold sBegin at h
  obtain ⟨m, d, x, rfl, tm, td, tx, q0, q⟩ := h
  refine ⟨_, rfl, _, rfl, ?_⟩
  show sLast K CM CS CP [m, d, .int 0] H _ E
  unfold sLast
  refine ⟨m, d, .int 0, rfl, tm, td, Typ.int, fun w => q0 w H (Evl.Ex.refl H), fun n en n1 n2 => ⟨fun w => (q n en n1 n2).1 w H (Evl.Ex.refl H), fun s es s1 s2 => ⟨fun w => ?_, fun g0 eg0 g1 g2 p hp => ?_⟩⟩⟩
  · rw [wh_of (by omega) (by omega)] at w; cases w
  have k2 := (q n en n1 n2).2 s es s1 s2
  clear q q0
  subst en es
  cases eg0
  refine ⟨_, rfl, _, rfl, x, n, rfl, tx, fun w3 => ?_, fun w3 => k2.1 w3 H (Evl.Ex.refl H)⟩
  obtain ⟨g', rfl, h1, h2⟩ := wh_int w3
  have q := k2.2 g' rfl h1 (by omega)
  obtain ⟨M, rfl⟩ : ∃ M : Nat, n = (M : Int) := ⟨n.toNat, by omega⟩
  obtain ⟨D, rfl⟩ : ∃ D : Nat, s = (D : Int) := ⟨s.toNat, by omega⟩
  obtain ⟨B, rfl⟩ : ∃ B : Nat, g' = (B : Int) := ⟨g'.toNat, by omega⟩
  simp only [Int.toNat_natCast] at q
  rw [Int.toNat_natCast, Int.toNat_natCast, show (0 : Int).toNat = 0 from rfl] at hp
  refine ⟨_, rfl, _, rfl, _, _, rfl, rfl, _, rfl, _, _, rfl, rfl, pos0 (by omega), ?_⟩
  have c1 : 0 ≤ ((B : Int) - (p : Int)) % (M : Int) := Int.emod_nonneg _ (by omega)
  have c2 : ((B : Int) - (p : Int)) % (M : Int) < M := Int.emod_lt_of_pos _ (by omega)
  have k := q (((B : Int) - (p : Int)) % (M : Int)).toNat (by omega) (by
    rw [Jos.order_turn (by omega) hp]
    congr 1
    apply Int.ofNat.inj
    show ((((((B : Int) - (p : Int)) % (M : Int)).toNat + p) % M : Nat) : Int) = (B : Int)
    rw [Int.natCast_emod, Int.natCast_add, Int.toNat_of_nonneg c1, Int.emod_add_emod, show (B : Int) - (p : Int) + (p : Int) = (B : Int) by omega]
    exact Int.emod_eq_of_lt (by omega) (by omega)) H (Evl.Ex.refl H)
  rw [Int.toNat_of_nonneg c1] at k
  exact k
end Cd

set_option Elab.async false
set_option linter.all false
set_option maxRecDepth 100000
set_option maxHeartbeats 4000000
namespace Cd
open PySem PySem.Spec PyProof.Rows L2
open Evl (Ex sq_of ex_l sz_of sz_lt fresh_back)
namespace K06
theorem filter_is (B : Nat) : ∀ M, (List.range M).filter (fun b => decide (b = B)) = if B < M then [B] else []
  | 0 => by simp
  | M + 1 => by
    rw [List.range_succ, List.filter_append, filter_is B M]
    by_cases h1 : B < M
    · rw [if_pos h1, if_pos (by omega), List.filter_cons_of_neg (by simp; omega)]; rfl
    · rw [if_neg h1]
      by_cases h2 : B = M
      · subst h2; simp
      · rw [if_neg (by omega), List.filter_cons_of_neg (by simp; omega)]; rfl
/-- who is last, by the beginning -/
def lastp (D M b : Nat) : Nat := ((Jos.order D M b)[M - 1]?).getD 0
theorem lastp_of {D M b : Nat} (hM : 1 ≤ M) : (Jos.order D M b)[M - 1]? = some (lastp D M b) := by
  unfold lastp
  rw [List.getElem?_eq_getElem (by rw [Jos.order_len]; omega)]
  rfl
theorem filter_last {D M B g : Nat} (hB : B < M) (h : (Jos.order D M B)[M - 1]? = some g) : (List.range M).filter (fun b => decide (lastp D M b = g)) = [B] := by
  have e : (List.range M).filter (fun b => decide (lastp D M b = g)) = (List.range M).filter (fun b => decide (b = B)) := by
    apply List.filter_congr
    intro b hb
    have hb' := List.mem_range.mp hb
    rw [decide_eq_decide]
    constructor
    · intro e
      obtain ⟨R, h0⟩ : ∃ R, (Jos.order D M 0)[M - 1]? = some R := ⟨_, List.getElem?_eq_getElem (by rw [Jos.order_len]; omega)⟩
      exact Jos.order_last_uniq h0 hb' hB (by rw [lastp_of (by omega), e]) h
    · intro e
      subst e
      have := lastp_of (D := D) (b := b) (show 1 ≤ M by omega)
      rw [h] at this
      exact (Option.some.inj this).symm
  rw [e, filter_is, if_pos hB]
def tRowLast (K : PySem.W.Frag) : TE := (tOp (rIxL K) (tCall (sOut K) [] E0 (tCons (tCall sTurned [] E0 (tCons (tLstRg (tRg1 (tVar 2))) (tCons (tVar 7) tNil))) (tCons (tVar 3) tNil))) (tUn oNeg (tC (.int 1))))
theorem row_last {K : PySem.W.Frag} {M D b : Nat} {y0 y1 y4 y5 y6 : Option V} {H : Hp} {Q : VK} (m1 : 1 ≤ M) (m2 : M ≤ 200) (d1 : 1 ≤ D) (hb : b < M) (q : ∀ H', Ex H H' → Q (nV (lastp D M b)) H') :
    tRowLast K [y0, y1, some (.int (M : Int)), some (.int (D : Int)), y4, y5, y6, some (.int (b : Int))] H Q := by
  refine ⟨_, rfl, _, rfl, RgOk.of_le (by decide) (by omega) (by decide) (by omega), fun l nl => ?_⟩
  have e1 := Evl.Ex.new (o := .lst (rgV 0 (M : Int))) nl
  refine ⟨_, rfl, l, _, _, rfl, upd_same, ?_, ?_, fun c H6 nc e6 hc => ?_⟩
  · rw [rg_nV, List.length_map, List.length_range]; omega
  · rw [rg_nV, List.length_map, List.length_range]; omega
  rw [rg_nV, List.length_map, List.length_range, Int.emod_eq_of_lt (by omega) (by omega), Int.toNat_natCast, Jos.rot_map] at hc
  refine ⟨_, rfl, c, _, _, rfl, sq_of hc, ?_, nV_plain _, by omega, fun o H7 no e7 ho => ?_⟩
  · rw [List.length_map, Jos.rot_len, List.length_range]; omega
  have ho' : H7 o = some (.lst ((Jos.order D M b).map nV)) := by
    rw [ho, List.length_map, Jos.rot_len, List.length_range, Jos.out_map, show ((D : Int) - 1).toNat = D - 1 by omega]
    rfl
  refine ⟨_, rfl, o, _, -1, _, rfl, rfl, sq_of ho', last_at (n := M) (x := nV (lastp D M b)) (by rw [List.getElem?_map, lastp_of m1]; rfl) (by rw [List.length_map, Jos.order_len]) (by omega), q _ (e1.trans (e6.trans e7))⟩
def tLasts (K : PySem.W.Frag) : TE := (tLc (iRng1 (tCons (tVar 2) tNil)) (gName 7) tYes (tRowLast K) [7])
theorem lasts_go {K : PySem.W.Frag} {M D : Nat} {y0 y1 y4 y5 y6 y7 : Option V} {H : Hp} {Q : VK} (m1 : 1 ≤ M) (m2 : M ≤ 200) (d1 : 1 ≤ D) (q : ∀ a H', H a = none → Ex H H' → H' a = some (.lst (((List.range M).map (lastp D M)).map nV)) → Q (.ref a) H') :
    tLasts K [y0, y1, some (.int (M : Int)), some (.int (D : Int)), y4, y5, y6, y7] H Q := by
  refine ⟨_, rfl, _, rfl, by omega, by omega, fun R nR => ?_⟩
  refine lc_range (lo := 0) (n := M) (fun i H' => Ex H H' ∧ H' R = some (.lst (((List.range i).map (lastp D M)).map nV))) ⟨Evl.Ex.new nR, upd_same⟩ (fun i H' hi p => ?_) (fun H' p => q R H' nR p.1 p.2)
  obtain ⟨p1, p2⟩ := p
  refine ⟨rfl, ?_⟩
  unfold tYes
  dsimp only
  rw [if_pos rfl]
  have ei : ((0 : Int) + (i : Int)) = (i : Int) := Int.zero_add _
  rw [ei]
  refine row_last m1 m2 d1 hi fun H2 e2 => ?_
  refine ⟨_, e2 _ _ p2, ?_, Evl.Ex.mut (p1.trans e2) nR, ?_⟩
  · refine sz_lt ?_
    rw [List.length_map, List.length_map, List.length_range]; omega
  · rw [upd_same, List.range_succ, List.map_append, List.map_append]; rfl
def tWish (K : PySem.W.Frag) : TE := (tLc (iRng1 (tCons (tVar 2) tNil)) (gName 7) (tTest (tOp rEq (tOp (rIxL K) (tVar 6) (tVar 7)) (tVar 4))) (tVar 7) [7])
theorem wish_go {K : PySem.W.Frag} {M D g : Nat} {L : Addr} {y0 y1 y3 y5 y7 : Option V} {H : Hp} {Q : VK} (m1 : 1 ≤ M) (m2 : M ≤ 200) (hL : H L = some (.lst (((List.range M).map (lastp D M)).map nV))) (q : ∀ a H', H a = none → Ex H H' → H' a = some (.lst (((List.range M).filter (fun b => decide (lastp D M b = g))).map nV)) → Q (.ref a) H') :
    tWish K [y0, y1, some (.int (M : Int)), y3, some (.int (g : Int)), y5, some (.ref L), y7] H Q := by
  refine ⟨_, rfl, _, rfl, by omega, by omega, fun R nR => ?_⟩
  refine lc_range (lo := 0) (n := M) (fun i H' => Ex H H' ∧ H' R = some (.lst (((List.range i).filter (fun b => decide (lastp D M b = g))).map nV))) ⟨Evl.Ex.new nR, upd_same⟩ (fun i H' hi p => ?_) (fun H' p => q R H' nR p.1 p.2)
  obtain ⟨p1, p2⟩ := p
  refine ⟨rfl, ?_⟩
  have ei : ((0 : Int) + (i : Int)) = (i : Int) := Int.zero_add _
  rw [ei]
  have hat : atI (((List.range M).map (lastp D M)).map nV) (i : Int) = some (nV (lastp D M i)) := by
    unfold atI ixN
    rw [if_pos (by omega)]
    simp [hi]
  refine ⟨_, rfl, _, rfl, L, _, _, _, rfl, rfl, sq_of (p1 _ _ hL), hat, _, rfl, rfl, _, rfl, ?_⟩
  have ed : decide (nV (lastp D M i) = V.int (g : Int)) = decide (lastp D M i = g) := by
    rw [decide_eq_decide]
    unfold nV
    constructor
    · intro e; have := V.int.inj e; omega
    · intro e; rw [e]
  rw [ed]
  dsimp only
  split
  · rename_i c
    refine ⟨_, rfl, _, p2, ?_, Evl.Ex.mut p1 nR, ?_⟩
    · refine sz_lt ?_
      rw [List.length_map]
      exact Nat.lt_of_le_of_lt (List.length_filter_le _ _) (by rw [List.length_range]; omega)
    · have ef : [i].filter (fun b => decide (lastp D M b = g)) = [i] := by simp [of_decide_eq_true c]
      rw [upd_same, List.range_succ, List.filter_append, List.map_append, ef]; rfl
  · rename_i c
    refine ⟨p1, ?_⟩
    have ef : [i].filter (fun b => decide (lastp D M b = g)) = [] := by simp; intro z; exact c (decide_eq_true z)
    rw [p2, List.range_succ, List.filter_append, ef, List.append_nil]
def t_half2 (K : PySem.W.Frag) (CM CS CP : Addr) : TS :=
  (tSeq (tAsg (tCall sOf [] E0 (tCons (tVar 1) (tCons (tLst (tCons (tOp oPow (tC (.int 10)) (tC (.int 60))) (tCons (tOp oAdd (tC (.int 1)) (tCall sFar [] E0 (tCons (tVar 1) (tCons (tOp oPow (tC (.int 10)) (tC (.int 60))) tNil)))) (tCons (tC (.int 2)) tNil)))) tNil))) (gName 2))
  (tSeq (tAsg (tOp oAdd (tC (.int 1)) (tOp oMod (tCall sNext [] E0 (tCons (tVar 1) tNil)) (tC (.int 12)))) (gName 3))
  (tSeq (tAsg (tCall sOf [] E0 (tCons (tVar 1) (tCons (tLst (tCons (tC (.int 0)) (tCons (tOp oSub (tVar 2) (tC (.int 1))) (tCons (tCall sFar [] E0 (tCons (tVar 1) (tCons (tVar 2) tNil))) tNil)))) tNil))) (gName 4))
  (tSeq (tAsg (tCall (sBegin K CM CS CP) [] E0 (tCons (tVar 2) (tCons (tVar 3) (tCons (tVar 4) tNil)))) (gName 5))
  (tSeq (tIfS (tOr (tNot (tB (tCall sWhole [] E0 (tCons (tVar 5) tNil)))) (tOr (tNot (tTest (tChain oLe oLt (tC (.int 0)) (tVar 5) (tVar 2)))) (tTest (tOp rNe (tCall (sLast K CM CS CP) [] E0 (tCons (tVar 2) (tCons (tVar 3) (tCons (tVar 5) tNil)))) (tVar 4)))))
  (tRet (tC (.bl false)))
  tNext)
  (tRet (tOrV (tOp rEq (tVar 2) (tC (.int 1))) (tOp rNe (tCall (sLast K CM CS CP) [] E0 (tCons (tVar 2) (tCons (tVar 3) (tCons (tOp oMod (tOp oAdd (tVar 5) (tC (.int 1))) (tVar 2)) tNil)))) (tVar 4)))))))))
theorem half2_go {K : PySem.W.Frag} {CM CS CP a p : Addr} {y2 y3 y4 y5 y6 y7 : Option V} {De : Ends} {H : Hp} (st : StAt H p) (k : ∀ H', De.rt (.bl true) H') :
    t_half2 K CM CS CP De [some (.ref a), some (.ref p), y2, y3, y4, y5, y6, y7] H := by
  refine ⟨_, rfl, _, _, rfl, rfl, ⟨by decide, by decide, by decide⟩, _, rfl, _, _, rfl, rfl, ⟨by decide, by decide, by decide⟩, p, _, rfl, st, by rw [ten60]; decide, fun H1 f r1 hf => ?_⟩
  refine ⟨_, _, rfl, rfl, (by decide : 3 ≤ sizeLine), fun l nl => ?_⟩
  refine ⟨p, .ref l, rfl, r1.2.ex (Evl.Ex.new nl), .inl ⟨l, _, rfl, r1.2.ne nl, upd_same, by simp, fun H2 v r2 hv => ?_⟩⟩
  obtain ⟨M, rfl, m1, m2⟩ : ∃ M : Nat, v = .int (M : Int) ∧ 1 ≤ M ∧ (M : Int) ≤ big := by
    rw [ten60] at hf
    simp only [ten60, List.mem_cons, List.not_mem_nil, or_false] at hv
    rcases hv with rfl | rfl | rfl
    · exact ⟨big.toNat, by decide, by decide, by decide⟩
    · exact ⟨1 + f, by congr 1, by omega, by omega⟩
    · exact ⟨2, rfl, by decide, by decide⟩
  clear hv
  refine ⟨_, rfl, p, rfl, r2.2, fun H3 n3 r3 _ _ => ?_⟩
  refine ⟨_, _, rfl, rfl, pos0 (by decide), _, _, rfl, rfl, ?_⟩
  obtain ⟨D, hD, d1, d2⟩ : ∃ D : Nat, 1 + n3 % 12 = (D : Int) ∧ 1 ≤ D ∧ D ≤ 100 := by
    have b1 : 0 ≤ n3 % 12 := Int.emod_nonneg _ (by decide)
    have b2 : n3 % 12 < 12 := Int.emod_lt_of_pos _ (by decide)
    exact ⟨(1 + n3 % 12).toNat, by omega, by omega, by omega⟩
  dsimp only
  rw [hD]
  refine ⟨_, rfl, _, rfl, _, _, rfl, rfl, _, rfl, _, rfl, p, _, rfl, r3.2, by omega, fun H4 f4 r4 h4 => ?_⟩
  refine ⟨(by decide : 3 ≤ sizeLine), fun l4 nl4 => ?_⟩
  refine ⟨p, .ref l4, rfl, r4.2.ex (Evl.Ex.new nl4), .inl ⟨l4, _, rfl, r4.2.ne nl4, upd_same, by simp, fun H5 v r5 hv => ?_⟩⟩
  obtain ⟨g, rfl, hg⟩ : ∃ g : Nat, v = .int (g : Int) ∧ g < M := by
    simp only [List.mem_cons, List.not_mem_nil, or_false] at hv
    rcases hv with rfl | rfl | rfl
    · exact ⟨0, rfl, by omega⟩
    · exact ⟨M - 1, by congr 1; omega, by omega⟩
    · exact ⟨f4, rfl, by omega⟩
  clear hv
  obtain ⟨B, hB, hBl⟩ := begin_is (D := D) hg
  refine ⟨_, rfl, _, rfl, _, rfl, ?_⟩
  refine begin_right (E := E0) m2 d1 d2 hg hB hBl fun H6 e6 => ?_
  refine ⟨_, rfl, _, rfl, true, rfl, iteF ?_⟩
  have c1 : (0 : Int) ≤ (B : Int) := by omega
  refine ⟨_, rfl, _, _, rfl, rfl, _, rfl, iteC (fun _ => ?_) (fun c => absurd c (by rw [decide_eq_true c1]; simp))⟩
  refine ⟨_, rfl, _, _, rfl, rfl, _, rfl, ?_⟩
  rw [decide_eq_true (show (B : Int) < (M : Int) by omega)]
  refine iteF ?_
  refine ⟨_, rfl, _, rfl, _, rfl, ?_⟩
  refine last_right m2 d1 d2 hB hBl ?_
  refine ⟨_, rfl, rfl, _, rfl, iteC (fun e => (dec_self e).elim) (fun _ => ?_)⟩
  -- another beginning beside
  refine ⟨_, rfl, rfl, _, rfl, iteC (fun e => ?_) (fun e => ?_)⟩
  · exact k _
  · have hM1 : M ≠ 1 := fun z => by
      subst z
      rw [decide_eq_true (show V.int ((1 : Nat) : Int) = V.int 1 from rfl)] at e
      cases e
    refine ⟨_, rfl, _, rfl, _, rfl, _, _, rfl, rfl, _, rfl, _, _, rfl, rfl, pos0 (by omega), ?_⟩
    dsimp only
    rw [show ((B : Int) + 1) % (M : Int) = (((B + 1) % M : Nat) : Int) by rw [Int.natCast_emod, Int.natCast_add]; rfl]
    have hB' : (B + 1) % M < M := Nat.mod_lt _ (by omega)
    obtain ⟨U, hU⟩ : ∃ U, (Jos.order D M ((B + 1) % M))[M - 1]? = some U := ⟨_, List.getElem?_eq_getElem (by rw [Jos.order_len]; omega)⟩
    refine last_right m2 d1 d2 hB' hU ?_
    refine ⟨_, rfl, rfl, ?_⟩
    have hne : ¬ V.int (U : Int) = V.int (g : Int) := fun z => by
      have z1 := V.int.inj z
      have z2 : U = g := by omega
      subst z2
      obtain ⟨R, h0⟩ : ∃ R, (Jos.order D M 0)[M - 1]? = some R := ⟨_, List.getElem?_eq_getElem (by rw [Jos.order_len]; omega)⟩
      have := Jos.order_last_uniq h0 hB' hB hU hBl
      rcases Nat.lt_or_ge (B + 1) M with c | c
      · rw [Nat.mod_eq_of_lt c] at this; omega
      · have z3 : B + 1 = M := by omega
        rw [z3, Nat.mod_self] at this; omega
    rw [decide_eq_false hne]
    exact k _
def t_law (K : PySem.W.Frag) (CM CS CP : Addr) : TS :=
(tSeq (tAsg (tCall (sState K) [] E0 (tCons (tVar 0) (tCons (tC (.int 0)) tNil))) (gName 1))
  (tSeq (tAsg (tCall sOf [] E0 (tCons (tVar 1) (tCons (tLst (tCons (tC (.int 1)) (tCons (tC (.int 2)) (tCons (tOp oAdd (tC (.int 1)) (tOp oMod (tCall sNext [] E0 (tCons (tVar 1) tNil)) (tC (.int 30)))) tNil)))) tNil))) (gName 2))
  (tSeq (tAsg (tCall sStep [] E0 (tCons (tVar 1) (tCons (tC (.int 100)) tNil))) (gName 3))
  (tSeq (tAsg (tOp oMod (tCall sNext [] E0 (tCons (tVar 1) tNil)) (tVar 2)) (gName 4))
  (tSeq (tAsg (tCall (sBegin K CM CS CP) [] E0 (tCons (tVar 2) (tCons (tVar 3) (tCons (tVar 4) tNil)))) (gName 5))
  (tSeq (tAsg (tLasts K) (gName 6))
  (tSeq (tIfS (tOr (tNot (tB (tCall sWhole [] E0 (tCons (tVar 5) tNil)))) (tTest (tOp (rEqF K true) (tWish K) (tLst (tCons (tVar 5) tNil)))))
  (tRet (tC (.bl false)))
  tNext)
  (t_half2 K CM CS CP))))))))
def sLaw (K : PySem.W.Frag) : Sp := fun vs H Q _ => ∃ (a : Addr) (ns : List Int), vs = [.ref a] ∧ SqL K H a (ns.map V.int) ∧ ∀ H', Q (.bl true) H'
theorem pure_law {K : PySem.W.Frag} {CM CS CP : Addr} {vs : List V} {H : Hp} {Q : VK} {E : XK} {nx : L2.St → Hp → Prop} (h : sLaw K vs H Q E) : t_law K CM CS CP { nx := nx, rt := Q } (start ["_law_script", "_law_state_here", "_law_many", "_law_step_here", "_law_place", "_law_found", "_law_lasts", "_law_begin"] vs) H := by
  unfold t_law
  generalize hT0 : tLasts K = tq0
  generalize hT1 : tWish K = tq1
  obtain ⟨a, ns, rfl, hS, q⟩ := h
  refine ⟨_, rfl, a, ns, 0, rfl, hS, fun p H1 np e1 st1 => ?_⟩
  refine ⟨_, rfl, _, rfl, p, rfl, st1, fun H2 n2 r2 _ _ => ?_⟩
  refine ⟨_, _, rfl, rfl, pos0 (by decide), _, _, rfl, rfl, (by decide : 3 ≤ sizeLine), fun l nl => ?_⟩
  refine ⟨p, .ref l, rfl, r2.2.ex (Evl.Ex.new nl), .inl ⟨l, _, rfl, r2.2.ne nl, upd_same, by simp, fun H3 v r3 hv => ?_⟩⟩
  obtain ⟨M, rfl, m1, m2⟩ : ∃ M : Nat, v = .int (M : Int) ∧ 1 ≤ M ∧ M ≤ 30 := by
    have b1 : 0 ≤ n2 % 30 := Int.emod_nonneg _ (by decide)
    have b2 : n2 % 30 < 30 := Int.emod_lt_of_pos _ (by decide)
    simp only [List.mem_cons, List.not_mem_nil, or_false] at hv
    rcases hv with rfl | rfl | rfl
    · exact ⟨1, rfl, by omega, by omega⟩
    · exact ⟨2, rfl, by omega, by omega⟩
    · exact ⟨(1 + n2 % 30).toNat, by rw [Int.toNat_of_nonneg (by omega)], by omega, by omega⟩
  clear hv
  have m3 : (M : Int) ≤ big := by unfold big; omega
  refine ⟨_, rfl, p, 100, rfl, r3.2, by decide, fun H4 d r4 d1 d2 => ?_⟩
  obtain ⟨D, rfl⟩ : ∃ D : Nat, d = (D : Int) := ⟨d.toNat, by omega⟩
  refine ⟨_, rfl, p, rfl, r4.2, fun H5 n5 r5 _ _ => ?_⟩
  refine ⟨_, rfl, _, _, rfl, rfl, pos0 (by omega), ?_⟩
  obtain ⟨g, hg, gM⟩ : ∃ g : Nat, n5 % (M : Int) = (g : Int) ∧ g < M := by
    have b1 : 0 ≤ n5 % (M : Int) := Int.emod_nonneg _ (by omega)
    have b2 : n5 % (M : Int) < M := Int.emod_lt_of_pos _ (by omega)
    exact ⟨(n5 % (M : Int)).toNat, by omega, by omega⟩
  dsimp only
  rw [hg]
  obtain ⟨B, hB, hBl⟩ := begin_is (D := D) gM
  refine ⟨_, rfl, _, rfl, _, rfl, ?_⟩
  refine begin_right (E := E0) m3 (by omega) (by omega) gM hB hBl fun H6 e6 => ?_
  show tq0 [some (.ref a), some (.ref p), some (.int (M : Int)), some (.int (D : Int)), some (.int (g : Int)), some (.int (B : Int)), none, none] H6 _
  refine Eq.mp (congrFun (congrFun (congrFun hT0 _) _) _) ?_
  refine lasts_go m1 (by omega) (by omega) fun L H7 nL e7 hL => ?_
  refine ⟨_, rfl, _, rfl, true, rfl, iteF ?_⟩
  show tq1 [some (.ref a), some (.ref p), some (.int (M : Int)), some (.int (D : Int)), some (.int (g : Int)), some (.int (B : Int)), some (.ref L), none] H7 _
  refine Eq.mp (congrFun (congrFun (congrFun hT1 _) _) _) ?_
  refine wish_go m1 (by omega) hL fun W H8 nW e8 hW => ?_
  rw [filter_last hB hBl] at hW
  refine ⟨_, rfl, (by decide : 1 ≤ sizeLine), fun X nX => ?_⟩
  have e9 := Evl.Ex.new (o := .lst [.int (B : Int)]) nX
  refine ⟨W, X, _, _, rfl, rfl, sq_of (e9 _ _ hW), sq_of upd_same, rfl, rfl, _, rfl, iteC (fun c => ?_) (fun _ => ?_)⟩
  · exfalso
    have c' : (!decide ([V.int (B : Int)] = [V.int (B : Int)])) = true := c
    rw [decide_eq_true rfl] at c'
    cases c'
  exact half2_go (r5.2.ex (e6.trans (e7.trans (e8.trans e9)))) q
end K06
end Cd

set_option Elab.async false
set_option linter.all false
set_option maxRecDepth 100000
set_option maxHeartbeats 4000000
namespace R06
open PySem PySem.Spec PyProof.Rows L2 Cd
open Cd.K06
def topS (i : Nat) : Stmt := PySem.Challenge.pw_countout_k06_beginnings_wished.main.body.getD i (.Pass ⟨0, 0, 0, 0⟩)
abbrev s_is_whole : Stmt := topS 7
theorem sc_is_whole : FnScope ["thing", "low", "high"] ["thing", "low", "high"] (defScope s_is_whole) := ⟨rfl, rfl, rfl, by decide +kernel, rfl, by decide +kernel, by decide +kernel⟩
abbrev s_check_many : Stmt := topS 8
theorem sc_check_many : FnScope ["many", "most"] ["many", "most"] (defScope s_check_many) := ⟨rfl, rfl, rfl, by decide +kernel, rfl, by decide +kernel, by decide +kernel⟩
abbrev s_check_step : Stmt := topS 9
theorem sc_check_step : FnScope ["step", "most"] ["step", "most"] (defScope s_check_step) := ⟨rfl, rfl, rfl, by decide +kernel, rfl, by decide +kernel, by decide +kernel⟩
abbrev s_check_place : Stmt := topS 10
theorem sc_check_place : FnScope ["place", "many"] ["place", "many"] (defScope s_check_place) := ⟨rfl, rfl, rfl, by decide +kernel, rfl, by decide +kernel, by decide +kernel⟩
abbrev s_last_of : Stmt := topS 13
theorem sc_last_of : FnScope ["many", "step", "begin"] ["many", "step", "begin"] (defScope s_last_of) := ⟨rfl, rfl, rfl, by decide +kernel, rfl, by decide +kernel, by decide +kernel⟩
abbrev s__check_ring : Stmt := topS 14
theorem sc__check_ring : FnScope ["many", "step", "begin"] ["many", "step", "begin"] (defScope s__check_ring) := ⟨rfl, rfl, rfl, by decide +kernel, rfl, by decide +kernel, by decide +kernel⟩
abbrev s__place_at : Stmt := topS 15
theorem sc__place_at : FnScope ["many", "step", "begin", "count", "number", "over"] ["many", "step", "begin", "count"] (defScope s__place_at) := ⟨rfl, rfl, rfl, by decide +kernel, rfl, by decide +kernel, by decide +kernel⟩
abbrev s_begin_for : Stmt := topS 17
theorem sc_begin_for : FnScope ["many", "step", "place", "last"] ["many", "step", "place"] (defScope s_begin_for) := ⟨rfl, rfl, rfl, by decide +kernel, rfl, by decide +kernel, by decide +kernel⟩
abbrev s__law_cell_at : Stmt := topS 19
theorem sc__law_cell_at : FnScope ["_law_script", "_law_k"] ["_law_script", "_law_k"] (defScope s__law_cell_at) := ⟨rfl, rfl, rfl, by decide +kernel, rfl, by decide +kernel, by decide +kernel⟩
abbrev s__law_next : Stmt := topS 20
theorem sc__law_next : FnScope ["_law_state_here"] ["_law_state_here"] (defScope s__law_next) := ⟨rfl, rfl, rfl, by decide +kernel, rfl, by decide +kernel, by decide +kernel⟩
abbrev s__law_state : Stmt := topS 21
theorem sc__law_state : FnScope ["_law_script", "_law_first"] ["_law_script", "_law_first"] (defScope s__law_state) := ⟨rfl, rfl, rfl, by decide +kernel, rfl, by decide +kernel, by decide +kernel⟩
abbrev s__law_of : Stmt := topS 22
theorem sc__law_of : FnScope ["_law_state_here", "_law_some"] ["_law_state_here", "_law_some"] (defScope s__law_of) := ⟨rfl, rfl, rfl, by decide +kernel, rfl, by decide +kernel, by decide +kernel⟩
abbrev s__law_far : Stmt := topS 23
theorem sc__law_far : FnScope ["_law_state_here", "_law_many", "_law_found", "_law_k"] ["_law_state_here", "_law_many"] (defScope s__law_far) := ⟨rfl, rfl, rfl, by decide +kernel, rfl, by decide +kernel, by decide +kernel⟩
abbrev s__law_turned : Stmt := topS 24
theorem sc__law_turned : FnScope ["_law_row", "_law_many"] ["_law_row", "_law_many"] (defScope s__law_turned) := ⟨rfl, rfl, rfl, by decide +kernel, rfl, by decide +kernel, by decide +kernel⟩
abbrev s__law_out : Stmt := topS 25
theorem sc__law_out : FnScope ["_law_row", "_law_step_here", "_law_found", "_law_left", "_law_told"] ["_law_row", "_law_step_here"] (defScope s__law_out) := ⟨rfl, rfl, rfl, by decide +kernel, rfl, by decide +kernel, by decide +kernel⟩
abbrev s__law_step : Stmt := topS 26
theorem sc__law_step : FnScope ["_law_state_here", "_law_most"] ["_law_state_here", "_law_most"] (defScope s__law_step) := ⟨rfl, rfl, rfl, by decide +kernel, rfl, by decide +kernel, by decide +kernel⟩
abbrev s__law_whole : Stmt := topS 27
theorem sc__law_whole : FnScope ["_law_found"] ["_law_found"] (defScope s__law_whole) := ⟨rfl, rfl, rfl, by decide +kernel, rfl, by decide +kernel, by decide +kernel⟩
abbrev s_law : Stmt := topS 28
theorem sc_law : FnScope ["_law_script", "_law_state_here", "_law_many", "_law_step_here", "_law_place", "_law_found", "_law_lasts", "_law_begin"] ["_law_script"] (defScope s_law) := ⟨rfl, rfl, rfl, by decide +kernel, rfl, by decide +kernel, by decide +kernel⟩
structure Ad where
  f_is_whole : Addr
  f_check_many : Addr
  f_check_step : Addr
  f_check_place : Addr
  f_last_of : Addr
  f__check_ring : Addr
  f__place_at : Addr
  f_begin_for : Addr
  f__law_cell_at : Addr
  f__law_next : Addr
  f__law_state : Addr
  f__law_of : Addr
  f__law_far : Addr
  f__law_turned : Addr
  f__law_out : Addr
  f__law_step : Addr
  f__law_whole : Addr
  f_law : Addr
  c_NoMany : Addr
  c_NoPlace : Addr
  c_NoStep : Addr
structure Fd where
  d_is_whole : FuncData
  d_check_many : FuncData
  d_check_step : FuncData
  d_check_place : FuncData
  d_last_of : FuncData
  d__check_ring : FuncData
  d__place_at : FuncData
  d_begin_for : FuncData
  d__law_cell_at : FuncData
  d__law_next : FuncData
  d__law_state : FuncData
  d__law_of : FuncData
  d__law_far : FuncData
  d__law_turned : FuncData
  d__law_out : FuncData
  d__law_step : FuncData
  d__law_whole : FuncData
  d_law : FuncData
structure Txt (K : PySem.W.Frag) (mg : Str → Option Value) (A : Ad) : Prop where
  b_bool : mg "bool" = none
  b_int : mg "int" = none
  b_isinstance : mg "isinstance" = none
  b_len : mg "len" = none
  b_list : mg "list" = none
  b_range : mg "range" = none
  c_GREATEST : ∃ t, mg "GREATEST" = some (.int (1000000000000000000000000000000000000000000000000000000000000) t)
  c_MOST_STEP : ∃ t, mg "MOST_STEP" = some (.int (100) t)
  g_is_whole : mg "is_whole" = some (.ref A.f_is_whole)
  k_is_whole : PySem.W.keepIn K (.ref A.f_is_whole) = true
  g_check_many : mg "check_many" = some (.ref A.f_check_many)
  k_check_many : PySem.W.keepIn K (.ref A.f_check_many) = true
  g_check_step : mg "check_step" = some (.ref A.f_check_step)
  k_check_step : PySem.W.keepIn K (.ref A.f_check_step) = true
  g_check_place : mg "check_place" = some (.ref A.f_check_place)
  k_check_place : PySem.W.keepIn K (.ref A.f_check_place) = true
  g_last_of : mg "last_of" = some (.ref A.f_last_of)
  k_last_of : PySem.W.keepIn K (.ref A.f_last_of) = true
  g__check_ring : mg "_check_ring" = some (.ref A.f__check_ring)
  k__check_ring : PySem.W.keepIn K (.ref A.f__check_ring) = true
  g__place_at : mg "_place_at" = some (.ref A.f__place_at)
  k__place_at : PySem.W.keepIn K (.ref A.f__place_at) = true
  g_begin_for : mg "begin_for" = some (.ref A.f_begin_for)
  k_begin_for : PySem.W.keepIn K (.ref A.f_begin_for) = true
  g__law_cell_at : mg "_law_cell_at" = some (.ref A.f__law_cell_at)
  k__law_cell_at : PySem.W.keepIn K (.ref A.f__law_cell_at) = true
  g__law_next : mg "_law_next" = some (.ref A.f__law_next)
  k__law_next : PySem.W.keepIn K (.ref A.f__law_next) = true
  g__law_state : mg "_law_state" = some (.ref A.f__law_state)
  k__law_state : PySem.W.keepIn K (.ref A.f__law_state) = true
  g__law_of : mg "_law_of" = some (.ref A.f__law_of)
  k__law_of : PySem.W.keepIn K (.ref A.f__law_of) = true
  g__law_far : mg "_law_far" = some (.ref A.f__law_far)
  k__law_far : PySem.W.keepIn K (.ref A.f__law_far) = true
  g__law_turned : mg "_law_turned" = some (.ref A.f__law_turned)
  k__law_turned : PySem.W.keepIn K (.ref A.f__law_turned) = true
  g__law_out : mg "_law_out" = some (.ref A.f__law_out)
  k__law_out : PySem.W.keepIn K (.ref A.f__law_out) = true
  g__law_step : mg "_law_step" = some (.ref A.f__law_step)
  k__law_step : PySem.W.keepIn K (.ref A.f__law_step) = true
  g__law_whole : mg "_law_whole" = some (.ref A.f__law_whole)
  k__law_whole : PySem.W.keepIn K (.ref A.f__law_whole) = true
  g_law : mg "law" = some (.ref A.f_law)
  k_law : PySem.W.keepIn K (.ref A.f_law) = true
  g_NoMany : mg "NoMany" = some (.ref A.c_NoMany)
  k_NoMany : PySem.W.keepIn K (.ref A.c_NoMany) = true
  x_NoMany : PySem.W.excIn K A.c_NoMany [.type "ValueError", .type "Exception", .type "BaseException", .type "object"] "ValueError.__new__" = true
  bb_NoMany : PySem.W.subIn K (.ref A.c_NoMany) (.type "BaseException") = some true
  t_NoMany : PySem.W.typeIn K (.ref A.c_NoMany) = some (.type "type")
  g_NoPlace : mg "NoPlace" = some (.ref A.c_NoPlace)
  k_NoPlace : PySem.W.keepIn K (.ref A.c_NoPlace) = true
  x_NoPlace : PySem.W.excIn K A.c_NoPlace [.type "ValueError", .type "Exception", .type "BaseException", .type "object"] "ValueError.__new__" = true
  bb_NoPlace : PySem.W.subIn K (.ref A.c_NoPlace) (.type "BaseException") = some true
  t_NoPlace : PySem.W.typeIn K (.ref A.c_NoPlace) = some (.type "type")
  g_NoStep : mg "NoStep" = some (.ref A.c_NoStep)
  k_NoStep : PySem.W.keepIn K (.ref A.c_NoStep) = true
  x_NoStep : PySem.W.excIn K A.c_NoStep [.type "ValueError", .type "Exception", .type "BaseException", .type "object"] "ValueError.__new__" = true
  bb_NoStep : PySem.W.subIn K (.ref A.c_NoStep) (.type "BaseException") = some true
  t_NoStep : PySem.W.typeIn K (.ref A.c_NoStep) = some (.type "type")
structure Funs (K : PySem.W.Frag) (A : Ad) (D : Fd) : Prop where
  f_is_whole : Fun K "is_whole" "is_whole" s_is_whole A.f_is_whole D.d_is_whole
  f_check_many : Fun K "check_many" "check_many" s_check_many A.f_check_many D.d_check_many
  f_check_step : Fun K "check_step" "check_step" s_check_step A.f_check_step D.d_check_step
  f_check_place : Fun K "check_place" "check_place" s_check_place A.f_check_place D.d_check_place
  f_last_of : FunD K "last_of" "last_of" (defArgs s_last_of) (defBody s_last_of) (defScope s_last_of) [.int 0] [] A.f_last_of D.d_last_of
  f__check_ring : Fun K "_check_ring" "_check_ring" s__check_ring A.f__check_ring D.d__check_ring
  f__place_at : Fun K "_place_at" "_place_at" s__place_at A.f__place_at D.d__place_at
  f_begin_for : Fun K "begin_for" "begin_for" s_begin_for A.f_begin_for D.d_begin_for
  f__law_cell_at : Fun K "_law_cell_at" "_law_cell_at" s__law_cell_at A.f__law_cell_at D.d__law_cell_at
  f__law_next : Fun K "_law_next" "_law_next" s__law_next A.f__law_next D.d__law_next
  f__law_state : Fun K "_law_state" "_law_state" s__law_state A.f__law_state D.d__law_state
  f__law_of : Fun K "_law_of" "_law_of" s__law_of A.f__law_of D.d__law_of
  f__law_far : Fun K "_law_far" "_law_far" s__law_far A.f__law_far D.d__law_far
  f__law_turned : Fun K "_law_turned" "_law_turned" s__law_turned A.f__law_turned D.d__law_turned
  f__law_out : Fun K "_law_out" "_law_out" s__law_out A.f__law_out D.d__law_out
  f__law_step : Fun K "_law_step" "_law_step" s__law_step A.f__law_step D.d__law_step
  f__law_whole : Fun K "_law_whole" "_law_whole" s__law_whole A.f__law_whole D.d__law_whole
  f_law : Fun K "law" "law" s_law A.f_law D.d_law
section
variable {P : Program} {w : World} {K : PySem.W.Frag} {mg : Str → Option Value} {base : Heap} {A : Ad} {D : Fd}
theorem ok_is_whole (F : Funs K A D) (T : Txt K mg A) : FnOk P w K mg base CX0 1 A.f_is_whole D.d_is_whole ["thing", "low", "high"] (sIsW K) := by
  refine F.f_is_whole.ok sc_is_whole (fun vs H Q E h => ?_) (fun cdv Ar outer s H vs Q E hr h => ⟨t_is_whole K, ?_, pure_is_whole h⟩)
  · obtain ⟨_, _, _, rfl, _⟩ := h; rfl
  · have S := sc_is_whole
    exact (pss_one (ps_ret (pe_and (pe_callB call_isi (by rfl) T.b_isinstance (by decide +kernel) (pa_cons (pv 0) (pa_cons (pe_bltn (v := .ty "int") (by rfl) T.b_int (by decide +kernel) rfl) pa_nil))) (pe_and (pe_not (pe_callB call_isi (by rfl) T.b_isinstance (by decide +kernel) (pa_cons (pv 0) (pa_cons (pe_bltn (v := .ty "bool") (by rfl) T.b_bool (by decide +kernel) rfl) pa_nil)))) (pe_one (pe_chain op_le op_le (pv 1) (pv 0) (pv 2)))))))
theorem ok_check_many (F : Funs K A D) (T : Txt K mg A) : FnOk P w K mg base (L2.CX P w) 2 A.f_check_many D.d_check_many ["many", "most"] (sCk1 K A.c_NoMany) := by
  have G_is_whole := ok_is_whole (P := P) (w := w) (mg := mg) (base := base) F T
  have V_is_whole_3 : Vals [] [] := .nil
  have B_is_whole_3 := F.f_is_whole.binds (ps := ["thing", "low", "high"]) fun _ _ _ _ _ _ us hl => match us, hl with | [_, _, _], _ => rfl
  refine F.f_check_many.okX sc_check_many (fun vs H Q E h => ?_) (fun cdv Ar outer s H vs Q E hr h => ⟨t_check_many K A.c_NoMany E, ?_, pure_ck1 rfl h⟩)
  · obtain ⟨_, _, rfl, _⟩ := h; rfl
  · have S := sc_check_many
    exact (pss_one (ps_if (pt_not (pt_val (pe_call G_is_whole (hr.mono (by decide)) (by rfl) T.g_is_whole T.k_is_whole B_is_whole_3 V_is_whole_3 pass0 (pa_cons (pv 0) (pa_cons pe_int (pa_cons (pv 1) pa_nil))))))
      (pss_one (ps_raise rfl (takes_of rfl rfl rfl rfl) (pmk_own PySem.F.excBase_ValueError T.x_NoMany T.g_NoMany T.k_NoMany (raises_own T.bb_NoMany T.t_NoMany) (by exact rfl))))
      pss_nil))
theorem ok_check_step (F : Funs K A D) (T : Txt K mg A) : FnOk P w K mg base (L2.CX P w) 2 A.f_check_step D.d_check_step ["step", "most"] (sCk1 K A.c_NoStep) := by
  have G_is_whole := ok_is_whole (P := P) (w := w) (mg := mg) (base := base) F T
  have V_is_whole_3 : Vals [] [] := .nil
  have B_is_whole_3 := F.f_is_whole.binds (ps := ["thing", "low", "high"]) fun _ _ _ _ _ _ us hl => match us, hl with | [_, _, _], _ => rfl
  refine F.f_check_step.okX sc_check_step (fun vs H Q E h => ?_) (fun cdv Ar outer s H vs Q E hr h => ⟨t_check_many K A.c_NoStep E, ?_, pure_ck1 rfl h⟩)
  · obtain ⟨_, _, rfl, _⟩ := h; rfl
  · have S := sc_check_step
    exact (pss_one (ps_if (pt_not (pt_val (pe_call G_is_whole (hr.mono (by decide)) (by rfl) T.g_is_whole T.k_is_whole B_is_whole_3 V_is_whole_3 pass0 (pa_cons (pv 0) (pa_cons pe_int (pa_cons (pv 1) pa_nil))))))
      (pss_one (ps_raise rfl (takes_of rfl rfl rfl rfl) (pmk_own PySem.F.excBase_ValueError T.x_NoStep T.g_NoStep T.k_NoStep (raises_own T.bb_NoStep T.t_NoStep) (by exact rfl))))
      pss_nil))
theorem ok_check_place (F : Funs K A D) (T : Txt K mg A) : FnOk P w K mg base (L2.CX P w) 2 A.f_check_place D.d_check_place ["place", "many"] (sCkP K A.c_NoPlace) := by
  have G_is_whole := ok_is_whole (P := P) (w := w) (mg := mg) (base := base) F T
  have V_is_whole_3 : Vals [] [] := .nil
  have B_is_whole_3 := F.f_is_whole.binds (ps := ["thing", "low", "high"]) fun _ _ _ _ _ _ us hl => match us, hl with | [_, _, _], _ => rfl
  refine F.f_check_place.okX sc_check_place (fun vs H Q E h => ?_) (fun cdv Ar outer s H vs Q E hr h => ⟨t_check_place K A.c_NoPlace E, ?_, pure_check_place h⟩)
  · obtain ⟨_, _, rfl, _⟩ := h; rfl
  · have S := sc_check_place
    exact (pss_one (ps_if (pt_not (pt_val (pe_call G_is_whole (hr.mono (by decide)) (by rfl) T.g_is_whole T.k_is_whole B_is_whole_3 V_is_whole_3 pass0 (pa_cons (pv 0) (pa_cons pe_int (pa_cons (pe_op op_sub (pv 1) pe_int) pa_nil))))))
      (pss_one (ps_raise rfl (takes_of rfl rfl rfl rfl) (pmk_own PySem.F.excBase_ValueError T.x_NoPlace T.g_NoPlace T.k_NoPlace (raises_own T.bb_NoPlace T.t_NoPlace) (by exact rfl))))
      pss_nil))
theorem ok__check_ring (F : Funs K A D) (T : Txt K mg A) : FnOk P w K mg base (L2.CX P w) 3 A.f__check_ring D.d__check_ring ["many", "step", "begin"] (sRing K A.c_NoMany A.c_NoStep A.c_NoPlace) := by
  have G_check_many := ok_check_many (P := P) (w := w) (mg := mg) (base := base) F T
  have G_check_step := ok_check_step (P := P) (w := w) (mg := mg) (base := base) F T
  have G_check_place := ok_check_place (P := P) (w := w) (mg := mg) (base := base) F T
  have V_check_many_2 : Vals [] [] := .nil
  have B_check_many_2 := F.f_check_many.binds (ps := ["many", "most"]) fun _ _ _ _ _ _ us hl => match us, hl with | [_, _], _ => rfl
  have V_check_place_2 : Vals [] [] := .nil
  have B_check_place_2 := F.f_check_place.binds (ps := ["place", "many"]) fun _ _ _ _ _ _ us hl => match us, hl with | [_, _], _ => rfl
  have V_check_step_2 : Vals [] [] := .nil
  have B_check_step_2 := F.f_check_step.binds (ps := ["step", "most"]) fun _ _ _ _ _ _ us hl => match us, hl with | [_, _], _ => rfl
  refine F.f__check_ring.okX sc__check_ring (fun vs H Q E h => ?_) (fun cdv Ar outer s H vs Q E hr h => ⟨t_check_ring K A.c_NoMany A.c_NoStep A.c_NoPlace E, ?_, pure_check_ring h⟩)
  · unfold sRing at h; obtain ⟨m, d, b, rfl, _⟩ := h; rfl
  · have S := sc__check_ring
    exact (pss_cons (ps_expr (pe_call G_check_many (hr.mono (by decide)) (by rfl) T.g_check_many T.k_check_many B_check_many_2 V_check_many_2 (passes_call (takes_of rfl rfl rfl rfl) (fun _ _ _ _ h => h)) (pa_cons (pv 0) (pa_cons (pe_glob rfl T.c_GREATEST.choose_spec ⟨_, rfl⟩) pa_nil))))
      (pss_cons (ps_expr (pe_call G_check_step (hr.mono (by decide)) (by rfl) T.g_check_step T.k_check_step B_check_step_2 V_check_step_2 (passes_call (takes_of rfl rfl rfl rfl) (fun _ _ _ _ h => h)) (pa_cons (pv 1) (pa_cons (pe_glob rfl T.c_MOST_STEP.choose_spec ⟨_, rfl⟩) pa_nil))))
      (pss_one (ps_expr (pe_call G_check_place (hr.mono (by decide)) (by rfl) T.g_check_place T.k_check_place B_check_place_2 V_check_place_2 (passes_call (takes_of rfl rfl rfl rfl) (fun _ _ _ _ h => h)) (pa_cons (pv 2) (pa_cons (pv 0) pa_nil)))))))
theorem ok__place_at (F : Funs K A D) (T : Txt K mg A) : FnOk P w K mg base CX0 1 A.f__place_at D.d__place_at ["many", "step", "begin", "count"] sPlace := by
  refine F.f__place_at.ok sc__place_at (fun vs H Q E h => ?_) (fun cdv Ar outer s H vs Q E hr h => ⟨t_place_at, ?_, pure_place_at h⟩)
  · obtain ⟨_, _, _, _, rfl, _⟩ := h; rfl
  · have S := sc__place_at
    exact (pss_cons (ps_set (i := 4) S.nd rfl (Or.inl rfl) (pe_op op_mul (pv 3) (pv 1)))
      (pss_cons (ps_while PassesOwn.never (pt_cmpR op_gt (pv 4) (pv 0) (nomark _))
      (pss_cons (ps_set (i := 5) S.nd rfl (Or.inl rfl) (pe_op op_sub (pv 4) (pv 0)))
      (pss_one (ps_set (i := 4) S.nd rfl (Or.inl rfl) (pe_op op_add (pv 5) (pe_op op_fdiv (pe_op op_sub (pv 5) pe_int) (pe_op op_sub (pv 1) pe_int)))))))
      (pss_one (ps_ret (pe_op op_mod (pe_op op_sub (pe_op op_add (pv 2) (pv 4)) pe_int) (pv 0))))))
theorem ok_last_of (F : Funs K A D) (T : Txt K mg A) : FnOk P w K mg base (L2.CX P w) 4 A.f_last_of D.d_last_of ["many", "step", "begin"] (sLast K A.c_NoMany A.c_NoStep A.c_NoPlace) := by
  have G__check_ring := ok__check_ring (P := P) (w := w) (mg := mg) (base := base) F T
  have G__place_at := ok__place_at (P := P) (w := w) (mg := mg) (base := base) F T
  have V__check_ring_3 : Vals [] [] := .nil
  have B__check_ring_3 := F.f__check_ring.binds (ps := ["many", "step", "begin"]) fun _ _ _ _ _ _ us hl => match us, hl with | [_, _, _], _ => rfl
  have V__place_at_4 : Vals [] [] := .nil
  have B__place_at_4 := F.f__place_at.binds (ps := ["many", "step", "begin", "count"]) fun _ _ _ _ _ _ us hl => match us, hl with | [_, _, _, _], _ => rfl
  refine F.f_last_of.ok (CX := L2.CX P w) sc_last_of (fun vs H Q E h => ?_) (fun cdv Ar outer s H vs Q E hr h => ⟨t_last_of K A.c_NoMany A.c_NoStep A.c_NoPlace E, ?_, pure_last_of h⟩)
  · unfold sLast at h; obtain ⟨_, _, _, rfl, _⟩ := h; rfl
  · have S := sc_last_of
    exact (pss_cons (ps_expr (pe_call G__check_ring (hr.mono (by decide)) (by rfl) T.g__check_ring T.k__check_ring B__check_ring_3 V__check_ring_3 (passes_call (takes_of rfl rfl rfl rfl) (fun _ _ _ _ h => h)) (pa_cons (pv 0) (pa_cons (pv 1) (pa_cons (pv 2) pa_nil)))))
      (pss_one (ps_ret (pe_call G__place_at (hr.mono (by decide)) (by rfl) T.g__place_at T.k__place_at B__place_at_4 V__place_at_4 pass0 (pa_cons (pv 0) (pa_cons (pv 1) (pa_cons (pv 2) (pa_cons (pv 0) pa_nil))))))))
theorem ok_begin_for (F : Funs K A D) (T : Txt K mg A) : FnOk P w K mg base (L2.CX P w) 5 A.f_begin_for D.d_begin_for ["many", "step", "place"] (sBegin K A.c_NoMany A.c_NoStep A.c_NoPlace) := by
  have G_last_of := ok_last_of (P := P) (w := w) (mg := mg) (base := base) F T
  have G_check_place := ok_check_place (P := P) (w := w) (mg := mg) (base := base) F T
  have V_check_place_2 : Vals [] [] := .nil
  have B_check_place_2 := F.f_check_place.binds (ps := ["place", "many"]) fun _ _ _ _ _ _ us hl => match us, hl with | [_, _], _ => rfl
  obtain ⟨ds_last_of_2, V_last_of_2, B_last_of_2⟩ := F.f_last_of.binds1 (ps := ["many", "step", "begin"]) 2 0 (by simp) rfl (fun _ _ _ _ _ _ _ us its hu hi => match us, its, hu, hi with | [_, _], [_], _, _ => ⟨_, rfl, rfl⟩)
  refine F.f_begin_for.okX sc_begin_for (fun vs H Q E h => ?_) (fun cdv Ar outer s H vs Q E hr h => ⟨t_begin_for K A.c_NoMany A.c_NoStep A.c_NoPlace E, ?_, pure_begin_for h⟩)
  · unfold sBegin at h; obtain ⟨_, _, _, rfl, _⟩ := h; rfl
  · have S := sc_begin_for
    exact (pss_cons (ps_set (i := 3) S.nd rfl (Or.inl rfl) (pe_call G_last_of (hr.mono (by decide)) (by rfl) T.g_last_of T.k_last_of B_last_of_2 V_last_of_2 (passes_call (takes_of rfl rfl rfl rfl) (fun _ _ _ _ h => h)) (pa_cons (pv 0) (pa_cons (pv 1) pa_nil))))
      (pss_cons (ps_expr (pe_call G_check_place (hr.mono (by decide)) (by rfl) T.g_check_place T.k_check_place B_check_place_2 V_check_place_2 (passes_call (takes_of rfl rfl rfl rfl) (fun _ _ _ _ h => h)) (pa_cons (pv 2) (pa_cons (pv 0) pa_nil))))
      (pss_one (ps_ret (pe_op op_mod (pe_op op_sub (pv 2) (pv 3)) (pv 0))))))
theorem ok__law_cell_at (F : Funs K A D) (T : Txt K mg A) : FnOk P w K mg base CX0 1 A.f__law_cell_at D.d__law_cell_at ["_law_script", "_law_k"] (sCell K) := by
  refine F.f__law_cell_at.ok sc__law_cell_at (fun vs H Q E h => ?_) (fun cdv Ar outer s H vs Q E hr h => ⟨t_cell K, ?_, pure_cell h⟩)
  · obtain ⟨_, _, _, rfl, _⟩ := h; rfl
  · have S := sc__law_cell_at
    exact (pss_cons (ps_if (pt_cmpR op_lt (pv 1) (pe_callB call_len_seq (by rfl) T.b_len PySem.boot_len (pa_cons (pv 0) pa_nil)) (nomark _))
      (pss_one (ps_ret (pe_ix ix_list (pv 0) (pv 1) (fun _ _ => rfl))))
      pss_nil)
      (pss_one (ps_ret pe_int)))
theorem ok__law_next (F : Funs K A D) (T : Txt K mg A) : FnOk P w K mg base CX0 1 A.f__law_next D.d__law_next ["_law_state_here"] sNext := by
  refine F.f__law_next.ok sc__law_next (fun vs H Q E h => ?_) (fun cdv Ar outer s H vs Q E hr h => ⟨t_next K, ?_, pure_next h⟩)
  · obtain ⟨_, rfl, _⟩ := h; rfl
  · have S := sc__law_next
    exact (pss_cons (ps_asg (pe_op op_mod (pe_op op_add (pe_op op_mul (pe_ix ix_list (pv 0) pe_int (fun _ _ => rfl)) pe_int) pe_int) pe_int) (pg_sub (pv 0) pe_int set_list))
      (pss_one (ps_ret (pe_op op_fdiv (pe_op op_mod (pe_op op_mul (pe_ix ix_list (pv 0) pe_int (fun _ _ => rfl)) (pe_ix ix_list (pv 0) pe_int (fun _ _ => rfl))) pe_int) pe_int))))
theorem ok__law_state (F : Funs K A D) (T : Txt K mg A) : FnOk P w K mg base CX0 2 A.f__law_state D.d__law_state ["_law_script", "_law_first"] (sState K) := by
  have G__law_cell_at := ok__law_cell_at (P := P) (w := w) (mg := mg) (base := base) F T
  have V__law_cell_at_2 : Vals [] [] := .nil
  have B__law_cell_at_2 := F.f__law_cell_at.binds (ps := ["_law_script", "_law_k"]) fun _ _ _ _ _ _ us hl => match us, hl with | [_, _], _ => rfl
  refine F.f__law_state.ok sc__law_state (fun vs H Q E h => ?_) (fun cdv Ar outer s H vs Q E hr h => ⟨t_state K, ?_, pure_state h⟩)
  · obtain ⟨_, _, _, rfl, _⟩ := h; rfl
  · have S := sc__law_state
    exact (pss_one (ps_ret (pe_lst (pa_cons (pe_op op_add (pe_op op_add pe_int (pe_op op_mod (pe_call G__law_cell_at (hr.mono (by decide)) (by rfl) T.g__law_cell_at T.k__law_cell_at B__law_cell_at_2 V__law_cell_at_2 pass0 (pa_cons (pv 0) (pa_cons (pv 1) pa_nil))) pe_int)) (pe_op op_mod (pe_call G__law_cell_at (hr.mono (by decide)) (by rfl) T.g__law_cell_at T.k__law_cell_at B__law_cell_at_2 V__law_cell_at_2 pass0 (pa_cons (pv 0) (pa_cons (pe_op op_add (pv 1) pe_int) pa_nil))) pe_int)) pa_nil))))
theorem ok__law_of (F : Funs K A D) (T : Txt K mg A) : FnOk P w K mg base CX0 2 A.f__law_of D.d__law_of ["_law_state_here", "_law_some"] sOf := by
  have G__law_next := ok__law_next (P := P) (w := w) (mg := mg) (base := base) F T
  have V__law_next_1 : Vals [] [] := .nil
  have B__law_next_1 := F.f__law_next.binds (ps := ["_law_state_here"]) fun _ _ _ _ _ _ us hl => match us, hl with | [_], _ => rfl
  refine F.f__law_of.ok sc__law_of (fun vs H Q E h => ?_) (fun cdv Ar outer s H vs Q E hr h => ⟨t_of K, ?_, pure_of h⟩)
  · obtain ⟨_, _, rfl, _⟩ := h; rfl
  · have S := sc__law_of
    exact (pss_one (ps_ret (pe_ix ix_seq (pv 1) (pe_op op_mod (pe_call G__law_next (hr.mono (by decide)) (by rfl) T.g__law_next T.k__law_next B__law_next_1 V__law_next_1 pass0 (pa_cons (pv 0) pa_nil)) (pe_callB call_len (by rfl) T.b_len PySem.boot_len (pa_cons (pv 1) pa_nil))) (fun _ _ => rfl))))
theorem ok__law_far (F : Funs K A D) (T : Txt K mg A) : FnOk P w K mg base CX0 2 A.f__law_far D.d__law_far ["_law_state_here", "_law_many"] sFar := by
  have G__law_next := ok__law_next (P := P) (w := w) (mg := mg) (base := base) F T
  have V__law_next_1 : Vals [] [] := .nil
  have B__law_next_1 := F.f__law_next.binds (ps := ["_law_state_here"]) fun _ _ _ _ _ _ us hl => match us, hl with | [_], _ => rfl
  refine F.f__law_far.ok sc__law_far (fun vs H Q E h => ?_) (fun cdv Ar outer s H vs Q E hr h => ⟨t_far, ?_, pure_far h⟩)
  · obtain ⟨_, _, rfl, _⟩ := h; rfl
  · have S := sc__law_far
    exact (pss_cons (ps_set (i := 2) S.nd rfl (Or.inl rfl) pe_int)
      (pss_cons (ps_for PassesOwn.never rfl (pi_range1 (by rfl) T.b_range (pa_cons pe_int pa_nil)) (pg_name (i := 3) S.nd rfl (Or.inl rfl))
      (pss_one (ps_set (i := 2) S.nd rfl (Or.inl rfl) (pe_op op_add (pe_op op_mul (pv 2) (pe_op op_pow pe_int pe_int)) (pe_op op_mod (pe_call G__law_next (hr.mono (by decide)) (by rfl) T.g__law_next T.k__law_next B__law_next_1 V__law_next_1 pass0 (pa_cons (pv 0) pa_nil)) (pe_op op_pow pe_int pe_int))))))
      (pss_one (ps_ret (pe_op op_mod (pv 2) (pv 1))))))
theorem ok__law_turned (F : Funs K A D) (T : Txt K mg A) : FnOk P w K mg base CX0 1 A.f__law_turned D.d__law_turned ["_law_row", "_law_many"] sTurned := by
  refine F.f__law_turned.ok sc__law_turned (fun vs H Q E h => ?_) (fun cdv Ar outer s H vs Q E hr h => ⟨t_turned K, ?_, pure_turned h⟩)
  · obtain ⟨_, _, _, rfl, _⟩ := h; rfl
  · have S := sc__law_turned
    exact (pss_cons (ps_set (i := 1) S.nd rfl (Or.inl rfl) (pe_op op_mod (pv 1) (pe_callB call_len_seq (by rfl) T.b_len PySem.boot_len (pa_cons (pv 0) pa_nil))))
      (pss_one (ps_ret (pe_op op_cat (pe_slice sl_list (pv 0) (po_some (pv 1)) po_none) (pe_slice sl_list (pv 0) po_none (po_some (pv 1)))))))
theorem ok__law_out (F : Funs K A D) (T : Txt K mg A) : FnOk P w K mg base CX0 1 A.f__law_out D.d__law_out ["_law_row", "_law_step_here"] (sOut K) := by
  refine F.f__law_out.ok sc__law_out (fun vs H Q E h => ?_) (fun cdv Ar outer s H vs Q E hr h => ⟨t_out K, ?_, pure_out h⟩)
  · obtain ⟨_, _, _, rfl, _⟩ := h; rfl
  · have S := sc__law_out
    have hu64 := hr.units
    exact (pss_cons (ps_set (i := 2) S.nd rfl (Or.inl rfl) (pe_lst pa_nil))
      (pss_cons (ps_set (i := 3) S.nd rfl (Or.inl rfl) (pe_callTy call_list_of (by rfl) T.b_list (by decide +kernel) (pa_cons (pv 0) pa_nil)))
      (pss_cons (ps_while PassesOwn.never (pt_cmpR (op_neF hu64) (pv 3) (pe_lst pa_nil) (nomark _))
      (pss_cons (ps_set (i := 4) S.nd rfl (Or.inl rfl) (pv 1))
      (pss_cons (ps_if (pt_cmpR op_gt (pv 1) (pe_op op_mul pe_int (pe_callB call_len_seq (by rfl) T.b_len PySem.boot_len (pa_cons (pv 3) pa_nil))) (nomark _))
      (pss_one (ps_set (i := 4) S.nd rfl (Or.inl rfl) (pe_op op_add (pe_op op_mod (pv 1) (pe_callB call_len_seq (by rfl) T.b_len PySem.boot_len (pa_cons (pv 3) pa_nil))) (pe_op op_mul pe_int (pe_callB call_len_seq (by rfl) T.b_len PySem.boot_len (pa_cons (pv 3) pa_nil))))))
      pss_nil)
      (pss_cons (ps_while PassesOwn.never (pt_cmpR op_gt (pv 4) pe_int (nomark _))
      (pss_cons (ps_expr (pe_bm PySem.F.plainAttrs_list PySem.F.slot_list_append PySem.F.type_list_append mt_append (pv 3) (pa_cons (pe_bm PySem.F.plainAttrs_list PySem.F.slot_list_pop PySem.F.type_list_pop mt_popAt (pv 3) (pa_cons pe_int pa_nil)) pa_nil)))
      (pss_one (ps_set (i := 4) S.nd rfl (Or.inl rfl) (pe_op op_sub (pv 4) pe_int)))))
      (pss_one (ps_expr (pe_bm PySem.F.plainAttrs_list PySem.F.slot_list_append PySem.F.type_list_append mt_append (pv 2) (pa_cons (pe_bm PySem.F.plainAttrs_list PySem.F.slot_list_pop PySem.F.type_list_pop mt_popAt (pv 3) (pa_cons pe_int pa_nil)) pa_nil))))))))
      (pss_one (ps_ret (pv 2))))))
theorem ok__law_step (F : Funs K A D) (T : Txt K mg A) : FnOk P w K mg base CX0 3 A.f__law_step D.d__law_step ["_law_state_here", "_law_most"] sStep := by
  have G__law_of := ok__law_of (P := P) (w := w) (mg := mg) (base := base) F T
  have G__law_next := ok__law_next (P := P) (w := w) (mg := mg) (base := base) F T
  have V__law_next_1 : Vals [] [] := .nil
  have B__law_next_1 := F.f__law_next.binds (ps := ["_law_state_here"]) fun _ _ _ _ _ _ us hl => match us, hl with | [_], _ => rfl
  have V__law_of_2 : Vals [] [] := .nil
  have B__law_of_2 := F.f__law_of.binds (ps := ["_law_state_here", "_law_some"]) fun _ _ _ _ _ _ us hl => match us, hl with | [_, _], _ => rfl
  refine F.f__law_step.ok sc__law_step (fun vs H Q E h => ?_) (fun cdv Ar outer s H vs Q E hr h => ⟨t_step, ?_, pure_step h⟩)
  · obtain ⟨_, _, rfl, _⟩ := h; rfl
  · have S := sc__law_step
    exact (pss_one (ps_ret (pe_call G__law_of (hr.mono (by decide)) (by rfl) T.g__law_of T.k__law_of B__law_of_2 V__law_of_2 pass0 (pa_cons (pv 0) (pa_cons (pe_lst (pa_cons pe_int (pa_cons pe_int (pa_cons pe_int (pa_cons (pe_op op_add pe_int (pe_op op_mod (pe_call G__law_next (hr.mono (by decide)) (by rfl) T.g__law_next T.k__law_next B__law_next_1 V__law_next_1 pass0 (pa_cons (pv 0) pa_nil)) pe_int)) (pa_cons (pe_op op_add pe_int (pe_op op_mod (pe_call G__law_next (hr.mono (by decide)) (by rfl) T.g__law_next T.k__law_next B__law_next_1 V__law_next_1 pass0 (pa_cons (pv 0) pa_nil)) (pv 1))) (pa_cons (pv 1) pa_nil))))))) pa_nil)))))
theorem ok__law_whole (F : Funs K A D) (T : Txt K mg A) : FnOk P w K mg base CX0 1 A.f__law_whole D.d__law_whole ["_law_found"] sWhole := by
  refine F.f__law_whole.ok sc__law_whole (fun vs H Q E h => ?_) (fun cdv Ar outer s H vs Q E hr h => ⟨t_whole K, ?_, pure_whole h⟩)
  · obtain ⟨_, rfl, _⟩ := h; rfl
  · have S := sc__law_whole
    exact (pss_one (ps_ret (pe_and (pe_callB call_isi (by rfl) T.b_isinstance (by decide +kernel) (pa_cons (pv 0) (pa_cons (pe_bltn (v := .ty "int") (by rfl) T.b_int (by decide +kernel) rfl) pa_nil))) (pe_one (pe_not (pe_callB call_isi (by rfl) T.b_isinstance (by decide +kernel) (pa_cons (pv 0) (pa_cons (pe_bltn (v := .ty "bool") (by rfl) T.b_bool (by decide +kernel) rfl) pa_nil))))))))
theorem ok_law (F : Funs K A D) (T : Txt K mg A) : FnOk P w K mg base CX0 6 A.f_law D.d_law ["_law_script"] (sLaw K) := by
  have G__law_state := ok__law_state (P := P) (w := w) (mg := mg) (base := base) F T
  have G__law_of := ok__law_of (P := P) (w := w) (mg := mg) (base := base) F T
  have G__law_next := ok__law_next (P := P) (w := w) (mg := mg) (base := base) F T
  have G__law_step := ok__law_step (P := P) (w := w) (mg := mg) (base := base) F T
  have G_begin_for := ok_begin_for (P := P) (w := w) (mg := mg) (base := base) F T
  have G__law_out := ok__law_out (P := P) (w := w) (mg := mg) (base := base) F T
  have G__law_turned := ok__law_turned (P := P) (w := w) (mg := mg) (base := base) F T
  have G__law_whole := ok__law_whole (P := P) (w := w) (mg := mg) (base := base) F T
  have G__law_far := ok__law_far (P := P) (w := w) (mg := mg) (base := base) F T
  have G_last_of := ok_last_of (P := P) (w := w) (mg := mg) (base := base) F T
  have V__law_far_2 : Vals [] [] := .nil
  have B__law_far_2 := F.f__law_far.binds (ps := ["_law_state_here", "_law_many"]) fun _ _ _ _ _ _ us hl => match us, hl with | [_, _], _ => rfl
  have V__law_next_1 : Vals [] [] := .nil
  have B__law_next_1 := F.f__law_next.binds (ps := ["_law_state_here"]) fun _ _ _ _ _ _ us hl => match us, hl with | [_], _ => rfl
  have V__law_of_2 : Vals [] [] := .nil
  have B__law_of_2 := F.f__law_of.binds (ps := ["_law_state_here", "_law_some"]) fun _ _ _ _ _ _ us hl => match us, hl with | [_, _], _ => rfl
  have V__law_out_2 : Vals [] [] := .nil
  have B__law_out_2 := F.f__law_out.binds (ps := ["_law_row", "_law_step_here"]) fun _ _ _ _ _ _ us hl => match us, hl with | [_, _], _ => rfl
  have V__law_state_2 : Vals [] [] := .nil
  have B__law_state_2 := F.f__law_state.binds (ps := ["_law_script", "_law_first"]) fun _ _ _ _ _ _ us hl => match us, hl with | [_, _], _ => rfl
  have V__law_step_2 : Vals [] [] := .nil
  have B__law_step_2 := F.f__law_step.binds (ps := ["_law_state_here", "_law_most"]) fun _ _ _ _ _ _ us hl => match us, hl with | [_, _], _ => rfl
  have V__law_turned_2 : Vals [] [] := .nil
  have B__law_turned_2 := F.f__law_turned.binds (ps := ["_law_row", "_law_many"]) fun _ _ _ _ _ _ us hl => match us, hl with | [_, _], _ => rfl
  have V__law_whole_1 : Vals [] [] := .nil
  have B__law_whole_1 := F.f__law_whole.binds (ps := ["_law_found"]) fun _ _ _ _ _ _ us hl => match us, hl with | [_], _ => rfl
  have V_begin_for_3 : Vals [] [] := .nil
  have B_begin_for_3 := F.f_begin_for.binds (ps := ["many", "step", "place"]) fun _ _ _ _ _ _ us hl => match us, hl with | [_, _, _], _ => rfl
  obtain ⟨ds_last_of_3, V_last_of_3, B_last_of_3⟩ := F.f_last_of.binds1 (ps := ["many", "step", "begin"]) 3 1 (by simp) rfl (fun _ _ _ _ _ _ _ us its hu hi => match us, its, hu, hi with | [_, _, _], [_], _, _ => ⟨_, rfl, rfl⟩)
  obtain rfl : ds_last_of_3 = [] := List.eq_nil_of_length_eq_zero (V_last_of_3.length).symm
  refine F.f_law.ok sc_law (fun vs H Q E h => ?_) (fun cdv Ar outer s H vs Q E hr h => ⟨t_law K A.c_NoMany A.c_NoStep A.c_NoPlace, ?_, pure_law h⟩)
  · obtain ⟨_, _, rfl, _⟩ := h; rfl
  · have S := sc_law
    have hu64 := hr.units
    exact (pss_cons (ps_set (i := 1) S.nd rfl (Or.inl rfl) (pe_call G__law_state (hr.mono (by decide)) (by rfl) T.g__law_state T.k__law_state B__law_state_2 V__law_state_2 pass0 (pa_cons (pv 0) (pa_cons pe_int pa_nil))))
      (pss_cons (ps_set (i := 2) S.nd rfl (Or.inr rfl) (pe_call G__law_of (hr.mono (by decide)) (by rfl) T.g__law_of T.k__law_of B__law_of_2 V__law_of_2 pass0 (pa_cons (pv 1) (pa_cons (pe_lst (pa_cons pe_int (pa_cons pe_int (pa_cons (pe_op op_add pe_int (pe_op op_mod (pe_call G__law_next (hr.mono (by decide)) (by rfl) T.g__law_next T.k__law_next B__law_next_1 V__law_next_1 pass0 (pa_cons (pv 1) pa_nil)) pe_int)) pa_nil)))) pa_nil))))
      (pss_cons (ps_set (i := 3) S.nd rfl (Or.inr rfl) (pe_call G__law_step (hr.mono (by decide)) (by rfl) T.g__law_step T.k__law_step B__law_step_2 V__law_step_2 pass0 (pa_cons (pv 1) (pa_cons pe_int pa_nil))))
      (pss_cons (ps_set (i := 4) S.nd rfl (Or.inr rfl) (pe_op op_mod (pe_call G__law_next (hr.mono (by decide)) (by rfl) T.g__law_next T.k__law_next B__law_next_1 V__law_next_1 pass0 (pa_cons (pv 1) pa_nil)) (pv 2)))
      (pss_cons (ps_set (i := 5) S.nd rfl (Or.inl rfl) (pe_call G_begin_for (hr.mono (by decide)) (by rfl) T.g_begin_for T.k_begin_for B_begin_for_3 V_begin_for_3 passL (pa_cons (pv 2) (pa_cons (pv 3) (pa_cons (pv 4) pa_nil)))))
      (pss_cons (ps_set (i := 6) S.nd rfl (Or.inr rfl) (pe_lc (own := [("_law_begin", 7)]) (g := gName 7) (tt := tYes) rfl S.nd (pi_range1 (by rfl) T.b_range (pa_cons (pv 2) pa_nil)) (blkOk_by (N := ["_law_script", "_law_state_here", "_law_many", "_law_step_here", "_law_place", "_law_found", "_law_lasts", "_law_begin"]) (sc := defScope s_law) (by decide +kernel)) (fun _ _ _ _ _ => pg_name (i := 7) S.nd rfl (Or.inl rfl)) (fun _ _ _ _ _ => pts_nil) (fun _ _ _ _ _ => (pe_ix ix_list (pe_call G__law_out (hr.mono (by decide)) (by rfl) T.g__law_out T.k__law_out B__law_out_2 V__law_out_2 pass0 (pa_cons (pe_call G__law_turned (hr.mono (by decide)) (by rfl) T.g__law_turned T.k__law_turned B__law_turned_2 V__law_turned_2 pass0 (pa_cons (pe_listRg rfl rfl T.b_list (prg_1 rfl T.b_range (pv 2))) (pa_cons (pv 7) pa_nil))) (pa_cons (pv 3) pa_nil))) (pe_un un_neg pe_int) (fun _ _ => rfl)))))
      (pss_cons (ps_if (PW.pt (pw_or (pt_not (pt_val (pe_call G__law_whole (hr.mono (by decide)) (by rfl) T.g__law_whole T.k__law_whole B__law_whole_1 V__law_whole_1 pass0 (pa_cons (pv 5) pa_nil)))) (pw_or1 (pt_cmpR (op_neF hu64) (pe_lc (own := [("_law_begin", 7)]) (g := gName 7) (tt := (tTest (tOp rEq (tOp (rIxL K) (tVar 6) (tVar 7)) (tVar 4)))) rfl S.nd (pi_range1 (by rfl) T.b_range (pa_cons (pv 2) pa_nil)) (blkOk_by (N := ["_law_script", "_law_state_here", "_law_many", "_law_step_here", "_law_place", "_law_found", "_law_lasts", "_law_begin"]) (sc := defScope s_law) (by decide +kernel)) (fun _ _ _ _ _ => pg_name (i := 7) S.nd rfl (Or.inl rfl)) (fun _ _ _ _ _ => (pts_one (pt_cmpR op_eq (pe_ix ix_list (pv 6) (pv 7) (fun _ _ => rfl)) (pv 4) (nomark _)))) (fun _ _ _ _ _ => (pv 7))) (pe_lst (pa_cons (pv 5) pa_nil)) (nomark _)))))
      (pss_one (ps_ret pe_bl))
      pss_nil)
      (pss_cons (ps_set (i := 2) S.nd rfl (Or.inr rfl) (pe_call G__law_of (hr.mono (by decide)) (by rfl) T.g__law_of T.k__law_of B__law_of_2 V__law_of_2 pass0 (pa_cons (pv 1) (pa_cons (pe_lst (pa_cons (pe_op op_pow pe_int pe_int) (pa_cons (pe_op op_add pe_int (pe_call G__law_far (hr.mono (by decide)) (by rfl) T.g__law_far T.k__law_far B__law_far_2 V__law_far_2 pass0 (pa_cons (pv 1) (pa_cons (pe_op op_pow pe_int pe_int) pa_nil)))) (pa_cons pe_int pa_nil)))) pa_nil))))
      (pss_cons (ps_set (i := 3) S.nd rfl (Or.inr rfl) (pe_op op_add pe_int (pe_op op_mod (pe_call G__law_next (hr.mono (by decide)) (by rfl) T.g__law_next T.k__law_next B__law_next_1 V__law_next_1 pass0 (pa_cons (pv 1) pa_nil)) pe_int)))
      (pss_cons (ps_set (i := 4) S.nd rfl (Or.inr rfl) (pe_call G__law_of (hr.mono (by decide)) (by rfl) T.g__law_of T.k__law_of B__law_of_2 V__law_of_2 pass0 (pa_cons (pv 1) (pa_cons (pe_lst (pa_cons pe_int (pa_cons (pe_op op_sub (pv 2) pe_int) (pa_cons (pe_call G__law_far (hr.mono (by decide)) (by rfl) T.g__law_far T.k__law_far B__law_far_2 V__law_far_2 pass0 (pa_cons (pv 1) (pa_cons (pv 2) pa_nil))) pa_nil)))) pa_nil))))
      (pss_cons (ps_set (i := 5) S.nd rfl (Or.inl rfl) (pe_call G_begin_for (hr.mono (by decide)) (by rfl) T.g_begin_for T.k_begin_for B_begin_for_3 V_begin_for_3 passL (pa_cons (pv 2) (pa_cons (pv 3) (pa_cons (pv 4) pa_nil)))))
      (pss_cons (ps_if (PW.pt (pw_or (pt_not (pt_val (pe_call G__law_whole (hr.mono (by decide)) (by rfl) T.g__law_whole T.k__law_whole B__law_whole_1 V__law_whole_1 pass0 (pa_cons (pv 5) pa_nil)))) (pw_or (pt_not (pt_chain op_le op_lt pe_int (pv 5) (pv 2))) (pw_or1 (pt_cmpR op_ne (pe_call G_last_of (hr.mono (by decide)) (by rfl) T.g_last_of T.k_last_of B_last_of_3 V_last_of_3 passL (pa_cons (pv 2) (pa_cons (pv 3) (pa_cons (pv 5) pa_nil)))) (pv 4) (nomark _))))))
      (pss_one (ps_ret pe_bl))
      pss_nil)
      (pss_one (ps_ret (pe_or (pe_cmpR op_eq (pv 2) pe_int (nomark _)) (pe_one (pe_cmpR op_ne (pe_call G_last_of (hr.mono (by decide)) (by rfl) T.g_last_of T.k_last_of B_last_of_3 V_last_of_3 passL (pa_cons (pv 2) (pa_cons (pv 3) (pa_cons (pe_op op_mod (pe_op op_add (pv 5) pe_int) (pv 2)) pa_nil)))) (pv 4) (nomark _))))))))))))))))))
end
theorem all_mk {l : PySem.W.OpenLaw} {w : World} {K : PySem.W.Frag} {h : Heap} {mg : Str → Option Value} {fa : Addr} (X : K.In h) (G : h.Ns mainGlobals mg) (hfa : mg "law" = some (.ref fa))
    {f_is_whole : Addr} {od_is_whole an_is_whole : Option Addr} {sl_is_whole : Array (Option Value)} {oc_is_whole kV_is_whole dc_is_whole pm_is_whole cd_is_whole ct_is_whole : Value}
    (a_is_whole : PySem.W.nsIn K mainGlobals "is_whole" = some (some (.ref f_is_whole)))
    (l_is_whole : K.lookup f_is_whole = some ⟨oc_is_whole, od_is_whole, .func (PySem.W.fnOf "is_whole" "is_whole" (defArgs s_is_whole) (defBody s_is_whole) (defScope s_is_whole) .none kV_is_whole dc_is_whole pm_is_whole an_is_whole cd_is_whole ct_is_whole), sl_is_whole⟩)
    (cc_is_whole : PySem.W.codeIn K cd_is_whole "is_whole" = true) (k_is_whole : PySem.W.keepIn K (.ref f_is_whole) = true)
    {f_check_many : Addr} {od_check_many an_check_many : Option Addr} {sl_check_many : Array (Option Value)} {oc_check_many kV_check_many dc_check_many pm_check_many cd_check_many ct_check_many : Value}
    (a_check_many : PySem.W.nsIn K mainGlobals "check_many" = some (some (.ref f_check_many)))
    (l_check_many : K.lookup f_check_many = some ⟨oc_check_many, od_check_many, .func (PySem.W.fnOf "check_many" "check_many" (defArgs s_check_many) (defBody s_check_many) (defScope s_check_many) .none kV_check_many dc_check_many pm_check_many an_check_many cd_check_many ct_check_many), sl_check_many⟩)
    (cc_check_many : PySem.W.codeIn K cd_check_many "check_many" = true) (k_check_many : PySem.W.keepIn K (.ref f_check_many) = true)
    {f_check_step : Addr} {od_check_step an_check_step : Option Addr} {sl_check_step : Array (Option Value)} {oc_check_step kV_check_step dc_check_step pm_check_step cd_check_step ct_check_step : Value}
    (a_check_step : PySem.W.nsIn K mainGlobals "check_step" = some (some (.ref f_check_step)))
    (l_check_step : K.lookup f_check_step = some ⟨oc_check_step, od_check_step, .func (PySem.W.fnOf "check_step" "check_step" (defArgs s_check_step) (defBody s_check_step) (defScope s_check_step) .none kV_check_step dc_check_step pm_check_step an_check_step cd_check_step ct_check_step), sl_check_step⟩)
    (cc_check_step : PySem.W.codeIn K cd_check_step "check_step" = true) (k_check_step : PySem.W.keepIn K (.ref f_check_step) = true)
    {f_check_place : Addr} {od_check_place an_check_place : Option Addr} {sl_check_place : Array (Option Value)} {oc_check_place kV_check_place dc_check_place pm_check_place cd_check_place ct_check_place : Value}
    (a_check_place : PySem.W.nsIn K mainGlobals "check_place" = some (some (.ref f_check_place)))
    (l_check_place : K.lookup f_check_place = some ⟨oc_check_place, od_check_place, .func (PySem.W.fnOf "check_place" "check_place" (defArgs s_check_place) (defBody s_check_place) (defScope s_check_place) .none kV_check_place dc_check_place pm_check_place an_check_place cd_check_place ct_check_place), sl_check_place⟩)
    (cc_check_place : PySem.W.codeIn K cd_check_place "check_place" = true) (k_check_place : PySem.W.keepIn K (.ref f_check_place) = true)
    {f_last_of : Addr} {od_last_of an_last_of : Option Addr} {sl_last_of : Array (Option Value)} {oc_last_of kV_last_of dc_last_of pm_last_of cd_last_of ct_last_of : Value}
    {dT_last_of : Addr} {dO_last_of : Obj} {dI_last_of : List Value} {dN_last_of : Nat}
    (a_last_of : PySem.W.nsIn K mainGlobals "last_of" = some (some (.ref f_last_of)))
    (l_last_of : K.lookup f_last_of = some ⟨oc_last_of, od_last_of, .func (PySem.W.fnOf "last_of" "last_of" (defArgs s_last_of) (defBody s_last_of) (defScope s_last_of) (.ref dT_last_of) kV_last_of dc_last_of pm_last_of an_last_of cd_last_of ct_last_of), sl_last_of⟩)
    (dt_last_of : K.lookup dT_last_of = some dO_last_of) (dd_last_of : dO_last_of.data = .seq dI_last_of.toArray dN_last_of) (dv_last_of : Vals [.int 0] dI_last_of)
    (cc_last_of : PySem.W.codeIn K cd_last_of "last_of" = true) (k_last_of : PySem.W.keepIn K (.ref f_last_of) = true)
    {f__check_ring : Addr} {od__check_ring an__check_ring : Option Addr} {sl__check_ring : Array (Option Value)} {oc__check_ring kV__check_ring dc__check_ring pm__check_ring cd__check_ring ct__check_ring : Value}
    (a__check_ring : PySem.W.nsIn K mainGlobals "_check_ring" = some (some (.ref f__check_ring)))
    (l__check_ring : K.lookup f__check_ring = some ⟨oc__check_ring, od__check_ring, .func (PySem.W.fnOf "_check_ring" "_check_ring" (defArgs s__check_ring) (defBody s__check_ring) (defScope s__check_ring) .none kV__check_ring dc__check_ring pm__check_ring an__check_ring cd__check_ring ct__check_ring), sl__check_ring⟩)
    (cc__check_ring : PySem.W.codeIn K cd__check_ring "_check_ring" = true) (k__check_ring : PySem.W.keepIn K (.ref f__check_ring) = true)
    {f__place_at : Addr} {od__place_at an__place_at : Option Addr} {sl__place_at : Array (Option Value)} {oc__place_at kV__place_at dc__place_at pm__place_at cd__place_at ct__place_at : Value}
    (a__place_at : PySem.W.nsIn K mainGlobals "_place_at" = some (some (.ref f__place_at)))
    (l__place_at : K.lookup f__place_at = some ⟨oc__place_at, od__place_at, .func (PySem.W.fnOf "_place_at" "_place_at" (defArgs s__place_at) (defBody s__place_at) (defScope s__place_at) .none kV__place_at dc__place_at pm__place_at an__place_at cd__place_at ct__place_at), sl__place_at⟩)
    (cc__place_at : PySem.W.codeIn K cd__place_at "_place_at" = true) (k__place_at : PySem.W.keepIn K (.ref f__place_at) = true)
    {f_begin_for : Addr} {od_begin_for an_begin_for : Option Addr} {sl_begin_for : Array (Option Value)} {oc_begin_for kV_begin_for dc_begin_for pm_begin_for cd_begin_for ct_begin_for : Value}
    (a_begin_for : PySem.W.nsIn K mainGlobals "begin_for" = some (some (.ref f_begin_for)))
    (l_begin_for : K.lookup f_begin_for = some ⟨oc_begin_for, od_begin_for, .func (PySem.W.fnOf "begin_for" "begin_for" (defArgs s_begin_for) (defBody s_begin_for) (defScope s_begin_for) .none kV_begin_for dc_begin_for pm_begin_for an_begin_for cd_begin_for ct_begin_for), sl_begin_for⟩)
    (cc_begin_for : PySem.W.codeIn K cd_begin_for "begin_for" = true) (k_begin_for : PySem.W.keepIn K (.ref f_begin_for) = true)
    {f__law_cell_at : Addr} {od__law_cell_at an__law_cell_at : Option Addr} {sl__law_cell_at : Array (Option Value)} {oc__law_cell_at kV__law_cell_at dc__law_cell_at pm__law_cell_at cd__law_cell_at ct__law_cell_at : Value}
    (a__law_cell_at : PySem.W.nsIn K mainGlobals "_law_cell_at" = some (some (.ref f__law_cell_at)))
    (l__law_cell_at : K.lookup f__law_cell_at = some ⟨oc__law_cell_at, od__law_cell_at, .func (PySem.W.fnOf "_law_cell_at" "_law_cell_at" (defArgs s__law_cell_at) (defBody s__law_cell_at) (defScope s__law_cell_at) .none kV__law_cell_at dc__law_cell_at pm__law_cell_at an__law_cell_at cd__law_cell_at ct__law_cell_at), sl__law_cell_at⟩)
    (cc__law_cell_at : PySem.W.codeIn K cd__law_cell_at "_law_cell_at" = true) (k__law_cell_at : PySem.W.keepIn K (.ref f__law_cell_at) = true)
    {f__law_next : Addr} {od__law_next an__law_next : Option Addr} {sl__law_next : Array (Option Value)} {oc__law_next kV__law_next dc__law_next pm__law_next cd__law_next ct__law_next : Value}
    (a__law_next : PySem.W.nsIn K mainGlobals "_law_next" = some (some (.ref f__law_next)))
    (l__law_next : K.lookup f__law_next = some ⟨oc__law_next, od__law_next, .func (PySem.W.fnOf "_law_next" "_law_next" (defArgs s__law_next) (defBody s__law_next) (defScope s__law_next) .none kV__law_next dc__law_next pm__law_next an__law_next cd__law_next ct__law_next), sl__law_next⟩)
    (cc__law_next : PySem.W.codeIn K cd__law_next "_law_next" = true) (k__law_next : PySem.W.keepIn K (.ref f__law_next) = true)
    {f__law_state : Addr} {od__law_state an__law_state : Option Addr} {sl__law_state : Array (Option Value)} {oc__law_state kV__law_state dc__law_state pm__law_state cd__law_state ct__law_state : Value}
    (a__law_state : PySem.W.nsIn K mainGlobals "_law_state" = some (some (.ref f__law_state)))
    (l__law_state : K.lookup f__law_state = some ⟨oc__law_state, od__law_state, .func (PySem.W.fnOf "_law_state" "_law_state" (defArgs s__law_state) (defBody s__law_state) (defScope s__law_state) .none kV__law_state dc__law_state pm__law_state an__law_state cd__law_state ct__law_state), sl__law_state⟩)
    (cc__law_state : PySem.W.codeIn K cd__law_state "_law_state" = true) (k__law_state : PySem.W.keepIn K (.ref f__law_state) = true)
    {f__law_of : Addr} {od__law_of an__law_of : Option Addr} {sl__law_of : Array (Option Value)} {oc__law_of kV__law_of dc__law_of pm__law_of cd__law_of ct__law_of : Value}
    (a__law_of : PySem.W.nsIn K mainGlobals "_law_of" = some (some (.ref f__law_of)))
    (l__law_of : K.lookup f__law_of = some ⟨oc__law_of, od__law_of, .func (PySem.W.fnOf "_law_of" "_law_of" (defArgs s__law_of) (defBody s__law_of) (defScope s__law_of) .none kV__law_of dc__law_of pm__law_of an__law_of cd__law_of ct__law_of), sl__law_of⟩)
    (cc__law_of : PySem.W.codeIn K cd__law_of "_law_of" = true) (k__law_of : PySem.W.keepIn K (.ref f__law_of) = true)
    {f__law_far : Addr} {od__law_far an__law_far : Option Addr} {sl__law_far : Array (Option Value)} {oc__law_far kV__law_far dc__law_far pm__law_far cd__law_far ct__law_far : Value}
    (a__law_far : PySem.W.nsIn K mainGlobals "_law_far" = some (some (.ref f__law_far)))
    (l__law_far : K.lookup f__law_far = some ⟨oc__law_far, od__law_far, .func (PySem.W.fnOf "_law_far" "_law_far" (defArgs s__law_far) (defBody s__law_far) (defScope s__law_far) .none kV__law_far dc__law_far pm__law_far an__law_far cd__law_far ct__law_far), sl__law_far⟩)
    (cc__law_far : PySem.W.codeIn K cd__law_far "_law_far" = true) (k__law_far : PySem.W.keepIn K (.ref f__law_far) = true)
    {f__law_turned : Addr} {od__law_turned an__law_turned : Option Addr} {sl__law_turned : Array (Option Value)} {oc__law_turned kV__law_turned dc__law_turned pm__law_turned cd__law_turned ct__law_turned : Value}
    (a__law_turned : PySem.W.nsIn K mainGlobals "_law_turned" = some (some (.ref f__law_turned)))
    (l__law_turned : K.lookup f__law_turned = some ⟨oc__law_turned, od__law_turned, .func (PySem.W.fnOf "_law_turned" "_law_turned" (defArgs s__law_turned) (defBody s__law_turned) (defScope s__law_turned) .none kV__law_turned dc__law_turned pm__law_turned an__law_turned cd__law_turned ct__law_turned), sl__law_turned⟩)
    (cc__law_turned : PySem.W.codeIn K cd__law_turned "_law_turned" = true) (k__law_turned : PySem.W.keepIn K (.ref f__law_turned) = true)
    {f__law_out : Addr} {od__law_out an__law_out : Option Addr} {sl__law_out : Array (Option Value)} {oc__law_out kV__law_out dc__law_out pm__law_out cd__law_out ct__law_out : Value}
    (a__law_out : PySem.W.nsIn K mainGlobals "_law_out" = some (some (.ref f__law_out)))
    (l__law_out : K.lookup f__law_out = some ⟨oc__law_out, od__law_out, .func (PySem.W.fnOf "_law_out" "_law_out" (defArgs s__law_out) (defBody s__law_out) (defScope s__law_out) .none kV__law_out dc__law_out pm__law_out an__law_out cd__law_out ct__law_out), sl__law_out⟩)
    (cc__law_out : PySem.W.codeIn K cd__law_out "_law_out" = true) (k__law_out : PySem.W.keepIn K (.ref f__law_out) = true)
    {f__law_step : Addr} {od__law_step an__law_step : Option Addr} {sl__law_step : Array (Option Value)} {oc__law_step kV__law_step dc__law_step pm__law_step cd__law_step ct__law_step : Value}
    (a__law_step : PySem.W.nsIn K mainGlobals "_law_step" = some (some (.ref f__law_step)))
    (l__law_step : K.lookup f__law_step = some ⟨oc__law_step, od__law_step, .func (PySem.W.fnOf "_law_step" "_law_step" (defArgs s__law_step) (defBody s__law_step) (defScope s__law_step) .none kV__law_step dc__law_step pm__law_step an__law_step cd__law_step ct__law_step), sl__law_step⟩)
    (cc__law_step : PySem.W.codeIn K cd__law_step "_law_step" = true) (k__law_step : PySem.W.keepIn K (.ref f__law_step) = true)
    {f__law_whole : Addr} {od__law_whole an__law_whole : Option Addr} {sl__law_whole : Array (Option Value)} {oc__law_whole kV__law_whole dc__law_whole pm__law_whole cd__law_whole ct__law_whole : Value}
    (a__law_whole : PySem.W.nsIn K mainGlobals "_law_whole" = some (some (.ref f__law_whole)))
    (l__law_whole : K.lookup f__law_whole = some ⟨oc__law_whole, od__law_whole, .func (PySem.W.fnOf "_law_whole" "_law_whole" (defArgs s__law_whole) (defBody s__law_whole) (defScope s__law_whole) .none kV__law_whole dc__law_whole pm__law_whole an__law_whole cd__law_whole ct__law_whole), sl__law_whole⟩)
    (cc__law_whole : PySem.W.codeIn K cd__law_whole "_law_whole" = true) (k__law_whole : PySem.W.keepIn K (.ref f__law_whole) = true)
    {f_law : Addr} {od_law an_law : Option Addr} {sl_law : Array (Option Value)} {oc_law kV_law dc_law pm_law cd_law ct_law : Value}
    (a_law : PySem.W.nsIn K mainGlobals "law" = some (some (.ref f_law)))
    (l_law : K.lookup f_law = some ⟨oc_law, od_law, .func (PySem.W.fnOf "law" "law" (defArgs s_law) (defBody s_law) (defScope s_law) .none kV_law dc_law pm_law an_law cd_law ct_law), sl_law⟩)
    (cc_law : PySem.W.codeIn K cd_law "law" = true) (k_law : PySem.W.keepIn K (.ref f_law) = true)
    {t_GREATEST : Tok} (a_GREATEST : PySem.W.nsIn K mainGlobals "GREATEST" = some (some (.int (1000000000000000000000000000000000000000000000000000000000000) t_GREATEST)))
    {t_MOST_STEP : Tok} (a_MOST_STEP : PySem.W.nsIn K mainGlobals "MOST_STEP" = some (some (.int (100) t_MOST_STEP)))
    (z_bool : PySem.W.nsIn K mainGlobals "bool" = some none)
    (z_int : PySem.W.nsIn K mainGlobals "int" = some none)
    (z_isinstance : PySem.W.nsIn K mainGlobals "isinstance" = some none)
    (z_len : PySem.W.nsIn K mainGlobals "len" = some none)
    (z_list : PySem.W.nsIn K mainGlobals "list" = some none)
    (z_range : PySem.W.nsIn K mainGlobals "range" = some none)
    {c_NoMany : Addr} (a_NoMany : PySem.W.nsIn K mainGlobals "NoMany" = some (some (.ref c_NoMany))) (k_NoMany : PySem.W.keepIn K (.ref c_NoMany) = true) (x_NoMany : PySem.W.excIn K c_NoMany [.type "ValueError", .type "Exception", .type "BaseException", .type "object"] "ValueError.__new__" = true) (bb_NoMany : PySem.W.subIn K (.ref c_NoMany) (.type "BaseException") = some true) (t_NoMany : PySem.W.typeIn K (.ref c_NoMany) = some (.type "type"))
    {c_NoPlace : Addr} (a_NoPlace : PySem.W.nsIn K mainGlobals "NoPlace" = some (some (.ref c_NoPlace))) (k_NoPlace : PySem.W.keepIn K (.ref c_NoPlace) = true) (x_NoPlace : PySem.W.excIn K c_NoPlace [.type "ValueError", .type "Exception", .type "BaseException", .type "object"] "ValueError.__new__" = true) (bb_NoPlace : PySem.W.subIn K (.ref c_NoPlace) (.type "BaseException") = some true) (t_NoPlace : PySem.W.typeIn K (.ref c_NoPlace) = some (.type "type"))
    {c_NoStep : Addr} (a_NoStep : PySem.W.nsIn K mainGlobals "NoStep" = some (some (.ref c_NoStep))) (k_NoStep : PySem.W.keepIn K (.ref c_NoStep) = true) (x_NoStep : PySem.W.excIn K c_NoStep [.type "ValueError", .type "Exception", .type "BaseException", .type "object"] "ValueError.__new__" = true) (bb_NoStep : PySem.W.subIn K (.ref c_NoStep) (.type "BaseException") = some true) (t_NoStep : PySem.W.typeIn K (.ref c_NoStep) = some (.type "type"))
    : ∃ fd : FuncData, (∀ (s : Shared) (v : Value), BindsTo s fd ⟨[v], []⟩ [("_law_script", v)]) ∧ ∀ base : Heap, K.In base → base.Ns mainGlobals mg → FnOk l.prog w K mg base CX0 6 fa fd ["_law_script"] (sLaw K) := by
  have e := hfa.symm.trans (PySem.W.mg_of X G a_law)
  cases e
  have T : Txt K mg ⟨f_is_whole, f_check_many, f_check_step, f_check_place, f_last_of, f__check_ring, f__place_at, f_begin_for, f__law_cell_at, f__law_next, f__law_state, f__law_of, f__law_far, f__law_turned, f__law_out, f__law_step, f__law_whole, fa, c_NoMany, c_NoPlace, c_NoStep⟩ := {
    b_bool := PySem.W.mg_none_of X G z_bool
    b_int := PySem.W.mg_none_of X G z_int
    b_isinstance := PySem.W.mg_none_of X G z_isinstance
    b_len := PySem.W.mg_none_of X G z_len
    b_list := PySem.W.mg_none_of X G z_list
    b_range := PySem.W.mg_none_of X G z_range
    c_GREATEST := ⟨_, PySem.W.mg_of X G a_GREATEST⟩
    c_MOST_STEP := ⟨_, PySem.W.mg_of X G a_MOST_STEP⟩
    g_is_whole := PySem.W.mg_of X G a_is_whole
    k_is_whole := k_is_whole
    g_check_many := PySem.W.mg_of X G a_check_many
    k_check_many := k_check_many
    g_check_step := PySem.W.mg_of X G a_check_step
    k_check_step := k_check_step
    g_check_place := PySem.W.mg_of X G a_check_place
    k_check_place := k_check_place
    g_last_of := PySem.W.mg_of X G a_last_of
    k_last_of := k_last_of
    g__check_ring := PySem.W.mg_of X G a__check_ring
    k__check_ring := k__check_ring
    g__place_at := PySem.W.mg_of X G a__place_at
    k__place_at := k__place_at
    g_begin_for := PySem.W.mg_of X G a_begin_for
    k_begin_for := k_begin_for
    g__law_cell_at := PySem.W.mg_of X G a__law_cell_at
    k__law_cell_at := k__law_cell_at
    g__law_next := PySem.W.mg_of X G a__law_next
    k__law_next := k__law_next
    g__law_state := PySem.W.mg_of X G a__law_state
    k__law_state := k__law_state
    g__law_of := PySem.W.mg_of X G a__law_of
    k__law_of := k__law_of
    g__law_far := PySem.W.mg_of X G a__law_far
    k__law_far := k__law_far
    g__law_turned := PySem.W.mg_of X G a__law_turned
    k__law_turned := k__law_turned
    g__law_out := PySem.W.mg_of X G a__law_out
    k__law_out := k__law_out
    g__law_step := PySem.W.mg_of X G a__law_step
    k__law_step := k__law_step
    g__law_whole := PySem.W.mg_of X G a__law_whole
    k__law_whole := k__law_whole
    g_law := PySem.W.mg_of X G a_law
    k_law := k_law
    g_NoMany := PySem.W.mg_of X G a_NoMany
    k_NoMany := k_NoMany
    x_NoMany := x_NoMany
    bb_NoMany := bb_NoMany
    t_NoMany := t_NoMany
    g_NoPlace := PySem.W.mg_of X G a_NoPlace
    k_NoPlace := k_NoPlace
    x_NoPlace := x_NoPlace
    bb_NoPlace := bb_NoPlace
    t_NoPlace := t_NoPlace
    g_NoStep := PySem.W.mg_of X G a_NoStep
    k_NoStep := k_NoStep
    x_NoStep := x_NoStep
    bb_NoStep := bb_NoStep
    t_NoStep := t_NoStep }
  have F : Funs K ⟨f_is_whole, f_check_many, f_check_step, f_check_place, f_last_of, f__check_ring, f__place_at, f_begin_for, f__law_cell_at, f__law_next, f__law_state, f__law_of, f__law_far, f__law_turned, f__law_out, f__law_step, f__law_whole, fa, c_NoMany, c_NoPlace, c_NoStep⟩ ⟨PySem.W.fnOf "is_whole" "is_whole" (defArgs s_is_whole) (defBody s_is_whole) (defScope s_is_whole) .none kV_is_whole dc_is_whole pm_is_whole an_is_whole cd_is_whole ct_is_whole,
    PySem.W.fnOf "check_many" "check_many" (defArgs s_check_many) (defBody s_check_many) (defScope s_check_many) .none kV_check_many dc_check_many pm_check_many an_check_many cd_check_many ct_check_many,
    PySem.W.fnOf "check_step" "check_step" (defArgs s_check_step) (defBody s_check_step) (defScope s_check_step) .none kV_check_step dc_check_step pm_check_step an_check_step cd_check_step ct_check_step,
    PySem.W.fnOf "check_place" "check_place" (defArgs s_check_place) (defBody s_check_place) (defScope s_check_place) .none kV_check_place dc_check_place pm_check_place an_check_place cd_check_place ct_check_place,
    PySem.W.fnOf "last_of" "last_of" (defArgs s_last_of) (defBody s_last_of) (defScope s_last_of) (.ref dT_last_of) kV_last_of dc_last_of pm_last_of an_last_of cd_last_of ct_last_of,
    PySem.W.fnOf "_check_ring" "_check_ring" (defArgs s__check_ring) (defBody s__check_ring) (defScope s__check_ring) .none kV__check_ring dc__check_ring pm__check_ring an__check_ring cd__check_ring ct__check_ring,
    PySem.W.fnOf "_place_at" "_place_at" (defArgs s__place_at) (defBody s__place_at) (defScope s__place_at) .none kV__place_at dc__place_at pm__place_at an__place_at cd__place_at ct__place_at,
    PySem.W.fnOf "begin_for" "begin_for" (defArgs s_begin_for) (defBody s_begin_for) (defScope s_begin_for) .none kV_begin_for dc_begin_for pm_begin_for an_begin_for cd_begin_for ct_begin_for,
    PySem.W.fnOf "_law_cell_at" "_law_cell_at" (defArgs s__law_cell_at) (defBody s__law_cell_at) (defScope s__law_cell_at) .none kV__law_cell_at dc__law_cell_at pm__law_cell_at an__law_cell_at cd__law_cell_at ct__law_cell_at,
    PySem.W.fnOf "_law_next" "_law_next" (defArgs s__law_next) (defBody s__law_next) (defScope s__law_next) .none kV__law_next dc__law_next pm__law_next an__law_next cd__law_next ct__law_next,
    PySem.W.fnOf "_law_state" "_law_state" (defArgs s__law_state) (defBody s__law_state) (defScope s__law_state) .none kV__law_state dc__law_state pm__law_state an__law_state cd__law_state ct__law_state,
    PySem.W.fnOf "_law_of" "_law_of" (defArgs s__law_of) (defBody s__law_of) (defScope s__law_of) .none kV__law_of dc__law_of pm__law_of an__law_of cd__law_of ct__law_of,
    PySem.W.fnOf "_law_far" "_law_far" (defArgs s__law_far) (defBody s__law_far) (defScope s__law_far) .none kV__law_far dc__law_far pm__law_far an__law_far cd__law_far ct__law_far,
    PySem.W.fnOf "_law_turned" "_law_turned" (defArgs s__law_turned) (defBody s__law_turned) (defScope s__law_turned) .none kV__law_turned dc__law_turned pm__law_turned an__law_turned cd__law_turned ct__law_turned,
    PySem.W.fnOf "_law_out" "_law_out" (defArgs s__law_out) (defBody s__law_out) (defScope s__law_out) .none kV__law_out dc__law_out pm__law_out an__law_out cd__law_out ct__law_out,
    PySem.W.fnOf "_law_step" "_law_step" (defArgs s__law_step) (defBody s__law_step) (defScope s__law_step) .none kV__law_step dc__law_step pm__law_step an__law_step cd__law_step ct__law_step,
    PySem.W.fnOf "_law_whole" "_law_whole" (defArgs s__law_whole) (defBody s__law_whole) (defScope s__law_whole) .none kV__law_whole dc__law_whole pm__law_whole an__law_whole cd__law_whole ct__law_whole,
    PySem.W.fnOf "law" "law" (defArgs s_law) (defBody s_law) (defScope s_law) .none kV_law dc_law pm_law an_law cd_law ct_law⟩ := {
    f_is_whole := fun_mk (st := s_is_whole) l_is_whole cc_is_whole k_is_whole
    f_check_many := fun_mk (st := s_check_many) l_check_many cc_check_many k_check_many
    f_check_step := fun_mk (st := s_check_step) l_check_step cc_check_step k_check_step
    f_check_place := fun_mk (st := s_check_place) l_check_place cc_check_place k_check_place
    f_last_of := ⟨⟨_, _, _, _, _, _, _, _, _, _, rfl, l_last_of, cc_last_of, .inr ⟨by simp, _, _, _, _, rfl, dt_last_of, dd_last_of, dv_last_of⟩, .inl rfl⟩, k_last_of⟩
    f__check_ring := fun_mk (st := s__check_ring) l__check_ring cc__check_ring k__check_ring
    f__place_at := fun_mk (st := s__place_at) l__place_at cc__place_at k__place_at
    f_begin_for := fun_mk (st := s_begin_for) l_begin_for cc_begin_for k_begin_for
    f__law_cell_at := fun_mk (st := s__law_cell_at) l__law_cell_at cc__law_cell_at k__law_cell_at
    f__law_next := fun_mk (st := s__law_next) l__law_next cc__law_next k__law_next
    f__law_state := fun_mk (st := s__law_state) l__law_state cc__law_state k__law_state
    f__law_of := fun_mk (st := s__law_of) l__law_of cc__law_of k__law_of
    f__law_far := fun_mk (st := s__law_far) l__law_far cc__law_far k__law_far
    f__law_turned := fun_mk (st := s__law_turned) l__law_turned cc__law_turned k__law_turned
    f__law_out := fun_mk (st := s__law_out) l__law_out cc__law_out k__law_out
    f__law_step := fun_mk (st := s__law_step) l__law_step cc__law_step k__law_step
    f__law_whole := fun_mk (st := s__law_whole) l__law_whole cc__law_whole k__law_whole
    f_law := fun_mk (st := s_law) l_law cc_law k_law }
  exact ⟨PySem.W.fnOf "law" "law" (defArgs s_law) (defBody s_law) (defScope s_law) .none kV_law dc_law pm_law an_law cd_law ct_law, fun s v => .of_eq rfl, fun base _ _ => ok_law F T⟩
end R06
open PySem PySem.W PyProof.Rows
set_option maxHeartbeats 0 in
theorem PySem.Challenge.cw_countout_k06_beginnings_wished_holds : PySem.Challenge.rw_countout_k06_beginnings_wished.Holds := by
  w_on; o_law; k_head; (case hw => w_witness2)
  k_fill
  refine L2.walk_of (l := PySem.Challenge.rw_countout_k06_beginnings_wished) (n := 63) (k := 6) (x := "_law_script") (CX := fun _ => L2.CX0) (sp := fun w => Cd.K06.sLaw _) rfl (by decide) rfl ⟨rfl, by decide, by decide⟩ (fun w h Y => PySem.W.kIn_of Y) ?F (fun _ _ a ns hl _ hS => ⟨a, ns, rfl, hS, fun _ => rfl⟩) (fun _ _ _ _ _ h => h)
  case F =>
    intro w mg fa h KX G hmg
    refine' R06.all_mk KX G hmg ?a_is_whole ?l_is_whole ?cc_is_whole ?k_is_whole ?a_check_many ?l_check_many ?cc_check_many ?k_check_many ?a_check_step ?l_check_step ?cc_check_step ?k_check_step ?a_check_place ?l_check_place ?cc_check_place ?k_check_place ?a_last_of ?l_last_of ?dt_last_of ?dd_last_of ?dv_last_of ?cc_last_of ?k_last_of ?a__check_ring ?l__check_ring ?cc__check_ring ?k__check_ring ?a__place_at ?l__place_at ?cc__place_at ?k__place_at ?a_begin_for ?l_begin_for ?cc_begin_for ?k_begin_for ?a__law_cell_at ?l__law_cell_at ?cc__law_cell_at ?k__law_cell_at ?a__law_next ?l__law_next ?cc__law_next ?k__law_next ?a__law_state ?l__law_state ?cc__law_state ?k__law_state ?a__law_of ?l__law_of ?cc__law_of ?k__law_of ?a__law_far ?l__law_far ?cc__law_far ?k__law_far ?a__law_turned ?l__law_turned ?cc__law_turned ?k__law_turned ?a__law_out ?l__law_out ?cc__law_out ?k__law_out ?a__law_step ?l__law_step ?cc__law_step ?k__law_step ?a__law_whole ?l__law_whole ?cc__law_whole ?k__law_whole ?a_law ?l_law ?cc_law ?k_law ?a_GREATEST ?a_MOST_STEP ?z_bool ?z_int ?z_isinstance ?z_len ?z_list ?z_range ?a_NoMany ?k_NoMany ?x_NoMany ?bb_NoMany ?t_NoMany ?a_NoPlace ?k_NoPlace ?x_NoPlace ?bb_NoPlace ?t_NoPlace ?a_NoStep ?k_NoStep ?x_NoStep ?bb_NoStep ?t_NoStep
    (case a_is_whole => k_is)
    (case l_is_whole => k_is)
    (case cc_is_whole => k_is)
    (case k_is_whole => k_is)
    (case a_check_many => k_is)
    (case l_check_many => k_is)
    (case cc_check_many => k_is)
    (case k_check_many => k_is)
    (case a_check_step => k_is)
    (case l_check_step => k_is)
    (case cc_check_step => k_is)
    (case k_check_step => k_is)
    (case a_check_place => k_is)
    (case l_check_place => k_is)
    (case cc_check_place => k_is)
    (case k_check_place => k_is)
    (case a_last_of => k_is)
    (case l_last_of => k_is)
    (case dt_last_of => k_is)
    (case dd_last_of => rfl)
    (case dv_last_of => exact .cons ⟨_, rfl⟩ .nil)
    (case cc_last_of => k_is)
    (case k_last_of => k_is)
    (case a__check_ring => k_is)
    (case l__check_ring => k_is)
    (case cc__check_ring => k_is)
    (case k__check_ring => k_is)
    (case a__place_at => k_is)
    (case l__place_at => k_is)
    (case cc__place_at => k_is)
    (case k__place_at => k_is)
    (case a_begin_for => k_is)
    (case l_begin_for => k_is)
    (case cc_begin_for => k_is)
    (case k_begin_for => k_is)
    (case a__law_cell_at => k_is)
    (case l__law_cell_at => k_is)
    (case cc__law_cell_at => k_is)
    (case k__law_cell_at => k_is)
    (case a__law_next => k_is)
    (case l__law_next => k_is)
    (case cc__law_next => k_is)
    (case k__law_next => k_is)
    (case a__law_state => k_is)
    (case l__law_state => k_is)
    (case cc__law_state => k_is)
    (case k__law_state => k_is)
    (case a__law_of => k_is)
    (case l__law_of => k_is)
    (case cc__law_of => k_is)
    (case k__law_of => k_is)
    (case a__law_far => k_is)
    (case l__law_far => k_is)
    (case cc__law_far => k_is)
    (case k__law_far => k_is)
    (case a__law_turned => k_is)
    (case l__law_turned => k_is)
    (case cc__law_turned => k_is)
    (case k__law_turned => k_is)
    (case a__law_out => k_is)
    (case l__law_out => k_is)
    (case cc__law_out => k_is)
    (case k__law_out => k_is)
    (case a__law_step => k_is)
    (case l__law_step => k_is)
    (case cc__law_step => k_is)
    (case k__law_step => k_is)
    (case a__law_whole => k_is)
    (case l__law_whole => k_is)
    (case cc__law_whole => k_is)
    (case k__law_whole => k_is)
    (case a_law => k_is)
    (case l_law => k_is)
    (case cc_law => k_is)
    (case k_law => k_is)
    (case a_GREATEST => k_is)
    (case a_MOST_STEP => k_is)
    (case z_bool => k_is)
    (case z_int => k_is)
    (case z_isinstance => k_is)
    (case z_len => k_is)
    (case z_list => k_is)
    (case z_range => k_is)
    (case a_NoMany => k_is)
    (case k_NoMany => k_is)
    (case x_NoMany => k_exc)
    (case bb_NoMany => k_is)
    (case t_NoMany => k_is)
    (case a_NoPlace => k_is)
    (case k_NoPlace => k_is)
    (case x_NoPlace => k_exc)
    (case bb_NoPlace => k_is)
    (case t_NoPlace => k_is)
    (case a_NoStep => k_is)
    (case k_NoStep => k_is)
    (case x_NoStep => k_exc)
    (case bb_NoStep => k_is)
    (case t_NoStep => k_is)
