import PyProof.Rows.All
import Wide.All
import OpenK.AllK
import Wide.FinOn
import HandS.ForMost
import HandS.Conv
import HandS.IsInst
import HandS.Defaults
import HandS.Wide
import HandS.More
import HandS.ForExc
import HandS.Evl
import PySem.Challenge.RW_countout_k02_counts_by_numbers
namespace Jos
/-! ## rings -/
variable {α β : Type}
/-- turned by a -/
def rot (l : List α) (a : Nat) : List α := l.drop a ++ l.take a
theorem rot_len (l : List α) (a : Nat) : (rot l a).length = l.length := by
  unfold rot; rw [List.length_append, List.length_drop, List.length_take]; omega
theorem rot_zero (l : List α) : rot l 0 = l := by simp [rot]
theorem rot_all (l : List α) : rot l l.length = l := by simp [rot]
theorem rot_get {l : List α} {a i : Nat} (ha : a ≤ l.length) (hi : i < l.length) : (rot l a)[i]? = l[(a + i) % l.length]? := by
  unfold rot
  by_cases h : a + i < l.length
  · rw [List.getElem?_append_left (by rw [List.length_drop]; omega), List.getElem?_drop, Nat.mod_eq_of_lt h]
  · rw [List.getElem?_append_right (by rw [List.length_drop]; omega), List.length_drop, List.getElem?_take_of_lt (by omega)]
    have e : (a + i) % l.length = a + i - l.length := by
      rw [Nat.mod_eq_sub_mod (by omega), Nat.mod_eq_of_lt (by omega)]
    rw [e, show i - (l.length - a) = a + i - l.length by omega]
theorem ext_len {l m : List α} (h : l.length = m.length) (g : ∀ i, i < l.length → l[i]? = m[i]?) : l = m := by
  apply List.ext_getElem? 
  intro i
  by_cases hi : i < l.length
  · exact g i hi
  · rw [List.getElem?_eq_none_iff.mpr (by omega), List.getElem?_eq_none_iff.mpr (by omega)]
theorem rot_rot {l : List α} {a b : Nat} (ha : a ≤ l.length) (hb : b ≤ l.length) (hl : 0 < l.length) : rot (rot l a) b = rot l ((a + b) % l.length) := by
  apply ext_len
  · rw [rot_len, rot_len, rot_len]
  · intro i hi
    rw [rot_len, rot_len] at hi
    have hm : (a + b) % l.length < l.length := Nat.mod_lt _ hl
    rw [rot_get (by rw [rot_len]; exact hb) (by rw [rot_len]; exact hi), rot_len, rot_get ha (Nat.mod_lt _ hl), rot_get (Nat.le_of_lt hm) hi]
    congr 1
    simp only [Nat.add_mod_mod, Nat.mod_add_mod, Nat.add_assoc]
/-- one goes behind all -/
def rot1 : List α → List α
  | [] => []
  | x :: r => r ++ [x]
theorem rot1_eq {l : List α} (h : 0 < l.length) : rot1 l = rot l 1 := by
  cases l with
  | nil => simp at h
  | cons x r => simp [rot1, rot]
theorem rot1_len (l : List α) : (rot1 l).length = l.length := by
  cases l with
  | nil => rfl
  | cons x r => simp [rot1]
def rotN : Nat → List α → List α
  | 0, l => l
  | k + 1, l => rotN k (rot1 l)
theorem rotN_len : ∀ (k : Nat) (l : List α), (rotN k l).length = l.length
  | 0, _ => rfl
  | k + 1, l => by rw [rotN, rotN_len k, rot1_len]
theorem rotN_eq : ∀ (k : Nat) (l : List α), 0 < l.length → rotN k l = rot l (k % l.length)
  | 0, l, h => by rw [rotN, Nat.zero_mod, rot_zero]
  | k + 1, l, h => by
    have h1 : 0 < (rot1 l).length := by rw [rot1_len]; exact h
    rw [rotN, rotN_eq k _ h1, rot1_len, rot1_eq h, rot_rot (by omega) (Nat.le_of_lt (Nat.mod_lt _ h)) h]
    congr 1
    rw [Nat.add_mod_mod, Nat.add_comm]
theorem rotN_congr {j k : Nat} {l : List α} (h : j % l.length = k % l.length) : rotN j l = rotN k l := by
  by_cases hl : 0 < l.length
  · rw [rotN_eq j l hl, rotN_eq k l hl, h]
  · have : l = [] := by
      cases l with
      | nil => rfl
      | cons x r => simp at hl
    subst this
    have : ∀ k : Nat, rotN k ([] : List α) = [] := by
      intro k; induction k with
      | zero => rfl
      | succ k ih => exact ih
    rw [this, this]
theorem rotN_succ : ∀ (k : Nat) (l : List α), rotN (k + 1) l = rot1 (rotN k l)
  | 0, _ => rfl
  | k + 1, l => by rw [rotN, rotN_succ k (rot1 l)]; rfl
/-- who goes, one behind the other: s more are passed by each time (the step less 1) -/
def out (s : Nat) : Nat → List α → List α
  | 0, _ => []
  | n + 1, l => match rotN s l with
    | [] => []
    | x :: t => x :: out s n t
theorem out_len (s : Nat) : ∀ (n : Nat) (l : List α), l.length = n → (out s n l).length = n
  | 0, l, h => rfl
  | n + 1, l, h => by
    have hl := rotN_len s l
    unfold out
    split
    · rename_i e; rw [e] at hl; simp at hl; omega
    · rename_i x t e
      rw [e] at hl
      rw [List.length_cons, out_len s n t (by simp at hl; omega)]
theorem rot1_perm (l : List α) : (rot1 l).Perm l := by
  cases l with
  | nil => exact List.Perm.refl _
  | cons x r => exact List.perm_append_comm (l₁ := r) (l₂ := [x])
theorem rotN_perm : ∀ (k : Nat) (l : List α), (rotN k l).Perm l
  | 0, _ => List.Perm.refl _
  | k + 1, l => (rotN_perm k (rot1 l)).trans (rot1_perm l)
theorem out_perm (s : Nat) : ∀ (n : Nat) (l : List α), l.length = n → (out s n l).Perm l
  | 0, l, h => by
    have : l = [] := List.eq_nil_of_length_eq_zero h
    subst this; exact List.Perm.refl _
  | n + 1, l, h => by
    have hl := rotN_len s l
    have hp := rotN_perm s l
    unfold out
    split
    · rename_i e; rw [e] at hl; simp at hl; omega
    · rename_i x t e
      rw [e] at hl hp
      exact (List.Perm.cons x (out_perm s n t (by simp at hl; omega))).trans hp
theorem out_congr {s s' : Nat} : ∀ (n : Nat) (l : List α), l.length = n → (∀ k, 1 ≤ k → k ≤ n → s % k = s' % k) → out s n l = out s' n l
  | 0, _, _, _ => rfl
  | n + 1, l, h, hk => by
    have e : rotN s l = rotN s' l := rotN_congr (by rw [h]; exact hk (n + 1) (by omega) (Nat.le_refl _))
    have hl := rotN_len s' l
    unfold out
    rw [e]
    split
    · rfl
    · rename_i x t e'
      rw [e'] at hl
      rw [out_congr n t (by simp at hl; omega) fun k h1 h2 => hk k h1 (by omega)]
theorem rot1_map (f : α → β) (l : List α) : rot1 (l.map f) = (rot1 l).map f := by
  cases l with
  | nil => rfl
  | cons x r => simp [rot1]
theorem rotN_map (f : α → β) : ∀ (k : Nat) (l : List α), rotN k (l.map f) = (rotN k l).map f
  | 0, _ => rfl
  | k + 1, l => by rw [rotN, rot1_map, rotN_map f k]; rfl
theorem out_map (f : α → β) (s : Nat) : ∀ (n : Nat) (l : List α), out s n (l.map f) = (out s n l).map f
  | 0, _ => rfl
  | n + 1, l => by
    unfold out
    rw [rotN_map]
    cases rotN s l with
    | nil => rfl
    | cons x t => simp [out_map f s n t]
theorem rot_map (f : α → β) (l : List α) (a : Nat) : rot (l.map f) a = (rot l a).map f := by
  simp [rot, List.map_drop, List.map_take]
/-- the ring as a list and a place in it: one turn -/
theorem out_at {s a n : Nat} {l : List α} (hn : l.length = n + 1) (ha : a ≤ l.length) {x : α} (hx : l[(a + s) % l.length]? = some x) :
    out s (n + 1) (rot l a) = x :: out s n (rot (l.eraseIdx ((a + s) % l.length)) ((a + s) % l.length)) := by
  have hl : 0 < l.length := by omega
  have hj : (a + s) % l.length < l.length := Nat.mod_lt _ hl
  have e : rotN s (rot l a) = rot l ((a + s) % l.length) := by
    rw [rotN_eq s _ (by rw [rot_len]; exact hl), rot_len, rot_rot ha (Nat.le_of_lt (Nat.mod_lt _ hl)) hl, Nat.add_mod_mod]
  have e2 : rot l ((a + s) % l.length) = x :: rot (l.eraseIdx ((a + s) % l.length)) ((a + s) % l.length) := by
    generalize (a + s) % l.length = j at hx hj
    unfold rot
    obtain ⟨h1, h2⟩ := List.getElem?_eq_some_iff.mp hx
    rw [List.drop_eq_getElem_cons h1, h2, List.eraseIdx_eq_take_drop_succ, List.cons_append]
    have hk : (l.take j).length = j := by rw [List.length_take]; omega
    congr 1
    rw [List.drop_append, List.take_append, hk]
    simp [List.take_of_length_le (show (l.take j).length ≤ j by omega)]
  rw [out, e, e2]
/-! ## numbers told on and on -/
/-- who are left, the next one first, when t numbers have been told -/
def tell (d : Nat) (l : List α) : Nat → List α
  | 0 => l
  | t + 1 => match tell d l t with
    | [] => []
    | x :: r => if (t + 1) % d = 0 then r else r ++ [x]
theorem div_succ {t d : Nat} (_ : 0 < d) (h : (t + 1) % d = 0) : (t + 1) / d = t / d + 1 := by
  rw [Nat.succ_div, if_pos (Nat.dvd_of_mod_eq_zero h)]
theorem div_succ' {t d : Nat} (_ : 0 < d) (h : (t + 1) % d ≠ 0) : (t + 1) / d = t / d := by
  rw [Nat.succ_div, if_neg (fun z => h (Nat.mod_eq_zero_of_dvd z))]; omega
theorem tell_len {d : Nat} {l : List α} (hd : 0 < d) : ∀ t, t ≤ l.length * d → (tell d l t).length = l.length - t / d
  | 0, _ => by simp [tell]
  | t + 1, h => by
    have ih := tell_len (l := l) hd t (by omega)
    have hq : t / d < l.length := Nat.div_lt_of_lt_mul (by rw [Nat.mul_comm]; omega)
    unfold tell
    split
    · rename_i e; rw [e] at ih; simp at ih; omega
    · rename_i x r e
      rw [e, List.length_cons] at ih
      by_cases hz : (t + 1) % d = 0
      · rw [if_pos hz, div_succ hd hz]; omega
      · rw [if_neg hz, div_succ' hd hz, List.length_append]; simp; omega
/-- who is told a number -/
def told (d : Nat) (l : List α) (n : Nat) : Option α := (tell d l (n - 1))[0]?
theorem tell_shift {d : Nat} {l : List α} (hd : 0 < d) : ∀ (p t : Nat), t ≤ l.length * d → p < (tell d l t).length → (tell d l t)[p]? = (tell d l (t + p))[0]?
  | 0, t, _, _ => rfl
  | p + 1, t, ht, hp => by
    have hlen := tell_len (l := l) hd t ht
    have hq : t / d < l.length := by omega
    have ht' : t + 1 ≤ l.length * d := by
      have h1 := Nat.div_add_mod t d
      have h2 := Nat.mod_lt t hd
      have h3 : (t / d + 1) * d ≤ l.length * d := Nat.mul_le_mul_right d hq
      have h4 : (t / d + 1) * d = d * (t / d) + d := by rw [Nat.add_mul, Nat.one_mul, Nat.mul_comm]
      omega
    have key : (tell d l t)[p + 1]? = (tell d l (t + 1))[p]? ∧ p < (tell d l (t + 1)).length := by
      show _ = (match tell d l t with | [] => [] | x :: r => if (t + 1) % d = 0 then r else r ++ [x])[p]? ∧ p < (match tell d l t with | [] => [] | x :: r => if (t + 1) % d = 0 then r else r ++ [x]).length
      cases e : tell d l t with
      | nil => rw [e] at hp; simp at hp
      | cons x r =>
        rw [e, List.length_cons] at hp
        show (x :: r)[p + 1]? = (if (t + 1) % d = 0 then r else r ++ [x])[p]? ∧ p < (if (t + 1) % d = 0 then r else r ++ [x]).length
        by_cases hz : (t + 1) % d = 0
        · rw [if_pos hz]; exact ⟨by simp, by omega⟩
        · rw [if_neg hz]; refine ⟨?_, by simp; omega⟩
          rw [List.getElem?_append_left (by omega)]; simp
    rw [key.1, tell_shift hd p (t + 1) ht' key.2, show t + 1 + p = t + (p + 1) by omega]
theorem told_first {d : Nat} {l : List α} (hd : 0 < d) {n : Nat} (h1 : 1 ≤ n) (h2 : n ≤ l.length) : told d l n = l[n - 1]? := by
  have h := tell_shift (l := l) hd (n - 1) 0 (Nat.zero_le _) (by show n - 1 < l.length; omega)
  rw [Nat.zero_add] at h
  exact h.symm
theorem told_leap {d : Nat} {l : List α} (hd : 0 < d) {n : Nat} (h1 : 1 ≤ n) (h2 : n ≤ l.length * d) (hz : n % d ≠ 0) : told d l (l.length + n - n / d) = told d l n := by
  obtain ⟨t, rfl⟩ : ∃ t, n = t + 1 := ⟨n - 1, by omega⟩
  have hlen := tell_len (l := l) hd t (by omega)
  have hdv := div_succ' hd hz
  have hq : t / d < l.length := Nat.div_lt_of_lt_mul (by rw [Nat.mul_comm]; omega)
  have hlen1 := tell_len (l := l) hd (t + 1) h2
  rw [hdv] at hlen1
  show (tell d l (l.length + (t + 1) - (t + 1) / d - 1))[0]? = (tell d l (t + 1 - 1))[0]?
  rw [hdv, show l.length + (t + 1) - t / d - 1 = (t + 1) + (l.length - t / d - 1) by omega,
    ← tell_shift hd (l.length - t / d - 1) (t + 1) h2 (by omega)]
  show (match tell d l t with | [] => [] | x :: r => if (t + 1) % d = 0 then r else r ++ [x])[l.length - t / d - 1]? = (tell d l t)[0]?
  cases e : tell d l t with
  | nil => rw [e] at hlen; simp at hlen; omega
  | cons x r =>
    rw [e, List.length_cons] at hlen
    show (if (t + 1) % d = 0 then r else r ++ [x])[l.length - t / d - 1]? = some x
    rw [if_neg hz, List.getElem?_append_right (by omega)]
    rw [show l.length - t / d - 1 - r.length = 0 by omega]; rfl
theorem tell_turn {d : Nat} {l : List α} (hd : 0 < d) (c : Nat) : ∀ k, k < d → tell d l (c * d + k) = rotN k (tell d l (c * d))
  | 0, _ => rfl
  | k + 1, h => by
    have hz : (c * d + k + 1) % d ≠ 0 := by
      rw [Nat.add_assoc, Nat.add_comm, Nat.add_mul_mod_self_right, Nat.mod_eq_of_lt h]; omega
    rw [rotN_succ, ← tell_turn hd c k (by omega)]
    show (match tell d l (c * d + k) with | [] => [] | x :: r => if (c * d + k + 1) % d = 0 then r else r ++ [x]) = _
    cases tell d l (c * d + k) with
    | nil => rfl
    | cons x r => show (if (c * d + k + 1) % d = 0 then r else r ++ [x]) = r ++ [x]; rw [if_neg hz]
theorem out_tell {d : Nat} {l : List α} (hd : 0 < d) : ∀ (n c i : Nat), c + n = l.length → i < n → (out (d - 1) n (tell d l (c * d)))[i]? = told d l ((c + i + 1) * d)
  | 0, _, _, _, h => by omega
  | n + 1, c, i, hc, hi => by
    have hlen : (tell d l (c * d)).length = n + 1 := by
      rw [tell_len hd _ (Nat.mul_le_mul_right d (by omega)), Nat.mul_div_cancel _ hd]; omega
    have ht := tell_turn (l := l) hd c (d - 1) (by omega)
    have hl2 := rotN_len (d - 1) (tell d l (c * d))
    have hnext : tell d l ((c + 1) * d) = (rotN (d - 1) (tell d l (c * d))).tail := by
      rw [show (c + 1) * d = (c * d + (d - 1)) + 1 by rw [Nat.add_mul, Nat.one_mul]; omega]
      show (match tell d l (c * d + (d - 1)) with | [] => [] | x :: r => if (c * d + (d - 1) + 1) % d = 0 then r else r ++ [x]) = _
      rw [ht]
      have hz : (c * d + (d - 1) + 1) % d = 0 := by
        rw [Nat.add_assoc, show d - 1 + 1 = d by omega, Nat.add_mod_right, Nat.mul_mod_left]
      cases rotN (d - 1) (tell d l (c * d)) with
      | nil => rfl
      | cons x r => show (if (c * d + (d - 1) + 1) % d = 0 then r else r ++ [x]) = r; rw [if_pos hz]
    cases e : rotN (d - 1) (tell d l (c * d)) with
    | nil => rw [e, hlen] at hl2; simp at hl2
    | cons x r =>
      rw [e] at hnext ht
      have hn : tell d l ((c + 1) * d) = r := hnext
      rw [out, e]
      show (x :: out (d - 1) n r)[i]? = _
      cases i with
      | zero =>
        show some x = (tell d l ((c + 0 + 1) * d - 1))[0]?
        rw [show (c + 0 + 1) * d - 1 = c * d + (d - 1) by rw [Nat.add_zero, Nat.add_mul, Nat.one_mul]; omega, ht]; rfl
      | succ i =>
        have ih := out_tell (l := l) hd n (c + 1) i (by omega) (by omega)
        rw [hn] at ih
        rw [List.getElem?_cons_succ, ih, show c + 1 + i + 1 = c + (i + 1) + 1 by omega]
/-- at a count the one goes who is told the count's number -/
theorem out_told {d : Nat} {l : List α} (hd : 0 < d) {i : Nat} (hi : i < l.length) : (out (d - 1) l.length l)[i]? = told d l ((i + 1) * d) := by
  have h := out_tell (l := l) hd l.length 0 i (by omega) hi
  rw [Nat.zero_mul] at h
  rw [show (i + 1) = 0 + i + 1 by omega]
  exact h
/-! ## the two loops over numbers -/
theorem leap_up {m d n : Nat} (hd : 0 < d) (h2 : n ≤ m * d) (hz : n % d ≠ 0) : n < m + n - n / d ∧ m + n - n / d ≤ m * d ∧ n / d < m := by
  have h1 := Nat.div_add_mod n d
  have h3 := Nat.mod_lt n hd
  have hq : n / d < m := by
    apply Nat.div_lt_of_lt_mul
    rcases Nat.lt_or_ge n (m * d) with h | h
    · rw [Nat.mul_comm]; exact h
    · have e : n = m * d := by omega
      rw [e, Nat.mul_mod_left] at hz; exact absurd rfl hz
  refine ⟨by omega, ?_, hq⟩
  obtain ⟨k, hk⟩ : ∃ k, m = n / d + 1 + k := ⟨m - n / d - 1, by omega⟩
  obtain ⟨e, he⟩ : ∃ e, d = e + 1 := ⟨d - 1, by omega⟩
  have h4 : m * d = d * (n / d) + d + k * d := by
    rw [hk, Nat.add_mul, Nat.add_mul, Nat.one_mul, Nat.mul_comm (n / d) d]
  have h5 : k * d = k * e + k := by rw [he, Nat.mul_add, Nat.mul_one]
  omega
theorem leap_down {m d n : Nat} (hd : 0 < d) (h1 : m < n) (h2 : n ≤ m * d) :
    2 ≤ d ∧ 1 ≤ (n - m) + (n - m - 1) / (d - 1) ∧ (n - m) + (n - m - 1) / (d - 1) < n ∧ ((n - m) + (n - m - 1) / (d - 1)) % d ≠ 0 ∧ m + ((n - m) + (n - m - 1) / (d - 1)) - ((n - m) + (n - m - 1) / (d - 1)) / d = n := by
  have hd2 : 2 ≤ d := by
    rcases Nat.lt_or_ge d 2 with h | h
    · have : d = 1 := by omega
      subst this; omega
    · exact h
  obtain ⟨e, he⟩ : ∃ e, d = e + 1 := ⟨d - 1, by omega⟩
  subst he
  have h3 := Nat.div_add_mod (n - m - 1) e
  have h4 := Nat.mod_lt (n - m - 1) (show 0 < e by omega)
  rw [Nat.add_sub_cancel]
  generalize hq : (n - m - 1) / e = q at *
  generalize hr : (n - m - 1) % e = r at *
  have hqm : q < m := by
    rw [← hq]
    apply Nat.div_lt_of_lt_mul
    rw [Nat.mul_add, Nat.mul_one] at h2
    rw [Nat.mul_comm]; omega
  have en : n - m + q = (r + 1) + q * (e + 1) := by
    rw [Nat.mul_add, Nat.mul_one, Nat.mul_comm q e]; omega
  have hmod : (n - m + q) % (e + 1) = r + 1 := by
    rw [en, Nat.add_mul_mod_self_right, Nat.mod_eq_of_lt (by omega)]
  have hdiv : (n - m + q) / (e + 1) = q := by
    rw [en, Nat.add_mul_div_right _ _ (by omega), Nat.div_eq_of_lt (by omega)]; omega
  rw [hmod, hdiv]
  omega
theorem told_back {d : Nat} {l : List α} (hd : 0 < d) {n : Nat} (h1 : l.length < n) (h2 : n ≤ l.length * d) :
    told d l ((n - l.length) + (n - l.length - 1) / (d - 1)) = told d l n := by
  obtain ⟨_, a, b, c, e⟩ := leap_down hd h1 h2
  have h := told_leap (l := l) hd a (by omega) c
  rw [e] at h
  exact h.symm
theorem nodup_get {l : List α} (h : l.Nodup) {i j : Nat} {x : α} (a : l[i]? = some x) (b : l[j]? = some x) : i = j := by
  obtain ⟨h1, e1⟩ := List.getElem?_eq_some_iff.mp a
  obtain ⟨h2, e2⟩ := List.getElem?_eq_some_iff.mp b
  exact (List.getElem_inj h).mp (e1.trans e2.symm)
/-! ## places in a ring of numbers -/
def ring (m b : Nat) : List Nat := rot (List.range m) b
theorem ring_len (m b : Nat) : (ring m b).length = m := by rw [ring, rot_len, List.length_range]
theorem ring_get {m b i : Nat} (hb : b ≤ m) (hi : i < m) : (ring m b)[i]? = some ((b + i) % m) := by
  have h := rot_get (l := List.range m) (a := b) (i := i) (by rw [List.length_range]; exact hb) (by rw [List.length_range]; exact hi)
  rw [List.length_range] at h
  rw [ring, h, List.getElem?_range (Nat.mod_lt _ (by omega))]
/-- the places in the order in which they go -/
def order (d m b : Nat) : List Nat := out (d - 1) m (ring m b)
theorem order_len (d m b : Nat) : (order d m b).length = m := out_len _ _ _ (ring_len m b)
theorem rot_perm (l : List α) (a : Nat) : (rot l a).Perm l := by
  unfold rot
  exact List.perm_append_comm.trans (by rw [List.take_append_drop])
theorem order_perm (d m b : Nat) : (order d m b).Perm (List.range m) := (out_perm _ _ _ (ring_len m b)).trans (rot_perm _ _)
theorem order_nodup (d m b : Nat) : (order d m b).Nodup := (order_perm d m b).nodup_iff.mpr List.nodup_range
theorem order_lt {d m b x : Nat} (h : x ∈ order d m b) : x < m := List.mem_range.mp ((order_perm d m b).mem_iff.mp h)
theorem order_mem {d m b x : Nat} (h : x < m) : x ∈ order d m b := (order_perm d m b).mem_iff.mpr (List.mem_range.mpr h)
theorem order_told {d m b i : Nat} (hd : 0 < d) (hi : i < m) : (order d m b)[i]? = told d (ring m b) ((i + 1) * d) := by
  have h := out_told (l := ring m b) hd (i := i) (by rw [ring_len]; exact hi)
  rw [ring_len] at h
  exact h
end Jos

set_option Elab.async false
set_option linter.all false
set_option maxRecDepth 100000
set_option maxHeartbeats 2000000
namespace Cd
open PySem PySem.Spec PyProof.Rows L2
open Evl (Ex)
/-! ### operations by short names -/
abbrev oAdd : R2 := rI0 fun i j => .int (i + j)
abbrev oSub : R2 := rI0 fun i j => .int (i - j)
abbrev oMul : R2 := rI CMul fun i j => .int (i * j)
abbrev oMod : R2 := rI (fun _ j => 0 < j) fun i j => .int (i % j)
abbrev oFdiv : R2 := rI CDiv fun i j => .int (i / j)
abbrev oPow : R2 := rI CPow fun i j => .int (i ^ j.toNat)
abbrev oLt : R2 := rI0 fun i j => .bl (decide (i < j))
abbrev oLe : R2 := rI0 fun i j => .bl (decide (i ≤ j))
abbrev oGt : R2 := rI0 fun i j => .bl (decide (j < i))
abbrev oGe : R2 := rI0 fun i j => .bl (decide (j ≤ i))
abbrev oNeg : V → Hp → VK → Prop := rU fun i => .int (-i)
abbrev oAddS : R2 := fun x y H Q => ∃ i j, x = .str i ∧ y = .str j ∧ i.length + j.length ≤ sizeLine ∧ Q (.str (i ++ j)) H
abbrev oIsN : R2 := fun x y H Q => y = .non ∧ Q (.bl (decide (x = .non))) H
abbrev oNotN : R2 := fun x y H Q => y = .non ∧ Q (.bl (!decide (x = .non))) H
abbrev oMin2 : List V → Hp → VK → Prop := fun xs H Q => ∃ i j, xs = [.int i, .int j] ∧ Q (.int (if j < i then j else i)) H
abbrev oMax2 : List V → Hp → VK → Prop := fun xs H Q => ∃ i j, xs = [.int i, .int j] ∧ Q (.int (if j > i then j else i)) H
abbrev oStrI : List V → Hp → VK → Prop := fun xs H Q => ∃ i : Int, xs = [.int i] ∧ i.natAbs.log2 < 1920 ∧ Q (.str (toString i)) H
abbrev rLenL (K : PySem.W.Frag) : List V → Hp → VK → Prop := fun xs H Q => ∃ p ys, xs = [.ref p] ∧ (SqL K H p ys ∨ SqT K H p ys) ∧ Q (.int (ys.length : Int)) H
abbrev rLenV (K : PySem.W.Frag) : List V → Hp → VK → Prop := fun xs H Q => ∃ x n, xs = [x] ∧ LenV K x H n ∧ Q (.int (n : Int)) H
abbrev rListOf (K : PySem.W.Frag) : List V → Hp → VK → Prop := fun xs H Q => ∃ p ys, xs = [.ref p] ∧ (SqL K H p ys ∨ SqT K H p ys) ∧ ∀ l, H l = none → Q (.ref l) (upd H l (.lst ys))
abbrev rInsert : V → List V → Hp → VK → Prop := fun x vs H Q => ∃ (l : Addr) (xs : List V) (i : Int) (y : V), x = .ref l ∧ vs = [.int i, y] ∧ H l = some (.lst xs) ∧ xs.length < sizeLine ∧ 0 ≤ i ∧ i < 2 ^ 63 ∧
    Q .non (upd H l (.lst (xs.take i.toNat ++ [y] ++ xs.drop i.toNat)))
abbrev tRaise (C : Addr) (E : XK) : TS := fun _ _ H => E (.ref C) none H
theorem iteC {c : Bool} {A B : Prop} (h1 : c = true → A) (h2 : c = false → B) : if c = true then A else B := by
  cases c with
  | true => exact iteT (h1 rfl)
  | false => exact iteF (h2 rfl)
/-! ### data that compares plainly -/
/-- numbers and texts, None -/
def plain : V → Bool
  | .int _ => true
  | .str x => PyData.strOk x
  | .non => true
  | _ => false
def dat : V → PyData
  | .int i => .int i
  | .str x => .str x
  | _ => .none
theorem dat_dp {K : PySem.W.Frag} {H : Hp} {v : V} (h : plain v = true) : Dp K H v (dat v) := by
  cases v <;> first | exact .int _ | exact .str _ | exact .non | (simp [plain] at h; done)
theorem dats_dp {K : PySem.W.Frag} {H : Hp} : ∀ {vs : List V}, vs.all plain = true → DpAll K H vs (vs.map dat)
  | [], _ => .nil
  | v :: vs, h => by
    rw [List.all_cons, Bool.and_eq_true] at h
    exact .cons (dat_dp h.1) (dats_dp h.2)
theorem dat_eqv {v w : V} (h : plain v = true) (h' : plain w = true) : PyData.eqv (dat v) (dat w) = decide (v = w) := by
  cases v <;> cases w <;> first
    | (simp [plain] at h; done)
    | (simp [plain] at h'; done)
    | (simp [dat, PyData.eqv]; done)
    | (simp only [dat, PyData.eqv, V.int.injEq, V.str.injEq]; exact Bool.beq_eq_decide_eq _ _)
theorem dats_eqv : ∀ {vs ws : List V}, vs.all plain = true → ws.all plain = true → PyData.eqvAll (vs.map dat) (ws.map dat) = decide (vs = ws)
  | [], [], _, _ => by simp [PyData.eqvAll]
  | [], w :: ws, _, _ => by simp [PyData.eqvAll]
  | v :: vs, [], _, _ => by simp [PyData.eqvAll]
  | v :: vs, w :: ws, h, h' => by
    rw [List.all_cons, Bool.and_eq_true] at h h'
    rw [List.map_cons, List.map_cons, PyData.eqvAll, dat_eqv h.1 h'.1, dats_eqv h.2 h'.2]
    by_cases e : v = w
    · subst e; simp
    · simp [e]
theorem dats_can : ∀ {vs : List V}, vs.all plain = true → PyData.canLayAll0 (vs.map dat) = true
  | [], _ => by simp [PyData.canLayAll0]
  | v :: vs, h => by
    rw [List.all_cons, Bool.and_eq_true] at h
    rw [List.map_cons, PyData.canLayAll0, dats_can h.2, Bool.and_true]
    have h1 := h.1
    cases v <;> first | (simp [dat, PyData.canLay0]; done) | exact h1 | (simp [plain] at h1; done) | (simp only [dat, PyData.canLay0]; exact h1)
theorem dats_depth : ∀ vs : List V, PyData.depthAll (vs.map dat) = 0
  | [] => by simp [PyData.depthAll]
  | v :: vs => by
    rw [List.map_cons, PyData.depthAll, dats_depth vs]
    cases v <;> simp [dat, PyData.depth]
theorem dats_shaped {vs : List V} (h : vs.all plain = true) : SeqAt.shaped (.list (vs.map dat)) = true := by
  unfold SeqAt.shaped
  rw [PyData.canLay0, dats_can h, PyData.depth, dats_depth]
  rfl
/-- two lists of plain things -/
def rEqF (K : PySem.W.Frag) (neg : Bool) : R2 := fun x y H Q => ∃ p q xs ys, x = .ref p ∧ y = .ref q ∧ SqL K H p xs ∧ SqL K H q ys ∧ xs.all plain = true ∧ ys.all plain = true ∧ Q (.bl (if neg then !decide (xs = ys) else decide (xs = ys))) H
section
variable {X : Cx}
theorem op_eqF (hu : X.A.units + 64 < cLine) : OpR X (compareOp .Eq) (rEqF X.K false) := by
  intro pins s σ H x y v u Q I rx ry h
  obtain ⟨p, q, xs, ys, rfl, rfl, hp, hq, h1, h2, k⟩ := h
  refine op_eqD hu pins s σ H _ _ v u Q I rx ry ⟨_, _, .lst hp (dats_dp h1), .lst hq (dats_dp h2), dats_shaped h1, dats_shaped h2, ?_⟩
  rw [PyData.eqv, dats_eqv h1 h2]
  exact k
theorem op_neF (hu : X.A.units + 64 < cLine) : OpR X (compareOp .NotEq) (rEqF X.K true) := by
  intro pins s σ H x y v u Q I rx ry h
  obtain ⟨p, q, xs, ys, rfl, rfl, hp, hq, h1, h2, k⟩ := h
  refine op_neD hu pins s σ H _ _ v u Q I rx ry ⟨_, _, .lst hp (dats_dp h1), .lst hq (dats_dp h2), dats_shaped h1, dats_shaped h2, ?_⟩
  rw [PyData.eqv, dats_eqv h1 h2]
  exact k
end
end Cd

set_option Elab.async false
set_option linter.all false
set_option maxRecDepth 100000
set_option maxHeartbeats 2000000
namespace Cd
open PySem PySem.Spec PyProof.Rows L2
open Evl (Ex sq_of ex_l sz_of sz_lt fresh_back)
/-! ### the law's own chance: one number in a list -/
def StOk (s : Int) : Prop := 0 ≤ s ∧ s < 4294967296
def StAt (H : Hp) (p : Addr) : Prop := ∃ s, StOk s ∧ H p = some (.lst [.int s])
/-- all but the number stays -/
def Run (p : Addr) (H H' : Hp) : Prop := (∀ b o, b ≠ p → H b = some o → H' b = some o) ∧ StAt H' p
theorem Run.refl {p : Addr} {H : Hp} (h : StAt H p) : Run p H H := ⟨fun _ _ _ e => e, h⟩
theorem Run.trans {p : Addr} {H H1 H2 : Hp} (a : Run p H H1) (b : Run p H1 H2) : Run p H H2 := ⟨fun c o n e => b.1 c o n (a.1 c o n e), b.2⟩
theorem StAt.ex {p : Addr} {H H' : Hp} (h : StAt H p) (e : Ex H H') : StAt H' p := by
  obtain ⟨s, h1, h2⟩ := h
  exact ⟨s, h1, e _ _ h2⟩
theorem Run.ex {p : Addr} {H H' : Hp} (h : StAt H p) (e : Ex H H') : Run p H H' := ⟨fun b o _ x => e b o x, h.ex e⟩
theorem Run.new {p q : Addr} {H H' : Hp} {o : HO} (r : Run p H H') (h : H' q = none) : Run p H (upd H' q o) := r.trans (Run.ex r.2 (Ex.new h))
theorem Run.free {p q : Addr} {H H' : Hp} (r : Run p H H') (h : H' q = none) : H q = none := by
  cases e : H q with
  | none => rfl
  | some o =>
    by_cases n : q = p
    · obtain ⟨s, _, h2⟩ := r.2
      rw [← n, h] at h2; cases h2
    · rw [r.1 q o n e] at h; cases h
theorem StAt.ne {p q : Addr} {H : Hp} (h : StAt H p) (n : H q = none) : q ≠ p := fun e => by
  obtain ⟨s, _, h2⟩ := h
  rw [e, h2] at n; cases n
theorem Run.keep {p q : Addr} {H H' : Hp} {o : HO} (r : Run p H H') (n : q ≠ p) (e : H q = some o) : H' q = some o := r.1 q o n e
theorem pos0 {j : Int} (h : 0 < j) : 0 < j := h
theorem at0 {v : V} {xs : List V} : atI (v :: xs) 0 = some v := by simp [atI, ixN]
def t_next (K : PySem.W.Frag) : TS :=
(tSeq (tAsg (tOp oMod (tOp oAdd (tOp oMul (tOp (rIxL K) (tVar 0) (tC (.int 0))) (tC (.int 48271))) (tC (.int 11))) (tC (.int 2147483647))) (gSub (tVar 0) (tC (.int 0)) rSetL))
  (tRet (tOp oFdiv (tOp oMod (tOp oMul (tOp (rIxL K) (tVar 0) (tC (.int 0))) (tOp (rIxL K) (tVar 0) (tC (.int 0)))) (tC (.int 2147483629))) (tC (.int 7)))))
def sNext : Sp := fun vs H Q _ => ∃ p, vs = [.ref p] ∧ StAt H p ∧ ∀ H' n, Run p H H' → 0 ≤ n → n < 306783376 → Q (.int n) H'
theorem pure_next {K : PySem.W.Frag} {vs : List V} {H : Hp} {Q : VK} {E : XK} {nx : L2.St → Hp → Prop} (h : sNext vs H Q E) : t_next K { nx := nx, rt := Q } (start ["_law_state_here"] vs) H := by
  obtain ⟨p, rfl, ⟨s, hs, hp⟩, q⟩ := h
  have b1 : 0 ≤ (s * 48271 + 11) % 2147483647 := Int.emod_nonneg _ (by decide)
  have b2 : (s * 48271 + 11) % 2147483647 < 2147483647 := Int.emod_lt_of_pos _ (by decide)
  generalize hz : (s * 48271 + 11) % 2147483647 = z at b1 b2
  refine ⟨_, rfl, p, _, 0, _, rfl, rfl, sq_of hp, at0, _, _, rfl, rfl, .inr ⟨by decide, by decide⟩, _, _, rfl, rfl, _, _, rfl, rfl, pos0 (by decide), ?_⟩
  dsimp only
  rw [hz]
  refine ⟨_, rfl, p, _, 0, 0, rfl, rfl, hp, rfl, ?_⟩
  have hq : (upd H p (.lst [.int z])) p = some (.lst [.int z]) := upd_same
  refine ⟨_, rfl, p, _, 0, _, rfl, rfl, sq_of hq, at0, _, rfl, p, _, 0, _, rfl, rfl, sq_of hq, at0, _, _, rfl, rfl, .inl ⟨by omega, by omega⟩, _, _, rfl, rfl, pos0 (by decide), _, _, rfl, rfl, ⟨by decide, by decide⟩, ?_⟩
  have c1 : 0 ≤ z * z % 2147483629 := Int.emod_nonneg _ (by decide)
  have c2 : z * z % 2147483629 < 2147483629 := Int.emod_lt_of_pos _ (by decide)
  refine q _ _ ⟨fun b o n e => ?_, z, ⟨b1, by omega⟩, hq⟩ (by omega) (by omega)
  show upd H p (.lst [.int z]) b = some o
  rw [upd_ne n]
  exact e

def t_cell (K : PySem.W.Frag) : TS :=
(tSeq (tIfS (tTest (tOp oLt (tVar 1) (tCB (rLenL K) (tCons (tVar 0) tNil))))
  (tRet (tOp (rIxL K) (tVar 0) (tVar 1)))
  tNext)
  (tRet (tC (.int 0))))
def sCell (K : PySem.W.Frag) : Sp := fun vs H Q _ => ∃ l ns, ∃ j : Nat, vs = [.ref l, .int (j : Int)] ∧ SqL K H l (List.map V.int ns) ∧ ∀ z : Int, Q (.int z) H
theorem pure_cell {K : PySem.W.Frag} {vs : List V} {H : Hp} {Q : VK} {E : XK} {nx : L2.St → Hp → Prop} (h : sCell K vs H Q E) : t_cell K { nx := nx, rt := Q } (start ["_law_script", "_law_k"] vs) H := by
  obtain ⟨l, ns, j, rfl, hl, q⟩ := h
  refine ⟨_, rfl, _, rfl, l, _, rfl, .inl hl, _, _, rfl, rfl, _, rfl, ite2 (fun e => ?_) (fun e => ?_)⟩
  · have e1 := of_decide_eq_true e
    rw [List.length_map] at e1
    have e2 : j < ns.length := by omega
    refine ⟨_, rfl, _, rfl, l, _, _, .int ns[j], rfl, rfl, hl, atI_nat ?_, q _⟩
    rw [List.getElem?_map, List.getElem?_eq_getElem e2]; rfl
  · exact q 0
def t_state (K : PySem.W.Frag) : TS :=
(tRet (tLst (tCons (tOp oAdd (tOp oAdd (tC (.int 1)) (tOp oMod (tCall (sCell K) [] E0 (tCons (tVar 0) (tCons (tVar 1) tNil))) (tC (.int 2147483646)))) (tOp oMod (tCall (sCell K) [] E0 (tCons (tVar 0) (tCons (tOp oAdd (tVar 1) (tC (.int 1))) tNil))) (tC (.int 1000003)))) tNil)))
def sState (K : PySem.W.Frag) : Sp := fun vs H Q _ => ∃ l ns, ∃ j : Nat, vs = [.ref l, .int (j : Int)] ∧ SqL K H l (List.map V.int ns) ∧ ∀ p H', H p = none → Ex H H' → StAt H' p → Q (.ref p) H'
theorem pure_state {K : PySem.W.Frag} {vs : List V} {H : Hp} {Q : VK} {E : XK} {nx : L2.St → Hp → Prop} (h : sState K vs H Q E) : t_state K { nx := nx, rt := Q } (start ["_law_script", "_law_first"] vs) H := by
  obtain ⟨l, ns, j, rfl, hl, q⟩ := h
  refine ⟨_, rfl, _, rfl, l, ns, j, rfl, hl, fun z => ?_⟩
  refine ⟨_, _, rfl, rfl, pos0 (by decide), _, _, rfl, rfl, _, rfl, _, rfl, _, _, rfl, rfl, l, ns, j + 1, rfl, hl, fun y => ?_⟩
  refine ⟨_, _, rfl, rfl, pos0 (by decide), _, _, rfl, rfl, ?_⟩
  have a1 : 0 ≤ z % 2147483646 := Int.emod_nonneg _ (by decide)
  have a2 : z % 2147483646 < 2147483646 := Int.emod_lt_of_pos _ (by decide)
  have b1 : 0 ≤ y % 1000003 := Int.emod_nonneg _ (by decide)
  have b2 : y % 1000003 < 1000003 := Int.emod_lt_of_pos _ (by decide)
  refine ⟨(by decide : 1 ≤ sizeLine), fun p hp => q p _ hp (Evl.Ex.new hp) ⟨_, ⟨?_, ?_⟩, upd_same⟩⟩
  · omega
  · omega
def t_of (K : PySem.W.Frag) : TS :=
(tRet (tOp (rIx K) (tVar 1) (tOp oMod (tCall sNext [] E0 (tCons (tVar 0) tNil)) (tCB (rLenV K) (tCons (tVar 1) tNil)))))
/-- one of some things in a list, one of the signs of a text -/
def sOf : Sp := fun vs H Q _ => ∃ p x, vs = [.ref p, x] ∧ StAt H p ∧
  ((∃ l xs, x = .ref l ∧ l ≠ p ∧ H l = some (.lst xs) ∧ 0 < xs.length ∧ ∀ H' v, Run p H H' → v ∈ xs → Q v H') ∨
   (∃ z : Str, x = .str z ∧ 0 < z.length ∧ z.length ≤ 100000 ∧ ∀ H' c, Run p H H' → c ∈ z.cps.toList → Q (.str ⟨#[c]⟩) H'))
theorem at_mod {α : Type} {xs : List α} {n : Int} (h : 0 < xs.length) : ∃ v, v ∈ xs ∧ atI xs (n % (xs.length : Int)) = some v := by
  have h1 : 0 ≤ n % (xs.length : Int) := Int.emod_nonneg _ (by omega)
  have h2 : n % (xs.length : Int) < xs.length := Int.emod_lt_of_pos _ (by omega)
  obtain ⟨k, hk⟩ : ∃ k : Nat, n % (xs.length : Int) = (k : Int) := ⟨(n % (xs.length : Int)).toNat, by omega⟩
  have h3 : k < xs.length := by omega
  refine ⟨xs[k], List.getElem_mem h3, ?_⟩
  rw [hk]
  unfold atI ixN
  rw [if_pos (by omega), if_pos (by omega)]
  show xs[(k : Int).toNat]? = _
  rw [Int.toNat_natCast, List.getElem?_eq_getElem h3]
theorem pure_of {K : PySem.W.Frag} {vs : List V} {H : Hp} {Q : VK} {E : XK} {nx : L2.St → Hp → Prop} (h : sOf vs H Q E) : t_of K { nx := nx, rt := Q } (start ["_law_state_here", "_law_some"] vs) H := by
  obtain ⟨p, x, rfl, hst, ⟨l, xs, rfl, nl, hl, hx, q⟩ | ⟨z, rfl, hz, hz2, q⟩⟩ := h
  · refine ⟨_, rfl, _, rfl, p, rfl, hst, fun H1 n r n0 n1 => ?_⟩
    have hl1 := sq_of (K := K) (r.keep nl hl)
    refine ⟨_, rfl, _, _, rfl, .inl ⟨xs, hl1, rfl⟩, _, _, rfl, rfl, pos0 (by omega), ?_⟩
    obtain ⟨v, hv, e⟩ := at_mod (n := n) hx
    exact .inl ⟨l, xs, _, v, rfl, rfl, hl1, e, q H1 v r hv⟩
  · refine ⟨_, rfl, _, rfl, p, rfl, hst, fun H1 n r n0 n1 => ?_⟩
    refine ⟨_, rfl, _, _, rfl, ⟨sz_of hz2, rfl⟩, _, _, rfl, rfl, pos0 (by omega), ?_⟩
    have e0 : z.length = z.cps.toList.length := by simp [Str.length]
    obtain ⟨c, hc, e⟩ := at_mod (n := n) (xs := z.cps.toList) (by omega)
    rw [← e0] at e
    exact .inr (.inr ⟨z, _, c, rfl, rfl, sz_of hz2, e, q H1 c r hc⟩)
def t_turned (K : PySem.W.Frag) : TS :=
(tSeq (tAsg (tOp oMod (tVar 1) (tCB (rLenL K) (tCons (tVar 0) tNil))) (gName 1))
  (tRet (tOp rCat (tSl (rSlL K) (tVar 0) (tPart (tVar 1)) tNoPart) (tSl (rSlL K) (tVar 0) tNoPart (tPart (tVar 1))))))
def sTurned : Sp := fun vs H Q _ => ∃ l xs, ∃ m : Int, vs = [.ref l, .int m] ∧ H l = some (.lst xs) ∧ 0 < xs.length ∧ xs.length ≤ 100000 ∧
  ∀ q H', H q = none → Ex H H' → H' q = some (.lst (Jos.rot xs (m % (xs.length : Int)).toNat)) → Q (.ref q) H'
theorem cut_from {xs : List V} {k : Nat} (h : k ≤ xs.length) : cutV xs (some (k : Int)) none = xs.drop k := by
  unfold cutV
  rw [show HT.sIx xs.length 0 (some (k : Int)) = min k xs.length from HT.sIx_nat xs.length 0 k, HT.sIx_none, Nat.min_eq_left h]
  apply List.take_of_length_le
  rw [List.length_drop]
  exact Nat.le_refl _
theorem cut_to {xs : List V} {k : Nat} (h : k ≤ xs.length) : cutV xs none (some (k : Int)) = xs.take k := by
  unfold cutV
  rw [show HT.sIx xs.length xs.length (some (k : Int)) = min k xs.length from HT.sIx_nat xs.length xs.length k, HT.sIx_none, Nat.min_eq_left h]
  simp
theorem pure_turned {K : PySem.W.Frag} {vs : List V} {H : Hp} {Q : VK} {E : XK} {nx : L2.St → Hp → Prop} (h : sTurned vs H Q E) : t_turned K { nx := nx, rt := Q } (start ["_law_row", "_law_many"] vs) H := by
  obtain ⟨l, xs, m, rfl, hl, h0, hz, q⟩ := h
  have h1 : 0 ≤ m % (xs.length : Int) := Int.emod_nonneg _ (by omega)
  have h2 : m % (xs.length : Int) < xs.length := Int.emod_lt_of_pos _ (by omega)
  obtain ⟨k, hk⟩ : ∃ k : Nat, m % (xs.length : Int) = (k : Int) := ⟨(m % (xs.length : Int)).toNat, by omega⟩
  have hkl : k ≤ xs.length := by omega
  refine ⟨_, rfl, _, rfl, l, xs, rfl, .inl (sq_of hl), _, _, rfl, rfl, pos0 (by omega), ?_⟩
  dsimp only
  rw [hk]
  refine ⟨_, rfl, _, rfl, _, rfl, l, xs, rfl, sq_of hl, fun a na => ?_⟩
  have e1 : Ex H (upd H a (.lst (cutV xs (some (k : Int)) none))) := Evl.Ex.new na
  refine ⟨_, rfl, _, rfl, _, rfl, l, xs, rfl, sq_of (e1 _ _ hl), fun b nb => ?_⟩
  have e2 : Ex (upd H a (.lst (cutV xs (some (k : Int)) none))) (upd (upd H a (.lst (cutV xs (some (k : Int)) none))) b (.lst (cutV xs none (some (k : Int))))) := Evl.Ex.new nb
  refine ⟨a, b, _, _, rfl, rfl, e2 _ _ upd_same, upd_same, ?_, fun c nc => ?_⟩
  · rw [cut_from hkl, cut_to hkl, List.length_drop, List.length_take]
    exact sz_of (by omega)
  · have e3 := Evl.Ex.new (o := .lst (cutV xs (some (k : Int)) none ++ cutV xs none (some (k : Int)))) nc
    refine q c _ (fresh_back e1 (fresh_back e2 nc)) (e1.trans (e2.trans e3)) ?_
    rw [upd_same, hk, cut_from hkl, cut_to hkl, Int.toNat_natCast]
    rfl

/-! ### going round hand by hand -/
def t_out (K : PySem.W.Frag) : TS :=
(tSeq (tAsg (tLst tNil) (gName 2))
  (tSeq (tAsg (tCB (rListOf K) (tCons (tVar 0) tNil)) (gName 3))
  (tSeq (tWhile (tTest (tOp (rEqF K true) (tVar 3) (tLst tNil)))
  (tSeq (tAsg (tVar 1) (gName 4))
  (tSeq (tIfS (tTest (tOp oGt (tVar 1) (tOp oMul (tC (.int 3)) (tCB (rLenL K) (tCons (tVar 3) tNil)))))
  (tAsg (tOp oAdd (tOp oMod (tVar 1) (tCB (rLenL K) (tCons (tVar 3) tNil))) (tOp oMul (tC (.int 2)) (tCB (rLenL K) (tCons (tVar 3) tNil)))) (gName 4))
  tNext)
  (tSeq (tWhile (tTest (tOp oGt (tVar 4) (tC (.int 1))))
  (tSeq (tDrop (tBM K "list" rAppend (tVar 3) (tCons (tBM K "list" rPopAt (tVar 3) (tCons (tC (.int 0)) tNil)) tNil)))
  (tAsg (tOp oSub (tVar 4) (tC (.int 1))) (gName 4))))
  (tDrop (tBM K "list" rAppend (tVar 2) (tCons (tBM K "list" rPopAt (tVar 3) (tCons (tC (.int 0)) tNil)) tNil)))))))
  (tRet (tVar 2)))))
def sOut (K : PySem.W.Frag) : Sp := fun vs H Q _ => ∃ l xs, ∃ d : Int, vs = [.ref l, .int d] ∧ SqL K H l xs ∧ xs.length ≤ 1000 ∧ xs.all plain = true ∧ 1 ≤ d ∧
  ∀ q H', H q = none → Ex H H' → H' q = some (.lst (Jos.out (d - 1).toNat xs.length xs)) → Q (.ref q) H'
theorem ty_l {K : PySem.W.Frag} {H : Hp} {p : Addr} {xs : List V} (h : H p = some (.lst xs)) : tyV K "list" (.ref p) H := .inl ⟨rfl, _, sq_of h⟩
theorem rotN_plain {k : Nat} {l : List V} (h : l.all plain = true) : (Jos.rotN k l).all plain = true := by
  rw [List.all_eq_true] at h ⊢
  exact fun x hx => h x ((Jos.rotN_perm k l).mem_iff.mp hx)
/-- what stays: H, the two lists -/
structure OutAt (H H' : Hp) (f w : Addr) (done left : List V) : Prop where
  ex : Ex H H'
  nf : H f = none
  nw : H w = none
  ne : w ≠ f
  hf : H' f = some (.lst done)
  hw : H' w = some (.lst left)
theorem OutAt.setw {H H' : Hp} {f w : Addr} {done left ys : List V} (o : OutAt H H' f w done left) : OutAt H (upd H' w (.lst ys)) f w done ys :=
  ⟨Evl.Ex.mut o.ex o.nw, o.nf, o.nw, o.ne, by rw [upd_ne o.ne.symm]; exact o.hf, upd_same⟩
theorem OutAt.setf {H H' : Hp} {f w : Addr} {done left ys : List V} (o : OutAt H H' f w done left) : OutAt H (upd H' f (.lst ys)) f w ys left :=
  ⟨Evl.Ex.mut o.ex o.nf, o.nf, o.nw, o.ne, upd_same, by rw [upd_ne o.ne]; exact o.hw⟩
theorem OutAt.new {H H' : Hp} {f w q : Addr} {done left : List V} {u : HO} (o : OutAt H H' f w done left) (h : H' q = none) : OutAt H (upd H' q u) f w done left :=
  ⟨o.ex.trans (Evl.Ex.new h), o.nf, o.nw, o.ne, Evl.Ex.new h _ _ o.hf, Evl.Ex.new h _ _ o.hw⟩
theorem seq0 {n : Nat} (h : 0 < n) : seqIndex? 0 n = some 0 := by
  unfold seqIndex?
  simp
  omega
theorem pure_out {K : PySem.W.Frag} {vs : List V} {H : Hp} {Q : VK} {E : XK} {nx : L2.St → Hp → Prop} (h : sOut K vs H Q E) : t_out K { nx := nx, rt := Q } (start ["_law_row", "_law_step_here", "_law_found", "_law_left", "_law_told"] vs) H := by
  obtain ⟨l, xs, d, rfl, hl, hz, hp, hd, q⟩ := h
  refine ⟨Nat.zero_le _, fun f nf => ?_⟩
  have e1 : Ex H (upd H f (.lst [])) := Evl.Ex.new nf
  refine ⟨_, rfl, l, xs, rfl, .inl (ex_l e1 hl), fun w nw => ?_⟩
  have e2 : Ex (upd H f (.lst [])) (upd (upd H f (.lst [])) w (.lst xs)) := Evl.Ex.new nw
  have o0 : OutAt H (upd (upd H f (.lst [])) w (.lst xs)) f w [] xs := ⟨e1.trans e2, nf, fresh_back e1 nw, fun e => (by rw [e, upd_same] at nw; cases nw), e2 _ _ upd_same, upd_same⟩
  refine ⟨fun m σ H' => ∃ done left y4, σ = [some (.ref l), some (.int d), some (.ref f), some (.ref w), y4] ∧ m = left.length ∧ OutAt H H' f w done left ∧ left.length ≤ 1000 ∧ done.length + left.length ≤ 1000 ∧ left.all plain = true ∧
    done ++ Jos.out (d - 1).toNat left.length left = Jos.out (d - 1).toNat xs.length xs, ⟨xs.length, [], xs, none, rfl, rfl, o0, hz, by simpa using hz, hp, rfl⟩, ?_⟩
  intro m σ H' hW
  obtain ⟨done, left, y4, rfl, rfl, o, hz1, hz2, hpl, ho⟩ := hW
  refine ⟨_, rfl, Nat.zero_le _, fun c nc => ?_⟩
  have oc := o.new (u := .lst []) nc
  refine ⟨w, c, left, [], rfl, rfl, sq_of oc.hw, sq_of upd_same, hpl, rfl, _, rfl, ?_⟩
  cases left with
  | nil =>
    refine iteF ?_
    refine ⟨_, rfl, ?_⟩
    rw [← ho, List.length_nil, Jos.out, List.append_nil] at q
    exact q f _ nf oc.ex oc.hf
  | cons x0 r0 =>
    generalize hleft : x0 :: r0 = left at *
    have hpos : 0 < left.length := by rw [← hleft]; simp
    have hne : left ≠ [] := by rw [← hleft]; simp
    refine if_pos (show (if true = true then !decide (left = []) else decide (left = [])) = true by simp [hne]) ▸ ?_
    refine ⟨fun σ2 H2 => ∃ m', m' < left.length ∧ ∃ done' left' y4, σ2 = [some (.ref l), some (.int d), some (.ref f), some (.ref w), y4] ∧ m' = left'.length ∧ OutAt H H2 f w done' left' ∧ left'.length ≤ 1000 ∧ done'.length + left'.length ≤ 1000 ∧ left'.all plain = true ∧
      done' ++ Jos.out (d - 1).toNat left'.length left' = Jos.out (d - 1).toNat xs.length xs, fun _ _ h => h, ?_⟩
    generalize (upd H' c (.lst [])) = Hc at oc
    -- told = step, or what is left of it
    have key : ∀ (t : Int), 1 ≤ t → (t - 1).toNat % left.length = (d - 1).toNat % left.length → (tSeq (tWhile (tTest (tOp oGt (tVar 4) (tC (.int 1))))
      (tSeq (tDrop (tBM K "list" rAppend (tVar 3) (tCons (tBM K "list" rPopAt (tVar 3) (tCons (tC (.int 0)) tNil)) tNil)))
      (tAsg (tOp oSub (tVar 4) (tC (.int 1))) (gName 4))))
      (tDrop (tBM K "list" rAppend (tVar 2) (tCons (tBM K "list" rPopAt (tVar 3) (tCons (tC (.int 0)) tNil)) tNil))))
      { nx := fun σ2 H2 => ∃ m', m' < left.length ∧ ∃ done' left' y4, σ2 = [some (.ref l), some (.int d), some (.ref f), some (.ref w), y4] ∧ m' = left'.length ∧ OutAt H H2 f w done' left' ∧ left'.length ≤ 1000 ∧ done'.length + left'.length ≤ 1000 ∧ left'.all plain = true ∧
      done' ++ Jos.out (d - 1).toNat left'.length left' = Jos.out (d - 1).toNat xs.length xs, rt := Q } [some (.ref l), some (.int d), some (.ref f), some (.ref w), some (.int t)] Hc := by
      intro t ht hm
      have hrot : Jos.rotN (t - 1).toNat left = Jos.rotN (d - 1).toNat left := Jos.rotN_congr hm
      refine ⟨fun m σ3 H3 => ∃ s left', σ3 = [some (.ref l), some (.int d), some (.ref f), some (.ref w), some (.int s)] ∧ 1 ≤ s ∧ m = s.toNat ∧ OutAt H H3 f w done left' ∧ left'.length = left.length ∧ Jos.rotN (s - 1).toNat left' = Jos.rotN (d - 1).toNat left,
        ⟨t.toNat, t, left, rfl, ht, rfl, oc, rfl, hrot⟩, ?_⟩
      intro m σ3 H3 hW
      obtain ⟨s, left', rfl, hs, rfl, o3, hl3, hr3⟩ := hW
      refine ⟨_, rfl, _, _, rfl, rfl, _, rfl, ite2 (fun e => ?_) (fun e => ?_)⟩
      · have hs1 : 1 < s := of_decide_eq_true e
        refine ⟨fun σ4 H4 => ∃ m', m' < s.toNat ∧ ∃ s left', σ4 = [some (.ref l), some (.int d), some (.ref f), some (.ref w), some (.int s)] ∧ 1 ≤ s ∧ m' = s.toNat ∧ OutAt H H4 f w done left' ∧ left'.length = left.length ∧ Jos.rotN (s - 1).toNat left' = Jos.rotN (d - 1).toNat left, fun _ _ h => h, ?_⟩
        cases left' with
        | nil => simp at hl3; omega
        | cons x r =>
          refine ⟨_, rfl, ty_l o3.hw, _, rfl, ty_l o3.hw, w, x :: r, 0, 0, x, rfl, rfl, o3.hw, by omega, by omega, seq0 (by simp), rfl, ?_⟩
          have o4 : OutAt H (upd H3 w (.lst ((x :: r).eraseIdx 0))) f w done r := o3.setw
          refine ⟨w, r, x, rfl, rfl, o4.hw, sz_lt (by simp at hl3; omega), ?_⟩
          refine ⟨_, rfl, _, _, rfl, rfl, ?_⟩
          refine ⟨(s - 1).toNat, by omega, s - 1, r ++ [x], rfl, by omega, rfl, o4.setw, by simp at hl3 ⊢; omega, ?_⟩
          rw [← hr3, show (s - 1).toNat = (s - 1 - 1).toNat + 1 by omega]
          rfl
      · have hs1 : ¬ 1 < s := fun z => e (decide_eq_true z)
        have es : (s - 1).toNat = 0 := by omega
        rw [es] at hr3
        have hr4 : left' = Jos.rotN (d - 1).toNat left := hr3
        cases left' with
        | nil => simp at hl3; omega
        | cons x r =>
          refine ⟨_, rfl, ty_l o3.hf, _, rfl, ty_l o3.hw, w, x :: r, 0, 0, x, rfl, rfl, o3.hw, by omega, by omega, seq0 (by simp), rfl, ?_⟩
          have o4 : OutAt H (upd H3 w (.lst ((x :: r).eraseIdx 0))) f w done r := o3.setw
          refine ⟨f, done, x, rfl, rfl, o4.hf, sz_lt (by omega), ?_⟩
          simp only [List.length_cons] at hl3
          refine ⟨r.length, by omega, done ++ [x], r, _, rfl, rfl, o4.setf, by omega, by simp; omega, ?_, ?_⟩
          · have h1 := rotN_plain (k := (d - 1).toNat) hpl
            rw [← hr4, List.all_cons, Bool.and_eq_true] at h1
            exact h1.2
          · rw [← ho, List.append_assoc]
            congr 1
            rw [← hl3, Jos.out, ← hr4]
            rfl
    refine ⟨_, rfl, ?_⟩
    refine ⟨_, rfl, _, rfl, w, left, rfl, .inl (sq_of oc.hw), _, _, rfl, rfl, .inl ⟨by decide, by decide⟩, _, _, rfl, rfl, _, rfl, ite2 (fun e => ?_) (fun e => ?_)⟩
    · have e1 : 3 * (left.length : Int) < d := of_decide_eq_true e
      refine ⟨_, rfl, _, rfl, w, left, rfl, .inl (sq_of oc.hw), _, _, rfl, rfl, pos0 (by omega), _, rfl, w, left, rfl, .inl (sq_of oc.hw), _, _, rfl, rfl, .inl ⟨by decide, by decide⟩, _, _, rfl, rfl, ?_⟩
      have c1 : 0 ≤ d % (left.length : Int) := Int.emod_nonneg _ (by omega)
      have c2 : d % (left.length : Int) < left.length := Int.emod_lt_of_pos _ (by omega)
      refine key _ (by omega) ?_
      apply Int.ofNat.inj
      show (((d % (left.length : Int) + 2 * (left.length : Int) - 1).toNat % left.length : Nat) : Int) = (((d - 1).toNat % left.length : Nat) : Int)
      rw [Int.natCast_emod, Int.natCast_emod, Int.toNat_of_nonneg (by omega), Int.toNat_of_nonneg (by omega)]
      rw [show d % (left.length : Int) + 2 * (left.length : Int) - 1 = (d % (left.length : Int) - 1) + (left.length : Int) * 2 by omega, Int.add_mul_emod_self_left, Int.emod_sub_emod]
    · exact key d hd rfl
end Cd

set_option Elab.async false
set_option linter.all false
set_option maxRecDepth 100000
set_option maxHeartbeats 2000000
namespace Cd
open PySem PySem.Spec PyProof.Rows L2
open Evl (Ex sq_of ex_l sz_of sz_lt fresh_back)
def t_step : TS :=
(tRet (tCall sOf [] E0 (tCons (tVar 0) (tCons (tLst (tCons (tC (.int 1)) (tCons (tC (.int 2)) (tCons (tC (.int 3)) (tCons (tOp oAdd (tC (.int 1)) (tOp oMod (tCall sNext [] E0 (tCons (tVar 0) tNil)) (tC (.int 12)))) (tCons (tOp oAdd (tC (.int 1)) (tOp oMod (tCall sNext [] E0 (tCons (tVar 0) tNil)) (tVar 1))) (tCons (tVar 1) tNil))))))) tNil))))
def sStep : Sp := fun vs H Q _ => ∃ p, ∃ m : Int, vs = [.ref p, .int m] ∧ StAt H p ∧ 12 ≤ m ∧ ∀ H' d, Run p H H' → 1 ≤ d → d ≤ m → Q (.int d) H'
theorem pure_step {vs : List V} {H : Hp} {Q : VK} {E : XK} {nx : L2.St → Hp → Prop} (h : sStep vs H Q E) : t_step { nx := nx, rt := Q } (start ["_law_state_here", "_law_most"] vs) H := by
  obtain ⟨p, m, rfl, hst, hm, q⟩ := h
  refine ⟨_, rfl, ?_⟩
  refine ⟨_, rfl, p, rfl, hst, fun H1 n1 r1 n10 n11 => ?_⟩
  refine ⟨_, _, rfl, rfl, pos0 (by decide), _, _, rfl, rfl, _, rfl, p, rfl, r1.2, fun H2 n2 r2 n20 n21 => ?_⟩
  refine ⟨_, rfl, _, _, rfl, rfl, pos0 (by omega), _, _, rfl, rfl, _, rfl, (by decide : 6 ≤ sizeLine), fun l nl => ?_⟩
  have r := r1.trans r2
  refine ⟨p, .ref l, rfl, r2.2.ex (Evl.Ex.new nl), .inl ⟨l, _, rfl, r2.2.ne nl, upd_same, by simp, fun H3 v r3 hv => ?_⟩⟩
  have a1 : 0 ≤ n1 % 12 := Int.emod_nonneg _ (by decide)
  have a2 : n1 % 12 < 12 := Int.emod_lt_of_pos _ (by decide)
  have b1 : 0 ≤ n2 % m := Int.emod_nonneg _ (by omega)
  have b2 : n2 % m < m := Int.emod_lt_of_pos _ (by omega)
  have rr := (r.new nl).trans r3
  simp only [List.mem_cons, List.not_mem_nil, or_false] at hv
  rcases hv with rfl | rfl | rfl | rfl | rfl | rfl <;> exact q H3 _ rr (by omega) (by omega)
/-! ### kinds of things -/
/-- a thing of a told kind -/
def isI : V → Bool
  | .int _ => true
  | _ => false
def Typ (K : PySem.W.Frag) (H : Hp) (x : V) : Prop := ∃ T : String, TyX K H x (.type T) ∧ T ∈ ["NoneType", "bool", "int", "str", "list", "tuple", "dict"] ∧ (T = "int" ↔ isI x = true)
theorem Typ.int {K : PySem.W.Frag} {H : Hp} {i : Int} : Typ K H (.int i) := ⟨"int", .base (.int i), by decide, by simp [isI]⟩
theorem Typ.non {K : PySem.W.Frag} {H : Hp} : Typ K H .non := ⟨"NoneType", .base .non, by decide, by simp [isI]⟩
theorem Typ.bl {K : PySem.W.Frag} {H : Hp} {b : Bool} : Typ K H (.bl b) := ⟨"bool", .base (.bl b), by decide, by simp [isI]⟩
theorem Typ.str {K : PySem.W.Frag} {H : Hp} {x : Str} : Typ K H (.str x) := ⟨"str", .base (.str x), by decide, by simp [isI]⟩
theorem Typ.lst {K : PySem.W.Frag} {H : Hp} {a : Addr} {xs : List V} (h : H a = some (.lst xs)) : Typ K H (.ref a) := ⟨"list", .base (.lst h), by decide, by simp [isI]⟩
theorem Typ.tup {K : PySem.W.Frag} {H : Hp} {a : Addr} {xs : List V} (h : H a = some (.tup xs)) : Typ K H (.ref a) := ⟨"tuple", .base (.tup h), by decide, by simp [isI]⟩
theorem Typ.dic {K : PySem.W.Frag} {H : Hp} {a : Addr} {xs : List (Key × V)} (h : H a = some (.dK xs)) : Typ K H (.ref a) := ⟨"dict", .base (.dK h), by decide, by simp [isI]⟩
def whB (x : V) (lo hi : Int) : Bool := match x with
  | .int i => decide (lo ≤ i) && decide (i ≤ hi)
  | _ => false
def t_is_whole (K : PySem.W.Frag) : TS :=
(tRet (tAndV (tCB (rIsi K) (tCons (tVar 0) (tCons (tC (.ty "int")) tNil))) (tAndV (tNotV (tCB (rIsi K) (tCons (tVar 0) (tCons (tC (.ty "bool")) tNil)))) (tChain oLe oLe (tVar 1) (tVar 0) (tVar 2)))))
def sIsW (K : PySem.W.Frag) : Sp := fun vs H Q _ => ∃ x, ∃ lo hi : Int, vs = [x, .int lo, .int hi] ∧ Typ K H x ∧ Q (.bl (whB x lo hi)) H
theorem pure_is_whole {K : PySem.W.Frag} {vs : List V} {H : Hp} {Q : VK} {E : XK} {nx : L2.St → Hp → Prop} (h : sIsW K vs H Q E) : t_is_whole K { nx := nx, rt := Q } (start ["thing", "low", "high"] vs) H := by
  obtain ⟨x, lo, hi, rfl, ⟨T, hT, hm, hI⟩, q⟩ := h
  simp only [List.mem_cons, List.not_mem_nil, or_false] at hm
  by_cases e : T = "int"
  · subst e
    have hx := hI.mp rfl
    cases x <;> first | (simp [isI] at hx; done) | skip
    rename_i i
    refine ⟨_, rfl, _, _, _, _, true, rfl, .ty "int", hT, kit_ty (by decide +kernel), true, rfl, iteT ?_⟩
    refine ⟨_, rfl, _, _, _, _, false, rfl, .ty "bool", hT, kit_ty (by decide +kernel), false, rfl, true, rfl, iteT ?_⟩
    refine ⟨_, rfl, _, rfl, _, _, rfl, rfl, _, rfl, ite2 (fun e1 => ?_) (fun e1 => ?_)⟩
    · refine ⟨_, rfl, _, _, rfl, rfl, ?_⟩
      have e2 : whB (.int i) lo hi = decide (i ≤ hi) := by
        show (decide (lo ≤ i) && decide (i ≤ hi)) = _
        rw [e1, Bool.true_and]
      rw [e2] at q
      exact q
    · have e2 : whB (.int i) lo hi = false := by
        show (decide (lo ≤ i) && decide (i ≤ hi)) = _
        rw [Bool.eq_false_iff.mpr e1, Bool.false_and]
      rw [e2] at q
      exact q
  · have hx : isI x = false := by
      cases h : isI x with
      | false => rfl
      | true => exact absurd (hI.mpr h) e
    have hw : whB x lo hi = false := by cases x <;> first | rfl | (simp [isI] at hx; done)
    rw [hw] at q
    by_cases eb : T = "bool"
    · subst eb
      refine ⟨_, rfl, _, _, _, _, true, rfl, .ty "int", hT, kit_ty (by decide +kernel), true, rfl, iteT ?_⟩
      exact ⟨_, rfl, _, _, _, _, true, rfl, .ty "bool", hT, kit_ty (by decide +kernel), true, rfl, false, rfl, iteF q⟩
    · refine ⟨_, rfl, _, _, _, _, false, rfl, .ty "int", hT, kit_ty ?_, false, rfl, iteF q⟩
      rcases hm with rfl | rfl | rfl | rfl | rfl | rfl | rfl <;> first | exact absurd rfl e | exact absurd rfl eb | decide +kernel
def t_whole (K : PySem.W.Frag) : TS :=
(tRet (tAndV (tCB (rIsi K) (tCons (tVar 0) (tCons (tC (.ty "int")) tNil))) (tNotV (tCB (rIsi K) (tCons (tVar 0) (tCons (tC (.ty "bool")) tNil))))))
def sWhole : Sp := fun vs H Q _ => ∃ i : Int, vs = [.int i] ∧ Q (.bl true) H
theorem pure_whole {K : PySem.W.Frag} {vs : List V} {H : Hp} {Q : VK} {E : XK} {nx : L2.St → Hp → Prop} (h : sWhole vs H Q E) : t_whole K { nx := nx, rt := Q } (start ["_law_found"] vs) H := by
  obtain ⟨i, rfl, q⟩ := h
  refine ⟨_, rfl, _, _, _, _, true, rfl, .ty "int", .base (.int i), kit_ty (by decide +kernel), true, rfl, iteT ?_⟩
  exact ⟨_, rfl, _, _, _, _, false, rfl, .ty "bool", .base (.int i), kit_ty (by decide +kernel), false, rfl, q⟩
end Cd

set_option Elab.async false
set_option linter.all false
set_option maxRecDepth 100000
set_option maxHeartbeats 2000000
namespace Cd
open PySem PySem.Spec PyProof.Rows L2
open Evl (Ex sq_of ex_l sz_of sz_lt fresh_back)
/-! ### which numbers are taken -/
def t_check_many (K : PySem.W.Frag) (C : Addr) (E : XK) : TS :=
(tIfS (tNot (tB (tCall (sIsW K) [] E0 (tCons (tVar 0) (tCons (tC (.int 1)) (tCons (tVar 1) tNil))))))
  (tRaise C E)
  tNext)
/-- from 1 on (many, step) -/
def sCk1 (K : PySem.W.Frag) (C : Addr) : Sp := fun vs H Q E => ∃ x, ∃ hi : Int, vs = [x, .int hi] ∧ Typ K H x ∧ (whB x 1 hi = true → Q .non H) ∧ (whB x 1 hi = false → E (.ref C) none H)
theorem pure_ck1 {K : PySem.W.Frag} {C : Addr} {N : List Str} {vs : List V} {H : Hp} {Q : VK} {E : XK} (hN : N.length = 2) (h : sCk1 K C vs H Q E) : t_check_many K C E { nx := fun _ H' => Q .non H', rt := Q } (start N vs) H := by
  obtain ⟨x, hi, rfl, ht, q1, q2⟩ := h
  have e : L2.start N [x, .int hi] = [some x, some (.int hi)] := by simp [L2.start, hN]
  rw [e]
  refine ⟨_, rfl, _, rfl, x, 1, hi, rfl, ht, _, rfl, ?_⟩
  cases hw : whB x 1 hi with
  | true => exact iteF (q1 hw)
  | false => exact iteT (q2 hw)
def t_check_place (K : PySem.W.Frag) (C : Addr) (E : XK) : TS :=
(tIfS (tNot (tB (tCall (sIsW K) [] E0 (tCons (tVar 0) (tCons (tC (.int 0)) (tCons (tOp oSub (tVar 1) (tC (.int 1))) tNil))))))
  (tRaise C E)
  tNext)
def sCkP (K : PySem.W.Frag) (C : Addr) : Sp := fun vs H Q E => ∃ x, ∃ m : Int, vs = [x, .int m] ∧ Typ K H x ∧ (whB x 0 (m - 1) = true → Q .non H) ∧ (whB x 0 (m - 1) = false → E (.ref C) none H)
theorem pure_check_place {K : PySem.W.Frag} {C : Addr} {vs : List V} {H : Hp} {Q : VK} {E : XK} (h : sCkP K C vs H Q E) : t_check_place K C E { nx := fun _ H' => Q .non H', rt := Q } (start ["place", "many"] vs) H := by
  obtain ⟨x, m, rfl, ht, q1, q2⟩ := h
  refine ⟨_, rfl, _, rfl, _, _, rfl, rfl, x, 0, m - 1, rfl, ht, _, rfl, ?_⟩
  cases hw : whB x 0 (m - 1) with
  | true => exact iteF (q1 hw)
  | false => exact iteT (q2 hw)
def t_check_count (K : PySem.W.Frag) (C : Addr) (E : XK) : TS :=
(tIfS (tNot (tB (tCall (sIsW K) [] E0 (tCons (tVar 0) (tCons (tVar 1) (tCons (tVar 2) tNil))))))
  (tRaise C E)
  tNext)
def sCkC (K : PySem.W.Frag) (C : Addr) : Sp := fun vs H Q E => ∃ x, ∃ lo hi : Int, vs = [x, .int lo, .int hi] ∧ Typ K H x ∧ (whB x lo hi = true → Q .non H) ∧ (whB x lo hi = false → E (.ref C) none H)
theorem pure_check_count {K : PySem.W.Frag} {C : Addr} {vs : List V} {H : Hp} {Q : VK} {E : XK} (h : sCkC K C vs H Q E) : t_check_count K C E { nx := fun _ H' => Q .non H', rt := Q } (start ["count", "low", "high"] vs) H := by
  obtain ⟨x, lo, hi, rfl, ht, q1, q2⟩ := h
  refine ⟨_, rfl, _, rfl, _, rfl, x, lo, hi, rfl, ht, _, rfl, ?_⟩
  cases hw : whB x lo hi with
  | true => exact iteF (q1 hw)
  | false => exact iteT (q2 hw)
theorem wh_int {x : V} {lo hi : Int} (h : whB x lo hi = true) : ∃ i : Int, x = .int i ∧ lo ≤ i ∧ i ≤ hi := by
  cases x <;> first | (simp [whB] at h; done) | skip
  rename_i i
  rw [whB, Bool.and_eq_true, decide_eq_true_eq, decide_eq_true_eq] at h
  exact ⟨i, rfl, h.1, h.2⟩
theorem wh_of {i lo hi : Int} (h1 : lo ≤ i) (h2 : i ≤ hi) : whB (.int i) lo hi = true := by
  rw [whB, Bool.and_eq_true, decide_eq_true_eq, decide_eq_true_eq]; exact ⟨h1, h2⟩
/-! ### rings told by numbers -/
def big : Int := 1000000000000000000000000000000000000000000000000000000000000
def t_check_ring (K : PySem.W.Frag) (CM CS CP : Addr) (E : XK) : TS :=
(tSeq (tDrop (tCall (sCk1 K CM) [] E (tCons (tVar 0) (tCons (tC (.int (1000000000000000000000000000000000000000000000000000000000000))) tNil))))
  (tSeq (tDrop (tCall (sCk1 K CS) [] E (tCons (tVar 1) (tCons (tC (.int (100))) tNil))))
  (tDrop (tCall (sCkP K CP) [] E (tCons (tVar 2) (tCons (tVar 0) tNil))))))
/-- many, step, begin: the first refusal that is due -/
@[irreducible] def sRing (K : PySem.W.Frag) (CM CS CP : Addr) : Sp := fun vs H Q E => ∃ m d b, vs = [m, d, b] ∧ Typ K H m ∧ Typ K H d ∧ Typ K H b ∧
  (whB m 1 big = false → E (.ref CM) none H) ∧ (∀ n : Int, m = .int n → 1 ≤ n → n ≤ big →
    (whB d 1 100 = false → E (.ref CS) none H) ∧ (whB d 1 100 = true → (whB b 0 (n - 1) = false → E (.ref CP) none H) ∧ (whB b 0 (n - 1) = true → Q .non H)))
theorem pure_check_ring {K : PySem.W.Frag} {CM CS CP : Addr} {vs : List V} {H : Hp} {Q : VK} {E : XK} (h : sRing K CM CS CP vs H Q E) : t_check_ring K CM CS CP E { nx := fun _ H' => Q .non H', rt := Q } (start ["many", "step", "begin"] vs) H := by
  unfold sRing at h
  obtain ⟨m, d, b, rfl, tm, td, tb, q0, q⟩ := h
  refine ⟨_, rfl, m, _, rfl, tm, fun h1 => ?_, fun h1 => q0 h1⟩
  obtain ⟨n, rfl, n1, n2⟩ := wh_int h1
  have q := q n rfl n1 n2
  refine ⟨_, rfl, d, _, rfl, td, fun h2 => ?_, fun h2 => q.1 h2⟩
  have q := q.2 h2
  exact ⟨_, rfl, _, rfl, b, n, rfl, tb, fun h3 => q.2 h3, fun h3 => q.1 h3⟩
/-! the count of a place -/
/-- many m, step d, from number n on: the number at which the one who is told n goes -/
def goN (m d : Nat) : Nat → Nat → Nat
  | 0, n => n
  | f + 1, n => if n % d = 0 then n else goN m d f (m + n - n / d)
def t_count_of (K : PySem.W.Frag) (CM CS CP : Addr) (E : XK) : TS :=
(tSeq (tDrop (tCall (sRing K CM CS CP) [] E (tCons (tVar 0) (tCons (tVar 1) (tCons (tVar 2) tNil)))))
  (tSeq (tDrop (tCall (sCkP K CP) [] E (tCons (tVar 3) (tCons (tVar 0) tNil))))
  (tSeq (tAsg (tOp oAdd (tOp oMod (tOp oSub (tVar 3) (tVar 2)) (tVar 0)) (tC (.int 1))) (gName 4))
  (tSeq (tWhile (tTest (tOp rNe (tOp oMod (tVar 4) (tVar 1)) (tC (.int 0))))
  (tAsg (tOp oSub (tOp oAdd (tVar 0) (tVar 4)) (tOp oFdiv (tVar 4) (tVar 1))) (gName 4)))
  (tRet (tOp oFdiv (tVar 4) (tVar 1)))))))
/-- refused likewise: the ring's three, then what stands behind -/
def sRef (K : PySem.W.Frag) (CM CS CP : Addr) (m d b : V) (H : Hp) (E : XK) (ok : Int → Int → Int → Prop) : Prop :=
  Typ K H m ∧ Typ K H d ∧ Typ K H b ∧
  (whB m 1 big = false → E (.ref CM) none H) ∧ (∀ n : Int, m = .int n → 1 ≤ n → n ≤ big →
    (whB d 1 100 = false → E (.ref CS) none H) ∧ (∀ s : Int, d = .int s → 1 ≤ s → s ≤ 100 → (whB b 0 (n - 1) = false → E (.ref CP) none H) ∧ (∀ g : Int, b = .int g → 0 ≤ g → g < n → ok n s g)))
theorem sRef.ring {K : PySem.W.Frag} {CM CS CP : Addr} {m d b : V} {H : Hp} {Q : VK} {E : XK} {ok : Int → Int → Int → Prop} (h : sRef K CM CS CP m d b H E ok)
    (k : ∀ n s g : Int, m = .int n → d = .int s → b = .int g → 1 ≤ n → n ≤ big → 1 ≤ s → s ≤ 100 → 0 ≤ g → g < n → ok n s g → Q .non H) : sRing K CM CS CP [m, d, b] H Q E := by
  obtain ⟨tm, td, tb, q0, q⟩ := h
  unfold sRing
  refine ⟨m, d, b, rfl, tm, td, tb, q0, fun n en n1 n2 => ⟨(q n en n1 n2).1, fun hd => ?_⟩⟩
  obtain ⟨s, es, s1, s2⟩ := wh_int hd
  have q := (q n en n1 n2).2 s es s1 s2
  refine ⟨q.1, fun hb => ?_⟩
  obtain ⟨g, eg, g1, g2⟩ := wh_int hb
  exact k n s g en es eg n1 n2 s1 s2 g1 (by omega) (q.2 g eg g1 (by omega))
@[irreducible] def sCount (K : PySem.W.Frag) (CM CS CP : Addr) : Sp := fun vs H Q E => ∃ m d b x, vs = [m, d, b, x] ∧ Typ K H x ∧ sRef K CM CS CP m d b H E fun n s g =>
  (whB x 0 (n - 1) = false → E (.ref CP) none H) ∧ ∀ p : Nat, x = .int (p : Int) → (p : Int) < n → ∀ c : Nat, (Jos.order s.toNat n.toNat g.toNat)[c]? = some p → Q (.int ((c : Int) + 1)) H
theorem pure_count_of {K : PySem.W.Frag} {CM CS CP : Addr} {vs : List V} {H : Hp} {Q : VK} {E : XK} (h : sCount K CM CS CP vs H Q E) : t_count_of K CM CS CP E { nx := fun _ H' => Q .non H', rt := Q } (start ["many", "step", "begin", "place", "number"] vs) H := by
  unfold sCount at h
  obtain ⟨m, d, b, x, rfl, tx, h⟩ := h
  refine ⟨_, rfl, _, rfl, _, rfl, ?_⟩
  show sRing K CM CS CP [m, d, b] H _ E
  refine h.ring fun n s g em es eg n1 n2 s1 s2 g1 g2 ok => ?_
  subst em es eg
  refine ⟨_, rfl, _, rfl, x, n, rfl, tx, fun hx => ?_, fun hx => ok.1 hx⟩
  obtain ⟨p', rfl, p1, p2⟩ := wh_int hx
  obtain ⟨p, rfl⟩ : ∃ p : Nat, p' = (p : Int) := ⟨p'.toNat, by omega⟩
  have ok := ok.2 p rfl (by omega)
  obtain ⟨M, rfl⟩ : ∃ M : Nat, n = (M : Int) := ⟨n.toNat, by omega⟩
  obtain ⟨D, rfl⟩ : ∃ D : Nat, s = (D : Int) := ⟨s.toNat, by omega⟩
  obtain ⟨B, rfl⟩ : ∃ B : Nat, g = (B : Int) := ⟨g.toNat, by omega⟩
  simp only [Int.toNat_natCast] at ok
  have hD : 0 < D := by omega
  refine ⟨_, rfl, _, rfl, _, _, rfl, rfl, _, rfl, _, _, rfl, rfl, pos0 (by omega), _, _, rfl, rfl, ?_⟩
  -- the first number
  obtain ⟨N0, hN0, h0l, h0t⟩ : ∃ N0 : Nat, ((p : Int) - (B : Int)) % (M : Int) + 1 = (N0 : Int) ∧ 1 ≤ N0 ∧ N0 ≤ M ∧ Jos.told D (Jos.ring M B) N0 = some p := by
    have c1 : 0 ≤ ((p : Int) - (B : Int)) % (M : Int) := Int.emod_nonneg _ (by omega)
    have c2 : ((p : Int) - (B : Int)) % (M : Int) < M := Int.emod_lt_of_pos _ (by omega)
    refine ⟨(((p : Int) - (B : Int)) % (M : Int) + 1).toNat, by omega, by omega, by omega, ?_⟩
    rw [Jos.told_first hD (by omega) (by rw [Jos.ring_len]; omega), Jos.ring_get (by omega) (by omega)]
    congr 1
    apply Int.ofNat.inj
    show (((B + ((((p : Int) - (B : Int)) % (M : Int) + 1).toNat - 1)) % M : Nat) : Int) = (p : Int)
    rw [show B + ((((p : Int) - (B : Int)) % (M : Int) + 1).toNat - 1) = B + (((p : Int) - (B : Int)) % (M : Int)).toNat by omega, Int.natCast_emod, Int.natCast_add, Int.toNat_of_nonneg c1, Int.add_emod_emod, show (B : Int) + ((p : Int) - (B : Int)) = (p : Int) by omega]
    exact Int.emod_eq_of_lt (by omega) (by omega)
  dsimp only
  rw [hN0]
  have hMD : M ≤ M * D := Nat.le_mul_of_pos_right M hD
  refine ⟨fun μ σ H' => ∃ N : Nat, σ = [some (.int (M : Int)), some (.int (D : Int)), some (.int (B : Int)), some (.int (p : Int)), some (.int (N : Int))] ∧ H' = H ∧ μ = M * D - N ∧ 1 ≤ N ∧ N ≤ M * D ∧ Jos.told D (Jos.ring M B) N = some p,
    ⟨M * D - N0, N0, rfl, rfl, rfl, h0l, by omega, h0t.2⟩, ?_⟩
  intro μ σ H' hW
  obtain ⟨N, rfl, rfl, rfl, hN1, hN2, hN3⟩ := hW
  refine ⟨_, rfl, _, rfl, _, _, rfl, rfl, pos0 (by omega), rfl, _, rfl, ?_⟩
  refine iteC (fun e => ?_) (fun e => ?_)
  rotate_left
  · have hz : N % D = 0 := by
      rw [Bool.not_eq_false', decide_eq_true_eq] at e
      have z := V.int.inj e
      rw [← Int.natCast_emod] at z
      omega
    refine ⟨_, rfl, _, rfl, _, _, rfl, rfl, ⟨by omega, by omega⟩, ?_⟩
    dsimp only
    rw [← Int.natCast_ediv]
    have hq := Nat.div_add_mod N D
    rw [hz, Nat.add_zero] at hq
    have q1 : 0 < N / D := Nat.div_pos (Nat.le_of_dvd (by omega) (Nat.dvd_of_mod_eq_zero hz)) hD
    have q2 : N / D ≤ M := Nat.div_le_of_le_mul (by rw [Nat.mul_comm]; exact hN2)
    have k := ok (N / D - 1) (by
      rw [Jos.order_told hD (by omega), show (N / D - 1 + 1) * D = N by rw [show N / D - 1 + 1 = N / D by omega, Nat.mul_comm]; exact hq]
      exact hN3)
    rw [show ((N / D : Nat) : Int) = ((N / D - 1 : Nat) : Int) + 1 by omega]
    exact k
  · have hz : N % D ≠ 0 := by
      rw [Bool.not_eq_true', decide_eq_false_iff_not] at e
      intro z
      exact e (by show V.int ((N : Int) % (D : Int)) = V.int 0; rw [← Int.natCast_emod, z]; rfl)
    obtain ⟨l1, l2, l3⟩ := Jos.leap_up hD hN2 hz
    refine ⟨fun σ' H'' => ∃ m', m' < M * D - N ∧ ∃ N : Nat, σ' = [some (.int (M : Int)), some (.int (D : Int)), some (.int (B : Int)), some (.int (p : Int)), some (.int (N : Int))] ∧ H'' = H' ∧ m' = M * D - N ∧ 1 ≤ N ∧ N ≤ M * D ∧ Jos.told D (Jos.ring M B) N = some p, fun _ _ h => h, ?_⟩
    refine ⟨_, rfl, _, rfl, _, _, rfl, rfl, _, rfl, _, rfl, _, _, rfl, rfl, ⟨by omega, by omega⟩, _, _, rfl, rfl, ?_⟩
    refine ⟨M * D - (M + N - N / D), by omega, M + N - N / D, ?_, rfl, rfl, by omega, l2, ?_⟩
    · have e2 : (M : Int) + (N : Int) - (N : Int) / (D : Int) = ((M + N - N / D : Nat) : Int) := by
        rw [← Int.natCast_ediv]; omega
      dsimp only
      rw [e2]
      rfl
    · have := Jos.told_leap (l := Jos.ring M B) hD hN1 (by rw [Jos.ring_len]; exact hN2) hz
      rw [Jos.ring_len] at this
      rw [this]
      exact hN3
end Cd

set_option Elab.async false
set_option linter.all false
set_option maxRecDepth 100000
set_option maxHeartbeats 2000000
namespace Cd
open PySem PySem.Spec PyProof.Rows L2
open Evl (Ex sq_of ex_l sz_of sz_lt fresh_back)
def t_place_at : TS :=
(tSeq (tAsg (tOp oMul (tVar 3) (tVar 1)) (gName 4))
  (tSeq (tWhile (tTest (tOp oGt (tVar 4) (tVar 0)))
  (tSeq (tAsg (tOp oSub (tVar 4) (tVar 0)) (gName 5))
  (tAsg (tOp oAdd (tVar 5) (tOp oFdiv (tOp oSub (tVar 5) (tC (.int 1))) (tOp oSub (tVar 1) (tC (.int 1))))) (gName 4))))
  (tRet (tOp oMod (tOp oSub (tOp oAdd (tVar 2) (tVar 4)) (tC (.int 1))) (tVar 0)))))
def sPlace : Sp := fun vs H Q _ => ∃ M D B C : Nat, vs = [.int (M : Int), .int (D : Int), .int (B : Int), .int (C : Int)] ∧ 1 ≤ D ∧ D ≤ 100 ∧ B < M ∧ 1 ≤ C ∧ C ≤ M ∧
  ∀ p : Nat, (Jos.order D M B)[C - 1]? = some p → Q (.int (p : Int)) H
theorem pure_place_at {vs : List V} {H : Hp} {Q : VK} {E : XK} {nx : L2.St → Hp → Prop} (h : sPlace vs H Q E) : t_place_at { nx := nx, rt := Q } (start ["many", "step", "begin", "count", "number", "over"] vs) H := by
  obtain ⟨M, D, B, C, rfl, d1, d2, b1, c1, c2, q⟩ := h
  have hD : 0 < D := by omega
  refine ⟨_, rfl, _, rfl, _, _, rfl, rfl, .inr ⟨by omega, by omega⟩, ?_⟩
  have hCD : D ≤ C * D := Nat.le_mul_of_pos_left D (by omega)
  have hCM : C * D ≤ M * D := Nat.mul_le_mul_right D c2
  have hlen : (Jos.order D M B).length = M := Jos.order_len D M B
  obtain ⟨p, hp⟩ : ∃ p, (Jos.order D M B)[C - 1]? = some p := ⟨_, List.getElem?_eq_getElem (by omega)⟩
  have q := q p hp
  have ht : Jos.told D (Jos.ring M B) (C * D) = some p := by
    rw [Jos.order_told hD (by omega), show C - 1 + 1 = C by omega] at hp
    exact hp
  dsimp only
  rw [show (C : Int) * (D : Int) = ((C * D : Nat) : Int) by rw [Int.natCast_mul]]
  refine ⟨fun μ σ H' => ∃ N : Nat, ∃ y5, σ = [some (.int (M : Int)), some (.int (D : Int)), some (.int (B : Int)), some (.int (C : Int)), some (.int (N : Int)), y5] ∧ H' = H ∧ μ = N ∧ 1 ≤ N ∧ N ≤ M * D ∧ Jos.told D (Jos.ring M B) N = some p,
    ⟨C * D, C * D, none, rfl, rfl, rfl, by omega, hCM, ht⟩, ?_⟩
  intro μ σ H' hW
  obtain ⟨N, y5, rfl, rfl, hmu, hN1, hN2, hN3⟩ := hW
  refine ⟨_, rfl, _, rfl, _, _, rfl, rfl, _, rfl, iteC (fun e => ?_) (fun e => ?_)⟩
  · have e1 : (M : Int) < (N : Int) := of_decide_eq_true e
    obtain ⟨l0, l1, l2, l3, l4⟩ := Jos.leap_down hD (show M < N by omega) hN2
    refine ⟨fun σ' H'' => ∃ m', m' < μ ∧ ∃ N : Nat, ∃ y5, σ' = [some (.int (M : Int)), some (.int (D : Int)), some (.int (B : Int)), some (.int (C : Int)), some (.int (N : Int)), y5] ∧ H'' = H' ∧ m' = N ∧ 1 ≤ N ∧ N ≤ M * D ∧ Jos.told D (Jos.ring M B) N = some p, fun _ _ h => h, ?_⟩
    refine ⟨_, rfl, _, rfl, _, _, rfl, rfl, ?_⟩
    refine ⟨_, rfl, _, rfl, _, _, rfl, rfl, _, rfl, _, _, rfl, rfl, _, _, rfl, rfl, ⟨by omega, by omega⟩, _, _, rfl, rfl, ?_⟩
    refine ⟨N - M + (N - M - 1) / (D - 1), by omega, _, some (.int ((N : Int) - (M : Int))), ?_, rfl, rfl, l1, by omega, ?_⟩
    · have e2 : (N : Int) - (M : Int) + ((N : Int) - (M : Int) - 1) / ((D : Int) - 1) = ((N - M + (N - M - 1) / (D - 1) : Nat) : Int) := by
        rw [Int.natCast_add, Int.natCast_ediv]
        congr 1
        · omega
        · congr 1 <;> omega
      rw [← e2]
      rfl
    · have k := Jos.told_back (l := Jos.ring M B) hD (n := N) (by rw [Jos.ring_len]; omega) (by rw [Jos.ring_len]; exact hN2)
      rw [Jos.ring_len] at k
      rw [k]
      exact hN3
  · have e1 : ¬ (M : Int) < (N : Int) := of_decide_eq_false e
    refine ⟨_, rfl, _, rfl, _, _, rfl, rfl, _, _, rfl, rfl, _, rfl, _, _, rfl, rfl, pos0 (by omega), ?_⟩
    rw [Jos.told_first hD hN1 (by rw [Jos.ring_len]; omega), Jos.ring_get (by omega) (by omega)] at hN3
    have e2 := Option.some.inj hN3
    have e3 : ((B : Int) + (N : Int) - 1) % (M : Int) = (p : Int) := by
      rw [← e2, Int.natCast_emod, Int.natCast_add]
      congr 1
      omega
    dsimp only
    rw [e3]
    exact q
def t_goes_at (K : PySem.W.Frag) (CM CS CP CC : Addr) (E : XK) : TS :=
(tSeq (tDrop (tCall (sRing K CM CS CP) [] E (tCons (tVar 0) (tCons (tVar 1) (tCons (tVar 2) tNil)))))
  (tSeq (tDrop (tCall (sCkC K CC) [] E (tCons (tVar 3) (tCons (tC (.int 1)) (tCons (tVar 0) tNil)))))
  (tRet (tCall sPlace [] E0 (tCons (tVar 0) (tCons (tVar 1) (tCons (tVar 2) (tCons (tVar 3) tNil))))))))
@[irreducible] def sGoes (K : PySem.W.Frag) (CM CS CP CC : Addr) : Sp := fun vs H Q E => ∃ m d b x, vs = [m, d, b, x] ∧ Typ K H x ∧ sRef K CM CS CP m d b H E fun n s g =>
  (whB x 1 n = false → E (.ref CC) none H) ∧ ∀ c : Nat, x = .int (c : Int) → 1 ≤ c → (c : Int) ≤ n → ∀ p : Nat, (Jos.order s.toNat n.toNat g.toNat)[c - 1]? = some p → Q (.int (p : Int)) H
theorem pure_goes_at {K : PySem.W.Frag} {CM CS CP CC : Addr} {vs : List V} {H : Hp} {Q : VK} {E : XK} (h : sGoes K CM CS CP CC vs H Q E) : t_goes_at K CM CS CP CC E { nx := fun _ H' => Q .non H', rt := Q } (start ["many", "step", "begin", "count"] vs) H := by
  unfold sGoes at h
  obtain ⟨m, d, b, x, rfl, tx, h⟩ := h
  refine ⟨_, rfl, _, rfl, _, rfl, ?_⟩
  show sRing K CM CS CP [m, d, b] H _ E
  refine h.ring fun n s g em es eg n1 n2 s1 s2 g1 g2 ok => ?_
  subst em es eg
  refine ⟨_, rfl, _, rfl, x, 1, n, rfl, tx, fun hx => ?_, fun hx => ok.1 hx⟩
  obtain ⟨c', rfl, p1, p2⟩ := wh_int hx
  obtain ⟨c, rfl⟩ : ∃ c : Nat, c' = (c : Int) := ⟨c'.toNat, by omega⟩
  have ok := ok.2 c rfl (by omega) p2
  obtain ⟨M, rfl⟩ : ∃ M : Nat, n = (M : Int) := ⟨n.toNat, by omega⟩
  obtain ⟨D, rfl⟩ : ∃ D : Nat, s = (D : Int) := ⟨s.toNat, by omega⟩
  obtain ⟨B, rfl⟩ : ∃ B : Nat, g = (B : Int) := ⟨g.toNat, by omega⟩
  simp only [Int.toNat_natCast] at ok
  exact ⟨_, rfl, _, rfl, _, rfl, _, rfl, M, D, B, c, rfl, by omega, by omega, by omega, by omega, by omega, ok⟩
def t_last_of (K : PySem.W.Frag) (CM CS CP : Addr) (E : XK) : TS :=
(tSeq (tDrop (tCall (sRing K CM CS CP) [] E (tCons (tVar 0) (tCons (tVar 1) (tCons (tVar 2) tNil)))))
  (tRet (tCall sPlace [] E0 (tCons (tVar 0) (tCons (tVar 1) (tCons (tVar 2) (tCons (tVar 0) tNil)))))))
@[irreducible] def sLast (K : PySem.W.Frag) (CM CS CP : Addr) : Sp := fun vs H Q E => ∃ m d b, vs = [m, d, b] ∧ sRef K CM CS CP m d b H E fun n s g =>
  ∀ p : Nat, (Jos.order s.toNat n.toNat g.toNat)[n.toNat - 1]? = some p → Q (.int (p : Int)) H
theorem pure_last_of {K : PySem.W.Frag} {CM CS CP : Addr} {vs : List V} {H : Hp} {Q : VK} {E : XK} (h : sLast K CM CS CP vs H Q E) : t_last_of K CM CS CP E { nx := fun _ H' => Q .non H', rt := Q } (start ["many", "step", "begin"] vs) H := by
  unfold sLast at h
  obtain ⟨m, d, b, rfl, h⟩ := h
  refine ⟨_, rfl, _, rfl, _, rfl, ?_⟩
  show sRing K CM CS CP [m, d, b] H _ E
  refine h.ring fun n s g em es eg n1 n2 s1 s2 g1 g2 ok => ?_
  subst em es eg
  obtain ⟨M, rfl⟩ : ∃ M : Nat, n = (M : Int) := ⟨n.toNat, by omega⟩
  obtain ⟨D, rfl⟩ : ∃ D : Nat, s = (D : Int) := ⟨s.toNat, by omega⟩
  obtain ⟨B, rfl⟩ : ∃ B : Nat, g = (B : Int) := ⟨g.toNat, by omega⟩
  simp only [Int.toNat_natCast] at ok
  exact ⟨_, rfl, _, rfl, _, rfl, _, rfl, M, D, B, M, rfl, by omega, by omega, by omega, by omega, by omega, ok⟩
/-- right numbers: nothing is refused -/
theorem sRef.right {K : PySem.W.Frag} {CM CS CP : Addr} {M D B : Nat} {H : Hp} {E : XK} {ok : Int → Int → Int → Prop} (hM : (M : Int) ≤ big) (h1 : 1 ≤ D) (h2 : D ≤ 100) (h3 : B < M) (k : ok (M : Int) (D : Int) (B : Int)) :
    sRef K CM CS CP (.int (M : Int)) (.int (D : Int)) (.int (B : Int)) H E ok := by
  refine ⟨Typ.int, Typ.int, Typ.int, fun e => ?_, fun n en n1 n2 => ?_⟩
  · rw [wh_of (by omega) hM] at e; cases e
  · cases en
    refine ⟨fun e => ?_, fun s es s1 s2 => ?_⟩
    · rw [wh_of (by omega) (by omega)] at e; cases e
    · cases es
      refine ⟨fun e => ?_, fun g eg g1 g2 => ?_⟩
      · rw [wh_of (by omega) (by omega)] at e; cases e
      · cases eg
        exact k
end Cd

set_option Elab.async false
set_option linter.all false
set_option maxRecDepth 100000
set_option maxHeartbeats 2000000
namespace Cd
open PySem PySem.Spec PyProof.Rows L2
open Evl (Ex sq_of ex_l sz_of sz_lt fresh_back)
section
variable {K : PySem.W.Frag} {CM CS CP CC : Addr} {M D B P c : Nat} {H : Hp} {Q : VK} {E : XK}
theorem count_right (hM : (M : Int) ≤ big) (h1 : 1 ≤ D) (h2 : D ≤ 100) (h3 : B < M) (hc : (Jos.order D M B)[c]? = some P) (q : Q (.int ((c : Int) + 1)) H) : sCount K CM CS CP [.int (M : Int), .int (D : Int), .int (B : Int), .int (P : Int)] H Q E := by
  unfold sCount
  have hP : P < M := Jos.order_lt (List.mem_of_getElem? hc)
  refine ⟨_, _, _, _, rfl, Typ.int, sRef.right hM h1 h2 h3 ⟨fun e => ?_, fun p ep hp c' hc' => ?_⟩⟩
  · rw [wh_of (by omega) (by omega)] at e; cases e
  · have e1 : p = P := by have := V.int.inj ep; omega
    subst e1
    simp only [Int.toNat_natCast] at hc'
    rw [Jos.nodup_get (Jos.order_nodup D M B) hc' hc]
    exact q
theorem goes_right (hM : (M : Int) ≤ big) (h1 : 1 ≤ D) (h2 : D ≤ 100) (h3 : B < M) (hc : (Jos.order D M B)[c]? = some P) (q : Q (.int (P : Int)) H) : sGoes K CM CS CP CC [.int (M : Int), .int (D : Int), .int (B : Int), .int ((c : Int) + 1)] H Q E := by
  unfold sGoes
  have hl : c < M := by
    have := (List.getElem?_eq_some_iff.mp hc).1
    rw [Jos.order_len] at this; exact this
  refine ⟨_, _, _, _, rfl, Typ.int, sRef.right hM h1 h2 h3 ⟨fun e => ?_, fun c' ec h4 h5 p hp => ?_⟩⟩
  · rw [wh_of (by omega) (by omega)] at e; cases e
  · have e1 : c' = c + 1 := by have := V.int.inj ec; omega
    subst e1
    simp only [Int.toNat_natCast, Nat.add_sub_cancel] at hp
    rw [hc] at hp
    rw [← Option.some.inj hp]
    exact q
theorem last_right (hM : (M : Int) ≤ big) (h1 : 1 ≤ D) (h2 : D ≤ 100) (h3 : B < M) (hc : (Jos.order D M B)[M - 1]? = some P) (q : Q (.int (P : Int)) H) : sLast K CM CS CP [.int (M : Int), .int (D : Int), .int (B : Int)] H Q E := by
  unfold sLast
  refine ⟨_, _, _, rfl, sRef.right hM h1 h2 h3 fun p hp => ?_⟩
  simp only [Int.toNat_natCast] at hp
  rw [hc] at hp
  rw [← Option.some.inj hp]
  exact q
end
/-- over enumerate of a list that stays -/
theorem for_enum {K : PySem.W.Frag} {a : Addr} {xs : List V} {g : TG} {tb : TS} {D : Ends} {σ : L2.St} {H : Hp} (Pv : Nat → L2.St → Hp → Prop) (h0 : Pv 0 σ H) (hl : ∀ i σ H, i ≤ xs.length → Pv i σ H → SqL K H a xs)
    (hs : ∀ i x σ H T, xs[i]? = some x → Pv i σ H → H T = none → g (.ref T) σ (upd H T (.tup [.int (i : Nat), x])) fun σ2 H2 => tb { D with nx := Pv (i + 1), ct := Pv (i + 1), bk := D.nx } σ2 H2) (hd : ∀ σ H, Pv xs.length σ H → D.nx σ H) :
    ∃ W : Nat → Nat → L2.St → Hp → Prop, (∃ m, W 0 m σ H) ∧ ∀ i m σ H, W i m σ H →
      ((Ite K a).stop i H ∧ D.nx σ H) ∨ ((Ite K a).go i H ∧ ∃ N : L2.St → Hp → Prop, (∀ σ' H', N σ' H' → ∃ m', m' < m ∧ W (i + 1) m' σ' H') ∧ ∀ x H', (Ite K a).yld i H x H' → g x σ H' fun σ2 H2 => tb { D with nx := N, ct := N, bk := D.nx } σ2 H2) := by
  refine ⟨fun i m σ H => m = xs.length - i ∧ i ≤ xs.length ∧ Pv i σ H, ⟨xs.length, by simp, Nat.zero_le _, h0⟩, ?_⟩
  rintro i m σ H ⟨rfl, hi, p⟩
  have q := hl i σ H hi p
  by_cases hlt : i < xs.length
  · refine .inr ⟨⟨xs, xs[i], q, by simp [hlt]⟩, Pv (i + 1), fun σ' H' p' => ⟨xs.length - (i + 1), by omega, rfl, hlt, p'⟩, fun x H' y => ?_⟩
    obtain ⟨T, z, e1, e2, e3, e4⟩ := y
    subst e1 e3
    exact hs i z σ H T (e4 xs q) p e2
  · have e : i = xs.length := by omega
    subst e
    exact .inl ⟨⟨xs, q, Nat.le_refl _⟩, hd σ H p⟩
/-- numbers as values -/
def nV (k : Nat) : V := .int (k : Int)
theorem rg_nV (M : Nat) : rgV 0 (M : Int) = (List.range M).map nV := by
  unfold rgV nV
  rw [show ((M : Int) - 0).toNat = M by omega]
  congr 1
  funext i
  rw [Int.zero_add]
theorem nV_plain (l : List Nat) : (l.map nV).all plain = true := by
  rw [List.all_eq_true]
  intro x hx
  obtain ⟨k, _, rfl⟩ := List.mem_map.mp hx
  rfl
theorem nV_get {l : List Nat} {i : Nat} {x : V} (h : (l.map nV)[i]? = some x) : ∃ k, l[i]? = some k ∧ x = nV k := by
  rw [List.getElem?_map] at h
  cases e : l[i]? with
  | none => rw [e] at h; cases h
  | some k => rw [e] at h; exact ⟨k, rfl, (Option.some.inj h).symm⟩
/-- one of some numbers within bounds -/
theorem last_at {l : List V} {x : V} {n : Nat} (h : l[n - 1]? = some x) (hn : l.length = n) (h0 : 0 < n) : atI l (-1) = some x := by
  unfold atI ixN
  rw [if_neg (by decide), if_pos (by omega)]
  show l[((-1 : Int) + (l.length : Int)).toNat]? = some x
  rw [show ((-1 : Int) + (l.length : Int)).toNat = n - 1 by omega]
  exact h
end Cd

set_option Elab.async false
set_option linter.all false
set_option maxRecDepth 100000
set_option maxHeartbeats 4000000
namespace Cd
open PySem PySem.Spec PyProof.Rows L2
open Evl (Ex sq_of ex_l sz_of sz_lt fresh_back)
namespace K02
def t_body (K : PySem.W.Frag) (CM CS CP CC : Addr) : TS :=
  (tSeq (tAsg (tCall sOf [] E0 (tCons (tVar 1) (tCons (tLst (tCons (tC (.int 1)) (tCons (tC (.int 2)) (tCons (tC (.int 3)) (tCons (tOp oAdd (tC (.int 1)) (tOp oMod (tCall sNext [] E0 (tCons (tVar 1) tNil)) (tC (.int 40)))) tNil))))) tNil))) (gName 3))
  (tSeq (tAsg (tCall sStep [] E0 (tCons (tVar 1) (tCons (tC (.int 100)) tNil))) (gName 4))
  (tSeq (tAsg (tCall sOf [] E0 (tCons (tVar 1) (tCons (tLst (tCons (tC (.int 0)) (tCons (tOp oSub (tVar 3) (tC (.int 1))) (tCons (tOp oMod (tCall sNext [] E0 (tCons (tVar 1) tNil)) (tVar 3)) tNil)))) tNil))) (gName 5))
  (tSeq (tAsg (tCall (sOut K) [] E0 (tCons (tCall sTurned [] E0 (tCons (tLstRg (tRg1 (tVar 3))) (tCons (tVar 5) tNil))) (tCons (tVar 4) tNil))) (gName 6))
  (tSeq (tFor (iEnum K (tCons (tVar 6) tNil)) (gTup K 2 (gCons (gName 7) (gCons (gName 8) gNil)))
  (tSeq (tAsg (tLst (tCons (tCall (sCount K CM CS CP) [] E0 (tCons (tVar 3) (tCons (tVar 4) (tCons (tVar 5) (tCons (tVar 8) tNil))))) (tCons (tCall (sGoes K CM CS CP CC) [] E0 (tCons (tVar 3) (tCons (tVar 4) (tCons (tVar 5) (tCons (tOp oAdd (tVar 7) (tC (.int 1))) tNil))))) tNil))) (gName 9))
  (tIfS (tOr (tTest (tOp (rEqF K true) (tVar 9) (tLst (tCons (tOp oAdd (tVar 7) (tC (.int 1))) (tCons (tVar 8) tNil))))) (tOr (tNot (tB (tCall sWhole [] E0 (tCons (tOp (rIxL K) (tVar 9) (tC (.int 0))) tNil)))) (tNot (tB (tCall sWhole [] E0 (tCons (tOp (rIxL K) (tVar 9) (tC (.int 1))) tNil))))))
  (tRet (tC (.bl false)))
  tNext)))
  (tSeq (tIfS (tOr (tTest (tOp rNe (tCall (sLast K CM CS CP) [] E0 (tCons (tVar 3) (tCons (tVar 4) (tCons (tVar 5) tNil)))) (tOp (rIxL K) (tVar 6) (tUn oNeg (tC (.int 1)))))) (tNot (tB (tCall sWhole [] E0 (tCons (tCall (sLast K CM CS CP) [] E0 (tCons (tVar 3) (tCons (tVar 4) (tCons (tVar 5) tNil)))) tNil)))))
  (tRet (tC (.bl false)))
  tNext)
  (tIfS (tTest (tOp rNe (tCall (sLast K CM CS CP) [.int 0] E0 (tCons (tVar 3) (tCons (tVar 4) tNil))) (tOp (rIxL K) (tCall (sOut K) [] E0 (tCons (tLstRg (tRg1 (tVar 3))) (tCons (tVar 4) tNil))) (tUn oNeg (tC (.int 1))))))
  (tRet (tC (.bl false)))
  tNext)))))))
def t_law (K : PySem.W.Frag) (CM CS CP CC : Addr) : TS :=
(tSeq (tAsg (tCall (sState K) [] E0 (tCons (tVar 0) (tCons (tC (.int 0)) tNil))) (gName 1))
  (tSeq (tFor (iRng1 (tCons (tC (.int 2)) tNil)) (gName 2)
  (t_body K CM CS CP CC))
  (tRet (tC (.bl true)))))
def sLaw (K : PySem.W.Frag) : Sp := fun vs H Q _ => ∃ (a : Addr) (ns : List Int), vs = [.ref a] ∧ SqL K H a (ns.map V.int) ∧ ∀ H', Q (.bl true) H'
abbrev Good (a p : Addr) : L2.St → Hp → Prop := fun σ H' => ∃ y2 y3 y4 y5 y6 y7 y8 y9, σ = [some (.ref a), some (.ref p), y2, y3, y4, y5, y6, y7, y8, y9] ∧ StAt H' p
theorem body_go {K : PySem.W.Frag} {CM CS CP CC a p : Addr} {y2 y3 y4 y5 y6 y7 y8 y9 : Option V} {D : Ends} {H : Hp} (st : StAt H p) (k : ∀ σ H', Good a p σ H' → D.nx σ H') :
    t_body K CM CS CP CC D [some (.ref a), some (.ref p), y2, y3, y4, y5, y6, y7, y8, y9] H := by
  -- many
  refine ⟨_, rfl, ?_⟩
  refine ⟨_, rfl, p, rfl, st, fun H1 n1 r1 _ _ => ?_⟩
  refine ⟨_, _, rfl, rfl, pos0 (by decide), _, _, rfl, rfl, (by decide : 4 ≤ sizeLine), fun q nq => ?_⟩
  refine ⟨p, .ref q, rfl, r1.2.ex (Evl.Ex.new nq), .inl ⟨q, _, rfl, r1.2.ne nq, upd_same, by simp, fun H2 v r2 hv => ?_⟩⟩
  obtain ⟨M, rfl, m1, m2⟩ : ∃ M : Nat, v = .int (M : Int) ∧ 1 ≤ M ∧ M ≤ 40 := by
    have b1 : 0 ≤ n1 % 40 := Int.emod_nonneg _ (by decide)
    have b2 : n1 % 40 < 40 := Int.emod_lt_of_pos _ (by decide)
    simp only [List.mem_cons, List.not_mem_nil, or_false] at hv
    rcases hv with rfl | rfl | rfl | rfl
    · exact ⟨1, rfl, by omega, by omega⟩
    · exact ⟨2, rfl, by omega, by omega⟩
    · exact ⟨3, rfl, by omega, by omega⟩
    · exact ⟨(1 + n1 % 40).toNat, by rw [Int.toNat_of_nonneg (by omega)], by omega, by omega⟩
  -- step
  refine ⟨_, rfl, p, 100, rfl, r2.2, by decide, fun H3 d r3 d1 d2 => ?_⟩
  obtain ⟨D', rfl⟩ : ∃ D' : Nat, d = (D' : Int) := ⟨d.toNat, by omega⟩
  -- begin
  refine ⟨_, rfl, _, rfl, _, _, rfl, rfl, _, rfl, p, rfl, r3.2, fun H4 n4 r4 _ _ => ?_⟩
  refine ⟨_, rfl, _, _, rfl, rfl, pos0 (by omega), (by decide : 3 ≤ sizeLine), fun q' nq' => ?_⟩
  refine ⟨p, .ref q', rfl, r4.2.ex (Evl.Ex.new nq'), .inl ⟨q', _, rfl, r4.2.ne nq', upd_same, by simp, fun H5 v r5 hv => ?_⟩⟩
  obtain ⟨B, rfl, hB⟩ : ∃ B : Nat, v = .int (B : Int) ∧ B < M := by
    have b1 : 0 ≤ n4 % (M : Int) := Int.emod_nonneg _ (by omega)
    have b2 : n4 % (M : Int) < M := Int.emod_lt_of_pos _ (by omega)
    simp only [List.mem_cons, List.not_mem_nil, or_false] at hv
    rcases hv with rfl | rfl | rfl
    · exact ⟨0, rfl, by omega⟩
    · exact ⟨M - 1, by congr 1; omega, by omega⟩
    · exact ⟨(n4 % (M : Int)).toNat, by rw [Int.toNat_of_nonneg b1], by omega⟩
  -- order
  refine ⟨_, rfl, _, rfl, RgOk.of_le (by decide) (by omega) (by decide) (by omega), fun b nb => ?_⟩
  refine ⟨_, rfl, b, _, _, rfl, upd_same, ?_, ?_, fun c H6 nc e6 hc => ?_⟩
  · rw [rg_nV, List.length_map, List.length_range]; omega
  · rw [rg_nV, List.length_map, List.length_range]; omega
  have st6 : StAt H6 p := (r5.2.ex (Evl.Ex.new nb)).ex e6
  rw [rg_nV, List.length_map, List.length_range, Int.emod_eq_of_lt (by omega) (by omega), Int.toNat_natCast, Jos.rot_map] at hc
  refine ⟨_, rfl, c, _, _, rfl, sq_of hc, ?_, nV_plain _, by omega, fun o H7 no e7 ho => ?_⟩
  · rw [List.length_map, Jos.rot_len, List.length_range]; omega
  have st7 : StAt H7 p := st6.ex e7
  have ho' : H7 o = some (.lst ((Jos.order D' M B).map nV)) := by
    rw [ho, List.length_map, Jos.rot_len, List.length_range, Jos.out_map, show ((D' : Int) - 1).toNat = D' - 1 by omega]
    rfl
  clear ho
  have hMb : (M : Int) ≤ big := by unfold big; omega
  have hlen : ((Jos.order D' M B).map nV).length = M := by rw [List.length_map, Jos.order_len]
  -- each place, each count
  refine ⟨_, rfl, o, _, rfl, sq_of ho', for_enum (xs := (Jos.order D' M B).map nV) (fun i σ H' => ∃ y2 y7 y8 y9, σ = [some (.ref a), some (.ref p), y2, some (.int (M : Int)), some (.int (D' : Int)), some (.int (B : Int)), some (.ref o), y7, y8, y9] ∧ StAt H' p ∧ H' o = some (.lst ((Jos.order D' M B).map nV)))
    ⟨_, _, _, _, rfl, st7, ho'⟩ (fun i σ H' _ hP => ?_) ?_ ?_⟩
  · obtain ⟨_, _, _, _, _, _, h⟩ := hP
    exact sq_of h
  · intro i x σ H' T hx hP nT
    obtain ⟨z2, z7, z8, z9, rfl, stH, hoH⟩ := hP
    obtain ⟨P, hP, rfl⟩ := nV_get hx
    have e8 : Ex H' (upd H' T (.tup [.int (i : Nat), nV P])) := Evl.Ex.new nT
    refine ⟨T, _, rfl, .inl (.inl upd_same), rfl, _, _, rfl, _, _, rfl, rfl, ?_⟩
    refine ⟨_, rfl, _, rfl, _, rfl, _, rfl, ?_⟩
    refine count_right hMb (by omega) (by omega) hB hP ?_
    refine ⟨_, rfl, _, rfl, _, rfl, _, rfl, _, _, rfl, rfl, ?_⟩
    refine goes_right hMb (by omega) (by omega) hB hP ?_
    refine ⟨(by decide : 2 ≤ sizeLine), fun f nf => ?_⟩
    have e9 := Evl.Ex.new (o := .lst [.int ((i : Int) + 1), .int (P : Int)]) nf
    refine ⟨_, rfl, _, rfl, _, _, rfl, rfl, _, rfl, (by decide : 2 ≤ sizeLine), fun g ng => ?_⟩
    have e10 := Evl.Ex.new (o := .lst [.int ((i : Int) + 1), .int (P : Int)]) ng
    refine ⟨f, g, _, _, rfl, rfl, sq_of (e10 _ _ upd_same), sq_of upd_same, rfl, rfl, _, rfl, iteC (fun e => ?_) (fun _ => ?_)⟩
    · have e' : (!decide ([V.int ((i : Int) + 1), V.int (P : Int)] = [V.int ((i : Int) + 1), V.int (P : Int)])) = true := e
      rw [decide_eq_true rfl] at e'
      cases e'
    · refine ⟨_, rfl, f, _, 0, _, rfl, rfl, sq_of (e10 _ _ upd_same), at0, _, rfl, true, rfl, iteF ?_⟩
      refine ⟨_, rfl, f, _, 1, .int (P : Int), rfl, rfl, sq_of (e10 _ _ upd_same), rfl, _, rfl, true, rfl, iteF ?_⟩
      exact ⟨_, _, _, _, rfl, ((stH.ex e8).ex e9).ex e10, e10 _ _ (e9 _ _ (e8 _ _ hoH))⟩
  · intro σ H' hP
    obtain ⟨z2, z7, z8, z9, rfl, stH, hoH⟩ := hP
    obtain ⟨P, hP⟩ : ∃ P, (Jos.order D' M B)[M - 1]? = some P := ⟨_, List.getElem?_eq_getElem (by rw [Jos.order_len]; omega)⟩
    have hPv : ((Jos.order D' M B).map nV)[M - 1]? = some (nV P) := by rw [List.getElem?_map, hP]; rfl
    -- the last one
    refine ⟨_, rfl, _, rfl, _, rfl, ?_⟩
    refine last_right hMb (by omega) (by omega) hB hP ?_
    refine ⟨_, rfl, _, rfl, o, _, -1, _, rfl, rfl, sq_of hoH, last_at hPv hlen (by omega), rfl, _, rfl, iteC (fun e => ?_) (fun _ => ?_)⟩
    · have e' : (!decide (V.int (P : Int) = nV P)) = true := e
      rw [decide_eq_true (show V.int (P : Int) = nV P from rfl)] at e'
      cases e'
    refine ⟨_, rfl, _, rfl, _, rfl, ?_⟩
    refine last_right hMb (by omega) (by omega) hB hP ?_
    refine ⟨_, rfl, true, rfl, iteF ?_⟩
    -- begin left out
    obtain ⟨P0, hP0⟩ : ∃ P, (Jos.order D' M 0)[M - 1]? = some P := ⟨_, List.getElem?_eq_getElem (by rw [Jos.order_len]; omega)⟩
    refine ⟨_, rfl, _, rfl, ?_⟩
    refine last_right (B := 0) hMb (by omega) (by omega) (by omega) hP0 ?_
    refine ⟨_, rfl, _, rfl, RgOk.of_le (by decide) (by omega) (by decide) (by omega), fun b' nb' => ?_⟩
    refine ⟨_, rfl, b', _, _, rfl, sq_of upd_same, ?_, ?_, by omega, fun o' H9 no' e9 ho9 => ?_⟩
    · rw [rg_nV, List.length_map, List.length_range]; omega
    · rw [rg_nV]; exact nV_plain _
    have ho9' : H9 o' = some (.lst ((Jos.order D' M 0).map nV)) := by
      rw [ho9, rg_nV, List.length_map, List.length_range, Jos.out_map, show ((D' : Int) - 1).toNat = D' - 1 by omega, Jos.order, Jos.ring, Jos.rot_zero]
    refine ⟨_, rfl, o', _, -1, nV P0, rfl, rfl, sq_of ho9', ?_, rfl, _, rfl, iteC (fun e => ?_) (fun _ => ?_)⟩
    · exact last_at (n := M) (by rw [List.getElem?_map, hP0]; rfl) (by rw [List.length_map, Jos.order_len]) (by omega)
    · have e' : (!decide (V.int (P0 : Int) = nV P0)) = true := e
      rw [decide_eq_true (show V.int (P0 : Int) = nV P0 from rfl)] at e'
      cases e'
    · exact k _ _ ⟨_, _, _, _, _, _, _, _, rfl, (stH.ex (Evl.Ex.new nb')).ex e9⟩
theorem pure_law {K : PySem.W.Frag} {CM CS CP CC : Addr} {vs : List V} {H : Hp} {Q : VK} {E : XK} {nx : L2.St → Hp → Prop} (h : sLaw K vs H Q E) : t_law K CM CS CP CC { nx := nx, rt := Q } (start ["_law_script", "_law_state_here", "_law_turn", "_law_many", "_law_step_here", "_law_begin", "_law_order", "_law_at", "_law_place", "_law_found"] vs) H := by
  obtain ⟨a, ns, rfl, hS, q⟩ := h
  refine ⟨_, rfl, a, ns, 0, rfl, hS, fun p H1 np e1 st1 => ?_⟩
  refine ⟨2, rfl, by decide, by decide, for_range (lo := 0) (n := 2) (fun i σ H' => Good a p σ H') ⟨_, _, _, _, _, _, _, _, rfl, st1⟩ ?_ (fun σ H' _ => q H')⟩
  intro i σ H' hi hP
  obtain ⟨y2, y3, y4, y5, y6, y7, y8, y9, rfl, st⟩ := hP
  exact body_go st fun σ' H'' g => g
end K02
end Cd

set_option Elab.async false
set_option linter.all false
set_option maxRecDepth 100000
set_option maxHeartbeats 4000000
namespace R02
open PySem PySem.Spec PyProof.Rows L2 Cd
open Cd.K02
def topS (i : Nat) : Stmt := PySem.Challenge.pw_countout_k02_counts_by_numbers.main.body.getD i (.Pass ⟨0, 0, 0, 0⟩)
abbrev s_is_whole : Stmt := topS 8
theorem sc_is_whole : FnScope ["thing", "low", "high"] ["thing", "low", "high"] (defScope s_is_whole) := ⟨rfl, rfl, rfl, by decide +kernel, rfl, by decide +kernel, by decide +kernel⟩
abbrev s_check_many : Stmt := topS 9
theorem sc_check_many : FnScope ["many", "most"] ["many", "most"] (defScope s_check_many) := ⟨rfl, rfl, rfl, by decide +kernel, rfl, by decide +kernel, by decide +kernel⟩
abbrev s_check_step : Stmt := topS 10
theorem sc_check_step : FnScope ["step", "most"] ["step", "most"] (defScope s_check_step) := ⟨rfl, rfl, rfl, by decide +kernel, rfl, by decide +kernel, by decide +kernel⟩
abbrev s_check_place : Stmt := topS 11
theorem sc_check_place : FnScope ["place", "many"] ["place", "many"] (defScope s_check_place) := ⟨rfl, rfl, rfl, by decide +kernel, rfl, by decide +kernel, by decide +kernel⟩
abbrev s_check_count : Stmt := topS 12
theorem sc_check_count : FnScope ["count", "low", "high"] ["count", "low", "high"] (defScope s_check_count) := ⟨rfl, rfl, rfl, by decide +kernel, rfl, by decide +kernel, by decide +kernel⟩
abbrev s_count_of : Stmt := topS 15
theorem sc_count_of : FnScope ["many", "step", "begin", "place", "number"] ["many", "step", "begin", "place"] (defScope s_count_of) := ⟨rfl, rfl, rfl, by decide +kernel, rfl, by decide +kernel, by decide +kernel⟩
abbrev s_goes_at : Stmt := topS 16
theorem sc_goes_at : FnScope ["many", "step", "begin", "count"] ["many", "step", "begin", "count"] (defScope s_goes_at) := ⟨rfl, rfl, rfl, by decide +kernel, rfl, by decide +kernel, by decide +kernel⟩
abbrev s_last_of : Stmt := topS 17
theorem sc_last_of : FnScope ["many", "step", "begin"] ["many", "step", "begin"] (defScope s_last_of) := ⟨rfl, rfl, rfl, by decide +kernel, rfl, by decide +kernel, by decide +kernel⟩
abbrev s__check_ring : Stmt := topS 18
theorem sc__check_ring : FnScope ["many", "step", "begin"] ["many", "step", "begin"] (defScope s__check_ring) := ⟨rfl, rfl, rfl, by decide +kernel, rfl, by decide +kernel, by decide +kernel⟩
abbrev s__place_at : Stmt := topS 19
theorem sc__place_at : FnScope ["many", "step", "begin", "count", "number", "over"] ["many", "step", "begin", "count"] (defScope s__place_at) := ⟨rfl, rfl, rfl, by decide +kernel, rfl, by decide +kernel, by decide +kernel⟩
abbrev s__law_cell_at : Stmt := topS 21
theorem sc__law_cell_at : FnScope ["_law_script", "_law_k"] ["_law_script", "_law_k"] (defScope s__law_cell_at) := ⟨rfl, rfl, rfl, by decide +kernel, rfl, by decide +kernel, by decide +kernel⟩
abbrev s__law_next : Stmt := topS 22
theorem sc__law_next : FnScope ["_law_state_here"] ["_law_state_here"] (defScope s__law_next) := ⟨rfl, rfl, rfl, by decide +kernel, rfl, by decide +kernel, by decide +kernel⟩
abbrev s__law_state : Stmt := topS 23
theorem sc__law_state : FnScope ["_law_script", "_law_first"] ["_law_script", "_law_first"] (defScope s__law_state) := ⟨rfl, rfl, rfl, by decide +kernel, rfl, by decide +kernel, by decide +kernel⟩
abbrev s__law_of : Stmt := topS 24
theorem sc__law_of : FnScope ["_law_state_here", "_law_some"] ["_law_state_here", "_law_some"] (defScope s__law_of) := ⟨rfl, rfl, rfl, by decide +kernel, rfl, by decide +kernel, by decide +kernel⟩
abbrev s__law_turned : Stmt := topS 25
theorem sc__law_turned : FnScope ["_law_row", "_law_many"] ["_law_row", "_law_many"] (defScope s__law_turned) := ⟨rfl, rfl, rfl, by decide +kernel, rfl, by decide +kernel, by decide +kernel⟩
abbrev s__law_out : Stmt := topS 26
theorem sc__law_out : FnScope ["_law_row", "_law_step_here", "_law_found", "_law_left", "_law_told"] ["_law_row", "_law_step_here"] (defScope s__law_out) := ⟨rfl, rfl, rfl, by decide +kernel, rfl, by decide +kernel, by decide +kernel⟩
abbrev s__law_step : Stmt := topS 27
theorem sc__law_step : FnScope ["_law_state_here", "_law_most"] ["_law_state_here", "_law_most"] (defScope s__law_step) := ⟨rfl, rfl, rfl, by decide +kernel, rfl, by decide +kernel, by decide +kernel⟩
abbrev s__law_whole : Stmt := topS 28
theorem sc__law_whole : FnScope ["_law_found"] ["_law_found"] (defScope s__law_whole) := ⟨rfl, rfl, rfl, by decide +kernel, rfl, by decide +kernel, by decide +kernel⟩
abbrev s_law : Stmt := topS 29
theorem sc_law : FnScope ["_law_script", "_law_state_here", "_law_turn", "_law_many", "_law_step_here", "_law_begin", "_law_order", "_law_at", "_law_place", "_law_found"] ["_law_script"] (defScope s_law) := ⟨rfl, rfl, rfl, by decide +kernel, rfl, by decide +kernel, by decide +kernel⟩
structure Ad where
  f_is_whole : Addr
  f_check_many : Addr
  f_check_step : Addr
  f_check_place : Addr
  f_check_count : Addr
  f_count_of : Addr
  f_goes_at : Addr
  f_last_of : Addr
  f__check_ring : Addr
  f__place_at : Addr
  f__law_cell_at : Addr
  f__law_next : Addr
  f__law_state : Addr
  f__law_of : Addr
  f__law_turned : Addr
  f__law_out : Addr
  f__law_step : Addr
  f__law_whole : Addr
  f_law : Addr
  c_NoCount : Addr
  c_NoMany : Addr
  c_NoPlace : Addr
  c_NoStep : Addr
structure Fd where
  d_is_whole : FuncData
  d_check_many : FuncData
  d_check_step : FuncData
  d_check_place : FuncData
  d_check_count : FuncData
  d_count_of : FuncData
  d_goes_at : FuncData
  d_last_of : FuncData
  d__check_ring : FuncData
  d__place_at : FuncData
  d__law_cell_at : FuncData
  d__law_next : FuncData
  d__law_state : FuncData
  d__law_of : FuncData
  d__law_turned : FuncData
  d__law_out : FuncData
  d__law_step : FuncData
  d__law_whole : FuncData
  d_law : FuncData
structure Txt (K : PySem.W.Frag) (mg : Str → Option Value) (A : Ad) : Prop where
  b_bool : mg "bool" = none
  b_enumerate : mg "enumerate" = none
  b_int : mg "int" = none
  b_isinstance : mg "isinstance" = none
  b_len : mg "len" = none
  b_list : mg "list" = none
  b_range : mg "range" = none
  c_GREATEST : ∃ t, mg "GREATEST" = some (.int (1000000000000000000000000000000000000000000000000000000000000) t)
  c_MOST_STEP : ∃ t, mg "MOST_STEP" = some (.int (100) t)
  g_is_whole : mg "is_whole" = some (.ref A.f_is_whole)
  k_is_whole : PySem.W.keepIn K (.ref A.f_is_whole) = true
  g_check_many : mg "check_many" = some (.ref A.f_check_many)
  k_check_many : PySem.W.keepIn K (.ref A.f_check_many) = true
  g_check_step : mg "check_step" = some (.ref A.f_check_step)
  k_check_step : PySem.W.keepIn K (.ref A.f_check_step) = true
  g_check_place : mg "check_place" = some (.ref A.f_check_place)
  k_check_place : PySem.W.keepIn K (.ref A.f_check_place) = true
  g_check_count : mg "check_count" = some (.ref A.f_check_count)
  k_check_count : PySem.W.keepIn K (.ref A.f_check_count) = true
  g_count_of : mg "count_of" = some (.ref A.f_count_of)
  k_count_of : PySem.W.keepIn K (.ref A.f_count_of) = true
  g_goes_at : mg "goes_at" = some (.ref A.f_goes_at)
  k_goes_at : PySem.W.keepIn K (.ref A.f_goes_at) = true
  g_last_of : mg "last_of" = some (.ref A.f_last_of)
  k_last_of : PySem.W.keepIn K (.ref A.f_last_of) = true
  g__check_ring : mg "_check_ring" = some (.ref A.f__check_ring)
  k__check_ring : PySem.W.keepIn K (.ref A.f__check_ring) = true
  g__place_at : mg "_place_at" = some (.ref A.f__place_at)
  k__place_at : PySem.W.keepIn K (.ref A.f__place_at) = true
  g__law_cell_at : mg "_law_cell_at" = some (.ref A.f__law_cell_at)
  k__law_cell_at : PySem.W.keepIn K (.ref A.f__law_cell_at) = true
  g__law_next : mg "_law_next" = some (.ref A.f__law_next)
  k__law_next : PySem.W.keepIn K (.ref A.f__law_next) = true
  g__law_state : mg "_law_state" = some (.ref A.f__law_state)
  k__law_state : PySem.W.keepIn K (.ref A.f__law_state) = true
  g__law_of : mg "_law_of" = some (.ref A.f__law_of)
  k__law_of : PySem.W.keepIn K (.ref A.f__law_of) = true
  g__law_turned : mg "_law_turned" = some (.ref A.f__law_turned)
  k__law_turned : PySem.W.keepIn K (.ref A.f__law_turned) = true
  g__law_out : mg "_law_out" = some (.ref A.f__law_out)
  k__law_out : PySem.W.keepIn K (.ref A.f__law_out) = true
  g__law_step : mg "_law_step" = some (.ref A.f__law_step)
  k__law_step : PySem.W.keepIn K (.ref A.f__law_step) = true
  g__law_whole : mg "_law_whole" = some (.ref A.f__law_whole)
  k__law_whole : PySem.W.keepIn K (.ref A.f__law_whole) = true
  g_law : mg "law" = some (.ref A.f_law)
  k_law : PySem.W.keepIn K (.ref A.f_law) = true
  g_NoCount : mg "NoCount" = some (.ref A.c_NoCount)
  k_NoCount : PySem.W.keepIn K (.ref A.c_NoCount) = true
  x_NoCount : PySem.W.excIn K A.c_NoCount [.type "ValueError", .type "Exception", .type "BaseException", .type "object"] "ValueError.__new__" = true
  bb_NoCount : PySem.W.subIn K (.ref A.c_NoCount) (.type "BaseException") = some true
  t_NoCount : PySem.W.typeIn K (.ref A.c_NoCount) = some (.type "type")
  g_NoMany : mg "NoMany" = some (.ref A.c_NoMany)
  k_NoMany : PySem.W.keepIn K (.ref A.c_NoMany) = true
  x_NoMany : PySem.W.excIn K A.c_NoMany [.type "ValueError", .type "Exception", .type "BaseException", .type "object"] "ValueError.__new__" = true
  bb_NoMany : PySem.W.subIn K (.ref A.c_NoMany) (.type "BaseException") = some true
  t_NoMany : PySem.W.typeIn K (.ref A.c_NoMany) = some (.type "type")
  g_NoPlace : mg "NoPlace" = some (.ref A.c_NoPlace)
  k_NoPlace : PySem.W.keepIn K (.ref A.c_NoPlace) = true
  x_NoPlace : PySem.W.excIn K A.c_NoPlace [.type "ValueError", .type "Exception", .type "BaseException", .type "object"] "ValueError.__new__" = true
  bb_NoPlace : PySem.W.subIn K (.ref A.c_NoPlace) (.type "BaseException") = some true
  t_NoPlace : PySem.W.typeIn K (.ref A.c_NoPlace) = some (.type "type")
  g_NoStep : mg "NoStep" = some (.ref A.c_NoStep)
  k_NoStep : PySem.W.keepIn K (.ref A.c_NoStep) = true
  x_NoStep : PySem.W.excIn K A.c_NoStep [.type "ValueError", .type "Exception", .type "BaseException", .type "object"] "ValueError.__new__" = true
  bb_NoStep : PySem.W.subIn K (.ref A.c_NoStep) (.type "BaseException") = some true
  t_NoStep : PySem.W.typeIn K (.ref A.c_NoStep) = some (.type "type")
structure Funs (K : PySem.W.Frag) (A : Ad) (D : Fd) : Prop where
  f_is_whole : Fun K "is_whole" "is_whole" s_is_whole A.f_is_whole D.d_is_whole
  f_check_many : Fun K "check_many" "check_many" s_check_many A.f_check_many D.d_check_many
  f_check_step : Fun K "check_step" "check_step" s_check_step A.f_check_step D.d_check_step
  f_check_place : Fun K "check_place" "check_place" s_check_place A.f_check_place D.d_check_place
  f_check_count : Fun K "check_count" "check_count" s_check_count A.f_check_count D.d_check_count
  f_count_of : Fun K "count_of" "count_of" s_count_of A.f_count_of D.d_count_of
  f_goes_at : Fun K "goes_at" "goes_at" s_goes_at A.f_goes_at D.d_goes_at
  f_last_of : FunD K "last_of" "last_of" (defArgs s_last_of) (defBody s_last_of) (defScope s_last_of) [.int 0] [] A.f_last_of D.d_last_of
  f__check_ring : Fun K "_check_ring" "_check_ring" s__check_ring A.f__check_ring D.d__check_ring
  f__place_at : Fun K "_place_at" "_place_at" s__place_at A.f__place_at D.d__place_at
  f__law_cell_at : Fun K "_law_cell_at" "_law_cell_at" s__law_cell_at A.f__law_cell_at D.d__law_cell_at
  f__law_next : Fun K "_law_next" "_law_next" s__law_next A.f__law_next D.d__law_next
  f__law_state : Fun K "_law_state" "_law_state" s__law_state A.f__law_state D.d__law_state
  f__law_of : Fun K "_law_of" "_law_of" s__law_of A.f__law_of D.d__law_of
  f__law_turned : Fun K "_law_turned" "_law_turned" s__law_turned A.f__law_turned D.d__law_turned
  f__law_out : Fun K "_law_out" "_law_out" s__law_out A.f__law_out D.d__law_out
  f__law_step : Fun K "_law_step" "_law_step" s__law_step A.f__law_step D.d__law_step
  f__law_whole : Fun K "_law_whole" "_law_whole" s__law_whole A.f__law_whole D.d__law_whole
  f_law : Fun K "law" "law" s_law A.f_law D.d_law
section
variable {P : Program} {w : World} {K : PySem.W.Frag} {mg : Str → Option Value} {base : Heap} {A : Ad} {D : Fd}
theorem ok_is_whole (F : Funs K A D) (T : Txt K mg A) : FnOk P w K mg base CX0 1 A.f_is_whole D.d_is_whole ["thing", "low", "high"] (sIsW K) := by
  refine F.f_is_whole.ok sc_is_whole (fun vs H Q E h => ?_) (fun cdv Ar outer s H vs Q E hr h => ⟨t_is_whole K, ?_, pure_is_whole h⟩)
  · obtain ⟨_, _, _, rfl, _⟩ := h; rfl
  · have S := sc_is_whole
    exact (pss_one (ps_ret (pe_and (pe_callB call_isi (by rfl) T.b_isinstance (by decide +kernel) (pa_cons (pv 0) (pa_cons (pe_bltn (v := .ty "int") (by rfl) T.b_int (by decide +kernel) rfl) pa_nil))) (pe_and (pe_not (pe_callB call_isi (by rfl) T.b_isinstance (by decide +kernel) (pa_cons (pv 0) (pa_cons (pe_bltn (v := .ty "bool") (by rfl) T.b_bool (by decide +kernel) rfl) pa_nil)))) (pe_one (pe_chain op_le op_le (pv 1) (pv 0) (pv 2)))))))
theorem ok_check_many (F : Funs K A D) (T : Txt K mg A) : FnOk P w K mg base (L2.CX P w) 2 A.f_check_many D.d_check_many ["many", "most"] (sCk1 K A.c_NoMany) := by
  have G_is_whole := ok_is_whole (P := P) (w := w) (mg := mg) (base := base) F T
  have V_is_whole_3 : Vals [] [] := .nil
  have B_is_whole_3 := F.f_is_whole.binds (ps := ["thing", "low", "high"]) fun _ _ _ _ _ _ us hl => match us, hl with | [_, _, _], _ => rfl
  refine F.f_check_many.okX sc_check_many (fun vs H Q E h => ?_) (fun cdv Ar outer s H vs Q E hr h => ⟨t_check_many K A.c_NoMany E, ?_, pure_ck1 rfl h⟩)
  · obtain ⟨_, _, rfl, _⟩ := h; rfl
  · have S := sc_check_many
    exact (pss_one (ps_if (pt_not (pt_val (pe_call G_is_whole (hr.mono (by decide)) (by rfl) T.g_is_whole T.k_is_whole B_is_whole_3 V_is_whole_3 pass0 (pa_cons (pv 0) (pa_cons pe_int (pa_cons (pv 1) pa_nil))))))
      (pss_one (ps_raise rfl (takes_of rfl rfl rfl rfl) (pmk_own PySem.F.excBase_ValueError T.x_NoMany T.g_NoMany T.k_NoMany (raises_own T.bb_NoMany T.t_NoMany) (by exact rfl))))
      pss_nil))
theorem ok_check_step (F : Funs K A D) (T : Txt K mg A) : FnOk P w K mg base (L2.CX P w) 2 A.f_check_step D.d_check_step ["step", "most"] (sCk1 K A.c_NoStep) := by
  have G_is_whole := ok_is_whole (P := P) (w := w) (mg := mg) (base := base) F T
  have V_is_whole_3 : Vals [] [] := .nil
  have B_is_whole_3 := F.f_is_whole.binds (ps := ["thing", "low", "high"]) fun _ _ _ _ _ _ us hl => match us, hl with | [_, _, _], _ => rfl
  refine F.f_check_step.okX sc_check_step (fun vs H Q E h => ?_) (fun cdv Ar outer s H vs Q E hr h => ⟨t_check_many K A.c_NoStep E, ?_, pure_ck1 rfl h⟩)
  · obtain ⟨_, _, rfl, _⟩ := h; rfl
  · have S := sc_check_step
    exact (pss_one (ps_if (pt_not (pt_val (pe_call G_is_whole (hr.mono (by decide)) (by rfl) T.g_is_whole T.k_is_whole B_is_whole_3 V_is_whole_3 pass0 (pa_cons (pv 0) (pa_cons pe_int (pa_cons (pv 1) pa_nil))))))
      (pss_one (ps_raise rfl (takes_of rfl rfl rfl rfl) (pmk_own PySem.F.excBase_ValueError T.x_NoStep T.g_NoStep T.k_NoStep (raises_own T.bb_NoStep T.t_NoStep) (by exact rfl))))
      pss_nil))
theorem ok_check_place (F : Funs K A D) (T : Txt K mg A) : FnOk P w K mg base (L2.CX P w) 2 A.f_check_place D.d_check_place ["place", "many"] (sCkP K A.c_NoPlace) := by
  have G_is_whole := ok_is_whole (P := P) (w := w) (mg := mg) (base := base) F T
  have V_is_whole_3 : Vals [] [] := .nil
  have B_is_whole_3 := F.f_is_whole.binds (ps := ["thing", "low", "high"]) fun _ _ _ _ _ _ us hl => match us, hl with | [_, _, _], _ => rfl
  refine F.f_check_place.okX sc_check_place (fun vs H Q E h => ?_) (fun cdv Ar outer s H vs Q E hr h => ⟨t_check_place K A.c_NoPlace E, ?_, pure_check_place h⟩)
  · obtain ⟨_, _, rfl, _⟩ := h; rfl
  · have S := sc_check_place
    exact (pss_one (ps_if (pt_not (pt_val (pe_call G_is_whole (hr.mono (by decide)) (by rfl) T.g_is_whole T.k_is_whole B_is_whole_3 V_is_whole_3 pass0 (pa_cons (pv 0) (pa_cons pe_int (pa_cons (pe_op op_sub (pv 1) pe_int) pa_nil))))))
      (pss_one (ps_raise rfl (takes_of rfl rfl rfl rfl) (pmk_own PySem.F.excBase_ValueError T.x_NoPlace T.g_NoPlace T.k_NoPlace (raises_own T.bb_NoPlace T.t_NoPlace) (by exact rfl))))
      pss_nil))
theorem ok_check_count (F : Funs K A D) (T : Txt K mg A) : FnOk P w K mg base (L2.CX P w) 2 A.f_check_count D.d_check_count ["count", "low", "high"] (sCkC K A.c_NoCount) := by
  have G_is_whole := ok_is_whole (P := P) (w := w) (mg := mg) (base := base) F T
  have V_is_whole_3 : Vals [] [] := .nil
  have B_is_whole_3 := F.f_is_whole.binds (ps := ["thing", "low", "high"]) fun _ _ _ _ _ _ us hl => match us, hl with | [_, _, _], _ => rfl
  refine F.f_check_count.okX sc_check_count (fun vs H Q E h => ?_) (fun cdv Ar outer s H vs Q E hr h => ⟨t_check_count K A.c_NoCount E, ?_, pure_check_count h⟩)
  · obtain ⟨_, _, _, rfl, _⟩ := h; rfl
  · have S := sc_check_count
    exact (pss_one (ps_if (pt_not (pt_val (pe_call G_is_whole (hr.mono (by decide)) (by rfl) T.g_is_whole T.k_is_whole B_is_whole_3 V_is_whole_3 pass0 (pa_cons (pv 0) (pa_cons (pv 1) (pa_cons (pv 2) pa_nil))))))
      (pss_one (ps_raise rfl (takes_of rfl rfl rfl rfl) (pmk_own PySem.F.excBase_ValueError T.x_NoCount T.g_NoCount T.k_NoCount (raises_own T.bb_NoCount T.t_NoCount) (by exact rfl))))
      pss_nil))
theorem ok__check_ring (F : Funs K A D) (T : Txt K mg A) : FnOk P w K mg base (L2.CX P w) 3 A.f__check_ring D.d__check_ring ["many", "step", "begin"] (sRing K A.c_NoMany A.c_NoStep A.c_NoPlace) := by
  have G_check_many := ok_check_many (P := P) (w := w) (mg := mg) (base := base) F T
  have G_check_step := ok_check_step (P := P) (w := w) (mg := mg) (base := base) F T
  have G_check_place := ok_check_place (P := P) (w := w) (mg := mg) (base := base) F T
  have V_check_many_2 : Vals [] [] := .nil
  have B_check_many_2 := F.f_check_many.binds (ps := ["many", "most"]) fun _ _ _ _ _ _ us hl => match us, hl with | [_, _], _ => rfl
  have V_check_place_2 : Vals [] [] := .nil
  have B_check_place_2 := F.f_check_place.binds (ps := ["place", "many"]) fun _ _ _ _ _ _ us hl => match us, hl with | [_, _], _ => rfl
  have V_check_step_2 : Vals [] [] := .nil
  have B_check_step_2 := F.f_check_step.binds (ps := ["step", "most"]) fun _ _ _ _ _ _ us hl => match us, hl with | [_, _], _ => rfl
  refine F.f__check_ring.okX sc__check_ring (fun vs H Q E h => ?_) (fun cdv Ar outer s H vs Q E hr h => ⟨t_check_ring K A.c_NoMany A.c_NoStep A.c_NoPlace E, ?_, pure_check_ring h⟩)
  · unfold sRing at h; obtain ⟨m, d, b, rfl, _⟩ := h; rfl
  · have S := sc__check_ring
    exact (pss_cons (ps_expr (pe_call G_check_many (hr.mono (by decide)) (by rfl) T.g_check_many T.k_check_many B_check_many_2 V_check_many_2 (passes_call (takes_of rfl rfl rfl rfl) (fun _ _ _ _ h => h)) (pa_cons (pv 0) (pa_cons (pe_glob rfl T.c_GREATEST.choose_spec ⟨_, rfl⟩) pa_nil))))
      (pss_cons (ps_expr (pe_call G_check_step (hr.mono (by decide)) (by rfl) T.g_check_step T.k_check_step B_check_step_2 V_check_step_2 (passes_call (takes_of rfl rfl rfl rfl) (fun _ _ _ _ h => h)) (pa_cons (pv 1) (pa_cons (pe_glob rfl T.c_MOST_STEP.choose_spec ⟨_, rfl⟩) pa_nil))))
      (pss_one (ps_expr (pe_call G_check_place (hr.mono (by decide)) (by rfl) T.g_check_place T.k_check_place B_check_place_2 V_check_place_2 (passes_call (takes_of rfl rfl rfl rfl) (fun _ _ _ _ h => h)) (pa_cons (pv 2) (pa_cons (pv 0) pa_nil)))))))
theorem ok_count_of (F : Funs K A D) (T : Txt K mg A) : FnOk P w K mg base (L2.CX P w) 4 A.f_count_of D.d_count_of ["many", "step", "begin", "place"] (sCount K A.c_NoMany A.c_NoStep A.c_NoPlace) := by
  have G__check_ring := ok__check_ring (P := P) (w := w) (mg := mg) (base := base) F T
  have G_check_place := ok_check_place (P := P) (w := w) (mg := mg) (base := base) F T
  have V__check_ring_3 : Vals [] [] := .nil
  have B__check_ring_3 := F.f__check_ring.binds (ps := ["many", "step", "begin"]) fun _ _ _ _ _ _ us hl => match us, hl with | [_, _, _], _ => rfl
  have V_check_place_2 : Vals [] [] := .nil
  have B_check_place_2 := F.f_check_place.binds (ps := ["place", "many"]) fun _ _ _ _ _ _ us hl => match us, hl with | [_, _], _ => rfl
  refine F.f_count_of.okX sc_count_of (fun vs H Q E h => ?_) (fun cdv Ar outer s H vs Q E hr h => ⟨t_count_of K A.c_NoMany A.c_NoStep A.c_NoPlace E, ?_, pure_count_of h⟩)
  · unfold sCount at h; obtain ⟨_, _, _, _, rfl, _⟩ := h; rfl
  · have S := sc_count_of
    exact (pss_cons (ps_expr (pe_call G__check_ring (hr.mono (by decide)) (by rfl) T.g__check_ring T.k__check_ring B__check_ring_3 V__check_ring_3 (passes_call (takes_of rfl rfl rfl rfl) (fun _ _ _ _ h => h)) (pa_cons (pv 0) (pa_cons (pv 1) (pa_cons (pv 2) pa_nil)))))
      (pss_cons (ps_expr (pe_call G_check_place (hr.mono (by decide)) (by rfl) T.g_check_place T.k_check_place B_check_place_2 V_check_place_2 (passes_call (takes_of rfl rfl rfl rfl) (fun _ _ _ _ h => h)) (pa_cons (pv 3) (pa_cons (pv 0) pa_nil))))
      (pss_cons (ps_set (i := 4) S.nd rfl (Or.inl rfl) (pe_op op_add (pe_op op_mod (pe_op op_sub (pv 3) (pv 2)) (pv 0)) pe_int))
      (pss_cons (ps_while (passes_of rfl) (pt_cmpR op_ne (pe_op op_mod (pv 4) (pv 1)) pe_int (nomark _))
      (pss_one (ps_set (i := 4) S.nd rfl (Or.inl rfl) (pe_op op_sub (pe_op op_add (pv 0) (pv 4)) (pe_op op_fdiv (pv 4) (pv 1))))))
      (pss_one (ps_ret (pe_op op_fdiv (pv 4) (pv 1))))))))
theorem ok__place_at (F : Funs K A D) (T : Txt K mg A) : FnOk P w K mg base CX0 1 A.f__place_at D.d__place_at ["many", "step", "begin", "count"] sPlace := by
  refine F.f__place_at.ok sc__place_at (fun vs H Q E h => ?_) (fun cdv Ar outer s H vs Q E hr h => ⟨t_place_at, ?_, pure_place_at h⟩)
  · obtain ⟨_, _, _, _, rfl, _⟩ := h; rfl
  · have S := sc__place_at
    exact (pss_cons (ps_set (i := 4) S.nd rfl (Or.inl rfl) (pe_op op_mul (pv 3) (pv 1)))
      (pss_cons (ps_while PassesOwn.never (pt_cmpR op_gt (pv 4) (pv 0) (nomark _))
      (pss_cons (ps_set (i := 5) S.nd rfl (Or.inl rfl) (pe_op op_sub (pv 4) (pv 0)))
      (pss_one (ps_set (i := 4) S.nd rfl (Or.inl rfl) (pe_op op_add (pv 5) (pe_op op_fdiv (pe_op op_sub (pv 5) pe_int) (pe_op op_sub (pv 1) pe_int)))))))
      (pss_one (ps_ret (pe_op op_mod (pe_op op_sub (pe_op op_add (pv 2) (pv 4)) pe_int) (pv 0))))))
theorem ok_goes_at (F : Funs K A D) (T : Txt K mg A) : FnOk P w K mg base (L2.CX P w) 4 A.f_goes_at D.d_goes_at ["many", "step", "begin", "count"] (sGoes K A.c_NoMany A.c_NoStep A.c_NoPlace A.c_NoCount) := by
  have G__check_ring := ok__check_ring (P := P) (w := w) (mg := mg) (base := base) F T
  have G_check_count := ok_check_count (P := P) (w := w) (mg := mg) (base := base) F T
  have G__place_at := ok__place_at (P := P) (w := w) (mg := mg) (base := base) F T
  have V__check_ring_3 : Vals [] [] := .nil
  have B__check_ring_3 := F.f__check_ring.binds (ps := ["many", "step", "begin"]) fun _ _ _ _ _ _ us hl => match us, hl with | [_, _, _], _ => rfl
  have V__place_at_4 : Vals [] [] := .nil
  have B__place_at_4 := F.f__place_at.binds (ps := ["many", "step", "begin", "count"]) fun _ _ _ _ _ _ us hl => match us, hl with | [_, _, _, _], _ => rfl
  have V_check_count_3 : Vals [] [] := .nil
  have B_check_count_3 := F.f_check_count.binds (ps := ["count", "low", "high"]) fun _ _ _ _ _ _ us hl => match us, hl with | [_, _, _], _ => rfl
  refine F.f_goes_at.okX sc_goes_at (fun vs H Q E h => ?_) (fun cdv Ar outer s H vs Q E hr h => ⟨t_goes_at K A.c_NoMany A.c_NoStep A.c_NoPlace A.c_NoCount E, ?_, pure_goes_at h⟩)
  · unfold sGoes at h; obtain ⟨_, _, _, _, rfl, _⟩ := h; rfl
  · have S := sc_goes_at
    exact (pss_cons (ps_expr (pe_call G__check_ring (hr.mono (by decide)) (by rfl) T.g__check_ring T.k__check_ring B__check_ring_3 V__check_ring_3 (passes_call (takes_of rfl rfl rfl rfl) (fun _ _ _ _ h => h)) (pa_cons (pv 0) (pa_cons (pv 1) (pa_cons (pv 2) pa_nil)))))
      (pss_cons (ps_expr (pe_call G_check_count (hr.mono (by decide)) (by rfl) T.g_check_count T.k_check_count B_check_count_3 V_check_count_3 (passes_call (takes_of rfl rfl rfl rfl) (fun _ _ _ _ h => h)) (pa_cons (pv 3) (pa_cons pe_int (pa_cons (pv 0) pa_nil)))))
      (pss_one (ps_ret (pe_call G__place_at (hr.mono (by decide)) (by rfl) T.g__place_at T.k__place_at B__place_at_4 V__place_at_4 pass0 (pa_cons (pv 0) (pa_cons (pv 1) (pa_cons (pv 2) (pa_cons (pv 3) pa_nil)))))))))
theorem ok_last_of (F : Funs K A D) (T : Txt K mg A) : FnOk P w K mg base (L2.CX P w) 4 A.f_last_of D.d_last_of ["many", "step", "begin"] (sLast K A.c_NoMany A.c_NoStep A.c_NoPlace) := by
  have G__check_ring := ok__check_ring (P := P) (w := w) (mg := mg) (base := base) F T
  have G__place_at := ok__place_at (P := P) (w := w) (mg := mg) (base := base) F T
  have V__check_ring_3 : Vals [] [] := .nil
  have B__check_ring_3 := F.f__check_ring.binds (ps := ["many", "step", "begin"]) fun _ _ _ _ _ _ us hl => match us, hl with | [_, _, _], _ => rfl
  have V__place_at_4 : Vals [] [] := .nil
  have B__place_at_4 := F.f__place_at.binds (ps := ["many", "step", "begin", "count"]) fun _ _ _ _ _ _ us hl => match us, hl with | [_, _, _, _], _ => rfl
  refine F.f_last_of.ok (CX := L2.CX P w) sc_last_of (fun vs H Q E h => ?_) (fun cdv Ar outer s H vs Q E hr h => ⟨t_last_of K A.c_NoMany A.c_NoStep A.c_NoPlace E, ?_, pure_last_of h⟩)
  · unfold sLast at h; obtain ⟨_, _, _, rfl, _⟩ := h; rfl
  · have S := sc_last_of
    exact (pss_cons (ps_expr (pe_call G__check_ring (hr.mono (by decide)) (by rfl) T.g__check_ring T.k__check_ring B__check_ring_3 V__check_ring_3 (passes_call (takes_of rfl rfl rfl rfl) (fun _ _ _ _ h => h)) (pa_cons (pv 0) (pa_cons (pv 1) (pa_cons (pv 2) pa_nil)))))
      (pss_one (ps_ret (pe_call G__place_at (hr.mono (by decide)) (by rfl) T.g__place_at T.k__place_at B__place_at_4 V__place_at_4 pass0 (pa_cons (pv 0) (pa_cons (pv 1) (pa_cons (pv 2) (pa_cons (pv 0) pa_nil))))))))
theorem ok__law_cell_at (F : Funs K A D) (T : Txt K mg A) : FnOk P w K mg base CX0 1 A.f__law_cell_at D.d__law_cell_at ["_law_script", "_law_k"] (sCell K) := by
  refine F.f__law_cell_at.ok sc__law_cell_at (fun vs H Q E h => ?_) (fun cdv Ar outer s H vs Q E hr h => ⟨t_cell K, ?_, pure_cell h⟩)
  · obtain ⟨_, _, _, rfl, _⟩ := h; rfl
  · have S := sc__law_cell_at
    exact (pss_cons (ps_if (pt_cmpR op_lt (pv 1) (pe_callB call_len_seq (by rfl) T.b_len PySem.boot_len (pa_cons (pv 0) pa_nil)) (nomark _))
      (pss_one (ps_ret (pe_ix ix_list (pv 0) (pv 1) (fun _ _ => rfl))))
      pss_nil)
      (pss_one (ps_ret pe_int)))
theorem ok__law_next (F : Funs K A D) (T : Txt K mg A) : FnOk P w K mg base CX0 1 A.f__law_next D.d__law_next ["_law_state_here"] sNext := by
  refine F.f__law_next.ok sc__law_next (fun vs H Q E h => ?_) (fun cdv Ar outer s H vs Q E hr h => ⟨t_next K, ?_, pure_next h⟩)
  · obtain ⟨_, rfl, _⟩ := h; rfl
  · have S := sc__law_next
    exact (pss_cons (ps_asg (pe_op op_mod (pe_op op_add (pe_op op_mul (pe_ix ix_list (pv 0) pe_int (fun _ _ => rfl)) pe_int) pe_int) pe_int) (pg_sub (pv 0) pe_int set_list))
      (pss_one (ps_ret (pe_op op_fdiv (pe_op op_mod (pe_op op_mul (pe_ix ix_list (pv 0) pe_int (fun _ _ => rfl)) (pe_ix ix_list (pv 0) pe_int (fun _ _ => rfl))) pe_int) pe_int))))
theorem ok__law_state (F : Funs K A D) (T : Txt K mg A) : FnOk P w K mg base CX0 2 A.f__law_state D.d__law_state ["_law_script", "_law_first"] (sState K) := by
  have G__law_cell_at := ok__law_cell_at (P := P) (w := w) (mg := mg) (base := base) F T
  have V__law_cell_at_2 : Vals [] [] := .nil
  have B__law_cell_at_2 := F.f__law_cell_at.binds (ps := ["_law_script", "_law_k"]) fun _ _ _ _ _ _ us hl => match us, hl with | [_, _], _ => rfl
  refine F.f__law_state.ok sc__law_state (fun vs H Q E h => ?_) (fun cdv Ar outer s H vs Q E hr h => ⟨t_state K, ?_, pure_state h⟩)
  · obtain ⟨_, _, _, rfl, _⟩ := h; rfl
  · have S := sc__law_state
    exact (pss_one (ps_ret (pe_lst (pa_cons (pe_op op_add (pe_op op_add pe_int (pe_op op_mod (pe_call G__law_cell_at (hr.mono (by decide)) (by rfl) T.g__law_cell_at T.k__law_cell_at B__law_cell_at_2 V__law_cell_at_2 pass0 (pa_cons (pv 0) (pa_cons (pv 1) pa_nil))) pe_int)) (pe_op op_mod (pe_call G__law_cell_at (hr.mono (by decide)) (by rfl) T.g__law_cell_at T.k__law_cell_at B__law_cell_at_2 V__law_cell_at_2 pass0 (pa_cons (pv 0) (pa_cons (pe_op op_add (pv 1) pe_int) pa_nil))) pe_int)) pa_nil))))
theorem ok__law_of (F : Funs K A D) (T : Txt K mg A) : FnOk P w K mg base CX0 2 A.f__law_of D.d__law_of ["_law_state_here", "_law_some"] sOf := by
  have G__law_next := ok__law_next (P := P) (w := w) (mg := mg) (base := base) F T
  have V__law_next_1 : Vals [] [] := .nil
  have B__law_next_1 := F.f__law_next.binds (ps := ["_law_state_here"]) fun _ _ _ _ _ _ us hl => match us, hl with | [_], _ => rfl
  refine F.f__law_of.ok sc__law_of (fun vs H Q E h => ?_) (fun cdv Ar outer s H vs Q E hr h => ⟨t_of K, ?_, pure_of h⟩)
  · obtain ⟨_, _, rfl, _⟩ := h; rfl
  · have S := sc__law_of
    exact (pss_one (ps_ret (pe_ix ix_seq (pv 1) (pe_op op_mod (pe_call G__law_next (hr.mono (by decide)) (by rfl) T.g__law_next T.k__law_next B__law_next_1 V__law_next_1 pass0 (pa_cons (pv 0) pa_nil)) (pe_callB call_len (by rfl) T.b_len PySem.boot_len (pa_cons (pv 1) pa_nil))) (fun _ _ => rfl))))
theorem ok__law_turned (F : Funs K A D) (T : Txt K mg A) : FnOk P w K mg base CX0 1 A.f__law_turned D.d__law_turned ["_law_row", "_law_many"] sTurned := by
  refine F.f__law_turned.ok sc__law_turned (fun vs H Q E h => ?_) (fun cdv Ar outer s H vs Q E hr h => ⟨t_turned K, ?_, pure_turned h⟩)
  · obtain ⟨_, _, _, rfl, _⟩ := h; rfl
  · have S := sc__law_turned
    exact (pss_cons (ps_set (i := 1) S.nd rfl (Or.inl rfl) (pe_op op_mod (pv 1) (pe_callB call_len_seq (by rfl) T.b_len PySem.boot_len (pa_cons (pv 0) pa_nil))))
      (pss_one (ps_ret (pe_op op_cat (pe_slice sl_list (pv 0) (po_some (pv 1)) po_none) (pe_slice sl_list (pv 0) po_none (po_some (pv 1)))))))
theorem ok__law_out (F : Funs K A D) (T : Txt K mg A) : FnOk P w K mg base CX0 1 A.f__law_out D.d__law_out ["_law_row", "_law_step_here"] (sOut K) := by
  refine F.f__law_out.ok sc__law_out (fun vs H Q E h => ?_) (fun cdv Ar outer s H vs Q E hr h => ⟨t_out K, ?_, pure_out h⟩)
  · obtain ⟨_, _, _, rfl, _⟩ := h; rfl
  · have S := sc__law_out
    have hu64 := hr.units
    exact (pss_cons (ps_set (i := 2) S.nd rfl (Or.inl rfl) (pe_lst pa_nil))
      (pss_cons (ps_set (i := 3) S.nd rfl (Or.inl rfl) (pe_callTy call_list_of (by rfl) T.b_list (by decide +kernel) (pa_cons (pv 0) pa_nil)))
      (pss_cons (ps_while PassesOwn.never (pt_cmpR (op_neF hu64) (pv 3) (pe_lst pa_nil) (nomark _))
      (pss_cons (ps_set (i := 4) S.nd rfl (Or.inl rfl) (pv 1))
      (pss_cons (ps_if (pt_cmpR op_gt (pv 1) (pe_op op_mul pe_int (pe_callB call_len_seq (by rfl) T.b_len PySem.boot_len (pa_cons (pv 3) pa_nil))) (nomark _))
      (pss_one (ps_set (i := 4) S.nd rfl (Or.inl rfl) (pe_op op_add (pe_op op_mod (pv 1) (pe_callB call_len_seq (by rfl) T.b_len PySem.boot_len (pa_cons (pv 3) pa_nil))) (pe_op op_mul pe_int (pe_callB call_len_seq (by rfl) T.b_len PySem.boot_len (pa_cons (pv 3) pa_nil))))))
      pss_nil)
      (pss_cons (ps_while PassesOwn.never (pt_cmpR op_gt (pv 4) pe_int (nomark _))
      (pss_cons (ps_expr (pe_bm PySem.F.plainAttrs_list PySem.F.slot_list_append PySem.F.type_list_append mt_append (pv 3) (pa_cons (pe_bm PySem.F.plainAttrs_list PySem.F.slot_list_pop PySem.F.type_list_pop mt_popAt (pv 3) (pa_cons pe_int pa_nil)) pa_nil)))
      (pss_one (ps_set (i := 4) S.nd rfl (Or.inl rfl) (pe_op op_sub (pv 4) pe_int)))))
      (pss_one (ps_expr (pe_bm PySem.F.plainAttrs_list PySem.F.slot_list_append PySem.F.type_list_append mt_append (pv 2) (pa_cons (pe_bm PySem.F.plainAttrs_list PySem.F.slot_list_pop PySem.F.type_list_pop mt_popAt (pv 3) (pa_cons pe_int pa_nil)) pa_nil))))))))
      (pss_one (ps_ret (pv 2))))))
theorem ok__law_step (F : Funs K A D) (T : Txt K mg A) : FnOk P w K mg base CX0 3 A.f__law_step D.d__law_step ["_law_state_here", "_law_most"] sStep := by
  have G__law_of := ok__law_of (P := P) (w := w) (mg := mg) (base := base) F T
  have G__law_next := ok__law_next (P := P) (w := w) (mg := mg) (base := base) F T
  have V__law_next_1 : Vals [] [] := .nil
  have B__law_next_1 := F.f__law_next.binds (ps := ["_law_state_here"]) fun _ _ _ _ _ _ us hl => match us, hl with | [_], _ => rfl
  have V__law_of_2 : Vals [] [] := .nil
  have B__law_of_2 := F.f__law_of.binds (ps := ["_law_state_here", "_law_some"]) fun _ _ _ _ _ _ us hl => match us, hl with | [_, _], _ => rfl
  refine F.f__law_step.ok sc__law_step (fun vs H Q E h => ?_) (fun cdv Ar outer s H vs Q E hr h => ⟨t_step, ?_, pure_step h⟩)
  · obtain ⟨_, _, rfl, _⟩ := h; rfl
  · have S := sc__law_step
    exact (pss_one (ps_ret (pe_call G__law_of (hr.mono (by decide)) (by rfl) T.g__law_of T.k__law_of B__law_of_2 V__law_of_2 pass0 (pa_cons (pv 0) (pa_cons (pe_lst (pa_cons pe_int (pa_cons pe_int (pa_cons pe_int (pa_cons (pe_op op_add pe_int (pe_op op_mod (pe_call G__law_next (hr.mono (by decide)) (by rfl) T.g__law_next T.k__law_next B__law_next_1 V__law_next_1 pass0 (pa_cons (pv 0) pa_nil)) pe_int)) (pa_cons (pe_op op_add pe_int (pe_op op_mod (pe_call G__law_next (hr.mono (by decide)) (by rfl) T.g__law_next T.k__law_next B__law_next_1 V__law_next_1 pass0 (pa_cons (pv 0) pa_nil)) (pv 1))) (pa_cons (pv 1) pa_nil))))))) pa_nil)))))
theorem ok__law_whole (F : Funs K A D) (T : Txt K mg A) : FnOk P w K mg base CX0 1 A.f__law_whole D.d__law_whole ["_law_found"] sWhole := by
  refine F.f__law_whole.ok sc__law_whole (fun vs H Q E h => ?_) (fun cdv Ar outer s H vs Q E hr h => ⟨t_whole K, ?_, pure_whole h⟩)
  · obtain ⟨_, rfl, _⟩ := h; rfl
  · have S := sc__law_whole
    exact (pss_one (ps_ret (pe_and (pe_callB call_isi (by rfl) T.b_isinstance (by decide +kernel) (pa_cons (pv 0) (pa_cons (pe_bltn (v := .ty "int") (by rfl) T.b_int (by decide +kernel) rfl) pa_nil))) (pe_one (pe_not (pe_callB call_isi (by rfl) T.b_isinstance (by decide +kernel) (pa_cons (pv 0) (pa_cons (pe_bltn (v := .ty "bool") (by rfl) T.b_bool (by decide +kernel) rfl) pa_nil))))))))
theorem ok_law (F : Funs K A D) (T : Txt K mg A) : FnOk P w K mg base CX0 5 A.f_law D.d_law ["_law_script"] (sLaw K) := by
  have G__law_state := ok__law_state (P := P) (w := w) (mg := mg) (base := base) F T
  have G__law_of := ok__law_of (P := P) (w := w) (mg := mg) (base := base) F T
  have G__law_next := ok__law_next (P := P) (w := w) (mg := mg) (base := base) F T
  have G__law_step := ok__law_step (P := P) (w := w) (mg := mg) (base := base) F T
  have G__law_out := ok__law_out (P := P) (w := w) (mg := mg) (base := base) F T
  have G__law_turned := ok__law_turned (P := P) (w := w) (mg := mg) (base := base) F T
  have G_goes_at := ok_goes_at (P := P) (w := w) (mg := mg) (base := base) F T
  have G_count_of := ok_count_of (P := P) (w := w) (mg := mg) (base := base) F T
  have G__law_whole := ok__law_whole (P := P) (w := w) (mg := mg) (base := base) F T
  have G_last_of := ok_last_of (P := P) (w := w) (mg := mg) (base := base) F T
  have V__law_next_1 : Vals [] [] := .nil
  have B__law_next_1 := F.f__law_next.binds (ps := ["_law_state_here"]) fun _ _ _ _ _ _ us hl => match us, hl with | [_], _ => rfl
  have V__law_of_2 : Vals [] [] := .nil
  have B__law_of_2 := F.f__law_of.binds (ps := ["_law_state_here", "_law_some"]) fun _ _ _ _ _ _ us hl => match us, hl with | [_, _], _ => rfl
  have V__law_out_2 : Vals [] [] := .nil
  have B__law_out_2 := F.f__law_out.binds (ps := ["_law_row", "_law_step_here"]) fun _ _ _ _ _ _ us hl => match us, hl with | [_, _], _ => rfl
  have V__law_state_2 : Vals [] [] := .nil
  have B__law_state_2 := F.f__law_state.binds (ps := ["_law_script", "_law_first"]) fun _ _ _ _ _ _ us hl => match us, hl with | [_, _], _ => rfl
  have V__law_step_2 : Vals [] [] := .nil
  have B__law_step_2 := F.f__law_step.binds (ps := ["_law_state_here", "_law_most"]) fun _ _ _ _ _ _ us hl => match us, hl with | [_, _], _ => rfl
  have V__law_turned_2 : Vals [] [] := .nil
  have B__law_turned_2 := F.f__law_turned.binds (ps := ["_law_row", "_law_many"]) fun _ _ _ _ _ _ us hl => match us, hl with | [_, _], _ => rfl
  have V__law_whole_1 : Vals [] [] := .nil
  have B__law_whole_1 := F.f__law_whole.binds (ps := ["_law_found"]) fun _ _ _ _ _ _ us hl => match us, hl with | [_], _ => rfl
  have V_count_of_4 : Vals [] [] := .nil
  have B_count_of_4 := F.f_count_of.binds (ps := ["many", "step", "begin", "place"]) fun _ _ _ _ _ _ us hl => match us, hl with | [_, _, _, _], _ => rfl
  have V_goes_at_4 : Vals [] [] := .nil
  have B_goes_at_4 := F.f_goes_at.binds (ps := ["many", "step", "begin", "count"]) fun _ _ _ _ _ _ us hl => match us, hl with | [_, _, _, _], _ => rfl
  obtain ⟨ds_last_of_2, V_last_of_2, B_last_of_2⟩ := F.f_last_of.binds1 (ps := ["many", "step", "begin"]) 2 0 (by simp) rfl (fun _ _ _ _ _ _ _ us its hu hi => match us, its, hu, hi with | [_, _], [_], _, _ => ⟨_, rfl, rfl⟩)
  obtain ⟨ds_last_of_3, V_last_of_3, B_last_of_3⟩ := F.f_last_of.binds1 (ps := ["many", "step", "begin"]) 3 1 (by simp) rfl (fun _ _ _ _ _ _ _ us its hu hi => match us, its, hu, hi with | [_, _, _], [_], _, _ => ⟨_, rfl, rfl⟩)
  obtain rfl : ds_last_of_3 = [] := List.eq_nil_of_length_eq_zero (V_last_of_3.length).symm
  refine F.f_law.ok sc_law (fun vs H Q E h => ?_) (fun cdv Ar outer s H vs Q E hr h => ⟨t_law K A.c_NoMany A.c_NoStep A.c_NoPlace A.c_NoCount, ?_, pure_law h⟩)
  · obtain ⟨_, _, rfl, _⟩ := h; rfl
  · have S := sc_law
    have hu64 := hr.units
    exact (pss_cons (ps_set (i := 1) S.nd rfl (Or.inl rfl) (pe_call G__law_state (hr.mono (by decide)) (by rfl) T.g__law_state T.k__law_state B__law_state_2 V__law_state_2 pass0 (pa_cons (pv 0) (pa_cons pe_int pa_nil))))
      (pss_cons (ps_for PassesOwn.never rfl (pi_range1 (by rfl) T.b_range (pa_cons pe_int pa_nil)) (pg_name (i := 2) S.nd rfl (Or.inl rfl))
      (pss_cons (ps_set (i := 3) S.nd rfl (Or.inl rfl) (pe_call G__law_of (hr.mono (by decide)) (by rfl) T.g__law_of T.k__law_of B__law_of_2 V__law_of_2 pass0 (pa_cons (pv 1) (pa_cons (pe_lst (pa_cons pe_int (pa_cons pe_int (pa_cons pe_int (pa_cons (pe_op op_add pe_int (pe_op op_mod (pe_call G__law_next (hr.mono (by decide)) (by rfl) T.g__law_next T.k__law_next B__law_next_1 V__law_next_1 pass0 (pa_cons (pv 1) pa_nil)) pe_int)) pa_nil))))) pa_nil))))
      (pss_cons (ps_set (i := 4) S.nd rfl (Or.inl rfl) (pe_call G__law_step (hr.mono (by decide)) (by rfl) T.g__law_step T.k__law_step B__law_step_2 V__law_step_2 pass0 (pa_cons (pv 1) (pa_cons pe_int pa_nil))))
      (pss_cons (ps_set (i := 5) S.nd rfl (Or.inl rfl) (pe_call G__law_of (hr.mono (by decide)) (by rfl) T.g__law_of T.k__law_of B__law_of_2 V__law_of_2 pass0 (pa_cons (pv 1) (pa_cons (pe_lst (pa_cons pe_int (pa_cons (pe_op op_sub (pv 3) pe_int) (pa_cons (pe_op op_mod (pe_call G__law_next (hr.mono (by decide)) (by rfl) T.g__law_next T.k__law_next B__law_next_1 V__law_next_1 pass0 (pa_cons (pv 1) pa_nil)) (pv 3)) pa_nil)))) pa_nil))))
      (pss_cons (ps_set (i := 6) S.nd rfl (Or.inl rfl) (pe_call G__law_out (hr.mono (by decide)) (by rfl) T.g__law_out T.k__law_out B__law_out_2 V__law_out_2 pass0 (pa_cons (pe_call G__law_turned (hr.mono (by decide)) (by rfl) T.g__law_turned T.k__law_turned B__law_turned_2 V__law_turned_2 pass0 (pa_cons (pe_listRg rfl rfl T.b_list (prg_1 rfl T.b_range (pv 3))) (pa_cons (pv 5) pa_nil))) (pa_cons (pv 4) pa_nil))))
      (pss_cons (ps_for PassesOwn.never rfl (pi_enum (by rfl) T.b_enumerate (pa_cons (pv 6) pa_nil)) (pg_tup rfl (pgs_cons (pg_name (i := 7) S.nd rfl (Or.inl rfl)) (pgs_cons (pg_name (i := 8) S.nd rfl (Or.inl rfl)) pgs_nil)))
      (pss_cons (ps_set (i := 9) S.nd rfl (Or.inl rfl) (pe_lst (pa_cons (pe_call G_count_of (hr.mono (by decide)) (by rfl) T.g_count_of T.k_count_of B_count_of_4 V_count_of_4 passL (pa_cons (pv 3) (pa_cons (pv 4) (pa_cons (pv 5) (pa_cons (pv 8) pa_nil))))) (pa_cons (pe_call G_goes_at (hr.mono (by decide)) (by rfl) T.g_goes_at T.k_goes_at B_goes_at_4 V_goes_at_4 passL (pa_cons (pv 3) (pa_cons (pv 4) (pa_cons (pv 5) (pa_cons (pe_op op_add (pv 7) pe_int) pa_nil))))) pa_nil))))
      (pss_one (ps_if (PW.pt (pw_or (pt_cmpR (op_neF hu64) (pv 9) (pe_lst (pa_cons (pe_op op_add (pv 7) pe_int) (pa_cons (pv 8) pa_nil))) (nomark _)) (pw_or (pt_not (pt_val (pe_call G__law_whole (hr.mono (by decide)) (by rfl) T.g__law_whole T.k__law_whole B__law_whole_1 V__law_whole_1 pass0 (pa_cons (pe_ix ix_list (pv 9) pe_int (fun _ _ => rfl)) pa_nil)))) (pw_or1 (pt_not (pt_val (pe_call G__law_whole (hr.mono (by decide)) (by rfl) T.g__law_whole T.k__law_whole B__law_whole_1 V__law_whole_1 pass0 (pa_cons (pe_ix ix_list (pv 9) pe_int (fun _ _ => rfl)) pa_nil))))))))
      (pss_one (ps_ret pe_bl))
      pss_nil))))
      (pss_cons (ps_if (PW.pt (pw_or (pt_cmpR op_ne (pe_call G_last_of (hr.mono (by decide)) (by rfl) T.g_last_of T.k_last_of B_last_of_3 V_last_of_3 passL (pa_cons (pv 3) (pa_cons (pv 4) (pa_cons (pv 5) pa_nil)))) (pe_ix ix_list (pv 6) (pe_un un_neg pe_int) (fun _ _ => rfl)) (nomark _)) (pw_or1 (pt_not (pt_val (pe_call G__law_whole (hr.mono (by decide)) (by rfl) T.g__law_whole T.k__law_whole B__law_whole_1 V__law_whole_1 pass0 (pa_cons (pe_call G_last_of (hr.mono (by decide)) (by rfl) T.g_last_of T.k_last_of B_last_of_3 V_last_of_3 passL (pa_cons (pv 3) (pa_cons (pv 4) (pa_cons (pv 5) pa_nil)))) pa_nil)))))))
      (pss_one (ps_ret pe_bl))
      pss_nil)
      (pss_one (ps_if (pt_cmpR op_ne (pe_call G_last_of (hr.mono (by decide)) (by rfl) T.g_last_of T.k_last_of B_last_of_2 V_last_of_2 passL (pa_cons (pv 3) (pa_cons (pv 4) pa_nil))) (pe_ix ix_list (pe_call G__law_out (hr.mono (by decide)) (by rfl) T.g__law_out T.k__law_out B__law_out_2 V__law_out_2 pass0 (pa_cons (pe_listRg rfl rfl T.b_list (prg_1 rfl T.b_range (pv 3))) (pa_cons (pv 4) pa_nil))) (pe_un un_neg pe_int) (fun _ _ => rfl)) (nomark _))
      (pss_one (ps_ret pe_bl))
      pss_nil)))))))))
      (pss_one (ps_ret pe_bl))))
end
theorem all_mk {l : PySem.W.OpenLaw} {w : World} {K : PySem.W.Frag} {h : Heap} {mg : Str → Option Value} {fa : Addr} (X : K.In h) (G : h.Ns mainGlobals mg) (hfa : mg "law" = some (.ref fa))
    {f_is_whole : Addr} {od_is_whole an_is_whole : Option Addr} {sl_is_whole : Array (Option Value)} {oc_is_whole kV_is_whole dc_is_whole pm_is_whole cd_is_whole ct_is_whole : Value}
    (a_is_whole : PySem.W.nsIn K mainGlobals "is_whole" = some (some (.ref f_is_whole)))
    (l_is_whole : K.lookup f_is_whole = some ⟨oc_is_whole, od_is_whole, .func (PySem.W.fnOf "is_whole" "is_whole" (defArgs s_is_whole) (defBody s_is_whole) (defScope s_is_whole) .none kV_is_whole dc_is_whole pm_is_whole an_is_whole cd_is_whole ct_is_whole), sl_is_whole⟩)
    (cc_is_whole : PySem.W.codeIn K cd_is_whole "is_whole" = true) (k_is_whole : PySem.W.keepIn K (.ref f_is_whole) = true)
    {f_check_many : Addr} {od_check_many an_check_many : Option Addr} {sl_check_many : Array (Option Value)} {oc_check_many kV_check_many dc_check_many pm_check_many cd_check_many ct_check_many : Value}
    (a_check_many : PySem.W.nsIn K mainGlobals "check_many" = some (some (.ref f_check_many)))
    (l_check_many : K.lookup f_check_many = some ⟨oc_check_many, od_check_many, .func (PySem.W.fnOf "check_many" "check_many" (defArgs s_check_many) (defBody s_check_many) (defScope s_check_many) .none kV_check_many dc_check_many pm_check_many an_check_many cd_check_many ct_check_many), sl_check_many⟩)
    (cc_check_many : PySem.W.codeIn K cd_check_many "check_many" = true) (k_check_many : PySem.W.keepIn K (.ref f_check_many) = true)
    {f_check_step : Addr} {od_check_step an_check_step : Option Addr} {sl_check_step : Array (Option Value)} {oc_check_step kV_check_step dc_check_step pm_check_step cd_check_step ct_check_step : Value}
    (a_check_step : PySem.W.nsIn K mainGlobals "check_step" = some (some (.ref f_check_step)))
    (l_check_step : K.lookup f_check_step = some ⟨oc_check_step, od_check_step, .func (PySem.W.fnOf "check_step" "check_step" (defArgs s_check_step) (defBody s_check_step) (defScope s_check_step) .none kV_check_step dc_check_step pm_check_step an_check_step cd_check_step ct_check_step), sl_check_step⟩)
    (cc_check_step : PySem.W.codeIn K cd_check_step "check_step" = true) (k_check_step : PySem.W.keepIn K (.ref f_check_step) = true)
    {f_check_place : Addr} {od_check_place an_check_place : Option Addr} {sl_check_place : Array (Option Value)} {oc_check_place kV_check_place dc_check_place pm_check_place cd_check_place ct_check_place : Value}
    (a_check_place : PySem.W.nsIn K mainGlobals "check_place" = some (some (.ref f_check_place)))
    (l_check_place : K.lookup f_check_place = some ⟨oc_check_place, od_check_place, .func (PySem.W.fnOf "check_place" "check_place" (defArgs s_check_place) (defBody s_check_place) (defScope s_check_place) .none kV_check_place dc_check_place pm_check_place an_check_place cd_check_place ct_check_place), sl_check_place⟩)
    (cc_check_place : PySem.W.codeIn K cd_check_place "check_place" = true) (k_check_place : PySem.W.keepIn K (.ref f_check_place) = true)
    {f_check_count : Addr} {od_check_count an_check_count : Option Addr} {sl_check_count : Array (Option Value)} {oc_check_count kV_check_count dc_check_count pm_check_count cd_check_count ct_check_count : Value}
    (a_check_count : PySem.W.nsIn K mainGlobals "check_count" = some (some (.ref f_check_count)))
    (l_check_count : K.lookup f_check_count = some ⟨oc_check_count, od_check_count, .func (PySem.W.fnOf "check_count" "check_count" (defArgs s_check_count) (defBody s_check_count) (defScope s_check_count) .none kV_check_count dc_check_count pm_check_count an_check_count cd_check_count ct_check_count), sl_check_count⟩)
    (cc_check_count : PySem.W.codeIn K cd_check_count "check_count" = true) (k_check_count : PySem.W.keepIn K (.ref f_check_count) = true)
    {f_count_of : Addr} {od_count_of an_count_of : Option Addr} {sl_count_of : Array (Option Value)} {oc_count_of kV_count_of dc_count_of pm_count_of cd_count_of ct_count_of : Value}
    (a_count_of : PySem.W.nsIn K mainGlobals "count_of" = some (some (.ref f_count_of)))
    (l_count_of : K.lookup f_count_of = some ⟨oc_count_of, od_count_of, .func (PySem.W.fnOf "count_of" "count_of" (defArgs s_count_of) (defBody s_count_of) (defScope s_count_of) .none kV_count_of dc_count_of pm_count_of an_count_of cd_count_of ct_count_of), sl_count_of⟩)
    (cc_count_of : PySem.W.codeIn K cd_count_of "count_of" = true) (k_count_of : PySem.W.keepIn K (.ref f_count_of) = true)
    {f_goes_at : Addr} {od_goes_at an_goes_at : Option Addr} {sl_goes_at : Array (Option Value)} {oc_goes_at kV_goes_at dc_goes_at pm_goes_at cd_goes_at ct_goes_at : Value}
    (a_goes_at : PySem.W.nsIn K mainGlobals "goes_at" = some (some (.ref f_goes_at)))
    (l_goes_at : K.lookup f_goes_at = some ⟨oc_goes_at, od_goes_at, .func (PySem.W.fnOf "goes_at" "goes_at" (defArgs s_goes_at) (defBody s_goes_at) (defScope s_goes_at) .none kV_goes_at dc_goes_at pm_goes_at an_goes_at cd_goes_at ct_goes_at), sl_goes_at⟩)
    (cc_goes_at : PySem.W.codeIn K cd_goes_at "goes_at" = true) (k_goes_at : PySem.W.keepIn K (.ref f_goes_at) = true)
    {f_last_of : Addr} {od_last_of an_last_of : Option Addr} {sl_last_of : Array (Option Value)} {oc_last_of kV_last_of dc_last_of pm_last_of cd_last_of ct_last_of : Value}
    {dT_last_of : Addr} {dO_last_of : Obj} {dI_last_of : List Value} {dN_last_of : Nat}
    (a_last_of : PySem.W.nsIn K mainGlobals "last_of" = some (some (.ref f_last_of)))
    (l_last_of : K.lookup f_last_of = some ⟨oc_last_of, od_last_of, .func (PySem.W.fnOf "last_of" "last_of" (defArgs s_last_of) (defBody s_last_of) (defScope s_last_of) (.ref dT_last_of) kV_last_of dc_last_of pm_last_of an_last_of cd_last_of ct_last_of), sl_last_of⟩)
    (dt_last_of : K.lookup dT_last_of = some dO_last_of) (dd_last_of : dO_last_of.data = .seq dI_last_of.toArray dN_last_of) (dv_last_of : Vals [.int 0] dI_last_of)
    (cc_last_of : PySem.W.codeIn K cd_last_of "last_of" = true) (k_last_of : PySem.W.keepIn K (.ref f_last_of) = true)
    {f__check_ring : Addr} {od__check_ring an__check_ring : Option Addr} {sl__check_ring : Array (Option Value)} {oc__check_ring kV__check_ring dc__check_ring pm__check_ring cd__check_ring ct__check_ring : Value}
    (a__check_ring : PySem.W.nsIn K mainGlobals "_check_ring" = some (some (.ref f__check_ring)))
    (l__check_ring : K.lookup f__check_ring = some ⟨oc__check_ring, od__check_ring, .func (PySem.W.fnOf "_check_ring" "_check_ring" (defArgs s__check_ring) (defBody s__check_ring) (defScope s__check_ring) .none kV__check_ring dc__check_ring pm__check_ring an__check_ring cd__check_ring ct__check_ring), sl__check_ring⟩)
    (cc__check_ring : PySem.W.codeIn K cd__check_ring "_check_ring" = true) (k__check_ring : PySem.W.keepIn K (.ref f__check_ring) = true)
    {f__place_at : Addr} {od__place_at an__place_at : Option Addr} {sl__place_at : Array (Option Value)} {oc__place_at kV__place_at dc__place_at pm__place_at cd__place_at ct__place_at : Value}
    (a__place_at : PySem.W.nsIn K mainGlobals "_place_at" = some (some (.ref f__place_at)))
    (l__place_at : K.lookup f__place_at = some ⟨oc__place_at, od__place_at, .func (PySem.W.fnOf "_place_at" "_place_at" (defArgs s__place_at) (defBody s__place_at) (defScope s__place_at) .none kV__place_at dc__place_at pm__place_at an__place_at cd__place_at ct__place_at), sl__place_at⟩)
    (cc__place_at : PySem.W.codeIn K cd__place_at "_place_at" = true) (k__place_at : PySem.W.keepIn K (.ref f__place_at) = true)
    {f__law_cell_at : Addr} {od__law_cell_at an__law_cell_at : Option Addr} {sl__law_cell_at : Array (Option Value)} {oc__law_cell_at kV__law_cell_at dc__law_cell_at pm__law_cell_at cd__law_cell_at ct__law_cell_at : Value}
    (a__law_cell_at : PySem.W.nsIn K mainGlobals "_law_cell_at" = some (some (.ref f__law_cell_at)))
    (l__law_cell_at : K.lookup f__law_cell_at = some ⟨oc__law_cell_at, od__law_cell_at, .func (PySem.W.fnOf "_law_cell_at" "_law_cell_at" (defArgs s__law_cell_at) (defBody s__law_cell_at) (defScope s__law_cell_at) .none kV__law_cell_at dc__law_cell_at pm__law_cell_at an__law_cell_at cd__law_cell_at ct__law_cell_at), sl__law_cell_at⟩)
    (cc__law_cell_at : PySem.W.codeIn K cd__law_cell_at "_law_cell_at" = true) (k__law_cell_at : PySem.W.keepIn K (.ref f__law_cell_at) = true)
    {f__law_next : Addr} {od__law_next an__law_next : Option Addr} {sl__law_next : Array (Option Value)} {oc__law_next kV__law_next dc__law_next pm__law_next cd__law_next ct__law_next : Value}
    (a__law_next : PySem.W.nsIn K mainGlobals "_law_next" = some (some (.ref f__law_next)))
    (l__law_next : K.lookup f__law_next = some ⟨oc__law_next, od__law_next, .func (PySem.W.fnOf "_law_next" "_law_next" (defArgs s__law_next) (defBody s__law_next) (defScope s__law_next) .none kV__law_next dc__law_next pm__law_next an__law_next cd__law_next ct__law_next), sl__law_next⟩)
    (cc__law_next : PySem.W.codeIn K cd__law_next "_law_next" = true) (k__law_next : PySem.W.keepIn K (.ref f__law_next) = true)
    {f__law_state : Addr} {od__law_state an__law_state : Option Addr} {sl__law_state : Array (Option Value)} {oc__law_state kV__law_state dc__law_state pm__law_state cd__law_state ct__law_state : Value}
    (a__law_state : PySem.W.nsIn K mainGlobals "_law_state" = some (some (.ref f__law_state)))
    (l__law_state : K.lookup f__law_state = some ⟨oc__law_state, od__law_state, .func (PySem.W.fnOf "_law_state" "_law_state" (defArgs s__law_state) (defBody s__law_state) (defScope s__law_state) .none kV__law_state dc__law_state pm__law_state an__law_state cd__law_state ct__law_state), sl__law_state⟩)
    (cc__law_state : PySem.W.codeIn K cd__law_state "_law_state" = true) (k__law_state : PySem.W.keepIn K (.ref f__law_state) = true)
    {f__law_of : Addr} {od__law_of an__law_of : Option Addr} {sl__law_of : Array (Option Value)} {oc__law_of kV__law_of dc__law_of pm__law_of cd__law_of ct__law_of : Value}
    (a__law_of : PySem.W.nsIn K mainGlobals "_law_of" = some (some (.ref f__law_of)))
    (l__law_of : K.lookup f__law_of = some ⟨oc__law_of, od__law_of, .func (PySem.W.fnOf "_law_of" "_law_of" (defArgs s__law_of) (defBody s__law_of) (defScope s__law_of) .none kV__law_of dc__law_of pm__law_of an__law_of cd__law_of ct__law_of), sl__law_of⟩)
    (cc__law_of : PySem.W.codeIn K cd__law_of "_law_of" = true) (k__law_of : PySem.W.keepIn K (.ref f__law_of) = true)
    {f__law_turned : Addr} {od__law_turned an__law_turned : Option Addr} {sl__law_turned : Array (Option Value)} {oc__law_turned kV__law_turned dc__law_turned pm__law_turned cd__law_turned ct__law_turned : Value}
    (a__law_turned : PySem.W.nsIn K mainGlobals "_law_turned" = some (some (.ref f__law_turned)))
    (l__law_turned : K.lookup f__law_turned = some ⟨oc__law_turned, od__law_turned, .func (PySem.W.fnOf "_law_turned" "_law_turned" (defArgs s__law_turned) (defBody s__law_turned) (defScope s__law_turned) .none kV__law_turned dc__law_turned pm__law_turned an__law_turned cd__law_turned ct__law_turned), sl__law_turned⟩)
    (cc__law_turned : PySem.W.codeIn K cd__law_turned "_law_turned" = true) (k__law_turned : PySem.W.keepIn K (.ref f__law_turned) = true)
    {f__law_out : Addr} {od__law_out an__law_out : Option Addr} {sl__law_out : Array (Option Value)} {oc__law_out kV__law_out dc__law_out pm__law_out cd__law_out ct__law_out : Value}
    (a__law_out : PySem.W.nsIn K mainGlobals "_law_out" = some (some (.ref f__law_out)))
    (l__law_out : K.lookup f__law_out = some ⟨oc__law_out, od__law_out, .func (PySem.W.fnOf "_law_out" "_law_out" (defArgs s__law_out) (defBody s__law_out) (defScope s__law_out) .none kV__law_out dc__law_out pm__law_out an__law_out cd__law_out ct__law_out), sl__law_out⟩)
    (cc__law_out : PySem.W.codeIn K cd__law_out "_law_out" = true) (k__law_out : PySem.W.keepIn K (.ref f__law_out) = true)
    {f__law_step : Addr} {od__law_step an__law_step : Option Addr} {sl__law_step : Array (Option Value)} {oc__law_step kV__law_step dc__law_step pm__law_step cd__law_step ct__law_step : Value}
    (a__law_step : PySem.W.nsIn K mainGlobals "_law_step" = some (some (.ref f__law_step)))
    (l__law_step : K.lookup f__law_step = some ⟨oc__law_step, od__law_step, .func (PySem.W.fnOf "_law_step" "_law_step" (defArgs s__law_step) (defBody s__law_step) (defScope s__law_step) .none kV__law_step dc__law_step pm__law_step an__law_step cd__law_step ct__law_step), sl__law_step⟩)
    (cc__law_step : PySem.W.codeIn K cd__law_step "_law_step" = true) (k__law_step : PySem.W.keepIn K (.ref f__law_step) = true)
    {f__law_whole : Addr} {od__law_whole an__law_whole : Option Addr} {sl__law_whole : Array (Option Value)} {oc__law_whole kV__law_whole dc__law_whole pm__law_whole cd__law_whole ct__law_whole : Value}
    (a__law_whole : PySem.W.nsIn K mainGlobals "_law_whole" = some (some (.ref f__law_whole)))
    (l__law_whole : K.lookup f__law_whole = some ⟨oc__law_whole, od__law_whole, .func (PySem.W.fnOf "_law_whole" "_law_whole" (defArgs s__law_whole) (defBody s__law_whole) (defScope s__law_whole) .none kV__law_whole dc__law_whole pm__law_whole an__law_whole cd__law_whole ct__law_whole), sl__law_whole⟩)
    (cc__law_whole : PySem.W.codeIn K cd__law_whole "_law_whole" = true) (k__law_whole : PySem.W.keepIn K (.ref f__law_whole) = true)
    {f_law : Addr} {od_law an_law : Option Addr} {sl_law : Array (Option Value)} {oc_law kV_law dc_law pm_law cd_law ct_law : Value}
    (a_law : PySem.W.nsIn K mainGlobals "law" = some (some (.ref f_law)))
    (l_law : K.lookup f_law = some ⟨oc_law, od_law, .func (PySem.W.fnOf "law" "law" (defArgs s_law) (defBody s_law) (defScope s_law) .none kV_law dc_law pm_law an_law cd_law ct_law), sl_law⟩)
    (cc_law : PySem.W.codeIn K cd_law "law" = true) (k_law : PySem.W.keepIn K (.ref f_law) = true)
    {t_GREATEST : Tok} (a_GREATEST : PySem.W.nsIn K mainGlobals "GREATEST" = some (some (.int (1000000000000000000000000000000000000000000000000000000000000) t_GREATEST)))
    {t_MOST_STEP : Tok} (a_MOST_STEP : PySem.W.nsIn K mainGlobals "MOST_STEP" = some (some (.int (100) t_MOST_STEP)))
    (z_bool : PySem.W.nsIn K mainGlobals "bool" = some none)
    (z_enumerate : PySem.W.nsIn K mainGlobals "enumerate" = some none)
    (z_int : PySem.W.nsIn K mainGlobals "int" = some none)
    (z_isinstance : PySem.W.nsIn K mainGlobals "isinstance" = some none)
    (z_len : PySem.W.nsIn K mainGlobals "len" = some none)
    (z_list : PySem.W.nsIn K mainGlobals "list" = some none)
    (z_range : PySem.W.nsIn K mainGlobals "range" = some none)
    {c_NoCount : Addr} (a_NoCount : PySem.W.nsIn K mainGlobals "NoCount" = some (some (.ref c_NoCount))) (k_NoCount : PySem.W.keepIn K (.ref c_NoCount) = true) (x_NoCount : PySem.W.excIn K c_NoCount [.type "ValueError", .type "Exception", .type "BaseException", .type "object"] "ValueError.__new__" = true) (bb_NoCount : PySem.W.subIn K (.ref c_NoCount) (.type "BaseException") = some true) (t_NoCount : PySem.W.typeIn K (.ref c_NoCount) = some (.type "type"))
    {c_NoMany : Addr} (a_NoMany : PySem.W.nsIn K mainGlobals "NoMany" = some (some (.ref c_NoMany))) (k_NoMany : PySem.W.keepIn K (.ref c_NoMany) = true) (x_NoMany : PySem.W.excIn K c_NoMany [.type "ValueError", .type "Exception", .type "BaseException", .type "object"] "ValueError.__new__" = true) (bb_NoMany : PySem.W.subIn K (.ref c_NoMany) (.type "BaseException") = some true) (t_NoMany : PySem.W.typeIn K (.ref c_NoMany) = some (.type "type"))
    {c_NoPlace : Addr} (a_NoPlace : PySem.W.nsIn K mainGlobals "NoPlace" = some (some (.ref c_NoPlace))) (k_NoPlace : PySem.W.keepIn K (.ref c_NoPlace) = true) (x_NoPlace : PySem.W.excIn K c_NoPlace [.type "ValueError", .type "Exception", .type "BaseException", .type "object"] "ValueError.__new__" = true) (bb_NoPlace : PySem.W.subIn K (.ref c_NoPlace) (.type "BaseException") = some true) (t_NoPlace : PySem.W.typeIn K (.ref c_NoPlace) = some (.type "type"))
    {c_NoStep : Addr} (a_NoStep : PySem.W.nsIn K mainGlobals "NoStep" = some (some (.ref c_NoStep))) (k_NoStep : PySem.W.keepIn K (.ref c_NoStep) = true) (x_NoStep : PySem.W.excIn K c_NoStep [.type "ValueError", .type "Exception", .type "BaseException", .type "object"] "ValueError.__new__" = true) (bb_NoStep : PySem.W.subIn K (.ref c_NoStep) (.type "BaseException") = some true) (t_NoStep : PySem.W.typeIn K (.ref c_NoStep) = some (.type "type"))
    : ∃ fd : FuncData, (∀ (s : Shared) (v : Value), BindsTo s fd ⟨[v], []⟩ [("_law_script", v)]) ∧ ∀ base : Heap, K.In base → base.Ns mainGlobals mg → FnOk l.prog w K mg base CX0 5 fa fd ["_law_script"] (sLaw K) := by
  have e := hfa.symm.trans (PySem.W.mg_of X G a_law)
  cases e
  have T : Txt K mg ⟨f_is_whole, f_check_many, f_check_step, f_check_place, f_check_count, f_count_of, f_goes_at, f_last_of, f__check_ring, f__place_at, f__law_cell_at, f__law_next, f__law_state, f__law_of, f__law_turned, f__law_out, f__law_step, f__law_whole, fa, c_NoCount, c_NoMany, c_NoPlace, c_NoStep⟩ := {
    b_bool := PySem.W.mg_none_of X G z_bool
    b_enumerate := PySem.W.mg_none_of X G z_enumerate
    b_int := PySem.W.mg_none_of X G z_int
    b_isinstance := PySem.W.mg_none_of X G z_isinstance
    b_len := PySem.W.mg_none_of X G z_len
    b_list := PySem.W.mg_none_of X G z_list
    b_range := PySem.W.mg_none_of X G z_range
    c_GREATEST := ⟨_, PySem.W.mg_of X G a_GREATEST⟩
    c_MOST_STEP := ⟨_, PySem.W.mg_of X G a_MOST_STEP⟩
    g_is_whole := PySem.W.mg_of X G a_is_whole
    k_is_whole := k_is_whole
    g_check_many := PySem.W.mg_of X G a_check_many
    k_check_many := k_check_many
    g_check_step := PySem.W.mg_of X G a_check_step
    k_check_step := k_check_step
    g_check_place := PySem.W.mg_of X G a_check_place
    k_check_place := k_check_place
    g_check_count := PySem.W.mg_of X G a_check_count
    k_check_count := k_check_count
    g_count_of := PySem.W.mg_of X G a_count_of
    k_count_of := k_count_of
    g_goes_at := PySem.W.mg_of X G a_goes_at
    k_goes_at := k_goes_at
    g_last_of := PySem.W.mg_of X G a_last_of
    k_last_of := k_last_of
    g__check_ring := PySem.W.mg_of X G a__check_ring
    k__check_ring := k__check_ring
    g__place_at := PySem.W.mg_of X G a__place_at
    k__place_at := k__place_at
    g__law_cell_at := PySem.W.mg_of X G a__law_cell_at
    k__law_cell_at := k__law_cell_at
    g__law_next := PySem.W.mg_of X G a__law_next
    k__law_next := k__law_next
    g__law_state := PySem.W.mg_of X G a__law_state
    k__law_state := k__law_state
    g__law_of := PySem.W.mg_of X G a__law_of
    k__law_of := k__law_of
    g__law_turned := PySem.W.mg_of X G a__law_turned
    k__law_turned := k__law_turned
    g__law_out := PySem.W.mg_of X G a__law_out
    k__law_out := k__law_out
    g__law_step := PySem.W.mg_of X G a__law_step
    k__law_step := k__law_step
    g__law_whole := PySem.W.mg_of X G a__law_whole
    k__law_whole := k__law_whole
    g_law := PySem.W.mg_of X G a_law
    k_law := k_law
    g_NoCount := PySem.W.mg_of X G a_NoCount
    k_NoCount := k_NoCount
    x_NoCount := x_NoCount
    bb_NoCount := bb_NoCount
    t_NoCount := t_NoCount
    g_NoMany := PySem.W.mg_of X G a_NoMany
    k_NoMany := k_NoMany
    x_NoMany := x_NoMany
    bb_NoMany := bb_NoMany
    t_NoMany := t_NoMany
    g_NoPlace := PySem.W.mg_of X G a_NoPlace
    k_NoPlace := k_NoPlace
    x_NoPlace := x_NoPlace
    bb_NoPlace := bb_NoPlace
    t_NoPlace := t_NoPlace
    g_NoStep := PySem.W.mg_of X G a_NoStep
    k_NoStep := k_NoStep
    x_NoStep := x_NoStep
    bb_NoStep := bb_NoStep
    t_NoStep := t_NoStep }
  have F : Funs K ⟨f_is_whole, f_check_many, f_check_step, f_check_place, f_check_count, f_count_of, f_goes_at, f_last_of, f__check_ring, f__place_at, f__law_cell_at, f__law_next, f__law_state, f__law_of, f__law_turned, f__law_out, f__law_step, f__law_whole, fa, c_NoCount, c_NoMany, c_NoPlace, c_NoStep⟩ ⟨PySem.W.fnOf "is_whole" "is_whole" (defArgs s_is_whole) (defBody s_is_whole) (defScope s_is_whole) .none kV_is_whole dc_is_whole pm_is_whole an_is_whole cd_is_whole ct_is_whole,
    PySem.W.fnOf "check_many" "check_many" (defArgs s_check_many) (defBody s_check_many) (defScope s_check_many) .none kV_check_many dc_check_many pm_check_many an_check_many cd_check_many ct_check_many,
    PySem.W.fnOf "check_step" "check_step" (defArgs s_check_step) (defBody s_check_step) (defScope s_check_step) .none kV_check_step dc_check_step pm_check_step an_check_step cd_check_step ct_check_step,
    PySem.W.fnOf "check_place" "check_place" (defArgs s_check_place) (defBody s_check_place) (defScope s_check_place) .none kV_check_place dc_check_place pm_check_place an_check_place cd_check_place ct_check_place,
    PySem.W.fnOf "check_count" "check_count" (defArgs s_check_count) (defBody s_check_count) (defScope s_check_count) .none kV_check_count dc_check_count pm_check_count an_check_count cd_check_count ct_check_count,
    PySem.W.fnOf "count_of" "count_of" (defArgs s_count_of) (defBody s_count_of) (defScope s_count_of) .none kV_count_of dc_count_of pm_count_of an_count_of cd_count_of ct_count_of,
    PySem.W.fnOf "goes_at" "goes_at" (defArgs s_goes_at) (defBody s_goes_at) (defScope s_goes_at) .none kV_goes_at dc_goes_at pm_goes_at an_goes_at cd_goes_at ct_goes_at,
    PySem.W.fnOf "last_of" "last_of" (defArgs s_last_of) (defBody s_last_of) (defScope s_last_of) (.ref dT_last_of) kV_last_of dc_last_of pm_last_of an_last_of cd_last_of ct_last_of,
    PySem.W.fnOf "_check_ring" "_check_ring" (defArgs s__check_ring) (defBody s__check_ring) (defScope s__check_ring) .none kV__check_ring dc__check_ring pm__check_ring an__check_ring cd__check_ring ct__check_ring,
    PySem.W.fnOf "_place_at" "_place_at" (defArgs s__place_at) (defBody s__place_at) (defScope s__place_at) .none kV__place_at dc__place_at pm__place_at an__place_at cd__place_at ct__place_at,
    PySem.W.fnOf "_law_cell_at" "_law_cell_at" (defArgs s__law_cell_at) (defBody s__law_cell_at) (defScope s__law_cell_at) .none kV__law_cell_at dc__law_cell_at pm__law_cell_at an__law_cell_at cd__law_cell_at ct__law_cell_at,
    PySem.W.fnOf "_law_next" "_law_next" (defArgs s__law_next) (defBody s__law_next) (defScope s__law_next) .none kV__law_next dc__law_next pm__law_next an__law_next cd__law_next ct__law_next,
    PySem.W.fnOf "_law_state" "_law_state" (defArgs s__law_state) (defBody s__law_state) (defScope s__law_state) .none kV__law_state dc__law_state pm__law_state an__law_state cd__law_state ct__law_state,
    PySem.W.fnOf "_law_of" "_law_of" (defArgs s__law_of) (defBody s__law_of) (defScope s__law_of) .none kV__law_of dc__law_of pm__law_of an__law_of cd__law_of ct__law_of,
    PySem.W.fnOf "_law_turned" "_law_turned" (defArgs s__law_turned) (defBody s__law_turned) (defScope s__law_turned) .none kV__law_turned dc__law_turned pm__law_turned an__law_turned cd__law_turned ct__law_turned,
    PySem.W.fnOf "_law_out" "_law_out" (defArgs s__law_out) (defBody s__law_out) (defScope s__law_out) .none kV__law_out dc__law_out pm__law_out an__law_out cd__law_out ct__law_out,
    PySem.W.fnOf "_law_step" "_law_step" (defArgs s__law_step) (defBody s__law_step) (defScope s__law_step) .none kV__law_step dc__law_step pm__law_step an__law_step cd__law_step ct__law_step,
    PySem.W.fnOf "_law_whole" "_law_whole" (defArgs s__law_whole) (defBody s__law_whole) (defScope s__law_whole) .none kV__law_whole dc__law_whole pm__law_whole an__law_whole cd__law_whole ct__law_whole,
    PySem.W.fnOf "law" "law" (defArgs s_law) (defBody s_law) (defScope s_law) .none kV_law dc_law pm_law an_law cd_law ct_law⟩ := {
    f_is_whole := fun_mk (st := s_is_whole) l_is_whole cc_is_whole k_is_whole
    f_check_many := fun_mk (st := s_check_many) l_check_many cc_check_many k_check_many
    f_check_step := fun_mk (st := s_check_step) l_check_step cc_check_step k_check_step
    f_check_place := fun_mk (st := s_check_place) l_check_place cc_check_place k_check_place
    f_check_count := fun_mk (st := s_check_count) l_check_count cc_check_count k_check_count
    f_count_of := fun_mk (st := s_count_of) l_count_of cc_count_of k_count_of
    f_goes_at := fun_mk (st := s_goes_at) l_goes_at cc_goes_at k_goes_at
    f_last_of := ⟨⟨_, _, _, _, _, _, _, _, _, _, rfl, l_last_of, cc_last_of, .inr ⟨by simp, _, _, _, _, rfl, dt_last_of, dd_last_of, dv_last_of⟩, .inl rfl⟩, k_last_of⟩
    f__check_ring := fun_mk (st := s__check_ring) l__check_ring cc__check_ring k__check_ring
    f__place_at := fun_mk (st := s__place_at) l__place_at cc__place_at k__place_at
    f__law_cell_at := fun_mk (st := s__law_cell_at) l__law_cell_at cc__law_cell_at k__law_cell_at
    f__law_next := fun_mk (st := s__law_next) l__law_next cc__law_next k__law_next
    f__law_state := fun_mk (st := s__law_state) l__law_state cc__law_state k__law_state
    f__law_of := fun_mk (st := s__law_of) l__law_of cc__law_of k__law_of
    f__law_turned := fun_mk (st := s__law_turned) l__law_turned cc__law_turned k__law_turned
    f__law_out := fun_mk (st := s__law_out) l__law_out cc__law_out k__law_out
    f__law_step := fun_mk (st := s__law_step) l__law_step cc__law_step k__law_step
    f__law_whole := fun_mk (st := s__law_whole) l__law_whole cc__law_whole k__law_whole
    f_law := fun_mk (st := s_law) l_law cc_law k_law }
  exact ⟨PySem.W.fnOf "law" "law" (defArgs s_law) (defBody s_law) (defScope s_law) .none kV_law dc_law pm_law an_law cd_law ct_law, fun s v => .of_eq rfl, fun base _ _ => ok_law F T⟩
end R02
open PySem PySem.W PyProof.Rows
set_option maxHeartbeats 0 in
theorem PySem.Challenge.cw_countout_k02_counts_by_numbers_holds : PySem.Challenge.rw_countout_k02_counts_by_numbers.Holds := by
  w_on; o_law; k_head; (case hw => w_witness2)
  k_fill
  refine L2.walk_of (l := PySem.Challenge.rw_countout_k02_counts_by_numbers) (n := 63) (k := 5) (x := "_law_script") (CX := fun _ => L2.CX0) (sp := fun w => Cd.K02.sLaw _) rfl (by decide) rfl ⟨rfl, by decide, by decide⟩ (fun w h Y => PySem.W.kIn_of Y) ?F (fun _ _ a ns hl _ hS => ⟨a, ns, rfl, hS, fun _ => rfl⟩) (fun _ _ _ _ _ h => h)
  case F =>
    intro w mg fa h KX G hmg
    refine' R02.all_mk KX G hmg ?a_is_whole ?l_is_whole ?cc_is_whole ?k_is_whole ?a_check_many ?l_check_many ?cc_check_many ?k_check_many ?a_check_step ?l_check_step ?cc_check_step ?k_check_step ?a_check_place ?l_check_place ?cc_check_place ?k_check_place ?a_check_count ?l_check_count ?cc_check_count ?k_check_count ?a_count_of ?l_count_of ?cc_count_of ?k_count_of ?a_goes_at ?l_goes_at ?cc_goes_at ?k_goes_at ?a_last_of ?l_last_of ?dt_last_of ?dd_last_of ?dv_last_of ?cc_last_of ?k_last_of ?a__check_ring ?l__check_ring ?cc__check_ring ?k__check_ring ?a__place_at ?l__place_at ?cc__place_at ?k__place_at ?a__law_cell_at ?l__law_cell_at ?cc__law_cell_at ?k__law_cell_at ?a__law_next ?l__law_next ?cc__law_next ?k__law_next ?a__law_state ?l__law_state ?cc__law_state ?k__law_state ?a__law_of ?l__law_of ?cc__law_of ?k__law_of ?a__law_turned ?l__law_turned ?cc__law_turned ?k__law_turned ?a__law_out ?l__law_out ?cc__law_out ?k__law_out ?a__law_step ?l__law_step ?cc__law_step ?k__law_step ?a__law_whole ?l__law_whole ?cc__law_whole ?k__law_whole ?a_law ?l_law ?cc_law ?k_law ?a_GREATEST ?a_MOST_STEP ?z_bool ?z_enumerate ?z_int ?z_isinstance ?z_len ?z_list ?z_range ?a_NoCount ?k_NoCount ?x_NoCount ?bb_NoCount ?t_NoCount ?a_NoMany ?k_NoMany ?x_NoMany ?bb_NoMany ?t_NoMany ?a_NoPlace ?k_NoPlace ?x_NoPlace ?bb_NoPlace ?t_NoPlace ?a_NoStep ?k_NoStep ?x_NoStep ?bb_NoStep ?t_NoStep
    (case a_is_whole => k_is)
    (case l_is_whole => k_is)
    (case cc_is_whole => k_is)
    (case k_is_whole => k_is)
    (case a_check_many => k_is)
    (case l_check_many => k_is)
    (case cc_check_many => k_is)
    (case k_check_many => k_is)
    (case a_check_step => k_is)
    (case l_check_step => k_is)
    (case cc_check_step => k_is)
    (case k_check_step => k_is)
    (case a_check_place => k_is)
    (case l_check_place => k_is)
    (case cc_check_place => k_is)
    (case k_check_place => k_is)
    (case a_check_count => k_is)
    (case l_check_count => k_is)
    (case cc_check_count => k_is)
    (case k_check_count => k_is)
    (case a_count_of => k_is)
    (case l_count_of => k_is)
    (case cc_count_of => k_is)
    (case k_count_of => k_is)
    (case a_goes_at => k_is)
    (case l_goes_at => k_is)
    (case cc_goes_at => k_is)
    (case k_goes_at => k_is)
    (case a_last_of => k_is)
    (case l_last_of => k_is)
    (case dt_last_of => k_is)
    (case dd_last_of => rfl)
    (case dv_last_of => exact .cons ⟨_, rfl⟩ .nil)
    (case cc_last_of => k_is)
    (case k_last_of => k_is)
    (case a__check_ring => k_is)
    (case l__check_ring => k_is)
    (case cc__check_ring => k_is)
    (case k__check_ring => k_is)
    (case a__place_at => k_is)
    (case l__place_at => k_is)
    (case cc__place_at => k_is)
    (case k__place_at => k_is)
    (case a__law_cell_at => k_is)
    (case l__law_cell_at => k_is)
    (case cc__law_cell_at => k_is)
    (case k__law_cell_at => k_is)
    (case a__law_next => k_is)
    (case l__law_next => k_is)
    (case cc__law_next => k_is)
    (case k__law_next => k_is)
    (case a__law_state => k_is)
    (case l__law_state => k_is)
    (case cc__law_state => k_is)
    (case k__law_state => k_is)
    (case a__law_of => k_is)
    (case l__law_of => k_is)
    (case cc__law_of => k_is)
    (case k__law_of => k_is)
    (case a__law_turned => k_is)
    (case l__law_turned => k_is)
    (case cc__law_turned => k_is)
    (case k__law_turned => k_is)
    (case a__law_out => k_is)
    (case l__law_out => k_is)
    (case cc__law_out => k_is)
    (case k__law_out => k_is)
    (case a__law_step => k_is)
    (case l__law_step => k_is)
    (case cc__law_step => k_is)
    (case k__law_step => k_is)
    (case a__law_whole => k_is)
    (case l__law_whole => k_is)
    (case cc__law_whole => k_is)
    (case k__law_whole => k_is)
    (case a_law => k_is)
    (case l_law => k_is)
    (case cc_law => k_is)
    (case k_law => k_is)
    (case a_GREATEST => k_is)
    (case a_MOST_STEP => k_is)
    (case z_bool => k_is)
    (case z_enumerate => k_is)
    (case z_int => k_is)
    (case z_isinstance => k_is)
    (case z_len => k_is)
    (case z_list => k_is)
    (case z_range => k_is)
    (case a_NoCount => k_is)
    (case k_NoCount => k_is)
    (case x_NoCount => k_exc)
    (case bb_NoCount => k_is)
    (case t_NoCount => k_is)
    (case a_NoMany => k_is)
    (case k_NoMany => k_is)
    (case x_NoMany => k_exc)
    (case bb_NoMany => k_is)
    (case t_NoMany => k_is)
    (case a_NoPlace => k_is)
    (case k_NoPlace => k_is)
    (case x_NoPlace => k_exc)
    (case bb_NoPlace => k_is)
    (case t_NoPlace => k_is)
    (case a_NoStep => k_is)
    (case k_NoStep => k_is)
    (case x_NoStep => k_exc)
    (case bb_NoStep => k_is)
    (case t_NoStep => k_is)
