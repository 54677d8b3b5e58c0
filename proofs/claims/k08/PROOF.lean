import PyProof.Rows.All
import Wide.All
import OpenK.AllK
import Wide.FinOn
import HandS.ForMost
import HandS.Conv
import HandS.IsInst
import HandS.Defaults
import HandS.Wide
import HandS.More
import HandS.ForExc
import HandS.Evl
import HandS.Strs
import HandS.ExcIs
import KE.KRevSl
import HandS.Style
import HandS.CallSlots
import PySem.Challenge.RW_countout_k08_rings_counted
namespace Jos
/-! ## rings -/
variable {α β : Type}
/-- turned by a -/
def rot (l : List α) (a : Nat) : List α := l.drop a ++ l.take a
theorem rot_len (l : List α) (a : Nat) : (rot l a).length = l.length := by
  unfold rot; rw [List.length_append, List.length_drop, List.length_take]; omega
theorem rot_zero (l : List α) : rot l 0 = l := by simp [rot]
theorem rot_all (l : List α) : rot l l.length = l := by simp [rot]
theorem rot_get {l : List α} {a i : Nat} (ha : a ≤ l.length) (hi : i < l.length) : (rot l a)[i]? = l[(a + i) % l.length]? := by
  unfold rot
  by_cases h : a + i < l.length
  · rw [List.getElem?_append_left (by rw [List.length_drop]; omega), List.getElem?_drop, Nat.mod_eq_of_lt h]
  · rw [List.getElem?_append_right (by rw [List.length_drop]; omega), List.length_drop, List.getElem?_take_of_lt (by omega)]
    have e : (a + i) % l.length = a + i - l.length := by
      rw [Nat.mod_eq_sub_mod (by omega), Nat.mod_eq_of_lt (by omega)]
    rw [e, show i - (l.length - a) = a + i - l.length by omega]
theorem ext_len {l m : List α} (h : l.length = m.length) (g : ∀ i, i < l.length → l[i]? = m[i]?) : l = m := by
  apply List.ext_getElem? 
  intro i
  by_cases hi : i < l.length
  · exact g i hi
  · rw [List.getElem?_eq_none_iff.mpr (by omega), List.getElem?_eq_none_iff.mpr (by omega)]
theorem rot_rot {l : List α} {a b : Nat} (ha : a ≤ l.length) (hb : b ≤ l.length) (hl : 0 < l.length) : rot (rot l a) b = rot l ((a + b) % l.length) := by
  apply ext_len
  · rw [rot_len, rot_len, rot_len]
  · intro i hi
    rw [rot_len, rot_len] at hi
    have hm : (a + b) % l.length < l.length := Nat.mod_lt _ hl
    rw [rot_get (by rw [rot_len]; exact hb) (by rw [rot_len]; exact hi), rot_len, rot_get ha (Nat.mod_lt _ hl), rot_get (Nat.le_of_lt hm) hi]
    congr 1
    simp only [Nat.add_mod_mod, Nat.mod_add_mod, Nat.add_assoc]
/-- one goes behind all -/
def rot1 : List α → List α
  | [] => []
  | x :: r => r ++ [x]
theorem rot1_eq {l : List α} (h : 0 < l.length) : rot1 l = rot l 1 := by
  cases l with
  | nil => simp at h
  | cons x r => simp [rot1, rot]
theorem rot1_len (l : List α) : (rot1 l).length = l.length := by
  cases l with
  | nil => rfl
  | cons x r => simp [rot1]
def rotN : Nat → List α → List α
  | 0, l => l
  | k + 1, l => rotN k (rot1 l)
theorem rotN_len : ∀ (k : Nat) (l : List α), (rotN k l).length = l.length
  | 0, _ => rfl
  | k + 1, l => by rw [rotN, rotN_len k, rot1_len]
theorem rotN_eq : ∀ (k : Nat) (l : List α), 0 < l.length → rotN k l = rot l (k % l.length)
  | 0, l, h => by rw [rotN, Nat.zero_mod, rot_zero]
  | k + 1, l, h => by
    have h1 : 0 < (rot1 l).length := by rw [rot1_len]; exact h
    rw [rotN, rotN_eq k _ h1, rot1_len, rot1_eq h, rot_rot (by omega) (Nat.le_of_lt (Nat.mod_lt _ h)) h]
    congr 1
    rw [Nat.add_mod_mod, Nat.add_comm]
theorem rotN_congr {j k : Nat} {l : List α} (h : j % l.length = k % l.length) : rotN j l = rotN k l := by
  by_cases hl : 0 < l.length
  · rw [rotN_eq j l hl, rotN_eq k l hl, h]
  · have : l = [] := by
      cases l with
      | nil => rfl
      | cons x r => simp at hl
    subst this
    have : ∀ k : Nat, rotN k ([] : List α) = [] := by
      intro k; induction k with
      | zero => rfl
      | succ k ih => exact ih
    rw [this, this]
theorem rotN_succ : ∀ (k : Nat) (l : List α), rotN (k + 1) l = rot1 (rotN k l)
  | 0, _ => rfl
  | k + 1, l => by rw [rotN, rotN_succ k (rot1 l)]; rfl
/-- who goes, one behind the other: s more are passed by each time (the step less 1) -/
def out (s : Nat) : Nat → List α → List α
  | 0, _ => []
  | n + 1, l => match rotN s l with
    | [] => []
    | x :: t => x :: out s n t
theorem out_len (s : Nat) : ∀ (n : Nat) (l : List α), l.length = n → (out s n l).length = n
  | 0, l, h => rfl
  | n + 1, l, h => by
    have hl := rotN_len s l
    unfold out
    split
    · rename_i e; rw [e] at hl; simp at hl; omega
    · rename_i x t e
      rw [e] at hl
      rw [List.length_cons, out_len s n t (by simp at hl; omega)]
theorem rot1_perm (l : List α) : (rot1 l).Perm l := by
  cases l with
  | nil => exact List.Perm.refl _
  | cons x r => exact List.perm_append_comm (l₁ := r) (l₂ := [x])
theorem rotN_perm : ∀ (k : Nat) (l : List α), (rotN k l).Perm l
  | 0, _ => List.Perm.refl _
  | k + 1, l => (rotN_perm k (rot1 l)).trans (rot1_perm l)
theorem out_perm (s : Nat) : ∀ (n : Nat) (l : List α), l.length = n → (out s n l).Perm l
  | 0, l, h => by
    have : l = [] := List.eq_nil_of_length_eq_zero h
    subst this; exact List.Perm.refl _
  | n + 1, l, h => by
    have hl := rotN_len s l
    have hp := rotN_perm s l
    unfold out
    split
    · rename_i e; rw [e] at hl; simp at hl; omega
    · rename_i x t e
      rw [e] at hl hp
      exact (List.Perm.cons x (out_perm s n t (by simp at hl; omega))).trans hp
theorem out_congr {s s' : Nat} : ∀ (n : Nat) (l : List α), l.length = n → (∀ k, 1 ≤ k → k ≤ n → s % k = s' % k) → out s n l = out s' n l
  | 0, _, _, _ => rfl
  | n + 1, l, h, hk => by
    have e : rotN s l = rotN s' l := rotN_congr (by rw [h]; exact hk (n + 1) (by omega) (Nat.le_refl _))
    have hl := rotN_len s' l
    unfold out
    rw [e]
    split
    · rfl
    · rename_i x t e'
      rw [e'] at hl
      rw [out_congr n t (by simp at hl; omega) fun k h1 h2 => hk k h1 (by omega)]
theorem rot1_map (f : α → β) (l : List α) : rot1 (l.map f) = (rot1 l).map f := by
  cases l with
  | nil => rfl
  | cons x r => simp [rot1]
theorem rotN_map (f : α → β) : ∀ (k : Nat) (l : List α), rotN k (l.map f) = (rotN k l).map f
  | 0, _ => rfl
  | k + 1, l => by rw [rotN, rot1_map, rotN_map f k]; rfl
theorem out_map (f : α → β) (s : Nat) : ∀ (n : Nat) (l : List α), out s n (l.map f) = (out s n l).map f
  | 0, _ => rfl
  | n + 1, l => by
    unfold out
    rw [rotN_map]
    cases rotN s l with
    | nil => rfl
    | cons x t => simp [out_map f s n t]
theorem rot_map (f : α → β) (l : List α) (a : Nat) : rot (l.map f) a = (rot l a).map f := by
  simp [rot, List.map_drop, List.map_take]
/-- the ring as a list and a place in it: one turn -/
theorem out_at {s a n : Nat} {l : List α} (hn : l.length = n + 1) (ha : a ≤ l.length) {x : α} (hx : l[(a + s) % l.length]? = some x) :
    out s (n + 1) (rot l a) = x :: out s n (rot (l.eraseIdx ((a + s) % l.length)) ((a + s) % l.length)) := by
  have hl : 0 < l.length := by omega
  have hj : (a + s) % l.length < l.length := Nat.mod_lt _ hl
  have e : rotN s (rot l a) = rot l ((a + s) % l.length) := by
    rw [rotN_eq s _ (by rw [rot_len]; exact hl), rot_len, rot_rot ha (Nat.le_of_lt (Nat.mod_lt _ hl)) hl, Nat.add_mod_mod]
  have e2 : rot l ((a + s) % l.length) = x :: rot (l.eraseIdx ((a + s) % l.length)) ((a + s) % l.length) := by
    generalize (a + s) % l.length = j at hx hj
    unfold rot
    obtain ⟨h1, h2⟩ := List.getElem?_eq_some_iff.mp hx
    rw [List.drop_eq_getElem_cons h1, h2, List.eraseIdx_eq_take_drop_succ, List.cons_append]
    have hk : (l.take j).length = j := by rw [List.length_take]; omega
    congr 1
    rw [List.drop_append, List.take_append, hk]
    simp [List.take_of_length_le (show (l.take j).length ≤ j by omega)]
  rw [out, e, e2]
/-! ## numbers told on and on -/
/-- who are left, the next one first, when t numbers have been told -/
def tell (d : Nat) (l : List α) : Nat → List α
  | 0 => l
  | t + 1 => match tell d l t with
    | [] => []
    | x :: r => if (t + 1) % d = 0 then r else r ++ [x]
theorem div_succ {t d : Nat} (_ : 0 < d) (h : (t + 1) % d = 0) : (t + 1) / d = t / d + 1 := by
  rw [Nat.succ_div, if_pos (Nat.dvd_of_mod_eq_zero h)]
theorem div_succ' {t d : Nat} (_ : 0 < d) (h : (t + 1) % d ≠ 0) : (t + 1) / d = t / d := by
  rw [Nat.succ_div, if_neg (fun z => h (Nat.mod_eq_zero_of_dvd z))]; omega
theorem tell_len {d : Nat} {l : List α} (hd : 0 < d) : ∀ t, t ≤ l.length * d → (tell d l t).length = l.length - t / d
  | 0, _ => by simp [tell]
  | t + 1, h => by
    have ih := tell_len (l := l) hd t (by omega)
    have hq : t / d < l.length := Nat.div_lt_of_lt_mul (by rw [Nat.mul_comm]; omega)
    unfold tell
    split
    · rename_i e; rw [e] at ih; simp at ih; omega
    · rename_i x r e
      rw [e, List.length_cons] at ih
      by_cases hz : (t + 1) % d = 0
      · rw [if_pos hz, div_succ hd hz]; omega
      · rw [if_neg hz, div_succ' hd hz, List.length_append]; simp; omega
/-- who is told a number -/
def told (d : Nat) (l : List α) (n : Nat) : Option α := (tell d l (n - 1))[0]?
theorem tell_shift {d : Nat} {l : List α} (hd : 0 < d) : ∀ (p t : Nat), t ≤ l.length * d → p < (tell d l t).length → (tell d l t)[p]? = (tell d l (t + p))[0]?
  | 0, t, _, _ => rfl
  | p + 1, t, ht, hp => by
    have hlen := tell_len (l := l) hd t ht
    have hq : t / d < l.length := by omega
    have ht' : t + 1 ≤ l.length * d := by
      have h1 := Nat.div_add_mod t d
      have h2 := Nat.mod_lt t hd
      have h3 : (t / d + 1) * d ≤ l.length * d := Nat.mul_le_mul_right d hq
      have h4 : (t / d + 1) * d = d * (t / d) + d := by rw [Nat.add_mul, Nat.one_mul, Nat.mul_comm]
      omega
    have key : (tell d l t)[p + 1]? = (tell d l (t + 1))[p]? ∧ p < (tell d l (t + 1)).length := by
      show _ = (match tell d l t with | [] => [] | x :: r => if (t + 1) % d = 0 then r else r ++ [x])[p]? ∧ p < (match tell d l t with | [] => [] | x :: r => if (t + 1) % d = 0 then r else r ++ [x]).length
      cases e : tell d l t with
      | nil => rw [e] at hp; simp at hp
      | cons x r =>
        rw [e, List.length_cons] at hp
        show (x :: r)[p + 1]? = (if (t + 1) % d = 0 then r else r ++ [x])[p]? ∧ p < (if (t + 1) % d = 0 then r else r ++ [x]).length
        by_cases hz : (t + 1) % d = 0
        · rw [if_pos hz]; exact ⟨by simp, by omega⟩
        · rw [if_neg hz]; refine ⟨?_, by simp; omega⟩
          rw [List.getElem?_append_left (by omega)]; simp
    rw [key.1, tell_shift hd p (t + 1) ht' key.2, show t + 1 + p = t + (p + 1) by omega]
theorem told_first {d : Nat} {l : List α} (hd : 0 < d) {n : Nat} (h1 : 1 ≤ n) (h2 : n ≤ l.length) : told d l n = l[n - 1]? := by
  have h := tell_shift (l := l) hd (n - 1) 0 (Nat.zero_le _) (by show n - 1 < l.length; omega)
  rw [Nat.zero_add] at h
  exact h.symm
theorem told_leap {d : Nat} {l : List α} (hd : 0 < d) {n : Nat} (h1 : 1 ≤ n) (h2 : n ≤ l.length * d) (hz : n % d ≠ 0) : told d l (l.length + n - n / d) = told d l n := by
  obtain ⟨t, rfl⟩ : ∃ t, n = t + 1 := ⟨n - 1, by omega⟩
  have hlen := tell_len (l := l) hd t (by omega)
  have hdv := div_succ' hd hz
  have hq : t / d < l.length := Nat.div_lt_of_lt_mul (by rw [Nat.mul_comm]; omega)
  have hlen1 := tell_len (l := l) hd (t + 1) h2
  rw [hdv] at hlen1
  show (tell d l (l.length + (t + 1) - (t + 1) / d - 1))[0]? = (tell d l (t + 1 - 1))[0]?
  rw [hdv, show l.length + (t + 1) - t / d - 1 = (t + 1) + (l.length - t / d - 1) by omega,
    ← tell_shift hd (l.length - t / d - 1) (t + 1) h2 (by omega)]
  show (match tell d l t with | [] => [] | x :: r => if (t + 1) % d = 0 then r else r ++ [x])[l.length - t / d - 1]? = (tell d l t)[0]?
  cases e : tell d l t with
  | nil => rw [e] at hlen; simp at hlen; omega
  | cons x r =>
    rw [e, List.length_cons] at hlen
    show (if (t + 1) % d = 0 then r else r ++ [x])[l.length - t / d - 1]? = some x
    rw [if_neg hz, List.getElem?_append_right (by omega)]
    rw [show l.length - t / d - 1 - r.length = 0 by omega]; rfl
theorem tell_turn {d : Nat} {l : List α} (hd : 0 < d) (c : Nat) : ∀ k, k < d → tell d l (c * d + k) = rotN k (tell d l (c * d))
  | 0, _ => rfl
  | k + 1, h => by
    have hz : (c * d + k + 1) % d ≠ 0 := by
      rw [Nat.add_assoc, Nat.add_comm, Nat.add_mul_mod_self_right, Nat.mod_eq_of_lt h]; omega
    rw [rotN_succ, ← tell_turn hd c k (by omega)]
    show (match tell d l (c * d + k) with | [] => [] | x :: r => if (c * d + k + 1) % d = 0 then r else r ++ [x]) = _
    cases tell d l (c * d + k) with
    | nil => rfl
    | cons x r => show (if (c * d + k + 1) % d = 0 then r else r ++ [x]) = r ++ [x]; rw [if_neg hz]
theorem out_tell {d : Nat} {l : List α} (hd : 0 < d) : ∀ (n c i : Nat), c + n = l.length → i < n → (out (d - 1) n (tell d l (c * d)))[i]? = told d l ((c + i + 1) * d)
  | 0, _, _, _, h => by omega
  | n + 1, c, i, hc, hi => by
    have hlen : (tell d l (c * d)).length = n + 1 := by
      rw [tell_len hd _ (Nat.mul_le_mul_right d (by omega)), Nat.mul_div_cancel _ hd]; omega
    have ht := tell_turn (l := l) hd c (d - 1) (by omega)
    have hl2 := rotN_len (d - 1) (tell d l (c * d))
    have hnext : tell d l ((c + 1) * d) = (rotN (d - 1) (tell d l (c * d))).tail := by
      rw [show (c + 1) * d = (c * d + (d - 1)) + 1 by rw [Nat.add_mul, Nat.one_mul]; omega]
      show (match tell d l (c * d + (d - 1)) with | [] => [] | x :: r => if (c * d + (d - 1) + 1) % d = 0 then r else r ++ [x]) = _
      rw [ht]
      have hz : (c * d + (d - 1) + 1) % d = 0 := by
        rw [Nat.add_assoc, show d - 1 + 1 = d by omega, Nat.add_mod_right, Nat.mul_mod_left]
      cases rotN (d - 1) (tell d l (c * d)) with
      | nil => rfl
      | cons x r => show (if (c * d + (d - 1) + 1) % d = 0 then r else r ++ [x]) = r; rw [if_pos hz]
    cases e : rotN (d - 1) (tell d l (c * d)) with
    | nil => rw [e, hlen] at hl2; simp at hl2
    | cons x r =>
      rw [e] at hnext ht
      have hn : tell d l ((c + 1) * d) = r := hnext
      rw [out, e]
      show (x :: out (d - 1) n r)[i]? = _
      cases i with
      | zero =>
        show some x = (tell d l ((c + 0 + 1) * d - 1))[0]?
        rw [show (c + 0 + 1) * d - 1 = c * d + (d - 1) by rw [Nat.add_zero, Nat.add_mul, Nat.one_mul]; omega, ht]; rfl
      | succ i =>
        have ih := out_tell (l := l) hd n (c + 1) i (by omega) (by omega)
        rw [hn] at ih
        rw [List.getElem?_cons_succ, ih, show c + 1 + i + 1 = c + (i + 1) + 1 by omega]
/-- at a count the one goes who is told the count's number -/
theorem out_told {d : Nat} {l : List α} (hd : 0 < d) {i : Nat} (hi : i < l.length) : (out (d - 1) l.length l)[i]? = told d l ((i + 1) * d) := by
  have h := out_tell (l := l) hd l.length 0 i (by omega) hi
  rw [Nat.zero_mul] at h
  rw [show (i + 1) = 0 + i + 1 by omega]
  exact h
/-! ## the two loops over numbers -/
theorem leap_up {m d n : Nat} (hd : 0 < d) (h2 : n ≤ m * d) (hz : n % d ≠ 0) : n < m + n - n / d ∧ m + n - n / d ≤ m * d ∧ n / d < m := by
  have h1 := Nat.div_add_mod n d
  have h3 := Nat.mod_lt n hd
  have hq : n / d < m := by
    apply Nat.div_lt_of_lt_mul
    rcases Nat.lt_or_ge n (m * d) with h | h
    · rw [Nat.mul_comm]; exact h
    · have e : n = m * d := by omega
      rw [e, Nat.mul_mod_left] at hz; exact absurd rfl hz
  refine ⟨by omega, ?_, hq⟩
  obtain ⟨k, hk⟩ : ∃ k, m = n / d + 1 + k := ⟨m - n / d - 1, by omega⟩
  obtain ⟨e, he⟩ : ∃ e, d = e + 1 := ⟨d - 1, by omega⟩
  have h4 : m * d = d * (n / d) + d + k * d := by
    rw [hk, Nat.add_mul, Nat.add_mul, Nat.one_mul, Nat.mul_comm (n / d) d]
  have h5 : k * d = k * e + k := by rw [he, Nat.mul_add, Nat.mul_one]
  omega
theorem leap_down {m d n : Nat} (hd : 0 < d) (h1 : m < n) (h2 : n ≤ m * d) :
    2 ≤ d ∧ 1 ≤ (n - m) + (n - m - 1) / (d - 1) ∧ (n - m) + (n - m - 1) / (d - 1) < n ∧ ((n - m) + (n - m - 1) / (d - 1)) % d ≠ 0 ∧ m + ((n - m) + (n - m - 1) / (d - 1)) - ((n - m) + (n - m - 1) / (d - 1)) / d = n := by
  have hd2 : 2 ≤ d := by
    rcases Nat.lt_or_ge d 2 with h | h
    · have : d = 1 := by omega
      subst this; omega
    · exact h
  obtain ⟨e, he⟩ : ∃ e, d = e + 1 := ⟨d - 1, by omega⟩
  subst he
  have h3 := Nat.div_add_mod (n - m - 1) e
  have h4 := Nat.mod_lt (n - m - 1) (show 0 < e by omega)
  rw [Nat.add_sub_cancel]
  generalize hq : (n - m - 1) / e = q at *
  generalize hr : (n - m - 1) % e = r at *
  have hqm : q < m := by
    rw [← hq]
    apply Nat.div_lt_of_lt_mul
    rw [Nat.mul_add, Nat.mul_one] at h2
    rw [Nat.mul_comm]; omega
  have en : n - m + q = (r + 1) + q * (e + 1) := by
    rw [Nat.mul_add, Nat.mul_one, Nat.mul_comm q e]; omega
  have hmod : (n - m + q) % (e + 1) = r + 1 := by
    rw [en, Nat.add_mul_mod_self_right, Nat.mod_eq_of_lt (by omega)]
  have hdiv : (n - m + q) / (e + 1) = q := by
    rw [en, Nat.add_mul_div_right _ _ (by omega), Nat.div_eq_of_lt (by omega)]; omega
  rw [hmod, hdiv]
  omega
theorem told_back {d : Nat} {l : List α} (hd : 0 < d) {n : Nat} (h1 : l.length < n) (h2 : n ≤ l.length * d) :
    told d l ((n - l.length) + (n - l.length - 1) / (d - 1)) = told d l n := by
  obtain ⟨_, a, b, c, e⟩ := leap_down hd h1 h2
  have h := told_leap (l := l) hd a (by omega) c
  rw [e] at h
  exact h.symm
theorem nodup_get {l : List α} (h : l.Nodup) {i j : Nat} {x : α} (a : l[i]? = some x) (b : l[j]? = some x) : i = j := by
  obtain ⟨h1, e1⟩ := List.getElem?_eq_some_iff.mp a
  obtain ⟨h2, e2⟩ := List.getElem?_eq_some_iff.mp b
  exact (List.getElem_inj h).mp (e1.trans e2.symm)
/-! ## places in a ring of numbers -/
def ring (m b : Nat) : List Nat := rot (List.range m) b
theorem ring_len (m b : Nat) : (ring m b).length = m := by rw [ring, rot_len, List.length_range]
theorem ring_get {m b i : Nat} (hb : b ≤ m) (hi : i < m) : (ring m b)[i]? = some ((b + i) % m) := by
  have h := rot_get (l := List.range m) (a := b) (i := i) (by rw [List.length_range]; exact hb) (by rw [List.length_range]; exact hi)
  rw [List.length_range] at h
  rw [ring, h, List.getElem?_range (Nat.mod_lt _ (by omega))]
/-- the places in the order in which they go -/
def order (d m b : Nat) : List Nat := out (d - 1) m (ring m b)
theorem order_len (d m b : Nat) : (order d m b).length = m := out_len _ _ _ (ring_len m b)
theorem rot_perm (l : List α) (a : Nat) : (rot l a).Perm l := by
  unfold rot
  exact List.perm_append_comm.trans (by rw [List.take_append_drop])
theorem order_perm (d m b : Nat) : (order d m b).Perm (List.range m) := (out_perm _ _ _ (ring_len m b)).trans (rot_perm _ _)
theorem order_nodup (d m b : Nat) : (order d m b).Nodup := (order_perm d m b).nodup_iff.mpr List.nodup_range
theorem order_lt {d m b x : Nat} (h : x ∈ order d m b) : x < m := List.mem_range.mp ((order_perm d m b).mem_iff.mp h)
theorem order_mem {d m b x : Nat} (h : x < m) : x ∈ order d m b := (order_perm d m b).mem_iff.mpr (List.mem_range.mpr h)
theorem order_told {d m b i : Nat} (hd : 0 < d) (hi : i < m) : (order d m b)[i]? = told d (ring m b) ((i + 1) * d) := by
  have h := out_told (l := ring m b) hd (i := i) (by rw [ring_len]; exact hi)
  rw [ring_len] at h
  exact h
end Jos

namespace Jos
variable {α β : Type}
theorem ring_map (m b : Nat) (h : b ≤ m) : ring m b = (ring m 0).map (fun i => (b + i) % m) := by
  apply ext_len
  · rw [List.length_map, ring_len, ring_len]
  · intro i hi
    rw [ring_len] at hi
    rw [ring_get h hi, List.getElem?_map, ring_get (Nat.zero_le _) hi]
    simp only [Option.map_some, Nat.zero_add, Nat.add_mod_mod]
theorem order_map (d m b : Nat) (h : b ≤ m) : order d m b = (order d m 0).map (fun i => (b + i) % m) := by
  unfold order
  rw [ring_map m b h, out_map]
/-- a begin turned -/
theorem order_turn {d m b c p : Nat} (h : b ≤ m) (hc : (order d m 0)[c]? = some p) : (order d m b)[c]? = some ((b + p) % m) := by
  rw [order_map d m b h, List.getElem?_map, hc]; rfl
/-- the first one gone, the rest is a ring of one fewer -/
theorem order_succ (d n : Nat) (hd : 0 < d) : order d (n + 1) 0 = ((d - 1) % (n + 1)) :: (order d n 0).map (fun i => (i + d) % (n + 1)) := by
  have h0 : ring (n + 1) 0 = List.range (n + 1) := rot_zero _
  have hx : (List.range (n + 1))[(0 + (d - 1)) % (List.range (n + 1)).length]? = some ((d - 1) % (n + 1)) := by
    rw [List.length_range, Nat.zero_add, List.getElem?_range (Nat.mod_lt _ (by omega))]
  have h := out_at (s := d - 1) (a := 0) (n := n) (l := List.range (n + 1)) (by rw [List.length_range]) (Nat.zero_le _) hx
  unfold order
  rw [h0, ← rot_zero (List.range (n + 1)), h]
  congr 1
  rw [List.length_range, Nat.zero_add]
  have hj : (d - 1) % (n + 1) < n + 1 := Nat.mod_lt _ (by omega)
  have e : rot ((List.range (n + 1)).eraseIdx ((d - 1) % (n + 1))) ((d - 1) % (n + 1)) = (ring n 0).map (fun i => (i + d) % (n + 1)) := by
    generalize hJ : (d - 1) % (n + 1) = j at hj
    have hl : ((List.range (n + 1)).eraseIdx j).length = n := by rw [List.length_eraseIdx, List.length_range, if_pos hj]; omega
    apply ext_len
    · rw [rot_len, hl, List.length_map, ring_len]
    · intro i hi
      rw [rot_len, hl] at hi
      rw [rot_get (by rw [hl]; omega) (by rw [hl]; exact hi), hl, List.getElem?_map, ring_get (Nat.zero_le _) hi, List.getElem?_eraseIdx]
      have e2 : (i + d) % (n + 1) = (j + i + 1) % (n + 1) := by
        rw [show i + d = (d - 1) + (i + 1) by omega, show j + i + 1 = j + (i + 1) by omega, ← hJ, Nat.mod_add_mod]
      simp only [Option.map_some, Nat.zero_add, Nat.mod_eq_of_lt hi, e2]
      by_cases hw : j + i < n
      · rw [Nat.mod_eq_of_lt hw, if_neg (by omega), List.getElem?_range (by omega), Nat.mod_eq_of_lt (by omega)]
      · have e3 : (j + i) % n = j + i - n := by
          by_cases hjn : j + i < n + n
          · rw [Nat.mod_eq_sub_mod (by omega), Nat.mod_eq_of_lt (by omega)]
          · omega
        rw [e3, if_pos (by omega), List.getElem?_range (by omega)]
        rw [show j + i + 1 = (j + i - n) + (n + 1) by omega, Nat.add_mod_right, Nat.mod_eq_of_lt (by omega)]
  rw [e, out_map]
theorem order_zero {d n : Nat} (hd : 0 < d) (hn : 0 < n) : (order d n 0)[0]? = some ((d - 1) % n) := by
  obtain ⟨k, rfl⟩ : ∃ k, n = k + 1 := ⟨n - 1, by omega⟩
  rw [order_succ d k hd]; rfl
theorem order_next {d n c p : Nat} (hd : 0 < d) (h : (order d n 0)[c]? = some p) : (order d (n + 1) 0)[c + 1]? = some ((p + d) % (n + 1)) := by
  rw [order_succ d n hd, List.getElem?_cons_succ, List.getElem?_map, h]; rfl
/-- hand by hand more, no round ending -/
theorem order_leap {d n c p : Nat} (hd : 0 < d) (h : (order d n 0)[c]? = some p) : ∀ L, p + (d - 1) * L < n → (order d (n + L) 0)[c + L]? = some (p + d * L)
  | 0, _ => by rw [Nat.mul_zero]; exact h
  | L + 1, hL => by
    have e1 : (d - 1) * (L + 1) = (d - 1) * L + (d - 1) := by rw [Nat.mul_add, Nat.mul_one]
    have e2 : d * (L + 1) = d * L + d := by rw [Nat.mul_add, Nat.mul_one]
    have e3 : d * L = (d - 1) * L + L := by
      obtain ⟨e, rfl⟩ : ∃ e, d = e + 1 := ⟨d - 1, by omega⟩
      rw [Nat.add_sub_cancel, Nat.add_mul, Nat.one_mul]
    have ih := order_leap hd h L (by omega)
    have k := order_next hd ih
    rw [show n + (L + 1) = n + L + 1 by omega, show c + (L + 1) = c + L + 1 by omega, k, Nat.mod_eq_of_lt (by omega)]
    congr 1
    omega
theorem order_leap1 {d n c p : Nat} (hd : 0 < d) (h : (order d n 0)[c]? = some p) (L : Nat) (hL : 1 ≤ L) (hk : p + (d - 1) * (L - 1) < n) : (order d (n + L) 0)[c + L]? = some ((p + d * L) % (n + L)) := by
  obtain ⟨k, rfl⟩ : ∃ k, L = k + 1 := ⟨L - 1, by omega⟩
  rw [Nat.add_sub_cancel] at hk
  have ih := order_leap hd h k hk
  have g := order_next hd ih
  rw [show n + (k + 1) = n + k + 1 by omega, show c + (k + 1) = c + k + 1 by omega, g]
  congr 2
  rw [Nat.mul_add, Nat.mul_one]; omega
end Jos

set_option Elab.async false
set_option linter.all false
set_option maxRecDepth 100000
set_option maxHeartbeats 2000000
namespace Cd
open PySem PySem.Spec PyProof.Rows L2
open Evl (Ex)
/-! ### operations by short names -/
abbrev oAdd : R2 := rI0 fun i j => .int (i + j)
abbrev oSub : R2 := rI0 fun i j => .int (i - j)
abbrev oMul : R2 := rI CMul fun i j => .int (i * j)
abbrev oMod : R2 := rI (fun _ j => 0 < j) fun i j => .int (i % j)
abbrev oFdiv : R2 := rI CDiv fun i j => .int (i / j)
abbrev oPow : R2 := rI CPow fun i j => .int (i ^ j.toNat)
abbrev oLt : R2 := rI0 fun i j => .bl (decide (i < j))
abbrev oLe : R2 := rI0 fun i j => .bl (decide (i ≤ j))
abbrev oGt : R2 := rI0 fun i j => .bl (decide (j < i))
abbrev oGe : R2 := rI0 fun i j => .bl (decide (j ≤ i))
abbrev oNeg : V → Hp → VK → Prop := rU fun i => .int (-i)
abbrev oAddS : R2 := fun x y H Q => ∃ i j, x = .str i ∧ y = .str j ∧ i.length + j.length ≤ sizeLine ∧ Q (.str (i ++ j)) H
abbrev oIsN : R2 := fun x y H Q => y = .non ∧ Q (.bl (decide (x = .non))) H
abbrev oNotN : R2 := fun x y H Q => y = .non ∧ Q (.bl (!decide (x = .non))) H
abbrev oMin2 : List V → Hp → VK → Prop := fun xs H Q => ∃ i j, xs = [.int i, .int j] ∧ Q (.int (if j < i then j else i)) H
abbrev oMax2 : List V → Hp → VK → Prop := fun xs H Q => ∃ i j, xs = [.int i, .int j] ∧ Q (.int (if j > i then j else i)) H
abbrev oStrI : List V → Hp → VK → Prop := fun xs H Q => ∃ i : Int, xs = [.int i] ∧ i.natAbs.log2 < 1920 ∧ Q (.str (toString i)) H
abbrev rLenL (K : PySem.W.Frag) : List V → Hp → VK → Prop := fun xs H Q => ∃ p ys, xs = [.ref p] ∧ (SqL K H p ys ∨ SqT K H p ys) ∧ Q (.int (ys.length : Int)) H
abbrev rLenV (K : PySem.W.Frag) : List V → Hp → VK → Prop := fun xs H Q => ∃ x n, xs = [x] ∧ LenV K x H n ∧ Q (.int (n : Int)) H
abbrev rListOf (K : PySem.W.Frag) : List V → Hp → VK → Prop := fun xs H Q => ∃ p ys, xs = [.ref p] ∧ (SqL K H p ys ∨ SqT K H p ys) ∧ ∀ l, H l = none → Q (.ref l) (upd H l (.lst ys))
abbrev rInsert : V → List V → Hp → VK → Prop := fun x vs H Q => ∃ (l : Addr) (xs : List V) (i : Int) (y : V), x = .ref l ∧ vs = [.int i, y] ∧ H l = some (.lst xs) ∧ xs.length < sizeLine ∧ 0 ≤ i ∧ i < 2 ^ 63 ∧
    Q .non (upd H l (.lst (xs.take i.toNat ++ [y] ++ xs.drop i.toNat)))
abbrev tRaise (C : Addr) (E : XK) : TS := fun _ _ H => E (.ref C) none H
theorem iteC {c : Bool} {A B : Prop} (h1 : c = true → A) (h2 : c = false → B) : if c = true then A else B := by
  cases c with
  | true => exact iteT (h1 rfl)
  | false => exact iteF (h2 rfl)
/-! ### data that compares plainly -/
/-- numbers and texts, None -/
def plain : V → Bool
  | .int _ => true
  | .str x => PyData.strOk x
  | .non => true
  | _ => false
def dat : V → PyData
  | .int i => .int i
  | .str x => .str x
  | _ => .none
theorem dat_dp {K : PySem.W.Frag} {H : Hp} {v : V} (h : plain v = true) : Dp K H v (dat v) := by
  cases v <;> first | exact .int _ | exact .str _ | exact .non | (simp [plain] at h; done)
theorem dats_dp {K : PySem.W.Frag} {H : Hp} : ∀ {vs : List V}, vs.all plain = true → DpAll K H vs (vs.map dat)
  | [], _ => .nil
  | v :: vs, h => by
    rw [List.all_cons, Bool.and_eq_true] at h
    exact .cons (dat_dp h.1) (dats_dp h.2)
theorem dat_eqv {v w : V} (h : plain v = true) (h' : plain w = true) : PyData.eqv (dat v) (dat w) = decide (v = w) := by
  cases v <;> cases w <;> first
    | (simp [plain] at h; done)
    | (simp [plain] at h'; done)
    | (simp [dat, PyData.eqv]; done)
    | (simp only [dat, PyData.eqv, V.int.injEq, V.str.injEq]; exact Bool.beq_eq_decide_eq _ _)
theorem dats_eqv : ∀ {vs ws : List V}, vs.all plain = true → ws.all plain = true → PyData.eqvAll (vs.map dat) (ws.map dat) = decide (vs = ws)
  | [], [], _, _ => by simp [PyData.eqvAll]
  | [], w :: ws, _, _ => by simp [PyData.eqvAll]
  | v :: vs, [], _, _ => by simp [PyData.eqvAll]
  | v :: vs, w :: ws, h, h' => by
    rw [List.all_cons, Bool.and_eq_true] at h h'
    rw [List.map_cons, List.map_cons, PyData.eqvAll, dat_eqv h.1 h'.1, dats_eqv h.2 h'.2]
    by_cases e : v = w
    · subst e; simp
    · simp [e]
theorem dats_can : ∀ {vs : List V}, vs.all plain = true → PyData.canLayAll0 (vs.map dat) = true
  | [], _ => by simp [PyData.canLayAll0]
  | v :: vs, h => by
    rw [List.all_cons, Bool.and_eq_true] at h
    rw [List.map_cons, PyData.canLayAll0, dats_can h.2, Bool.and_true]
    have h1 := h.1
    cases v <;> first | (simp [dat, PyData.canLay0]; done) | exact h1 | (simp [plain] at h1; done) | (simp only [dat, PyData.canLay0]; exact h1)
theorem dats_depth : ∀ vs : List V, PyData.depthAll (vs.map dat) = 0
  | [] => by simp [PyData.depthAll]
  | v :: vs => by
    rw [List.map_cons, PyData.depthAll, dats_depth vs]
    cases v <;> simp [dat, PyData.depth]
theorem dats_shaped {vs : List V} (h : vs.all plain = true) : SeqAt.shaped (.list (vs.map dat)) = true := by
  unfold SeqAt.shaped
  rw [PyData.canLay0, dats_can h, PyData.depth, dats_depth]
  rfl
/-- two lists of plain things -/
def rEqF (K : PySem.W.Frag) (neg : Bool) : R2 := fun x y H Q => ∃ p q xs ys, x = .ref p ∧ y = .ref q ∧ SqL K H p xs ∧ SqL K H q ys ∧ xs.all plain = true ∧ ys.all plain = true ∧ Q (.bl (if neg then !decide (xs = ys) else decide (xs = ys))) H
section
variable {X : Cx}
theorem op_eqF (hu : X.A.units + 64 < cLine) : OpR X (compareOp .Eq) (rEqF X.K false) := by
  intro pins s σ H x y v u Q I rx ry h
  obtain ⟨p, q, xs, ys, rfl, rfl, hp, hq, h1, h2, k⟩ := h
  refine op_eqD hu pins s σ H _ _ v u Q I rx ry ⟨_, _, .lst hp (dats_dp h1), .lst hq (dats_dp h2), dats_shaped h1, dats_shaped h2, ?_⟩
  rw [PyData.eqv, dats_eqv h1 h2]
  exact k
theorem op_neF (hu : X.A.units + 64 < cLine) : OpR X (compareOp .NotEq) (rEqF X.K true) := by
  intro pins s σ H x y v u Q I rx ry h
  obtain ⟨p, q, xs, ys, rfl, rfl, hp, hq, h1, h2, k⟩ := h
  refine op_neD hu pins s σ H _ _ v u Q I rx ry ⟨_, _, .lst hp (dats_dp h1), .lst hq (dats_dp h2), dats_shaped h1, dats_shaped h2, ?_⟩
  rw [PyData.eqv, dats_eqv h1 h2]
  exact k
end
end Cd

set_option Elab.async false
set_option linter.all false
set_option maxRecDepth 100000
set_option maxHeartbeats 4000000
/-! set(xs) of a list of texts, however many -/
namespace Tx
open PySem PySem.Spec PyProof.Rows
/-- those met so far, each once -/
def add1 (l : List Str) (x : Str) : List Str := if l.any (· == x) then l else l ++ [x]
def met (xs : List Str) (i : Nat) : List Str := (xs.take i).foldl add1 []
theorem met_next {xs : List Str} {i : Nat} {x : Str} (h : xs[i]? = some x) : met xs (i + 1) = add1 (met xs i) x := by
  unfold met
  rw [List.take_add_one, h, Option.toList_some, List.foldl_append]; rfl
theorem add1_any (l : List Str) (x k : Str) : (add1 l x).any (· == k) = (l.any (· == k) || decide (k = x)) := by
  unfold add1
  by_cases c : l.any (· == x) = true
  · rw [if_pos c]
    by_cases e : k = x
    · rw [e, c]; simp
    · simp [e]
  · rw [if_neg c]
    by_cases e : k = x
    · rw [e]; simp
    · have e' : (x == k) = false := beq_eq_false_iff_ne.mpr fun z => e z.symm
      simp [e, e']
theorem add1_len (l : List Str) (x : Str) : (add1 l x).length = if l.any (· == x) then l.length else l.length + 1 := by
  unfold add1; split <;> simp
theorem met_le (xs : List Str) : ∀ i, (met xs i).length ≤ i
  | 0 => by simp [met]
  | i + 1 => by
    have ih := met_le xs i
    cases h : xs[i]? with
    | none =>
      have e : met xs (i + 1) = met xs i := by
        unfold met
        rw [List.take_add_one, h]; simp
      rw [e]; omega
    | some x => rw [met_next h, add1_len]; split <;> omega
theorem met_mem (xs : List Str) (k : Str) : ∀ i, (met xs i).any (· == k) = true → k ∈ xs.take i
  | 0, h => by simp [met] at h
  | i + 1, h => by
    cases e : xs[i]? with
    | none =>
      have e2 : met xs (i + 1) = met xs i := by
        unfold met
        rw [List.take_add_one, e]; simp
      rw [e2] at h
      rw [List.take_add_one, e]
      exact List.mem_append_left _ (met_mem xs k i h)
    | some x =>
      rw [met_next e, add1_any, Bool.or_eq_true] at h
      rw [List.take_add_one, e]
      rcases h with h | h
      · exact List.mem_append_left _ (met_mem xs k i h)
      · have := of_decide_eq_true h
        subst this
        exact List.mem_append_right _ (by simp)
/-- all unlike: as many -/
theorem met_nodup {xs : List Str} (h : xs.Nodup) : ∀ i, i ≤ xs.length → (met xs i).length = i
  | 0, _ => by simp [met]
  | i + 1, hi => by
    have hx : xs[i]? = some xs[i] := List.getElem?_eq_getElem (by omega)
    rw [met_next hx, add1_len, met_nodup h i (by omega), if_neg]
    intro c
    have m := met_mem xs _ i c
    obtain ⟨j, hj, e⟩ := List.mem_iff_getElem.mp m
    rw [List.length_take] at hj
    rw [List.getElem_take] at e
    have := (List.getElem_inj h).mp e
    omega
section
variable {P : Program} {w : World} {A : Around} {R : Result → Shared → Prop} {It : Addr} {fp wr : List Addr} {G : Array GenState → Array GenState → Prop} {n : Nat} {Pv : Nat → Value → Prop} {T : Nat → Shared → Prop}
/-- the filling's turns, from the i-th on -/
theorem fill (W : WalksS P w A.in1 It fp wr G n Pv T) {S : Addr} (nf : S ∉ fp) {xs : List Str} (hz : n + 1 < scanBound) (hP : ∀ i v, Pv i v → ∃ x t, xs[i]? = some x ∧ v = .str x t) {m : Nat} :
    ∀ (i : Nat) (s : Shared), n - i = m → i ≤ n → T i s →
      s.heap.SetOf (PySem.strKind P w) S (fun k => (met xs i).any (· == k)) (met xs i).length →
      (∀ s1, Moved (S :: wr) G s s1 → s1.heap.SetOf (PySem.strKind P w) S (fun k => (met xs n).any (· == k)) (met xs n).length → R (.ok (.ret .none)) s1) →
      codeAny (model P w) A (.builtin "set.update.loop" { pos := [.ref S, .ref It], kw := [] }) R s := by
  have nw : S ∉ wr := fun z => nf (W.sub _ z)
  have wide : ∀ b ∈ wr, b ∈ S :: wr := fun b z => List.mem_cons.mpr (.inr z)
  have stays : ∀ {s s1 : Shared} {X : Str → Bool} {j : Nat}, Moved wr G s s1 → s.heap.SetOf (PySem.strKind P w) S X j → s1.heap.SetOf (PySem.strKind P w) S X j := fun mv z => by
    obtain ⟨o, es, ep, tb, ho, q⟩ := z
    exact ⟨o, es, ep, tb, mv.heap S _ nw ho, q⟩
  induction m with
  | zero =>
    intro i s hm hi st hS hR
    obtain rfl : i = n := by omega
    apply codeAny_builtin PyProof.Rows.F.entry_set_update_loop
    rw [Around.under_plainId PyProof.Rows.F.plain_set_update_loop]
    exact wpAny_bind (m := pyNext (.ref It)) (W.done s _ _ st fun s1 mv => wpAny_pure (hR s1 (mv.mono wide) (stays mv hS)))
  | succ m ih =>
    intro i s hm hi st hS hR
    apply codeAny_builtin PyProof.Rows.F.entry_set_update_loop
    rw [Around.under_plainId PyProof.Rows.F.plain_set_update_loop]
    refine wpAny_bind (m := pyNext (.ref It)) (W.item i s _ _ (by omega) st fun v s1 pv st1 mv => ?_)
    obtain ⟨x, t, hx, rfl⟩ := hP i v pv
    refine wpAny_bind (m := holding [Value.str x t] (setAdd S (.str x t))) (wpAny_holding ?_)
    unfold setAdd
    refine wpAny_holding (wpAny_bind ((PySem.strKind P w).pyHash (k := x) (strKind_is _ _ _ _) ?_))
    have few := met_le xs i
    refine wpAny_setAddHashed_of (knd := PySem.strKind P w) (k := x) (s := { s1 with toks := s1.toks + 1 }) (strKind_is _ _ _ _) rfl (show s1.heap.SetOf (PySem.strKind P w) S _ _ from stays mv hS) (Nat.lt_of_le_of_lt (Nat.succ_le_succ few) (by omega)) fun h2 sb hS2 => ?_
    have hS3 : h2.SetOf (PySem.strKind P w) S (fun k => (met xs (i + 1)).any (· == k)) (met xs (i + 1)).length := by
      refine SetOf_congr hS2 (fun k => ?_) ?_
      · rw [met_next hx, add1_any]
      · rw [met_next hx, add1_len]
    have nS : ∀ b ∈ fp, b ≠ S := fun b hb z => nf (z ▸ hb)
    refine wpAny_pure ⟨plainId_quiet PyProof.Rows.F.plain_set_update_loop _, ih (i + 1) _ (by omega) (by omega) (W.frame _ s1 _ _ st1 (Nat.le_succ _) fun b hb o e => (sb.2 b (nS b hb)).trans e) hS3 fun s3 mv3 q3 => hR s3 ?_ q3⟩
    refine Moved.trans W.gtrans ((mv.mono wide).then_heap (Nat.le_succ _) fun b o hb e => ?_) mv3
    exact (sb.2 b fun z => hb (List.mem_cons.mpr (.inl z))).trans e
end

section
variable {P : Program} {w : World} {A : Around} {E : Value → Shared → Prop} {s : Shared}
abbrev newSet (led : Bool) : Obj := { cls := .type "set", dict := none, data := .set #[] 0 (.fresh 0 0 led) }
/-- the new set is filled: behind set.__init__ -/
def Filled (P : Program) (w : World) (s : Shared) (xs : List Str) (h2 : Heap) : Prop :=
  h2.SetOf (PySem.strKind P w) s.heap.objs.size (fun k => (met xs xs.length).any (· == k)) (met xs xs.length).length ∧ ∀ b o, b < s.heap.objs.size → s.heap.get? b = some o → h2.get? b = some o
set_option maxHeartbeats 8000000 in
theorem call_set {l : Addr} {its : Array Value} {xs : List Str} {Q : Value → Shared → Prop} (hh : A.handled = none) (hl : s.heap.IsList l its) (hx : StrsAre its.toList xs) (hz : xs.length + 1 < scanBound)
    (q : ∀ h2 tk, Filled P w s xs h2 → Q (.ref s.heap.objs.size) { s with heap := h2, toks := tk }) : wpAny (model P w) A (call (.type "set") [.ref l]) Q E s := by
  have len : its.size = xs.length := by rw [← Array.length_toList]; exact hx.length
  obtain ⟨_, _, mr⟩ := PySem.F.called_set.mro
  have k1 := PySem.F.called_set.made
  have k2 := PySem.F.called_set.sub
  have k3 := PySem.F.called_set.notType
  have k4 := PySem.F.called_set.canCreate
  have k5 := PySem.F.typeCall_set_1 (.ref l)
  apply wpAny_call
  apply codeAny_of_tree
  show wpAny _ _ (callAny (.type "set") _) _ _ _
  refine wpAny_pure ⟨Code.quiet_builtin _ (by decide +kernel), codeAny_builtin PySem.F.entry_type_call ?_⟩
  have wt := weight_type_call_type "set" [.ref l] []
  rw [Around.under_plain wt rfl]
  repeat (any_goals (first | assumption | wp_step))
  -- set.__new__
  refine codeAny_mono (code_set_new_1 (.ref l) (E := E) (Q₁ := fun v s1 => ∃ led, v = .ref s.heap.objs.size ∧ s1 = { s with heap := s.heap.push (newSet led) }) fun led => ⟨led, rfl, rfl⟩) fun r s1 hr => ?_
  cases r with
  | error e => exact hr
  | ok fl =>
    cases fl with
    | next => exact False.elim hr
    | brk => exact False.elim hr
    | cont => exact False.elim hr
    | ret v =>
      obtain ⟨led, ev, es⟩ := hr
      subst ev es
      have at0 : (s.heap.push (newSet led)).get? s.heap.objs.size = some (newSet led) := Heap.get?_push_size _ rfl
      have ty0 : Shared.TypeIs { s with heap := s.heap.push (newSet led) } (.ref s.heap.objs.size) "set" := ⟨newSet led, at0, rfl⟩
      have k6 := PySem.F.called_set.init.lookup
      have k7 := PySem.F.called_set.init.bind (.ref s.heap.objs.size)
      repeat (any_goals (first | assumption | wp_step))
      -- set.__init__
      refine codeAny_mono (codeAny_call_builtin (R := wants (fun r s2 => r = .none ∧ ∃ h2 tk, s2 = { s with heap := h2, toks := tk } ∧ Filled P w s xs h2) E)
        PySem.F.called_set.init.plain PySem.F.entry_set_init (check_set_init_1 ty0 ?_)) fun r2 s2 hr2 => ?_
      · obtain ⟨⟨oc, od, odt, osl⟩, ho, hc, c, hd⟩ := hl
        simp only at hc hd
        subst hc hd
        have k8 := PySem.F.sub_list_set
        have k9 := PySem.F.sub_list_frozenset
        have k10 : (Value.type "list" == Value.type "dict") = false := by decide
        have ho1 : (s.heap.push (newSet led)).get? l = some { cls := .type "list", dict := od, data := .seq its c, slots := osl } := Heap.get?_push_of_some _ ho
        have li : (s.heap.push (newSet led)).IsList l its := ⟨_, ho1, rfl, c, rfl⟩
        have lt : l < s.heap.objs.size := Heap.lt_size ho
        have sz1 : (s.heap.push (newSet led)).objs.size = s.heap.objs.size + 1 := Heap.size_push _ _
        unfold Builtin.«set.__init__» noKeywords Builtin.Frozenset.updateFrom
        generalize hp : pyIter = itr
        wp_walk
        subst hp
        refine wpAny_pyIter_list li (wpAny_bind (wpAny_runValue ?_))
        have ne1 : l ≠ (s.heap.push (newSet led)).objs.size := by rw [sz1]; exact Nat.ne_of_lt (Nat.lt_succ_of_lt lt)
        have nf : s.heap.objs.size ∉ [(s.heap.push (newSet led)).objs.size, l] := by
          rw [sz1]
          intro z
          simp only [List.mem_cons, List.not_mem_nil, or_false] at z
          rcases z with z | z
          · exact Nat.ne_of_lt (Nat.lt_succ_self _) z
          · exact Nat.ne_of_gt lt z
        have hn : A.in1.in1.in1.handled = none := by simp [hh]
        have hP : ∀ (i : Nat) (v : Value), its[i]? = some v → ∃ x t, xs[i]? = some x ∧ v = .str x t := fun i v hv => by
          have hv2 : its.toList[i]? = some v := by rw [Array.getElem?_toList]; exact hv
          have hi : i < xs.length := by
            have := (List.getElem?_eq_some_iff.mp hv2).1
            rw [hx.length] at this; exact this
          obtain ⟨t, e⟩ := hx.get i xs[i] (List.getElem?_eq_getElem hi)
          rw [hv2] at e
          exact ⟨xs[i], t, List.getElem?_eq_getElem hi, Option.some.inj e⟩
        refine fill (Walks.list hn _ l ne1 its).toS nf (by rw [len]; exact hz) hP 0 _ rfl (Nat.zero_le _) ⟨⟨_, Heap.get?_push_size _ rfl, rfl, rfl⟩, li.push _⟩ ?_ ?_
        · have g : ((s.heap.push (newSet led)).push { cls := .type "list_iterator", data := .fields #[.ref l, .int 0 0] }).get? s.heap.objs.size = some (newSet led) := Heap.get?_push_of_some _ at0
          exact SetOf_congr ((setObjOf_fresh (knd := PySem.strKind P w) led).setOf g (by unfold scanBound; omega)) (fun _ => rfl) rfl
        · intro s3 mv q3
          obtain ⟨h3, g3, d3, t3, o3⟩ := s3
          obtain rfl : g3 = s.gens := mv.gens
          obtain rfl : d3 = s.drawn := mv.drawn
          obtain rfl : o3 = s.os := mv.os
          show wpAny _ _ _ _ _ _
          refine wpAny_pure ?_
          show wpAny _ _ (ret Value.none) _ _ _
          rw [len] at q3
          refine wpAny_pure ⟨rfl, h3, t3, rfl, q3, fun b o hb e => ?_⟩
          refine mv.heap b o (fun z => ?_) (Heap.get?_push_of_some _ (Heap.get?_push_of_some _ e))
          rw [sz1] at z
          simp only [List.mem_cons, List.not_mem_nil, or_false] at z
          rcases z with z | z
          · exact Nat.ne_of_lt hb z
          · exact Nat.ne_of_lt (Nat.lt_succ_of_lt hb) z
      · cases r2 with
        | error e => exact hr2
        | ok f2 =>
          cases f2 with
          | next => exact False.elim hr2
          | brk => exact False.elim hr2
          | cont => exact False.elim hr2
          | ret v2 =>
            obtain ⟨ev, h2, tk, es, fi⟩ := hr2
            subst ev es
            repeat (any_goals (first | assumption | wp_step))
            exact q h2 tk fi
end
end Tx

set_option Elab.async false
set_option linter.all false
set_option maxRecDepth 100000
set_option maxHeartbeats 4000000
namespace Tx
open PySem PySem.Spec PyProof.Rows L2
/-- a set of texts, made of the list ys -/
def SetT (P : Program) (w : World) (p : Addr) (ys : List Str) : HO := .ext fun h => h.SetOf (PySem.strKind P w) p (fun k => (met ys ys.length).any (· == k)) (met ys ys.length).length
abbrev rSetT (K : PySem.W.Frag) (P : Program) (w : World) : List V → Hp → VK → Prop := fun xs H Q => ∃ l ys, xs = [.ref l] ∧ SqL K H l (List.map V.str ys) ∧ ys.length ≤ 1000 ∧ ∀ p, H p = none → Q (.ref p) (upd H p (SetT P w p ys))
abbrev rLenT (P : Program) (w : World) : List V → Hp → VK → Prop := fun xs H Q => ∃ p ys, xs = [.ref p] ∧ H p = some (SetT P w p ys) ∧ ys.length ≤ 1000 ∧ Q (.int ((met ys ys.length).length : Int)) H
section
variable {X : Cx}
theorem cr_setT (hc : X.calm = true) : CallR X (.type "set") (rSetT X.K X.prog X.w) := by
  intro pins s σ H xs us Q I r h
  obtain ⟨l, ys, rfl, hl, hz, q⟩ := h
  obtain ⟨u, rfl, ru⟩ := vals1 r
  obtain rfl : u = Value.ref l := ru
  obtain ⟨its, rv, pl, _⟩ := I.list hl
  refine call_set (I.ok.hd hc) pl.isList (by simpa using strsAre_of rv) (by unfold scanBound; omega) fun h2 tk fi => ?_
  have new : ObjOk X.prog X.w (upd H s.heap.objs.size (SetT X.prog X.w s.heap.objs.size ys)) h2 s.heap.objs.size (SetT X.prog X.w s.heap.objs.size ys) := by
    refine ⟨fi.1, ?_, fun h3 h4 z k => ?_⟩
    · obtain ⟨o, _, _, _, ho, _⟩ := fi.1
      exact ⟨o, ho⟩
    · obtain ⟨o, es, ep, t, ho, z⟩ := z
      exact ⟨o, es, ep, t, k o ho, z⟩
  exact ⟨.ref s.heap.objs.size, upd H s.heap.objs.size (SetT X.prog X.w s.heap.objs.size ys), I.laid (t' := tk) (fun b o e => fi.2 b o (Heap.lt_size e) e) (Nat.le_refl _) new, rfl, q s.heap.objs.size (I.hok.fresh (Nat.le_refl _))⟩
theorem cr_lenT : CallR X (.builtin "len") (rLenT X.prog X.w) := by
  intro pins s σ H xs us Q I r h
  obtain ⟨p, ys, rfl, hp, hz, q⟩ := h
  obtain ⟨u, rfl, ru⟩ := vals1 r
  obtain rfl : u = Value.ref p := ru
  obtain ⟨⟨o, es, ep, t, ho, hex, hd, _, _, _, hf, hn⟩, _⟩ := (show ObjOk X.prog X.w H s.heap p (SetT X.prog X.w p ys) from I.hok p _ hp)
  have le := met_le ys ys.length
  refine call_len_set ho hex hd hf (by rw [hn] <;> omega) ⟨.int _, H, I.tok _, ⟨_, by rw [hn]⟩, q⟩
end
end Tx

set_option Elab.async false
set_option linter.all false
set_option maxRecDepth 100000
set_option maxHeartbeats 4000000
/-! an exception that is caught, and kept under another name: try .. except C as n: x = n -/
namespace Kp
open PySem PySem.Spec PyProof.Rows L2
/-- an exception object of the class cls, without a dict of its own -/
def ExT (cls : Value) (a : Addr) : HO := .ext fun h => ∃ (oe : Obj) (vs : Array Value), h.get? a = some oe ∧ Zc cls none oe ∧ oe.data = .fields vs
section
variable {X : Cx} {pins : List (Addr × Obj)} {σ : L2.St} {H : Hp} {s : Shared} {a : Addr} {oe : Obj} {vs : Array Value} {cls : Value}
/-- it is looked at from here on as a thing of ours -/
theorem track (I : Inv X pins σ H s) (he : s.heap.get? a = some oe) (hz : Zc cls none oe) (hd : oe.data = .fields vs) (na : H a = none) (n0 : X.s_0.heap.get? a = none) (nL : a ≠ X.env.locals)
    (np : ∀ p ∈ X.pn ++ pins, p.1 ≠ a) : Inv X pins σ (upd H a (ExT cls a)) s where
  ok := I.ok
  os := I.os
  bare := I.bare
  base := by
    have ne : ∀ b o, X.s_0.heap.get? b = some o → b ≠ a := fun b o e z => by rw [z, n0] at e; cases e
    have nh : ∀ b o, H b = some o → b ≠ a := fun b o e z => by rw [z, na] at e; cases e
    refine ⟨I.base.keep, I.base.slot, fun b o e n x => ?_, I.base.there, fun b xs e => ?_, fun b o u e => ?_, fun b ps e => ?_⟩
    · rw [upd_ne (ne b o e)]; exact I.base.free b o e n x
    · have z := I.base.tups b xs e
      rw [upd_ne (nh b _ z)]; exact z
    · have z := I.base.frzs b o u e
      rw [upd_ne (nh b _ z)]; exact z
    · obtain ⟨m, z⟩ := I.base.tbls b ps e
      exact ⟨m, by rw [upd_ne (nh b _ z)]; exact z⟩
  loc := I.loc
  cell := I.cell
  free := by rw [upd_ne nL.symm]; exact I.free
  freeC := fun x c e => by
    have nc : c ≠ a := fun z => by
      obtain ⟨v, q⟩ := I.cell x c e
      obtain ⟨oc, h1, h2⟩ := q
      rw [z, he] at h1
      cases h1
      rw [hd] at h2
      exact nomatch h2
    rw [upd_ne nc]; exact I.freeC x c e
  pin := fun p hp => by
    obtain ⟨q1, q2, q3⟩ := I.pin p hp
    exact ⟨q1, by rw [upd_ne (np p hp)]; exact q2, q3⟩
  hok := fun b u e => by
    by_cases hb : b = a
    · subst hb
      rw [upd_same] at e
      cases e
      exact ⟨⟨oe, vs, he, hz, hd⟩, ⟨oe, he⟩, fun _ _ ⟨o, v, q, r⟩ k => ⟨o, v, k o q, r⟩⟩
    · rw [upd_ne hb] at e
      exact (I.hok b u e).stay (fun c v _ q => q) (fun c q => by rw [upd_ne (ne_of_none q na)]; exact q) fun c xs q => by rw [upd_ne (ne_of_none q na)]; exact q
  len := I.len
/-- isinstance(e, c), e a kept exception of the class D -/
def rIsX (K : PySem.W.Frag) : List V → Hp → VK → Prop := fun xs H Q => ∃ (a D : Addr) (c : V) (cv : Value) (b : Bool), xs = [.ref a, c] ∧ ClsV c cv ∧ H a = some (ExT (.ref D) a) ∧ ExcC K D ∧ PySem.W.kitOne K (.ref D) cv = some b ∧ Q (.bl b) H
theorem call_isX : CallR X (.builtin "isinstance") (rIsX X.K) := by
  intro pins s σ H xs us Q I r h
  obtain ⟨a, D, c, cv, b, rfl, hc, ha, C, e, q⟩ := h
  obtain ⟨u1, u2, rfl, r1, r2⟩ := vals2 r
  obtain rfl : u1 = Value.ref a := r1
  obtain rfl := hc.eq r2
  obtain ⟨⟨oe, vs, he, hz, hd⟩, _⟩ := (show ObjOk X.prog X.w H s.heap a (ExT (.ref D) a) from I.hok a _ ha)
  have J : PySem.W.InstAt s.heap a oe D none := by
    obtain ⟨oc, od, oda, osl⟩ := oe
    obtain ⟨h1, h2⟩ := hz
    dsimp only at h1 h2 hd
    subst h1 h2 hd
    exact ⟨he, rfl, rfl, trivial⟩
  exact PySem.W.kia_one (PySem.W.handS_kitx_exc C.hg C.hk C.hs C.hd C.ha C.hn C.ht C.hm) I.kIn J e (fun z => nomatch z) fun tk => ⟨.bl b, H, I.kept (t' := tk) fun _ _ z => z, rfl, q⟩
end

/-- what the clause 'except x as n: m = n' asks of an exception of the body (n at slot i, m at slot j) -/
def wKp (K : PySem.W.Frag) (c : Value) (i j : Nat) (D : Ends) : WX := fun cls d σ H =>
  d = none ∧ PySem.W.exmOne K cls c = some true ∧ ∀ a, H a = none → D.nx (((σ.set i (some (.ref a))).set j (some (.ref a))).set i none) (upd H a (ExT cls a))
section
variable {X : Cx} {x n m : Str} {c : Value} {i j : Nat} {body : List Stmt} {np pos pos' q1 q2 q3 : Pos} {tb : WX → TS}
theorem ps_try_keep (hs : X.stack = X.env :: X.outer) (hf : X.env.frame = some X.env.locals) (hex : X.ex = []) (nd : X.N.Nodup) (hi : X.N[i]? = some n) (hj : X.N[j]? = some m) (hln : X.env.kindOf n = some .local) (hlm : X.env.scope.names.lookup m = some .local) (hvn : X.env.scope.names.lookup n = some .local)
    (hc : Names X x c) (h1 : (n == ("__debug__" : Str)) = false) (h2 : (n == ("__classdict__" : Str)) = false)
    (hb : ∀ (W : WX) (pn : List (Addr × Obj)) (xe : Value → Shared → Prop), Takes (X.tr pn xe) W → PassesOwn (model X.prog X.w) X.A X.env xe → PSs (X.tr pn xe) body (tb W))
    (hsw : swapsWith (.Name n q2) (some (.Name m q1)) q3.line X.env = pure false) :
    PS X (.Try body [.ExceptHandler (some (.Name x np)) (some n) [.Assign [.Name m q1] (.Name n q2) q3] pos'] [] [] pos) (fun D σ H => tb (wKp X.K c i j D) D σ H) where
  run pins s σ H D I h := by
    have ok := I.ok
    have frames : X.A.frames = some (X.env :: X.outer) := by rw [ok.frames, hs]
    apply wpAny_Try_except
    refine wpAny_mono ((hb (wKp X.K c i j D) (X.pn ++ pins) (fun e s1 => wpAny (model X.prog X.w) X.A (noteFrame e X.env) (fun _ s2 => wpAny (model X.prog X.w) X.A (setFlight e none)
      (fun _ s3 => wpAny (model X.prog X.w) X.A (handleBy e X.env [.ExceptHandler (some (.Name x np)) (some n) [.Assign [.Name m q1] (.Name n q2) q3] pos']) (SP X pins D) X.xe s3) X.xe s2) X.xe s1)
      (fun u s1 flown => ?_) PassesOwn.looking).run [] s σ H D (I.toTry _) h) (fun f s1 done => ?_) (fun _ _ z => z)
    · obtain ⟨a, B, s0, pins0, σ1, H1, cls, d, rfl, I0, ground, slots, sky, na, os, bare, ed, hit, go⟩ := flown
      subst ed
      have J0 : Inv X pins σ1 H1 s0 := I0.ofTry ok
      rw [show (X.tr (X.pn ++ pins) _).stack = X.env :: X.outer from hs] at sky
      show wpAny (model X.prog X.w) X.A (noteFrame (.ref a) X.env) _ _ _
      refine Sky.land Zc.steady frames hf sky fun hA flA upA => ?_
      have JA : Inv X pins σ1 H1 { s1 with heap := hA } := J0.landed ground flA.1 (slots.trans upA) os bare
      have noB : B.get? a = none := flA.2.1
      -- the exception is none of the frames
      have apart : ∀ {hh : Heap} {o : Obj} {ws : Array Value}, hh.FunFrames B (X.env :: X.outer) → hh.get? a = some o → o.data = .fields ws → a ∉ frs (X.env :: X.outer) := fun ff e dd z => by
        obtain ⟨_, o2, e2, nf⟩ := ff.mem z
        rw [e] at e2
        cases e2
        exact nf _ dd
      obtain ⟨oA, wA, eA, zA, dA⟩ := flA.there
      have nfr := apart flA.2.2.1 eA dA
      have nL : a ≠ X.env.locals := fun z => nfr (List.mem_filterMap.mpr ⟨X.env, List.mem_cons_self, by rw [hf, z]⟩)
      have nF : a ∉ X.fs := fun z => by
        obtain ⟨e, he, q⟩ := List.mem_filterMap.mp z
        exact nfr (List.mem_filterMap.mpr ⟨e, List.mem_cons_of_mem _ he, q⟩)
      -- it is younger than the frame's entry, and none of what is pinned
      have no0 : s0.heap.get? a = none := by
        cases e : s0.heap.get? a with
        | none => rfl
        | some o =>
          have z := ground a o e (by rw [show (X.tr (X.pn ++ pins) _).stack = X.env :: X.outer from hs]; exact nfr)
          rw [noB] at z
          cases z
      have n0 : X.s_0.heap.get? a = none := by
        cases e : X.s_0.heap.get? a with
        | none => rfl
        | some o =>
          obtain ⟨o2, z⟩ := J0.base.there a o e (by rw [hex]; exact fun z => nomatch z)
          rw [no0] at z
          cases z
      have npin : ∀ p ∈ X.pn ++ pins, p.1 ≠ a := fun p hp z => by
        have q := (J0.pin p hp).1
        rw [z, no0] at q
        cases q
      refine wpAny_handleBy_cons (codeAny_handlers_test ?_) (by intro z; cases z)
      have SA := JA.suite eA dA na nL nF
      have kind : PySem.W.Looks (model X.prog X.w) hA (typeOf (.ref a)) cls := fun A Q E s k q => wpAny_typeOf_ref (k _ _ eA) (by rw [zA.1]; exact q)
      have meets := PySem.W.exm_one (M := model X.prog X.w) JA.kIn kind hit
      have named : ∀ {Q : Value → Shared → Prop} {E : Value → Shared → Prop}, Q c { s1 with heap := hA } → wpAny (model X.prog X.w) (X.A.mark (some (.ref a))) (eval (.Name x np) X.env) Q E { s1 with heap := hA } := fun q => by
        obtain ⟨hg, hdb, hm | ⟨hm, hv, hn⟩⟩ := hc
        · exact ld_glob (X := X.suite a ((a, oA) :: (X.pn ++ pins))) SA hg hm q hdb
        · exact ld_blt (X := X.suite a ((a, oA) :: (X.pn ++ pins))) SA hg hm hv q hn hdb
      refine named (meets.here (codeAny_handlers_suite_as ?_))
      refine HandSPX.lands_againZ flA fun hB flB upB => ?_
      have JB : Inv X pins σ1 H1 { s1 with heap := hB } := J0.landed ground flB.1 ((slots.trans upA).trans upB) os bare
      obtain ⟨oB, wB, eB, zB, dB⟩ := flB.there
      have SB := JB.suite eB dB na nL nF
      refine store_ok (X := X.suite a ((a, oB) :: (X.pn ++ pins))) (v := .ref a) SB nd hi (.inl hln) rfl (fun s2 S2 => ?_) (.inr hvn)
      -- m = n
      have step : PSs (X.suite a ((a, oB) :: (X.pn ++ pins))) [.Assign [.Name m q1] (.Name n q2) q3] (tAsg (tVar i) (gName j)) :=
        pss_one (ps_set (X := X.suite a ((a, oB) :: (X.pn ++ pins))) nd hj (.inl hlm) (pe_var (X := X.suite a ((a, oB) :: (X.pn ++ pins))) hi (.inl hvn) h1 h2) hsw (.inr hlm))
      have li : i < σ1.length := by
        rw [J0.len]
        exact (List.getElem?_eq_some_iff.mp hi).1
      have reads : (σ1.set i (some (V.ref a)))[i]? = some (some (V.ref a)) := by rw [List.getElem?_set_self li]
      refine wpAny_mono (step.run [] s2 _ H1 { nx := fun σ' H' => σ' = (σ1.set i (some (.ref a))).set j (some (.ref a)) ∧ H' = H1, rt := fun _ _ => False, bk := fun _ _ => False, ct := fun _ _ => False } S2 ⟨_, reads, rfl, rfl⟩) (fun f s3 done => ?_) (fun _ _ z => False.elim z)
      cases f with
      | brk => obtain ⟨_, _, _, z⟩ := done; exact z.elim
      | cont => obtain ⟨_, _, _, z⟩ := done; exact z.elim
      | ret u => obtain ⟨_, _, _, _, _, z⟩ := done; exact z.elim
      | next =>
        obtain ⟨σ3, H3, S3, e3, e4⟩ := done
        subst e3 e4
        have he3 := (S3.pin (a, oB) (List.mem_append_left _ List.mem_cons_self)).1
        have J3 : Inv X pins _ (upd H3 a (ExT cls a)) s3 := track (S3.unsuite ok) he3 zB dB na n0 nL npin
        exact gone_ok J3 nd hi hln fun s4 J4 => ⟨_, _, J4, go a na⟩
    · cases f with
      | next =>
        obtain ⟨σ1, H1, J, q⟩ := done
        exact wpAny_execs_nil ⟨σ1, H1, J.ofTry ok, q⟩
      | brk =>
        obtain ⟨σ1, H1, J, q⟩ := done
        exact ⟨σ1, H1, J.ofTry ok, q⟩
      | cont =>
        obtain ⟨σ1, H1, J, q⟩ := done
        exact ⟨σ1, H1, J.ofTry ok, q⟩
      | ret u =>
        obtain ⟨v, σ1, H1, J, r, q⟩ := done
        exact ⟨v, σ1, H1, J.ofTry ok, r, q⟩
end
end Kp

set_option Elab.async false
set_option linter.all false
set_option maxRecDepth 100000
set_option maxHeartbeats 4000000
namespace Cd
open PySem PySem.Spec PyProof.Rows L2
open Evl (Ex sq_of ex_l sz_of sz_lt fresh_back)
/-! ### xs[::k], k 1 or -1; a text times a number -/
/-- all, or all backwards -/
def tSlS (K : PySem.W.Frag) (te ts : TE) : TE := fun σ H Q => te σ H fun x H1 => ts σ H1 fun y H2 => ∃ a xs, ∃ k : Int, x = .ref a ∧ y = .int k ∧ (k = 1 ∨ k = -1) ∧ SqL K H2 a xs ∧ ∀ p, H2 p = none → Q (.ref p) (upd H2 p (.lst (if k = 1 then xs else xs.reverse)))
theorem pick_one (its : Array Value) : slicePick its none none (some 1) = its.toList.toArray := by
  have h := slicePick_cut its.toList none none
  rw [Array.toArray_toList] at h
  have e : slicePick its none none (some 1) = slicePick its none none none := by
    unfold slicePick
    rfl
  rw [e, h, HT.sIx_none, HT.sIx_none, List.drop_zero, Nat.sub_zero, List.take_length]
theorem Vals.rev : ∀ {xs : List V} {us : List Value}, Vals xs us → Vals xs.reverse us.reverse
  | _, _, .nil => .nil
  | _, _, .cons r t => by
    rw [List.reverse_cons, List.reverse_cons]
    exact Vals.append (Vals.rev t) (.cons r .nil)
section
variable {X : Cx}
theorem pe_sliceStep {e st : Expr} {te ts : TE} {pos p2 : Pos} (he : PE X e te) (hst : PE X st ts) (hs : ∀ o i, ∃ ops, subscripted (.Slice none none (some st) p2) false o i = operate ops (getItem o i)) :
    PE X (.Subscript e (.Slice none none (some st) p2) pos) (tSlS X.K te ts) where
  run pins s σ H Q I h := by
    apply Subscript_
    refine thn (he.run pins s σ H _ I h) fun v s1 ⟨x, H1, I1, rx, q1⟩ => ?_
    apply wpAny_Slice
    rw [evalPart_none]
    refine wpAny_pure (wpAny_pure ?_)
    rw [evalPart_some]
    refine thn (hst.run pins s1 σ H1 _ I1 q1) fun u s2 ⟨y, H2, I2, ry, a, xs, k, ex, ey, hk, hl, q⟩ => ?_
    subst ex ey
    obtain rfl : v = Value.ref a := rx
    obtain ⟨t, rfl⟩ := ry
    have I3 : Inv X pins σ H2 { s2 with heap := s2.heap.push { cls := .type "slice", data := .fields #[.none, .none, .int k t] } } := I2.kept (t' := s2.toks) fun b o z => Heap.get?_push_of_some _ z
    obtain ⟨its, rv, pl, hz⟩ := I3.list hl
    have hlen := rv.length
    show wpAny _ _ (subscriptTail e (.Slice none none (some st) p2) (.ref a) (.ref s2.heap.objs.size)) _ _ _
    obtain ⟨ops, hops⟩ := hs (.ref a) (.ref s2.heap.objs.size)
    refine tail_any (ops := ops) pl.isList.typeIs PySem.slot_list_getitem.lookup ?_ hops
    refine wpAny_getItem_list_slice pl.isList (Heap.IsSliceOf.new ..) .none .none (.int k t) (by rcases hk with rfl | rfl <;> simp) ?_ (by rw [List.size_toArray, ← hlen]; exact hz)
    have fin : ∀ {ys : List V} {us : List Value}, Vals ys us → ys.length ≤ sizeLine → (∀ p, H2 p = none → Q (.ref p) (upd H2 p (.lst ys))) → EP X pins σ Q (.ref (s2.heap.push { cls := .type "slice", data := .fields #[.none, .none, .int k t] }).objs.size)
        { s2 with heap := (s2.heap.push { cls := .type "slice", data := .fields #[.none, .none, .int k t] }).push { cls := .type "list", data := .seq us.toArray } } := fun {ys us} r z g =>
      ⟨.ref _, upd H2 _ (.lst ys), I3.laid (t' := s2.toks) (fun b o z => Heap.get?_push_of_some _ z) (Nat.le_refl _) ⟨z, us, 0, r, Heap.get?_push_size _ rfl⟩, rfl, g _ (I3.hok.fresh (Nat.le_refl _))⟩
    rcases hk with rfl | rfl
    · rw [pick_one]
      exact fin rv hz fun p hp => q p hp
    · rw [PySem.W.krv_pick]
      exact fin (Vals.rev rv) (by rw [List.length_reverse]; exact hz) fun p hp => q p hp
/-- a text many times -/
abbrev oMulS : R2 := fun x y H Q => ∃ z, ∃ k : Nat, x = .str z ∧ y = .int (k : Int) ∧ z.length = 1 ∧ k ≤ 1000 ∧ Q (.str (PySem.Txt.mul z (k : Int))) H
theorem op_mulS : OpR X (binaryOp .Mult) oMulS := by
  intro pins s σ H x y v u Q I rx ry h
  obtain ⟨z, k, rfl, rfl, hz, hk, q⟩ := h
  obtain ⟨t, rfl⟩ := rx
  obtain ⟨t2, rfl⟩ := ry
  refine PySem.SB.mul ⟨?_, fun h1 _ h3 => ?_, fun h1 _ => ?_⟩ fun t3 j => ⟨.str _, H, I.kept (t' := j) fun _ _ z => z, ⟨t3, rfl⟩, q⟩
  · rw [Bool.or_eq_false_iff, decide_eq_false_iff_not, decide_eq_false_iff_not]
    omega
  · have h4 : (1 : Int) ≤ (2 ^ 63 - 1) / (k : Int) := (Int.le_ediv_iff_mul_le (by omega)).mpr (by omega)
    rw [hz] at h3
    omega
  · rw [hz]
    unfold PySem.Builtin.Str.tooLong
    rw [decide_eq_false_iff_not, sizeLine_eq]
    omega
end
end Cd

set_option Elab.async false
set_option linter.all false
set_option maxRecDepth 100000
set_option maxHeartbeats 4000000
namespace Cd
open PySem PySem.Spec PyProof.Rows L2
def sk (k : Nat) : Str := Str.ofString (toString (k : Int))
/-- read back -/
def skVal (z : Str) : Nat := z.cps.toList.foldl (fun n c => n * 10 + (c - 48)) 0
theorem sk_facts : ∀ k, k < 402 → skVal (sk k) = k ∧ (sk k).length ≤ 3 ∧ PyData.strOk (sk k) = true := by decide +kernel
def sa : Str := Str.ofString "a"
theorem fold_reps (x : Array Nat) : ∀ (n : Nat) (acc : Array Nat), ((List.replicate n x).foldl (· ++ ·) acc).toList = acc.toList ++ (List.replicate n x.toList).flatten
  | 0, acc => by simp
  | n + 1, acc => by rw [List.replicate_succ, List.foldl_cons, fold_reps x n, List.replicate_succ, List.flatten_cons, Array.toList_append, List.append_assoc]
theorem mul_sa (k : Nat) : (PySem.Txt.mul sa (k : Int)).cps.toList = List.replicate k 97 := by
  have ha : sa.cps = #[97] := by decide +kernel
  unfold PySem.Txt.mul
  by_cases h1 : (k : Int) < 1
  · rw [if_pos h1]
    have : k = 0 := by omega
    subst this; rfl
  · rw [if_neg h1]
    by_cases h2 : ((k : Int) == 1 || sa.length == 0) = true
    · rw [if_pos h2]
      have h3 : sa.length = 1 := by decide +kernel
      rw [h3] at h2
      have e1 : (k : Int) = 1 := by simpa using h2
      have : k = 1 := by omega
      subst this
      rw [ha]; rfl
    · rw [if_neg h2]
      show ((List.replicate (k : Int).toNat sa.cps).foldl (· ++ ·) #[]).toList = _
      rw [fold_reps, ha, Int.toNat_natCast]
      simp
/-- a hand of the law's, by one of three ways -/
def handAt (way : Nat) (base : Str) (k : Nat) : Str := match way with
  | 0 => base ++ sk k
  | 1 => sk k ++ base
  | _ => PySem.Txt.mul sa (k : Int) ++ base
theorem app_cps (x y : Str) : (x ++ y).cps = x.cps ++ y.cps := rfl
theorem app_len (x y : Str) : (x ++ y).length = x.length + y.length := by
  show (x.cps ++ y.cps).size = _
  rw [Array.size_append]; rfl
theorem str_ext {x y : Str} (h : x.cps = y.cps) : x = y := by
  cases x; cases y; cases h; rfl
theorem app_left {x y z : Str} (h : x ++ y = x ++ z) : y = z := by
  have e := congrArg Str.cps h
  rw [app_cps, app_cps] at e
  apply str_ext
  have := congrArg Array.toList e
  rw [Array.toList_append, Array.toList_append] at this
  exact Array.toList_inj.mp (List.append_cancel_left this)
theorem app_right {x y z : Str} (h : x ++ z = y ++ z) : x = y := by
  have e := congrArg Str.cps h
  rw [app_cps, app_cps] at e
  apply str_ext
  have := congrArg Array.toList e
  rw [Array.toList_append, Array.toList_append] at this
  exact Array.toList_inj.mp (List.append_cancel_right this)
theorem sk_inj {i j : Nat} (hi : i < 402) (hj : j < 402) (h : sk i = sk j) : i = j := by
  rw [← (sk_facts i hi).1, ← (sk_facts j hj).1, h]
theorem mul_len (k : Nat) : (PySem.Txt.mul sa (k : Int)).length = k := by
  have := congrArg List.length (mul_sa k)
  rw [List.length_replicate] at this
  simpa [Str.length] using this
theorem hand_inj {way : Nat} {base : Str} {i j : Nat} (hi : i < 402) (hj : j < 402) (h : handAt way base i = handAt way base j) : i = j := by
  unfold handAt at h
  split at h
  · exact sk_inj hi hj (app_left h)
  · exact sk_inj hi hj (app_right h)
  · have e := congrArg Str.length (app_right h)
    rw [mul_len, mul_len] at e
    exact e
theorem nodup_of_inj {α β : Type} {f : α → β} : ∀ {l : List α}, l.Nodup → (∀ x ∈ l, ∀ y ∈ l, f x = f y → x = y) → (l.map f).Nodup
  | [], _, _ => List.nodup_nil
  | a :: l, h, g => by
    rw [List.nodup_cons] at h
    rw [List.map_cons, List.nodup_cons]
    refine ⟨fun m => ?_, nodup_of_inj h.2 fun x hx y hy => g x (List.mem_cons_of_mem _ hx) y (List.mem_cons_of_mem _ hy)⟩
    obtain ⟨b, hb, e⟩ := List.mem_map.mp m
    have := g b (List.mem_cons_of_mem _ hb) a List.mem_cons_self e
    rw [this] at hb
    exact h.1 hb
theorem hands_nodup (way : Nat) (base : Str) {m : Nat} (hm : m ≤ 402) : ((List.range m).map (handAt way base)).Nodup := by
  refine nodup_of_inj List.nodup_range fun x hx y hy e => hand_inj ?_ ?_ e
  · have := List.mem_range.mp hx; omega
  · have := List.mem_range.mp hy; omega

theorem ok_app {x y : Str} (h : PyData.strOk x = true) (h' : PyData.strOk y = true) : PyData.strOk (x ++ y) = true := by
  unfold PyData.strOk at *
  rw [app_cps, Array.all_append, h, h']; rfl
theorem ok_mul (k : Nat) : PyData.strOk (PySem.Txt.mul sa (k : Int)) = true := by
  unfold PyData.strOk
  rw [← Array.all_toList, mul_sa, List.all_eq_true]
  intro x hx
  rw [List.eq_of_mem_replicate hx]
  decide
/-- the law's own text: a few signs -/
structure Base (z : Str) : Prop where
  len : z.length ≤ 5
  ok : PyData.strOk z = true
theorem hand_ok {way : Nat} {base : Str} (b : Base base) {k : Nat} (hk : k < 402) : PyData.strOk (handAt way base k) = true := by
  unfold handAt
  split
  · exact ok_app b.ok (sk_facts k hk).2.2
  · exact ok_app (sk_facts k hk).2.2 b.ok
  · exact ok_app (ok_mul k) b.ok
/-- single signs, one behind the other -/
theorem glue_len : ∀ (cs : List Nat) (acc : Array Nat), (((cs.map fun c => (⟨#[c]⟩ : Str))).foldl (fun a p => a ++ (Str.ofString "").cps ++ p.cps) acc).size = acc.size + cs.length
  | [], acc => by simp
  | c :: cs, acc => by
    rw [List.map_cons, List.foldl_cons, glue_len cs, List.length_cons]
    simp [show (Str.ofString "").cps = #[] by decide +kernel]
    omega
theorem glue_ok : ∀ (cs : List Nat) (acc : Array Nat), acc.all (· < 0x110000) = true → (∀ c ∈ cs, c < 0x110000) → (((cs.map fun c => (⟨#[c]⟩ : Str))).foldl (fun a p => a ++ (Str.ofString "").cps ++ p.cps) acc).all (· < 0x110000) = true
  | [], acc, h, _ => h
  | c :: cs, acc, h, g => by
    rw [List.map_cons, List.foldl_cons]
    refine glue_ok cs _ ?_ fun x hx => g x (List.mem_cons_of_mem _ hx)
    rw [show (Str.ofString "").cps = #[] by decide +kernel, Array.append_empty, Array.all_append, h]
    simp [g c List.mem_cons_self]
theorem base_of {cs : List Nat} (h5 : cs.length ≤ 5) (g : ∀ c ∈ cs, c < 0x110000) : Base (PySem.Txt.join (Str.ofString "") (cs.map fun c => (⟨#[c]⟩ : Str))) := by
  unfold PySem.Txt.join Builtin.Str.glued
  cases cs with
  | nil => exact ⟨by decide, by decide +kernel⟩
  | cons c cs =>
    rw [List.map_cons, List.drop_one, List.tail_cons, List.headD_cons]
    refine ⟨?_, ?_⟩
    · show Array.size _ ≤ 5
      rw [glue_len]
      rw [List.length_cons] at h5
      show 1 + cs.length ≤ 5
      omega
    · exact glue_ok cs _ (by simpa using g c List.mem_cons_self) fun x hx => g x (List.mem_cons_of_mem _ hx)
end Cd

set_option Elab.async false
set_option linter.all false
set_option maxRecDepth 100000
set_option maxHeartbeats 4000000
namespace Cd
open PySem PySem.Spec PyProof.Rows L2
/-! ### texts without the sign e -/
def noE (z : Str) : Prop := 101 ∉ z.cps.toList
theorem noE_app {x y : Str} (h : noE x) (h' : noE y) : noE (x ++ y) := by
  unfold noE at *
  rw [app_cps, Array.toList_append, List.mem_append]
  rintro (z | z)
  · exact h z
  · exact h' z
theorem sk_noE : ∀ k, k < 402 → noE (sk k) := by
  have : ∀ k, k < 402 → (sk k).cps.toList.contains 101 = false := by decide +kernel
  intro k hk z
  have h := this k hk
  rw [← Bool.not_eq_true, List.contains_iff_mem] at h
  exact h z
theorem mul_noE (k : Nat) : noE (PySem.Txt.mul sa (k : Int)) := by
  unfold noE
  rw [mul_sa]
  intro z
  have := List.eq_of_mem_replicate z
  omega
theorem glue_mem : ∀ (cs : List Nat) (acc : Array Nat) (x : Nat), x ∈ (((cs.map fun c => (⟨#[c]⟩ : Str))).foldl (fun a p => a ++ (Str.ofString "").cps ++ p.cps) acc).toList → x ∈ acc.toList ∨ x ∈ cs
  | [], acc, x, h => .inl h
  | c :: cs, acc, x, h => by
    rw [List.map_cons, List.foldl_cons] at h
    rcases glue_mem cs _ x h with h | h
    · rw [show (Str.ofString "").cps = #[] by decide +kernel, Array.append_empty, Array.toList_append, List.mem_append] at h
      rcases h with h | h
      · exact .inl h
      · refine .inr ?_
        have : x = c := by simpa using h
        rw [this]; exact List.mem_cons_self
    · exact .inr (List.mem_cons_of_mem _ h)
theorem join_noE {cs : List Nat} (h : ∀ c ∈ cs, c ≠ 101) : noE (PySem.Txt.join (Str.ofString "") (cs.map fun c => (⟨#[c]⟩ : Str))) := by
  unfold PySem.Txt.join Builtin.Str.glued noE
  cases cs with
  | nil => decide +kernel
  | cons c cs =>
    rw [List.map_cons, List.drop_one, List.tail_cons, List.headD_cons]
    intro z
    rcases glue_mem cs _ 101 z with z | z
    · have : 101 = c := by simpa using z
      exact h c List.mem_cons_self this.symm
    · exact h 101 (List.mem_cons_of_mem _ z) rfl
theorem hand_noE {way : Nat} {base : Str} (b : noE base) {k : Nat} (hk : k < 402) : noE (handAt way base k) := by
  unfold handAt
  split
  · exact noE_app b (sk_noE k hk)
  · exact noE_app (sk_noE k hk) b
  · exact noE_app (mul_noE k) b
/-- who comes: e stands within -/
def cam (k : Nat) : Str := Str.ofString "came" ++ sk k
theorem cam_e (k : Nat) : ¬ noE (cam k) := by
  unfold noE cam
  rw [app_cps, Array.toList_append, Classical.not_not]
  exact List.mem_append_left _ (by decide +kernel)
theorem cam_inj {i j : Nat} (hi : i < 402) (hj : j < 402) (h : cam i = cam j) : i = j := sk_inj hi hj (app_left h)
theorem cam_ok {k : Nat} (hk : k < 402) : PyData.strOk (cam k) = true := ok_app (by decide +kernel) (sk_facts k hk).2.2
end Cd

set_option Elab.async false
set_option linter.all false
set_option maxRecDepth 100000
set_option maxHeartbeats 2000000
namespace Cd
open PySem PySem.Spec PyProof.Rows L2
open Evl (Ex sq_of ex_l sz_of sz_lt fresh_back)
/-! ### the law's own chance: one number in a list -/
def StOk (s : Int) : Prop := 0 ≤ s ∧ s < 4294967296
def StAt (H : Hp) (p : Addr) : Prop := ∃ s, StOk s ∧ H p = some (.lst [.int s])
/-- all but the number stays -/
def Run (p : Addr) (H H' : Hp) : Prop := (∀ b o, b ≠ p → H b = some o → H' b = some o) ∧ StAt H' p
theorem Run.refl {p : Addr} {H : Hp} (h : StAt H p) : Run p H H := ⟨fun _ _ _ e => e, h⟩
theorem Run.trans {p : Addr} {H H1 H2 : Hp} (a : Run p H H1) (b : Run p H1 H2) : Run p H H2 := ⟨fun c o n e => b.1 c o n (a.1 c o n e), b.2⟩
theorem StAt.ex {p : Addr} {H H' : Hp} (h : StAt H p) (e : Ex H H') : StAt H' p := by
  obtain ⟨s, h1, h2⟩ := h
  exact ⟨s, h1, e _ _ h2⟩
theorem Run.ex {p : Addr} {H H' : Hp} (h : StAt H p) (e : Ex H H') : Run p H H' := ⟨fun b o _ x => e b o x, h.ex e⟩
theorem Run.new {p q : Addr} {H H' : Hp} {o : HO} (r : Run p H H') (h : H' q = none) : Run p H (upd H' q o) := r.trans (Run.ex r.2 (Ex.new h))
theorem Run.free {p q : Addr} {H H' : Hp} (r : Run p H H') (h : H' q = none) : H q = none := by
  cases e : H q with
  | none => rfl
  | some o =>
    by_cases n : q = p
    · obtain ⟨s, _, h2⟩ := r.2
      rw [← n, h] at h2; cases h2
    · rw [r.1 q o n e] at h; cases h
theorem StAt.ne {p q : Addr} {H : Hp} (h : StAt H p) (n : H q = none) : q ≠ p := fun e => by
  obtain ⟨s, _, h2⟩ := h
  rw [e, h2] at n; cases n
theorem Run.keep {p q : Addr} {H H' : Hp} {o : HO} (r : Run p H H') (n : q ≠ p) (e : H q = some o) : H' q = some o := r.1 q o n e
theorem pos0 {j : Int} (h : 0 < j) : 0 < j := h
theorem at0 {v : V} {xs : List V} : atI (v :: xs) 0 = some v := by simp [atI, ixN]
def t_next (K : PySem.W.Frag) : TS :=
(tSeq (tAsg (tOp oMod (tOp oAdd (tOp oMul (tOp (rIxL K) (tVar 0) (tC (.int 0))) (tC (.int 48271))) (tC (.int 11))) (tC (.int 2147483647))) (gSub (tVar 0) (tC (.int 0)) rSetL))
  (tRet (tOp oFdiv (tOp oMod (tOp oMul (tOp (rIxL K) (tVar 0) (tC (.int 0))) (tOp (rIxL K) (tVar 0) (tC (.int 0)))) (tC (.int 2147483629))) (tC (.int 7)))))
def sNext : Sp := fun vs H Q _ => ∃ p, vs = [.ref p] ∧ StAt H p ∧ ∀ H' n, Run p H H' → 0 ≤ n → n < 306783376 → Q (.int n) H'
theorem pure_next {K : PySem.W.Frag} {vs : List V} {H : Hp} {Q : VK} {E : XK} {nx : L2.St → Hp → Prop} (h : sNext vs H Q E) : t_next K { nx := nx, rt := Q } (start ["_law_state_here"] vs) H := by
  obtain ⟨p, rfl, ⟨s, hs, hp⟩, q⟩ := h
  have b1 : 0 ≤ (s * 48271 + 11) % 2147483647 := Int.emod_nonneg _ (by decide)
  have b2 : (s * 48271 + 11) % 2147483647 < 2147483647 := Int.emod_lt_of_pos _ (by decide)
  generalize hz : (s * 48271 + 11) % 2147483647 = z at b1 b2
  refine ⟨_, rfl, p, _, 0, _, rfl, rfl, sq_of hp, at0, _, _, rfl, rfl, .inr ⟨by decide, by decide⟩, _, _, rfl, rfl, _, _, rfl, rfl, pos0 (by decide), ?_⟩
  dsimp only
  rw [hz]
  refine ⟨_, rfl, p, _, 0, 0, rfl, rfl, hp, rfl, ?_⟩
  have hq : (upd H p (.lst [.int z])) p = some (.lst [.int z]) := upd_same
  refine ⟨_, rfl, p, _, 0, _, rfl, rfl, sq_of hq, at0, _, rfl, p, _, 0, _, rfl, rfl, sq_of hq, at0, _, _, rfl, rfl, .inl ⟨by omega, by omega⟩, _, _, rfl, rfl, pos0 (by decide), _, _, rfl, rfl, ⟨by decide, by decide⟩, ?_⟩
  have c1 : 0 ≤ z * z % 2147483629 := Int.emod_nonneg _ (by decide)
  have c2 : z * z % 2147483629 < 2147483629 := Int.emod_lt_of_pos _ (by decide)
  refine q _ _ ⟨fun b o n e => ?_, z, ⟨b1, by omega⟩, hq⟩ (by omega) (by omega)
  show upd H p (.lst [.int z]) b = some o
  rw [upd_ne n]
  exact e

def t_cell (K : PySem.W.Frag) : TS :=
(tSeq (tIfS (tTest (tOp oLt (tVar 1) (tCB (rLenL K) (tCons (tVar 0) tNil))))
  (tRet (tOp (rIxL K) (tVar 0) (tVar 1)))
  tNext)
  (tRet (tC (.int 0))))
def sCell (K : PySem.W.Frag) : Sp := fun vs H Q _ => ∃ l ns, ∃ j : Nat, vs = [.ref l, .int (j : Int)] ∧ SqL K H l (List.map V.int ns) ∧ ∀ z : Int, Q (.int z) H
theorem pure_cell {K : PySem.W.Frag} {vs : List V} {H : Hp} {Q : VK} {E : XK} {nx : L2.St → Hp → Prop} (h : sCell K vs H Q E) : t_cell K { nx := nx, rt := Q } (start ["_law_script", "_law_k"] vs) H := by
  obtain ⟨l, ns, j, rfl, hl, q⟩ := h
  refine ⟨_, rfl, _, rfl, l, _, rfl, .inl hl, _, _, rfl, rfl, _, rfl, ite2 (fun e => ?_) (fun e => ?_)⟩
  · have e1 := of_decide_eq_true e
    rw [List.length_map] at e1
    have e2 : j < ns.length := by omega
    refine ⟨_, rfl, _, rfl, l, _, _, .int ns[j], rfl, rfl, hl, atI_nat ?_, q _⟩
    rw [List.getElem?_map, List.getElem?_eq_getElem e2]; rfl
  · exact q 0
def t_state (K : PySem.W.Frag) : TS :=
(tRet (tLst (tCons (tOp oAdd (tOp oAdd (tC (.int 1)) (tOp oMod (tCall (sCell K) [] E0 (tCons (tVar 0) (tCons (tVar 1) tNil))) (tC (.int 2147483646)))) (tOp oMod (tCall (sCell K) [] E0 (tCons (tVar 0) (tCons (tOp oAdd (tVar 1) (tC (.int 1))) tNil))) (tC (.int 1000003)))) tNil)))
def sState (K : PySem.W.Frag) : Sp := fun vs H Q _ => ∃ l ns, ∃ j : Nat, vs = [.ref l, .int (j : Int)] ∧ SqL K H l (List.map V.int ns) ∧ ∀ p H', H p = none → Ex H H' → StAt H' p → Q (.ref p) H'
theorem pure_state {K : PySem.W.Frag} {vs : List V} {H : Hp} {Q : VK} {E : XK} {nx : L2.St → Hp → Prop} (h : sState K vs H Q E) : t_state K { nx := nx, rt := Q } (start ["_law_script", "_law_first"] vs) H := by
  obtain ⟨l, ns, j, rfl, hl, q⟩ := h
  refine ⟨_, rfl, _, rfl, l, ns, j, rfl, hl, fun z => ?_⟩
  refine ⟨_, _, rfl, rfl, pos0 (by decide), _, _, rfl, rfl, _, rfl, _, rfl, _, _, rfl, rfl, l, ns, j + 1, rfl, hl, fun y => ?_⟩
  refine ⟨_, _, rfl, rfl, pos0 (by decide), _, _, rfl, rfl, ?_⟩
  have a1 : 0 ≤ z % 2147483646 := Int.emod_nonneg _ (by decide)
  have a2 : z % 2147483646 < 2147483646 := Int.emod_lt_of_pos _ (by decide)
  have b1 : 0 ≤ y % 1000003 := Int.emod_nonneg _ (by decide)
  have b2 : y % 1000003 < 1000003 := Int.emod_lt_of_pos _ (by decide)
  refine ⟨(by decide : 1 ≤ sizeLine), fun p hp => q p _ hp (Evl.Ex.new hp) ⟨_, ⟨?_, ?_⟩, upd_same⟩⟩
  · omega
  · omega
def t_of (K : PySem.W.Frag) : TS :=
(tRet (tOp (rIx K) (tVar 1) (tOp oMod (tCall sNext [] E0 (tCons (tVar 0) tNil)) (tCB (rLenV K) (tCons (tVar 1) tNil)))))
/-- one of some things in a list, one of the signs of a text -/
def sOf : Sp := fun vs H Q _ => ∃ p x, vs = [.ref p, x] ∧ StAt H p ∧
  ((∃ l xs, x = .ref l ∧ l ≠ p ∧ H l = some (.lst xs) ∧ 0 < xs.length ∧ ∀ H' v, Run p H H' → v ∈ xs → Q v H') ∨
   (∃ z : Str, x = .str z ∧ 0 < z.length ∧ z.length ≤ 100000 ∧ ∀ H' c, Run p H H' → c ∈ z.cps.toList → Q (.str ⟨#[c]⟩) H'))
theorem at_mod {α : Type} {xs : List α} {n : Int} (h : 0 < xs.length) : ∃ v, v ∈ xs ∧ atI xs (n % (xs.length : Int)) = some v := by
  have h1 : 0 ≤ n % (xs.length : Int) := Int.emod_nonneg _ (by omega)
  have h2 : n % (xs.length : Int) < xs.length := Int.emod_lt_of_pos _ (by omega)
  obtain ⟨k, hk⟩ : ∃ k : Nat, n % (xs.length : Int) = (k : Int) := ⟨(n % (xs.length : Int)).toNat, by omega⟩
  have h3 : k < xs.length := by omega
  refine ⟨xs[k], List.getElem_mem h3, ?_⟩
  rw [hk]
  unfold atI ixN
  rw [if_pos (by omega), if_pos (by omega)]
  show xs[(k : Int).toNat]? = _
  rw [Int.toNat_natCast, List.getElem?_eq_getElem h3]
theorem pure_of {K : PySem.W.Frag} {vs : List V} {H : Hp} {Q : VK} {E : XK} {nx : L2.St → Hp → Prop} (h : sOf vs H Q E) : t_of K { nx := nx, rt := Q } (start ["_law_state_here", "_law_some"] vs) H := by
  obtain ⟨p, x, rfl, hst, ⟨l, xs, rfl, nl, hl, hx, q⟩ | ⟨z, rfl, hz, hz2, q⟩⟩ := h
  · refine ⟨_, rfl, _, rfl, p, rfl, hst, fun H1 n r n0 n1 => ?_⟩
    have hl1 := sq_of (K := K) (r.keep nl hl)
    refine ⟨_, rfl, _, _, rfl, .inl ⟨xs, hl1, rfl⟩, _, _, rfl, rfl, pos0 (by omega), ?_⟩
    obtain ⟨v, hv, e⟩ := at_mod (n := n) hx
    exact .inl ⟨l, xs, _, v, rfl, rfl, hl1, e, q H1 v r hv⟩
  · refine ⟨_, rfl, _, rfl, p, rfl, hst, fun H1 n r n0 n1 => ?_⟩
    refine ⟨_, rfl, _, _, rfl, ⟨sz_of hz2, rfl⟩, _, _, rfl, rfl, pos0 (by omega), ?_⟩
    have e0 : z.length = z.cps.toList.length := by simp [Str.length]
    obtain ⟨c, hc, e⟩ := at_mod (n := n) (xs := z.cps.toList) (by omega)
    rw [← e0] at e
    exact .inr (.inr ⟨z, _, c, rfl, rfl, sz_of hz2, e, q H1 c r hc⟩)
def t_turned (K : PySem.W.Frag) : TS :=
(tSeq (tAsg (tOp oMod (tVar 1) (tCB (rLenL K) (tCons (tVar 0) tNil))) (gName 1))
  (tRet (tOp rCat (tSl (rSlL K) (tVar 0) (tPart (tVar 1)) tNoPart) (tSl (rSlL K) (tVar 0) tNoPart (tPart (tVar 1))))))
def sTurned : Sp := fun vs H Q _ => ∃ l xs, ∃ m : Int, vs = [.ref l, .int m] ∧ H l = some (.lst xs) ∧ 0 < xs.length ∧ xs.length ≤ 100000 ∧
  ∀ q H', H q = none → Ex H H' → H' q = some (.lst (Jos.rot xs (m % (xs.length : Int)).toNat)) → Q (.ref q) H'
theorem cut_from {xs : List V} {k : Nat} (h : k ≤ xs.length) : cutV xs (some (k : Int)) none = xs.drop k := by
  unfold cutV
  rw [show HT.sIx xs.length 0 (some (k : Int)) = min k xs.length from HT.sIx_nat xs.length 0 k, HT.sIx_none, Nat.min_eq_left h]
  apply List.take_of_length_le
  rw [List.length_drop]
  exact Nat.le_refl _
theorem cut_to {xs : List V} {k : Nat} (h : k ≤ xs.length) : cutV xs none (some (k : Int)) = xs.take k := by
  unfold cutV
  rw [show HT.sIx xs.length xs.length (some (k : Int)) = min k xs.length from HT.sIx_nat xs.length xs.length k, HT.sIx_none, Nat.min_eq_left h]
  simp
theorem pure_turned {K : PySem.W.Frag} {vs : List V} {H : Hp} {Q : VK} {E : XK} {nx : L2.St → Hp → Prop} (h : sTurned vs H Q E) : t_turned K { nx := nx, rt := Q } (start ["_law_row", "_law_many"] vs) H := by
  obtain ⟨l, xs, m, rfl, hl, h0, hz, q⟩ := h
  have h1 : 0 ≤ m % (xs.length : Int) := Int.emod_nonneg _ (by omega)
  have h2 : m % (xs.length : Int) < xs.length := Int.emod_lt_of_pos _ (by omega)
  obtain ⟨k, hk⟩ : ∃ k : Nat, m % (xs.length : Int) = (k : Int) := ⟨(m % (xs.length : Int)).toNat, by omega⟩
  have hkl : k ≤ xs.length := by omega
  refine ⟨_, rfl, _, rfl, l, xs, rfl, .inl (sq_of hl), _, _, rfl, rfl, pos0 (by omega), ?_⟩
  dsimp only
  rw [hk]
  refine ⟨_, rfl, _, rfl, _, rfl, l, xs, rfl, sq_of hl, fun a na => ?_⟩
  have e1 : Ex H (upd H a (.lst (cutV xs (some (k : Int)) none))) := Evl.Ex.new na
  refine ⟨_, rfl, _, rfl, _, rfl, l, xs, rfl, sq_of (e1 _ _ hl), fun b nb => ?_⟩
  have e2 : Ex (upd H a (.lst (cutV xs (some (k : Int)) none))) (upd (upd H a (.lst (cutV xs (some (k : Int)) none))) b (.lst (cutV xs none (some (k : Int))))) := Evl.Ex.new nb
  refine ⟨a, b, _, _, rfl, rfl, e2 _ _ upd_same, upd_same, ?_, fun c nc => ?_⟩
  · rw [cut_from hkl, cut_to hkl, List.length_drop, List.length_take]
    exact sz_of (by omega)
  · have e3 := Evl.Ex.new (o := .lst (cutV xs (some (k : Int)) none ++ cutV xs none (some (k : Int)))) nc
    refine q c _ (fresh_back e1 (fresh_back e2 nc)) (e1.trans (e2.trans e3)) ?_
    rw [upd_same, hk, cut_from hkl, cut_to hkl, Int.toNat_natCast]
    rfl

/-! ### going round hand by hand -/
def t_out (K : PySem.W.Frag) : TS :=
(tSeq (tAsg (tLst tNil) (gName 2))
  (tSeq (tAsg (tCB (rListOf K) (tCons (tVar 0) tNil)) (gName 3))
  (tSeq (tWhile (tTest (tOp (rEqF K true) (tVar 3) (tLst tNil)))
  (tSeq (tAsg (tVar 1) (gName 4))
  (tSeq (tIfS (tTest (tOp oGt (tVar 1) (tOp oMul (tC (.int 3)) (tCB (rLenL K) (tCons (tVar 3) tNil)))))
  (tAsg (tOp oAdd (tOp oMod (tVar 1) (tCB (rLenL K) (tCons (tVar 3) tNil))) (tOp oMul (tC (.int 2)) (tCB (rLenL K) (tCons (tVar 3) tNil)))) (gName 4))
  tNext)
  (tSeq (tWhile (tTest (tOp oGt (tVar 4) (tC (.int 1))))
  (tSeq (tDrop (tBM K "list" rAppend (tVar 3) (tCons (tBM K "list" rPopAt (tVar 3) (tCons (tC (.int 0)) tNil)) tNil)))
  (tAsg (tOp oSub (tVar 4) (tC (.int 1))) (gName 4))))
  (tDrop (tBM K "list" rAppend (tVar 2) (tCons (tBM K "list" rPopAt (tVar 3) (tCons (tC (.int 0)) tNil)) tNil)))))))
  (tRet (tVar 2)))))
def sOut (K : PySem.W.Frag) : Sp := fun vs H Q _ => ∃ l xs, ∃ d : Int, vs = [.ref l, .int d] ∧ SqL K H l xs ∧ xs.length ≤ 1000 ∧ xs.all plain = true ∧ 1 ≤ d ∧
  ∀ q H', H q = none → Ex H H' → H' q = some (.lst (Jos.out (d - 1).toNat xs.length xs)) → Q (.ref q) H'
theorem ty_l {K : PySem.W.Frag} {H : Hp} {p : Addr} {xs : List V} (h : H p = some (.lst xs)) : tyV K "list" (.ref p) H := .inl ⟨rfl, _, sq_of h⟩
theorem rotN_plain {k : Nat} {l : List V} (h : l.all plain = true) : (Jos.rotN k l).all plain = true := by
  rw [List.all_eq_true] at h ⊢
  exact fun x hx => h x ((Jos.rotN_perm k l).mem_iff.mp hx)
/-- what stays: H, the two lists -/
structure OutAt (H H' : Hp) (f w : Addr) (done left : List V) : Prop where
  ex : Ex H H'
  nf : H f = none
  nw : H w = none
  ne : w ≠ f
  hf : H' f = some (.lst done)
  hw : H' w = some (.lst left)
theorem OutAt.setw {H H' : Hp} {f w : Addr} {done left ys : List V} (o : OutAt H H' f w done left) : OutAt H (upd H' w (.lst ys)) f w done ys :=
  ⟨Evl.Ex.mut o.ex o.nw, o.nf, o.nw, o.ne, by rw [upd_ne o.ne.symm]; exact o.hf, upd_same⟩
theorem OutAt.setf {H H' : Hp} {f w : Addr} {done left ys : List V} (o : OutAt H H' f w done left) : OutAt H (upd H' f (.lst ys)) f w ys left :=
  ⟨Evl.Ex.mut o.ex o.nf, o.nf, o.nw, o.ne, upd_same, by rw [upd_ne o.ne]; exact o.hw⟩
theorem OutAt.new {H H' : Hp} {f w q : Addr} {done left : List V} {u : HO} (o : OutAt H H' f w done left) (h : H' q = none) : OutAt H (upd H' q u) f w done left :=
  ⟨o.ex.trans (Evl.Ex.new h), o.nf, o.nw, o.ne, Evl.Ex.new h _ _ o.hf, Evl.Ex.new h _ _ o.hw⟩
theorem seq0 {n : Nat} (h : 0 < n) : seqIndex? 0 n = some 0 := by
  unfold seqIndex?
  simp
  omega
theorem pure_out {K : PySem.W.Frag} {vs : List V} {H : Hp} {Q : VK} {E : XK} {nx : L2.St → Hp → Prop} (h : sOut K vs H Q E) : t_out K { nx := nx, rt := Q } (start ["_law_row", "_law_step_here", "_law_found", "_law_left", "_law_told"] vs) H := by
  obtain ⟨l, xs, d, rfl, hl, hz, hp, hd, q⟩ := h
  refine ⟨Nat.zero_le _, fun f nf => ?_⟩
  have e1 : Ex H (upd H f (.lst [])) := Evl.Ex.new nf
  refine ⟨_, rfl, l, xs, rfl, .inl (ex_l e1 hl), fun w nw => ?_⟩
  have e2 : Ex (upd H f (.lst [])) (upd (upd H f (.lst [])) w (.lst xs)) := Evl.Ex.new nw
  have o0 : OutAt H (upd (upd H f (.lst [])) w (.lst xs)) f w [] xs := ⟨e1.trans e2, nf, fresh_back e1 nw, fun e => (by rw [e, upd_same] at nw; cases nw), e2 _ _ upd_same, upd_same⟩
  refine ⟨fun m σ H' => ∃ done left y4, σ = [some (.ref l), some (.int d), some (.ref f), some (.ref w), y4] ∧ m = left.length ∧ OutAt H H' f w done left ∧ left.length ≤ 1000 ∧ done.length + left.length ≤ 1000 ∧ left.all plain = true ∧
    done ++ Jos.out (d - 1).toNat left.length left = Jos.out (d - 1).toNat xs.length xs, ⟨xs.length, [], xs, none, rfl, rfl, o0, hz, by simpa using hz, hp, rfl⟩, ?_⟩
  intro m σ H' hW
  obtain ⟨done, left, y4, rfl, rfl, o, hz1, hz2, hpl, ho⟩ := hW
  refine ⟨_, rfl, Nat.zero_le _, fun c nc => ?_⟩
  have oc := o.new (u := .lst []) nc
  refine ⟨w, c, left, [], rfl, rfl, sq_of oc.hw, sq_of upd_same, hpl, rfl, _, rfl, ?_⟩
  cases left with
  | nil =>
    refine iteF ?_
    refine ⟨_, rfl, ?_⟩
    rw [← ho, List.length_nil, Jos.out, List.append_nil] at q
    exact q f _ nf oc.ex oc.hf
  | cons x0 r0 =>
    generalize hleft : x0 :: r0 = left at *
    have hpos : 0 < left.length := by rw [← hleft]; simp
    have hne : left ≠ [] := by rw [← hleft]; simp
    refine if_pos (show (if true = true then !decide (left = []) else decide (left = [])) = true by simp [hne]) ▸ ?_
    refine ⟨fun σ2 H2 => ∃ m', m' < left.length ∧ ∃ done' left' y4, σ2 = [some (.ref l), some (.int d), some (.ref f), some (.ref w), y4] ∧ m' = left'.length ∧ OutAt H H2 f w done' left' ∧ left'.length ≤ 1000 ∧ done'.length + left'.length ≤ 1000 ∧ left'.all plain = true ∧
      done' ++ Jos.out (d - 1).toNat left'.length left' = Jos.out (d - 1).toNat xs.length xs, fun _ _ h => h, ?_⟩
    generalize (upd H' c (.lst [])) = Hc at oc
    -- told = step, or what is left of it
    have key : ∀ (t : Int), 1 ≤ t → (t - 1).toNat % left.length = (d - 1).toNat % left.length → (tSeq (tWhile (tTest (tOp oGt (tVar 4) (tC (.int 1))))
      (tSeq (tDrop (tBM K "list" rAppend (tVar 3) (tCons (tBM K "list" rPopAt (tVar 3) (tCons (tC (.int 0)) tNil)) tNil)))
      (tAsg (tOp oSub (tVar 4) (tC (.int 1))) (gName 4))))
      (tDrop (tBM K "list" rAppend (tVar 2) (tCons (tBM K "list" rPopAt (tVar 3) (tCons (tC (.int 0)) tNil)) tNil))))
      { nx := fun σ2 H2 => ∃ m', m' < left.length ∧ ∃ done' left' y4, σ2 = [some (.ref l), some (.int d), some (.ref f), some (.ref w), y4] ∧ m' = left'.length ∧ OutAt H H2 f w done' left' ∧ left'.length ≤ 1000 ∧ done'.length + left'.length ≤ 1000 ∧ left'.all plain = true ∧
      done' ++ Jos.out (d - 1).toNat left'.length left' = Jos.out (d - 1).toNat xs.length xs, rt := Q } [some (.ref l), some (.int d), some (.ref f), some (.ref w), some (.int t)] Hc := by
      intro t ht hm
      have hrot : Jos.rotN (t - 1).toNat left = Jos.rotN (d - 1).toNat left := Jos.rotN_congr hm
      refine ⟨fun m σ3 H3 => ∃ s left', σ3 = [some (.ref l), some (.int d), some (.ref f), some (.ref w), some (.int s)] ∧ 1 ≤ s ∧ m = s.toNat ∧ OutAt H H3 f w done left' ∧ left'.length = left.length ∧ Jos.rotN (s - 1).toNat left' = Jos.rotN (d - 1).toNat left,
        ⟨t.toNat, t, left, rfl, ht, rfl, oc, rfl, hrot⟩, ?_⟩
      intro m σ3 H3 hW
      obtain ⟨s, left', rfl, hs, rfl, o3, hl3, hr3⟩ := hW
      refine ⟨_, rfl, _, _, rfl, rfl, _, rfl, ite2 (fun e => ?_) (fun e => ?_)⟩
      · have hs1 : 1 < s := of_decide_eq_true e
        refine ⟨fun σ4 H4 => ∃ m', m' < s.toNat ∧ ∃ s left', σ4 = [some (.ref l), some (.int d), some (.ref f), some (.ref w), some (.int s)] ∧ 1 ≤ s ∧ m' = s.toNat ∧ OutAt H H4 f w done left' ∧ left'.length = left.length ∧ Jos.rotN (s - 1).toNat left' = Jos.rotN (d - 1).toNat left, fun _ _ h => h, ?_⟩
        cases left' with
        | nil => simp at hl3; omega
        | cons x r =>
          refine ⟨_, rfl, ty_l o3.hw, _, rfl, ty_l o3.hw, w, x :: r, 0, 0, x, rfl, rfl, o3.hw, by omega, by omega, seq0 (by simp), rfl, ?_⟩
          have o4 : OutAt H (upd H3 w (.lst ((x :: r).eraseIdx 0))) f w done r := o3.setw
          refine ⟨w, r, x, rfl, rfl, o4.hw, sz_lt (by simp at hl3; omega), ?_⟩
          refine ⟨_, rfl, _, _, rfl, rfl, ?_⟩
          refine ⟨(s - 1).toNat, by omega, s - 1, r ++ [x], rfl, by omega, rfl, o4.setw, by simp at hl3 ⊢; omega, ?_⟩
          rw [← hr3, show (s - 1).toNat = (s - 1 - 1).toNat + 1 by omega]
          rfl
      · have hs1 : ¬ 1 < s := fun z => e (decide_eq_true z)
        have es : (s - 1).toNat = 0 := by omega
        rw [es] at hr3
        have hr4 : left' = Jos.rotN (d - 1).toNat left := hr3
        cases left' with
        | nil => simp at hl3; omega
        | cons x r =>
          refine ⟨_, rfl, ty_l o3.hf, _, rfl, ty_l o3.hw, w, x :: r, 0, 0, x, rfl, rfl, o3.hw, by omega, by omega, seq0 (by simp), rfl, ?_⟩
          have o4 : OutAt H (upd H3 w (.lst ((x :: r).eraseIdx 0))) f w done r := o3.setw
          refine ⟨f, done, x, rfl, rfl, o4.hf, sz_lt (by omega), ?_⟩
          simp only [List.length_cons] at hl3
          refine ⟨r.length, by omega, done ++ [x], r, _, rfl, rfl, o4.setf, by omega, by simp; omega, ?_, ?_⟩
          · have h1 := rotN_plain (k := (d - 1).toNat) hpl
            rw [← hr4, List.all_cons, Bool.and_eq_true] at h1
            exact h1.2
          · rw [← ho, List.append_assoc]
            congr 1
            rw [← hl3, Jos.out, ← hr4]
            rfl
    refine ⟨_, rfl, ?_⟩
    refine ⟨_, rfl, _, rfl, w, left, rfl, .inl (sq_of oc.hw), _, _, rfl, rfl, .inl ⟨by decide, by decide⟩, _, _, rfl, rfl, _, rfl, ite2 (fun e => ?_) (fun e => ?_)⟩
    · have e1 : 3 * (left.length : Int) < d := of_decide_eq_true e
      refine ⟨_, rfl, _, rfl, w, left, rfl, .inl (sq_of oc.hw), _, _, rfl, rfl, pos0 (by omega), _, rfl, w, left, rfl, .inl (sq_of oc.hw), _, _, rfl, rfl, .inl ⟨by decide, by decide⟩, _, _, rfl, rfl, ?_⟩
      have c1 : 0 ≤ d % (left.length : Int) := Int.emod_nonneg _ (by omega)
      have c2 : d % (left.length : Int) < left.length := Int.emod_lt_of_pos _ (by omega)
      refine key _ (by omega) ?_
      apply Int.ofNat.inj
      show (((d % (left.length : Int) + 2 * (left.length : Int) - 1).toNat % left.length : Nat) : Int) = (((d - 1).toNat % left.length : Nat) : Int)
      rw [Int.natCast_emod, Int.natCast_emod, Int.toNat_of_nonneg (by omega), Int.toNat_of_nonneg (by omega)]
      rw [show d % (left.length : Int) + 2 * (left.length : Int) - 1 = (d % (left.length : Int) - 1) + (left.length : Int) * 2 by omega, Int.add_mul_emod_self_left, Int.emod_sub_emod]
    · exact key d hd rfl
end Cd

set_option Elab.async false
set_option linter.all false
set_option maxRecDepth 100000
set_option maxHeartbeats 2000000
namespace Cd
open PySem PySem.Spec PyProof.Rows L2
open Evl (Ex sq_of ex_l sz_of sz_lt fresh_back)
def t_step : TS :=
(tRet (tCall sOf [] E0 (tCons (tVar 0) (tCons (tLst (tCons (tC (.int 1)) (tCons (tC (.int 2)) (tCons (tC (.int 3)) (tCons (tOp oAdd (tC (.int 1)) (tOp oMod (tCall sNext [] E0 (tCons (tVar 0) tNil)) (tC (.int 12)))) (tCons (tOp oAdd (tC (.int 1)) (tOp oMod (tCall sNext [] E0 (tCons (tVar 0) tNil)) (tVar 1))) (tCons (tVar 1) tNil))))))) tNil))))
def sStep : Sp := fun vs H Q _ => ∃ p, ∃ m : Int, vs = [.ref p, .int m] ∧ StAt H p ∧ 12 ≤ m ∧ ∀ H' d, Run p H H' → 1 ≤ d → d ≤ m → Q (.int d) H'
theorem pure_step {vs : List V} {H : Hp} {Q : VK} {E : XK} {nx : L2.St → Hp → Prop} (h : sStep vs H Q E) : t_step { nx := nx, rt := Q } (start ["_law_state_here", "_law_most"] vs) H := by
  obtain ⟨p, m, rfl, hst, hm, q⟩ := h
  refine ⟨_, rfl, ?_⟩
  refine ⟨_, rfl, p, rfl, hst, fun H1 n1 r1 n10 n11 => ?_⟩
  refine ⟨_, _, rfl, rfl, pos0 (by decide), _, _, rfl, rfl, _, rfl, p, rfl, r1.2, fun H2 n2 r2 n20 n21 => ?_⟩
  refine ⟨_, rfl, _, _, rfl, rfl, pos0 (by omega), _, _, rfl, rfl, _, rfl, (by decide : 6 ≤ sizeLine), fun l nl => ?_⟩
  have r := r1.trans r2
  refine ⟨p, .ref l, rfl, r2.2.ex (Evl.Ex.new nl), .inl ⟨l, _, rfl, r2.2.ne nl, upd_same, by simp, fun H3 v r3 hv => ?_⟩⟩
  have a1 : 0 ≤ n1 % 12 := Int.emod_nonneg _ (by decide)
  have a2 : n1 % 12 < 12 := Int.emod_lt_of_pos _ (by decide)
  have b1 : 0 ≤ n2 % m := Int.emod_nonneg _ (by omega)
  have b2 : n2 % m < m := Int.emod_lt_of_pos _ (by omega)
  have rr := (r.new nl).trans r3
  simp only [List.mem_cons, List.not_mem_nil, or_false] at hv
  rcases hv with rfl | rfl | rfl | rfl | rfl | rfl <;> exact q H3 _ rr (by omega) (by omega)
/-! ### kinds of things -/
/-- a thing of a told kind -/
def isI : V → Bool
  | .int _ => true
  | _ => false
def Typ (K : PySem.W.Frag) (H : Hp) (x : V) : Prop := ∃ T : String, TyX K H x (.type T) ∧ T ∈ ["NoneType", "bool", "int", "str", "list", "tuple", "dict"] ∧ (T = "int" ↔ isI x = true)
theorem Typ.int {K : PySem.W.Frag} {H : Hp} {i : Int} : Typ K H (.int i) := ⟨"int", .base (.int i), by decide, by simp [isI]⟩
theorem Typ.non {K : PySem.W.Frag} {H : Hp} : Typ K H .non := ⟨"NoneType", .base .non, by decide, by simp [isI]⟩
theorem Typ.bl {K : PySem.W.Frag} {H : Hp} {b : Bool} : Typ K H (.bl b) := ⟨"bool", .base (.bl b), by decide, by simp [isI]⟩
theorem Typ.str {K : PySem.W.Frag} {H : Hp} {x : Str} : Typ K H (.str x) := ⟨"str", .base (.str x), by decide, by simp [isI]⟩
theorem Typ.lst {K : PySem.W.Frag} {H : Hp} {a : Addr} {xs : List V} (h : H a = some (.lst xs)) : Typ K H (.ref a) := ⟨"list", .base (.lst h), by decide, by simp [isI]⟩
theorem Typ.tup {K : PySem.W.Frag} {H : Hp} {a : Addr} {xs : List V} (h : H a = some (.tup xs)) : Typ K H (.ref a) := ⟨"tuple", .base (.tup h), by decide, by simp [isI]⟩
theorem Typ.dic {K : PySem.W.Frag} {H : Hp} {a : Addr} {xs : List (Key × V)} (h : H a = some (.dK xs)) : Typ K H (.ref a) := ⟨"dict", .base (.dK h), by decide, by simp [isI]⟩
def whB (x : V) (lo hi : Int) : Bool := match x with
  | .int i => decide (lo ≤ i) && decide (i ≤ hi)
  | _ => false
def t_is_whole (K : PySem.W.Frag) : TS :=
(tRet (tAndV (tCB (rIsi K) (tCons (tVar 0) (tCons (tC (.ty "int")) tNil))) (tAndV (tNotV (tCB (rIsi K) (tCons (tVar 0) (tCons (tC (.ty "bool")) tNil)))) (tChain oLe oLe (tVar 1) (tVar 0) (tVar 2)))))
def sIsW (K : PySem.W.Frag) : Sp := fun vs H Q _ => ∃ x, ∃ lo hi : Int, vs = [x, .int lo, .int hi] ∧ Typ K H x ∧ Q (.bl (whB x lo hi)) H
theorem pure_is_whole {K : PySem.W.Frag} {vs : List V} {H : Hp} {Q : VK} {E : XK} {nx : L2.St → Hp → Prop} (h : sIsW K vs H Q E) : t_is_whole K { nx := nx, rt := Q } (start ["thing", "low", "high"] vs) H := by
  obtain ⟨x, lo, hi, rfl, ⟨T, hT, hm, hI⟩, q⟩ := h
  simp only [List.mem_cons, List.not_mem_nil, or_false] at hm
  by_cases e : T = "int"
  · subst e
    have hx := hI.mp rfl
    cases x <;> first | (simp [isI] at hx; done) | skip
    rename_i i
    refine ⟨_, rfl, _, _, _, _, true, rfl, .ty "int", hT, kit_ty (by decide +kernel), true, rfl, iteT ?_⟩
    refine ⟨_, rfl, _, _, _, _, false, rfl, .ty "bool", hT, kit_ty (by decide +kernel), false, rfl, true, rfl, iteT ?_⟩
    refine ⟨_, rfl, _, rfl, _, _, rfl, rfl, _, rfl, ite2 (fun e1 => ?_) (fun e1 => ?_)⟩
    · refine ⟨_, rfl, _, _, rfl, rfl, ?_⟩
      have e2 : whB (.int i) lo hi = decide (i ≤ hi) := by
        show (decide (lo ≤ i) && decide (i ≤ hi)) = _
        rw [e1, Bool.true_and]
      rw [e2] at q
      exact q
    · have e2 : whB (.int i) lo hi = false := by
        show (decide (lo ≤ i) && decide (i ≤ hi)) = _
        rw [Bool.eq_false_iff.mpr e1, Bool.false_and]
      rw [e2] at q
      exact q
  · have hx : isI x = false := by
      cases h : isI x with
      | false => rfl
      | true => exact absurd (hI.mpr h) e
    have hw : whB x lo hi = false := by cases x <;> first | rfl | (simp [isI] at hx; done)
    rw [hw] at q
    by_cases eb : T = "bool"
    · subst eb
      refine ⟨_, rfl, _, _, _, _, true, rfl, .ty "int", hT, kit_ty (by decide +kernel), true, rfl, iteT ?_⟩
      exact ⟨_, rfl, _, _, _, _, true, rfl, .ty "bool", hT, kit_ty (by decide +kernel), true, rfl, false, rfl, iteF q⟩
    · refine ⟨_, rfl, _, _, _, _, false, rfl, .ty "int", hT, kit_ty ?_, false, rfl, iteF q⟩
      rcases hm with rfl | rfl | rfl | rfl | rfl | rfl | rfl <;> first | exact absurd rfl e | exact absurd rfl eb | decide +kernel
def t_whole (K : PySem.W.Frag) : TS :=
(tRet (tAndV (tCB (rIsi K) (tCons (tVar 0) (tCons (tC (.ty "int")) tNil))) (tNotV (tCB (rIsi K) (tCons (tVar 0) (tCons (tC (.ty "bool")) tNil))))))
def sWhole : Sp := fun vs H Q _ => ∃ i : Int, vs = [.int i] ∧ Q (.bl true) H
theorem pure_whole {K : PySem.W.Frag} {vs : List V} {H : Hp} {Q : VK} {E : XK} {nx : L2.St → Hp → Prop} (h : sWhole vs H Q E) : t_whole K { nx := nx, rt := Q } (start ["_law_found"] vs) H := by
  obtain ⟨i, rfl, q⟩ := h
  refine ⟨_, rfl, _, _, _, _, true, rfl, .ty "int", .base (.int i), kit_ty (by decide +kernel), true, rfl, iteT ?_⟩
  exact ⟨_, rfl, _, _, _, _, false, rfl, .ty "bool", .base (.int i), kit_ty (by decide +kernel), false, rfl, q⟩
end Cd

set_option Elab.async false
set_option linter.all false
set_option maxRecDepth 100000
set_option maxHeartbeats 2000000
namespace Cd
open PySem PySem.Spec PyProof.Rows L2
open Evl (Ex sq_of ex_l sz_of sz_lt fresh_back)
/-! ### which numbers are taken -/
def t_check_many (K : PySem.W.Frag) (C : Addr) (E : XK) : TS :=
(tIfS (tNot (tB (tCall (sIsW K) [] E0 (tCons (tVar 0) (tCons (tC (.int 1)) (tCons (tVar 1) tNil))))))
  (tRaise C E)
  tNext)
/-- from 1 on (many, step) -/
def sCk1 (K : PySem.W.Frag) (C : Addr) : Sp := fun vs H Q E => ∃ x, ∃ hi : Int, vs = [x, .int hi] ∧ Typ K H x ∧ (whB x 1 hi = true → Q .non H) ∧ (whB x 1 hi = false → E (.ref C) none H)
theorem pure_ck1 {K : PySem.W.Frag} {C : Addr} {N : List Str} {vs : List V} {H : Hp} {Q : VK} {E : XK} (hN : N.length = 2) (h : sCk1 K C vs H Q E) : t_check_many K C E { nx := fun _ H' => Q .non H', rt := Q } (start N vs) H := by
  obtain ⟨x, hi, rfl, ht, q1, q2⟩ := h
  have e : L2.start N [x, .int hi] = [some x, some (.int hi)] := by simp [L2.start, hN]
  rw [e]
  refine ⟨_, rfl, _, rfl, x, 1, hi, rfl, ht, _, rfl, ?_⟩
  cases hw : whB x 1 hi with
  | true => exact iteF (q1 hw)
  | false => exact iteT (q2 hw)
def t_check_place (K : PySem.W.Frag) (C : Addr) (E : XK) : TS :=
(tIfS (tNot (tB (tCall (sIsW K) [] E0 (tCons (tVar 0) (tCons (tC (.int 0)) (tCons (tOp oSub (tVar 1) (tC (.int 1))) tNil))))))
  (tRaise C E)
  tNext)
def sCkP (K : PySem.W.Frag) (C : Addr) : Sp := fun vs H Q E => ∃ x, ∃ m : Int, vs = [x, .int m] ∧ Typ K H x ∧ (whB x 0 (m - 1) = true → Q .non H) ∧ (whB x 0 (m - 1) = false → E (.ref C) none H)
theorem pure_check_place {K : PySem.W.Frag} {C : Addr} {vs : List V} {H : Hp} {Q : VK} {E : XK} (h : sCkP K C vs H Q E) : t_check_place K C E { nx := fun _ H' => Q .non H', rt := Q } (start ["place", "many"] vs) H := by
  obtain ⟨x, m, rfl, ht, q1, q2⟩ := h
  refine ⟨_, rfl, _, rfl, _, _, rfl, rfl, x, 0, m - 1, rfl, ht, _, rfl, ?_⟩
  cases hw : whB x 0 (m - 1) with
  | true => exact iteF (q1 hw)
  | false => exact iteT (q2 hw)
def t_check_count (K : PySem.W.Frag) (C : Addr) (E : XK) : TS :=
(tIfS (tNot (tB (tCall (sIsW K) [] E0 (tCons (tVar 0) (tCons (tVar 1) (tCons (tVar 2) tNil))))))
  (tRaise C E)
  tNext)
def sCkC (K : PySem.W.Frag) (C : Addr) : Sp := fun vs H Q E => ∃ x, ∃ lo hi : Int, vs = [x, .int lo, .int hi] ∧ Typ K H x ∧ (whB x lo hi = true → Q .non H) ∧ (whB x lo hi = false → E (.ref C) none H)
theorem pure_check_count {K : PySem.W.Frag} {C : Addr} {vs : List V} {H : Hp} {Q : VK} {E : XK} (h : sCkC K C vs H Q E) : t_check_count K C E { nx := fun _ H' => Q .non H', rt := Q } (start ["count", "low", "high"] vs) H := by
  obtain ⟨x, lo, hi, rfl, ht, q1, q2⟩ := h
  refine ⟨_, rfl, _, rfl, _, rfl, x, lo, hi, rfl, ht, _, rfl, ?_⟩
  cases hw : whB x lo hi with
  | true => exact iteF (q1 hw)
  | false => exact iteT (q2 hw)
theorem wh_int {x : V} {lo hi : Int} (h : whB x lo hi = true) : ∃ i : Int, x = .int i ∧ lo ≤ i ∧ i ≤ hi := by
  cases x <;> first | (simp [whB] at h; done) | skip
  rename_i i
  rw [whB, Bool.and_eq_true, decide_eq_true_eq, decide_eq_true_eq] at h
  exact ⟨i, rfl, h.1, h.2⟩
theorem wh_of {i lo hi : Int} (h1 : lo ≤ i) (h2 : i ≤ hi) : whB (.int i) lo hi = true := by
  rw [whB, Bool.and_eq_true, decide_eq_true_eq, decide_eq_true_eq]; exact ⟨h1, h2⟩
/-! ### rings told by numbers -/
def big : Int := 1000000000000000000000000000000000000000000000000000000000000
def t_check_ring (K : PySem.W.Frag) (CM CS CP : Addr) (E : XK) : TS :=
(tSeq (tDrop (tCall (sCk1 K CM) [] E (tCons (tVar 0) (tCons (tC (.int (1000000000000000000000000000000000000000000000000000000000000))) tNil))))
  (tSeq (tDrop (tCall (sCk1 K CS) [] E (tCons (tVar 1) (tCons (tC (.int (100))) tNil))))
  (tDrop (tCall (sCkP K CP) [] E (tCons (tVar 2) (tCons (tVar 0) tNil))))))
/-- many, step, begin: the first refusal that is due -/
@[irreducible] def sRing (K : PySem.W.Frag) (CM CS CP : Addr) : Sp := fun vs H Q E => ∃ m d b, vs = [m, d, b] ∧ Typ K H m ∧ Typ K H d ∧ Typ K H b ∧
  (whB m 1 big = false → E (.ref CM) none H) ∧ (∀ n : Int, m = .int n → 1 ≤ n → n ≤ big →
    (whB d 1 100 = false → E (.ref CS) none H) ∧ (whB d 1 100 = true → (whB b 0 (n - 1) = false → E (.ref CP) none H) ∧ (whB b 0 (n - 1) = true → Q .non H)))
theorem pure_check_ring {K : PySem.W.Frag} {CM CS CP : Addr} {vs : List V} {H : Hp} {Q : VK} {E : XK} (h : sRing K CM CS CP vs H Q E) : t_check_ring K CM CS CP E { nx := fun _ H' => Q .non H', rt := Q } (start ["many", "step", "begin"] vs) H := by
  unfold sRing at h
  obtain ⟨m, d, b, rfl, tm, td, tb, q0, q⟩ := h
  refine ⟨_, rfl, m, _, rfl, tm, fun h1 => ?_, fun h1 => q0 h1⟩
  obtain ⟨n, rfl, n1, n2⟩ := wh_int h1
  have q := q n rfl n1 n2
  refine ⟨_, rfl, d, _, rfl, td, fun h2 => ?_, fun h2 => q.1 h2⟩
  have q := q.2 h2
  exact ⟨_, rfl, _, rfl, b, n, rfl, tb, fun h3 => q.2 h3, fun h3 => q.1 h3⟩
/-! the count of a place -/
/-- many m, step d, from number n on: the number at which the one who is told n goes -/
def goN (m d : Nat) : Nat → Nat → Nat
  | 0, n => n
  | f + 1, n => if n % d = 0 then n else goN m d f (m + n - n / d)
def t_count_of (K : PySem.W.Frag) (CM CS CP : Addr) (E : XK) : TS :=
(tSeq (tDrop (tCall (sRing K CM CS CP) [] E (tCons (tVar 0) (tCons (tVar 1) (tCons (tVar 2) tNil)))))
  (tSeq (tDrop (tCall (sCkP K CP) [] E (tCons (tVar 3) (tCons (tVar 0) tNil))))
  (tSeq (tAsg (tOp oAdd (tOp oMod (tOp oSub (tVar 3) (tVar 2)) (tVar 0)) (tC (.int 1))) (gName 4))
  (tSeq (tWhile (tTest (tOp rNe (tOp oMod (tVar 4) (tVar 1)) (tC (.int 0))))
  (tAsg (tOp oSub (tOp oAdd (tVar 0) (tVar 4)) (tOp oFdiv (tVar 4) (tVar 1))) (gName 4)))
  (tRet (tOp oFdiv (tVar 4) (tVar 1)))))))
/-- refused likewise: the ring's three, then what stands behind -/
def sRef (K : PySem.W.Frag) (CM CS CP : Addr) (m d b : V) (H : Hp) (E : XK) (ok : Int → Int → Int → Prop) : Prop :=
  Typ K H m ∧ Typ K H d ∧ Typ K H b ∧
  (whB m 1 big = false → E (.ref CM) none H) ∧ (∀ n : Int, m = .int n → 1 ≤ n → n ≤ big →
    (whB d 1 100 = false → E (.ref CS) none H) ∧ (∀ s : Int, d = .int s → 1 ≤ s → s ≤ 100 → (whB b 0 (n - 1) = false → E (.ref CP) none H) ∧ (∀ g : Int, b = .int g → 0 ≤ g → g < n → ok n s g)))
theorem sRef.ring {K : PySem.W.Frag} {CM CS CP : Addr} {m d b : V} {H : Hp} {Q : VK} {E : XK} {ok : Int → Int → Int → Prop} (h : sRef K CM CS CP m d b H E ok)
    (k : ∀ n s g : Int, m = .int n → d = .int s → b = .int g → 1 ≤ n → n ≤ big → 1 ≤ s → s ≤ 100 → 0 ≤ g → g < n → ok n s g → Q .non H) : sRing K CM CS CP [m, d, b] H Q E := by
  obtain ⟨tm, td, tb, q0, q⟩ := h
  unfold sRing
  refine ⟨m, d, b, rfl, tm, td, tb, q0, fun n en n1 n2 => ⟨(q n en n1 n2).1, fun hd => ?_⟩⟩
  obtain ⟨s, es, s1, s2⟩ := wh_int hd
  have q := (q n en n1 n2).2 s es s1 s2
  refine ⟨q.1, fun hb => ?_⟩
  obtain ⟨g, eg, g1, g2⟩ := wh_int hb
  exact k n s g en es eg n1 n2 s1 s2 g1 (by omega) (q.2 g eg g1 (by omega))
@[irreducible] def sCount (K : PySem.W.Frag) (CM CS CP : Addr) : Sp := fun vs H Q E => ∃ m d b x, vs = [m, d, b, x] ∧ Typ K H x ∧ sRef K CM CS CP m d b H E fun n s g =>
  (whB x 0 (n - 1) = false → E (.ref CP) none H) ∧ ∀ p : Nat, x = .int (p : Int) → (p : Int) < n → ∀ c : Nat, (Jos.order s.toNat n.toNat g.toNat)[c]? = some p → Q (.int ((c : Int) + 1)) H
theorem pure_count_of {K : PySem.W.Frag} {CM CS CP : Addr} {vs : List V} {H : Hp} {Q : VK} {E : XK} (h : sCount K CM CS CP vs H Q E) : t_count_of K CM CS CP E { nx := fun _ H' => Q .non H', rt := Q } (start ["many", "step", "begin", "place", "number"] vs) H := by
  unfold sCount at h
  obtain ⟨m, d, b, x, rfl, tx, h⟩ := h
  refine ⟨_, rfl, _, rfl, _, rfl, ?_⟩
  show sRing K CM CS CP [m, d, b] H _ E
  refine h.ring fun n s g em es eg n1 n2 s1 s2 g1 g2 ok => ?_
  subst em es eg
  refine ⟨_, rfl, _, rfl, x, n, rfl, tx, fun hx => ?_, fun hx => ok.1 hx⟩
  obtain ⟨p', rfl, p1, p2⟩ := wh_int hx
  obtain ⟨p, rfl⟩ : ∃ p : Nat, p' = (p : Int) := ⟨p'.toNat, by omega⟩
  have ok := ok.2 p rfl (by omega)
  obtain ⟨M, rfl⟩ : ∃ M : Nat, n = (M : Int) := ⟨n.toNat, by omega⟩
  obtain ⟨D, rfl⟩ : ∃ D : Nat, s = (D : Int) := ⟨s.toNat, by omega⟩
  obtain ⟨B, rfl⟩ : ∃ B : Nat, g = (B : Int) := ⟨g.toNat, by omega⟩
  simp only [Int.toNat_natCast] at ok
  have hD : 0 < D := by omega
  refine ⟨_, rfl, _, rfl, _, _, rfl, rfl, _, rfl, _, _, rfl, rfl, pos0 (by omega), _, _, rfl, rfl, ?_⟩
  -- the first number
  obtain ⟨N0, hN0, h0l, h0t⟩ : ∃ N0 : Nat, ((p : Int) - (B : Int)) % (M : Int) + 1 = (N0 : Int) ∧ 1 ≤ N0 ∧ N0 ≤ M ∧ Jos.told D (Jos.ring M B) N0 = some p := by
    have c1 : 0 ≤ ((p : Int) - (B : Int)) % (M : Int) := Int.emod_nonneg _ (by omega)
    have c2 : ((p : Int) - (B : Int)) % (M : Int) < M := Int.emod_lt_of_pos _ (by omega)
    refine ⟨(((p : Int) - (B : Int)) % (M : Int) + 1).toNat, by omega, by omega, by omega, ?_⟩
    rw [Jos.told_first hD (by omega) (by rw [Jos.ring_len]; omega), Jos.ring_get (by omega) (by omega)]
    congr 1
    apply Int.ofNat.inj
    show (((B + ((((p : Int) - (B : Int)) % (M : Int) + 1).toNat - 1)) % M : Nat) : Int) = (p : Int)
    rw [show B + ((((p : Int) - (B : Int)) % (M : Int) + 1).toNat - 1) = B + (((p : Int) - (B : Int)) % (M : Int)).toNat by omega, Int.natCast_emod, Int.natCast_add, Int.toNat_of_nonneg c1, Int.add_emod_emod, show (B : Int) + ((p : Int) - (B : Int)) = (p : Int) by omega]
    exact Int.emod_eq_of_lt (by omega) (by omega)
  dsimp only
  rw [hN0]
  have hMD : M ≤ M * D := Nat.le_mul_of_pos_right M hD
  refine ⟨fun μ σ H' => ∃ N : Nat, σ = [some (.int (M : Int)), some (.int (D : Int)), some (.int (B : Int)), some (.int (p : Int)), some (.int (N : Int))] ∧ H' = H ∧ μ = M * D - N ∧ 1 ≤ N ∧ N ≤ M * D ∧ Jos.told D (Jos.ring M B) N = some p,
    ⟨M * D - N0, N0, rfl, rfl, rfl, h0l, by omega, h0t.2⟩, ?_⟩
  intro μ σ H' hW
  obtain ⟨N, rfl, rfl, rfl, hN1, hN2, hN3⟩ := hW
  refine ⟨_, rfl, _, rfl, _, _, rfl, rfl, pos0 (by omega), rfl, _, rfl, ?_⟩
  refine iteC (fun e => ?_) (fun e => ?_)
  rotate_left
  · have hz : N % D = 0 := by
      rw [Bool.not_eq_false', decide_eq_true_eq] at e
      have z := V.int.inj e
      rw [← Int.natCast_emod] at z
      omega
    refine ⟨_, rfl, _, rfl, _, _, rfl, rfl, ⟨by omega, by omega⟩, ?_⟩
    dsimp only
    rw [← Int.natCast_ediv]
    have hq := Nat.div_add_mod N D
    rw [hz, Nat.add_zero] at hq
    have q1 : 0 < N / D := Nat.div_pos (Nat.le_of_dvd (by omega) (Nat.dvd_of_mod_eq_zero hz)) hD
    have q2 : N / D ≤ M := Nat.div_le_of_le_mul (by rw [Nat.mul_comm]; exact hN2)
    have k := ok (N / D - 1) (by
      rw [Jos.order_told hD (by omega), show (N / D - 1 + 1) * D = N by rw [show N / D - 1 + 1 = N / D by omega, Nat.mul_comm]; exact hq]
      exact hN3)
    rw [show ((N / D : Nat) : Int) = ((N / D - 1 : Nat) : Int) + 1 by omega]
    exact k
  · have hz : N % D ≠ 0 := by
      rw [Bool.not_eq_true', decide_eq_false_iff_not] at e
      intro z
      exact e (by show V.int ((N : Int) % (D : Int)) = V.int 0; rw [← Int.natCast_emod, z]; rfl)
    obtain ⟨l1, l2, l3⟩ := Jos.leap_up hD hN2 hz
    refine ⟨fun σ' H'' => ∃ m', m' < M * D - N ∧ ∃ N : Nat, σ' = [some (.int (M : Int)), some (.int (D : Int)), some (.int (B : Int)), some (.int (p : Int)), some (.int (N : Int))] ∧ H'' = H' ∧ m' = M * D - N ∧ 1 ≤ N ∧ N ≤ M * D ∧ Jos.told D (Jos.ring M B) N = some p, fun _ _ h => h, ?_⟩
    refine ⟨_, rfl, _, rfl, _, _, rfl, rfl, _, rfl, _, rfl, _, _, rfl, rfl, ⟨by omega, by omega⟩, _, _, rfl, rfl, ?_⟩
    refine ⟨M * D - (M + N - N / D), by omega, M + N - N / D, ?_, rfl, rfl, by omega, l2, ?_⟩
    · have e2 : (M : Int) + (N : Int) - (N : Int) / (D : Int) = ((M + N - N / D : Nat) : Int) := by
        rw [← Int.natCast_ediv]; omega
      dsimp only
      rw [e2]
      rfl
    · have := Jos.told_leap (l := Jos.ring M B) hD hN1 (by rw [Jos.ring_len]; exact hN2) hz
      rw [Jos.ring_len] at this
      rw [this]
      exact hN3
end Cd

set_option Elab.async false
set_option linter.all false
set_option maxRecDepth 100000
set_option maxHeartbeats 2000000
namespace Cd
open PySem PySem.Spec PyProof.Rows L2
open Evl (Ex sq_of ex_l sz_of sz_lt fresh_back)
def t_place_at : TS :=
(tSeq (tAsg (tOp oMul (tVar 3) (tVar 1)) (gName 4))
  (tSeq (tWhile (tTest (tOp oGt (tVar 4) (tVar 0)))
  (tSeq (tAsg (tOp oSub (tVar 4) (tVar 0)) (gName 5))
  (tAsg (tOp oAdd (tVar 5) (tOp oFdiv (tOp oSub (tVar 5) (tC (.int 1))) (tOp oSub (tVar 1) (tC (.int 1))))) (gName 4))))
  (tRet (tOp oMod (tOp oSub (tOp oAdd (tVar 2) (tVar 4)) (tC (.int 1))) (tVar 0)))))
def sPlace : Sp := fun vs H Q _ => ∃ M D B C : Nat, vs = [.int (M : Int), .int (D : Int), .int (B : Int), .int (C : Int)] ∧ 1 ≤ D ∧ D ≤ 100 ∧ B < M ∧ 1 ≤ C ∧ C ≤ M ∧
  ∀ p : Nat, (Jos.order D M B)[C - 1]? = some p → Q (.int (p : Int)) H
theorem pure_place_at {vs : List V} {H : Hp} {Q : VK} {E : XK} {nx : L2.St → Hp → Prop} (h : sPlace vs H Q E) : t_place_at { nx := nx, rt := Q } (start ["many", "step", "begin", "count", "number", "over"] vs) H := by
  obtain ⟨M, D, B, C, rfl, d1, d2, b1, c1, c2, q⟩ := h
  have hD : 0 < D := by omega
  refine ⟨_, rfl, _, rfl, _, _, rfl, rfl, .inr ⟨by omega, by omega⟩, ?_⟩
  have hCD : D ≤ C * D := Nat.le_mul_of_pos_left D (by omega)
  have hCM : C * D ≤ M * D := Nat.mul_le_mul_right D c2
  have hlen : (Jos.order D M B).length = M := Jos.order_len D M B
  obtain ⟨p, hp⟩ : ∃ p, (Jos.order D M B)[C - 1]? = some p := ⟨_, List.getElem?_eq_getElem (by omega)⟩
  have q := q p hp
  have ht : Jos.told D (Jos.ring M B) (C * D) = some p := by
    rw [Jos.order_told hD (by omega), show C - 1 + 1 = C by omega] at hp
    exact hp
  dsimp only
  rw [show (C : Int) * (D : Int) = ((C * D : Nat) : Int) by rw [Int.natCast_mul]]
  refine ⟨fun μ σ H' => ∃ N : Nat, ∃ y5, σ = [some (.int (M : Int)), some (.int (D : Int)), some (.int (B : Int)), some (.int (C : Int)), some (.int (N : Int)), y5] ∧ H' = H ∧ μ = N ∧ 1 ≤ N ∧ N ≤ M * D ∧ Jos.told D (Jos.ring M B) N = some p,
    ⟨C * D, C * D, none, rfl, rfl, rfl, by omega, hCM, ht⟩, ?_⟩
  intro μ σ H' hW
  obtain ⟨N, y5, rfl, rfl, hmu, hN1, hN2, hN3⟩ := hW
  refine ⟨_, rfl, _, rfl, _, _, rfl, rfl, _, rfl, iteC (fun e => ?_) (fun e => ?_)⟩
  · have e1 : (M : Int) < (N : Int) := of_decide_eq_true e
    obtain ⟨l0, l1, l2, l3, l4⟩ := Jos.leap_down hD (show M < N by omega) hN2
    refine ⟨fun σ' H'' => ∃ m', m' < μ ∧ ∃ N : Nat, ∃ y5, σ' = [some (.int (M : Int)), some (.int (D : Int)), some (.int (B : Int)), some (.int (C : Int)), some (.int (N : Int)), y5] ∧ H'' = H' ∧ m' = N ∧ 1 ≤ N ∧ N ≤ M * D ∧ Jos.told D (Jos.ring M B) N = some p, fun _ _ h => h, ?_⟩
    refine ⟨_, rfl, _, rfl, _, _, rfl, rfl, ?_⟩
    refine ⟨_, rfl, _, rfl, _, _, rfl, rfl, _, rfl, _, _, rfl, rfl, _, _, rfl, rfl, ⟨by omega, by omega⟩, _, _, rfl, rfl, ?_⟩
    refine ⟨N - M + (N - M - 1) / (D - 1), by omega, _, some (.int ((N : Int) - (M : Int))), ?_, rfl, rfl, l1, by omega, ?_⟩
    · have e2 : (N : Int) - (M : Int) + ((N : Int) - (M : Int) - 1) / ((D : Int) - 1) = ((N - M + (N - M - 1) / (D - 1) : Nat) : Int) := by
        rw [Int.natCast_add, Int.natCast_ediv]
        congr 1
        · omega
        · congr 1 <;> omega
      rw [← e2]
      rfl
    · have k := Jos.told_back (l := Jos.ring M B) hD (n := N) (by rw [Jos.ring_len]; omega) (by rw [Jos.ring_len]; exact hN2)
      rw [Jos.ring_len] at k
      rw [k]
      exact hN3
  · have e1 : ¬ (M : Int) < (N : Int) := of_decide_eq_false e
    refine ⟨_, rfl, _, rfl, _, _, rfl, rfl, _, _, rfl, rfl, _, rfl, _, _, rfl, rfl, pos0 (by omega), ?_⟩
    rw [Jos.told_first hD hN1 (by rw [Jos.ring_len]; omega), Jos.ring_get (by omega) (by omega)] at hN3
    have e2 := Option.some.inj hN3
    have e3 : ((B : Int) + (N : Int) - 1) % (M : Int) = (p : Int) := by
      rw [← e2, Int.natCast_emod, Int.natCast_add]
      congr 1
      omega
    dsimp only
    rw [e3]
    exact q
def t_goes_at (K : PySem.W.Frag) (CM CS CP CC : Addr) (E : XK) : TS :=
(tSeq (tDrop (tCall (sRing K CM CS CP) [] E (tCons (tVar 0) (tCons (tVar 1) (tCons (tVar 2) tNil)))))
  (tSeq (tDrop (tCall (sCkC K CC) [] E (tCons (tVar 3) (tCons (tC (.int 1)) (tCons (tVar 0) tNil)))))
  (tRet (tCall sPlace [] E0 (tCons (tVar 0) (tCons (tVar 1) (tCons (tVar 2) (tCons (tVar 3) tNil))))))))
@[irreducible] def sGoes (K : PySem.W.Frag) (CM CS CP CC : Addr) : Sp := fun vs H Q E => ∃ m d b x, vs = [m, d, b, x] ∧ Typ K H x ∧ sRef K CM CS CP m d b H E fun n s g =>
  (whB x 1 n = false → E (.ref CC) none H) ∧ ∀ c : Nat, x = .int (c : Int) → 1 ≤ c → (c : Int) ≤ n → ∀ p : Nat, (Jos.order s.toNat n.toNat g.toNat)[c - 1]? = some p → Q (.int (p : Int)) H
theorem pure_goes_at {K : PySem.W.Frag} {CM CS CP CC : Addr} {vs : List V} {H : Hp} {Q : VK} {E : XK} (h : sGoes K CM CS CP CC vs H Q E) : t_goes_at K CM CS CP CC E { nx := fun _ H' => Q .non H', rt := Q } (start ["many", "step", "begin", "count"] vs) H := by
  unfold sGoes at h
  obtain ⟨m, d, b, x, rfl, tx, h⟩ := h
  refine ⟨_, rfl, _, rfl, _, rfl, ?_⟩
  show sRing K CM CS CP [m, d, b] H _ E
  refine h.ring fun n s g em es eg n1 n2 s1 s2 g1 g2 ok => ?_
  subst em es eg
  refine ⟨_, rfl, _, rfl, x, 1, n, rfl, tx, fun hx => ?_, fun hx => ok.1 hx⟩
  obtain ⟨c', rfl, p1, p2⟩ := wh_int hx
  obtain ⟨c, rfl⟩ : ∃ c : Nat, c' = (c : Int) := ⟨c'.toNat, by omega⟩
  have ok := ok.2 c rfl (by omega) p2
  obtain ⟨M, rfl⟩ : ∃ M : Nat, n = (M : Int) := ⟨n.toNat, by omega⟩
  obtain ⟨D, rfl⟩ : ∃ D : Nat, s = (D : Int) := ⟨s.toNat, by omega⟩
  obtain ⟨B, rfl⟩ : ∃ B : Nat, g = (B : Int) := ⟨g.toNat, by omega⟩
  simp only [Int.toNat_natCast] at ok
  exact ⟨_, rfl, _, rfl, _, rfl, _, rfl, M, D, B, c, rfl, by omega, by omega, by omega, by omega, by omega, ok⟩
def t_last_of (K : PySem.W.Frag) (CM CS CP : Addr) (E : XK) : TS :=
(tSeq (tDrop (tCall (sRing K CM CS CP) [] E (tCons (tVar 0) (tCons (tVar 1) (tCons (tVar 2) tNil)))))
  (tRet (tCall sPlace [] E0 (tCons (tVar 0) (tCons (tVar 1) (tCons (tVar 2) (tCons (tVar 0) tNil)))))))
@[irreducible] def sLast (K : PySem.W.Frag) (CM CS CP : Addr) : Sp := fun vs H Q E => ∃ m d b, vs = [m, d, b] ∧ sRef K CM CS CP m d b H E fun n s g =>
  ∀ p : Nat, (Jos.order s.toNat n.toNat g.toNat)[n.toNat - 1]? = some p → Q (.int (p : Int)) H
theorem pure_last_of {K : PySem.W.Frag} {CM CS CP : Addr} {vs : List V} {H : Hp} {Q : VK} {E : XK} (h : sLast K CM CS CP vs H Q E) : t_last_of K CM CS CP E { nx := fun _ H' => Q .non H', rt := Q } (start ["many", "step", "begin"] vs) H := by
  unfold sLast at h
  obtain ⟨m, d, b, rfl, h⟩ := h
  refine ⟨_, rfl, _, rfl, _, rfl, ?_⟩
  show sRing K CM CS CP [m, d, b] H _ E
  refine h.ring fun n s g em es eg n1 n2 s1 s2 g1 g2 ok => ?_
  subst em es eg
  obtain ⟨M, rfl⟩ : ∃ M : Nat, n = (M : Int) := ⟨n.toNat, by omega⟩
  obtain ⟨D, rfl⟩ : ∃ D : Nat, s = (D : Int) := ⟨s.toNat, by omega⟩
  obtain ⟨B, rfl⟩ : ∃ B : Nat, g = (B : Int) := ⟨g.toNat, by omega⟩
  simp only [Int.toNat_natCast] at ok
  exact ⟨_, rfl, _, rfl, _, rfl, _, rfl, M, D, B, M, rfl, by omega, by omega, by omega, by omega, by omega, ok⟩
/-- right numbers: nothing is refused -/
theorem sRef.right {K : PySem.W.Frag} {CM CS CP : Addr} {M D B : Nat} {H : Hp} {E : XK} {ok : Int → Int → Int → Prop} (hM : (M : Int) ≤ big) (h1 : 1 ≤ D) (h2 : D ≤ 100) (h3 : B < M) (k : ok (M : Int) (D : Int) (B : Int)) :
    sRef K CM CS CP (.int (M : Int)) (.int (D : Int)) (.int (B : Int)) H E ok := by
  refine ⟨Typ.int, Typ.int, Typ.int, fun e => ?_, fun n en n1 n2 => ?_⟩
  · rw [wh_of (by omega) hM] at e; cases e
  · cases en
    refine ⟨fun e => ?_, fun s es s1 s2 => ?_⟩
    · rw [wh_of (by omega) (by omega)] at e; cases e
    · cases es
      refine ⟨fun e => ?_, fun g eg g1 g2 => ?_⟩
      · rw [wh_of (by omega) (by omega)] at e; cases e
      · cases eg
        exact k
end Cd

set_option Elab.async false
set_option linter.all false
set_option maxRecDepth 100000
set_option maxHeartbeats 2000000
namespace Cd
open PySem PySem.Spec PyProof.Rows L2
open Evl (Ex sq_of ex_l sz_of sz_lt fresh_back)
section
variable {K : PySem.W.Frag} {CM CS CP CC : Addr} {M D B P c : Nat} {H : Hp} {Q : VK} {E : XK}
theorem count_right (hM : (M : Int) ≤ big) (h1 : 1 ≤ D) (h2 : D ≤ 100) (h3 : B < M) (hc : (Jos.order D M B)[c]? = some P) (q : Q (.int ((c : Int) + 1)) H) : sCount K CM CS CP [.int (M : Int), .int (D : Int), .int (B : Int), .int (P : Int)] H Q E := by
  unfold sCount
  have hP : P < M := Jos.order_lt (List.mem_of_getElem? hc)
  refine ⟨_, _, _, _, rfl, Typ.int, sRef.right hM h1 h2 h3 ⟨fun e => ?_, fun p ep hp c' hc' => ?_⟩⟩
  · rw [wh_of (by omega) (by omega)] at e; cases e
  · have e1 : p = P := by have := V.int.inj ep; omega
    subst e1
    simp only [Int.toNat_natCast] at hc'
    rw [Jos.nodup_get (Jos.order_nodup D M B) hc' hc]
    exact q
theorem goes_right (hM : (M : Int) ≤ big) (h1 : 1 ≤ D) (h2 : D ≤ 100) (h3 : B < M) (hc : (Jos.order D M B)[c]? = some P) (q : Q (.int (P : Int)) H) : sGoes K CM CS CP CC [.int (M : Int), .int (D : Int), .int (B : Int), .int ((c : Int) + 1)] H Q E := by
  unfold sGoes
  have hl : c < M := by
    have := (List.getElem?_eq_some_iff.mp hc).1
    rw [Jos.order_len] at this; exact this
  refine ⟨_, _, _, _, rfl, Typ.int, sRef.right hM h1 h2 h3 ⟨fun e => ?_, fun c' ec h4 h5 p hp => ?_⟩⟩
  · rw [wh_of (by omega) (by omega)] at e; cases e
  · have e1 : c' = c + 1 := by have := V.int.inj ec; omega
    subst e1
    simp only [Int.toNat_natCast, Nat.add_sub_cancel] at hp
    rw [hc] at hp
    rw [← Option.some.inj hp]
    exact q
theorem last_right (hM : (M : Int) ≤ big) (h1 : 1 ≤ D) (h2 : D ≤ 100) (h3 : B < M) (hc : (Jos.order D M B)[M - 1]? = some P) (q : Q (.int (P : Int)) H) : sLast K CM CS CP [.int (M : Int), .int (D : Int), .int (B : Int)] H Q E := by
  unfold sLast
  refine ⟨_, _, _, rfl, sRef.right hM h1 h2 h3 fun p hp => ?_⟩
  simp only [Int.toNat_natCast] at hp
  rw [hc] at hp
  rw [← Option.some.inj hp]
  exact q
end
/-- over enumerate of a list that stays -/
theorem for_enum {K : PySem.W.Frag} {a : Addr} {xs : List V} {g : TG} {tb : TS} {D : Ends} {σ : L2.St} {H : Hp} (Pv : Nat → L2.St → Hp → Prop) (h0 : Pv 0 σ H) (hl : ∀ i σ H, i ≤ xs.length → Pv i σ H → SqL K H a xs)
    (hs : ∀ i x σ H T, xs[i]? = some x → Pv i σ H → H T = none → g (.ref T) σ (upd H T (.tup [.int (i : Nat), x])) fun σ2 H2 => tb { D with nx := Pv (i + 1), ct := Pv (i + 1), bk := D.nx } σ2 H2) (hd : ∀ σ H, Pv xs.length σ H → D.nx σ H) :
    ∃ W : Nat → Nat → L2.St → Hp → Prop, (∃ m, W 0 m σ H) ∧ ∀ i m σ H, W i m σ H →
      ((Ite K a).stop i H ∧ D.nx σ H) ∨ ((Ite K a).go i H ∧ ∃ N : L2.St → Hp → Prop, (∀ σ' H', N σ' H' → ∃ m', m' < m ∧ W (i + 1) m' σ' H') ∧ ∀ x H', (Ite K a).yld i H x H' → g x σ H' fun σ2 H2 => tb { D with nx := N, ct := N, bk := D.nx } σ2 H2) := by
  refine ⟨fun i m σ H => m = xs.length - i ∧ i ≤ xs.length ∧ Pv i σ H, ⟨xs.length, by simp, Nat.zero_le _, h0⟩, ?_⟩
  rintro i m σ H ⟨rfl, hi, p⟩
  have q := hl i σ H hi p
  by_cases hlt : i < xs.length
  · refine .inr ⟨⟨xs, xs[i], q, by simp [hlt]⟩, Pv (i + 1), fun σ' H' p' => ⟨xs.length - (i + 1), by omega, rfl, hlt, p'⟩, fun x H' y => ?_⟩
    obtain ⟨T, z, e1, e2, e3, e4⟩ := y
    subst e1 e3
    exact hs i z σ H T (e4 xs q) p e2
  · have e : i = xs.length := by omega
    subst e
    exact .inl ⟨⟨xs, q, Nat.le_refl _⟩, hd σ H p⟩
/-- numbers as values -/
def nV (k : Nat) : V := .int (k : Int)
theorem rg_nV (M : Nat) : rgV 0 (M : Int) = (List.range M).map nV := by
  unfold rgV nV
  rw [show ((M : Int) - 0).toNat = M by omega]
  congr 1
  funext i
  rw [Int.zero_add]
theorem nV_plain (l : List Nat) : (l.map nV).all plain = true := by
  rw [List.all_eq_true]
  intro x hx
  obtain ⟨k, _, rfl⟩ := List.mem_map.mp hx
  rfl
theorem nV_get {l : List Nat} {i : Nat} {x : V} (h : (l.map nV)[i]? = some x) : ∃ k, l[i]? = some k ∧ x = nV k := by
  rw [List.getElem?_map] at h
  cases e : l[i]? with
  | none => rw [e] at h; cases h
  | some k => rw [e] at h; exact ⟨k, rfl, (Option.some.inj h).symm⟩
/-- one of some numbers within bounds -/
theorem last_at {l : List V} {x : V} {n : Nat} (h : l[n - 1]? = some x) (hn : l.length = n) (h0 : 0 < n) : atI l (-1) = some x := by
  unfold atI ixN
  rw [if_neg (by decide), if_pos (by omega)]
  show l[((-1 : Int) + (l.length : Int)).toNat]? = some x
  rw [show ((-1 : Int) + (l.length : Int)).toNat = n - 1 by omega]
  exact h
end Cd

set_option Elab.async false
set_option linter.all false
set_option maxRecDepth 100000
set_option maxHeartbeats 4000000
namespace Cd
open PySem PySem.Spec PyProof.Rows L2
open Evl (Ex sq_of ex_l sz_of sz_lt fresh_back)
theorem ten9 : (10 : Int) ^ (9 : Int).toNat = 1000000000 := by decide
theorem ten60 : (10 : Int) ^ (60 : Int).toNat = big := by decide
def t_far : TS :=
(tSeq (tAsg (tC (.int 0)) (gName 2))
  (tSeq (tFor (iRng1 (tCons (tC (.int 7)) tNil)) (gName 3)
  (tAsg (tOp oAdd (tOp oMul (tVar 2) (tOp oPow (tC (.int 10)) (tC (.int 9)))) (tOp oMod (tCall sNext [] E0 (tCons (tVar 0) tNil)) (tOp oPow (tC (.int 10)) (tC (.int 9))))) (gName 2)))
  (tRet (tOp oMod (tVar 2) (tVar 1)))))
def sFar : Sp := fun vs H Q _ => ∃ p, ∃ m : Int, vs = [.ref p, .int m] ∧ StAt H p ∧ 1 ≤ m ∧ ∀ H', ∀ n : Nat, Run p H H' → (n : Int) < m → Q (.int (n : Int)) H'
theorem pure_far {vs : List V} {H : Hp} {Q : VK} {E : XK} {nx : L2.St → Hp → Prop} (h : sFar vs H Q E) : t_far { nx := nx, rt := Q } (start ["_law_state_here", "_law_many", "_law_found", "_law_k"] vs) H := by
  obtain ⟨p, m, rfl, st, hm, q⟩ := h
  refine ⟨7, rfl, by decide, by decide, for_range (lo := 0) (n := 7) (fun i σ H' => ∃ (z : Int) (y : Option V), σ = [some (.ref p), some (.int m), some (.int z), y] ∧ Run p H H') ⟨0, none, rfl, Run.refl st⟩ ?_ ?_⟩
  · intro i σ H' hi hP
    obtain ⟨z, y, rfl, r⟩ := hP
    refine ⟨_, rfl, _, _, rfl, rfl, ⟨by decide, by decide, by decide⟩, _, _, rfl, rfl, .inr (by rw [ten9]; decide), _, rfl, p, rfl, r.2, fun H1 n1 r1 _ _ => ?_⟩
    refine ⟨_, _, rfl, rfl, ⟨by decide, by decide, by decide⟩, _, _, rfl, rfl, pos0 (by rw [ten9]; decide), _, _, rfl, rfl, ?_⟩
    exact ⟨_, _, rfl, r.trans r1⟩
  · intro σ H' hP
    obtain ⟨z, y, rfl, r⟩ := hP
    refine ⟨_, rfl, _, rfl, _, _, rfl, rfl, pos0 (by omega), ?_⟩
    have b1 : 0 ≤ z % m := Int.emod_nonneg _ (by omega)
    have b2 : z % m < m := Int.emod_lt_of_pos _ (by omega)
    obtain ⟨k, hk⟩ : ∃ k : Nat, z % m = (k : Int) := ⟨(z % m).toNat, by omega⟩
    dsimp only
    rw [hk] at b2 ⊢
    exact q H' k r b2

def t_lcount : TS :=
(tSeq (tAsg (tOp oAdd (tVar 2) (tC (.int 1))) (gName 3))
  (tSeq (tWhile (tTest (tOp rNe (tOp oMod (tVar 3) (tVar 1)) (tC (.int 0))))
  (tAsg (tOp oSub (tOp oAdd (tVar 0) (tVar 3)) (tOp oFdiv (tVar 3) (tVar 1))) (gName 3)))
  (tRet (tOp oFdiv (tVar 3) (tVar 1)))))
@[irreducible] def sLCount : Sp := fun vs H Q _ => ∃ M D p : Nat, vs = [.int (M : Int), .int (D : Int), .int (p : Int)] ∧ 1 ≤ D ∧ D ≤ 100 ∧ p < M ∧ ∀ c : Nat, (Jos.order D M 0)[c]? = some p → Q (.int ((c : Int) + 1)) H
theorem pure_lcount {vs : List V} {H : Hp} {Q : VK} {E : XK} {nx : L2.St → Hp → Prop} (h : sLCount vs H Q E) : t_lcount { nx := nx, rt := Q } (start ["_law_many", "_law_step", "_law_place_here", "_law_number"] vs) H := by
  unfold sLCount at h
  obtain ⟨M, D, p, rfl, d1, d2, pM, ok⟩ := h
  have hD : 0 < D := by omega
  have hMD : M ≤ M * D := Nat.le_mul_of_pos_right M hD
  have h0 : Jos.told D (Jos.ring M 0) (p + 1) = some p := by
    rw [Jos.told_first hD (by omega) (by rw [Jos.ring_len]; omega), Nat.add_sub_cancel, Jos.ring_get (by omega) pM, Nat.zero_add, Nat.mod_eq_of_lt pM]
  refine ⟨_, rfl, _, _, rfl, rfl, ?_⟩
  refine ⟨fun μ σ H' => ∃ N : Nat, σ = [some (.int (M : Int)), some (.int (D : Int)), some (.int (p : Int)), some (.int (N : Int))] ∧ H' = H ∧ μ = M * D - N ∧ 1 ≤ N ∧ N ≤ M * D ∧ Jos.told D (Jos.ring M 0) N = some p,
    ⟨M * D - (p + 1), p + 1, rfl, rfl, rfl, by omega, by omega, h0⟩, ?_⟩
  intro μ σ H' hW
  obtain ⟨N, rfl, rfl, rfl, hN1, hN2, hN3⟩ := hW
  refine ⟨_, rfl, _, rfl, _, _, rfl, rfl, pos0 (by omega), rfl, _, rfl, iteC (fun e => ?_) (fun e => ?_)⟩
  rotate_left
  · have hz : N % D = 0 := by
      rw [Bool.not_eq_false', decide_eq_true_eq] at e
      have z := V.int.inj e
      rw [← Int.natCast_emod] at z
      omega
    refine ⟨_, rfl, _, rfl, _, _, rfl, rfl, ⟨by omega, by omega⟩, ?_⟩
    dsimp only
    rw [← Int.natCast_ediv]
    have hq := Nat.div_add_mod N D
    rw [hz, Nat.add_zero] at hq
    have q1 : 0 < N / D := Nat.div_pos (Nat.le_of_dvd (by omega) (Nat.dvd_of_mod_eq_zero hz)) hD
    have q2 : N / D ≤ M := Nat.div_le_of_le_mul (by rw [Nat.mul_comm]; exact hN2)
    have k := ok (N / D - 1) (by
      rw [Jos.order_told hD (by omega), show (N / D - 1 + 1) * D = N by rw [show N / D - 1 + 1 = N / D by omega, Nat.mul_comm]; exact hq]
      exact hN3)
    rw [show ((N / D : Nat) : Int) = ((N / D - 1 : Nat) : Int) + 1 by omega]
    exact k
  · have hz : N % D ≠ 0 := by
      rw [Bool.not_eq_true', decide_eq_false_iff_not] at e
      intro z
      exact e (by show V.int ((N : Int) % (D : Int)) = V.int 0; rw [← Int.natCast_emod, z]; rfl)
    obtain ⟨l1, l2, l3⟩ := Jos.leap_up hD hN2 hz
    refine ⟨fun σ' H'' => ∃ m', m' < M * D - N ∧ ∃ N : Nat, σ' = [some (.int (M : Int)), some (.int (D : Int)), some (.int (p : Int)), some (.int (N : Int))] ∧ H'' = H' ∧ m' = M * D - N ∧ 1 ≤ N ∧ N ≤ M * D ∧ Jos.told D (Jos.ring M 0) N = some p, fun _ _ h => h, ?_⟩
    refine ⟨_, rfl, _, rfl, _, _, rfl, rfl, _, rfl, _, rfl, _, _, rfl, rfl, ⟨by omega, by omega⟩, _, _, rfl, rfl, ?_⟩
    refine ⟨M * D - (M + N - N / D), by omega, M + N - N / D, ?_, rfl, rfl, by omega, l2, ?_⟩
    · have e2 : (M : Int) + (N : Int) - (N : Int) / (D : Int) = ((M + N - N / D : Nat) : Int) := by
        rw [← Int.natCast_ediv]; omega
      dsimp only
      rw [e2]
      rfl
    · have := Jos.told_leap (l := Jos.ring M 0) hD hN1 (by rw [Jos.ring_len]; exact hN2) hz
      rw [Jos.ring_len] at this
      rw [this]
      exact hN3
def t_lplace : TS :=
(tSeq (tAsg (tOp oAdd (tOp oSub (tVar 0) (tVar 2)) (tC (.int 1))) (gName 3))
  (tSeq (tAsg (tOp oMod (tOp oSub (tVar 1) (tC (.int 1))) (tVar 3)) (gName 4))
  (tSeq (tWhile (tTest (tOp oLt (tVar 3) (tVar 0)))
  (tSeq (tAsg (tOp oSub (tVar 0) (tVar 3)) (gName 5))
  (tSeq (tIfS (tTest (tOp oGt (tVar 1) (tC (.int 1))))
  (tAsg (tCB oMin2 (tCons (tVar 5) (tCons (tCB oMax2 (tCons (tC (.int 1)) (tCons (tOp oFdiv (tOp oSub (tOp oSub (tVar 3) (tVar 4)) (tC (.int 1))) (tOp oSub (tVar 1) (tC (.int 1)))) tNil))) tNil))) (gName 5))
  tNext)
  (tSeq (tAsg (tOp oAdd (tVar 4) (tOp oMul (tVar 1) (tVar 5))) (gName 4))
  (tSeq (tAsg (tOp oAdd (tVar 3) (tVar 5)) (gName 3))
  (tAsg (tOp oMod (tVar 4) (tVar 3)) (gName 4)))))))
  (tRet (tVar 4)))))
@[irreducible] def sLPlace : Sp := fun vs H Q _ => ∃ M D C : Nat, vs = [.int (M : Int), .int (D : Int), .int (C : Int)] ∧ 1 ≤ D ∧ D ≤ 100 ∧ 1 ≤ C ∧ C ≤ M ∧ ∀ p : Nat, (Jos.order D M 0)[C - 1]? = some p → Q (.int (p : Int)) H
theorem pure_lplace {vs : List V} {H : Hp} {Q : VK} {E : XK} {nx : L2.St → Hp → Prop} (h : sLPlace vs H Q E) : t_lplace { nx := nx, rt := Q } (start ["_law_many", "_law_step", "_law_count_here", "_law_size", "_law_place_here", "_law_leap"] vs) H := by
  unfold sLPlace at h
  obtain ⟨M, D, C, rfl, d1, d2, c1, c2, ok⟩ := h
  have hD : 0 < D := by omega
  refine ⟨_, rfl, _, rfl, _, _, rfl, rfl, _, _, rfl, rfl, ?_⟩
  dsimp only
  rw [show (M : Int) - (C : Int) + 1 = ((M - C + 1 : Nat) : Int) by omega]
  refine ⟨_, rfl, _, _, rfl, rfl, _, rfl, _, _, rfl, rfl, pos0 (by omega), ?_⟩
  dsimp only
  rw [show ((D : Int) - 1) % ((M - C + 1 : Nat) : Int) = (((D - 1) % (M - C + 1) : Nat) : Int) by rw [Int.natCast_emod]; congr 1; omega]
  refine ⟨fun μ σ H' => ∃ S P : Nat, ∃ y, σ = [some (.int (M : Int)), some (.int (D : Int)), some (.int (C : Int)), some (.int (S : Int)), some (.int (P : Int)), y] ∧ H' = H ∧ μ = M - S ∧ M - C + 1 ≤ S ∧ S ≤ M ∧ (Jos.order D S 0)[S - (M - C + 1)]? = some P,
    ⟨M - (M - C + 1), M - C + 1, (D - 1) % (M - C + 1), none, rfl, rfl, rfl, Nat.le_refl _, by omega, by rw [Nat.sub_self]; exact Jos.order_zero hD (by omega)⟩, ?_⟩
  intro μ σ H' hW
  obtain ⟨S, P, y, rfl, rfl, rfl, hS1, hS2, hP⟩ := hW
  have hPS : P < S := Jos.order_lt (List.mem_of_getElem? hP)
  refine ⟨_, rfl, _, rfl, _, _, rfl, rfl, _, rfl, iteC (fun e => ?_) (fun e => ?_)⟩
  · have e1 : (S : Int) < (M : Int) := of_decide_eq_true e
    refine ⟨fun σ' H'' => ∃ m', m' < M - S ∧ ∃ S P : Nat, ∃ y, σ' = [some (.int (M : Int)), some (.int (D : Int)), some (.int (C : Int)), some (.int (S : Int)), some (.int (P : Int)), y] ∧ H'' = H' ∧ m' = M - S ∧ M - C + 1 ≤ S ∧ S ≤ M ∧ (Jos.order D S 0)[S - (M - C + 1)]? = some P, fun _ _ h => h, ?_⟩
    refine ⟨_, rfl, _, rfl, _, _, rfl, rfl, ?_⟩
    have fin : ∀ L : Nat, 1 ≤ L → S + L ≤ M → P + (D - 1) * (L - 1) < S → (tSeq (tAsg (tOp oAdd (tVar 4) (tOp oMul (tVar 1) (tVar 5))) (gName 4))
        (tSeq (tAsg (tOp oAdd (tVar 3) (tVar 5)) (gName 3))
        (tAsg (tOp oMod (tVar 4) (tVar 3)) (gName 4)))) { nx := fun σ' H'' => ∃ m', m' < M - S ∧ ∃ S P : Nat, ∃ y, σ' = [some (.int (M : Int)), some (.int (D : Int)), some (.int (C : Int)), some (.int (S : Int)), some (.int (P : Int)), y] ∧ H'' = H' ∧ m' = M - S ∧ M - C + 1 ≤ S ∧ S ≤ M ∧ (Jos.order D S 0)[S - (M - C + 1)]? = some P, rt := Q }
        [some (.int (M : Int)), some (.int (D : Int)), some (.int (C : Int)), some (.int (S : Int)), some (.int (P : Int)), some (.int (L : Int))] H' := by
      intro L hL1 hL2 hL3
      refine ⟨_, rfl, _, rfl, _, rfl, _, _, rfl, rfl, .inl ⟨by omega, by omega⟩, _, _, rfl, rfl, ?_⟩
      refine ⟨_, rfl, _, rfl, _, _, rfl, rfl, ?_⟩
      refine ⟨_, rfl, _, rfl, _, _, rfl, rfl, pos0 (by omega), ?_⟩
      refine ⟨M - (S + L), by omega, S + L, (P + D * L) % (S + L), some (.int (L : Int)), ?_, rfl, rfl, by omega, hL2, ?_⟩
      rotate_left
      · have g := Jos.order_leap1 hD hP L hL1 hL3
        rw [show S + L - (M - C + 1) = S - (M - C + 1) + L by omega]
        exact g
      · have e2 : ((P : Int) + (D : Int) * (L : Int)) % ((S : Int) + (L : Int)) = (((P + D * L) % (S + L) : Nat) : Int) := by
          rw [Int.natCast_emod, Int.natCast_add, Int.natCast_add, Int.natCast_mul]
        dsimp only
        rw [e2]
        rfl
    refine ⟨_, rfl, _, _, rfl, rfl, _, rfl, iteC (fun e2 => ?_) (fun e2 => ?_)⟩
    · have e3 : 1 < (D : Int) := of_decide_eq_true e2
      refine ⟨_, rfl, _, rfl, _, rfl, _, _, rfl, rfl, _, _, rfl, rfl, _, rfl, _, _, rfl, rfl, _, _, rfl, rfl, ⟨by omega, by omega⟩, _, _, rfl, _, _, rfl, ?_⟩
      dsimp only
      obtain ⟨q, hq⟩ : ∃ q : Nat, ((S : Int) - (P : Int) - 1) / ((D : Int) - 1) = (q : Int) ∧ (D - 1) * q ≤ S - P - 1 := by
        refine ⟨(S - P - 1) / (D - 1), ?_, Nat.mul_div_le _ _⟩
        rw [Int.natCast_ediv]
        congr 1 <;> omega
      rw [hq.1]
      have hmax : (if (q : Int) > 1 then (q : Int) else 1) = ((max 1 q : Nat) : Int) := by
        split <;> omega
      rw [hmax]
      have hmin : (if ((max 1 q : Nat) : Int) < (M : Int) - (S : Int) then ((max 1 q : Nat) : Int) else (M : Int) - (S : Int)) = ((min (M - S) (max 1 q) : Nat) : Int) := by
        split <;> omega
      rw [hmin]
      refine fin (min (M - S) (max 1 q)) (by omega) (by omega) ?_
      by_cases hq1 : q ≤ 1
      · rw [show min (M - S) (max 1 q) - 1 = 0 by omega, Nat.mul_zero]; omega
      · have : (D - 1) * (min (M - S) (max 1 q) - 1) ≤ (D - 1) * q := Nat.mul_le_mul_left _ (by omega)
        omega
    · have e3 : ¬ 1 < (D : Int) := of_decide_eq_false e2
      have eD : D = 1 := by omega
      have k := fin (M - S) (by omega) (by omega) (by rw [eD]; omega)
      rw [show ((M - S : Nat) : Int) = (M : Int) - (S : Int) by omega] at k
      exact k
  · have e1 : ¬ (S : Int) < (M : Int) := of_decide_eq_false e
    have eS : S = M := by omega
    subst eS
    refine ⟨_, rfl, ok P ?_⟩
    rw [← hP]
    congr 1
    omega
/-- the script is read whatever the chance does -/
def ScAt (K : PySem.W.Frag) (H : Hp) (a p : Addr) (ns : List Int) : Prop := ∀ H', Run p H H' → SqL K H' a (ns.map V.int)
theorem ScAt.run {K : PySem.W.Frag} {H H' : Hp} {a p : Addr} {ns : List Int} (h : ScAt K H a p ns) (r : Run p H H') : ScAt K H' a p ns := fun H2 r2 => h H2 (r.trans r2)
theorem ScAt.of {K : PySem.W.Frag} {H H1 : Hp} {a p : Addr} {ns : List Int} (h : SqL K H a (ns.map V.int)) (np : H p = none) (e : Ex H H1) : ScAt K H1 a p ns := fun H' r => by
  have go : ∀ {b : Addr} {u : HO}, H b = some u → H' b = some u := fun {b u} hb => r.1 b u (ne_of_none hb np) (e b u hb)
  rcases h with (h | ⟨o, h⟩) | h
  · exact .inl (.inl (go h))
  · exact .inl (.inr ⟨o, go h⟩)
  · exact .inr h
/-- a number of a told range -/
theorem int_nat {z lo hi : Int} (h0 : 0 ≤ lo) (h1 : lo ≤ z) (h2 : z ≤ hi) : ∃ k : Nat, z = (k : Int) ∧ lo ≤ (k : Int) ∧ (k : Int) ≤ hi := ⟨z.toNat, by omega, by omega, by omega⟩
theorem dec_self {x : V} (h : (!decide (x = x)) = true) : False := by
  rw [decide_eq_true rfl] at h; cases h
theorem wh_off {i lo hi : Int} (h : ¬ (lo ≤ i ∧ i ≤ hi)) : whB (.int i) lo hi = false := by
  cases e : whB (.int i) lo hi with
  | false => rfl
  | true =>
    obtain ⟨j, ej, h1, h2⟩ := wh_int e
    cases ej
    exact absurd ⟨h1, h2⟩ h
end Cd

set_option Elab.async false
set_option linter.all false
set_option maxRecDepth 100000
set_option maxHeartbeats 4000000
namespace Cd
open PySem PySem.Spec PyProof.Rows L2 Tx Kp
open Evl (Ex sq_of ex_l sz_of sz_lt fresh_back)
abbrev tTru (K : PySem.W.Frag) (ta : TE) : TT := fun σ H Q => ta σ H fun x H' => ∃ k, TruV K x H' k ∧ Q k H'
abbrev rJoin (K : PySem.W.Frag) : V → List V → Hp → VK → Prop := fun x xs H Q => ∃ a p, ∃ ys : List Str, x = .str a ∧ xs = [.ref p] ∧ (SqL K H p (ys.map V.str) ∨ SqT K H p (ys.map V.str)) ∧
      (ys.map (·.length)).sum + ys.length * a.length ≤ 16777216 ∧ Q (.str (PySem.Txt.join a ys)) H
abbrev tTryK (K : PySem.W.Frag) (c : Addr) (i j : Nat) (tb : WX → TS) : TS := fun D σ H => tb (wKp K (.ref c) i j D) D σ H
/-! ### refusals -/
inductive Ek where
  | ring | many | step | place | count | hand | twice | much
  deriving DecidableEq
/-- where the classes stand -/
structure Cs where
  ring : Addr
  many : Addr
  step : Addr
  place : Addr
  count : Addr
  hand : Addr
  twice : Addr
  much : Addr
  err : Addr
def Cs.on (C : Cs) : Ek → Addr
  | .ring => C.ring
  | .many => C.many
  | .step => C.step
  | .place => C.place
  | .count => C.count
  | .hand => C.hand
  | .twice => C.twice
  | .much => C.much
def Ek.word : Ek → Str
  | .ring => "ring"
  | .many => "many"
  | .step => "step"
  | .place => "place"
  | .count => "count"
  | .hand => "hand"
  | .twice => "twice"
  | .much => "much"
structure ErrF (K : PySem.W.Frag) (C : Cs) : Prop where
  exc : ∀ k, ExcC K (C.on k)
  kit : ∀ k j, PySem.W.kitOne K (.ref (C.on k)) (.ref (C.on j)) = some (decide (k = j))
  val : ∀ k, PySem.W.kitOne K (.ref (C.on k)) (.type "ValueError") = some true
  caught : ∀ k, PySem.W.exmOne K (.ref (C.on k)) (.ref C.err) = some true
def tErr1 (K : PySem.W.Frag) (c : Addr) (z : Str) (rest : TS) : TS :=
  (tSeq (tIfS (tB (tCB (rIsX K) (tCons (tVar 0) (tCons (tC (.ref c)) tNil))))
  (tDrop (tBM K "list" rAppend (tVar 1) (tCons (tC (.str z)) tNil)))
  tNext) rest)
def t_error (K : PySem.W.Frag) (C : Cs) : TS :=
(tSeq (tAsg (tLst tNil) (gName 1))
  (tErr1 K C.ring "ring" (tErr1 K C.many "many" (tErr1 K C.step "step" (tErr1 K C.place "place" (tErr1 K C.count "count" (tErr1 K C.hand "hand" (tErr1 K C.twice "twice" (tErr1 K C.much "much"
  (tSeq (tIfS (tOr (tTest (tOp rNe (tCB (rLenL K) (tCons (tVar 1) tNil)) (tC (.int 1)))) (tNot (tB (tCB (rIsX K) (tCons (tVar 0) (tCons (tC (.ty "ValueError")) tNil))))))
  (tRet (tC (.str "other")))
  tNext)
  (tRet (tOp (rIxL K) (tVar 1) (tC (.int 0))))))))))))))
/-- the word of a kept refusal -/
def sErr (K : PySem.W.Frag) (C : Cs) : Sp := fun vs H Q _ => ∃ a k, vs = [.ref a] ∧ H a = some (ExT (.ref (C.on k)) a) ∧ ∀ H', Ex H H' → Q (.str k.word) H'
structure ErrAt (H0 H : Hp) (a l : Addr) (u : HO) (ws : List V) : Prop where
  ex : Ex H0 H
  nl : H0 l = none
  ha : H a = some u
  hl : H l = some (.lst ws)
theorem err_step {K : PySem.W.Frag} {C : Cs} (F : ErrF K C) {k : Ek} (j : Ek) {H0 H : Hp} {a l : Addr} {ws : List V} {rest : TS} {D : Ends} (hz : ws.length < 100) (e : ErrAt H0 H a l (ExT (.ref (C.on k)) a) ws)
    (g : ∀ H', ErrAt H0 H' a l (ExT (.ref (C.on k)) a) (ws ++ if k = j then [.str j.word] else []) → rest D [some (.ref a), some (.ref l)] H') : tErr1 K (C.on j) j.word rest D [some (.ref a), some (.ref l)] H := by
  refine ⟨_, rfl, a, C.on k, .ref (C.on j), _, _, rfl, .own _, e.ha, F.exc k, F.kit k j, _, rfl, iteC (fun c => ?_) (fun c => ?_)⟩
  · have ek := of_decide_eq_true c
    refine ⟨_, rfl, ty_l e.hl, l, ws, _, rfl, rfl, e.hl, sz_lt (by omega), g _ ⟨Evl.Ex.mut e.ex e.nl, e.nl, ?_, ?_⟩⟩
    · have n : a ≠ l := fun z => by
        have h1 := e.ha
        have h2 := e.hl
        rw [z, h2] at h1
        cases h1
      rw [upd_ne n]; exact e.ha
    · rw [upd_same, if_pos ek]
  · have ek := of_decide_eq_false c
    refine g H ?_
    rw [if_neg ek, List.append_nil]
    exact e
theorem pure_error {K : PySem.W.Frag} {C : Cs} (F : ErrF K C) {vs : List V} {H : Hp} {Q : VK} {E : XK} {nx : L2.St → Hp → Prop} (h : sErr K C vs H Q E) : t_error K C { nx := nx, rt := Q } (start ["_law_e", "_law_words"] vs) H := by
  obtain ⟨a, k, rfl, ha, q⟩ := h
  refine ⟨Nat.zero_le _, fun l nl => ?_⟩
  have na : a ≠ l := fun z => by rw [z, nl] at ha; cases ha
  have e0 : ErrAt H (upd H l (.lst [])) a l (ExT (.ref (C.on k)) a) [] := ⟨Evl.Ex.new nl, nl, by rw [upd_ne na]; exact ha, upd_same⟩
  refine err_step F .ring (by simp) e0 fun H1 e1 => ?_
  refine err_step F .many (by split at e1 <;> split <;> simp) e1 fun H2 e2 => ?_
  refine err_step F .step (by repeat' split <;> simp) e2 fun H3 e3 => ?_
  refine err_step F .place (by repeat' split <;> simp) e3 fun H4 e4 => ?_
  refine err_step F .count (by repeat' split <;> simp) e4 fun H5 e5 => ?_
  refine err_step F .hand (by repeat' split <;> simp) e5 fun H6 e6 => ?_
  refine err_step F .twice (by repeat' split <;> simp) e6 fun H7 e7 => ?_
  refine err_step F .much (by repeat' split <;> simp) e7 fun H8 e8 => ?_
  have e9 : ErrAt H H8 a l (ExT (.ref (C.on k)) a) [.str k.word] := by
    cases k <;> exact e8
  refine ⟨_, rfl, l, _, rfl, .inl (sq_of e9.hl), rfl, _, rfl, iteC (fun c => (by have c2 : (!decide (V.int 1 = V.int 1)) = true := c; simp at c2 : False).elim) (fun _ => ?_)⟩
  refine ⟨_, rfl, a, C.on k, .ty "ValueError", _, true, rfl, .ty _, e9.ha, F.exc k, F.val k, true, rfl, iteF ?_⟩
  exact ⟨_, rfl, l, _, 0, _, rfl, rfl, sq_of e9.hl, at0, q H8 e9.ex⟩

/-- from what the written part says of the classes -/
theorem errF_mk {K : PySem.W.Frag} {C : Cs} (hg : ∀ k, PySem.W.findIn K (.ref (C.on k)) "__getattribute__" = some (some (.builtin "BaseException.__getattribute__"))) (hk : ∀ k, PySem.W.findIn K (.ref (C.on k)) "__getattr__" = some none)
    (hs : ∀ k, PySem.W.subIn K (.ref (C.on k)) (.type "BaseException") = some true) (hd : ∀ k, PySem.W.hasDictIn K (C.on k) = true) (ha : ∀ k, PySem.W.findIn K (.ref (C.on k)) "__class__" = some (some (.builtin "object.__class__")))
    (hn : PySem.W.specialIn K (.builtin "object.__class__") "__get__" = some (some (.builtin "getset_descriptor.__get__"))) (ht : PySem.W.takesIn K (.builtin "object.__class__") = some true) (hm : ∀ k, PySem.W.mroIn K (C.on k) (.type "object") = some true)
    (ty : ∀ k, PySem.W.typeIn K (.ref (C.on k)) = some (.type "type")) (ic : ∀ k, PySem.W.isClsIn K (C.on k) = true) (sub : ∀ k j, PySem.W.subIn K (.ref (C.on k)) (.ref (C.on j)) = some (decide (k = j)))
    (sv : ∀ k, PySem.W.subIn K (.ref (C.on k)) (.type "ValueError") = some true) (eb : PySem.W.subIn K (.ref C.err) (.type "BaseException") = some true) (ed : PySem.W.hasDictIn K C.err = true) (et : PySem.W.typeIn K (.ref C.err) = some (.type "type"))
    (es : ∀ k, PySem.W.subIn K (.ref (C.on k)) (.ref C.err) = some true) : ErrF K C where
  exc k := ⟨hg k, hk k, hs k, hd k, ha k, hn, ht, hm k⟩
  kit k j := by
    unfold PySem.W.kitOne
    by_cases e : (Value.ref (C.on k) == Value.ref (C.on j)) = true
    · rw [if_pos e]
      have e1 : C.on k = C.on j := by simpa using e
      have h1 := sub k j
      rw [← e1, sub k k] at h1
      rw [← h1, decide_eq_true rfl]
    · rw [if_neg e]
      have h1 : ((PySem.W.clsIn K (C.on j)).isSome && PySem.W.typeIn K (.ref (C.on j)) == some (.type "type")) = true := by
        have h2 : (PySem.W.clsIn K (C.on j)).isSome = true := ic j
        rw [h2, ty j]; rfl
      show (if _ then _ else none) = _
      rw [if_pos h1]
      exact sub k j
  val k := by
    unfold PySem.W.kitOne
    rw [if_neg (by intro z; cases (beq_iff_eq.mp z))]
    show (if PySem.W.kitMeta "ValueError" = true then _ else none) = _
    rw [if_pos (by decide +kernel)]
    exact sv k
  caught k := PySem.W.exm_ref eb ed et (es k)
end Cd

set_option Elab.async false
set_option linter.all false
set_option maxRecDepth 100000
set_option maxHeartbeats 4000000
namespace Cd
open PySem PySem.Spec PyProof.Rows L2 Tx Kp
open Evl (Ex sq_of ex_l sz_of sz_lt fresh_back)
/-! ### what is a ring -/
def isS : V → Bool
  | .str _ => true
  | _ => false
def txt : V → Str
  | .str x => x
  | _ => Str.empty
def ringB (xs : List V) : Bool := decide (1 ≤ xs.length) && decide (xs.length ≤ 200) && xs.all isS && decide ((met (xs.map txt) xs.length).length = xs.length)
/-- things of any kind, and whether they are rings -/
inductive IsR (K : PySem.W.Frag) (H : Hp) : V → Bool → Prop where
  | no {x : V} {T : String} (t : TyX K H x (.type T)) (hT : T ∈ ["NoneType", "bool", "int", "str", "tuple", "dict"]) : IsR K H x false
  | lst {l : Addr} {xs : List V} (h : H l = some (.lst xs)) (hz : xs.length ≤ 1000) (ht : ∀ v ∈ xs, Typ K H v ∧ (isS v = true ∨ ∃ T : String, TyX K H v (.type T) ∧ T ∈ ["NoneType", "bool", "int", "list", "tuple", "dict"])) : IsR K H (.ref l) (ringB xs)
theorem tyx_ex {K : PySem.W.Frag} {H H' : Hp} {x : V} {t : Value} (h : TyX K H x t) (e : Ex H H') : TyX K H' x t := by
  cases h with
  | base b =>
    refine .base ?_
    cases b with
    | non => exact .non
    | bl x => exact .bl x
    | int i => exact .int i
    | str x => exact .str x
    | flt x => exact .flt x
    | lst h => exact .lst (e _ _ h)
    | frz h => exact .frz (e _ _ h)
    | tup h => exact .tup (e _ _ h)
    | dK h => exact .dK (e _ _ h)
    | dT h => exact .dT (e _ _ h)
    | ins h c a n t m => exact .ins (e _ _ h) c a n t m
  | byt b => exact .byt b
  | set h => exact .set (e _ _ h)
  | kList h c => exact .kList h c
  | kTuple h c => exact .kTuple h c
  | kDict h c => exact .kDict h c
  | fTuple h => exact .fTuple (e _ _ h)
  | fDict h => exact .fDict (e _ _ h)
theorem Typ.ex {K : PySem.W.Frag} {H H' : Hp} {x : V} (h : Typ K H x) (e : Ex H H') : Typ K H' x := by
  obtain ⟨T, t, m, i⟩ := h
  exact ⟨T, tyx_ex t e, m, i⟩
theorem IsR.ex {K : PySem.W.Frag} {H H' : Hp} {x : V} {b : Bool} (h : IsR K H x b) (e : Ex H H') : IsR K H' x b := by
  cases h with
  | no t m => exact .no (tyx_ex t e) m
  | lst h hz ht =>
    refine .lst (e _ _ h) hz fun v hv => ?_
    obtain ⟨t, q⟩ := ht v hv
    exact ⟨t.ex e, q.imp id fun ⟨T, a, b⟩ => ⟨T, tyx_ex a e, b⟩⟩
theorem IsR.texts {K : PySem.W.Frag} {H : Hp} {l : Addr} {ys : List Str} (h : H l = some (.lst (ys.map V.str))) (hz : ys.length ≤ 1000) : IsR K H (.ref l) (ringB (ys.map V.str)) := by
  refine .lst h (by rw [List.length_map]; exact hz) fun v hv => ?_
  obtain ⟨y, _, rfl⟩ := List.mem_map.mp hv
  exact ⟨Typ.str, .inl rfl⟩
theorem map_txt (ys : List Str) : (ys.map V.str).map txt = ys := by
  rw [List.map_map]
  exact (List.map_congr_left fun _ _ => rfl).trans (List.map_id ys)
theorem all_isS (ys : List Str) : (ys.map V.str).all isS = true := by
  rw [List.all_eq_true]
  intro x hx
  obtain ⟨y, _, rfl⟩ := List.mem_map.mp hx
  rfl
theorem ringB_texts {ys : List Str} (h1 : 1 ≤ ys.length) (h2 : ys.length ≤ 200) (hn : ys.Nodup) : ringB (ys.map V.str) = true := by
  unfold ringB
  rw [map_txt, all_isS, List.length_map, met_nodup hn _ (Nat.le_refl _)]
  simp [h1, h2]
theorem texts_of : ∀ {xs : List V}, xs.all isS = true → xs = (xs.map txt).map V.str
  | [], _ => rfl
  | x :: xs, h => by
    rw [List.all_cons, Bool.and_eq_true] at h
    rw [List.map_cons, List.map_cons, ← texts_of h.2]
    cases x <;> first | rfl | (simp [isS] at h; done)
def t_is_ring (K : PySem.W.Frag) (P : Program) (w : World) : TS :=
(tSeq (tIfS (tOr (tNot (tB (tCB (rIsi K) (tCons (tVar 0) (tCons (tC (.ty "list")) tNil))))) (tNot (tB (tCall (sIsW K) [] E0 (tCons (tCB (rLenL K) (tCons (tVar 0) tNil)) (tCons (tC (.int 1)) (tCons (tC (.int (200))) tNil)))))))
  (tRet (tC (.bl false)))
  tNext)
  (tRet (tAndV (tCB (rAll K) (tCons (tLc (iList K (tVar 0)) (gName 1) tYes (tCB (rIsi K) (tCons (tVar 1) (tCons (tC (.ty "str")) tNil))) [1]) tNil)) (tOp rEq (tCB (rLenT P w) (tCons (tCB (rSetT K P w) (tCons (tVar 0) tNil)) tNil)) (tCB (rLenL K) (tCons (tVar 0) tNil))))))
def sIsRing (K : PySem.W.Frag) : Sp := fun vs H Q _ => ∃ x, vs = [x] ∧ ∃ b, IsR K H x b ∧ ∀ H', Ex H H' → Q (.bl b) H'
theorem pure_is_ring {K : PySem.W.Frag} {P : Program} {w : World} {vs : List V} {H : Hp} {Q : VK} {E : XK} {nx : L2.St → Hp → Prop} (h : sIsRing K vs H Q E) : t_is_ring K P w { nx := nx, rt := Q } (start ["thing", "hand"] vs) H := by
  obtain ⟨x, rfl, b, hr, q⟩ := h
  cases hr with
  | no t m =>
    rename_i T
    refine ⟨_, rfl, _, _, _, _, false, rfl, .ty "list", t, kit_ty ?_, false, rfl, iteT (iteT (q H (Evl.Ex.refl H)))⟩
    simp only [List.mem_cons, List.not_mem_nil, or_false] at m
    rcases m with rfl | rfl | rfl | rfl | rfl | rfl <;> decide +kernel
  | lst h hz ht =>
    rename_i l xs
    refine ⟨_, rfl, _, _, _, _, true, rfl, .ty "list", .base (.lst h), kit_ty (by decide +kernel), true, rfl, iteF ?_⟩
    refine ⟨_, rfl, l, xs, rfl, .inl (sq_of h), _, _, _, rfl, Typ.int, _, rfl, iteC (fun c => ?_) (fun c => ?_)⟩
    · have c1 : whB (.int (xs.length : Int)) 1 200 = false := by simpa using c
      have e : ringB xs = false := by
        unfold ringB
        unfold whB at c1
        rw [Bool.and_eq_false_iff, decide_eq_false_iff_not, decide_eq_false_iff_not] at c1
        rcases c1 with c1 | c1
        · rw [decide_eq_false (show ¬ 1 ≤ xs.length by omega)]; rfl
        · rw [decide_eq_false (show ¬ xs.length ≤ 200 by omega)]; simp
      rw [e] at q
      exact q H (Evl.Ex.refl H)
    · have c1 : whB (.int (xs.length : Int)) 1 200 = true := by simpa using c
      unfold whB at c1
      rw [Bool.and_eq_true, decide_eq_true_eq, decide_eq_true_eq] at c1
      -- are all of them texts
      refine ⟨_, rfl, l, rfl, ⟨xs, sq_of h⟩, fun A nA => ?_⟩
      refine lc_list (xs := xs) (fun i H' => Ex H H' ∧ H A = none ∧ H' A = some (.lst ((xs.take i).map fun v => V.bl (isS v)))) ⟨Evl.Ex.new nA, nA, upd_same⟩ (fun i H' _ p => sq_of (p.1 _ _ h)) (fun i v H' hi p => ?_) (fun H' p => ?_)
      · obtain ⟨p1, p2, p3⟩ := p
        have hl : i < xs.length := (List.getElem?_eq_some_iff.mp hi).1
        have hv : v ∈ xs := List.mem_of_getElem? hi
        have go : ∀ b, isS v = b → Ex H (upd H' A (.lst ((xs.take i).map (fun v => V.bl (isS v)) ++ [V.bl b]))) ∧ H A = none ∧ (upd H' A (.lst ((xs.take i).map (fun v => V.bl (isS v)) ++ [V.bl b]))) A = some (.lst ((xs.take (i + 1)).map fun v => V.bl (isS v))) := by
          intro b hb
          refine ⟨Evl.Ex.mut p1 p2, p2, ?_⟩
          rw [upd_same, List.take_add_one, hi, List.map_append, ← hb]; rfl
        refine ⟨rfl, ?_⟩
        unfold tYes
        dsimp only
        rw [if_pos rfl]
        have small : ((xs.take i).map fun v => V.bl (isS v)).length < sizeLine := by rw [List.length_map, List.length_take]; exact sz_lt (by omega)
        obtain ⟨tv, hs | ⟨T, ty, hm⟩⟩ := ht v hv
        · obtain ⟨z, rfl⟩ : ∃ z, v = .str z := by cases v <;> first | exact ⟨_, rfl⟩ | (simp [isS] at hs; done)
          exact ⟨_, rfl, _, _, _, _, true, rfl, .ty "str", .base (.str z), kit_ty (by decide +kernel), _, p3, small, go true rfl⟩
        · have hs : isS v = false := by
            cases v <;> first | rfl | skip
            exfalso
            cases ty with
            | base b => cases b; revert hm; decide
          refine ⟨_, rfl, _, _, _, _, false, rfl, .ty "str", tyx_ex ty p1, kit_ty ?_, _, p3, small, go false hs⟩
          simp only [List.mem_cons, List.not_mem_nil, or_false] at hm
          rcases hm with rfl | rfl | rfl | rfl | rfl | rfl <;> decide +kernel
      · obtain ⟨p1, p2, p3⟩ := p
        rw [List.take_length] at p3
        refine ⟨A, xs.map isS, rfl, .inl (.inl (by rw [List.map_map]; exact p3)), (xs.map isS).all id, rfl, iteC (fun c2 => ?_) (fun c2 => ?_)⟩
        · have ha : xs.all isS = true := by rw [List.all_map] at c2; exact c2
          have ex := texts_of ha
          refine ⟨_, rfl, l, xs.map txt, rfl, by rw [← ex]; exact sq_of (p1 _ _ h), by rw [List.length_map]; exact hz, fun S nS => ?_⟩
          refine ⟨S, xs.map txt, rfl, upd_same, by rw [List.length_map]; exact hz, ?_⟩
          have e2 := Evl.Ex.new (o := SetT P w S (xs.map txt)) nS
          refine ⟨_, rfl, l, xs, rfl, .inl (sq_of (e2 _ _ (p1 _ _ h))), rfl, ?_⟩
          have eb : ringB xs = decide (V.int ((met (xs.map txt) (xs.map txt).length).length : Int) = V.int (xs.length : Int)) := by
            unfold ringB
            rw [ha, List.length_map, decide_eq_true (show 1 ≤ xs.length by omega), decide_eq_true (show xs.length ≤ 200 by omega)]
            simp only [Bool.true_and, V.int.injEq]
            congr 1
            exact propext ⟨fun z => by omega, fun z => by omega⟩
          rw [eb] at q
          exact q _ (p1.trans e2)
        · have ha : xs.all isS = false := by rw [List.all_map] at c2; exact c2
          have eb : ringB xs = false := by
            unfold ringB
            rw [ha]; simp
          rw [eb] at q
          exact q _ p1
end Cd

set_option Elab.async false
set_option linter.all false
set_option maxRecDepth 100000
set_option maxHeartbeats 4000000
namespace Cd
open PySem PySem.Spec PyProof.Rows L2 Tx Kp
open Evl (Ex sq_of ex_l sz_of sz_lt fresh_back)
/-! ### a ring laid out -/
def t_goes_next : TS :=
(tRet (tOp oMod (tOp oSub (tOp oAdd (tVar 2) (tVar 1)) (tC (.int 1))) (tVar 0)))
def sGN : Sp := fun vs H Q _ => ∃ m s g : Int, vs = [.int m, .int s, .int g] ∧ 0 < m ∧ Q (.int ((g + s - 1) % m)) H
theorem pure_goes_next {vs : List V} {H : Hp} {Q : VK} {E : XK} (h : sGN vs H Q E) : t_goes_next { nx := fun _ H' => Q .non H', rt := Q } (start ["many", "step", "begin"] vs) H := by
  obtain ⟨m, s, g, rfl, hm, q⟩ := h
  exact ⟨_, rfl, _, rfl, _, _, rfl, rfl, _, _, rfl, rfl, _, rfl, _, _, rfl, rfl, hm, q⟩
def t_check_laid (K : PySem.W.Frag) (CR CS CP : Addr) (E : XK) : TS :=
(tSeq (tIfS (tNot (tB (tCall (sIsRing K) [] E0 (tCons (tVar 0) tNil))))
  (tRaise CR E)
  tNext)
  (tSeq (tDrop (tCall (sCk1 K CS) [] E (tCons (tVar 1) (tCons (tC (.int (1000000000000000000000000000000000000000000000000000000000000))) tNil))))
  (tDrop (tCall (sCkP K CP) [] E (tCons (tVar 2) (tCons (tCB (rLenL K) (tCons (tVar 0) tNil)) tNil))))))
/-- what cannot be laid out -/
@[irreducible] def sLaid (K : PySem.W.Frag) (CR CS CP : Addr) : Sp := fun vs H Q E => ∃ h d b, vs = [h, d, b] ∧ ∃ rb, IsR K H h rb ∧ Typ K H d ∧ Typ K H b ∧
  (rb = false → ∀ H', Ex H H' → E (.ref CR) none H') ∧
  (rb = true → (whB d 1 big = false → ∀ H', Ex H H' → E (.ref CS) none H') ∧ ∀ s : Int, d = .int s → 1 ≤ s → s ≤ big → ∀ l xs, h = .ref l → H l = some (.lst xs) → xs.length ≤ 1000 →
    (whB b 0 ((xs.length : Int) - 1) = false → ∀ H', Ex H H' → E (.ref CP) none H') ∧ ∀ g : Nat, b = .int (g : Int) → g < xs.length → ∀ H', Ex H H' → Q .non H')
theorem pure_check_laid {K : PySem.W.Frag} {CR CS CP : Addr} {vs : List V} {H : Hp} {Q : VK} {E : XK} (h : sLaid K CR CS CP vs H Q E) : t_check_laid K CR CS CP E { nx := fun _ H' => Q .non H', rt := Q } (start ["hands", "step", "begin"] vs) H := by
  unfold sLaid at h
  obtain ⟨h, d, b, rfl, rb, hr, td, tb, q0, q⟩ := h
  refine ⟨_, rfl, h, rfl, rb, hr, fun H1 e1 => ⟨rb, rfl, iteC (fun c => ?_) (fun c => ?_)⟩⟩
  · have c1 : rb = false := by simpa using c
    exact q0 c1 H1 e1
  · have c1 : rb = true := by simpa using c
    have q := q c1
    refine ⟨_, rfl, d, _, rfl, td.ex e1, fun w1 => ?_, fun w1 => q.1 w1 H1 e1⟩
    obtain ⟨s, rfl, s1, s2⟩ := wh_int w1
    obtain ⟨l, xs, rfl, hl, hz⟩ : ∃ l xs, h = .ref l ∧ H l = some (.lst xs) ∧ xs.length ≤ 1000 := by
      cases hr with
      | no t m => cases c1
      | lst h hz _ => exact ⟨_, _, rfl, h, hz⟩
    have q := q.2 s rfl s1 s2 l xs rfl hl hz
    refine ⟨_, rfl, _, rfl, l, xs, rfl, .inl (sq_of (e1 _ _ hl)), b, _, rfl, tb.ex e1, fun w2 => ?_, fun w2 => q.1 w2 H1 e1⟩
    obtain ⟨g', rfl, g1, g2⟩ := wh_int w2
    obtain ⟨g, rfl⟩ : ∃ g : Nat, g' = (g : Int) := ⟨g'.toNat, by omega⟩
    exact q.2 g rfl (by omega) H1 e1
def t_counted_out (K : PySem.W.Frag) : TS :=
(tSeq (tAsg (tCB (rListOf K) (tCons (tVar 0) tNil)) (gName 3))
  (tSeq (tAsg (tLst tNil) (gName 4))
  (tSeq (tAsg (tVar 2) (gName 5))
  (tSeq (tWhile (tTru K (tVar 3))
  (tSeq (tAsg (tCall sGN [] E0 (tCons (tCB (rLenL K) (tCons (tVar 3) tNil)) (tCons (tVar 1) (tCons (tVar 5) tNil)))) (gName 5))
  (tDrop (tBM K "list" rAppend (tVar 4) (tCons (tBM K "list" rPopAt (tVar 3) (tCons (tVar 5) tNil)) tNil)))))
  (tRet (tVar 4))))))
/-- whatever stands there, in the order in which it goes -/
@[irreducible] def sCtd (K : PySem.W.Frag) : Sp := fun vs H Q _ => ∃ (l : Addr) (s : Int) (g : Nat) (xs : List V), vs = [.ref l, .int s, .int (g : Int)] ∧ H l = some (.lst xs) ∧ xs.length ≤ 1000 ∧ 1 ≤ s ∧ g ≤ xs.length ∧
  ∀ q H', H q = none → Ex H H' → H' q = some (.lst (Jos.out (s - 1).toNat xs.length (Jos.rot xs g))) → Q (.ref q) H'
def t_row_out (K : PySem.W.Frag) (CR CS CP : Addr) (E : XK) : TS :=
(tSeq (tDrop (tCall (sLaid K CR CS CP) [] E (tCons (tVar 0) (tCons (tVar 1) (tCons (tVar 2) tNil)))))
  (tRet (tCall (sCtd K) [] E0 (tCons (tVar 0) (tCons (tVar 1) (tCons (tVar 2) tNil))))))
/-- the list of those that go; the first refusal that is due -/
@[irreducible] def sRow (K : PySem.W.Frag) (CR CS CP : Addr) : Sp := fun vs H Q E => ∃ h d b, vs = [h, d, b] ∧ ∃ rb, IsR K H h rb ∧ Typ K H d ∧ Typ K H b ∧
  (rb = false → ∀ H', Ex H H' → E (.ref CR) none H') ∧
  (rb = true → (whB d 1 big = false → ∀ H', Ex H H' → E (.ref CS) none H') ∧ ∀ s : Int, d = .int s → 1 ≤ s → s ≤ big → ∀ l xs, h = .ref l → H l = some (.lst xs) →
    (whB b 0 ((xs.length : Int) - 1) = false → ∀ H', Ex H H' → E (.ref CP) none H') ∧ ∀ g : Nat, b = .int (g : Int) → g < xs.length →
      ∀ q H', H q = none → Ex H H' → H' q = some (.lst (Jos.out (s - 1).toNat xs.length (Jos.rot xs g))) → Q (.ref q) H')
theorem seq_at {n k : Nat} (h : k < n) : seqIndex? (k : Int) n = some k := by
  unfold seqIndex?
  simp
  omega
theorem pure_counted_out {K : PySem.W.Frag} {vs : List V} {H : Hp} {Q : VK} {E : XK} (h : sCtd K vs H Q E) : t_counted_out K { nx := fun _ H' => Q .non H', rt := Q } (start ["hands", "step", "begin", "left", "gone", "at"] vs) H := by
  unfold sCtd at h
  obtain ⟨l, s, g, xs, rfl, hl, hz, s1, hg, q⟩ := h
  refine ⟨_, rfl, l, xs, rfl, .inl (sq_of hl), fun w nw => ?_⟩
  have e2 := Evl.Ex.new (o := .lst xs) nw
  refine ⟨Nat.zero_le _, fun f nf => ?_⟩
  have e3 := Evl.Ex.new (o := .lst []) nf
  have ne : w ≠ f := fun z => by rw [← z, upd_same] at nf; cases nf
  have o0 : OutAt H (upd (upd H w (.lst xs)) f (.lst [])) f w [] xs := ⟨e2.trans e3, fresh_back e2 nf, nw, ne, upd_same, e3 _ _ upd_same⟩
  refine ⟨_, rfl, ?_⟩
  refine ⟨fun m σ H' => ∃ done left, ∃ a : Nat, σ = [some (.ref l), some (.int s), some (.int (g : Int)), some (.ref w), some (.ref f), some (.int (a : Int))] ∧ m = left.length ∧ OutAt H H' f w done left ∧ a ≤ left.length ∧ done.length + left.length ≤ 1000 ∧
    done ++ Jos.out (s - 1).toNat left.length (Jos.rot left a) = Jos.out (s - 1).toNat xs.length (Jos.rot xs g), ⟨xs.length, [], xs, g, rfl, rfl, o0, by omega, by simpa using hz, rfl⟩, ?_⟩
  intro m σ H' hW
  obtain ⟨done, left, a, rfl, rfl, o, ha, hz2, ho⟩ := hW
  refine ⟨_, rfl, !left.isEmpty, .inl ⟨left, sq_of o.hw, rfl⟩, iteC (fun c3 => ?_) (fun c3 => ?_)⟩
  rotate_left
  · have e0 : left = [] := by simpa using c3
    subst e0
    rw [← ho, List.length_nil, Jos.out, List.append_nil] at q
    exact ⟨_, rfl, q f _ o.nf o.ex o.hf⟩
  · have hpos : 0 < left.length := by
      rw [List.length_pos_iff]
      intro z
      rw [z] at c3
      cases c3
    refine ⟨fun σ2 H2 => ∃ m', m' < left.length ∧ ∃ done left, ∃ a : Nat, σ2 = [some (.ref l), some (.int s), some (.int (g : Int)), some (.ref w), some (.ref f), some (.int (a : Int))] ∧ m' = left.length ∧ OutAt H H2 f w done left ∧ a ≤ left.length ∧ done.length + left.length ≤ 1000 ∧
      done ++ Jos.out (s - 1).toNat left.length (Jos.rot left a) = Jos.out (s - 1).toNat xs.length (Jos.rot xs g), fun _ _ z => z, ?_⟩
    refine ⟨_, rfl, w, left, rfl, .inl (sq_of o.hw), _, rfl, _, rfl, _, _, _, rfl, (by omega), ?_⟩
    obtain ⟨j, hj, hjl, hjn⟩ : ∃ j : Nat, ((a : Int) + s - 1) % (left.length : Int) = (j : Int) ∧ j < left.length ∧ j = (a + (s - 1).toNat) % left.length := by
      refine ⟨(a + (s - 1).toNat) % left.length, ?_, Nat.mod_lt _ hpos, rfl⟩
      rw [Int.natCast_emod, Int.natCast_add, Int.toNat_of_nonneg (by omega)]
      congr 1
      omega
    dsimp only
    rw [hj]
    obtain ⟨x, hx⟩ : ∃ x, left[j]? = some x := ⟨_, List.getElem?_eq_getElem hjl⟩
    refine ⟨_, rfl, ty_l o.hf, _, rfl, ty_l o.hw, _, rfl, w, left, (j : Int), j, x, rfl, rfl, o.hw, by omega, by omega, seq_at hjl, hx, ?_⟩
    have o2 : OutAt H (upd H' w (.lst (left.eraseIdx j))) f w done (left.eraseIdx j) := o.setw
    have hel : (left.eraseIdx j).length = left.length - 1 := by rw [List.length_eraseIdx, if_pos hjl]
    refine ⟨f, done, x, rfl, rfl, o2.hf, sz_lt (by omega), ?_⟩
    refine ⟨(left.eraseIdx j).length, by rw [hel]; omega, done ++ [x], left.eraseIdx j, j, rfl, rfl, o2.setf, by rw [hel]; omega, by rw [hel]; simp; omega, ?_⟩
    rw [← ho, List.append_assoc]
    congr 1
    obtain ⟨k, hk⟩ : ∃ k, left.length = k + 1 := ⟨left.length - 1, by omega⟩
    have g3 := Jos.out_at (s := (s - 1).toNat) (a := a) (n := k) (l := left) hk ha (x := x) (by rw [← hjn]; exact hx)
    rw [← hjn] at g3
    rw [hel, hk, g3, Nat.add_sub_cancel]
    rfl
theorem pure_row_out {K : PySem.W.Frag} {CR CS CP : Addr} {vs : List V} {H : Hp} {Q : VK} {E : XK} (h : sRow K CR CS CP vs H Q E) : t_row_out K CR CS CP E { nx := fun _ H' => Q .non H', rt := Q } (start ["hands", "step", "begin"] vs) H := by
  unfold sRow at h
  obtain ⟨h, d, b, rfl, rb, hr, td, tb, q0, q⟩ := h
  refine ⟨_, rfl, _, rfl, _, rfl, ?_⟩
  show sLaid K CR CS CP [h, d, b] H _ E
  unfold sLaid
  refine ⟨h, d, b, rfl, rb, hr, td, tb, q0, fun c => ⟨(q c).1, fun s es s1 s2 l xs el hl hz => ⟨((q c).2 s es s1 s2 l xs el hl).1, fun g eg hg H1 e1 => ?_⟩⟩⟩
  subst es el eg
  have q := ((q c).2 s rfl s1 s2 l xs rfl hl).2 g rfl hg
  refine ⟨_, rfl, _, rfl, _, rfl, ?_⟩
  show sCtd K [.ref l, .int s, .int (g : Int)] H1 _ E0
  unfold sCtd
  exact ⟨l, s, g, xs, rfl, e1 _ _ hl, hz, s1, by omega, fun o H2 no e2 ho => q o H2 (fresh_back e1 no) (e1.trans e2) ho⟩
end Cd

set_option Elab.async false
set_option linter.all false
set_option maxRecDepth 100000
set_option maxHeartbeats 4000000
namespace Cd
open PySem PySem.Spec PyProof.Rows L2 Tx Kp
open Evl (Ex sq_of ex_l sz_of sz_lt fresh_back)
/-! ### the law's own hands -/
def t_hands (K : PySem.W.Frag) : TS :=
(tSeq (tAsg (tOp oMod (tCall sNext [] E0 (tCons (tVar 0) tNil)) (tC (.int 3))) (gName 2))
  (tSeq (tAsg (tM1 (rJoin K) (tC (.str "")) (tLc (iRng1 (tCons (tOp oMod (tCall sNext [] E0 (tCons (tVar 0) tNil)) (tC (.int 6))) tNil)) (gName 4) tYes (tCall sOf [] E0 (tCons (tVar 0) (tCons (tC (.str "abcxyz 019")) tNil))) [4])) (gName 3))
  (tSeq (tAsg (tLst tNil) (gName 5))
  (tSeq (tFor (iRng1 (tCons (tVar 1) tNil)) (gName 4)
  (tDrop (tBM K "list" rAppend (tVar 5) (tCons (tOp (rIxL K) (tLst (tCons (tOp oAddS (tVar 3) (tCB oStrI (tCons (tVar 4) tNil))) (tCons (tOp oAddS (tCB oStrI (tCons (tVar 4) tNil)) (tVar 3)) (tCons (tOp oAddS (tOp oMulS (tC (.str "a")) (tVar 4)) (tVar 3)) tNil)))) (tVar 2)) tNil))))
  (tRet (tSlS K (tVar 5) (tOp (rIxL K) (tLst (tCons (tC (.int 1)) (tCons (tUn oNeg (tC (.int 1))) tNil))) (tOp oMod (tCall sNext [] E0 (tCons (tVar 0) tNil)) (tC (.int 2))))))))))
def sHands : Sp := fun vs H Q _ => ∃ p, ∃ m : Nat, vs = [.ref p, .int (m : Int)] ∧ StAt H p ∧ m ≤ 402 ∧
  ∀ q H' zs, H q = none → Run p H H' → H' q = some (.lst (List.map V.str zs)) → zs.length = m → zs.Nodup → (∀ z ∈ zs, PyData.strOk z = true) → (∀ z ∈ zs, noE z) → Q (.ref q) H'
theorem signs_ok : ∀ c ∈ (Str.ofString "abcxyz 019").cps.toList, c < 0x110000 ∧ c ≠ 101 := by decide +kernel
theorem Run.mut {p q : Addr} {H H' : Hp} {o : HO} (r : Run p H H') (hq : H q = none) (n : q ≠ p) : Run p H (upd H' q o) := by
  refine ⟨fun b u nb e => ?_, ?_⟩
  · have nq : b ≠ q := fun z => by rw [z, hq] at e; cases e
    rw [upd_ne nq]; exact r.1 b u nb e
  · obtain ⟨s, h1, h2⟩ := r.2
    exact ⟨s, h1, by rw [upd_ne n.symm]; exact h2⟩
theorem pure_hands {K : PySem.W.Frag} {vs : List V} {H : Hp} {Q : VK} {E : XK} {nx : L2.St → Hp → Prop} (h : sHands vs H Q E) : t_hands K { nx := nx, rt := Q } (start ["_law_state_here", "_law_many", "_law_way", "_law_base", "_law_k", "_law_found"] vs) H := by
  obtain ⟨p, m, rfl, st, hm, q⟩ := h
  refine ⟨_, rfl, p, rfl, st, fun H1 n1 r1 _ _ => ⟨_, _, rfl, rfl, pos0 (by decide), ?_⟩⟩
  obtain ⟨way, hw, hw3⟩ : ∃ way : Nat, n1 % 3 = (way : Int) ∧ way < 3 := by
    have a1 : 0 ≤ n1 % 3 := Int.emod_nonneg _ (by decide)
    have a2 : n1 % 3 < 3 := Int.emod_lt_of_pos _ (by decide)
    exact ⟨(n1 % 3).toNat, by omega, by omega⟩
  dsimp only
  rw [hw]
  -- the base
  refine ⟨⟨_, rfl⟩, _, rfl, p, rfl, r1.2, fun H2 n2 r2 _ _ => ⟨_, _, rfl, rfl, pos0 (by decide), ?_⟩⟩
  obtain ⟨k6, hk6, hk65⟩ : ∃ k : Nat, n2 % 6 = (k : Int) ∧ k ≤ 5 := by
    have a1 : 0 ≤ n2 % 6 := Int.emod_nonneg _ (by decide)
    have a2 : n2 % 6 < 6 := Int.emod_lt_of_pos _ (by decide)
    exact ⟨(n2 % 6).toNat, by omega, by omega⟩
  refine ⟨n2 % 6, rfl, by omega, by omega, fun A nA => ?_⟩
  rw [hk6, Int.toNat_natCast]
  have rr2 : Run p H H2 := r1.trans r2
  have nAp : A ≠ p := r2.2.ne nA
  refine lc_range (lo := 0) (n := k6) (fun i H' => Run p H H' ∧ ∃ cs : List Nat, cs.length = i ∧ (∀ c ∈ cs, c < 0x110000 ∧ c ≠ 101) ∧ H' A = some (.lst (cs.map fun c => V.str ⟨#[c]⟩))) ⟨rr2.new nA, [], rfl, by simp, upd_same⟩ (fun i H' hi P => ?_) (fun H' P => ?_)
  · obtain ⟨r, cs, hcl, hcs, hA⟩ := P
    refine ⟨rfl, ?_⟩
    unfold tYes
    dsimp only
    rw [if_pos rfl]
    refine ⟨_, rfl, p, _, rfl, r.2, .inr ⟨_, rfl, by decide +kernel, by decide +kernel, fun H3 c r3 hc => ?_⟩⟩
    have hA3 := r3.keep nAp hA
    refine ⟨_, hA3, by rw [List.length_map]; exact sz_lt (by omega), (r.trans r3).mut (rr2.free nA) nAp, cs ++ [c], by simp [hcl], fun x hx => ?_, ?_⟩
    · rcases List.mem_append.mp hx with hx | hx
      · exact hcs x hx
      · rw [List.mem_singleton.mp hx]; exact signs_ok c hc
    · rw [upd_same, List.map_append]; rfl
  · obtain ⟨r, cs, hcl, hcs, hA⟩ := P
    have ex : (cs.map fun c => V.str ⟨#[c]⟩) = (cs.map fun c => (⟨#[c]⟩ : Str)).map V.str := by rw [List.map_map]; rfl
    rw [ex] at hA
    refine ⟨_, A, _, rfl, rfl, .inl (sq_of hA), ?_, ?_⟩
    · rw [List.length_map, show (Str.ofString "").length = 0 by decide +kernel, Nat.mul_zero, Nat.add_zero, List.map_map]
      have : ∀ l : List Nat, (l.map ((fun x : Str => x.length) ∘ fun c => (⟨#[c]⟩ : Str))).sum = l.length := by
        intro l
        induction l with
        | nil => rfl
        | cons c l ih => rw [List.map_cons, List.sum_cons, ih, List.length_cons]; show 1 + l.length = _; omega
      rw [this]; omega
    have hb := base_of (cs := cs) (by omega) fun c hc => (hcs c hc).1
    have hbe := join_noE (cs := cs) fun c hc => (hcs c hc).2
    generalize hbase : PySem.Txt.join (Str.ofString "") (cs.map fun c => (⟨#[c]⟩ : Str)) = base at hb hbe
    -- the hands
    refine ⟨Nat.zero_le _, fun F nF => ?_⟩
    have nFp : F ≠ p := r.2.ne nF
    have hF0 : H F = none := r.free nF
    refine ⟨_, rfl, (m : Int), rfl, by omega, by omega, ?_⟩
    rw [Int.toNat_natCast]
    refine for_range (lo := 0) (n := m) (fun i σ H' => ∃ y4, σ = [some (.ref p), some (.int (m : Int)), some (.int (way : Int)), some (.str base), y4, some (.ref F)] ∧ Run p H H' ∧ H' F = some (.lst (((List.range i).map (handAt way base)).map V.str))) ⟨_, rfl, r.new nF, upd_same⟩ ?_ ?_
    · intro i σ H4 hi P
      obtain ⟨y4, rfl, r4, hF⟩ := P
      have hi2 : i < 402 := by omega
      have f := sk_facts i hi2
      have lg : ((i : Int)).natAbs.log2 < 1920 := Nat.lt_of_le_of_lt (Nat.log2_le_self _) (by omega)
      have ei : ((0 : Int) + (i : Int)) = (i : Int) := Int.zero_add _
      show tDrop _ _ [some (.ref p), some (.int (m : Int)), some (.int (way : Int)), some (.str base), some (.int ((0 : Int) + (i : Int))), some (.ref F)] H4
      rw [ei]
      have bl := hb.len
      refine ⟨_, rfl, ty_l hF, _, rfl, _, rfl, _, rfl, lg, _, _, rfl, rfl, ?_, ?_⟩
      · show base.length + (sk i).length ≤ sizeLine
        exact sz_of (by omega)
      refine ⟨_, rfl, _, rfl, lg, _, rfl, _, _, rfl, rfl, ?_, ?_⟩
      · show (sk i).length + base.length ≤ sizeLine
        exact sz_of (by omega)
      refine ⟨_, rfl, _, i, rfl, rfl, by decide +kernel, by omega, _, rfl, _, _, rfl, rfl, ?_, ?_⟩
      · show (PySem.Txt.mul sa (i : Int)).length + base.length ≤ sizeLine
        rw [mul_len]
        exact sz_of (by omega)
      refine ⟨(by decide : 3 ≤ sizeLine), fun T nT => ?_⟩
      have eT := Evl.Ex.new (o := .lst [.str (base ++ sk i), .str (sk i ++ base), .str (PySem.Txt.mul sa (i : Int) ++ base)]) nT
      refine ⟨_, rfl, T, _, _, .str (handAt way base i), rfl, rfl, sq_of upd_same, ?_, F, _, _, rfl, rfl, eT _ _ hF, ?_, ?_⟩
      · rcases (by omega : way = 0 ∨ way = 1 ∨ way = 2) with rfl | rfl | rfl <;> rfl
      · rw [List.length_map, List.length_map, List.length_range]; exact sz_lt (by omega)
      · refine ⟨_, rfl, (r4.new nT).mut hF0 nFp, ?_⟩
        rw [upd_same, List.range_succ, List.map_append, List.map_append]; rfl
    · intro σ H4 P
      obtain ⟨y4, rfl, r4, hF⟩ := P
      refine ⟨_, rfl, _, rfl, (by decide : 2 ≤ sizeLine), fun T nT => ?_⟩
      have r5 := r4.new (o := .lst [.int 1, .int (-1)]) nT
      have eT := Evl.Ex.new (o := .lst [.int 1, .int (-1)]) nT
      refine ⟨_, rfl, p, rfl, r5.2, fun H6 n6 r6 _ _ => ⟨_, _, rfl, rfl, pos0 (by decide), ?_⟩⟩
      have hT6 := r6.keep (r4.2.ne nT) (show upd H4 T (.lst [.int 1, .int (-1)]) T = some _ from upd_same)
      have hF6 := r6.keep nFp (eT _ _ hF)
      have fin : ∀ k : Int, k = 1 ∨ k = -1 → ∃ a xs, ∃ k2 : Int, V.ref F = .ref a ∧ V.int k = .int k2 ∧ (k2 = 1 ∨ k2 = -1) ∧ SqL K H6 a xs ∧ ∀ t, H6 t = none → Q (.ref t) (upd H6 t (.lst (if k2 = 1 then xs else xs.reverse))) := by
        intro k hk
        refine ⟨F, _, k, rfl, rfl, hk, sq_of hF6, fun t nt => ?_⟩
        have rr := r5.trans r6
        have e7 := Evl.Ex.new (o := .lst (if k = 1 then ((List.range m).map (handAt way base)).map V.str else (((List.range m).map (handAt way base)).map V.str).reverse)) nt
        have ok : ∀ z ∈ (List.range m).map (handAt way base), PyData.strOk z = true := fun z hz => by
          obtain ⟨k, hk, rfl⟩ := List.mem_map.mp hz
          have := List.mem_range.mp hk
          exact hand_ok hb (by omega)
        have ne : ∀ z ∈ (List.range m).map (handAt way base), noE z := fun z hz => by
          obtain ⟨k, hk, rfl⟩ := List.mem_map.mp hz
          have := List.mem_range.mp hk
          exact hand_noE hbe (by omega)
        rcases hk with rfl | rfl
        · exact q t _ ((List.range m).map (handAt way base)) (rr.free nt) (rr.trans (Run.ex rr.2 e7)) upd_same (by simp) (hands_nodup way base hm) ok ne
        · refine q t _ ((List.range m).map (handAt way base)).reverse (rr.free nt) (rr.trans (Run.ex rr.2 e7)) ?_ (by simp) ((List.reverse_perm _).nodup_iff.mpr (hands_nodup way base hm)) (fun z hz => ok z (List.mem_reverse.mp hz)) fun z hz => ne z (List.mem_reverse.mp hz)
          rw [upd_same, List.map_reverse]; rfl
      have h2 : n6 % 2 = 0 ∨ n6 % 2 = 1 := by omega
      rcases h2 with h2 | h2
      · refine ⟨T, _, _, .int 1, rfl, rfl, sq_of hT6, ?_, fin 1 (.inl rfl)⟩
        rw [h2]; rfl
      · refine ⟨T, _, _, .int (-1), rfl, rfl, sq_of hT6, ?_, fin (-1) (.inr rfl)⟩
        rw [h2]; rfl
end Cd

set_option Elab.async false
set_option linter.all false
set_option maxRecDepth 100000
set_option maxHeartbeats 4000000
namespace Cd
open PySem PySem.Spec PyProof.Rows L2 Tx Kp
open Evl (Ex sq_of ex_l sz_of sz_lt fresh_back)
/-! ### eighteen things that are no rings -/
/-- what came new stands -/
def New (H H' H'' : Hp) : Prop := ∀ b o, H b = none → H' b = some o → H'' b = some o
theorem it_s {K : PySem.W.Frag} {H : Hp} {z : Str} : Typ K H (.str z) ∧ (isS (.str z) = true ∨ ∃ T : String, TyX K H (.str z) (.type T) ∧ T ∈ ["NoneType", "bool", "int", "list", "tuple", "dict"]) := ⟨Typ.str, .inl rfl⟩
theorem it_i {K : PySem.W.Frag} {H : Hp} {i : Int} : Typ K H (.int i) ∧ (isS (.int i) = true ∨ ∃ T : String, TyX K H (.int i) (.type T) ∧ T ∈ ["NoneType", "bool", "int", "list", "tuple", "dict"]) := ⟨Typ.int, .inr ⟨"int", .base (.int i), by decide⟩⟩
theorem it_n {K : PySem.W.Frag} {H : Hp} : Typ K H .non ∧ (isS .non = true ∨ ∃ T : String, TyX K H .non (.type T) ∧ T ∈ ["NoneType", "bool", "int", "list", "tuple", "dict"]) := ⟨Typ.non, .inr ⟨"NoneType", .base .non, by decide⟩⟩
theorem it_b {K : PySem.W.Frag} {H : Hp} {b : Bool} : Typ K H (.bl b) ∧ (isS (.bl b) = true ∨ ∃ T : String, TyX K H (.bl b) (.type T) ∧ T ∈ ["NoneType", "bool", "int", "list", "tuple", "dict"]) := ⟨Typ.bl, .inr ⟨"bool", .base (.bl b), by decide⟩⟩
theorem it_l {K : PySem.W.Frag} {H : Hp} {a : Addr} {xs : List V} (h : H a = some (.lst xs)) : Typ K H (.ref a) ∧ (isS (.ref a) = true ∨ ∃ T : String, TyX K H (.ref a) (.type T) ∧ T ∈ ["NoneType", "bool", "int", "list", "tuple", "dict"]) := ⟨Typ.lst h, .inr ⟨"list", .base (.lst h), by decide⟩⟩
theorem it_t {K : PySem.W.Frag} {H : Hp} {a : Addr} {xs : List V} (h : H a = some (.tup xs)) : Typ K H (.ref a) ∧ (isS (.ref a) = true ∨ ∃ T : String, TyX K H (.ref a) (.type T) ∧ T ∈ ["NoneType", "bool", "int", "list", "tuple", "dict"]) := ⟨Typ.tup h, .inr ⟨"tuple", .base (.tup h), by decide⟩⟩
theorem no_ring {K : PySem.W.Frag} {H : Hp} {l : Addr} {xs : List V} (h : H l = some (.lst xs)) (hb : ringB xs = false) (hz : xs.length ≤ 1000) (ht : ∀ v ∈ xs, Typ K H v ∧ (isS v = true ∨ ∃ T : String, TyX K H v (.type T) ∧ T ∈ ["NoneType", "bool", "int", "list", "tuple", "dict"])) : IsR K H (.ref l) false := by
  have r := IsR.lst h hz ht
  rw [hb] at r
  exact r
def t_odd (K : PySem.W.Frag) : TS :=
(tSeq (tAsg (tLst (tCons (tC .non) (tCons (tC (.int 7)) (tCons (tC (.str "ab")) (tCons (tTup (tCons (tC (.str "a")) (tCons (tC (.str "b")) tNil))) (tCons (tLst tNil) (tCons (tLst (tCons (tC (.str "a")) (tCons (tC (.str "a")) tNil))) (tCons (tLst (tCons (tC (.str "a")) (tCons (tC (.int 1)) tNil))) (tCons (tLst (tCons (tC .non) tNil)) (tCons (tLst (tCons (tC (.str "a")) (tCons (tC (.str "b")) (tCons (tC (.str "a")) tNil)))) (tCons tDNewK (tCons (tDisp (((tC (.str "a")), (tC (.int 1))) :: [])) (tCons (tC (.bl true)) (tCons (tLst (tCons (tLst (tCons (tC (.str "a")) tNil)) tNil)) tNil)))))))))))))) (gName 1))
  (tSeq (tAsg (tLc (iRng1 (tCons (tC (.int 201)) tNil)) (gName 3) tYes (tCB oStrI (tCons (tVar 3) tNil)) [3]) (gName 2))
  (tRet (tOp (rIxL K) (tOp rCat (tVar 1) (tLst (tCons (tVar 2) (tCons (tLst (tCons (tC (.bl true)) (tCons (tC (.str "a")) tNil))) (tCons (tLst (tCons (tC (.str "")) (tCons (tC (.str "")) tNil))) (tCons (tLst (tCons (tTup (tCons (tC (.str "a")) tNil)) tNil)) (tCons (tOp rCat (tSl (rSlL K) (tVar 2) tNoPart (tPart (tC (.int 200)))) (tLst (tCons (tC (.str "7")) tNil))) tNil))))))) (tOp oMod (tVar 0) (tC (.int 18)))))))
def sOdd (K : PySem.W.Frag) : Sp := fun vs H Q _ => ∃ c : Int, vs = [.int c] ∧ ∀ v H', Ex H H' → (∀ H'', New H H' H'' → IsR K H'' v false) → Q v H'
structure OddS (H G : Hp) (so t1 l2 l3 l4 l5 l6 d7 d8 l9 l10 : Addr) : Prop where
  ex : Ex H G
  n1 : H t1 = none
  n2 : H l2 = none
  n3 : H l3 = none
  n4 : H l4 = none
  n5 : H l5 = none
  n6 : H l6 = none
  n7 : H d7 = none
  n8 : H d8 = none
  n9 : H l9 = none
  n10 : H l10 = none
  c1 : G t1 = some (.tup [.str "a", .str "b"])
  c2 : G l2 = some (.lst [])
  c3 : G l3 = some (.lst [.str "a", .str "a"])
  c4 : G l4 = some (.lst [.str "a", .int 1])
  c5 : G l5 = some (.lst [.non])
  c6 : G l6 = some (.lst [.str "a", .str "b", .str "a"])
  c7 : G d7 = some (.dK [])
  c8 : G d8 = some (.dK (mergeK [] [(Sum.inr "a", .int 1)]))
  c9 : G l9 = some (.lst [.str "a"])
  c10 : G l10 = some (.lst [.ref l9])
  cso : G so = some (.lst [.non, .int 7, .str "ab", .ref t1, .ref l2, .ref l3, .ref l4, .ref l5, .ref l6, .ref d7, .ref d8, .bl true, .ref l10])
theorem odd_rest {K : PySem.W.Frag} {H G : Hp} {so t1 l2 l3 l4 l5 l6 d7 d8 l9 l10 : Addr} (S : OddS H G so t1 l2 l3 l4 l5 l6 d7 d8 l9 l10) {c : Int} {Q : VK} {nx : L2.St → Hp → Prop} (q : ∀ v H', Ex H H' → (∀ H'', New H H' H'' → IsR K H'' v false) → Q v H') :
  (tSeq (tAsg (tLc (iRng1 (tCons (tC (.int 201)) tNil)) (gName 3) tYes (tCB oStrI (tCons (tVar 3) tNil)) [3]) (gName 2))
  (tRet (tOp (rIxL K) (tOp rCat (tVar 1) (tLst (tCons (tVar 2) (tCons (tLst (tCons (tC (.bl true)) (tCons (tC (.str "a")) tNil))) (tCons (tLst (tCons (tC (.str "")) (tCons (tC (.str "")) tNil))) (tCons (tLst (tCons (tTup (tCons (tC (.str "a")) tNil)) tNil)) (tCons (tOp rCat (tSl (rSlL K) (tVar 2) tNoPart (tPart (tC (.int 200)))) (tLst (tCons (tC (.str "7")) tNil))) tNil))))))) (tOp oMod (tVar 0) (tC (.int 18)))))) { nx := nx, rt := Q } [some (.int c), some (.ref so), none, none] G := by
  refine ⟨201, rfl, by decide, by decide, fun A nA => ?_⟩
  refine lc_range (lo := 0) (n := 201) (fun i H' => Ex G H' ∧ H' A = some (.lst (((List.range i).map sk).map V.str))) ⟨Evl.Ex.new nA, upd_same⟩ (fun i H' hi P => ?_) (fun G1 P => ?_)
  · obtain ⟨p1, p2⟩ := P
    refine ⟨rfl, ?_⟩
    unfold tYes
    dsimp only
    rw [if_pos rfl]
    have ei : ((0 : Int) + (i : Int)) = (i : Int) := Int.zero_add _
    rw [ei]
    refine ⟨_, rfl, (i : Int), rfl, Nat.lt_of_le_of_lt (Nat.log2_le_self _) (by omega), _, p2, by rw [List.length_map, List.length_map, List.length_range]; exact sz_lt (by omega), Evl.Ex.mut p1 nA, ?_⟩
    rw [upd_same, List.range_succ, List.map_append, List.map_append]; rfl
  · obtain ⟨p1, hA⟩ := P
    have xG : Ex H G1 := S.ex.trans p1
    have d2 : 2 ≤ sizeLine := by decide
    have d1 : 1 ≤ sizeLine := by decide
    refine ⟨_, rfl, _, rfl, d2, fun l11 n11 => ⟨d2, fun l12 n12 => ⟨d1, fun t13 n13 => ⟨d1, fun l14 n14 => ⟨_, rfl, 200, rfl, A, ((List.range 201).map sk).map V.str, rfl, ?_, fun s15 n15 => ⟨d1, fun l16 n16 => ?_⟩⟩⟩⟩⟩⟩
    · exact (Evl.Ex.new n11).trans ((Evl.Ex.new n12).trans ((Evl.Ex.new n13).trans (Evl.Ex.new n14))) |> fun e => sq_of (e _ _ hA)
    have e11 := Evl.Ex.new (o := .lst [.bl true, .str "a"]) n11
    have e12 := Evl.Ex.new (o := .lst [.str "", .str ""]) n12
    have e13 := Evl.Ex.new (o := .tup [.str "a"]) n13
    have e14 := Evl.Ex.new (o := .lst [.ref t13]) n14
    have e15 := Evl.Ex.new (o := .lst (cutV (((List.range 201).map sk).map V.str) none (some 200))) n15
    have e16 := Evl.Ex.new (o := .lst [.str "7"]) n16
    have hcut : cutV (((List.range 201).map sk).map V.str) none (some ((200 : Nat) : Int)) = (((List.range 201).map sk).map V.str).take 200 := cut_to (by simp)
    refine ⟨s15, l16, _, _, rfl, rfl, e16 _ _ upd_same, upd_same, ?_, fun l17 n17 => ?_⟩
    · rw [show (200 : Int) = ((200 : Nat) : Int) from rfl, hcut]
      exact sz_of (by simp)
    have e17 := Evl.Ex.new (o := .lst (cutV (((List.range 201).map sk).map V.str) none (some 200) ++ [.str "7"])) n17
    refine ⟨(by decide : 5 ≤ sizeLine), fun u nu => ?_⟩
    have eu := Evl.Ex.new (o := .lst [.ref A, .ref l11, .ref l12, .ref l14, .ref l17]) nu
    have g17 := e17.trans eu
    have g14 := e15.trans (e16.trans g17)
    have g13 := e14.trans g14
    have g12 := e13.trans g13
    have g11 := e12.trans g12
    have gA := e11.trans g11
    have xs : Ex G _ := p1.trans gA
    have mA : H A = none := fresh_back S.ex nA
    have m11 := fresh_back xG n11
    have m12 := fresh_back (xG.trans e11) n12
    have m13 := fresh_back (xG.trans (e11.trans e12)) n13
    have m14 := fresh_back (xG.trans (e11.trans (e12.trans e13))) n14
    have m17 := fresh_back (xG.trans (e11.trans (e12.trans (e13.trans (e14.trans (e15.trans e16)))))) n17
    have cA := gA _ _ hA
    have c11 := g11 _ _ (show _ = some (HO.lst [.bl true, .str "a"]) from upd_same)
    have c12 := g12 _ _ (show _ = some (HO.lst [.str "", .str ""]) from upd_same)
    have c13 := g13 _ _ (show _ = some (HO.tup [.str "a"]) from upd_same)
    have c14 := g14 _ _ (show _ = some (HO.lst [.ref t13]) from upd_same)
    have c17 := eu _ _ (show _ = some (HO.lst (cutV (((List.range 201).map sk).map V.str) none (some 200) ++ [.str "7"])) from upd_same)
    refine ⟨so, u, _, _, rfl, rfl, xs _ _ S.cso, upd_same, (by decide : 13 + 5 ≤ sizeLine), fun r nr => ?_⟩
    have er := Evl.Ex.new (o := .lst ([V.non, .int 7, .str "ab", .ref t1, .ref l2, .ref l3, .ref l4, .ref l5, .ref l6, .ref d7, .ref d8, .bl true, .ref l10] ++ [.ref A, .ref l11, .ref l12, .ref l14, .ref l17])) nr
    refine ⟨_, rfl, _, _, rfl, rfl, pos0 (by decide), ?_⟩
    obtain ⟨v, hv, ha⟩ := at_mod (n := c) (xs := [V.non, .int 7, .str "ab", .ref t1, .ref l2, .ref l3, .ref l4, .ref l5, .ref l6, .ref d7, .ref d8, .bl true, .ref l10] ++ [.ref A, .ref l11, .ref l12, .ref l14, .ref l17]) (by simp)
    refine ⟨r, _, _, v, rfl, rfl, sq_of upd_same, ha, q v _ (S.ex.trans (xs.trans er)) fun H'' nw => ?_⟩
    have up : ∀ {b : Addr} {o : HO}, H b = none → _ = some o → H'' b = some o := fun {b o} h1 h2 => nw b o h1 (er b o h2)
    have upG : ∀ {b : Addr} {o : HO}, H b = none → G b = some o → H'' b = some o := fun {b o} h1 h2 => nw b o h1 (er b o (xs b o h2))
    simp only [List.cons_append, List.nil_append, List.mem_cons, List.not_mem_nil, or_false] at hv
    have one : ∀ {b : Addr} {xs : List V}, H'' b = some (.lst xs) → ringB xs = false → xs.length ≤ 1000 → (∀ v ∈ xs, Typ K H'' v ∧ (isS v = true ∨ ∃ T : String, TyX K H'' v (.type T) ∧ T ∈ ["NoneType", "bool", "int", "list", "tuple", "dict"])) → IsR K H'' (.ref b) false := fun a b c d => no_ring a b c d
    have texts : ∀ {ys : List Str}, ∀ v ∈ ys.map V.str, Typ K H'' v ∧ (isS v = true ∨ ∃ T : String, TyX K H'' v (.type T) ∧ T ∈ ["NoneType", "bool", "int", "list", "tuple", "dict"]) := fun v hv => by
      obtain ⟨y, _, rfl⟩ := List.mem_map.mp hv
      exact it_s
    rcases hv with rfl | rfl | rfl | rfl | rfl | rfl | rfl | rfl | rfl | rfl | rfl | rfl | rfl | rfl | rfl | rfl | rfl | rfl
    · exact .no (.base .non) (by decide)
    · exact .no (.base (.int 7)) (by decide)
    · exact .no (.base (.str _)) (by decide)
    · exact .no (.base (.tup (upG S.n1 S.c1))) (by decide)
    · exact one (upG S.n2 S.c2) (by decide +kernel) (by decide) (by simp)
    · exact one (upG S.n3 S.c3) (by decide +kernel) (by decide) fun v hv => by
        simp only [List.mem_cons, List.not_mem_nil, or_false] at hv
        rcases hv with rfl | rfl <;> exact it_s
    · exact one (upG S.n4 S.c4) (by decide +kernel) (by decide) fun v hv => by
        simp only [List.mem_cons, List.not_mem_nil, or_false] at hv
        rcases hv with rfl | rfl
        · exact it_s
        · exact it_i
    · exact one (upG S.n5 S.c5) (by decide +kernel) (by decide) fun v hv => by
        rw [List.mem_singleton.mp hv]; exact it_n
    · exact one (upG S.n6 S.c6) (by decide +kernel) (by decide) fun v hv => by
        simp only [List.mem_cons, List.not_mem_nil, or_false] at hv
        rcases hv with rfl | rfl | rfl <;> exact it_s
    · exact .no (.base (.dK (upG S.n7 S.c7))) (by decide)
    · exact .no (.base (.dK (upG S.n8 S.c8))) (by decide)
    · exact .no (.base (.bl true)) (by decide)
    · refine one (upG S.n10 S.c10) rfl (by simp) fun v hv => ?_
      rw [List.mem_singleton.mp hv]
      exact it_l (upG S.n9 S.c9)
    · exact one (up mA cA) (by unfold ringB; rw [List.length_map, List.length_map, List.length_range]; rfl) (by simp) texts
    · exact one (up m11 c11) rfl (by decide) fun v hv => by
        simp only [List.mem_cons, List.not_mem_nil, or_false] at hv
        rcases hv with rfl | rfl
        · exact it_b
        · exact it_s
    · exact one (up m12 c12) (by decide +kernel) (by decide) fun v hv => by
        simp only [List.mem_cons, List.not_mem_nil, or_false] at hv
        rcases hv with rfl | rfl <;> exact it_s
    · refine one (up m14 c14) rfl (by simp) fun v hv => ?_
      rw [List.mem_singleton.mp hv]
      exact it_t (up m13 c13)
    · rw [show (200 : Int) = ((200 : Nat) : Int) from rfl, hcut] at c17
      have el : ((((List.range 201).map sk).map V.str).take 200 ++ [V.str "7"]).length = 201 := by simp
      refine one (up m17 c17) (by unfold ringB; rw [el]; rfl) (by rw [el]; decide) fun v hv => ?_
      rcases List.mem_append.mp hv with hv | hv
      · exact texts v (List.mem_of_mem_take hv)
      · rw [List.mem_singleton.mp hv]; exact it_s
theorem pure_odd {K : PySem.W.Frag} {vs : List V} {H : Hp} {Q : VK} {E : XK} {nx : L2.St → Hp → Prop} (h : sOdd K vs H Q E) : t_odd K { nx := nx, rt := Q } (start ["_law_cell", "_law_some", "_law_many", "_law_k"] vs) H := by
  obtain ⟨c, rfl, q⟩ := h
  have d2 : 2 ≤ sizeLine := by decide
  have d1 : 1 ≤ sizeLine := by decide
  refine ⟨d2, fun t1 n1 => ⟨Nat.zero_le _, fun l2 n2 => ⟨d2, fun l3 n3 => ⟨d2, fun l4 n4 => ⟨d1, fun l5 n5 => ⟨(by decide : 3 ≤ sizeLine), fun l6 n6 => fun d7 n7 => fun d8 n8 => ⟨upd_same, [(Sum.inr "a", .int 1)], rfl, by decide, ?_⟩⟩⟩⟩⟩⟩⟩
  refine ⟨d1, fun l9 n9 => ⟨d1, fun l10 n10 => ⟨(by decide : 13 ≤ sizeLine), fun so nso => ?_⟩⟩⟩
  have e1 := Evl.Ex.new (o := .tup [.str "a", .str "b"]) n1
  have e2 := Evl.Ex.new (o := .lst []) n2
  have e3 := Evl.Ex.new (o := .lst [.str "a", .str "a"]) n3
  have e4 := Evl.Ex.new (o := .lst [.str "a", .int 1]) n4
  have e5 := Evl.Ex.new (o := .lst [.non]) n5
  have e6 := Evl.Ex.new (o := .lst [.str "a", .str "b", .str "a"]) n6
  have e7 := Evl.Ex.new (o := .dK []) n7
  have e8 := Evl.Ex.mut (o := .dK (mergeK [] [(Sum.inr "a", .int 1)])) (Evl.Ex.new (o := .dK []) n8) n8
  have e9 := Evl.Ex.new (o := .lst [.str "a"]) n9
  have e10 := Evl.Ex.new (o := .lst [.ref l9]) n10
  have e11 := Evl.Ex.new (o := .lst [.non, .int 7, .str "ab", .ref t1, .ref l2, .ref l3, .ref l4, .ref l5, .ref l6, .ref d7, .ref d8, .bl true, .ref l10]) nso
  have g11 := e10.trans e11
  have g10 := e9.trans g11
  have g9 := e8.trans g10
  have g8 := e7.trans g9
  have g7 := e6.trans g8
  have g6 := e5.trans g7
  have g5 := e4.trans g6
  have g4 := e3.trans g5
  have g3 := e2.trans g4
  have g2 := e1.trans g3
  -- all of them new
  have m1 : H t1 = none := n1
  have m2 := fresh_back e1 n2
  have m3 := fresh_back (e1.trans e2) n3
  have m4 := fresh_back (e1.trans (e2.trans e3)) n4
  have m5 := fresh_back (e1.trans (e2.trans (e3.trans e4))) n5
  have m6 := fresh_back (e1.trans (e2.trans (e3.trans (e4.trans e5)))) n6
  have m7 := fresh_back (e1.trans (e2.trans (e3.trans (e4.trans (e5.trans e6))))) n7
  have m8 := fresh_back (e1.trans (e2.trans (e3.trans (e4.trans (e5.trans (e6.trans e7)))))) n8
  have m9 := fresh_back (e1.trans (e2.trans (e3.trans (e4.trans (e5.trans (e6.trans (e7.trans e8))))))) n9
  have m10 := fresh_back (e1.trans (e2.trans (e3.trans (e4.trans (e5.trans (e6.trans (e7.trans (e8.trans e9)))))))) n10
  have c1 := g3 _ _ (upd_same (H := H) (a := t1) (o := .tup [.str "a", .str "b"]))
  have c2 := g4 _ _ (show _ = some (HO.lst []) from upd_same)
  have c3 := g5 _ _ (show _ = some (HO.lst [.str "a", .str "a"]) from upd_same)
  have c4 := g6 _ _ (show _ = some (HO.lst [.str "a", .int 1]) from upd_same)
  have c5 := g7 _ _ (show _ = some (HO.lst [.non]) from upd_same)
  have c6 := g8 _ _ (show _ = some (HO.lst [.str "a", .str "b", .str "a"]) from upd_same)
  have c7 := g9 _ _ (show _ = some (HO.dK []) from upd_same)
  have c8 := g10 _ _ (show _ = some (HO.dK (mergeK [] [(Sum.inr "a", .int 1)])) from upd_same)
  have c9 := g11 _ _ (show _ = some (HO.lst [.str "a"]) from upd_same)
  have c10 := e11 _ _ (show _ = some (HO.lst [.ref l9]) from upd_same)
  exact odd_rest ⟨g2, m1, m2, m3, m4, m5, m6, m7, m8, m9, m10, c1, c2, c3, c4, c5, c6, c7, c8, c9, c10, upd_same⟩ q
end Cd

set_option Elab.async false
set_option linter.all false
set_option maxRecDepth 100000
set_option maxHeartbeats 4000000
namespace Cd
open PySem PySem.Spec PyProof.Rows L2 Tx Kp
open Evl (Ex sq_of ex_l sz_of sz_lt fresh_back)
theorem sRow.imp {K : PySem.W.Frag} {CR CS CP : Addr} {vs : List V} {H : Hp} {Q : VK} {E E' : XK} (h : sRow K CR CS CP vs H Q E) (g : ∀ cls d H', E cls d H' → E' cls d H') : sRow K CR CS CP vs H Q E' := by
  unfold sRow at *
  obtain ⟨h, d, b, e, rb, hr, td, tb, q0, q⟩ := h
  refine ⟨h, d, b, e, rb, hr, td, tb, fun a H' x => g _ _ _ (q0 a H' x), fun a => ?_⟩
  obtain ⟨q1, q2⟩ := q a
  refine ⟨fun a H' x => g _ _ _ (q1 a H' x), fun s es s1 s2 l xs el hl => ?_⟩
  obtain ⟨q3, q4⟩ := q2 s es s1 s2 l xs el hl
  exact ⟨fun a H' x => g _ _ _ (q3 a H' x), q4⟩
theorem row_right {K : PySem.W.Frag} {CR CS CP l : Addr} {zs : List Str} {s : Int} {g : Nat} {H : Hp} {Q : VK} {E : XK} (hl : H l = some (.lst (zs.map V.str))) (h1 : 1 ≤ zs.length) (h2 : zs.length ≤ 200) (hn : zs.Nodup) (s1 : 1 ≤ s) (s2 : s ≤ big) (hg : g < zs.length)
    (q : ∀ q H', H q = none → Ex H H' → H' q = some (.lst ((Jos.out (s - 1).toNat zs.length (Jos.rot zs g)).map V.str)) → Q (.ref q) H') : sRow K CR CS CP [.ref l, .int s, .int (g : Int)] H Q E := by
  unfold sRow
  refine ⟨_, _, _, rfl, _, IsR.texts hl (by omega), Typ.int, Typ.int, fun e => ?_, fun _ => ⟨fun e => ?_, fun s' es _ _ l' xs el hl' => ?_⟩⟩
  · rw [ringB_texts h1 h2 hn] at e; cases e
  · rw [wh_of s1 s2] at e; cases e
  · cases es
    cases el
    rw [hl] at hl'
    cases hl'
    refine ⟨fun e => ?_, fun g' eg hg' q1 H' nq ex hq => ?_⟩
    · rw [List.length_map, wh_of (by omega) (by omega)] at e; cases e
    · have : g' = g := by have := V.int.inj eg; omega
      subst this
      rw [List.length_map, Jos.rot_map, Jos.out_map] at hq
      exact q q1 H' nq ex hq
def t_told (K : PySem.W.Frag) (C : Cs) : TS :=
(tSeq (tTryK K C.err 3 4 (fun W => (tRet (tCallS (sRow K C.ring C.step C.place) (WE W) (tCons (tVar 0) (tCons (tVar 1) (tCons (tVar 2) tNil)))))))
  (tRet (tCall (sErr K C) [] E0 (tCons (tVar 4) tNil))))
/-- what is told, or the refusal's word -/
def sTold (K : PySem.W.Frag) (C : Cs) : Sp := fun vs H Q _ => ∃ h d b, vs = [h, d, b] ∧ sRow K C.ring C.step C.place [h, d, b] H Q fun cls dd H' => dd = none ∧ ∃ k, cls = .ref (C.on k) ∧ ∀ H'', Ex H' H'' → Q (.str k.word) H''
theorem pure_told {K : PySem.W.Frag} {C : Cs} (F : ErrF K C) {vs : List V} {H : Hp} {Q : VK} {E : XK} {nx : L2.St → Hp → Prop} (h : sTold K C vs H Q E) : t_told K C { nx := nx, rt := Q } (start ["_law_hands_here", "_law_step_here", "_law_begin", "_law_e", "_law_error_here"] vs) H := by
  obtain ⟨h, d, b, rfl, hr⟩ := h
  refine ⟨_, rfl, _, rfl, _, rfl, ?_⟩
  show sRow K C.ring C.step C.place [h, d, b] H _ _
  refine hr.imp fun cls dd H' e => ?_
  obtain ⟨ed, k, ec, qq⟩ := e
  subst ed ec
  refine ⟨rfl, F.caught k, fun a na => ?_⟩
  exact ⟨_, rfl, a, k, rfl, upd_same, fun H'' ex => qq H'' ((Evl.Ex.new na).trans ex)⟩
theorem told_ring {K : PySem.W.Frag} {C : Cs} {h d b : V} {H : Hp} {Q : VK} {E : XK} (hr : IsR K H h false) (td : Typ K H d) (tb : Typ K H b) (q : ∀ H', Ex H H' → Q (.str "ring") H') : sTold K C [h, d, b] H Q E := by
  refine ⟨_, _, _, rfl, ?_⟩
  unfold sRow
  refine ⟨_, _, _, rfl, false, hr, td, tb, fun _ H' e => ⟨rfl, .ring, rfl, fun H'' e2 => q H'' (e.trans e2)⟩, fun z => by cases z⟩
theorem told_step {K : PySem.W.Frag} {C : Cs} {l : Addr} {zs : List Str} {d b : V} {H : Hp} {Q : VK} {E : XK} (hl : H l = some (.lst (zs.map V.str))) (hz : zs.length ≤ 1000) (td : Typ K H d) (tb : Typ K H b) (hr : ringB (zs.map V.str) = true) (hd : whB d 1 big = false)
    (q : ∀ H', Ex H H' → Q (.str "step") H') : sTold K C [.ref l, d, b] H Q E := by
  refine ⟨_, _, _, rfl, ?_⟩
  unfold sRow
  refine ⟨_, _, _, rfl, _, IsR.texts hl hz, td, tb, fun z => ?_, fun _ => ⟨fun _ H' e => ⟨rfl, .step, rfl, fun H'' e2 => q H'' (e.trans e2)⟩, fun s es s1 s2 => ?_⟩⟩
  · rw [hr] at z; cases z
  · subst es
    rw [wh_of s1 s2] at hd; cases hd
theorem told_place {K : PySem.W.Frag} {C : Cs} {l : Addr} {zs : List Str} {s : Int} {b : V} {H : Hp} {Q : VK} {E : XK} (hl : H l = some (.lst (zs.map V.str))) (hz : zs.length ≤ 1000) (tb : Typ K H b) (hr : ringB (zs.map V.str) = true) (s1 : 1 ≤ s) (s2 : s ≤ big) (hb : whB b 0 ((zs.length : Int) - 1) = false)
    (q : ∀ H', Ex H H' → Q (.str "place") H') : sTold K C [.ref l, .int s, b] H Q E := by
  refine ⟨_, _, _, rfl, ?_⟩
  unfold sRow
  refine ⟨_, _, _, rfl, _, IsR.texts hl hz, Typ.int, tb, fun z => ?_, fun _ => ⟨fun z => ?_, fun s' es _ _ l' xs el hl' => ?_⟩⟩
  · rw [hr] at z; cases z
  · rw [wh_of s1 s2] at z; cases z
  · cases es
    cases el
    rw [hl] at hl'
    cases hl'
    refine ⟨fun _ H' e => ⟨rfl, .place, rfl, fun H'' e2 => q H'' (e.trans e2)⟩, fun g eg hg => ?_⟩
    subst eg
    rw [List.length_map] at hg
    rw [wh_of (by omega) (by omega)] at hb; cases hb
end Cd

set_option Elab.async false
set_option linter.all false
set_option maxRecDepth 100000
set_option maxHeartbeats 4000000
namespace Cd
open PySem PySem.Spec PyProof.Rows L2 Tx Kp
open Evl (Ex sq_of ex_l sz_of sz_lt fresh_back)
theorem str_plain {zs : List Str} (h : ∀ z ∈ zs, PyData.strOk z = true) : (zs.map V.str).all plain = true := by
  rw [List.all_eq_true]
  intro x hx
  obtain ⟨z, hz, rfl⟩ := List.mem_map.mp hx
  exact h z hz
namespace K01
def tBad : TE := (tCall sOf [] E0 (tCons (tVar 1) (tCons (tLst (tCons (tC (.int 0)) (tCons (tUn oNeg (tC (.int 1))) (tCons (tC .non) (tCons (tC (.bl true)) (tCons (tC (.str "2")) (tCons (tOp oAdd (tOp oPow (tC (.int 10)) (tC (.int 60))) (tC (.int 1))) tNil))))))) tNil)))
def tOff : TE := (tCall sOf [] E0 (tCons (tVar 1) (tCons (tLst (tCons (tVar 2) (tCons (tUn oNeg (tC (.int 1))) (tCons (tC .non) (tCons (tC (.bl true)) (tCons (tC (.str "0")) (tCons (tOp oPow (tC (.int 10)) (tC (.int 62))) tNil))))))) tNil)))
def t_last (K : PySem.W.Frag) (C : Cs) : TS :=
  (tSeq (tAsg (tCall (sOdd K) [] E0 (tCons (tCall (sCell K) [] E0 (tCons (tVar 0) (tCons (tC (.int 3)) tNil))) tNil)) (gName 9))
  (tSeq (tAsg tBad (gName 10))
  (tSeq (tAsg tOff (gName 11))
  (tSeq (tAsg (tLst (tCons (tCall (sTold K C) [] E0 (tCons (tVar 9) (tCons (tVar 10) (tCons (tVar 11) tNil)))) (tCons (tCall (sTold K C) [] E0 (tCons (tVar 9) (tCons (tC (.int 1)) (tCons (tC (.int 0)) tNil)))) (tCons (tCall (sTold K C) [] E0 (tCons (tVar 3) (tCons (tVar 10) (tCons (tVar 11) tNil)))) (tCons (tCall (sTold K C) [] E0 (tCons (tVar 3) (tCons (tVar 5) (tCons (tVar 11) tNil)))) tNil))))) (gName 12))
  (tRet (tAndV (tOp rIsB (tCall (sIsRing K) [] E0 (tCons (tVar 9) tNil)) (tC (.bl false))) (tAndV (tOp (rEqF K false) (tVar 12) (tLst (tCons (tC (.str "ring")) (tCons (tC (.str "ring")) (tCons (tC (.str "step")) (tCons (tC (.str "place")) tNil)))))) (tOp (rEqF K false) (tVar 3) (tVar 4)))))))))
theorem last_go {K : PySem.W.Frag} {C : Cs} {a p q w : Addr} {ns : List Int} {zs : List Str} {M B : Nat} {d : Int} {y7 y8 y9 y10 y11 y12 : Option V} {D : Ends} {H : Hp} (st : StAt H p) (sc : ScAt K H a p ns) (hq : H q = some (.lst (zs.map V.str))) (nq : q ≠ p) (hw : H w = some (.lst (zs.map V.str))) (nw : w ≠ p)
    (hz : zs.length = M) (m1 : 1 ≤ M) (m2 : M ≤ 200) (hn : zs.Nodup) (ok : ∀ z ∈ zs, PyData.strOk z = true) (d1 : 1 ≤ d) (d2 : d ≤ big) (k : ∀ H', D.rt (.bl true) H') :
    t_last K C D [some (.ref a), some (.ref p), some (.int (M : Int)), some (.ref q), some (.ref w), some (.int d), some (.int (B : Int)), y7, y8, y9, y10, y11, y12] H := by
  have hr : ringB (zs.map V.str) = true := ringB_texts (by omega) (by omega) hn
  -- a thing that is no ring
  refine ⟨_, rfl, a, ns, 3, rfl, sc _ (Run.refl st), fun z => ?_⟩
  refine ⟨z, rfl, fun odd H1 e1 hodd => ?_⟩
  have r1 : Run p H H1 := Run.ex st e1
  -- bad
  refine ⟨_, rfl, _, rfl, _, _, rfl, rfl, ⟨by decide, by decide, by decide⟩, _, _, rfl, rfl, (by decide : 6 ≤ sizeLine), fun l1 n1 => ?_⟩
  refine ⟨p, .ref l1, rfl, r1.2.ex (Evl.Ex.new n1), .inl ⟨l1, _, rfl, r1.2.ne n1, upd_same, by simp, fun H2 bad r2 hb => ?_⟩⟩
  have bad_t : ∀ H, Typ K H bad := by
    intro H
    simp only [List.mem_cons, List.not_mem_nil, or_false] at hb
    rcases hb with rfl | rfl | rfl | rfl | rfl | rfl <;> first | exact Typ.int | exact Typ.non | exact Typ.bl | exact Typ.str
  have bad_w : whB bad 1 big = false := by
    simp only [ten60, List.mem_cons, List.not_mem_nil, or_false] at hb
    rcases hb with rfl | rfl | rfl | rfl | rfl | rfl <;> first | rfl | decide
  have r12 := (Run.ex r1.2 (Evl.Ex.new (o := .lst _) n1)).trans r2
  clear hb
  -- off
  refine ⟨_, rfl, _, rfl, _, rfl, _, _, rfl, rfl, ⟨by decide, by decide, by decide⟩, (by decide : 6 ≤ sizeLine), fun l3 n3 => ?_⟩
  refine ⟨p, .ref l3, rfl, r2.2.ex (Evl.Ex.new n3), .inl ⟨l3, _, rfl, r2.2.ne n3, upd_same, by simp, fun H3 off r3 ho => ?_⟩⟩
  have off_t : ∀ H, Typ K H off := by
    intro H
    simp only [List.mem_cons, List.not_mem_nil, or_false] at ho
    rcases ho with rfl | rfl | rfl | rfl | rfl | rfl <;> first | exact Typ.int | exact Typ.non | exact Typ.bl | exact Typ.str
  have off_w : whB off 0 ((zs.length : Int) - 1) = false := by
    have t62 : (10 : Int) ^ (62 : Int).toNat = 100000000000000000000000000000000000000000000000000000000000000 := by decide
    rw [hz]
    simp only [t62, List.mem_cons, List.not_mem_nil, or_false] at ho
    rcases ho with rfl | rfl | rfl | rfl | rfl | rfl
    · exact wh_off (by omega)
    · rfl
    · rfl
    · rfl
    · rfl
    · exact wh_off (by omega)
  have r13 := r12.trans ((Run.ex r2.2 (Evl.Ex.new (o := .lst _) n3)).trans r3)
  clear ho
  have np : H p ≠ none := by
    obtain ⟨s, _, z⟩ := st
    rw [z]; exact fun c => by cases c
  have hodd3 : IsR K H3 odd false := hodd H3 fun b o h1 h2 => r13.1 b o (fun z => np (by rw [← z]; exact h1)) h2
  have hq3 := (r1.trans r13).keep nq hq
  have hw3 := (r1.trans r13).keep nw hw
  -- what is refused
  refine ⟨_, rfl, _, rfl, _, rfl, ?_⟩
  refine told_ring (E := E0) hodd3 (bad_t _) (off_t _) fun H4 e4 => ?_
  refine ⟨_, rfl, ?_⟩
  refine told_ring (E := E0) (hodd3.ex e4) Typ.int Typ.int fun H5 e5 => ?_
  have e45 := e4.trans e5
  refine ⟨_, rfl, _, rfl, _, rfl, ?_⟩
  refine told_step (E := E0) (e45 _ _ hq3) (by omega) (bad_t _) (off_t _) hr bad_w fun H6 e6 => ?_
  have e46 := e45.trans e6
  refine ⟨_, rfl, _, rfl, _, rfl, ?_⟩
  refine told_place (E := E0) (e46 _ _ hq3) (by omega) (off_t _) hr d1 d2 off_w fun H7 e7 => ?_
  have e47 := e46.trans e7
  refine ⟨(by decide : 4 ≤ sizeLine), fun T nT => ?_⟩
  have e8 := Evl.Ex.new (o := .lst [.str "ring", .str "ring", .str "step", .str "place"]) nT
  refine ⟨_, rfl, odd, rfl, false, hodd3.ex (e47.trans e8), fun H9 e9 => ?_⟩
  refine ⟨false, false, rfl, rfl, true, rfl, iteT ?_⟩
  refine ⟨_, rfl, (by decide : 4 ≤ sizeLine), fun U nU => ?_⟩
  have e10 := Evl.Ex.new (o := .lst [.str "ring", .str "ring", .str "step", .str "place"]) nU
  refine ⟨T, U, _, _, rfl, rfl, sq_of (e10 _ _ (e9 _ _ upd_same)), sq_of upd_same, by decide +kernel, by decide +kernel, _, rfl, iteC (fun _ => ?_) (fun c => ?_)⟩
  · have e310 := e47.trans (e8.trans (e9.trans e10))
    refine ⟨_, rfl, _, rfl, q, w, _, _, rfl, rfl, sq_of (e310 _ _ hq3), sq_of (e310 _ _ hw3), str_plain ok, str_plain ok, ?_⟩
    have et : (if false = true then !decide (zs.map V.str = zs.map V.str) else decide (zs.map V.str = zs.map V.str)) = true := by simp
    rw [et]
    exact k _
  · exfalso
    have et : (if false = true then !decide ([V.str "ring", V.str "ring", V.str "step", V.str "place"] = [V.str "ring", V.str "ring", V.str "step", V.str "place"]) else decide ([V.str "ring", V.str "ring", V.str "step", V.str "place"] = [V.str "ring", V.str "ring", V.str "step", V.str "place"])) = true := by simp
    rw [et] at c
    cases c

def t_mid (K : PySem.W.Frag) (C : Cs) : TS :=
  (tSeq (tAsg (tCall (sRow K C.ring C.step C.place) [] E0 (tCons (tVar 3) (tCons (tVar 5) (tCons (tVar 6) tNil)))) (gName 8))
  (tSeq (tIfS (tOr (tTest (tOp rNotB (tCall (sIsRing K) [] E0 (tCons (tVar 3) tNil)) (tC (.bl true)))) (tOr (tNot (tB (tCB (rIsi K) (tCons (tVar 8) (tCons (tC (.ty "list")) tNil))))) (tOr (tTest (tOp (rEqF K true) (tVar 8) (tVar 7))) (tTest (tOp (rEqF K true) (tVar 3) (tVar 4))))))
  (tRet (tC (.bl false)))
  tNext)
  (tSeq (tDrop (tBM K "list" rAppend (tVar 8) (tCons (tC (.str "")) tNil)))
  (tSeq (tIfS (tOr (tTest (tOp (rEqF K true) (tCall (sRow K C.ring C.step C.place) [] E0 (tCons (tVar 3) (tCons (tVar 5) (tCons (tVar 6) tNil)))) (tVar 7))) (tTest (tOp (rEqF K true) (tCall (sRow K C.ring C.step C.place) [.int 0] E0 (tCons (tVar 3) (tCons (tVar 5) tNil))) (tCall (sOut K) [] E0 (tCons (tVar 4) (tCons (tVar 5) tNil))))))
  (tRet (tC (.bl false)))
  tNext)
  (t_last K C)))))
theorem ne_self {xs : List V} (h : (if true = true then !decide (xs = xs) else decide (xs = xs)) = true) : False := by
  simp at h
theorem mid_go {K : PySem.W.Frag} {C : Cs} {a p q w u : Addr} {ns : List Int} {zs : List Str} {M B : Nat} {d : Int} {y8 y9 y10 y11 y12 : Option V} {D : Ends} {H : Hp} (st : StAt H p) (sc : ScAt K H a p ns) (hq : H q = some (.lst (zs.map V.str))) (nq : q ≠ p) (hw : H w = some (.lst (zs.map V.str))) (nw : w ≠ p)
    (hu : H u = some (.lst ((Jos.out (d - 1).toNat zs.length (Jos.rot zs B)).map V.str)))
    (hz : zs.length = M) (m1 : 1 ≤ M) (m2 : M ≤ 200) (hB : B < M) (hn : zs.Nodup) (ok : ∀ z ∈ zs, PyData.strOk z = true) (d1 : 1 ≤ d) (d2 : d ≤ big) (k : ∀ H', D.rt (.bl true) H') :
    t_mid K C D [some (.ref a), some (.ref p), some (.int (M : Int)), some (.ref q), some (.ref w), some (.int d), some (.int (B : Int)), some (.ref u), y8, y9, y10, y11, y12] H := by
  have hr : ringB (zs.map V.str) = true := ringB_texts (by omega) (by omega) hn
  have okd : ∀ g, g ≤ zs.length → ∀ z ∈ Jos.out (d - 1).toNat zs.length (Jos.rot zs g), PyData.strOk z = true := fun g _ z hz2 =>
    ok z ((Jos.rot_perm zs g).mem_iff.mp ((Jos.out_perm _ _ _ (Jos.rot_len zs g)).mem_iff.mp hz2))
  -- found
  refine ⟨_, rfl, _, rfl, _, rfl, ?_⟩
  refine row_right (E := E0) hq (by omega) (by omega) hn d1 d2 (by omega) fun f H1 nf e1 hf => ?_
  have nfp : f ≠ p := st.ne nf
  refine ⟨_, rfl, .ref q, rfl, true, by rw [← hr]; exact IsR.texts (e1 _ _ hq) (by omega), fun H2 e2 => ?_⟩
  refine ⟨true, true, rfl, rfl, _, rfl, iteC (fun c => by cases c) (fun _ => ?_)⟩
  refine ⟨_, rfl, _, _, _, _, true, rfl, .ty "list", .base (.lst (e2 _ _ hf)), kit_ty (by decide +kernel), true, rfl, iteF ?_⟩
  refine ⟨_, rfl, _, rfl, f, u, _, _, rfl, rfl, sq_of (e2 _ _ hf), sq_of (e2 _ _ (e1 _ _ hu)), str_plain (okd B (by omega)), str_plain (okd B (by omega)), _, rfl, iteC (fun c => (ne_self c).elim) (fun _ => ?_)⟩
  refine ⟨_, rfl, _, rfl, q, w, _, _, rfl, rfl, sq_of (e2 _ _ (e1 _ _ hq)), sq_of (e2 _ _ (e1 _ _ hw)), str_plain ok, str_plain ok, _, rfl, iteC (fun c => (ne_self c).elim) (fun _ => ?_)⟩
  -- what is told is a list of its own
  refine ⟨_, rfl, ty_l (e2 _ _ hf), f, _, _, rfl, rfl, e2 _ _ hf, ?_, ?_⟩
  · rw [List.length_map, Jos.out_len _ _ _ (Jos.rot_len zs B)]; exact sz_lt (by omega)
  have e3 : Ex H (upd H2 f (.lst ((Jos.out (d - 1).toNat zs.length (Jos.rot zs B)).map V.str ++ [.str ""]))) := Evl.Ex.mut (e1.trans e2) nf
  refine ⟨_, rfl, _, rfl, _, rfl, ?_⟩
  refine row_right (E := E0) (e3 _ _ hq) (by omega) (by omega) hn d1 d2 (by omega) fun f2 H4 nf2 e4 hf2 => ?_
  refine ⟨_, rfl, f2, u, _, _, rfl, rfl, sq_of hf2, sq_of (e4 _ _ (e3 _ _ hu)), str_plain (okd B (by omega)), str_plain (okd B (by omega)), _, rfl, iteC (fun c => (ne_self c).elim) (fun _ => ?_)⟩
  have e34 := e3.trans e4
  refine ⟨_, rfl, _, rfl, ?_⟩
  refine row_right (g := 0) (E := E0) (e34 _ _ hq) (by omega) (by omega) hn d1 d2 (by omega) fun f3 H5 nf3 e5 hf3 => ?_
  have e35 := e34.trans e5
  refine ⟨_, rfl, _, rfl, w, _, d, rfl, sq_of (e35 _ _ hw), by rw [List.length_map]; omega, str_plain ok, d1, fun o H6 no e6 ho => ?_⟩
  rw [List.length_map, Jos.out_map] at ho
  rw [Jos.rot_zero] at hf3
  refine ⟨f3, o, _, _, rfl, rfl, sq_of (e6 _ _ hf3), sq_of ho, ?_, ?_, _, rfl, iteC (fun c => (ne_self c).elim) (fun _ => ?_)⟩
  · have := okd 0 (by omega)
    rw [Jos.rot_zero] at this
    exact str_plain this
  · have := okd 0 (by omega)
    rw [Jos.rot_zero] at this
    exact str_plain this
  have e36 := e35.trans e6
  exact last_go (B := B) (st.ex e36) (sc.run (Run.ex st e36)) (e36 _ _ hq) nq (e36 _ _ hw) nw hz m1 m2 hn ok d1 d2 k
def t_law (K : PySem.W.Frag) (C : Cs) : TS :=
(tSeq (tAsg (tCall (sState K) [] E0 (tCons (tVar 0) (tCons (tC (.int 0)) tNil))) (gName 1))
  (tSeq (tAsg (tCall sOf [] E0 (tCons (tVar 1) (tCons (tLst (tCons (tC (.int 1)) (tCons (tC (.int 2)) (tCons (tOp oAdd (tC (.int 1)) (tOp oMod (tCall sNext [] E0 (tCons (tVar 1) tNil)) (tC (.int 30)))) tNil)))) tNil))) (gName 2))
  (tSeq (tIfS (tTest (tOp rEq (tOp oMod (tCall (sCell K) [] E0 (tCons (tVar 0) (tCons (tC (.int 2)) tNil))) (tC (.int 16))) (tC (.int 3))))
  (tAsg (tOp oSub (tC (.int 200)) (tOp oMod (tOp oFdiv (tCall (sCell K) [] E0 (tCons (tVar 0) (tCons (tC (.int 2)) tNil))) (tC (.int 16))) (tC (.int 3)))) (gName 2))
  tNext)
  (tSeq (tAsg (tCall sHands [] E0 (tCons (tVar 1) (tCons (tVar 2) tNil))) (gName 3))
  (tSeq (tAsg (tCB (rListOf K) (tCons (tVar 3) tNil)) (gName 4))
  (tSeq (tAsg (tCall sOf [] E0 (tCons (tVar 1) (tCons (tLst (tCons (tCall sStep [] E0 (tCons (tVar 1) (tCons (tC (.int 60)) tNil))) (tCons (tOp oPow (tC (.int 10)) (tC (.int 60))) (tCons (tOp oAdd (tC (.int 1)) (tCall sFar [] E0 (tCons (tVar 1) (tCons (tOp oPow (tC (.int 10)) (tC (.int 60))) tNil)))) tNil)))) tNil))) (gName 5))
  (tSeq (tAsg (tCall sOf [] E0 (tCons (tVar 1) (tCons (tLst (tCons (tC (.int 0)) (tCons (tOp oSub (tVar 2) (tC (.int 1))) (tCons (tOp oMod (tCall sNext [] E0 (tCons (tVar 1) tNil)) (tVar 2)) tNil)))) tNil))) (gName 6))
  (tSeq (tAsg (tCall (sOut K) [] E0 (tCons (tCall sTurned [] E0 (tCons (tVar 4) (tCons (tVar 6) tNil))) (tCons (tVar 5) tNil))) (gName 7))
  (t_mid K C)))))))))
def sLaw (K : PySem.W.Frag) : Sp := fun vs H Q _ => ∃ (a : Addr) (ns : List Int), vs = [.ref a] ∧ SqL K H a (ns.map V.int) ∧ ∀ H', Q (.bl true) H'
theorem pure_law {K : PySem.W.Frag} {C : Cs} {vs : List V} {H : Hp} {Q : VK} {E : XK} {nx : L2.St → Hp → Prop} (h : sLaw K vs H Q E) : t_law K C { nx := nx, rt := Q } (start ["_law_script", "_law_state_here", "_law_many", "_law_hands_here", "_law_held", "_law_step_here", "_law_begin", "_law_due", "_law_found", "_law_odd_here", "_law_bad", "_law_off", "_law_told_here"] vs) H := by
  obtain ⟨a, ns, rfl, hS, k⟩ := h
  refine ⟨_, rfl, a, ns, 0, rfl, hS, fun p H1 np e1 st1 => ?_⟩
  have sc1 := ScAt.of hS np e1
  -- many
  refine ⟨_, rfl, _, rfl, p, rfl, st1, fun H2 n2 r2 _ _ => ?_⟩
  refine ⟨_, _, rfl, rfl, pos0 (by decide), _, _, rfl, rfl, (by decide : 3 ≤ sizeLine), fun l2 nl2 => ?_⟩
  refine ⟨p, .ref l2, rfl, r2.2.ex (Evl.Ex.new nl2), .inl ⟨l2, _, rfl, r2.2.ne nl2, upd_same, by simp, fun H3 v r3 hv => ?_⟩⟩
  have rr3 : Run p H1 H3 := r2.trans ((Run.ex r2.2 (Evl.Ex.new nl2)).trans r3)
  obtain ⟨M0, rfl, m01, m02⟩ : ∃ M : Nat, v = .int (M : Int) ∧ 1 ≤ M ∧ M ≤ 200 := by
    have b1 : 0 ≤ n2 % 30 := Int.emod_nonneg _ (by decide)
    have b2 : n2 % 30 < 30 := Int.emod_lt_of_pos _ (by decide)
    simp only [List.mem_cons, List.not_mem_nil, or_false] at hv
    rcases hv with rfl | rfl | rfl
    · exact ⟨1, rfl, by omega, by omega⟩
    · exact ⟨2, rfl, by omega, by omega⟩
    · exact ⟨(1 + n2 % 30).toNat, by rw [Int.toNat_of_nonneg (by omega)], by omega, by omega⟩
  clear hv
  have sc3 := sc1.run rr3
  have fin : ∀ M : Nat, 1 ≤ M → M ≤ 200 → (tSeq (tAsg (tCall sHands [] E0 (tCons (tVar 1) (tCons (tVar 2) tNil))) (gName 3))
      (tSeq (tAsg (tCB (rListOf K) (tCons (tVar 3) tNil)) (gName 4))
      (tSeq (tAsg (tCall sOf [] E0 (tCons (tVar 1) (tCons (tLst (tCons (tCall sStep [] E0 (tCons (tVar 1) (tCons (tC (.int 60)) tNil))) (tCons (tOp oPow (tC (.int 10)) (tC (.int 60))) (tCons (tOp oAdd (tC (.int 1)) (tCall sFar [] E0 (tCons (tVar 1) (tCons (tOp oPow (tC (.int 10)) (tC (.int 60))) tNil)))) tNil)))) tNil))) (gName 5))
      (tSeq (tAsg (tCall sOf [] E0 (tCons (tVar 1) (tCons (tLst (tCons (tC (.int 0)) (tCons (tOp oSub (tVar 2) (tC (.int 1))) (tCons (tOp oMod (tCall sNext [] E0 (tCons (tVar 1) tNil)) (tVar 2)) tNil)))) tNil))) (gName 6))
      (tSeq (tAsg (tCall (sOut K) [] E0 (tCons (tCall sTurned [] E0 (tCons (tVar 4) (tCons (tVar 6) tNil))) (tCons (tVar 5) tNil))) (gName 7))
      (t_mid K C)))))) { nx := nx, rt := Q } [some (.ref a), some (.ref p), some (.int (M : Int)), none, none, none, none, none, none, none, none, none, none] H3 := by
    intro M m1 m2
    refine ⟨_, rfl, _, rfl, p, M, rfl, r3.2, by omega, fun q H4 zs nq r4 hq hz hn ok _ => ?_⟩
    have nqp : q ≠ p := r3.2.ne nq
    refine ⟨_, rfl, q, _, rfl, .inl (sq_of hq), fun w nw => ?_⟩
    have ew := Evl.Ex.new (o := .lst (zs.map V.str)) nw
    have nwp : w ≠ p := r4.2.ne nw
    have r5 : Run p H3 _ := r4.trans (Run.ex r4.2 ew)
    have hq5 := ew _ _ hq
    have hw5 : _ = some (HO.lst (zs.map V.str)) := upd_same (H := H4) (a := w)
    generalize (upd H4 w (.lst (zs.map V.str))) = H5 at r5 hq5 hw5
    -- step
    refine ⟨_, rfl, _, rfl, p, 60, rfl, r5.2, by decide, fun H6 d0 r6 d01 d02 => ?_⟩
    refine ⟨_, _, rfl, rfl, ⟨by decide, by decide, by decide⟩, _, rfl, _, _, rfl, rfl, ⟨by decide, by decide, by decide⟩, p, _, rfl, r6.2, by rw [ten60]; decide, fun H7 f7 r7 h7 => ?_⟩
    refine ⟨_, _, rfl, rfl, (by decide : 3 ≤ sizeLine), fun l8 nl8 => ?_⟩
    refine ⟨p, .ref l8, rfl, r7.2.ex (Evl.Ex.new nl8), .inl ⟨l8, _, rfl, r7.2.ne nl8, upd_same, by simp, fun H9 v r9 hv => ?_⟩⟩
    have r59 : Run p H5 H9 := r6.trans (r7.trans ((Run.ex r7.2 (Evl.Ex.new nl8)).trans r9))
    obtain ⟨d, rfl, d1, d2⟩ : ∃ d : Int, v = .int d ∧ 1 ≤ d ∧ d ≤ big := by
      rw [ten60] at h7
      have b60 : (60 : Int) ≤ big := by decide
      simp only [ten60, List.mem_cons, List.not_mem_nil, or_false] at hv
      rcases hv with rfl | rfl | rfl
      · exact ⟨d0, rfl, d01, by omega⟩
      · exact ⟨big, rfl, by decide, by decide⟩
      · exact ⟨1 + (f7 : Int), rfl, by omega, by omega⟩
    clear hv
    -- begin
    refine ⟨_, rfl, _, rfl, _, _, rfl, rfl, _, rfl, p, rfl, r9.2, fun H10 n10 r10 _ _ => ?_⟩
    refine ⟨_, rfl, _, _, rfl, rfl, pos0 (by omega), (by decide : 3 ≤ sizeLine), fun l10 nl10 => ?_⟩
    refine ⟨p, .ref l10, rfl, r10.2.ex (Evl.Ex.new nl10), .inl ⟨l10, _, rfl, r10.2.ne nl10, upd_same, by simp, fun H11 v r11 hv => ?_⟩⟩
    have r511 : Run p H5 H11 := r59.trans (r10.trans ((Run.ex r10.2 (Evl.Ex.new nl10)).trans r11))
    obtain ⟨B, rfl, hB⟩ : ∃ B : Nat, v = .int (B : Int) ∧ B < M := by
      have b1 : 0 ≤ n10 % (M : Int) := Int.emod_nonneg _ (by omega)
      have b2 : n10 % (M : Int) < M := Int.emod_lt_of_pos _ (by omega)
      simp only [List.mem_cons, List.not_mem_nil, or_false] at hv
      rcases hv with rfl | rfl | rfl
      · exact ⟨0, rfl, by omega⟩
      · exact ⟨M - 1, by congr 1; omega, by omega⟩
      · exact ⟨(n10 % (M : Int)).toNat, by rw [Int.toNat_of_nonneg b1], by omega⟩
    clear hv
    have hq11 := r511.keep nqp hq5
    have hw11 := r511.keep nwp hw5
    -- due
    refine ⟨_, rfl, _, rfl, w, _, _, rfl, hw11, ?_, ?_, fun c H12 nc e12 hc => ?_⟩
    · rw [List.length_map]; omega
    · rw [List.length_map]; omega
    rw [List.length_map, hz, Int.emod_eq_of_lt (by omega) (by omega), Int.toNat_natCast, Jos.rot_map] at hc
    have okr : ∀ z ∈ Jos.rot zs B, PyData.strOk z = true := fun z hz2 => ok z ((Jos.rot_perm zs B).mem_iff.mp hz2)
    refine ⟨_, rfl, c, _, d, rfl, sq_of hc, ?_, str_plain okr, d1, fun u H13 nu e13 hu => ?_⟩
    · rw [List.length_map, Jos.rot_len]; omega
    rw [List.length_map, Jos.rot_len, Jos.out_map] at hu
    have e1113 := e12.trans e13
    exact mid_go (r11.2.ex e1113) (sc3.run (r5.trans (r511.trans (Run.ex r11.2 e1113)))) (e1113 _ _ hq11) nqp (e1113 _ _ hw11) nwp hu hz m1 m2 hB hn ok d1 d2 k
  refine ⟨_, rfl, a, ns, 2, rfl, sc3 _ (Run.refl r3.2), fun z => ?_⟩
  refine ⟨_, _, rfl, rfl, pos0 (by decide), rfl, _, rfl, iteC (fun _ => ?_) (fun _ => fin M0 m01 m02)⟩
  refine ⟨_, rfl, a, ns, 2, rfl, sc3 _ (Run.refl r3.2), fun z' => ?_⟩
  refine ⟨_, _, rfl, rfl, ⟨by decide, by decide⟩, _, _, rfl, rfl, pos0 (by decide), _, _, rfl, rfl, ?_⟩
  have c1 : 0 ≤ z' / 16 % 3 := Int.emod_nonneg _ (by decide)
  have c2 : z' / 16 % 3 < 3 := Int.emod_lt_of_pos _ (by decide)
  have g := fin (200 - z' / 16 % 3).toNat (by omega) (by omega)
  rw [Int.toNat_of_nonneg (by omega)] at g
  exact g
end K01
end Cd

set_option Elab.async false
set_option linter.all false
set_option maxRecDepth 100000
set_option maxHeartbeats 4000000
namespace Cd
open PySem PySem.Spec PyProof.Rows L2 Tx Kp
open Evl (Ex sq_of ex_l sz_of sz_lt fresh_back)
/-! ### wishes: the beginning from which a place stays last; what is refused -/
theorem sRef.imp {K : PySem.W.Frag} {CM CS CP : Addr} {m d b : V} {H : Hp} {E E' : XK} {ok ok' : Int → Int → Int → Prop} (h : sRef K CM CS CP m d b H E ok) (g : ∀ cls dd H', E cls dd H' → E' cls dd H') (k : ∀ n s g, ok n s g → ok' n s g) : sRef K CM CS CP m d b H E' ok' := by
  obtain ⟨tm, td, tb, q0, q⟩ := h
  refine ⟨tm, td, tb, fun a => g _ _ _ (q0 a), fun n en n1 n2 => ?_⟩
  obtain ⟨q1, q2⟩ := q n en n1 n2
  refine ⟨fun a => g _ _ _ (q1 a), fun s es s1 s2 => ?_⟩
  obtain ⟨q3, q4⟩ := q2 s es s1 s2
  exact ⟨fun a => g _ _ _ (q3 a), fun c ec c0 c1 => k _ _ _ (q4 c ec c0 c1)⟩
@[irreducible] def sBegin (K : PySem.W.Frag) (CM CS CP : Addr) : Sp := fun vs H Q E => ∃ m d x, vs = [m, d, x] ∧ sRef K CM CS CP m d x H (fun c o H1 => ∀ H', Ex H1 H' → E c o H') fun n s g =>
  ∀ b : Nat, (b : Int) < n → (Jos.order s.toNat n.toNat b)[n.toNat - 1]? = some g.toNat → ∀ H', Ex H H' → Q (.int (b : Int)) H'
/-- the kept refusal, as its word -/
abbrev eWord (C : Cs) (Q : VK) : XK := fun cls dd H' => dd = none ∧ ∃ k, cls = .ref (C.on k) ∧ ∀ H'', Ex H' H'' → Q (.str k.word) H''
namespace K04
def t_told (K : PySem.W.Frag) (C : Cs) : TS :=
(tSeq (tTryK K C.err 5 6 (fun W => (tSeq (tIfS (tTest (tOp rEq (tVar 0) (tC (.int 0))))
  (tRet (tCallS (sCount K C.many C.step C.place) (WE W) (tCons (tVar 1) (tCons (tVar 2) (tCons (tVar 3) (tCons (tVar 4) tNil))))))
  tNext)
  (tSeq (tIfS (tTest (tOp rEq (tVar 0) (tC (.int 1))))
  (tRet (tCallS (sGoes K C.many C.step C.place C.count) (WE W) (tCons (tVar 1) (tCons (tVar 2) (tCons (tVar 3) (tCons (tVar 4) tNil))))))
  tNext)
  (tSeq (tIfS (tTest (tOp rEq (tVar 0) (tC (.int 2))))
  (tRet (tCallS (sLast K C.many C.step C.place) (WE W) (tCons (tVar 1) (tCons (tVar 2) (tCons (tVar 3) tNil)))))
  tNext)
  (tRet (tCallS (sBegin K C.many C.step C.place) (WE W) (tCons (tVar 1) (tCons (tVar 2) (tCons (tVar 3) tNil))))))))))
  (tRet (tCall (sErr K C) [] E0 (tCons (tVar 6) tNil))))
def sTold (K : PySem.W.Frag) (C : Cs) : Sp := fun vs H Q _ => ∃ (way : Nat) (m d b x : V), vs = [.int (way : Int), m, d, b, x] ∧
  (way = 0 ∧ sCount K C.many C.step C.place [m, d, b, x] H Q (eWord C Q) ∨ way = 1 ∧ sGoes K C.many C.step C.place C.count [m, d, b, x] H Q (eWord C Q) ∨
   way = 2 ∧ sLast K C.many C.step C.place [m, d, b] H Q (eWord C Q) ∨ way = 3 ∧ sBegin K C.many C.step C.place [m, d, b] H Q (eWord C Q))
theorem pure_told {K : PySem.W.Frag} {C : Cs} (F : ErrF K C) {vs : List V} {H : Hp} {Q : VK} {E : XK} {nx : L2.St → Hp → Prop} (h : sTold K C vs H Q E) : t_told K C { nx := nx, rt := Q } (start ["_law_way", "_law_many", "_law_step", "_law_begin", "_law_last", "_law_e", "_law_error_here"] vs) H := by
  obtain ⟨way, m, d, b, x, rfl, hw⟩ := h
  -- a kept refusal is told by its word
  have keep : ∀ (σ : L2.St), σ = [some (.int (way : Int)), some m, some d, some b, some x, none, none] → ∀ cls dd H', eWord C Q cls dd H' →
      WE (wKp K (.ref C.err) 5 6 { nx := tRet (tCall (sErr K C) [] E0 (tCons (tVar 6) tNil)) { nx := nx, rt := Q }, rt := Q }) σ cls dd H' := by
    intro σ es cls dd H' e
    subst es
    obtain ⟨ed, k, ec, qq⟩ := e
    subst ed ec
    refine ⟨rfl, F.caught k, fun a na => ?_⟩
    exact ⟨_, rfl, a, k, rfl, upd_same, fun H'' ex => qq H'' ((Evl.Ex.new na).trans ex)⟩
  rcases hw with ⟨rfl, hr⟩ | ⟨rfl, hr⟩ | ⟨rfl, hr⟩ | ⟨rfl, hr⟩
  · refine ⟨_, rfl, rfl, _, rfl, iteC (fun _ => ?_) (fun c => by cases c)⟩
    refine ⟨_, rfl, _, rfl, _, rfl, _, rfl, ?_⟩
    show sCount K C.many C.step C.place [m, d, b, x] H _ _
    unfold sCount at hr ⊢
    obtain ⟨m', d', b', x', ev, tx, rr⟩ := hr
    refine ⟨m', d', b', x', ev, tx, rr.imp (keep _ rfl) fun n s g q => ⟨fun a => keep _ rfl _ _ _ (q.1 a), q.2⟩⟩
  · refine ⟨_, rfl, rfl, _, rfl, iteC (fun c => by cases c) (fun _ => ?_)⟩
    refine ⟨_, rfl, rfl, _, rfl, iteC (fun _ => ?_) (fun c => by cases c)⟩
    refine ⟨_, rfl, _, rfl, _, rfl, _, rfl, ?_⟩
    show sGoes K C.many C.step C.place C.count [m, d, b, x] H _ _
    unfold sGoes at hr ⊢
    obtain ⟨m', d', b', x', ev, tx, rr⟩ := hr
    refine ⟨m', d', b', x', ev, tx, rr.imp (keep _ rfl) fun n s g q => ⟨fun a => keep _ rfl _ _ _ (q.1 a), q.2⟩⟩
  · refine ⟨_, rfl, rfl, _, rfl, iteC (fun c => by cases c) (fun _ => ?_)⟩
    refine ⟨_, rfl, rfl, _, rfl, iteC (fun c => by cases c) (fun _ => ?_)⟩
    refine ⟨_, rfl, rfl, _, rfl, iteC (fun _ => ?_) (fun c => by cases c)⟩
    refine ⟨_, rfl, _, rfl, _, rfl, ?_⟩
    show sLast K C.many C.step C.place [m, d, b] H _ _
    unfold sLast at hr ⊢
    obtain ⟨m', d', b', ev, rr⟩ := hr
    exact ⟨m', d', b', ev, rr.imp (keep _ rfl) fun n s g q => q⟩
  · refine ⟨_, rfl, rfl, _, rfl, iteC (fun c => by cases c) (fun _ => ?_)⟩
    refine ⟨_, rfl, rfl, _, rfl, iteC (fun c => by cases c) (fun _ => ?_)⟩
    refine ⟨_, rfl, rfl, _, rfl, iteC (fun c => by cases c) (fun _ => ?_)⟩
    refine ⟨_, rfl, _, rfl, _, rfl, ?_⟩
    show sBegin K C.many C.step C.place [m, d, b] H _ _
    unfold sBegin at hr ⊢
    obtain ⟨m', d', b', ev, rr⟩ := hr
    exact ⟨m', d', b', ev, rr.imp (fun c o H1 z H' e => keep _ rfl _ _ _ (z H' e)) fun n s g q => q⟩
/-- the first refusal that is due -/
theorem ref_many {K : PySem.W.Frag} {CM CS CP : Addr} {m d b : V} {H : Hp} {E : XK} {ok : Int → Int → Int → Prop} (tm : Typ K H m) (td : Typ K H d) (tb : Typ K H b) (h : whB m 1 big = false) (q : E (.ref CM) none H) : sRef K CM CS CP m d b H E ok := by
  refine ⟨tm, td, tb, fun _ => q, fun n en n1 n2 => ?_⟩
  subst en
  rw [wh_of n1 n2] at h; cases h
theorem ref_step {K : PySem.W.Frag} {CM CS CP : Addr} {n : Int} {d b : V} {H : Hp} {E : XK} {ok : Int → Int → Int → Prop} (td : Typ K H d) (tb : Typ K H b) (n1 : 1 ≤ n) (n2 : n ≤ big) (h : whB d 1 100 = false) (q : E (.ref CS) none H) : sRef K CM CS CP (.int n) d b H E ok := by
  refine ⟨Typ.int, td, tb, fun e => ?_, fun n' en _ _ => ⟨fun _ => q, fun s es s1 s2 => ?_⟩⟩
  · rw [wh_of n1 n2] at e; cases e
  · subst es
    rw [wh_of s1 s2] at h; cases h
theorem ref_place {K : PySem.W.Frag} {CM CS CP : Addr} {n s : Int} {b : V} {H : Hp} {E : XK} {ok : Int → Int → Int → Prop} (tb : Typ K H b) (n1 : 1 ≤ n) (n2 : n ≤ big) (s1 : 1 ≤ s) (s2 : s ≤ 100) (h : whB b 0 (n - 1) = false) (q : E (.ref CP) none H) : sRef K CM CS CP (.int n) (.int s) b H E ok := by
  refine ⟨Typ.int, Typ.int, tb, fun e => ?_, fun n' en _ _ => ⟨fun e => ?_, fun s' es _ _ => ⟨fun _ => ?_, fun g eg g0 g1 => ?_⟩⟩⟩
  · rw [wh_of n1 n2] at e; cases e
  · rw [wh_of s1 s2] at e; cases e
  · exact q
  · cases en
    subst eg
    rw [wh_of g0 (by omega)] at h; cases h
theorem eWord_of {C : Cs} {Q : VK} {H : Hp} (k : Ek) (q : ∀ H', Ex H H' → Q (.str k.word) H') : eWord C Q (.ref (C.on k)) none H := ⟨rfl, k, rfl, q⟩
/-- refused alike, by each of the four ways -/
theorem told_ref {K : PySem.W.Frag} {C : Cs} {way : Nat} {m d b x : V} {H : Hp} {Q : VK} {E : XK} (hw : way < 4) (tx : Typ K H x) (h : ∀ (E' : XK) (ok : Int → Int → Int → Prop), (∀ c o, eWord C Q c o H → E' c o H) → sRef K C.many C.step C.place m d b H E' ok) : sTold K C [.int (way : Int), m, d, b, x] H Q E := by
  refine ⟨way, m, d, b, x, rfl, ?_⟩
  rcases (by omega : way = 0 ∨ way = 1 ∨ way = 2 ∨ way = 3) with rfl | rfl | rfl | rfl
  · exact .inl ⟨rfl, by unfold sCount; exact ⟨_, _, _, _, rfl, tx, h _ _ fun _ _ z => z⟩⟩
  · exact .inr (.inl ⟨rfl, by unfold sGoes; exact ⟨_, _, _, _, rfl, tx, h _ _ fun _ _ z => z⟩⟩)
  · exact .inr (.inr (.inl ⟨rfl, by unfold sLast; exact ⟨_, _, _, rfl, h _ _ fun _ _ z => z⟩⟩))
  · refine .inr (.inr (.inr ⟨rfl, ?_⟩))
    unfold sBegin
    refine ⟨_, _, _, rfl, h _ _ fun c o z H' e => ?_⟩
    obtain ⟨e1, k, e2, g⟩ := z
    exact ⟨e1, k, e2, fun H'' e3 => g H'' (e.trans e3)⟩
end K04
end Cd

set_option Elab.async false
set_option linter.all false
set_option maxRecDepth 100000
set_option maxHeartbeats 4000000
namespace Cd
open PySem PySem.Spec PyProof.Rows L2 Tx Kp
open Evl (Ex sq_of ex_l sz_of sz_lt fresh_back)
theorem Jos.order_last_uniq {D M R b b' g : Nat} (h0 : (Jos.order D M 0)[M - 1]? = some R) (hb : b < M) (hb' : b' < M) (h : (Jos.order D M b)[M - 1]? = some g) (h' : (Jos.order D M b')[M - 1]? = some g) : b = b' := by
  have e := Jos.order_turn (b := b) (by omega) h0
  have e' := Jos.order_turn (b := b') (by omega) h0
  rw [e] at h
  rw [e'] at h'
  have hR : R < M := Jos.order_lt (List.mem_of_getElem? h0)
  have z := (Option.some.inj h).trans (Option.some.inj h').symm
  have i1 : (b + R) % M = if b + R < M then b + R else b + R - M := by
    split
    · exact Nat.mod_eq_of_lt (by omega)
    · rw [Nat.mod_eq_sub_mod (by omega), Nat.mod_eq_of_lt (by omega)]
  have i2 : (b' + R) % M = if b' + R < M then b' + R else b' + R - M := by
    split
    · exact Nat.mod_eq_of_lt (by omega)
    · rw [Nat.mod_eq_sub_mod (by omega), Nat.mod_eq_of_lt (by omega)]
  rw [i1, i2] at z
  split at z <;> split at z <;> omega
/-- from the beginning that is told, the place stays last -/
theorem begin_right {K : PySem.W.Frag} {CM CS CP : Addr} {M D B g : Nat} {H : Hp} {Q : VK} {E : XK} (hM : (M : Int) ≤ big) (h1 : 1 ≤ D) (h2 : D ≤ 100) (hg : g < M) (hB : B < M) (h : (Jos.order D M B)[M - 1]? = some g) (q : ∀ H', Ex H H' → Q (.int (B : Int)) H') : sBegin K CM CS CP [.int (M : Int), .int (D : Int), .int (g : Int)] H Q E := by
  unfold sBegin
  refine ⟨_, _, _, rfl, sRef.right hM h1 h2 hg fun b hb hl H' e => ?_⟩
  simp only [Int.toNat_natCast] at hl
  obtain ⟨R, h0⟩ : ∃ R, (Jos.order D M 0)[M - 1]? = some R := ⟨_, List.getElem?_eq_getElem (by rw [Jos.order_len]; omega)⟩
  rw [Jos.order_last_uniq h0 (by omega) hB hl h]
  exact q H' e
/-- there is one -/
theorem begin_is {M D g : Nat} (hg : g < M) : ∃ B, B < M ∧ (Jos.order D M B)[M - 1]? = some g := by
  obtain ⟨R, h0⟩ : ∃ R, (Jos.order D M 0)[M - 1]? = some R := ⟨_, List.getElem?_eq_getElem (by rw [Jos.order_len]; omega)⟩
  have hR : R < M := Jos.order_lt (List.mem_of_getElem? h0)
  refine ⟨(g + (M - R)) % M, Nat.mod_lt _ (by omega), ?_⟩
  rw [Jos.order_turn (b := (g + (M - R)) % M) (Nat.le_of_lt (Nat.mod_lt _ (by omega))) h0, Nat.mod_add_mod, show g + (M - R) + R = g + M by omega, Nat.add_mod_right, Nat.mod_eq_of_lt hg]
namespace K04
/-- the four right answers -/
structure Ans (M D B P : Nat) (v0 v1 v2 v3 : Nat) : Prop where
  a0 : ∃ c, v0 = c + 1 ∧ (Jos.order D M B)[c]? = some P
  a1 : (Jos.order D M B)[P]? = some v1
  a2 : (Jos.order D M B)[M - 1]? = some v2
  a3 : v3 < M ∧ (Jos.order D M v3)[M - 1]? = some B
theorem ans_is {M D B P : Nat} (hB : B < M) (hP : P < M) : ∃ v0 v1 v2 v3, Ans M D B P v0 v1 v2 v3 := by
  obtain ⟨c, hc⟩ : ∃ c, (Jos.order D M B)[c]? = some P := List.mem_iff_getElem?.mp (Jos.order_mem hP)
  obtain ⟨b, hb, hl⟩ := begin_is (D := D) hB
  exact ⟨c + 1, _, _, b, ⟨c, rfl, hc⟩, List.getElem?_eq_getElem (by rw [Jos.order_len]; omega), List.getElem?_eq_getElem (by rw [Jos.order_len]; omega), hb, hl⟩
def ans4 (v0 v1 v2 v3 : Nat) : List V := [nV v0, nV v1, nV v2, nV v3]
def arg4 (P : Nat) : List V := [.int (P : Int), .int ((P : Int) + 1), .int 0, .int 0]
theorem told_right {K : PySem.W.Frag} {C : Cs} {M D B P i : Nat} {v0 v1 v2 v3 : Nat} {H : Hp} {Q : VK} {E : XK} (A : Ans M D B P v0 v1 v2 v3) (hM : (M : Int) ≤ big) (h1 : 1 ≤ D) (h2 : D ≤ 100) (hB : B < M) (hP : P < M) {x v : V} (hx : (arg4 P)[i]? = some x) (hv : (ans4 v0 v1 v2 v3)[i]? = some v) (q : ∀ H', Ex H H' → Q v H') : sTold K C [.int (i : Int), .int (M : Int), .int (D : Int), .int (B : Int), x] H Q E := by
  refine ⟨i, _, _, _, _, rfl, ?_⟩
  have hi : i < 4 := (List.getElem?_eq_some_iff.mp hx).1
  rcases (by omega : i = 0 ∨ i = 1 ∨ i = 2 ∨ i = 3) with rfl | rfl | rfl | rfl
  · cases hx
    cases hv
    obtain ⟨c, ec, hc⟩ := A.a0
    refine .inl ⟨rfl, count_right hM h1 h2 hB hc ?_⟩
    have := q H (Evl.Ex.refl _)
    unfold nV at this
    rw [ec, Int.natCast_add] at this
    exact this
  · cases hx
    cases hv
    exact .inr (.inl ⟨rfl, goes_right hM h1 h2 hB A.a1 (q H (Evl.Ex.refl _))⟩)
  · cases hv
    exact .inr (.inr (.inl ⟨rfl, last_right hM h1 h2 hB A.a2 (q H (Evl.Ex.refl _))⟩))
  · cases hv
    exact .inr (.inr (.inr ⟨rfl, begin_right hM h1 h2 hB A.a3.1 A.a3.2 q⟩))
/-- what stands behind the ring is refused -/
theorem told_off0 {K : PySem.W.Frag} {C : Cs} {M D B : Nat} {x : V} {H : Hp} {Q : VK} {E : XK} (hM : (M : Int) ≤ big) (h1 : 1 ≤ D) (h2 : D ≤ 100) (hB : B < M) (tx : Typ K H x) (hw : whB x 0 ((M : Int) - 1) = false) (q : ∀ H', Ex H H' → Q (.str "place") H') : sTold K C [.int ((0 : Nat) : Int), .int (M : Int), .int (D : Int), .int (B : Int), x] H Q E := by
  refine ⟨0, _, _, _, _, rfl, .inl ⟨rfl, ?_⟩⟩
  unfold sCount
  refine ⟨_, _, _, _, rfl, tx, sRef.right hM h1 h2 hB ⟨fun _ => eWord_of .place q, fun p ep hp => ?_⟩⟩
  subst ep
  rw [wh_of (by omega) (by omega)] at hw
  cases hw
theorem told_off1 {K : PySem.W.Frag} {C : Cs} {M D B : Nat} {x : V} {H : Hp} {Q : VK} {E : XK} (hM : (M : Int) ≤ big) (h1 : 1 ≤ D) (h2 : D ≤ 100) (hB : B < M) (tx : Typ K H x) (hw : whB x 1 (M : Int) = false) (q : ∀ H', Ex H H' → Q (.str "count") H') : sTold K C [.int ((1 : Nat) : Int), .int (M : Int), .int (D : Int), .int (B : Int), x] H Q E := by
  refine ⟨1, _, _, _, _, rfl, .inr (.inl ⟨rfl, ?_⟩)⟩
  unfold sGoes
  refine ⟨_, _, _, _, rfl, tx, sRef.right hM h1 h2 hB ⟨fun _ => eWord_of .count q, fun p ep h3 h4 => ?_⟩⟩
  subst ep
  rw [wh_of (by omega) (by omega)] at hw
  cases hw
def tAns (K : PySem.W.Frag) (C : Cs) : TE := (tLc (iRng1 (tCons (tC (.int 4)) tNil)) (gName 7) tYes (tCall (sTold K C) [] E0 (tCons (tVar 7) (tCons (tVar 2) (tCons (tVar 3) (tCons (tVar 4) (tCons (tOp (rIxL K) (tLst (tCons (tVar 5) (tCons (tOp oAdd (tVar 5) (tC (.int 1))) (tCons (tC (.int 0)) (tCons (tC (.int 0)) tNil))))) (tVar 7)) tNil)))))) [7])
theorem ans_go {K : PySem.W.Frag} {C : Cs} {M D B P : Nat} {v0 v1 v2 v3 : Nat} {y0 y1 y6 y7 y8 y9 y10 y11 y12 y13 y14 : Option V} {H : Hp} {Q : VK} (A : Ans M D B P v0 v1 v2 v3) (hM : (M : Int) ≤ big) (h1 : 1 ≤ D) (h2 : D ≤ 100) (hB : B < M) (hP : P < M)
    (q : ∀ a H', H a = none → Ex H H' → H' a = some (.lst (ans4 v0 v1 v2 v3)) → Q (.ref a) H') :
    tAns K C [y0, y1, some (.int (M : Int)), some (.int (D : Int)), some (.int (B : Int)), some (.int (P : Int)), y6, y7, y8, y9, y10, y11, y12, y13, y14] H Q := by
  refine ⟨4, rfl, by decide, by decide, fun R nR => ?_⟩
  refine lc_range (lo := 0) (n := 4) (fun i H' => Ex H H' ∧ H' R = some (.lst ((ans4 v0 v1 v2 v3).take i))) ⟨Evl.Ex.new nR, upd_same⟩ (fun i H' hi p => ?_) (fun H' p => ?_)
  · obtain ⟨p1, p2⟩ := p
    refine ⟨rfl, ?_⟩
    unfold tYes
    dsimp only
    rw [if_pos rfl]
    have ei : ((0 : Int) + (i : Int)) = (i : Int) := Int.zero_add _
    rw [ei]
    refine ⟨_, rfl, _, rfl, _, rfl, _, rfl, _, rfl, _, rfl, _, _, rfl, rfl, (by decide : 4 ≤ sizeLine), fun l nl => ?_⟩
    have el := Evl.Ex.new (o := .lst [.int (P : Int), .int ((P : Int) + 1), .int 0, .int 0]) nl
    obtain ⟨x, hx⟩ : ∃ x, (arg4 P)[i]? = some x := ⟨_, List.getElem?_eq_getElem hi⟩
    obtain ⟨v, hv⟩ : ∃ v, (ans4 v0 v1 v2 v3)[i]? = some v := ⟨_, List.getElem?_eq_getElem hi⟩
    have hat : atI (arg4 P) (i : Int) = some x := by
      have e : atI (arg4 P) (i : Int) = (arg4 P)[i]? := by
        rcases (by omega : i = 0 ∨ i = 1 ∨ i = 2 ∨ i = 3) with rfl | rfl | rfl | rfl <;> rfl
      rw [e, hx]
    refine ⟨_, rfl, l, _, _, x, rfl, rfl, sq_of upd_same, hat, ?_⟩
    refine told_right (E := E0) A hM h1 h2 hB hP hx hv fun H2 e2 => ?_
    refine ⟨_, e2 _ _ (el _ _ p2), ?_, Evl.Ex.mut (p1.trans (el.trans e2)) nR, ?_⟩
    · refine sz_lt ?_
      rw [List.length_take]; have : (ans4 v0 v1 v2 v3).length = 4 := rfl; omega
    · rw [upd_same, List.take_succ, hv]; rfl
  · exact q R H' nR p.1 p.2
end K04
end Cd

set_option Elab.async false
set_option linter.all false
set_option maxRecDepth 100000
set_option maxHeartbeats 4000000
namespace Cd
open PySem PySem.Spec PyProof.Rows L2 Tx Kp
open Evl (Ex sq_of ex_l sz_of sz_lt fresh_back)
/-- of a told kind, whatever the chance does -/
abbrev TypR (K : PySem.W.Frag) (p : Addr) (H : Hp) (x : V) : Prop := ∀ H', Run p H H' → Typ K H' x
theorem TypR.of {K : PySem.W.Frag} {p : Addr} {H : Hp} {x : V} (h : ∀ H, Typ K H x) : TypR K p H x := fun H' _ => h H'
theorem TypR.run {K : PySem.W.Frag} {p : Addr} {H H' : Hp} {x : V} (h : TypR K p H x) (r : Run p H H') : TypR K p H' x := fun H2 r2 => h H2 (r.trans r2)
theorem TypR.at {K : PySem.W.Frag} {p : Addr} {H : Hp} {x : V} (h : TypR K p H x) (st : StAt H p) : Typ K H x := h H (Run.refl st)
theorem TypR.ex {K : PySem.W.Frag} {p : Addr} {H H' : Hp} {x : V} (h : TypR K p H x) (st : StAt H p) (e : Ex H H') : Typ K H' x := h H' (Run.ex st e)
namespace K04
def tBad : TE := (tCall sOf [] E0 (tCons (tVar 1) (tCons (tLst (tCons (tC (.int 0)) (tCons (tUn oNeg (tC (.int 1))) (tCons (tOp oAdd (tOp oPow (tC (.int 10)) (tC (.int 60))) (tC (.int 1))) (tCons (tC .non) (tCons (tC (.bl true)) (tCons (tC (.str "1")) (tCons (tLst (tCons (tC (.int 1)) tNil)) tNil)))))))) tNil)))
def tOdd : TE := (tCall sOf [] E0 (tCons (tVar 1) (tCons (tLst (tCons (tC (.int 0)) (tCons (tUn oNeg (tC (.int 1))) (tCons (tC (.int 101)) (tCons (tOp oPow (tC (.int 10)) (tC (.int 30))) (tCons (tC .non) (tCons (tC (.bl true)) (tCons (tC (.str "2")) (tCons (tTup (tCons (tC (.int 1)) tNil)) tNil))))))))) tNil)))
def tOff : TE := (tCall sOf [] E0 (tCons (tVar 1) (tCons (tLst (tCons (tVar 2) (tCons (tUn oNeg (tC (.int 1))) (tCons (tOp oAdd (tVar 2) (tCall sFar [] E0 (tCons (tVar 1) (tCons (tOp oPow (tC (.int 10)) (tC (.int 62))) tNil)))) (tCons (tC .non) (tCons (tC (.bl true)) (tCons (tC (.str "0")) tNil))))))) tNil)))
def tOuts (K : PySem.W.Frag) : TE := (tCall sOf [] E0 (tCons (tVar 1) (tCons (tOp (rIxL K) (tLst (tCons (tLst (tCons (tVar 2) (tCons (tUn oNeg (tC (.int 1))) (tCons (tC .non) (tCons (tC (.bl true)) (tCons (tC (.str "0")) tNil)))))) (tCons (tLst (tCons (tC (.int 0)) (tCons (tOp oAdd (tVar 2) (tC (.int 1))) (tCons (tUn oNeg (tC (.int 1))) (tCons (tC .non) (tCons (tC (.bl true)) (tCons (tC (.str "1")) tNil))))))) tNil))) (tOp oMod (tVar 8) (tC (.int 2)))) tNil)))
section
variable {K : PySem.W.Frag} {p : Addr} {M : Nat} {i : Nat} {y0 y2 y3 y4 y5 y6 y7 y8 y9 y10 y11 y12 y13 y14 : Option V} {H : Hp} {Q : VK}
theorem bad_go (st : StAt H p) (q : ∀ v H', Run p H H' → TypR K p H' v → whB v 1 big = false → Q v H') : tBad [y0, some (.ref p), y2, y3, y4, y5, y6, y7, y8, y9, y10, y11, y12, y13, y14] H Q := by
  refine ⟨_, rfl, _, rfl, _, _, rfl, rfl, ⟨by decide, by decide, by decide⟩, _, _, rfl, rfl, (by decide : 1 ≤ sizeLine), fun l nl => ⟨(by decide : 7 ≤ sizeLine), fun l1 n1 => ?_⟩⟩
  have e0 := Evl.Ex.new (o := .lst [.int 1]) nl
  have st0 := st.ex e0
  refine ⟨p, .ref l1, rfl, st0.ex (Evl.Ex.new n1), .inl ⟨l1, _, rfl, st0.ne n1, upd_same, by simp, fun H2 bad r2 hb => ?_⟩⟩
  have e1 := e0.trans (Evl.Ex.new (o := .lst [V.int 0, .int (-1), .int (10 ^ (60 : Int).toNat + 1), .non, .bl true, .str "1", .ref l]) n1)
  have hl : _ = some (HO.lst [V.int 1]) := upd_same (H := H) (a := l)
  have hl2 := r2.keep (st.ne nl) (Evl.Ex.new (o := .lst [V.int 0, .int (-1), .int (10 ^ (60 : Int).toNat + 1), .non, .bl true, .str "1", .ref l]) n1 _ _ hl)
  refine q bad H2 ((Run.ex st e1).trans r2) ?_ ?_
  · simp only [List.mem_cons, List.not_mem_nil, or_false] at hb
    rcases hb with rfl | rfl | rfl | rfl | rfl | rfl | rfl <;> first | exact TypR.of fun _ => Typ.int | exact TypR.of fun _ => Typ.non | exact TypR.of fun _ => Typ.bl | exact TypR.of fun _ => Typ.str | exact fun H' r => Typ.lst (r.keep (st.ne nl) hl2)
  · simp only [ten60, List.mem_cons, List.not_mem_nil, or_false] at hb
    rcases hb with rfl | rfl | rfl | rfl | rfl | rfl | rfl <;> first | rfl | decide
theorem odd_go (st : StAt H p) (q : ∀ v H', Run p H H' → TypR K p H' v → whB v 1 100 = false → Q v H') : tOdd [y0, some (.ref p), y2, y3, y4, y5, y6, y7, y8, y9, y10, y11, y12, y13, y14] H Q := by
  refine ⟨_, rfl, _, rfl, _, _, rfl, rfl, ⟨by decide, by decide, by decide⟩, (by decide : 1 ≤ sizeLine), fun l nl => ⟨(by decide : 8 ≤ sizeLine), fun l1 n1 => ?_⟩⟩
  have e0 := Evl.Ex.new (o := .tup [.int 1]) nl
  have st0 := st.ex e0
  refine ⟨p, .ref l1, rfl, st0.ex (Evl.Ex.new n1), .inl ⟨l1, _, rfl, st0.ne n1, upd_same, by simp, fun H2 bad r2 hb => ?_⟩⟩
  have e1 := Evl.Ex.new (o := .lst [V.int 0, .int (-1), .int 101, .int (10 ^ (30 : Int).toNat), .non, .bl true, .str "2", .ref l]) n1
  have hl : _ = some (HO.tup [V.int 1]) := upd_same (H := H) (a := l)
  have hl2 := r2.keep (st.ne nl) (e1 _ _ hl)
  have t30 : (10 : Int) ^ (30 : Int).toNat = 1000000000000000000000000000000 := by decide
  refine q bad H2 ((Run.ex st (e0.trans e1)).trans r2) ?_ ?_
  · simp only [List.mem_cons, List.not_mem_nil, or_false] at hb
    rcases hb with rfl | rfl | rfl | rfl | rfl | rfl | rfl | rfl <;> first | exact TypR.of fun _ => Typ.int | exact TypR.of fun _ => Typ.non | exact TypR.of fun _ => Typ.bl | exact TypR.of fun _ => Typ.str | exact fun H' r => Typ.tup (r.keep (st.ne nl) hl2)
  · simp only [t30, List.mem_cons, List.not_mem_nil, or_false] at hb
    rcases hb with rfl | rfl | rfl | rfl | rfl | rfl | rfl | rfl <;> first | rfl | decide
theorem off_go (m1 : 1 ≤ M) (st : StAt H p) (q : ∀ v H', Run p H H' → TypR K p H' v → whB v 0 ((M : Int) - 1) = false → Q v H') : tOff [y0, some (.ref p), some (.int (M : Int)), y3, y4, y5, y6, y7, y8, y9, y10, y11, y12, y13, y14] H Q := by
  have t62 : (10 : Int) ^ (62 : Int).toNat = 100000000000000000000000000000000000000000000000000000000000000 := by decide
  refine ⟨_, rfl, _, rfl, _, rfl, _, rfl, _, rfl, _, _, rfl, rfl, ⟨by decide, by decide, by decide⟩, p, _, rfl, st, by rw [t62]; decide, fun H1 f r1 hf => ?_⟩
  refine ⟨_, _, rfl, rfl, (by decide : 6 ≤ sizeLine), fun l1 n1 => ?_⟩
  refine ⟨p, .ref l1, rfl, r1.2.ex (Evl.Ex.new n1), .inl ⟨l1, _, rfl, r1.2.ne n1, upd_same, by simp, fun H2 bad r2 hb => ?_⟩⟩
  refine q bad H2 (r1.trans ((Run.ex r1.2 (Evl.Ex.new n1)).trans r2)) ?_ ?_
  · simp only [List.mem_cons, List.not_mem_nil, or_false] at hb
    rcases hb with rfl | rfl | rfl | rfl | rfl | rfl <;> first | exact TypR.of fun _ => Typ.int | exact TypR.of fun _ => Typ.non | exact TypR.of fun _ => Typ.bl | exact TypR.of fun _ => Typ.str
  · simp only [List.mem_cons, List.not_mem_nil, or_false] at hb
    rcases hb with rfl | rfl | rfl | rfl | rfl | rfl <;> first | rfl | exact wh_off (by omega)
theorem outs_go (m1 : 1 ≤ M) (st : StAt H p) (q : ∀ v H', Run p H H' → TypR K p H' v → (i % 2 = 0 → whB v 0 ((M : Int) - 1) = false) → (i % 2 = 1 → whB v 1 (M : Int) = false) → Q v H') : tOuts K [y0, some (.ref p), some (.int (M : Int)), y3, y4, y5, y6, y7, some (.int (i : Int)), y9, y10, y11, y12, y13, y14] H Q := by
  refine ⟨_, rfl, _, rfl, _, rfl, (by decide : 5 ≤ sizeLine), fun l nl => ⟨_, rfl, _, _, rfl, rfl, _, rfl, (by decide : 6 ≤ sizeLine), fun k nk => ⟨(by decide : 2 ≤ sizeLine), fun o no => ?_⟩⟩⟩
  have e1 := Evl.Ex.new (o := .lst [.int (M : Int), .int (-1), .non, .bl true, .str "0"]) nl
  have e2 := Evl.Ex.new (o := .lst [.int 0, .int ((M : Int) + 1), .int (-1), .non, .bl true, .str "1"]) nk
  have e3 := Evl.Ex.new (o := .lst [.ref l, .ref k]) no
  have hl := (e2.trans e3) _ _ (show _ = some (HO.lst [.int (M : Int), .int (-1), .non, .bl true, .str "0"]) from upd_same (H := H) (a := l))
  have hk := e3 _ _ (show _ = some (HO.lst [.int 0, .int ((M : Int) + 1), .int (-1), .non, .bl true, .str "1"]) from upd_same)
  have e := e1.trans (e2.trans e3)
  have st3 := st.ex e
  have ne1 := st.ne nl
  have ne2 := (st.ex e1).ne nk
  refine ⟨_, rfl, _, _, rfl, rfl, pos0 (by decide), ?_⟩
  rcases (by omega : i % 2 = 0 ∨ i % 2 = 1) with c | c
  · have ci : (i : Int) % 2 = 0 := by omega
    dsimp only
    rw [ci]
    refine ⟨o, _, 0, .ref l, rfl, rfl, sq_of upd_same, rfl, ?_⟩
    refine ⟨p, .ref l, rfl, st3, .inl ⟨l, _, rfl, ne1, hl, by simp, fun H2 bad r2 hb => ?_⟩⟩
    refine q bad H2 ((Run.ex st e).trans r2) ?_ (fun _ => ?_) (fun z => by omega)
    · simp only [List.mem_cons, List.not_mem_nil, or_false] at hb
      rcases hb with rfl | rfl | rfl | rfl | rfl <;> first | exact TypR.of fun _ => Typ.int | exact TypR.of fun _ => Typ.non | exact TypR.of fun _ => Typ.bl | exact TypR.of fun _ => Typ.str
    · simp only [List.mem_cons, List.not_mem_nil, or_false] at hb
      rcases hb with rfl | rfl | rfl | rfl | rfl <;> first | rfl | exact wh_off (by omega)
  · have ci : (i : Int) % 2 = 1 := by omega
    dsimp only
    rw [ci]
    refine ⟨o, _, 1, .ref k, rfl, rfl, sq_of upd_same, rfl, ?_⟩
    refine ⟨p, .ref k, rfl, st3, .inl ⟨k, _, rfl, ne2, hk, by simp, fun H2 bad r2 hb => ?_⟩⟩
    refine q bad H2 ((Run.ex st e).trans r2) ?_ (fun z => by omega) (fun _ => ?_)
    · simp only [List.mem_cons, List.not_mem_nil, or_false] at hb
      rcases hb with rfl | rfl | rfl | rfl | rfl | rfl <;> first | exact TypR.of fun _ => Typ.int | exact TypR.of fun _ => Typ.non | exact TypR.of fun _ => Typ.bl | exact TypR.of fun _ => Typ.str
    · simp only [List.mem_cons, List.not_mem_nil, or_false] at hb
      rcases hb with rfl | rfl | rfl | rfl | rfl | rfl <;> first | rfl | exact wh_off (by omega)
end
end K04
end Cd

set_option Elab.async false
set_option linter.all false
set_option maxRecDepth 100000
set_option maxHeartbeats 4000000
namespace Cd
open PySem PySem.Spec PyProof.Rows L2 Tx Kp
open Evl (Ex sq_of ex_l sz_of sz_lt fresh_back)
theorem ne_self' {xs : List V} (h : (if true = true then !decide (xs = xs) else decide (xs = xs)) = true) : False := by
  simp at h
namespace K04
abbrev Args (M D B : Nat) (p a : Addr) (y0 y6 y7 y8 y9 y10 y11 y12 y13 y14 : Option V) (P : Nat) : L2.St := [some (.ref a), some (.ref p), some (.int (M : Int)), some (.int (D : Int)), some (.int (B : Int)), some (.int (P : Int)), y6, y7, y8, y9, y10, y11, y12, y13, y14]
def t_other (K : PySem.W.Frag) (C : Cs) : TS :=
  (tSeq (tAsg (tLst (tCons (tCall (sTold K C) [] E0 (tCons (tVar 14) (tCons (tVar 9) (tCons (tVar 10) (tCons (tVar 11) (tCons (tC (.int 0)) tNil)))))) (tCons (tCall (sTold K C) [] E0 (tCons (tVar 14) (tCons (tVar 2) (tCons (tVar 10) (tCons (tVar 11) (tCons (tC (.int 0)) tNil)))))) tNil))) (gName 13))
  (tSeq (tDrop (tBM K "list" rAppend (tVar 13) (tCons (tCall (sTold K C) [] E0 (tCons (tVar 14) (tCons (tVar 2) (tCons (tVar 3) (tCons (tVar 11) (tCons (tC (.int 0)) tNil)))))) tNil)))
  (tIfS (tTest (tOp (rEqF K true) (tVar 13) (tLst (tCons (tC (.str "many")) (tCons (tC (.str "step")) (tCons (tC (.str "place")) tNil))))))
  (tRet (tC (.bl false)))
  tNext)))
structure Wrong (K : PySem.W.Frag) (p : Addr) (H : Hp) (M : Nat) (bad odd off : V) : Prop where
  t1 : TypR K p H bad
  badw : whB bad 1 big = false
  t2 : TypR K p H odd
  oddw : whB odd 1 100 = false
  t3 : TypR K p H off
  offw : whB off 0 ((M : Int) - 1) = false
theorem Wrong.run {K : PySem.W.Frag} {p : Addr} {H H' : Hp} {M : Nat} {bad odd off : V} (w : Wrong K p H M bad odd off) (r : Run p H H') : Wrong K p H' M bad odd off := ⟨w.t1.run r, w.badw, w.t2.run r, w.oddw, w.t3.run r, w.offw⟩
section
variable {K : PySem.W.Frag} {C : Cs} {M D B : Nat} {p : Addr} {H : Hp} {bad odd off x : V} {Q : VK} {way : Nat}
theorem told_many (W : Wrong K p H M bad odd off) (st : StAt H p) (hw : way < 4) (tx : Typ K H x) (q : ∀ H', Ex H H' → Q (.str "many") H') : sTold K C [.int (way : Int), bad, odd, off, x] H Q E0 :=
  told_ref hw tx fun E' ok g => ref_many (W.t1.at st) (W.t2.at st) (W.t3.at st) W.badw (g _ _ (eWord_of .many q))
theorem told_stp (W : Wrong K p H M bad odd off) (st : StAt H p) (hw : way < 4) (tx : Typ K H x) (m1 : 1 ≤ M) (m2 : (M : Int) ≤ big) (q : ∀ H', Ex H H' → Q (.str "step") H') : sTold K C [.int (way : Int), .int (M : Int), odd, off, x] H Q E0 :=
  told_ref hw tx fun E' ok g => ref_step (W.t2.at st) (W.t3.at st) (by omega) m2 W.oddw (g _ _ (eWord_of .step q))
theorem told_plc (W : Wrong K p H M bad odd off) (st : StAt H p) (hw : way < 4) (tx : Typ K H x) (m1 : 1 ≤ M) (m2 : (M : Int) ≤ big) (d1 : 1 ≤ D) (d2 : D ≤ 100) (q : ∀ H', Ex H H' → Q (.str "place") H') : sTold K C [.int (way : Int), .int (M : Int), .int (D : Int), off, x] H Q E0 :=
  told_ref hw tx fun E' ok g => ref_place (W.t3.at st) (by omega) m2 (by omega) (by omega) W.offw (g _ _ (eWord_of .place q))
end
theorem other_go {K : PySem.W.Frag} {C : Cs} {M D B P : Nat} {p a : Addr} {H : Hp} {bad odd off : V} {way : Nat} {y6 y7 y8 y12 y13 : Option V} {De : Ends} (W : Wrong K p H M bad odd off) (st : StAt H p) (hw : way < 4) (m1 : 1 ≤ M) (m2 : (M : Int) ≤ big) (d1 : 1 ≤ D) (d2 : D ≤ 100)
    (k : ∀ y13 H', Ex H H' → De.nx [some (.ref a), some (.ref p), some (.int (M : Int)), some (.int (D : Int)), some (.int (B : Int)), some (.int (P : Int)), y6, y7, y8, some bad, some odd, some off, y12, y13, some (.int (way : Int))] H') :
    t_other K C De [some (.ref a), some (.ref p), some (.int (M : Int)), some (.int (D : Int)), some (.int (B : Int)), some (.int (P : Int)), y6, y7, y8, some bad, some odd, some off, y12, y13, some (.int (way : Int))] H := by
  refine ⟨_, rfl, _, rfl, _, rfl, _, rfl, ?_⟩
  refine told_many W st hw Typ.int fun H1 e1 => ?_
  refine ⟨_, rfl, _, rfl, _, rfl, _, rfl, ?_⟩
  refine told_stp (W.run (Run.ex st e1)) (st.ex e1) hw Typ.int m1 m2 fun H2 e2 => ?_
  have e12 := e1.trans e2
  refine ⟨(by decide : 2 ≤ sizeLine), fun T nT => ?_⟩
  have e3 := Evl.Ex.new (o := .lst [.str "many", .str "step"]) nT
  have e13 := e12.trans e3
  have nT0 : H T = none := fresh_back e12 nT
  refine ⟨_, rfl, ty_l upd_same, _, rfl, _, rfl, _, rfl, _, rfl, ?_⟩
  refine told_plc (W.run (Run.ex st e13)) (st.ex e13) hw Typ.int m1 m2 d1 d2 fun H4 e4 => ?_
  have hT := e4 _ _ (show _ = some (HO.lst [.str "many", .str "step"]) from upd_same)
  refine ⟨T, _, _, rfl, rfl, hT, sz_lt (by decide), ?_⟩
  have e5 : Ex H (upd H4 T (.lst ([.str "many", .str "step"] ++ [.str "place"]))) := Evl.Ex.mut (e13.trans e4) nT0
  refine ⟨_, rfl, (by decide : 3 ≤ sizeLine), fun U nU => ?_⟩
  have e6 := Evl.Ex.new (o := .lst [.str "many", .str "step", .str "place"]) nU
  refine ⟨T, U, _, _, rfl, rfl, sq_of (e6 _ _ upd_same), sq_of upd_same, by decide +kernel, by decide +kernel, _, rfl, iteC (fun c => (ne_self' c).elim) (fun _ => ?_)⟩
  exact k _ _ (e5.trans e6)
end K04
end Cd

set_option Elab.async false
set_option linter.all false
set_option maxRecDepth 100000
set_option maxHeartbeats 4000000
namespace Cd
open PySem PySem.Spec PyProof.Rows L2
open Evl (Ex sq_of ex_l sz_of sz_lt fresh_back)
namespace K06
theorem filter_is (B : Nat) : ∀ M, (List.range M).filter (fun b => decide (b = B)) = if B < M then [B] else []
  | 0 => by simp
  | M + 1 => by
    rw [List.range_succ, List.filter_append, filter_is B M]
    by_cases h1 : B < M
    · rw [if_pos h1, if_pos (by omega), List.filter_cons_of_neg (by simp; omega)]; rfl
    · rw [if_neg h1]
      by_cases h2 : B = M
      · subst h2; simp
      · rw [if_neg (by omega), List.filter_cons_of_neg (by simp; omega)]; rfl
/-- who is last, by the beginning -/
def lastp (D M b : Nat) : Nat := ((Jos.order D M b)[M - 1]?).getD 0
theorem lastp_of {D M b : Nat} (hM : 1 ≤ M) : (Jos.order D M b)[M - 1]? = some (lastp D M b) := by
  unfold lastp
  rw [List.getElem?_eq_getElem (by rw [Jos.order_len]; omega)]
  rfl
theorem filter_last {D M B g : Nat} (hB : B < M) (h : (Jos.order D M B)[M - 1]? = some g) : (List.range M).filter (fun b => decide (lastp D M b = g)) = [B] := by
  have e : (List.range M).filter (fun b => decide (lastp D M b = g)) = (List.range M).filter (fun b => decide (b = B)) := by
    apply List.filter_congr
    intro b hb
    have hb' := List.mem_range.mp hb
    rw [decide_eq_decide]
    constructor
    · intro e
      obtain ⟨R, h0⟩ : ∃ R, (Jos.order D M 0)[M - 1]? = some R := ⟨_, List.getElem?_eq_getElem (by rw [Jos.order_len]; omega)⟩
      exact Jos.order_last_uniq h0 hb' hB (by rw [lastp_of (by omega), e]) h
    · intro e
      subst e
      have := lastp_of (D := D) (b := b) (show 1 ≤ M by omega)
      rw [h] at this
      exact (Option.some.inj this).symm
  rw [e, filter_is, if_pos hB]
def tRowLast (K : PySem.W.Frag) : TE := (tOp (rIxL K) (tCall (sOut K) [] E0 (tCons (tCall sTurned [] E0 (tCons (tLstRg (tRg1 (tVar 2))) (tCons (tVar 7) tNil))) (tCons (tVar 3) tNil))) (tUn oNeg (tC (.int 1))))
theorem row_last {K : PySem.W.Frag} {M D b : Nat} {y0 y1 y4 y5 y6 : Option V} {H : Hp} {Q : VK} (m1 : 1 ≤ M) (m2 : M ≤ 200) (d1 : 1 ≤ D) (hb : b < M) (q : ∀ H', Ex H H' → Q (nV (lastp D M b)) H') :
    tRowLast K [y0, y1, some (.int (M : Int)), some (.int (D : Int)), y4, y5, y6, some (.int (b : Int))] H Q := by
  refine ⟨_, rfl, _, rfl, RgOk.of_le (by decide) (by omega) (by decide) (by omega), fun l nl => ?_⟩
  have e1 := Evl.Ex.new (o := .lst (rgV 0 (M : Int))) nl
  refine ⟨_, rfl, l, _, _, rfl, upd_same, ?_, ?_, fun c H6 nc e6 hc => ?_⟩
  · rw [rg_nV, List.length_map, List.length_range]; omega
  · rw [rg_nV, List.length_map, List.length_range]; omega
  rw [rg_nV, List.length_map, List.length_range, Int.emod_eq_of_lt (by omega) (by omega), Int.toNat_natCast, Jos.rot_map] at hc
  refine ⟨_, rfl, c, _, _, rfl, sq_of hc, ?_, nV_plain _, by omega, fun o H7 no e7 ho => ?_⟩
  · rw [List.length_map, Jos.rot_len, List.length_range]; omega
  have ho' : H7 o = some (.lst ((Jos.order D M b).map nV)) := by
    rw [ho, List.length_map, Jos.rot_len, List.length_range, Jos.out_map, show ((D : Int) - 1).toNat = D - 1 by omega]
    rfl
  refine ⟨_, rfl, o, _, -1, _, rfl, rfl, sq_of ho', last_at (n := M) (x := nV (lastp D M b)) (by rw [List.getElem?_map, lastp_of m1]; rfl) (by rw [List.length_map, Jos.order_len]) (by omega), q _ (e1.trans (e6.trans e7))⟩
def tLasts (K : PySem.W.Frag) : TE := (tLc (iRng1 (tCons (tVar 2) tNil)) (gName 7) tYes (tRowLast K) [7])
theorem lasts_go {K : PySem.W.Frag} {M D : Nat} {y0 y1 y4 y5 y6 y7 : Option V} {H : Hp} {Q : VK} (m1 : 1 ≤ M) (m2 : M ≤ 200) (d1 : 1 ≤ D) (q : ∀ a H', H a = none → Ex H H' → H' a = some (.lst (((List.range M).map (lastp D M)).map nV)) → Q (.ref a) H') :
    tLasts K [y0, y1, some (.int (M : Int)), some (.int (D : Int)), y4, y5, y6, y7] H Q := by
  refine ⟨_, rfl, _, rfl, by omega, by omega, fun R nR => ?_⟩
  refine lc_range (lo := 0) (n := M) (fun i H' => Ex H H' ∧ H' R = some (.lst (((List.range i).map (lastp D M)).map nV))) ⟨Evl.Ex.new nR, upd_same⟩ (fun i H' hi p => ?_) (fun H' p => q R H' nR p.1 p.2)
  obtain ⟨p1, p2⟩ := p
  refine ⟨rfl, ?_⟩
  unfold tYes
  dsimp only
  rw [if_pos rfl]
  have ei : ((0 : Int) + (i : Int)) = (i : Int) := Int.zero_add _
  rw [ei]
  refine row_last m1 m2 d1 hi fun H2 e2 => ?_
  refine ⟨_, e2 _ _ p2, ?_, Evl.Ex.mut (p1.trans e2) nR, ?_⟩
  · refine sz_lt ?_
    rw [List.length_map, List.length_map, List.length_range]; omega
  · rw [upd_same, List.range_succ, List.map_append, List.map_append]; rfl
def tWish (K : PySem.W.Frag) : TE := (tLc (iRng1 (tCons (tVar 2) tNil)) (gName 7) (tTest (tOp rEq (tOp (rIxL K) (tVar 6) (tVar 7)) (tVar 4))) (tVar 7) [7])
theorem wish_go {K : PySem.W.Frag} {M D g : Nat} {L : Addr} {y0 y1 y3 y5 y7 : Option V} {H : Hp} {Q : VK} (m1 : 1 ≤ M) (m2 : M ≤ 200) (hL : H L = some (.lst (((List.range M).map (lastp D M)).map nV))) (q : ∀ a H', H a = none → Ex H H' → H' a = some (.lst (((List.range M).filter (fun b => decide (lastp D M b = g))).map nV)) → Q (.ref a) H') :
    tWish K [y0, y1, some (.int (M : Int)), y3, some (.int (g : Int)), y5, some (.ref L), y7] H Q := by
  refine ⟨_, rfl, _, rfl, by omega, by omega, fun R nR => ?_⟩
  refine lc_range (lo := 0) (n := M) (fun i H' => Ex H H' ∧ H' R = some (.lst (((List.range i).filter (fun b => decide (lastp D M b = g))).map nV))) ⟨Evl.Ex.new nR, upd_same⟩ (fun i H' hi p => ?_) (fun H' p => q R H' nR p.1 p.2)
  obtain ⟨p1, p2⟩ := p
  refine ⟨rfl, ?_⟩
  have ei : ((0 : Int) + (i : Int)) = (i : Int) := Int.zero_add _
  rw [ei]
  have hat : atI (((List.range M).map (lastp D M)).map nV) (i : Int) = some (nV (lastp D M i)) := by
    unfold atI ixN
    rw [if_pos (by omega)]
    simp [hi]
  refine ⟨_, rfl, _, rfl, L, _, _, _, rfl, rfl, sq_of (p1 _ _ hL), hat, _, rfl, rfl, _, rfl, ?_⟩
  have ed : decide (nV (lastp D M i) = V.int (g : Int)) = decide (lastp D M i = g) := by
    rw [decide_eq_decide]
    unfold nV
    constructor
    · intro e; have := V.int.inj e; omega
    · intro e; rw [e]
  rw [ed]
  dsimp only
  split
  · rename_i c
    refine ⟨_, rfl, _, p2, ?_, Evl.Ex.mut p1 nR, ?_⟩
    · refine sz_lt ?_
      rw [List.length_map]
      exact Nat.lt_of_le_of_lt (List.length_filter_le _ _) (by rw [List.length_range]; omega)
    · have ef : [i].filter (fun b => decide (lastp D M b = g)) = [i] := by simp [of_decide_eq_true c]
      rw [upd_same, List.range_succ, List.filter_append, List.map_append, ef]; rfl
  · rename_i c
    refine ⟨p1, ?_⟩
    have ef : [i].filter (fun b => decide (lastp D M b = g)) = [] := by simp; intro z; exact c (decide_eq_true z)
    rw [p2, List.range_succ, List.filter_append, ef, List.append_nil]
def t_half2 (K : PySem.W.Frag) (CM CS CP : Addr) : TS :=
  (tSeq (tAsg (tCall sOf [] E0 (tCons (tVar 1) (tCons (tLst (tCons (tOp oPow (tC (.int 10)) (tC (.int 60))) (tCons (tOp oAdd (tC (.int 1)) (tCall sFar [] E0 (tCons (tVar 1) (tCons (tOp oPow (tC (.int 10)) (tC (.int 60))) tNil)))) (tCons (tC (.int 2)) tNil)))) tNil))) (gName 2))
  (tSeq (tAsg (tOp oAdd (tC (.int 1)) (tOp oMod (tCall sNext [] E0 (tCons (tVar 1) tNil)) (tC (.int 12)))) (gName 3))
  (tSeq (tAsg (tCall sOf [] E0 (tCons (tVar 1) (tCons (tLst (tCons (tC (.int 0)) (tCons (tOp oSub (tVar 2) (tC (.int 1))) (tCons (tCall sFar [] E0 (tCons (tVar 1) (tCons (tVar 2) tNil))) tNil)))) tNil))) (gName 4))
  (tSeq (tAsg (tCall (sBegin K CM CS CP) [] E0 (tCons (tVar 2) (tCons (tVar 3) (tCons (tVar 4) tNil)))) (gName 5))
  (tSeq (tIfS (tOr (tNot (tB (tCall sWhole [] E0 (tCons (tVar 5) tNil)))) (tOr (tNot (tTest (tChain oLe oLt (tC (.int 0)) (tVar 5) (tVar 2)))) (tTest (tOp rNe (tCall (sLast K CM CS CP) [] E0 (tCons (tVar 2) (tCons (tVar 3) (tCons (tVar 5) tNil)))) (tVar 4)))))
  (tRet (tC (.bl false)))
  tNext)
  (tRet (tOrV (tOp rEq (tVar 2) (tC (.int 1))) (tOp rNe (tCall (sLast K CM CS CP) [] E0 (tCons (tVar 2) (tCons (tVar 3) (tCons (tOp oMod (tOp oAdd (tVar 5) (tC (.int 1))) (tVar 2)) tNil)))) (tVar 4)))))))))
theorem half2_go {K : PySem.W.Frag} {CM CS CP a p : Addr} {y2 y3 y4 y5 y6 y7 : Option V} {De : Ends} {H : Hp} (st : StAt H p) (k : ∀ H', De.rt (.bl true) H') :
    t_half2 K CM CS CP De [some (.ref a), some (.ref p), y2, y3, y4, y5, y6, y7] H := by
  refine ⟨_, rfl, _, _, rfl, rfl, ⟨by decide, by decide, by decide⟩, _, rfl, _, _, rfl, rfl, ⟨by decide, by decide, by decide⟩, p, _, rfl, st, by rw [ten60]; decide, fun H1 f r1 hf => ?_⟩
  refine ⟨_, _, rfl, rfl, (by decide : 3 ≤ sizeLine), fun l nl => ?_⟩
  refine ⟨p, .ref l, rfl, r1.2.ex (Evl.Ex.new nl), .inl ⟨l, _, rfl, r1.2.ne nl, upd_same, by simp, fun H2 v r2 hv => ?_⟩⟩
  obtain ⟨M, rfl, m1, m2⟩ : ∃ M : Nat, v = .int (M : Int) ∧ 1 ≤ M ∧ (M : Int) ≤ big := by
    rw [ten60] at hf
    simp only [ten60, List.mem_cons, List.not_mem_nil, or_false] at hv
    rcases hv with rfl | rfl | rfl
    · exact ⟨big.toNat, by decide, by decide, by decide⟩
    · exact ⟨1 + f, by congr 1, by omega, by omega⟩
    · exact ⟨2, rfl, by decide, by decide⟩
  clear hv
  refine ⟨_, rfl, p, rfl, r2.2, fun H3 n3 r3 _ _ => ?_⟩
  refine ⟨_, _, rfl, rfl, pos0 (by decide), _, _, rfl, rfl, ?_⟩
  obtain ⟨D, hD, d1, d2⟩ : ∃ D : Nat, 1 + n3 % 12 = (D : Int) ∧ 1 ≤ D ∧ D ≤ 100 := by
    have b1 : 0 ≤ n3 % 12 := Int.emod_nonneg _ (by decide)
    have b2 : n3 % 12 < 12 := Int.emod_lt_of_pos _ (by decide)
    exact ⟨(1 + n3 % 12).toNat, by omega, by omega, by omega⟩
  dsimp only
  rw [hD]
  refine ⟨_, rfl, _, rfl, _, _, rfl, rfl, _, rfl, _, rfl, p, _, rfl, r3.2, by omega, fun H4 f4 r4 h4 => ?_⟩
  refine ⟨(by decide : 3 ≤ sizeLine), fun l4 nl4 => ?_⟩
  refine ⟨p, .ref l4, rfl, r4.2.ex (Evl.Ex.new nl4), .inl ⟨l4, _, rfl, r4.2.ne nl4, upd_same, by simp, fun H5 v r5 hv => ?_⟩⟩
  obtain ⟨g, rfl, hg⟩ : ∃ g : Nat, v = .int (g : Int) ∧ g < M := by
    simp only [List.mem_cons, List.not_mem_nil, or_false] at hv
    rcases hv with rfl | rfl | rfl
    · exact ⟨0, rfl, by omega⟩
    · exact ⟨M - 1, by congr 1; omega, by omega⟩
    · exact ⟨f4, rfl, by omega⟩
  clear hv
  obtain ⟨B, hB, hBl⟩ := begin_is (D := D) hg
  refine ⟨_, rfl, _, rfl, _, rfl, ?_⟩
  refine begin_right (E := E0) m2 d1 d2 hg hB hBl fun H6 e6 => ?_
  refine ⟨_, rfl, _, rfl, true, rfl, iteF ?_⟩
  have c1 : (0 : Int) ≤ (B : Int) := by omega
  refine ⟨_, rfl, _, _, rfl, rfl, _, rfl, iteC (fun _ => ?_) (fun c => absurd c (by rw [decide_eq_true c1]; simp))⟩
  refine ⟨_, rfl, _, _, rfl, rfl, _, rfl, ?_⟩
  rw [decide_eq_true (show (B : Int) < (M : Int) by omega)]
  refine iteF ?_
  refine ⟨_, rfl, _, rfl, _, rfl, ?_⟩
  refine last_right m2 d1 d2 hB hBl ?_
  refine ⟨_, rfl, rfl, _, rfl, iteC (fun e => (dec_self e).elim) (fun _ => ?_)⟩
  -- another beginning beside
  refine ⟨_, rfl, rfl, _, rfl, iteC (fun e => ?_) (fun e => ?_)⟩
  · exact k _
  · have hM1 : M ≠ 1 := fun z => by
      subst z
      rw [decide_eq_true (show V.int ((1 : Nat) : Int) = V.int 1 from rfl)] at e
      cases e
    refine ⟨_, rfl, _, rfl, _, rfl, _, _, rfl, rfl, _, rfl, _, _, rfl, rfl, pos0 (by omega), ?_⟩
    dsimp only
    rw [show ((B : Int) + 1) % (M : Int) = (((B + 1) % M : Nat) : Int) by rw [Int.natCast_emod, Int.natCast_add]; rfl]
    have hB' : (B + 1) % M < M := Nat.mod_lt _ (by omega)
    obtain ⟨U, hU⟩ : ∃ U, (Jos.order D M ((B + 1) % M))[M - 1]? = some U := ⟨_, List.getElem?_eq_getElem (by rw [Jos.order_len]; omega)⟩
    refine last_right m2 d1 d2 hB' hU ?_
    refine ⟨_, rfl, rfl, ?_⟩
    have hne : ¬ V.int (U : Int) = V.int (g : Int) := fun z => by
      have z1 := V.int.inj z
      have z2 : U = g := by omega
      subst z2
      obtain ⟨R, h0⟩ : ∃ R, (Jos.order D M 0)[M - 1]? = some R := ⟨_, List.getElem?_eq_getElem (by rw [Jos.order_len]; omega)⟩
      have := Jos.order_last_uniq h0 hB' hB hU hBl
      rcases Nat.lt_or_ge (B + 1) M with c | c
      · rw [Nat.mod_eq_of_lt c] at this; omega
      · have z3 : B + 1 = M := by omega
        rw [z3, Nat.mod_self] at this; omega
    rw [decide_eq_false hne]
    exact k _
def t_law (K : PySem.W.Frag) (CM CS CP : Addr) : TS :=
(tSeq (tAsg (tCall (sState K) [] E0 (tCons (tVar 0) (tCons (tC (.int 0)) tNil))) (gName 1))
  (tSeq (tAsg (tCall sOf [] E0 (tCons (tVar 1) (tCons (tLst (tCons (tC (.int 1)) (tCons (tC (.int 2)) (tCons (tOp oAdd (tC (.int 1)) (tOp oMod (tCall sNext [] E0 (tCons (tVar 1) tNil)) (tC (.int 30)))) tNil)))) tNil))) (gName 2))
  (tSeq (tAsg (tCall sStep [] E0 (tCons (tVar 1) (tCons (tC (.int 100)) tNil))) (gName 3))
  (tSeq (tAsg (tOp oMod (tCall sNext [] E0 (tCons (tVar 1) tNil)) (tVar 2)) (gName 4))
  (tSeq (tAsg (tCall (sBegin K CM CS CP) [] E0 (tCons (tVar 2) (tCons (tVar 3) (tCons (tVar 4) tNil)))) (gName 5))
  (tSeq (tAsg (tLasts K) (gName 6))
  (tSeq (tIfS (tOr (tNot (tB (tCall sWhole [] E0 (tCons (tVar 5) tNil)))) (tTest (tOp (rEqF K true) (tWish K) (tLst (tCons (tVar 5) tNil)))))
  (tRet (tC (.bl false)))
  tNext)
  (t_half2 K CM CS CP))))))))
def sLaw (K : PySem.W.Frag) : Sp := fun vs H Q _ => ∃ (a : Addr) (ns : List Int), vs = [.ref a] ∧ SqL K H a (ns.map V.int) ∧ ∀ H', Q (.bl true) H'
theorem pure_law {K : PySem.W.Frag} {CM CS CP : Addr} {vs : List V} {H : Hp} {Q : VK} {E : XK} {nx : L2.St → Hp → Prop} (h : sLaw K vs H Q E) : t_law K CM CS CP { nx := nx, rt := Q } (start ["_law_script", "_law_state_here", "_law_many", "_law_step_here", "_law_place", "_law_found", "_law_lasts", "_law_begin"] vs) H := by
  unfold t_law
  generalize hT0 : tLasts K = tq0
  generalize hT1 : tWish K = tq1
  obtain ⟨a, ns, rfl, hS, q⟩ := h
  refine ⟨_, rfl, a, ns, 0, rfl, hS, fun p H1 np e1 st1 => ?_⟩
  refine ⟨_, rfl, _, rfl, p, rfl, st1, fun H2 n2 r2 _ _ => ?_⟩
  refine ⟨_, _, rfl, rfl, pos0 (by decide), _, _, rfl, rfl, (by decide : 3 ≤ sizeLine), fun l nl => ?_⟩
  refine ⟨p, .ref l, rfl, r2.2.ex (Evl.Ex.new nl), .inl ⟨l, _, rfl, r2.2.ne nl, upd_same, by simp, fun H3 v r3 hv => ?_⟩⟩
  obtain ⟨M, rfl, m1, m2⟩ : ∃ M : Nat, v = .int (M : Int) ∧ 1 ≤ M ∧ M ≤ 30 := by
    have b1 : 0 ≤ n2 % 30 := Int.emod_nonneg _ (by decide)
    have b2 : n2 % 30 < 30 := Int.emod_lt_of_pos _ (by decide)
    simp only [List.mem_cons, List.not_mem_nil, or_false] at hv
    rcases hv with rfl | rfl | rfl
    · exact ⟨1, rfl, by omega, by omega⟩
    · exact ⟨2, rfl, by omega, by omega⟩
    · exact ⟨(1 + n2 % 30).toNat, by rw [Int.toNat_of_nonneg (by omega)], by omega, by omega⟩
  clear hv
  have m3 : (M : Int) ≤ big := by unfold big; omega
  refine ⟨_, rfl, p, 100, rfl, r3.2, by decide, fun H4 d r4 d1 d2 => ?_⟩
  obtain ⟨D, rfl⟩ : ∃ D : Nat, d = (D : Int) := ⟨d.toNat, by omega⟩
  refine ⟨_, rfl, p, rfl, r4.2, fun H5 n5 r5 _ _ => ?_⟩
  refine ⟨_, rfl, _, _, rfl, rfl, pos0 (by omega), ?_⟩
  obtain ⟨g, hg, gM⟩ : ∃ g : Nat, n5 % (M : Int) = (g : Int) ∧ g < M := by
    have b1 : 0 ≤ n5 % (M : Int) := Int.emod_nonneg _ (by omega)
    have b2 : n5 % (M : Int) < M := Int.emod_lt_of_pos _ (by omega)
    exact ⟨(n5 % (M : Int)).toNat, by omega, by omega⟩
  dsimp only
  rw [hg]
  obtain ⟨B, hB, hBl⟩ := begin_is (D := D) gM
  refine ⟨_, rfl, _, rfl, _, rfl, ?_⟩
  refine begin_right (E := E0) m3 (by omega) (by omega) gM hB hBl fun H6 e6 => ?_
  show tq0 [some (.ref a), some (.ref p), some (.int (M : Int)), some (.int (D : Int)), some (.int (g : Int)), some (.int (B : Int)), none, none] H6 _
  refine Eq.mp (congrFun (congrFun (congrFun hT0 _) _) _) ?_
  refine lasts_go m1 (by omega) (by omega) fun L H7 nL e7 hL => ?_
  refine ⟨_, rfl, _, rfl, true, rfl, iteF ?_⟩
  show tq1 [some (.ref a), some (.ref p), some (.int (M : Int)), some (.int (D : Int)), some (.int (g : Int)), some (.int (B : Int)), some (.ref L), none] H7 _
  refine Eq.mp (congrFun (congrFun (congrFun hT1 _) _) _) ?_
  refine wish_go m1 (by omega) hL fun W H8 nW e8 hW => ?_
  rw [filter_last hB hBl] at hW
  refine ⟨_, rfl, (by decide : 1 ≤ sizeLine), fun X nX => ?_⟩
  have e9 := Evl.Ex.new (o := .lst [.int (B : Int)]) nX
  refine ⟨W, X, _, _, rfl, rfl, sq_of (e9 _ _ hW), sq_of upd_same, rfl, rfl, _, rfl, iteC (fun c => ?_) (fun _ => ?_)⟩
  · exfalso
    have c' : (!decide ([V.int (B : Int)] = [V.int (B : Int)])) = true := c
    rw [decide_eq_true rfl] at c'
    cases c'
  exact half2_go (r5.2.ex (e6.trans (e7.trans (e8.trans e9)))) q
end K06
end Cd

set_option Elab.async false
set_option linter.all false
set_option maxRecDepth 100000
namespace Cv
open PySem PySem.Spec PyProof.Rows L2 Kp
/-! ### fs[i](e, ..): one of two defs out of a list -/
theorem arm_sub (v s : Expr) (sp : Pos) (args : List Expr) (keywords : List Keyword) (pos : Pos) (env : Env) : eval (.Call (.Subscript v s sp) args keywords pos) env = (do
    callWith pos (← eval (.Subscript v s sp) env) [] (backTo pos (starEach args env)) (backToKw pos (keywordEach keywords env))) := rfl
theorem wp_sub {M : Model} {A : Around} {E : Value → Shared → Prop} {st : Shared} {v s : Expr} {sp pos : Pos} {args : List Expr} {keywords : List Keyword} {env : Env} {Q : Value → Shared → Prop}
    (h : wpAny M A (eval (.Subscript v s sp) env) (fun f s₁ => wpAny M A (callWith pos f [] (backTo pos (starEach args env)) (backToKw pos (keywordEach keywords env))) Q E s₁) E st) :
    wpAny M A (eval (.Call (.Subscript v s sp) args keywords pos) env) Q E st := by
  rw [arm_sub]
  exact wpAny_bind h
def tCallF2 (f1 f2 : Addr) (sp1 sp2 : Sp) (E : L2.St → XK) (tf : TE) (t : TA) : TE := fun σ H Q => tf σ H fun v H1 => (v = .ref f1 ∧ t σ H1 fun vs H2 => sp1 vs H2 Q (E σ)) ∨ (v = .ref f2 ∧ t σ H1 fun vs H2 => sp2 vs H2 Q (E σ))
section
variable {X : Cx} {CX : CXT} {k1 k2 : Nat} {f1 f2 : Addr} {fd1 fd2 : FuncData} {ps1 ps2 : List Str} {sp1 sp2 : Sp} {E : L2.St → XK} {p pos : Pos} {e v s : Expr} {es : List Expr} {tf : TE} {t : TA}
theorem pe_callF2 (F1 : FnOk X.prog X.w X.K X.mg X.base CX k1 f1 fd1 ps1 sp1) (F2 : FnOk X.prog X.w X.K X.mg X.base CX k2 f2 fd2 ps2 sp2) (hr1 : Room k1 X.A) (hr2 : Room k2 X.A) (hk1 : PySem.W.keepIn X.K (.ref f1) = true) (hk2 : PySem.W.keepIn X.K (.ref f2) = true) (hb1 : Binds X.K fd1 ps1 []) (hb2 : Binds X.K fd2 ps2 []) (hx : ∀ σ, PassesAt CX X σ (E σ))
    (hf : PE X (.Subscript v s p) tf) (ha : PA X (e :: es) t) (he : starEach (e :: es) X.env = (false, eval e X.env) :: starEach es X.env := by rfl) (hpl : (backTo pos (starEach es X.env)).any (·.1) = false := by rfl) :
    PE X (.Call (.Subscript v s p) (e :: es) [] pos) (tCallF2 f1 f2 sp1 sp2 E tf t) := by
  refine ⟨fun pins st σ H Q I h => ?_⟩
  refine wp_sub (thn (hf.run pins st σ H _ I h) fun u s0 ⟨v, H0, I0, r0, q0⟩ => ?_)
  rcases q0 with ⟨ev, q0⟩ | ⟨ev, q0⟩
  · subst ev
    obtain rfl : u = Value.ref f1 := r0
    refine PySem.W.callWith_K (h₀ := X.base) I.ok.mod.kin hk1 (thn (ha.run pos pins s0 σ H0 _ I0 q0) fun us s1 ⟨vs, H1, I1, r, q⟩ => ⟨I1.kIn, ?_⟩) he hpl
    exact run_fnS F1 hr1 hb1 (hx σ) I1 r q
  · subst ev
    obtain rfl : u = Value.ref f2 := r0
    refine PySem.W.callWith_K (h₀ := X.base) I.ok.mod.kin hk2 (thn (ha.run pos pins s0 σ H0 _ I0 q0) fun us s1 ⟨vs, H1, I1, r, q⟩ => ⟨I1.kIn, ?_⟩) he hpl
    exact run_fnS F2 hr2 hb2 (hx σ) I1 r q
end
end Cv

set_option Elab.async false
set_option linter.all false
set_option maxRecDepth 100000
set_option maxHeartbeats 4000000
namespace Cd
open PySem PySem.Spec PyProof.Rows L2 Tx Kp
open Evl (Ex sq_of ex_l sz_of sz_lt fresh_back)
/-- the count of each place -/
def Jos.counts (d m b : Nat) : List Nat := (List.range m).map fun p => (Jos.order d m b).idxOf p + 1
theorem Jos.counts_len (d m b : Nat) : (Jos.counts d m b).length = m := by unfold Jos.counts; rw [List.length_map, List.length_range]
/-- .. told up to count i -/
def Jos.countsTo (d m b i : Nat) : List Nat := (List.range m).map fun p => if (Jos.order d m b).idxOf p < i then (Jos.order d m b).idxOf p + 1 else 0
theorem Jos.countsTo_len (d m b i : Nat) : (Jos.countsTo d m b i).length = m := by unfold Jos.countsTo; rw [List.length_map, List.length_range]
theorem Jos.countsTo_zero (d m b : Nat) : Jos.countsTo d m b 0 = List.replicate m 0 := by
  unfold Jos.countsTo
  apply List.ext_getElem
  · simp
  · intro i h1 h2; simp
theorem Jos.countsTo_all (d m b : Nat) : Jos.countsTo d m b m = Jos.counts d m b := by
  unfold Jos.countsTo Jos.counts
  apply List.map_congr_left
  intro p hp
  have h : (Jos.order d m b).idxOf p < (Jos.order d m b).length := List.idxOf_lt_length_of_mem (Jos.order_mem (List.mem_range.mp hp))
  rw [Jos.order_len] at h
  rw [if_pos h]
theorem Jos.idx_of {d m b c p : Nat} (h : (Jos.order d m b)[c]? = some p) : (Jos.order d m b).idxOf p = c := by
  obtain ⟨h1, h2⟩ := List.getElem?_eq_some_iff.mp h
  rw [← h2]
  exact List.Nodup.idxOf_getElem (Jos.order_nodup d m b) c h1
theorem Jos.countsTo_next {d m b c p : Nat} (h : (Jos.order d m b)[c]? = some p) : (Jos.countsTo d m b c).set p (c + 1) = Jos.countsTo d m b (c + 1) := by
  have hi := Jos.idx_of h
  have hp : p < m := Jos.order_lt (List.mem_of_getElem? h)
  unfold Jos.countsTo
  apply List.ext_getElem
  · simp
  · intro i h1 h2
    have hm : i < m := by simpa using h2
    rw [List.getElem_set, List.getElem_map, List.getElem_map, List.getElem_range]
    by_cases e : p = i
    · subst e
      rw [if_pos rfl, hi, if_pos (by omega)]
    · rw [if_neg e]
      have hne : (Jos.order d m b).idxOf i ≠ c := fun z => by
        have := List.getElem_idxOf (List.idxOf_lt_length_of_mem (Jos.order_mem (d := d) (b := b) hm))
        have z2 : (Jos.order d m b)[c]? = some i := by
          rw [← z, List.getElem?_eq_getElem (List.idxOf_lt_length_of_mem (Jos.order_mem hm)), this]
        rw [h] at z2
        exact e (Option.some.inj z2)
      by_cases l : (Jos.order d m b).idxOf i < c
      · rw [if_pos l, if_pos (by omega)]
      · rw [if_neg l, if_neg (by omega)]
/-- refused likewise, within other bounds -/
def sRefB (K : PySem.W.Frag) (hm hs : Int) (CM CS CP : Addr) (m d b : V) (H : Hp) (E : XK) (ok : Nat → Nat → Nat → Prop) : Prop :=
  Typ K H m ∧ Typ K H d ∧ Typ K H b ∧
  (whB m 1 hm = false → ∀ H', Ex H H' → E (.ref CM) none H') ∧ ∀ n : Nat, m = .int (n : Int) → 1 ≤ n → (n : Int) ≤ hm →
    (whB d 1 hs = false → ∀ H', Ex H H' → E (.ref CS) none H') ∧ ∀ s : Nat, d = .int (s : Int) → 1 ≤ s → (s : Int) ≤ hs →
      (whB b 0 ((n : Int) - 1) = false → ∀ H', Ex H H' → E (.ref CP) none H') ∧ ∀ g : Nat, b = .int (g : Int) → g < n → ok n s g
theorem sRefB.imp {K : PySem.W.Frag} {hm hs : Int} {CM CS CP : Addr} {m d b : V} {H : Hp} {E E' : XK} {ok ok' : Nat → Nat → Nat → Prop} (h : sRefB K hm hs CM CS CP m d b H E ok) (g : ∀ c o H', E c o H' → E' c o H') (k : ∀ n s g, ok n s g → ok' n s g) : sRefB K hm hs CM CS CP m d b H E' ok' := by
  obtain ⟨t1, t2, t3, q0, q⟩ := h
  refine ⟨t1, t2, t3, fun a H' e => g _ _ _ (q0 a H' e), fun n en n1 n2 => ?_⟩
  obtain ⟨q1, q2⟩ := q n en n1 n2
  refine ⟨fun a H' e => g _ _ _ (q1 a H' e), fun s es s1 s2 => ?_⟩
  obtain ⟨q3, q4⟩ := q2 s es s1 s2
  exact ⟨fun a H' e => g _ _ _ (q3 a H' e), fun c ec c1 => k _ _ _ (q4 c ec c1)⟩
theorem sRefB.right {K : PySem.W.Frag} {hm hs : Int} {CM CS CP : Addr} {n s g : Nat} {H : Hp} {E : XK} {ok : Nat → Nat → Nat → Prop} (n1 : 1 ≤ n) (n2 : (n : Int) ≤ hm) (s1 : 1 ≤ s) (s2 : (s : Int) ≤ hs) (hg : g < n) (k : ok n s g) : sRefB K hm hs CM CS CP (.int (n : Int)) (.int (s : Int)) (.int (g : Int)) H E ok := by
  refine ⟨Typ.int, Typ.int, Typ.int, fun e => ?_, fun n' en _ _ => ⟨fun e => ?_, fun s' es _ _ => ⟨fun e => ?_, fun g' eg _ => ?_⟩⟩⟩
  · rw [wh_of (by omega) (by omega)] at e; cases e
  · rw [wh_of (by omega) (by omega)] at e; cases e
  · have e1 : n' = n := by have := V.int.inj en; omega
    subst e1
    rw [wh_of (by omega) (by omega)] at e; cases e
  · have e1 : n' = n := by have := V.int.inj en; omega
    have e2 : s' = s := by have := V.int.inj es; omega
    have e3 : g' = g := by have := V.int.inj eg; omega
    subst e1 e2 e3
    exact k
section
variable {K : PySem.W.Frag} {hm hs : Int} {CM CS CP : Addr} {m d b : V} {n s : Nat} {H : Hp} {E : XK} {ok : Nat → Nat → Nat → Prop}
theorem sRefB.many (t1 : Typ K H m) (t2 : Typ K H d) (t3 : Typ K H b) (w : whB m 1 hm = false) (q : ∀ H', Ex H H' → E (.ref CM) none H') : sRefB K hm hs CM CS CP m d b H E ok := by
  refine ⟨t1, t2, t3, fun _ => q, fun n en n1 n2 => ?_⟩
  subst en
  rw [wh_of (by omega) (by omega)] at w; cases w
theorem sRefB.step (n1 : 1 ≤ n) (n2 : (n : Int) ≤ hm) (t2 : Typ K H d) (t3 : Typ K H b) (w : whB d 1 hs = false) (q : ∀ H', Ex H H' → E (.ref CS) none H') : sRefB K hm hs CM CS CP (.int (n : Int)) d b H E ok := by
  refine ⟨Typ.int, t2, t3, fun e => ?_, fun n' en _ _ => ⟨fun _ => q, fun s es s1 s2 => ?_⟩⟩
  · rw [wh_of (by omega) (by omega)] at e; cases e
  · subst es
    rw [wh_of (by omega) (by omega)] at w; cases w
theorem sRefB.place (n1 : 1 ≤ n) (n2 : (n : Int) ≤ hm) (s1 : 1 ≤ s) (s2 : (s : Int) ≤ hs) (t3 : Typ K H b) (w : whB b 0 ((n : Int) - 1) = false) (q : ∀ H', Ex H H' → E (.ref CP) none H') : sRefB K hm hs CM CS CP (.int (n : Int)) (.int (s : Int)) b H E ok := by
  refine ⟨Typ.int, Typ.int, t3, fun e => ?_, fun n' en _ _ => ⟨fun e => ?_, fun s' es _ _ => ⟨fun _ => q, fun g eg hg => ?_⟩⟩⟩
  · rw [wh_of (by omega) (by omega)] at e; cases e
  · rw [wh_of (by omega) (by omega)] at e; cases e
  · subst eg
    have e1 : n' = n := by have := V.int.inj en; omega
    subst e1
    rw [wh_of (by omega) (by omega)] at w; cases w
end
/-- order_of -/
@[irreducible] def sOrder (K : PySem.W.Frag) (CM CS CP : Addr) : Sp := fun vs H Q E => ∃ m d b, vs = [m, d, b] ∧ sRefB K 200 big CM CS CP m d b H E fun n s g =>
  ∀ a H', H a = none → Ex H H' → H' a = some (.lst ((Jos.order s n g).map nV)) → Q (.ref a) H'
/-- counts_of -/
@[irreducible] def sCounts (K : PySem.W.Frag) (CM CS CP : Addr) : Sp := fun vs H Q E => ∃ m d b, vs = [m, d, b] ∧ sRefB K 200 big CM CS CP m d b H E fun n s g =>
  ∀ a H', H a = none → Ex H H' → H' a = some (.lst ((Jos.counts s n g).map nV)) → Q (.ref a) H'
section
variable {K : PySem.W.Frag} {CM CS CP : Addr} {n s g : Nat} {H : Hp} {Q : VK} {E : XK}
theorem order_right (n1 : 1 ≤ n) (n2 : n ≤ 200) (s1 : 1 ≤ s) (s2 : (s : Int) ≤ big) (hg : g < n) (q : ∀ a H', H a = none → Ex H H' → H' a = some (.lst ((Jos.order s n g).map nV)) → Q (.ref a) H') : sOrder K CM CS CP [.int (n : Int), .int (s : Int), .int (g : Int)] H Q E := by
  unfold sOrder
  exact ⟨_, _, _, rfl, sRefB.right n1 (by omega) s1 s2 hg q⟩
theorem counts_right (n1 : 1 ≤ n) (n2 : n ≤ 200) (s1 : 1 ≤ s) (s2 : (s : Int) ≤ big) (hg : g < n) (q : ∀ a H', H a = none → Ex H H' → H' a = some (.lst ((Jos.counts s n g).map nV)) → Q (.ref a) H') : sCounts K CM CS CP [.int (n : Int), .int (s : Int), .int (g : Int)] H Q E := by
  unfold sCounts
  exact ⟨_, _, _, rfl, sRefB.right n1 (by omega) s1 s2 hg q⟩
end
/-! two lists of flat lists, compared -/
theorem dp_two {K : PySem.W.Frag} {H : Hp} {p a b : Addr} {xs ys : List V} (hp : H p = some (.lst [.ref a, .ref b])) (ha : H a = some (.lst xs)) (hb : H b = some (.lst ys)) (h1 : xs.all plain = true) (h2 : ys.all plain = true) : Dp K H (.ref p) (.list [.list (xs.map dat), .list (ys.map dat)]) :=
  .lst (sq_of hp) (.cons (.lst (sq_of ha) (dats_dp h1)) (.cons (.lst (sq_of hb) (dats_dp h2)) .nil))
theorem two_shaped {xs ys : List V} (h1 : xs.all plain = true) (h2 : ys.all plain = true) : SeqAt.shaped (.list [.list (xs.map dat), .list (ys.map dat)]) = true := by
  unfold SeqAt.shaped
  simp only [PyData.canLay0, PyData.canLayAll0, dats_can h1, dats_can h2, PyData.depth, PyData.depthAll, dats_depth]
  rfl
theorem two_eqv {xs ys : List V} (h1 : xs.all plain = true) (h2 : ys.all plain = true) : PyData.eqv (.list [.list (xs.map dat), .list (ys.map dat)]) (.list [.list (xs.map dat), .list (ys.map dat)]) = true := by
  simp only [PyData.eqv, PyData.eqvAll, dats_eqv h1 h1, dats_eqv h2 h2, decide_true, Bool.and_true]
end Cd

set_option Elab.async false
set_option linter.all false
set_option maxRecDepth 100000
set_option maxHeartbeats 4000000
namespace Cd
open PySem PySem.Spec PyProof.Rows L2 Tx Kp
open Evl (Ex sq_of ex_l sz_of sz_lt fresh_back)
open K06 (lastp lastp_of)
theorem last_one {D : Nat} : lastp D 1 0 = 0 := by
  have h := lastp_of (D := D) (b := 0) (show 1 ≤ 1 by omega)
  have := Jos.order_lt (List.mem_of_getElem? h)
  omega
theorem last_next {D n : Nat} (hD : 0 < D) (hn : 1 ≤ n) : lastp D (n + 1) 0 = (lastp D n 0 + D) % (n + 1) := by
  have h := lastp_of (D := D) (b := 0) hn
  have h1 := lastp_of (D := D) (b := 0) (show 1 ≤ n + 1 by omega)
  have g := Jos.order_next hD h
  rw [show n - 1 + 1 = n + 1 - 1 by omega, h1] at g
  exact Option.some.inj g
/-- the least step up to m by which g of n stays last -/
def leastN (n g : Nat) : Nat → Option Nat
  | 0 => none
  | m + 1 => match leastN n g m with
    | some s => some s
    | none => if lastp (m + 1) n 0 = g then some (m + 1) else none
def leastV (n g m : Nat) : V := match leastN n g m with
  | some s => nV s
  | none => .non
theorem leastN_some {n g : Nat} : ∀ {m s : Nat}, leastN n g m = some s → 1 ≤ s ∧ s ≤ m ∧ lastp s n 0 = g
  | 0, s, h => by cases h
  | m + 1, s, h => by
    unfold leastN at h
    split at h
    · rename_i s' h'
      obtain ⟨a, b, c⟩ := leastN_some h'
      cases h
      exact ⟨a, by omega, c⟩
    · split at h
      · rename_i c
        cases h
        exact ⟨by omega, by omega, c⟩
      · cases h
theorem leastN_stay {n g : Nat} {m s : Nat} (h : leastN n g m = some s) : ∀ k, leastN n g (m + k) = some s
  | 0 => h
  | k + 1 => by
    show leastN n g ((m + k) + 1) = some s
    unfold leastN
    rw [leastN_stay h k]
theorem leastV_is (n g m : Nat) : (leastV n g m = .non) ∨ ∃ s : Nat, leastV n g m = .int (s : Int) ∧ 1 ≤ s ∧ s ≤ m ∧ lastp s n 0 = g := by
  unfold leastV
  cases e : leastN n g m with
  | none => exact .inl rfl
  | some s =>
    obtain ⟨a, b, c⟩ := leastN_some e
    exact .inr ⟨s, rfl, a, b, c⟩
/-- least_step -/
@[irreducible] def sLeast (K : PySem.W.Frag) (CM CP CC : Addr) : Sp := fun vs H Q E => ∃ m g x, vs = [m, g, x] ∧ Typ K H m ∧ Typ K H g ∧ Typ K H x ∧
  (whB m 1 60 = false → ∀ H', Ex H H' → E (.ref CM) none H') ∧ ∀ n : Nat, m = .int (n : Int) → 1 ≤ n → n ≤ 60 →
    (whB g 0 ((n : Int) - 1) = false → ∀ H', Ex H H' → E (.ref CP) none H') ∧ ∀ p : Nat, g = .int (p : Int) → p < n →
      (whB x 0 500 = false → ∀ H', Ex H H' → E (.ref CC) none H') ∧ ∀ k : Nat, x = .int (k : Int) → k ≤ 500 → ∀ H', Ex H H' → Q (leastV n p k) H'
theorem least_right {K : PySem.W.Frag} {CM CP CC : Addr} {n p k : Nat} {H : Hp} {Q : VK} {E : XK} (n1 : 1 ≤ n) (n2 : n ≤ 60) (hp : p < n) (hk : k ≤ 500) (q : ∀ H', Ex H H' → Q (leastV n p k) H') : sLeast K CM CP CC [.int (n : Int), .int (p : Int), .int (k : Int)] H Q E := by
  unfold sLeast
  refine ⟨_, _, _, rfl, Typ.int, Typ.int, Typ.int, fun e => ?_, fun n' en _ _ => ⟨fun e => ?_, fun p' ep _ => ⟨fun e => ?_, fun k' ek _ => ?_⟩⟩⟩
  · rw [wh_of (by omega) (by omega)] at e; cases e
  · have e1 : n' = n := by have := V.int.inj en; omega
    subst e1
    rw [wh_of (by omega) (by omega)] at e; cases e
  · rw [wh_of (by omega) (by omega)] at e; cases e
  · have e1 : n' = n := by have := V.int.inj en; omega
    have e2 : p' = p := by have := V.int.inj ep; omega
    have e3 : k' = k := by have := V.int.inj ek; omega
    subst e1 e2 e3
    exact q
namespace K07
def t_last : TS :=
(tSeq (tAsg (tC (.int 0)) (gName 2))
  (tSeq (tFor (iRng2 (tCons (tC (.int 2)) (tCons (tOp oAdd (tVar 0) (tC (.int 1))) tNil))) (gName 3)
  (tAsg (tOp oMod (tOp oAdd (tVar 2) (tVar 1)) (tVar 3)) (gName 2)))
  (tRet (tVar 2))))
def sLast7 : Sp := fun vs H Q _ => ∃ n d : Nat, vs = [.int (n : Int), .int (d : Int)] ∧ 1 ≤ n ∧ n ≤ 1000 ∧ 1 ≤ d ∧ Q (nV (lastp d n 0)) H
theorem pure_last {vs : List V} {H : Hp} {Q : VK} {E : XK} {nx : L2.St → Hp → Prop} (h : sLast7 vs H Q E) : t_last { nx := nx, rt := Q } (start ["_law_many", "_law_step", "_law_place", "_law_size"] vs) H := by
  obtain ⟨n, d, rfl, n1, n2, d1, q⟩ := h
  refine ⟨_, rfl, _, _, rfl, rfl, _, _, rfl, ⟨by decide, by decide, by omega, by omega⟩, ?_⟩
  have en : ((n : Int) + 1 - 2).toNat = n - 1 := by omega
  refine for_range (lo := 2) (n := ((n : Int) + 1 - 2).toNat) (fun i σ H' => ∃ y, σ = [some (.int (n : Int)), some (.int (d : Int)), some (nV (lastp d (i + 1) 0)), y] ∧ H' = H) ⟨none, ?_, rfl⟩ ?_ ?_
  · show _ = [some (V.int (n : Int)), some (.int (d : Int)), some (nV (lastp d 1 0)), none]
    rw [last_one]
    rfl
  · intro i σ H' hi hP
    obtain ⟨y, rfl, rfl⟩ := hP
    refine ⟨_, rfl, _, rfl, _, _, rfl, rfl, _, rfl, _, _, rfl, rfl, pos0 (by omega), ?_⟩
    refine ⟨some (.int (2 + (i : Int))), ?_, rfl⟩
    have e : ((lastp d (i + 1) 0 : Nat) : Int) + (d : Int) = (((lastp d (i + 1) 0) + d : Nat) : Int) := by omega
    have e2 : (((lastp d (i + 1) 0 : Nat) : Int) + (d : Int)) % (2 + (i : Int)) = ((lastp d (i + 1 + 1) 0 : Nat) : Int) := by
      have g := last_next (D := d) (n := i + 1) (by omega) (by omega)
      rw [e, show (2 + (i : Int)) = ((i + 1 + 1 : Nat) : Int) by omega, ← Int.natCast_emod, ← g]
    dsimp only
    rw [e2]
    rfl
  · intro σ H' hP
    obtain ⟨y, rfl, rfl⟩ := hP
    refine ⟨_, rfl, ?_⟩
    rw [en, show n - 1 + 1 = n by omega]
    exact q
def t_least : TS :=
(tSeq (tFor (iRng2 (tCons (tC (.int 1)) (tCons (tOp oAdd (tVar 2) (tC (.int 1))) tNil))) (gName 3)
  (tIfS (tTest (tOp rEq (tCall sLast7 [] E0 (tCons (tVar 0) (tCons (tVar 3) tNil))) (tVar 1)))
  (tRet (tVar 3))
  tNext))
  (tRet (tC .non)))
def sLeast7 : Sp := fun vs H Q _ => ∃ n g m : Nat, vs = [.int (n : Int), .int (g : Int), .int (m : Int)] ∧ 1 ≤ n ∧ n ≤ 1000 ∧ m ≤ 1000 ∧ Q (leastV n g m) H
theorem pure_least {vs : List V} {H : Hp} {Q : VK} {E : XK} {nx : L2.St → Hp → Prop} (h : sLeast7 vs H Q E) : t_least { nx := nx, rt := Q } (start ["_law_many", "_law_place", "_law_most", "_law_step"] vs) H := by
  obtain ⟨n, g, m, rfl, n1, n2, m2, q⟩ := h
  refine ⟨_, rfl, _, _, rfl, rfl, _, _, rfl, ⟨by decide, by decide, by omega, by omega⟩, ?_⟩
  have en : ((m : Int) + 1 - 1).toNat = m := by omega
  refine for_range (lo := 1) (n := ((m : Int) + 1 - 1).toNat) (fun i σ H' => ∃ y, σ = [some (.int (n : Int)), some (.int (g : Int)), some (.int (m : Int)), y] ∧ H' = H ∧ leastN n g i = none) ⟨none, rfl, rfl, rfl⟩ ?_ ?_
  · intro i σ H' hi hP
    obtain ⟨y, rfl, rfl, hN⟩ := hP
    refine ⟨_, rfl, _, rfl, ?_⟩
    refine ⟨n, i + 1, ?_, n1, n2, by omega, ?_⟩
    · show [V.int (n : Int), .int (1 + (i : Int))] = _
      congr 3
      omega
    refine ⟨_, rfl, rfl, _, rfl, iteC (fun c => ?_) (fun c => ?_)⟩
    · have hl : lastp (i + 1) n 0 = g := by
        have := V.int.inj (of_decide_eq_true c); omega
      refine ⟨_, rfl, ?_⟩
      have e1 : leastN n g (i + 1) = some (i + 1) := by
        unfold leastN; rw [hN, if_pos hl]
      have e2 := leastN_stay e1 (m - (i + 1))
      rw [show i + 1 + (m - (i + 1)) = m by omega] at e2
      have e3 : leastV n g m = .int (1 + (i : Int)) := by
        unfold leastV
        rw [e2]
        show V.int ((i + 1 : Nat) : Int) = _
        congr 1
        omega
      rw [e3] at q
      exact q
    · have hl : ¬ lastp (i + 1) n 0 = g := by
        intro z
        have := of_decide_eq_false c
        exact this (by rw [z]; rfl)
      refine ⟨_, rfl, rfl, ?_⟩
      unfold leastN
      rw [hN, if_neg hl]
  · intro σ H' hP
    obtain ⟨y, rfl, rfl, hN⟩ := hP
    rw [en] at hN
    have e3 : leastV n g m = .non := by
      unfold leastV
      rw [hN]
    rw [e3] at q
    exact q
end K07
end Cd

set_option Elab.async false
set_option linter.all false
set_option maxRecDepth 100000
namespace Mx
open PySem PySem.Spec PyProof.Rows L2 Kp
/-! ### a method, a making: refused within one's own try -/
/-- as tMeth; of what is refused the slots are told -/
def tMethX (C : Addr) (m : Str) (sp : Sp) (dvs : List V) (W : L2.St → XK) (to : TE) (t : TA) : TE := fun σ H Q =>
  to σ H fun x H1 => ∃ a dx fs, x = .ref a ∧ H1 a = some (.ins C dx fs) ∧ fs.lookup m = none ∧ t σ H1 fun ys H2 => sp (x :: (ys ++ dvs)) H2 Q (W σ)
/-- as tMake, likewise -/
def tMakeX (C : Addr) (sp : Sp) (dvs : List V) (W : L2.St → XK) (t : TA) : TE := fun σ H Q =>
  t σ H fun ys G => ∀ x dx, G x = none → G dx = none → dx ≠ x → sp (.ref x :: (ys ++ dvs)) (upd (upd G dx (.own x)) x (.ins C dx [])) (fun v H2 => v = .non ∧ Q (.ref x) H2) (W σ)
section
variable {X : Cx} {Z : CXT} {n : Nat} {g C : Addr} {df : FuncData} {names : List Str} {sp : Sp} {dvs : List V} {given : List Value} {W : L2.St → XK} {x m : Str} {p pos at_ : Pos} {e o : Expr} {es : List Expr} {to : TE} {t : TA}
theorem pe_methX {pl : Sem Bool} (po : PE X o to) (cl : Cls X.K C) (me : Meth X.K C m g) (G : FnOk X.prog X.w X.K X.mg X.base Z n g df names sp) (room : Room n X.A) (bi : Binds X.K df names given) (va : Vals dvs given)
    (pass : ∀ σ, PassesAt Z X σ (W σ)) (pa : PA X (e :: es) t) (stars : starEach (e :: es) X.env = (false, eval e X.env) :: starEach es X.env := by rfl) (plain : (backTo pos (starEach es X.env)).any (·.1) = false := by rfl)
    (tree : eval (.Call (.Attribute o m at_) (e :: es) [] pos) X.env = (do
      let me ← eval o X.env
      standAt at_.atName
      let (h, self) ← holding [me] (getMethod me m pl)
      callWith pos h self (backTo pos (starEach (e :: es) X.env)) (backToKw pos (keywordEach [] X.env))) := by rfl) : PE X (.Call (.Attribute o m at_) (e :: es) [] pos) (tMethX C m sp dvs W to t) := by
  refine ⟨fun pins st σ H Q inv hyp => PySem.W.methodCall_KW (pl := pl) (thn (po.run pins st σ H _ inv hyp) fun val st1 hv => ?_) tree⟩
  obtain ⟨y, G1, inv1, ry, a, dx, fs, rfl, ha, hl, rest⟩ := hv
  obtain rfl : val = Value.ref a := ry
  refine getmeth_ok inv1 ha cl me hl (PySem.W.callWith_K (first := [.ref a]) (h₀ := X.base) inv.ok.mod.kin me.kp (thn (pa.run pos pins st1 σ G1 _ inv1 rest) fun us st2 hu => ?_) stars plain)
  obtain ⟨vs, G2, inv2, rv, fin⟩ := hu
  exact ⟨inv2.kIn, run_fnSD (us := .ref a :: us) (vs := .ref a :: vs) G room bi va (pass σ) inv2 (.cons rfl rv) fin⟩
theorem pe_methX0 {pl : Sem Bool} (po : PE X o to) (cl : Cls X.K C) (me : Meth X.K C m g) (G : FnOk X.prog X.w X.K X.mg X.base Z n g df names sp) (room : Room n X.A) (bi : Binds X.K df names given) (va : Vals dvs given) (pass : ∀ σ, PassesAt Z X σ (W σ))
    (tree : eval (.Call (.Attribute o m at_) [] [] pos) X.env = (do
      let me ← eval o X.env
      standAt at_.atName
      let (h, self) ← holding [me] (getMethod me m pl)
      callWith pos h self (backTo pos (starEach [] X.env)) (backToKw pos (keywordEach [] X.env))) := by rfl) : PE X (.Call (.Attribute o m at_) [] [] pos) (tMethX C m sp dvs W to tNil) := by
  refine ⟨fun pins st σ H Q inv hyp => PySem.W.methodCall_KW (pl := pl) (thn (po.run pins st σ H _ inv hyp) fun val st1 hv => ?_) tree⟩
  obtain ⟨y, G1, inv1, ry, a, dx, fs, rfl, ha, hl, fin⟩ := hv
  obtain rfl : val = Value.ref a := ry
  exact getmeth_ok inv1 ha cl me hl (PySem.W.callWith_K0 (first := [.ref a]) inv1.kIn me.kp (run_fnSD (us := [.ref a]) (vs := [.ref a]) G room bi va (pass σ) inv1 (.cons rfl .nil) fin))
theorem made_at {pins : List (Addr × Obj)} {σ : L2.St} {H : Hp} {st : Shared} {Q : VK} {W : XK} {us : List Value} {vs : List V} (mk : Mk X.K C g) (G : FnOk X.prog X.w X.K X.mg X.base Z n g df names sp) (room : Room (n + 1) X.A) (bi : Binds X.K df names given) (va : Vals dvs given)
    (pass : PassesAt Z X σ W) (inv : Inv X pins σ H st) (rv : Vals vs us)
    (hyp : ∀ x dx, H x = none → H dx = none → dx ≠ x → sp (.ref x :: (vs ++ dvs)) (upd (upd H dx (.own x)) x (.ins C dx [])) (fun v H2 => v = .non ∧ Q (.ref x) H2) W) :
    wpAny (model X.prog X.w) X.A (call (.ref C) us) (EP X pins σ Q) X.xe st := by
  -- its dict stands at the heap's end, it behind it
  have top := inv.hok.fresh (Nat.le_refl st.heap.objs.size)
  have next := inv.hok.fresh (Nat.le_succ st.heap.objs.size)
  have now := hyp (st.heap.objs.size + 1) st.heap.objs.size next top (Nat.ne_of_lt (Nat.lt_succ_self _))
  have inv' := inv.made (C := C)
  have all : Vals (V.ref (st.heap.objs.size + 1) :: (vs ++ dvs)) (Value.ref (st.heap.objs.size + 1) :: (us ++ given)) := .cons rfl (rv.append va)
  have count : (Value.ref (st.heap.objs.size + 1) :: us ++ given).length = names.length := by
    rw [← G.len _ _ _ _ now]; exact all.length.symm
  have bound := bi _ (Value.ref (st.heap.objs.size + 1) :: us) inv'.kIn count
  have ran := G.run _ X.stack _ _ ⟨Value.ref (st.heap.objs.size + 1) :: us, []⟩ (Value.ref (st.heap.objs.size + 1) :: (us ++ given)) _ _ W (room.make C us []) (inv'.env0.make C us []) bound all now
  refine wpAny_call (make_map (f := g) inv.kIn mk.makes mk.init (beq_iff_eq.mp mk.fn) (codeAny_mono ran fun res st' back => ?_))
  match res, back with
  | .error err, back => exact pass pins _ _ err st' inv' back
  | .ok (.ret u), back =>
    obtain ⟨v, H', inv3, r3, rfl, fin⟩ := inv'.after back
    exact ⟨r3, V.ref (st.heap.objs.size + 1), H', inv3, rfl, fin⟩
  | .ok .next, back => exact back.elim
  | .ok .brk, back => exact back.elim
  | .ok .cont, back => exact back.elim
theorem pe_makeX (mk : Mk X.K C g) (G : FnOk X.prog X.w X.K X.mg X.base Z n g df names sp) (room : Room (n + 1) X.A) (gl : Gl X x) (named : X.mg x = some (.ref C)) (bi : Binds X.K df names given) (va : Vals dvs given) (pass : ∀ σ, PassesAt Z X σ (W σ)) (pa : PA X (e :: es) t)
    (nodbg : (x == ("__debug__" : Str)) = false := by decide) (stars : starEach (e :: es) X.env = (false, eval e X.env) :: starEach es X.env := by rfl) (plain : (backTo pos (starEach es X.env)).any (·.1) = false := by rfl) :
    PE X (.Call (.Name x p) (e :: es) [] pos) (tMakeX C sp dvs W t) := by
  refine ⟨fun pins st σ H Q inv hyp => wpAny_Call_Name_kw (ld_glob inv gl named (PySem.W.callWith_K (h₀ := X.base) inv.ok.mod.kin mk.kp (thn (pa.run pos pins st σ H _ inv hyp) fun us st1 hu => ?_) stars plain) nodbg)⟩
  obtain ⟨vs, G1, inv1, rv, fin⟩ := hu
  exact ⟨inv1.kIn, made_at mk G room bi va (pass σ) inv1 rv fin⟩
end
end Mx

set_option Elab.async false
set_option linter.all false
set_option maxRecDepth 100000
set_option maxHeartbeats 4000000
/-! ### left behind so many counts -/
namespace Jos
variable {α : Type}
def aft (s : Nat) : Nat → List α → List α
  | 0, l => l
  | k + 1, l => match rotN s l with
    | [] => []
    | _ :: t => aft s k t
theorem aft_len (s : Nat) : ∀ (k : Nat) (l : List α), (aft s k l).length = l.length - k
  | 0, l => rfl
  | k + 1, l => by
    have hl := rotN_len s l
    unfold aft
    split
    · rename_i e; rw [e] at hl; simp at hl ⊢; omega
    · rename_i x t e
      rw [e] at hl
      rw [aft_len s k t]; simp at hl; omega
/-- so many first, the rest from there -/
theorem out_split (s : Nat) : ∀ (k : Nat) (l : List α), k ≤ l.length → out s l.length l = (out s l.length l).take k ++ out s (l.length - k) (aft s k l)
  | 0, l, _ => rfl
  | k + 1, l, h => by
    have hl := rotN_len s l
    obtain ⟨n, hn⟩ : ∃ n, l.length = n + 1 := ⟨l.length - 1, by omega⟩
    unfold aft
    rw [hn]
    cases e : rotN s l with
    | nil => rw [e] at hl; simp at hl; omega
    | cons x t =>
      rw [e] at hl
      have ht : t.length = n := by simp at hl; omega
      have ih := out_split s k t (by omega)
      rw [ht] at ih
      rw [show out s (n + 1) l = x :: out s n t by rw [out, e]]
      rw [List.take_succ_cons, List.cons_append, show n + 1 - (k + 1) = n - k by omega, ← ih]
theorem aft_add (s : Nat) : ∀ (j k : Nat) (l : List α), aft s k (aft s j l) = aft s (j + k) l
  | 0, k, l => by rw [Nat.zero_add]; rfl
  | j + 1, k, l => by
    have e1 : aft s (j + 1) l = match rotN s l with | [] => [] | _ :: t => aft s j t := rfl
    have e2 : aft s (j + 1 + k) l = match rotN s l with | [] => [] | _ :: t => aft s (j + k) t := by rw [show j + 1 + k = (j + k) + 1 by omega]; rfl
    rw [e1, e2]
    cases rotN s l with
    | nil =>
      have : ∀ k, aft s k ([] : List α) = [] := by
        intro k
        cases k with
        | zero => rfl
        | succ k =>
          have hl := rotN_len s ([] : List α)
          unfold aft
          split
          · rfl
          · rename_i e; rw [e] at hl; simp at hl
      exact this k
    | cons x t => exact aft_add s j k t
theorem aft_perm (s : Nat) : ∀ (k : Nat) (l : List α), k ≤ l.length → ((out s l.length l).take k ++ aft s k l).Perm l
  | 0, l, _ => by rw [List.take_zero]; exact List.Perm.refl _
  | k + 1, l, h => by
    have hl := rotN_len s l
    have hp := rotN_perm s l
    obtain ⟨n, hn⟩ : ∃ n, l.length = n + 1 := ⟨l.length - 1, by omega⟩
    unfold aft
    rw [hn]
    cases e : rotN s l with
    | nil => rw [e] at hl; simp at hl; omega
    | cons x t =>
      rw [e] at hl hp
      have ht : t.length = n := by simp at hl; omega
      have ih := aft_perm s k t (by omega)
      rw [ht] at ih
      rw [show out s (n + 1) l = x :: out s n t by rw [out, e]]
      rw [List.take_succ_cons, List.cons_append]
      exact (List.Perm.cons x ih).trans hp
end Jos
namespace Cd
open PySem PySem.Spec PyProof.Rows L2 Tx Kp Mx
open Evl (Ex sq_of ex_l sz_of sz_lt fresh_back)
/-- how a ring lies in the heap: at a, over the cells F, left, gone, step d -/
structure Rep (K : PySem.W.Frag) where
  C : Addr
  at_ : Hp → Addr → (Addr → Prop) → List Str → List Str → Nat → Prop
  ins : ∀ {H a F l g d}, at_ H a F l g d → ∃ dx fs, H a = some (.ins C dx fs) ∧ ∀ m ∈ (["left", "gone", "count", "counts", "come", "due", "last"] : List Str), fs.lookup m = none
  frame : ∀ {H H' a F l g d}, at_ H a F l g d → (∀ b, F b → H' b = H b) → at_ H' a F l g d
  live : ∀ {H a F l g d b}, at_ H a F l g d → F b → H b ≠ none
variable {K : PySem.W.Frag}
theorem Rep.ex {R : Rep K} {H H' : Hp} {a : Addr} {F : Addr → Prop} {l g : List Str} {d : Nat} (h : R.at_ H a F l g d) (e : Ex H H') : R.at_ H' a F l g d := by
  refine R.frame h fun b hb => ?_
  cases q : H b with
  | none => exact absurd q (R.live h hb)
  | some o => exact e b o q
/-- what lies beside the ring stays -/
structure Chg (H : Hp) (F : Addr → Prop) (H' : Hp) (F' : Addr → Prop) : Prop where
  keep : ∀ b o, H b = some o → ¬ F b → H' b = some o
  own : ∀ b, F' b → F b ∨ H b = none
theorem Chg.off {H H' : Hp} {F F' : Addr → Prop} {b : Addr} (c : Chg H F H' F') (h : ¬ F b) (n : H b ≠ none) : ¬ F' b := fun z => by
  rcases c.own b z with y | y
  · exact h y
  · exact n y
/-- a mutation beside the ring -/
theorem Rep.mut {R : Rep K} {H : Hp} {a q : Addr} {F : Addr → Prop} {l g : List Str} {d : Nat} {o : HO} (h : R.at_ H a F l g d) (n : ¬ F q) : R.at_ (upd H q o) a F l g d :=
  R.frame h fun b hb => upd_ne fun z => n (by rw [← z]; exact hb)
theorem Rep.free {R : Rep K} {H : Hp} {a q : Addr} {F : Addr → Prop} {l g : List Str} {d : Nat} (h : R.at_ H a F l g d) (n : H q = none) : ¬ F q := fun z => R.live h z n
@[irreducible] def sInit (R : Rep K) (CR CS CP : Addr) : Sp := fun vs H Q E => ∃ x h d b H0, vs = [.ref x, h, d, b] ∧ (∃ dx, H0 x = none ∧ H0 dx = none ∧ dx ≠ x ∧ H = upd (upd H0 dx (.own x)) x (.ins R.C dx [])) ∧
  ∃ rb, IsR K H h rb ∧ Typ K H d ∧ Typ K H b ∧ (∀ l (zs : List Str), h = .ref l → H l = some (.lst (zs.map V.str)) → ∀ z ∈ zs, PyData.strOk z = true) ∧
  (rb = false → ∀ H', Ex H0 H' → E (.ref CR) none H') ∧
  (rb = true → (whB d 1 big = false → ∀ H', Ex H0 H' → E (.ref CS) none H') ∧ ∀ s : Nat, d = .int (s : Int) → 1 ≤ s → (s : Int) ≤ big → ∀ l (zs : List Str), h = .ref l → H l = some (.lst (zs.map V.str)) →
    (whB b 0 ((zs.length : Int) - 1) = false → ∀ H', Ex H0 H' → E (.ref CP) none H') ∧ ∀ g : Nat, b = .int (g : Int) → g < zs.length →
      ∀ F H', R.at_ H' x F (Jos.rot zs g) [] s → (∀ b, F b → H0 b = none) → Ex H0 H' → Q .non H')
@[irreducible] def sLeftM (R : Rep K) : Sp := fun vs H Q _ => ∃ a F l g d, vs = [.ref a] ∧ R.at_ H a F l g d ∧ ∀ o H', H o = none → Ex H H' → H' o = some (.lst (l.map V.str)) → Q (.ref o) H'
@[irreducible] def sGoneM (R : Rep K) : Sp := fun vs H Q _ => ∃ a F l g d, vs = [.ref a] ∧ R.at_ H a F l g d ∧ ∀ o H', H o = none → Ex H H' → H' o = some (.lst (g.map V.str)) → Q (.ref o) H'
@[irreducible] def sCountM (R : Rep K) (CH : Addr) : Sp := fun vs H Q E => ∃ a F l g d, vs = [.ref a] ∧ R.at_ H a F l g d ∧ (l = [] → ∀ H', Ex H H' → E (.ref CH) none H') ∧
  ∀ z t, Jos.rotN (d - 1) l = z :: t → ∀ F' H', R.at_ H' a F' t (g ++ [z]) d → Chg H F H' F' → Q (.str z) H'
@[irreducible] def sCountsM (R : Rep K) (CC : Addr) : Sp := fun vs H Q E => ∃ a m F l g d, vs = [.ref a, m] ∧ R.at_ H a F l g d ∧ Typ K H m ∧ (whB m 0 (l.length : Int) = false → ∀ H', Ex H H' → E (.ref CC) none H') ∧
  ∀ k : Nat, m = .int (k : Int) → k ≤ l.length → ∀ o F' H', H o = none → ¬ F' o → R.at_ H' a F' (Jos.aft (d - 1) k l) (g ++ (Jos.out (d - 1) l.length l).take k) d → Chg H F H' F' →
    H' o = some (.lst (((Jos.out (d - 1) l.length l).take k).map V.str)) → Q (.ref o) H'
/-- where a hand comes in -/
def comeAt (l : List Str) (p : V) : Option Nat := match p with
  | .non => some l.length
  | .int i => if 0 ≤ i ∧ i ≤ l.length then some i.toNat else none
  | _ => none
@[irreducible] def sComeM (R : Rep K) (C : Cs) : Sp := fun vs H Q E => ∃ a h p F l g d, vs = [.ref a, h, p] ∧ R.at_ H a F l g d ∧ Typ K H h ∧ Typ K H p ∧ (isS h = false → ∀ H', Ex H H' → E (.ref C.hand) none H') ∧
  ∀ z, h = .str z → PyData.strOk z = true ∧ (z ∈ l ++ g → ∀ H', Ex H H' → E (.ref C.twice) none H') ∧ (z ∉ l ++ g →
    (comeAt l p = none → ∀ H', Ex H H' → E (.ref C.place) none H') ∧ ∀ i, comeAt l p = some i →
      (400 ≤ l.length + g.length → ∀ H', Ex H H' → E (.ref C.much) none H') ∧ (l.length + g.length < 400 → ∀ F' H', R.at_ H' a F' (l.insertIdx i z) g d → Chg H F H' F' → Q .non H'))
@[irreducible] def sDueM (R : Rep K) (CH : Addr) : Sp := fun vs H Q E => ∃ a z F l g d, vs = [.ref a, .str z] ∧ PyData.strOk z = true ∧ R.at_ H a F l g d ∧ (z ∉ l → ∀ H', Ex H H' → E (.ref CH) none H') ∧
  ∀ c : Nat, (Jos.out (d - 1) l.length l)[c]? = some z → ∀ H', Ex H H' → Q (.int ((c : Int) + 1)) H'
@[irreducible] def sLastM (R : Rep K) (CH : Addr) : Sp := fun vs H Q E => ∃ a F l g d, vs = [.ref a] ∧ R.at_ H a F l g d ∧ (l = [] → ∀ H', Ex H H' → E (.ref CH) none H') ∧
  ∀ z, (Jos.out (d - 1) l.length l)[l.length - 1]? = some z → ∀ H', Ex H H' → Q (.str z) H'
/-! readings -/
section
variable {R : Rep K} {H : Hp} {a : Addr} {F : Addr → Prop} {l g : List Str} {d : Nat} {Q : VK} {σ : L2.St} {E : XK} {ta : TE}
theorem meth_of {m : Str} {sp : Sp} (hm : m ∈ (["left", "gone", "count", "counts", "come", "due", "last"] : List Str)) (hr : R.at_ H a F l g d) {t : TA} {dvs : List V} (q : t σ H fun vs H2 => sp (.ref a :: (vs ++ dvs)) H2 Q E) :
    ∃ b dx fs, V.ref a = .ref b ∧ H b = some (.ins R.C dx fs) ∧ fs.lookup m = none ∧ t σ H fun vs H2 => sp (.ref a :: (vs ++ dvs)) H2 Q E := by
  obtain ⟨dx, fs, h1, h2⟩ := R.ins hr
  exact ⟨a, dx, fs, rfl, h1, h2 m hm, q⟩
theorem left_go (hr : R.at_ H a F l g d) (q : ∀ o H', H o = none → Ex H H' → H' o = some (.lst (l.map V.str)) → Q (.ref o) H') : sLeftM R [.ref a] H Q E := by
  unfold sLeftM
  exact ⟨a, F, l, g, d, rfl, hr, q⟩
theorem gone_go (hr : R.at_ H a F l g d) (q : ∀ o H', H o = none → Ex H H' → H' o = some (.lst (g.map V.str)) → Q (.ref o) H') : sGoneM R [.ref a] H Q E := by
  unfold sGoneM
  exact ⟨a, F, l, g, d, rfl, hr, q⟩
end
end Cd

set_option Elab.async false
set_option linter.all false
set_option maxRecDepth 100000
set_option maxHeartbeats 4000000
namespace Jos
variable {α : Type}
/-- who goes at count i: the first one behind i counts -/
theorem out_head (s : Nat) (i : Nat) (l : List α) (h : i < l.length) : ∃ z t, rotN s (aft s i l) = z :: t ∧ (out s l.length l)[i]? = some z ∧ aft s (i + 1) l = t := by
  have hl := aft_len s i l
  have hr := rotN_len s (aft s i l)
  cases e : rotN s (aft s i l) with
  | nil => rw [e, hl] at hr; simp at hr; omega
  | cons z t =>
    refine ⟨z, t, rfl, ?_, ?_⟩
    · rw [out_split s i l (by omega)]
      have l1 : ((out s l.length l).take i).length = i := by rw [List.length_take, out_len s l.length l rfl]; omega
      rw [List.getElem?_append_right (by omega), l1, Nat.sub_self]
      obtain ⟨n, hn⟩ : ∃ n, l.length - i = n + 1 := ⟨l.length - i - 1, by omega⟩
      rw [hn, out, e]; rfl
    · rw [← aft_add s i 1 l]
      unfold aft
      rw [e]
      rfl
theorem aft_nil (s k : Nat) : aft s k ([] : List α) = [] := List.eq_nil_of_length_eq_zero (by rw [aft_len]; simp)
end Jos
namespace Cd
open PySem PySem.Spec PyProof.Rows L2 Tx Kp Mx
open Evl (Ex sq_of ex_l sz_of sz_lt fresh_back)
variable {K : PySem.W.Frag}
theorem Chg.ex {H H' : Hp} {F : Addr → Prop} (e : Ex H H') : Chg H F H' F := ⟨fun b o h _ => e b o h, fun b h => .inl h⟩
section
variable {R : Rep K} {H : Hp} {a : Addr} {F : Addr → Prop} {l g : List Str} {d : Nat} {Q : VK} {E : XK}
theorem counts_go {CC : Addr} {k : Nat} (hr : R.at_ H a F l g d) (hk : k ≤ l.length)
    (q : ∀ o F' H', H o = none → ¬ F' o → R.at_ H' a F' (Jos.aft (d - 1) k l) (g ++ (Jos.out (d - 1) l.length l).take k) d → Chg H F H' F' → H' o = some (.lst (((Jos.out (d - 1) l.length l).take k).map V.str)) → Q (.ref o) H') : sCountsM R CC [.ref a, .int (k : Int)] H Q E := by
  unfold sCountsM
  refine ⟨a, _, F, l, g, d, rfl, hr, Typ.int, fun e => ?_, fun k' ek _ => ?_⟩
  · rw [wh_of (by omega) (by omega)] at e; cases e
  · have e1 : k' = k := by have := V.int.inj ek; omega
    subst e1
    exact q
theorem come_go {C : Cs} {z : Str} {p : V} {i : Nat} (hr : R.at_ H a F l g d) (ok : PyData.strOk z = true) (new : z ∉ l ++ g) (tp : Typ K H p) (hp : comeAt l p = some i) (few : l.length + g.length < 400)
    (q : ∀ F' H', R.at_ H' a F' (l.insertIdx i z) g d → Chg H F H' F' → Q .non H') : sComeM R C [.ref a, .str z, p] H Q E := by
  unfold sComeM
  refine ⟨a, _, p, F, l, g, d, rfl, hr, Typ.str, tp, (fun e => by cases e), fun z' ez => ?_⟩
  cases ez
  refine ⟨ok, fun c => absurd c new, fun _ => ⟨fun c => ?_, fun j hj => ⟨fun c => by omega, fun _ => ?_⟩⟩⟩
  · rw [hp] at c; cases c
  · rw [hp] at hj
    cases hj
    exact q
theorem last_go {CH : Addr} {z : Str} (hr : R.at_ H a F l g d) (hz : (Jos.out (d - 1) l.length l)[l.length - 1]? = some z) (q : ∀ H', Ex H H' → Q (.str z) H') : sLastM R CH [.ref a] H Q E := by
  unfold sLastM
  refine ⟨a, F, l, g, d, rfl, hr, fun e => ?_, fun z' hz' => ?_⟩
  · subst e
    simp [Jos.out] at hz
  · rw [hz] at hz'
    cases hz'
    exact q
theorem make_go {CR CS CP o x dx : Addr} {zs : List Str} {s b : Nat} {P : Hp → Prop} (ho : H o = some (.lst (zs.map V.str))) (h1 : 1 ≤ zs.length) (h2 : zs.length ≤ 200) (hn : zs.Nodup) (ok : ∀ z ∈ zs, PyData.strOk z = true) (s1 : 1 ≤ s) (s2 : (s : Int) ≤ big) (hb : b < zs.length)
    (nx : H x = none) (ndx : H dx = none) (ne : dx ≠ x) (q : ∀ F' H', R.at_ H' x F' (Jos.rot zs b) [] s → (∀ c, F' c → H c = none) → Ex H H' → P H') :
    sInit R CR CS CP [.ref x, .ref o, .int (s : Int), .int (b : Int)] (upd (upd H dx (.own x)) x (.ins R.C dx [])) (fun v H2 => v = .non ∧ P H2) E := by
  have e1 : Ex H (upd H dx (.own x)) := Evl.Ex.new ndx
  have e2 : Ex (upd H dx (.own x)) (upd (upd H dx (.own x)) x (.ins R.C dx [])) := Evl.Ex.new (by rw [upd_ne (Ne.symm ne)]; exact nx)
  have ho2 := e2 _ _ (e1 _ _ ho)
  unfold sInit
  refine ⟨x, _, _, _, H, rfl, ⟨dx, nx, ndx, ne, rfl⟩, _, IsR.texts ho2 (by omega), Typ.int, Typ.int, fun l zs' el hl => ?_, fun e => ?_, fun _ => ⟨fun e => ?_, fun s' es _ _ l zs' el hl => ?_⟩⟩
  · cases el
    rw [ho2] at hl
    have : zs = zs' := by
      have e := HO.lst.inj (Option.some.inj hl)
      exact List.map_inj_right (fun _ _ h => V.str.inj h) |>.mp e
    subst this
    exact ok
  · rw [ringB_texts h1 h2 hn] at e; cases e
  · rw [wh_of (by omega) s2] at e; cases e
  · cases el
    rw [ho2] at hl
    have : zs = zs' := by
      have e := HO.lst.inj (Option.some.inj hl)
      exact List.map_inj_right (fun _ _ h => V.str.inj h) |>.mp e
    subst this
    refine ⟨fun e => ?_, fun g' eg hg' F' H' hr hF hE => ⟨rfl, ?_⟩⟩
    · rw [wh_of (by omega) (by omega)] at e; cases e
    · have e1 : s' = s := by have := V.int.inj es; omega
      have e2 : g' = b := by have := V.int.inj eg; omega
      subst e1 e2
      exact q F' H' hr hF hE
end
end Cd

set_option Elab.async false
set_option linter.all false
set_option maxRecDepth 100000
set_option maxHeartbeats 4000000
namespace Cd
open PySem PySem.Spec PyProof.Rows L2 Tx Kp Mx
open Evl (Ex sq_of ex_l sz_of sz_lt fresh_back)
variable {K : PySem.W.Frag}
/-! ### the ring as it landed -/
/-- what of its class is asked -/
structure RF (K : PySem.W.Frag) (C : Addr) : Prop where
  cl : Cls K C
  nL : NoAttr K C "_left"
  nG : NoAttr K C "_gone"
  nS : NoAttr K C "_step"
def rF (lo go : Addr) (d : Nat) : List (Str × V) := [("_left", V.ref lo), ("_gone", V.ref go), ("_step", V.int (d : Int))]
def rC (a dx lo go : Addr) : Addr → Prop := fun b => b = a ∨ b = dx ∨ b = lo ∨ b = go
theorem rF_left (lo go : Addr) (d : Nat) : (rF lo go d).lookup ("_left" : Str) = some (.ref lo) := by
  unfold rF
  simp only [List.lookup, show (("_left" : Str) == "_left") = true by decide +kernel]
theorem rF_gone (lo go : Addr) (d : Nat) : (rF lo go d).lookup ("_gone" : Str) = some (.ref go) := by
  unfold rF
  simp only [List.lookup, show (("_gone" : Str) == "_left") = false by decide +kernel, show (("_gone" : Str) == "_gone") = true by decide +kernel]
theorem rF_step (lo go : Addr) (d : Nat) : (rF lo go d).lookup ("_step" : Str) = some (.int (d : Int)) := by
  unfold rF
  simp only [List.lookup, show (("_step" : Str) == "_left") = false by decide +kernel, show (("_step" : Str) == "_gone") = false by decide +kernel, show (("_step" : Str) == "_step") = true by decide +kernel]
theorem rF_no (lo go : Addr) (d : Nat) {m : Str} (h1 : (m == "_left") = false) (h2 : (m == "_gone") = false) (h3 : (m == "_step") = false) : (rF lo go d).lookup m = none := by
  unfold rF
  simp only [List.lookup, h1, h2, h3]
theorem rF_put (lo go p : Addr) (d : Nat) : putF "_left" (.ref p) (rF lo go d) = rF p go d := by
  unfold rF
  show (if ("_left" : Str) = "_left" then _ else _) = _
  rw [if_pos rfl]
/-- at a, over its four cells -/
structure RAt (C : Addr) (H : Hp) (a : Addr) (F : Addr → Prop) (l g : List Str) (d : Nat) (dx lo go : Addr) : Prop where
  ha : H a = some (.ins C dx (rF lo go d))
  hd : H dx = some (.own a)
  hl : H lo = some (.lst (l.map V.str))
  hg : H go = some (.lst (g.map V.str))
  ne : lo ≠ go
  eF : F = rC a dx lo go
  d1 : 1 ≤ d
  few : l.length + g.length ≤ 400
  nd : l.Nodup
abbrev RR (K : PySem.W.Frag) (C : Addr) : Rep K where
  C := C
  at_ H a F l g d := ∃ dx lo go, RAt C H a F l g d dx lo go
  ins := fun {H a F l g d} h => by
    obtain ⟨dx, lo, go, r⟩ := h
    refine ⟨dx, _, r.ha, fun m hm => ?_⟩
    simp only [List.mem_cons, List.not_mem_nil, or_false] at hm
    rcases hm with rfl | rfl | rfl | rfl | rfl | rfl | rfl <;> exact rF_no _ _ _ (by decide +kernel) (by decide +kernel) (by decide +kernel)
  frame := fun {H H' a F l g d} h f => by
    obtain ⟨dx, lo, go, r⟩ := h
    have eF := r.eF
    subst eF
    exact ⟨dx, lo, go, (f _ (.inl rfl)).trans r.ha, (f _ (.inr (.inl rfl))).trans r.hd, (f _ (.inr (.inr (.inl rfl)))).trans r.hl, (f _ (.inr (.inr (.inr rfl)))).trans r.hg, r.ne, rfl, r.d1, r.few, r.nd⟩
  live := fun {H a F l g d b} h hb => by
    obtain ⟨dx, lo, go, r⟩ := h
    have eF := r.eF
    subst eF
    rcases hb with rfl | rfl | rfl | rfl
    · rw [r.ha]; exact fun z => by cases z
    · rw [r.hd]; exact fun z => by cases z
    · rw [r.hl]; exact fun z => by cases z
    · rw [r.hg]; exact fun z => by cases z
theorem Chg.trans {H H1 H2 : Hp} {F F1 F2 : Addr → Prop} (c : Chg H F H1 F1) (c' : Chg H1 F1 H2 F2) : Chg H F H2 F2 :=
  ⟨fun b o h n => c'.keep b o (c.keep b o h n) (c.off n fun z => by rw [h] at z; cases z), fun b hb => by
    rcases c'.own b hb with h | h
    · exact c.own b h
    · cases q : H b with
      | none => exact .inr rfl
      | some o =>
        refine .inl (Classical.byContradiction fun n => ?_)
        rw [c.keep b o q n] at h
        cases h⟩
/-! told, nothing changed -/
def t_left (K : PySem.W.Frag) : TS := (tRet (tCB (rListOf K) (tCons (tFld K (tVar 0) "_left") tNil)))
def t_gone (K : PySem.W.Frag) : TS := (tRet (tCB (rListOf K) (tCons (tFld K (tVar 0) "_gone") tNil)))
section
variable {C : Addr} {vs : List V} {H : Hp} {Q : VK} {E : XK}
theorem pure_left (T : RF K C) (h : sLeftM (RR K C) vs H Q E) : t_left K { nx := fun _ H' => Q .non H', rt := Q } (start ["self"] vs) H := by
  unfold sLeftM at h
  obtain ⟨a, F, l, g, d, rfl, ⟨dx, lo, go, r⟩, q⟩ := h
  refine ⟨_, rfl, a, C, dx, _, _, rfl, r.ha, T.cl, T.nL, rF_left _ _ _, lo, _, rfl, .inl (sq_of r.hl), fun o no => q o _ no (Evl.Ex.new no) upd_same⟩
theorem pure_gone (T : RF K C) (h : sGoneM (RR K C) vs H Q E) : t_gone K { nx := fun _ H' => Q .non H', rt := Q } (start ["self"] vs) H := by
  unfold sGoneM at h
  obtain ⟨a, F, l, g, d, rfl, ⟨dx, lo, go, r⟩, q⟩ := h
  refine ⟨_, rfl, a, C, dx, _, _, rfl, r.ha, T.cl, T.nG, rF_gone _ _ _, go, _, rfl, .inl (sq_of r.hg), fun o no => q o _ no (Evl.Ex.new no) upd_same⟩
def t_row (K : PySem.W.Frag) : TS :=
(tRet (tCall (sCtd K) [] E0 (tCons (tFld K (tVar 0) "_left") (tCons (tFld K (tVar 0) "_step") (tCons (tC (.int 0)) tNil)))))
@[irreducible] def sRowM (R : Rep K) : Sp := fun vs H Q _ => ∃ a F l g d, vs = [.ref a] ∧ R.at_ H a F l g d ∧ ∀ o H', H o = none → Ex H H' → H' o = some (.lst ((Jos.out (d - 1) l.length l).map V.str)) → Q (.ref o) H'
theorem pure_row (T : RF K C) (h : sRowM (RR K C) vs H Q E) : t_row K { nx := fun _ H' => Q .non H', rt := Q } (start ["self"] vs) H := by
  unfold sRowM at h
  obtain ⟨a, F, l, g, d, rfl, ⟨dx, lo, go, r⟩, q⟩ := h
  refine ⟨_, rfl, a, C, dx, _, _, rfl, r.ha, T.cl, T.nL, rF_left _ _ _, _, rfl, a, C, dx, _, _, rfl, r.ha, T.cl, T.nS, rF_step _ _ _, ?_⟩
  show sCtd K [.ref lo, .int (d : Int), .int ((0 : Nat) : Int)] H _ E0
  have hf := r.few
  have hd := r.d1
  unfold sCtd
  refine ⟨lo, _, 0, _, rfl, r.hl, by rw [List.length_map]; omega, by omega, Nat.zero_le _, fun o H' no e ho => q o H' no e ?_⟩
  rw [ho, List.length_map, Jos.rot_zero, Jos.out_map, show ((d : Int) - 1).toNat = d - 1 by omega]
/-! one count -/
def t_go_on (K : PySem.W.Frag) : TS :=
(tSeq (tAsg (tCall sGN [] E0 (tCons (tCB (rLenL K) (tCons (tFld K (tVar 0) "_left") tNil)) (tCons (tFld K (tVar 0) "_step") (tCons (tC (.int 0)) tNil)))) (gName 1))
  (tSeq (tAsg (tOp (rIxL K) (tFld K (tVar 0) "_left") (tVar 1)) (gName 2))
  (tSeq (sFld K (tVar 0) (tOp rCat (tSl (rSlL K) (tFld K (tVar 0) "_left") (tPart (tOp oAdd (tVar 1) (tC (.int 1)))) tNoPart) (tSl (rSlL K) (tFld K (tVar 0) "_left") tNoPart (tPart (tVar 1)))) "_left")
  (tSeq (tDrop (tBM K "list" rAppend (tFld K (tVar 0) "_gone") (tCons (tVar 2) tNil)))
  (tRet (tVar 2))))))
@[irreducible] def sGoOn (R : Rep K) : Sp := fun vs H Q _ => ∃ a F l g d z t, vs = [.ref a] ∧ R.at_ H a F l g d ∧ Jos.rotN (d - 1) l = z :: t ∧ ∀ F' H', R.at_ H' a F' t (g ++ [z]) d → Chg H F H' F' → Q (.str z) H'
theorem pure_go_on (T : RF K C) (h : sGoOn (RR K C) vs H Q E) : t_go_on K { nx := fun _ H' => Q .non H', rt := Q } (start ["self", "at", "hand"] vs) H := by
  unfold sGoOn at h
  obtain ⟨a, F, l, g, d, z, t, rfl, ⟨dx, lo, go, r⟩, hz, q⟩ := h
  have hlen : l.length = t.length + 1 := by
    have e := Jos.rotN_len (d - 1) l
    rw [hz] at e
    simpa using e.symm
  have hpos : 0 < l.length := by omega
  have hd := r.d1
  have hf := r.few
  refine ⟨_, rfl, a, C, dx, _, _, rfl, r.ha, T.cl, T.nL, rF_left _ _ _, lo, _, rfl, .inl (sq_of r.hl), _, rfl, a, C, dx, _, _, rfl, r.ha, T.cl, T.nS, rF_step _ _ _, _, _, _, rfl, (by rw [List.length_map]; omega), ?_⟩
  obtain ⟨j, hj, hjl, hjn⟩ : ∃ j : Nat, ((0 : Int) + (d : Int) - 1) % ((l.map V.str).length : Int) = (j : Int) ∧ j < l.length ∧ j = (d - 1) % l.length := by
    refine ⟨(d - 1) % l.length, ?_, Nat.mod_lt _ hpos, rfl⟩
    rw [List.length_map, Int.natCast_emod]
    congr 1
    omega
  have e := Jos.rotN_eq (d - 1) l hpos
  rw [← hjn, hz] at e
  unfold Jos.rot at e
  rw [List.drop_eq_getElem_cons hjl, List.cons_append] at e
  have ez : z = l[j] := (List.cons.inj e).1
  have et : t = l.drop (j + 1) ++ l.take j := (List.cons.inj e).2
  dsimp only
  rw [hj]
  refine ⟨_, rfl, a, C, dx, _, _, rfl, r.ha, T.cl, T.nL, rF_left _ _ _, _, rfl, lo, _, _, .str z, rfl, rfl, sq_of r.hl, atI_nat (by rw [List.getElem?_map, List.getElem?_eq_getElem hjl, ez]; rfl), ?_⟩
  refine ⟨_, rfl, a, C, dx, _, _, rfl, r.ha, T.cl, T.nL, rF_left _ _ _, _, rfl, _, _, rfl, rfl, _, rfl, lo, _, rfl, sq_of r.hl, fun p np => ?_⟩
  have e1 := Evl.Ex.new (o := .lst (cutV (l.map V.str) (some ((j : Int) + 1)) none)) np
  refine ⟨_, rfl, a, C, dx, _, _, rfl, e1 _ _ r.ha, T.cl, T.nL, rF_left _ _ _, _, rfl, _, rfl, lo, _, rfl, sq_of (e1 _ _ r.hl), fun p2 np2 => ?_⟩
  have e2 := Evl.Ex.new (o := .lst (cutV (l.map V.str) none (some (j : Int)))) np2
  refine ⟨p, p2, _, _, rfl, rfl, e2 _ _ upd_same, upd_same, ?_, fun p3 np3 => ?_⟩
  · refine sz_of ?_
    have c1 := cutV_length (l.map V.str) (some ((j : Int) + 1)) none
    have c2 := cutV_length (l.map V.str) none (some (j : Int))
    rw [List.length_map] at c1 c2
    omega
  have e3 := Evl.Ex.new (o := .lst (cutV (l.map V.str) (some ((j : Int) + 1)) none ++ cutV (l.map V.str) none (some (j : Int)))) np3
  have e123 := e1.trans (e2.trans e3)
  have hp3 : _ = some (HO.lst (cutV (l.map V.str) (some ((j : Int) + 1)) none ++ cutV (l.map V.str) none (some (j : Int)))) := upd_same (H := upd (upd H p (.lst (cutV (l.map V.str) (some ((j : Int) + 1)) none))) p2 (.lst (cutV (l.map V.str) none (some (j : Int))))) (a := p3)
  have n3 : H p3 = none := fresh_back e1 (fresh_back e2 np3)
  generalize upd (upd (upd H p (.lst (cutV (l.map V.str) (some ((j : Int) + 1)) none))) p2 (.lst (cutV (l.map V.str) none (some (j : Int))))) p3 (.lst (cutV (l.map V.str) (some ((j : Int) + 1)) none ++ cutV (l.map V.str) none (some (j : Int)))) = H3 at e123 hp3
  have hcut : cutV (l.map V.str) (some ((j : Int) + 1)) none ++ cutV (l.map V.str) none (some (j : Int)) = t.map V.str := by
    have q1 := cut_from (xs := l.map V.str) (k := j + 1) (by rw [List.length_map]; omega)
    have q2 := cut_to (xs := l.map V.str) (k := j) (by rw [List.length_map]; omega)
    rw [show (((j + 1 : Nat)) : Int) = (j : Int) + 1 from rfl] at q1
    rw [q1, q2, et, List.map_append, List.map_drop, List.map_take]
  rw [hcut] at hp3
  have ha3 := e123 _ _ r.ha
  have hd3 := e123 _ _ r.hd
  have hg3 := e123 _ _ r.hg
  have nag : go ≠ a := fun z => by rw [z, ha3] at hg3; cases hg3
  have nda : dx ≠ a := fun z => by rw [z, ha3] at hd3; cases hd3
  have ndg : dx ≠ go := fun z => by rw [z, hg3] at hd3; cases hd3
  have n3a : p3 ≠ a := fun z => by rw [z, r.ha] at n3; cases n3
  have n3g : p3 ≠ go := fun z => by rw [z, r.hg] at n3; cases n3
  refine ⟨_, rfl, a, C, dx, _, rfl, ha3, T.cl, T.nL, (by show 3 < 1000; decide), ?_⟩
  rw [rF_put]
  have hg4 : upd H3 a (.ins C dx (rF p3 go d)) go = some (.lst (g.map V.str)) := by rw [upd_ne nag]; exact hg3
  refine ⟨_, rfl, a, C, dx, _, _, rfl, upd_same, T.cl, T.nG, rF_gone _ _ _, ty_l hg4, _, rfl, go, _, _, rfl, rfl, hg4, ?_, ?_⟩
  · refine sz_lt ?_
    rw [List.length_map]; omega
  refine ⟨_, rfl, q (rC a dx p3 go) _ ⟨dx, p3, go, ?_, ?_, ?_, ?_, n3g, rfl, hd, ?_, ?_⟩ ⟨fun b o hb nb => ?_, fun b hb => ?_⟩⟩
  · rw [upd_ne nag.symm, upd_same]
  · rw [upd_ne ndg, upd_ne nda]; exact hd3
  · rw [upd_ne n3g, upd_ne n3a]; exact hp3
  · rw [upd_same, List.map_append]; rfl
  · rw [List.length_append, List.length_singleton]; omega
  · have pm := Jos.rotN_perm (d - 1) l
    rw [hz] at pm
    exact (List.nodup_cons.mp (pm.nodup_iff.mpr r.nd)).2
  · have nF : ¬ rC a dx lo go b := by rw [← r.eF]; exact nb
    rw [upd_ne fun z => nF (.inr (.inr (.inr z))), upd_ne fun z => nF (.inl z)]
    exact e123 _ _ hb
  · rw [r.eF]
    rcases hb with rfl | rfl | rfl | rfl
    · exact .inl (.inl rfl)
    · exact .inl (.inr (.inl rfl))
    · exact .inr n3
    · exact .inl (.inr (.inr (.inr rfl)))
theorem goon_go {R : Rep K} {a : Addr} {F : Addr → Prop} {l g t : List Str} {d : Nat} {z : Str} (hr : R.at_ H a F l g d) (hz : Jos.rotN (d - 1) l = z :: t) (q : ∀ F' H', R.at_ H' a F' t (g ++ [z]) d → Chg H F H' F' → Q (.str z) H') : sGoOn R [.ref a] H Q E := by
  unfold sGoOn
  exact ⟨a, F, l, g, d, z, t, rfl, hr, hz, q⟩
def t_count (K : PySem.W.Frag) (C CH : Addr) (E : XK) : TS :=
(tSeq (tIfS (tNot (tTru K (tFld K (tVar 0) "_left")))
  (tRaise CH E)
  tNext)
  (tRet (tMeth C "_go_on" (sGoOn (RR K C)) [] E0 (tVar 0) tNil)))
theorem pure_count (T : RF K C) {CH : Addr} (h : sCountM (RR K C) CH vs H Q E) : t_count K C CH E { nx := fun _ H' => Q .non H', rt := Q } (start ["self"] vs) H := by
  unfold sCountM at h
  obtain ⟨a, F, l, g, d, rfl, ⟨dx, lo, go, r⟩, q0, q⟩ := h
  refine ⟨_, rfl, a, C, dx, _, _, rfl, r.ha, T.cl, T.nL, rF_left _ _ _, !(l.map V.str).isEmpty, .inl ⟨_, sq_of r.hl, rfl⟩, iteC (fun c => ?_) (fun c => ?_)⟩
  · refine q0 ?_ H (Evl.Ex.refl H)
    cases l with
    | nil => rfl
    | cons x t => cases c
  · obtain ⟨z, t, hz⟩ : ∃ z t, Jos.rotN (d - 1) l = z :: t := by
      have e := Jos.rotN_len (d - 1) l
      cases q : Jos.rotN (d - 1) l with
      | nil =>
        rw [q] at e
        have : l = [] := List.eq_nil_of_length_eq_zero (by simpa using e.symm)
        subst this
        cases c
      | cons z t => exact ⟨z, t, rfl⟩
    refine ⟨_, rfl, a, dx, _, rfl, r.ha, rF_no _ _ _ (by decide +kernel) (by decide +kernel) (by decide +kernel), ?_⟩
    exact goon_go ⟨dx, lo, go, r⟩ hz (q z t hz)
def t_counts (K : PySem.W.Frag) (C CC : Addr) (E : XK) : TS :=
(tSeq (tDrop (tCall (sCkC K CC) [] E (tCons (tVar 1) (tCons (tC (.int 0)) (tCons (tCB (rLenL K) (tCons (tFld K (tVar 0) "_left") tNil)) tNil)))))
  (tRet (tLc (iRng1 (tCons (tVar 1) tNil)) (gName 2) tYes (tMeth C "_go_on" (sGoOn (RR K C)) [] E0 (tVar 0) tNil) [2])))
theorem pure_counts (T : RF K C) {CC : Addr} (h : sCountsM (RR K C) CC vs H Q E) : t_counts K C CC E { nx := fun _ H' => Q .non H', rt := Q } (start ["self", "many", "_"] vs) H := by
  unfold sCountsM at h
  obtain ⟨a, m, F, l, g, d, rfl, hr0, tm, q0, q⟩ := h
  obtain ⟨dx, lo, go, r⟩ := id hr0
  have hf := r.few
  refine ⟨_, rfl, _, rfl, a, C, dx, _, _, rfl, r.ha, T.cl, T.nL, rF_left _ _ _, lo, _, rfl, .inl (sq_of r.hl), ?_⟩
  rw [List.length_map]
  refine ⟨m, 0, _, rfl, tm, fun w => ?_, fun w => q0 w H (Evl.Ex.refl H)⟩
  obtain ⟨k', rfl, k1, k2⟩ := wh_int w
  obtain ⟨k, rfl⟩ : ∃ k : Nat, k' = (k : Int) := ⟨k'.toNat, by omega⟩
  have q := q k rfl (by omega)
  refine ⟨_, rfl, _, rfl, by omega, by omega, fun D nD => ?_⟩
  have eD := Evl.Ex.new (o := .lst []) nD
  have nFD : ¬ F D := Rep.free (R := RR K C) hr0 nD
  refine lc_range (lo := 0) (n := k) (fun i H' => ∃ F', (RR K C).at_ H' a F' (Jos.aft (d - 1) i l) (g ++ (Jos.out (d - 1) l.length l).take i) d ∧ Chg H F H' F' ∧ ¬ F' D ∧ H' D = some (.lst (((Jos.out (d - 1) l.length l).take i).map V.str)))
    ⟨F, ?_, Chg.ex eD, nFD, upd_same⟩ (fun i H' hi p => ?_) (fun H' p => ?_)
  · rw [List.take_zero, List.append_nil]
    exact Rep.ex (R := RR K C) hr0 eD
  · obtain ⟨F', p1, p2, p3, p4⟩ := p
    refine ⟨rfl, ?_⟩
    unfold tYes
    dsimp only
    rw [if_pos rfl]
    obtain ⟨z, t, hz, hz2, hz3⟩ := Jos.out_head (d - 1) i l (by omega)
    obtain ⟨dx', fs, ins1, ins2⟩ : ∃ dx fs, H' a = some (.ins C dx fs) ∧ fs.lookup ("_go_on" : Str) = none := by
      obtain ⟨dx, lo, go, r⟩ := id p1
      exact ⟨dx, _, r.ha, rF_no _ _ _ (by decide +kernel) (by decide +kernel) (by decide +kernel)⟩
    refine ⟨_, rfl, a, dx', fs, rfl, ins1, ins2, ?_⟩
    refine goon_go (R := RR K C) p1 hz fun F2 H2 r2 c2 => ?_
    have nF2 : ¬ F2 D := c2.off p3 (by rw [p4]; exact fun z => by cases z)
    refine ⟨_, c2.keep _ _ p4 p3, ?_, F2, ?_, ?_, nF2, ?_⟩
    · refine sz_lt ?_
      rw [List.length_map, List.length_take]; omega
    · refine Rep.mut (R := RR K C) ?_ nF2
      have e1 : List.take (i + 1) (Jos.out (d - 1) l.length l) = List.take i (Jos.out (d - 1) l.length l) ++ [z] := by
        rw [List.take_add_one, hz2]; rfl
      rw [hz3, e1, ← List.append_assoc]
      exact r2
    · have c3 := p2.trans c2
      exact ⟨fun b o hb nb => by
        rw [upd_ne fun z => by rw [z, nD] at hb; cases hb]
        exact c3.keep b o hb nb, c3.own⟩
    · rw [upd_same, List.take_add_one, hz2, List.map_append]; rfl
  · obtain ⟨F', p1, p2, p3, p4⟩ := p
    exact q D F' H' nD p3 p1 p2 p4
/-! when each goes, who stays -/
theorem in_str {z : Str} {g : List Str} : inV (.str z) (g.map V.str) = decide (z ∈ g) := by
  unfold inV
  rw [List.any_map]
  by_cases h : z ∈ g
  · rw [decide_eq_true h, List.any_eq_true]
    exact ⟨z, h, by show (z == z) = true; simp⟩
  · rw [decide_eq_false h, List.any_eq_false]
    intro x hx e
    have : x = z := by
      have e2 : (x == z) = true := e
      simpa using e2
    rw [this] at hx
    exact h hx
theorem flat_str (g : List Str) : (g.map V.str).all flatV = true := by
  rw [List.all_eq_true]
  intro x hx
  obtain ⟨y, _, rfl⟩ := List.mem_map.mp hx
  rfl
theorem row_go {R : Rep K} {a : Addr} {F : Addr → Prop} {l g : List Str} {d : Nat} (hr : R.at_ H a F l g d) (q : ∀ o H', H o = none → Ex H H' → H' o = some (.lst ((Jos.out (d - 1) l.length l).map V.str)) → Q (.ref o) H') : sRowM R [.ref a] H Q E := by
  unfold sRowM
  exact ⟨a, F, l, g, d, rfl, hr, q⟩
def t_due (K : PySem.W.Frag) (C CH : Addr) (E : XK) : TS :=
(tSeq (tIfS (tTest (tOp (rIn K true) (tVar 1) (tFld K (tVar 0) "_left")))
  (tRaise CH E)
  tNext)
  (tRet (tOp oAdd (tBM K "list" (rIndex K) (tMeth C "_row" (sRowM (RR K C)) [] E0 (tVar 0) tNil) (tCons (tVar 1) tNil)) (tC (.int 1)))))
theorem pure_due (T : RF K C) {CH : Addr} (h : sDueM (RR K C) CH vs H Q E) : t_due K C CH E { nx := fun _ H' => Q .non H', rt := Q } (start ["self", "hand"] vs) H := by
  unfold sDueM at h
  obtain ⟨a, z, F, l, g, d, rfl, ok, hr0, q0, q⟩ := h
  obtain ⟨dx, lo, go, r⟩ := id hr0
  have hf := r.few
  refine ⟨_, rfl, _, rfl, a, C, dx, _, _, rfl, r.ha, T.cl, T.nL, rF_left _ _ _, lo, _, rfl, .inl (sq_of r.hl), rfl, flat_str l, ?_⟩
  rw [in_str]
  by_cases hm : z ∈ l
  · rw [decide_eq_true hm]
    refine ⟨_, rfl, iteF ?_⟩
    refine ⟨_, rfl, a, dx, _, rfl, r.ha, rF_no _ _ _ (by decide +kernel) (by decide +kernel) (by decide +kernel), ?_⟩
    refine row_go (R := RR K C) hr0 fun o H1 no e1 ho => ?_
    have pm := Jos.out_perm (d - 1) l.length l rfl
    have nd : (Jos.out (d - 1) l.length l).Nodup := pm.nodup_iff.mpr r.nd
    obtain ⟨c, hc, ec⟩ := List.mem_iff_getElem.mp (pm.mem_iff.mpr hm)
    have ec' : (Jos.out (d - 1) l.length l)[c]? = some z := by rw [List.getElem?_eq_getElem hc, ec]
    refine ⟨ty_l ho, _, rfl, o, _, _, c, .str z, rfl, rfl, sq_of ho, rfl, flat_str _, by rw [List.getElem?_map, ec']; rfl, ?_, fun m z' hmc hz' => ?_, _, _, rfl, rfl, ?_⟩
    · show (z == z) = true
      simp
    · rw [List.getElem?_map] at hz'
      have hml : m < (Jos.out (d - 1) l.length l).length := by omega
      rw [List.getElem?_eq_getElem hml] at hz'
      have hz2 := Option.some.inj hz'
      subst hz2
      show (((Jos.out (d - 1) l.length l)[m] : Str) == z) = false
      rw [beq_eq_false_iff_ne]
      intro e
      rw [← ec] at e
      have := (List.getElem_inj nd).mp e
      omega
    · exact q c ec' H1 e1
  · rw [decide_eq_false hm]
    exact ⟨_, rfl, iteT (q0 hm H (Evl.Ex.refl H))⟩
def t_last (K : PySem.W.Frag) (C CH : Addr) (E : XK) : TS :=
(tSeq (tIfS (tNot (tTru K (tFld K (tVar 0) "_left")))
  (tRaise CH E)
  tNext)
  (tRet (tOp (rIxL K) (tMeth C "_row" (sRowM (RR K C)) [] E0 (tVar 0) tNil) (tUn oNeg (tC (.int 1))))))
theorem pure_last (T : RF K C) {CH : Addr} (h : sLastM (RR K C) CH vs H Q E) : t_last K C CH E { nx := fun _ H' => Q .non H', rt := Q } (start ["self"] vs) H := by
  unfold sLastM at h
  obtain ⟨a, F, l, g, d, rfl, hr0, q0, q⟩ := h
  obtain ⟨dx, lo, go, r⟩ := id hr0
  refine ⟨_, rfl, a, C, dx, _, _, rfl, r.ha, T.cl, T.nL, rF_left _ _ _, !(l.map V.str).isEmpty, .inl ⟨_, sq_of r.hl, rfl⟩, iteC (fun c => ?_) (fun c => ?_)⟩
  · refine q0 ?_ H (Evl.Ex.refl H)
    cases l with
    | nil => rfl
    | cons x t => cases c
  · have hpos : 0 < l.length := by
      cases l with
      | nil => cases c
      | cons x t => simp
    refine ⟨_, rfl, a, dx, _, rfl, r.ha, rF_no _ _ _ (by decide +kernel) (by decide +kernel) (by decide +kernel), ?_⟩
    refine row_go (R := RR K C) hr0 fun o H1 no e1 ho => ?_
    have hlen := Jos.out_len (d - 1) l.length l rfl
    obtain ⟨z, hz⟩ : ∃ z, (Jos.out (d - 1) l.length l)[l.length - 1]? = some z := ⟨_, List.getElem?_eq_getElem (by omega)⟩
    refine ⟨_, rfl, o, _, -1, _, rfl, rfl, sq_of ho, last_at (n := l.length) (x := V.str z) (by rw [List.getElem?_map, hz]; rfl) (by rw [List.length_map, hlen]) hpos, q z hz H1 e1⟩
end
end Cd

set_option Elab.async false
set_option linter.all false
set_option maxRecDepth 100000
set_option maxHeartbeats 4000000
namespace Cd
open PySem PySem.Spec PyProof.Rows L2 Tx Kp Mx
open Evl (Ex sq_of ex_l sz_of sz_lt fresh_back)
variable {K : PySem.W.Frag}
theorem met_any (xs : List Str) : ∀ (j i : Nat) (x : Str), i < j → xs[i]? = some x → (met xs j).any (· == x) = true
  | 0, i, x, h, _ => by omega
  | j + 1, i, x, h, hx => by
    cases e : xs[j]? with
    | none =>
      have h1 := (List.getElem?_eq_some_iff.mp hx).1
      have h2 := List.getElem?_eq_none_iff.mp e
      have e2 : met xs (j + 1) = met xs j := by
        unfold met
        rw [List.take_add_one, e]; simp
      rw [e2]
      exact met_any xs j i x (by omega) hx
    | some y =>
      rw [met_next e, add1_any, Bool.or_eq_true]
      by_cases c : i = j
      · subst c
        rw [e] at hx
        exact .inr (decide_eq_true (Option.some.inj hx).symm)
      · exact .inl (met_any xs j i x (by omega) hx)
theorem met_full {xs : List Str} (h : (met xs xs.length).length = xs.length) : xs.Nodup := by
  have all : ∀ k i, i + k = xs.length → (met xs i).length = i := by
    intro k
    induction k with
    | zero => intro i hi; rw [show i = xs.length by omega]; exact h
    | succ k ih =>
      intro i hi
      have h1 := ih (i + 1) (by omega)
      rw [met_next (List.getElem?_eq_getElem (show i < xs.length by omega)), add1_len] at h1
      have h2 := met_le xs i
      split at h1 <;> omega
  refine List.pairwise_iff_getElem.mpr fun i j hi hj hij e => ?_
  have hx : xs[i]? = some xs[j] := by rw [List.getElem?_eq_getElem hi, e]
  have h1 := all (xs.length - (j + 1)) (j + 1) (by omega)
  have h2 := all (xs.length - j) j (by omega)
  rw [met_next (List.getElem?_eq_getElem hj), add1_len, if_pos (met_any xs j i _ hij hx)] at h1
  omega
theorem ringB_true {xs : List V} (h : ringB xs = true) : ∃ zs : List Str, xs = zs.map V.str ∧ 1 ≤ zs.length ∧ zs.length ≤ 200 ∧ zs.Nodup := by
  unfold ringB at h
  rw [Bool.and_eq_true, Bool.and_eq_true, Bool.and_eq_true, decide_eq_true_eq, decide_eq_true_eq, decide_eq_true_eq] at h
  obtain ⟨⟨⟨h1, h2⟩, h3⟩, h4⟩ := h
  refine ⟨xs.map txt, texts_of h3, by rw [List.length_map]; exact h1, by rw [List.length_map]; exact h2, met_full ?_⟩
  rw [List.length_map]; exact h4
def t_init (K : PySem.W.Frag) (CR CS CP : Addr) (E : XK) : TS :=
(tSeq (tDrop (tCall (sLaid K CR CS CP) [] E (tCons (tVar 1) (tCons (tVar 2) (tCons (tVar 3) tNil)))))
  (tSeq (sFld K (tVar 0) (tOp rCat (tSl (rSlL K) (tVar 1) (tPart (tVar 3)) tNoPart) (tSl (rSlL K) (tVar 1) tNoPart (tPart (tVar 3)))) "_left")
  (tSeq (sFld K (tVar 0) (tLst tNil) "_gone")
  (sFld K (tVar 0) (tVar 2) "_step"))))
theorem put_one (v : V) : putF "_left" v [] = [(("_left" : Str), v)] := rfl
theorem put_two (v w : V) : putF "_gone" w [(("_left" : Str), v)] = [(("_left" : Str), v), (("_gone" : Str), w)] := by
  show (if ("_left" : Str) = "_gone" then (_ : List (Str × V)) else _) = _
  rw [if_neg (by decide +kernel)]
  rfl
theorem put_three (u v w : V) : putF "_step" u [(("_left" : Str), v), (("_gone" : Str), w)] = [(("_left" : Str), v), (("_gone" : Str), w), (("_step" : Str), u)] := by
  show (if ("_left" : Str) = "_step" then (_ : List (Str × V)) else (("_left" : Str), v) :: (if ("_gone" : Str) = "_step" then (_ : List (Str × V)) else _)) = _
  rw [if_neg (by decide +kernel), if_neg (by decide +kernel)]
  rfl
section
variable {C : Addr} {vs : List V} {H : Hp} {Q : VK} {E : XK}
theorem pure_init (T : RF K C) {CR CS CP : Addr} (h : sInit (RR K C) CR CS CP vs H Q E) : t_init K CR CS CP E { nx := fun _ H' => Q .non H', rt := Q } (start ["self", "hands", "step", "begin"] vs) H := by
  unfold sInit at h
  obtain ⟨x, h, d, b, H0, rfl, ⟨dx, nx, ndx, ne, rfl⟩, rb, hr, td, tb, hok, q0, q⟩ := h
  have e1 : Ex H0 (upd H0 dx (.own x)) := Evl.Ex.new ndx
  have e2 : Ex (upd H0 dx (.own x)) (upd (upd H0 dx (.own x)) x (.ins (RR K C).C dx [])) := Evl.Ex.new (by rw [upd_ne (Ne.symm ne)]; exact nx)
  have e0 := e1.trans e2
  have hx0 : _ = some (HO.ins C dx []) := upd_same (H := upd H0 dx (.own x)) (a := x)
  have hdx0 : upd (upd H0 dx (.own x)) x (.ins C dx []) dx = some (.own x) := by rw [upd_ne ne, upd_same]
  generalize upd (upd H0 dx (.own x)) x (.ins (RR K C).C dx []) = H at hr td tb hok q hx0 hdx0 e0 e2
  refine ⟨_, rfl, _, rfl, _, rfl, ?_⟩
  show sLaid K CR CS CP [h, d, b] H _ E
  unfold sLaid
  refine ⟨h, d, b, rfl, rb, hr, td, tb, fun c H' e => q0 c H' (e0.trans e), fun c => ⟨fun w H' e => (q c).1 w H' (e0.trans e), fun s' es s1 s2 l xs el hl hz => ?_⟩⟩
  obtain ⟨s, rfl⟩ : ∃ s : Nat, s' = (s : Int) := ⟨s'.toNat, by omega⟩
  have er : ringB xs = true := by
    subst el
    cases hr with
    | no t m => cases c
    | lst h' _ _ =>
      rw [hl] at h'
      cases h'
      exact c
  obtain ⟨zs, rfl, z1, z2, zn⟩ := ringB_true er
  have q2 := (q c).2 s es (by omega) s2 l zs el hl
  rw [List.length_map]
  refine ⟨fun w H' e => q2.1 w H' (e0.trans e), fun g eg hg H1 eH1 => ?_⟩
  have q3 := q2.2 g eg hg
  clear q2 q q0
  subst es el eg
  have hl1 := eH1 _ _ hl
  have hx1 := eH1 _ _ hx0
  have hdx1 := eH1 _ _ hdx0
  have e01 := e0.trans eH1
  refine ⟨_, rfl, _, rfl, _, rfl, l, _, rfl, sq_of hl1, fun p np => ?_⟩
  have f1 := Evl.Ex.new (o := .lst (cutV (zs.map V.str) (some (g : Int)) none)) np
  refine ⟨_, rfl, _, rfl, _, rfl, l, _, rfl, sq_of (f1 _ _ hl1), fun p2 np2 => ?_⟩
  have f2 := Evl.Ex.new (o := .lst (cutV (zs.map V.str) none (some (g : Int)))) np2
  refine ⟨p, p2, _, _, rfl, rfl, f2 _ _ upd_same, upd_same, ?_, fun p3 np3 => ?_⟩
  · refine sz_of ?_
    have c1 := cutV_length (zs.map V.str) (some (g : Int)) none
    have c2 := cutV_length (zs.map V.str) none (some (g : Int))
    rw [List.length_map] at c1 c2
    omega
  have hcut : cutV (zs.map V.str) (some (g : Int)) none ++ cutV (zs.map V.str) none (some (g : Int)) = (Jos.rot zs g).map V.str := by
    rw [cut_from (xs := zs.map V.str) (k := g) (by rw [List.length_map]; omega), cut_to (xs := zs.map V.str) (k := g) (by rw [List.length_map]; omega)]
    unfold Jos.rot
    rw [List.map_append, List.map_drop, List.map_take]
  rw [hcut]
  have f3 := Evl.Ex.new (o := .lst ((Jos.rot zs g).map V.str)) np3
  have n3 : H0 p3 = none := fresh_back e01 (fresh_back f1 (fresh_back f2 np3))
  have hp3 : _ = some (HO.lst ((Jos.rot zs g).map V.str)) := upd_same (H := upd (upd H1 p (.lst (cutV (zs.map V.str) (some (g : Int)) none))) p2 (.lst (cutV (zs.map V.str) none (some (g : Int))))) (a := p3)
  have f123 := f1.trans (f2.trans f3)
  have hx3 := f123 _ _ hx1
  have hdx3 := f123 _ _ hdx1
  have e03 := e01.trans f123
  generalize upd (upd (upd H1 p (.lst (cutV (zs.map V.str) (some (g : Int)) none))) p2 (.lst (cutV (zs.map V.str) none (some (g : Int))))) p3 (.lst ((Jos.rot zs g).map V.str)) = H3 at hp3 hx3 hdx3 e03
  have n3x : p3 ≠ x := fun z => by rw [z, hx3] at hp3; cases hp3
  have ndp : dx ≠ p3 := fun z => by rw [z, hp3] at hdx3; cases hdx3
  refine ⟨_, rfl, x, C, dx, _, rfl, hx3, T.cl, T.nL, (by show 0 < 1000; decide), ?_⟩
  rw [put_one]
  refine ⟨Nat.zero_le _, fun go ng => ?_⟩
  have ngx : go ≠ x := fun z => by rw [z, upd_same] at ng; cases ng
  have ng3 : H3 go = none := by rw [upd_ne ngx] at ng; exact ng
  have ngp : p3 ≠ go := fun z => by rw [← z, hp3] at ng3; cases ng3
  have ngd : dx ≠ go := fun z => by rw [← z, hdx3] at ng3; cases ng3
  refine ⟨_, rfl, x, C, dx, _, rfl, by rw [upd_ne (Ne.symm ngx), upd_same], T.cl, T.nG, (by show 1 < 1000; decide), ?_⟩
  rw [put_two]
  refine ⟨_, rfl, _, rfl, x, C, dx, _, rfl, upd_same, T.cl, T.nS, (by show 2 < 1000; decide), ?_⟩
  rw [put_three]
  refine q3 (rC x dx p3 go) _ ⟨dx, p3, go, upd_same, ?_, ?_, ?_, ngp, rfl, by omega, ?_, ?_⟩ (fun c hc => ?_) (fun c o hc => ?_)
  · rw [upd_ne ne, upd_ne ne, upd_ne ngd, upd_ne ne]; exact hdx3
  · rw [upd_ne n3x, upd_ne n3x, upd_ne ngp, upd_ne n3x]; exact hp3
  · rw [upd_ne ngx, upd_ne ngx, upd_same]; rfl
  · rw [Jos.rot_len]; show zs.length + 0 ≤ 400; omega
  · exact (Jos.rot_perm zs g).nodup_iff.mpr zn
  · rcases hc with rfl | rfl | rfl | rfl
    · exact nx
    · exact ndx
    · exact n3
    · exact fresh_back e03 ng3
  · have cx : c ≠ x := fun z => by rw [z, nx] at hc; cases hc
    have cg : c ≠ go := fun z => by rw [z, fresh_back e03 ng3] at hc; cases hc
    rw [upd_ne cx, upd_ne cx, upd_ne cg, upd_ne cx]
    exact e03 _ _ hc
def t_come (K : PySem.W.Frag) (S : Cs) (E : XK) : TS :=
(tSeq (tIfS (tNot (tB (tCB (rIsi K) (tCons (tVar 1) (tCons (tC (.ty "str")) tNil)))))
  (tRaise S.hand E)
  tNext)
  (tSeq (tIfS (tOr (tTest (tOp (rIn K false) (tVar 1) (tFld K (tVar 0) "_left"))) (tTest (tOp (rIn K false) (tVar 1) (tFld K (tVar 0) "_gone"))))
  (tRaise S.twice E)
  tNext)
  (tSeq (tAsg (tCB (rLenL K) (tCons (tFld K (tVar 0) "_left") tNil)) (gName 3))
  (tSeq (tIfS (tTest (tOp oNotN (tVar 2) (tC .non)))
  (tSeq (tDrop (tCall (sCkP K S.place) [] E (tCons (tVar 2) (tCons (tOp oAdd (tCB (rLenL K) (tCons (tFld K (tVar 0) "_left") tNil)) (tC (.int 1))) tNil))))
  (tAsg (tVar 2) (gName 3)))
  tNext)
  (tSeq (tIfS (tTest (tOp oGe (tOp oAdd (tCB (rLenL K) (tCons (tFld K (tVar 0) "_left") tNil)) (tCB (rLenL K) (tCons (tFld K (tVar 0) "_gone") tNil))) (tC (.int (400)))))
  (tRaise S.much E)
  tNext)
  (tDrop (tBM K "list" rInsert (tFld K (tVar 0) "_left") (tCons (tVar 3) (tCons (tVar 1) tNil)))))))))
theorem ins_at {α : Type} (z : α) : ∀ (i : Nat) (l : List α), i ≤ l.length → l.take i ++ [z] ++ l.drop i = l.insertIdx i z
  | 0, l, _ => by simp
  | i + 1, [], h => by simp at h
  | i + 1, x :: l, h => by
    have ih := ins_at z i l (by simpa using h)
    rw [List.insertIdx_succ_cons, ← ih]; simp
theorem nodup_ins {α : Type} (z : α) : ∀ (i : Nat) (l : List α), i ≤ l.length → z ∉ l → l.Nodup → (l.insertIdx i z).Nodup
  | i, l, h, hz, hn => by
    have p : (l.insertIdx i z).Perm (z :: l) := by
      rw [← ins_at z i l h, List.append_assoc]
      refine List.perm_append_comm_assoc _ _ _ |>.trans ?_
      rw [List.take_append_drop]; exact List.Perm.refl _
    exact p.nodup_iff.mpr (List.nodup_cons.mpr ⟨hz, hn⟩)
theorem typ_str {x : V} {t : Value} (ht : TyX K H x t) (e : t = .type "str") : isS x = true := by
  cases ht with
  | base b => cases b <;> first | rfl | (cases e; done) | (exact absurd (Value.type.inj e) (by decide +kernel))
  | _ => first | (cases e; done) | (exact absurd (Value.type.inj e) (by decide +kernel))
theorem pure_come (T : RF K C) {S : Cs} (h : sComeM (RR K C) S vs H Q E) : t_come K S E { nx := fun _ H' => Q .non H', rt := Q } (start ["self", "hand", "place", "at"] vs) H := by
  unfold sComeM at h
  obtain ⟨a, h, p, F, l, g, d, rfl, hr0, th, tp, q0, q⟩ := h
  obtain ⟨dx, lo, go, r⟩ := id hr0
  have hf := r.few
  obtain ⟨T0, t0, m0, _⟩ := id th
  cases hs : isS h with
  | false =>
    have ns : T0 ≠ "str" := fun z => by
      have := typ_str t0 (by rw [z])
      rw [this] at hs
      cases hs
    refine ⟨_, rfl, _, _, _, _, false, rfl, .ty "str", t0, kit_ty ?_, false, rfl, iteT (q0 hs H (Evl.Ex.refl H))⟩
    simp only [List.mem_cons, List.not_mem_nil, or_false] at m0
    rcases m0 with rfl | rfl | rfl | rfl | rfl | rfl | rfl <;> first | exact absurd rfl ns | decide +kernel
  | true =>
    obtain ⟨z, rfl⟩ : ∃ z, h = .str z := by
      cases h <;> first | (simp [isS] at hs; done) | exact ⟨_, rfl⟩
    obtain ⟨ok, q1, q⟩ := q z rfl
    refine ⟨_, rfl, _, _, _, _, true, rfl, .ty "str", .base (.str z), kit_ty (by decide +kernel), true, rfl, iteF ?_⟩
    refine ⟨_, rfl, _, rfl, a, C, dx, _, _, rfl, r.ha, T.cl, T.nL, rF_left _ _ _, lo, _, rfl, .inl (sq_of r.hl), rfl, flat_str l, ?_⟩
    rw [if_neg (by decide), in_str]
    refine ⟨_, rfl, iteC (fun c => ?_) (fun c => ?_)⟩
    · exact iteT (q1 (List.mem_append_left _ (of_decide_eq_true c)) H (Evl.Ex.refl H))
    refine ⟨_, rfl, _, rfl, a, C, dx, _, _, rfl, r.ha, T.cl, T.nG, rF_gone _ _ _, go, _, rfl, .inl (sq_of r.hg), rfl, flat_str g, ?_⟩
    rw [if_neg (by decide), in_str]
    refine ⟨_, rfl, iteC (fun c2 => ?_) (fun c2 => ?_)⟩
    · exact q1 (List.mem_append_right _ (of_decide_eq_true c2)) H (Evl.Ex.refl H)
    have new : z ∉ l ++ g := by
      rw [List.mem_append]
      exact fun e => e.elim (of_decide_eq_false (by simpa using c)) (of_decide_eq_false (by simpa using c2))
    obtain ⟨q2, q⟩ := q new
    -- the place
    have fin : ∀ i : Nat, comeAt l p = some i → i ≤ l.length → (tSeq (tIfS (tTest (tOp oGe (tOp oAdd (tCB (rLenL K) (tCons (tFld K (tVar 0) "_left") tNil)) (tCB (rLenL K) (tCons (tFld K (tVar 0) "_gone") tNil))) (tC (.int (400)))))
        (tRaise S.much E)
        tNext)
        (tDrop (tBM K "list" rInsert (tFld K (tVar 0) "_left") (tCons (tVar 3) (tCons (tVar 1) tNil))))) { nx := fun _ H' => Q .non H', rt := Q } [some (.ref a), some (.str z), some p, some (.int (i : Int))] H := by
      intro i hi hil
      obtain ⟨q3, q4⟩ := q i hi
      refine ⟨_, rfl, a, C, dx, _, _, rfl, r.ha, T.cl, T.nL, rF_left _ _ _, lo, _, rfl, .inl (sq_of r.hl), _, rfl, a, C, dx, _, _, rfl, r.ha, T.cl, T.nG, rF_gone _ _ _, go, _, rfl, .inl (sq_of r.hg), _, _, rfl, rfl, _, _, rfl, rfl, _, rfl, ?_⟩
      rw [List.length_map, List.length_map]
      refine iteC (fun c => ?_) (fun c => ?_)
      · have := of_decide_eq_true c
        exact q3 (by omega) H (Evl.Ex.refl H)
      · have c5 := of_decide_eq_false c
        have few : l.length + g.length < 400 := by omega
        refine ⟨_, rfl, a, C, dx, _, _, rfl, r.ha, T.cl, T.nL, rF_left _ _ _, ty_l r.hl, _, rfl, _, rfl, lo, _, (i : Int), _, rfl, rfl, r.hl, ?_, by omega, by omega, ?_⟩
        · refine sz_lt ?_
          rw [List.length_map]; omega
        rw [Int.toNat_natCast]
        have nla : lo ≠ a := fun z => by have := r.hl; rw [z, r.ha] at this; cases this
        have nld : dx ≠ lo := fun z => by have := r.hd; rw [z, r.hl] at this; cases this
        refine q4 few F _ ⟨dx, lo, go, ?_, ?_, ?_, ?_, r.ne, r.eF, r.d1, ?_, ?_⟩ ⟨fun b o hb nb => ?_, fun b hb => .inl hb⟩
        · rw [upd_ne (Ne.symm nla)]; exact r.ha
        · rw [upd_ne nld]; exact r.hd
        · rw [upd_same]
          congr 2
          rw [← ins_at z i l hil, List.map_append, List.map_append, List.map_take, List.map_drop]; rfl
        · rw [upd_ne (Ne.symm r.ne)]; exact r.hg
        · rw [List.length_insertIdx_of_le_length hil]; omega
        · exact nodup_ins z i l hil (fun e => new (List.mem_append_left _ e)) r.nd
        · rw [upd_ne fun z => nb (by rw [r.eF]; exact .inr (.inr (.inl z)))]; exact hb
    refine ⟨_, rfl, a, C, dx, _, _, rfl, r.ha, T.cl, T.nL, rF_left _ _ _, lo, _, rfl, .inl (sq_of r.hl), ?_⟩
    rw [List.length_map]
    by_cases en : p = .non
    · subst en
      refine ⟨_, rfl, rfl, _, rfl, iteF ?_⟩
      exact fin l.length rfl (Nat.le_refl _)
    · refine ⟨_, rfl, rfl, _, rfl, ?_⟩
      rw [decide_eq_false en]
      refine iteT ?_
      refine ⟨_, rfl, _, rfl, a, C, dx, _, _, rfl, r.ha, T.cl, T.nL, rF_left _ _ _, lo, _, rfl, .inl (sq_of r.hl), _, _, rfl, rfl, ?_⟩
      rw [List.length_map]
      refine ⟨p, _, rfl, tp, fun w => ?_, fun w => ?_⟩
      · obtain ⟨i', rfl, i1, i2⟩ := wh_int w
        obtain ⟨i, rfl⟩ : ∃ i : Nat, i' = (i : Int) := ⟨i'.toNat, by omega⟩
        refine ⟨_, rfl, fin i ?_ (by omega)⟩
        unfold comeAt
        dsimp only
        rw [if_pos ⟨by omega, by omega⟩]
        rfl
      · refine q2 ?_ H (Evl.Ex.refl H)
        unfold comeAt
        cases p with
        | non => exact absurd rfl en
        | int i =>
          dsimp only
          rw [if_neg]
          intro c
          rw [wh_of (by omega) (by omega)] at w
          cases w
        | _ => rfl
end
end Cd

set_option Elab.async false
set_option linter.all false
set_option maxRecDepth 100000
set_option maxHeartbeats 4000000
namespace Cd
open PySem PySem.Spec PyProof.Rows L2 Tx Kp Mx
open Evl (Ex sq_of ex_l sz_of sz_lt fresh_back)
/-- the script is read, whatever is done to the cells B -/
def Scr (K : PySem.W.Frag) (H : Hp) (a : Addr) (ns : List Int) (B : Addr → Prop) : Prop := (∀ H', SqL K H' a (ns.map V.int)) ∨ (SqL K H a (ns.map V.int) ∧ H a ≠ none ∧ ¬ B a)
theorem Scr.sq {K : PySem.W.Frag} {H : Hp} {a : Addr} {ns : List Int} {B : Addr → Prop} (h : Scr K H a ns B) : SqL K H a (ns.map V.int) := h.elim (fun g => g H) fun g => g.1
theorem Scr.of {K : PySem.W.Frag} {H : Hp} {a : Addr} {ns : List Int} {B : Addr → Prop} (h : SqL K H a (ns.map V.int)) (n : H a ≠ none → ¬ B a) : Scr K H a ns B := by
  rcases h with (g | ⟨o, g⟩) | g
  · exact .inr ⟨.inl (.inl g), by rw [g]; simp, n (by rw [g]; simp)⟩
  · exact .inr ⟨.inl (.inr ⟨o, g⟩), by rw [g]; simp, n (by rw [g]; simp)⟩
  · exact .inl fun H' => .inr g
theorem Scr.to {K : PySem.W.Frag} {H H' : Hp} {a : Addr} {ns : List Int} {B B' : Addr → Prop} (h : Scr K H a ns B) (k : ∀ o, H a = some o → ¬ B a → H' a = some o) (n : H a ≠ none → ¬ B a → ¬ B' a) : Scr K H' a ns B' := by
  rcases h with h | ⟨h, h1, h2⟩
  · exact .inl h
  · refine .inr ⟨?_, ?_, n h1 h2⟩
    · rcases h with (g | ⟨o, g⟩) | g
      · exact .inl (.inl (k _ g h2))
      · exact .inl (.inr ⟨o, k _ g h2⟩)
      · exact .inr g
    · cases e : H a with
      | none => exact absurd e h1
      | some o => rw [k o e h2]; simp
namespace K11
variable {K : PySem.W.Frag}
/-- the ring (left L, gone G), the law's own row l and gone g -/
structure S11 (K : PySem.W.Frag) (R : Rep K) (a : Addr) (ns : List Int) (h : Addr) (zs : List Str) (r : Addr) (D : Nat) (H : Hp) (F : Addr → Prop) (ro ga : Addr) (L G l g : List Str) : Prop where
  ring : R.at_ H r F L G D
  hh : H h = some (.lst (zs.map V.str))
  hr : H ro = some (.lst (l.map V.str))
  hg : H ga = some (.lst (g.map V.str))
  fh : ¬ F h
  fr : ¬ F ro
  fg : ¬ F ga
  n1 : ro ≠ ga
  n2 : ro ≠ h
  n3 : ga ≠ h
  sc : Scr K H a ns fun b => F b ∨ b = ro ∨ b = ga
section
variable {R : Rep K} {a : Addr} {ns : List Int} {h : Addr} {zs : List Str} {r : Addr} {D : Nat} {H H' : Hp} {F F' : Addr → Prop} {ro ga : Addr} {L G L' G' l g : List Str}
theorem S11.ex (s : S11 K R a ns h zs r D H F ro ga L G l g) (e : Ex H H') : S11 K R a ns h zs r D H' F ro ga L G l g :=
  ⟨Rep.ex s.ring e, e _ _ s.hh, e _ _ s.hr, e _ _ s.hg, s.fh, s.fr, s.fg, s.n1, s.n2, s.n3, s.sc.to (fun o x _ => e _ _ x) fun _ x => x⟩
theorem S11.go (s : S11 K R a ns h zs r D H F ro ga L G l g) (q : R.at_ H' r F' L' G' D) (c : Chg H F H' F') : S11 K R a ns h zs r D H' F' ro ga L' G' l g :=
  ⟨q, c.keep _ _ s.hh s.fh, c.keep _ _ s.hr s.fr, c.keep _ _ s.hg s.fg, c.off s.fh (by rw [s.hh]; simp), c.off s.fr (by rw [s.hr]; simp), c.off s.fg (by rw [s.hg]; simp), s.n1, s.n2, s.n3,
    s.sc.to (fun o x n => c.keep _ _ x fun z => n (.inl z)) fun x n z => by
      rcases z with z | z
      · exact c.off (fun y => n (.inl y)) x z
      · exact n (.inr z)⟩
theorem S11.row {ro' : Addr} {l' : List Str} (s : S11 K R a ns h zs r D H F ro ga L G l g) (e : Ex H H') (n : H ro' = none) (hr : H' ro' = some (.lst (l'.map V.str))) : S11 K R a ns h zs r D H' F ro' ga L G l' g := by
  have s2 := s.ex e
  refine ⟨s2.ring, s2.hh, hr, s2.hg, s2.fh, Rep.free s.ring n, s2.fg, fun z => ?_, fun z => ?_, s2.n3, ?_⟩
  · have := s.hg; rw [← z, n] at this; cases this
  · have := s.hh; rw [← z, n] at this; cases this
  · refine s.sc.to (fun o x _ => e _ _ x) fun x m z => ?_
    rcases z with z | z | z
    · exact m (.inl z)
    · exact x (by rw [z]; exact n)
    · exact m (.inr (.inr z))
theorem S11.app {z : Str} (s : S11 K R a ns h zs r D H F ro ga L G l g) : S11 K R a ns h zs r D (upd H ga (.lst ((g ++ [z]).map V.str))) F ro ga L G l (g ++ [z]) := by
  refine ⟨Rep.mut s.ring s.fg, ?_, ?_, upd_same, s.fh, s.fr, s.fg, s.n1, s.n2, s.n3, ?_⟩
  · rw [upd_ne (Ne.symm s.n3)]; exact s.hh
  · rw [upd_ne s.n1]; exact s.hr
  · exact s.sc.to (fun o x n => by rw [upd_ne fun y => n (.inr (.inr y))]; exact x) fun _ x => x
theorem S11.ins {l' : List Str} (s : S11 K R a ns h zs r D H F ro ga L G l g) : S11 K R a ns h zs r D (upd H ro (.lst (l'.map V.str))) F ro ga L G l' g := by
  refine ⟨Rep.mut s.ring s.fr, ?_, upd_same, ?_, s.fh, s.fr, s.fg, s.n1, s.n2, s.n3, ?_⟩
  · rw [upd_ne (Ne.symm s.n2)]; exact s.hh
  · rw [upd_ne (Ne.symm s.n1)]; exact s.hg
  · exact s.sc.to (fun o x n => by rw [upd_ne fun y => n (.inr (.inl y))]; exact x) fun _ x => x
end
/-- of those that are in, and were -/
structure Own (zs L G : List Str) (c : Nat) : Prop where
  len : L.length + G.length = zs.length + c
  nd : (L ++ G).Nodup
  mem : ∀ z ∈ L ++ G, z ∈ zs ∨ ∃ j, j < c ∧ z = cam j
theorem Own.perm {zs L G L' G' : List Str} {c : Nat} (o : Own zs L G c) (p : (L' ++ G').Perm (L ++ G)) : Own zs L' G' c where
  len := by have := p.length_eq; rw [List.length_append, List.length_append] at this; have := o.len; omega
  nd := p.nodup_iff.mpr o.nd
  mem z hz := o.mem z (p.mem_iff.mp hz)
theorem Own.counts {zs L G : List Str} {c : Nat} (s k : Nat) (o : Own zs L G c) (hk : k ≤ L.length) : Own zs (Jos.aft s k L) (G ++ (Jos.out s L.length L).take k) c := by
  refine o.perm ?_
  have p := Jos.aft_perm s k L hk
  refine List.Perm.trans (l₂ := Jos.aft s k L ++ ((Jos.out s L.length L).take k ++ G)) (List.Perm.append_left _ List.perm_append_comm) ?_
  rw [← List.append_assoc]
  exact List.Perm.append_right _ (List.perm_append_comm.trans p)
theorem Own.new {zs L G : List Str} {c : Nat} (o : Own zs L G c) (hc : c < 402) (ne : ∀ z ∈ zs, noE z) : cam c ∉ L ++ G := fun z => by
  rcases o.mem _ z with h | ⟨j, hj, e⟩
  · exact cam_e c (ne _ h)
  · have := cam_inj hc (by omega) e
    omega
theorem perm_ins {α : Type} (z : α) : ∀ (i : Nat) (l : List α), i ≤ l.length → (l.insertIdx i z).Perm (z :: l)
  | 0, l, _ => by rw [List.insertIdx_zero]
  | i + 1, [], h => by simp at h
  | i + 1, x :: l, h => by
    rw [List.insertIdx_succ_cons]
    exact (List.Perm.cons x (perm_ins z i l (by simpa using h))).trans (List.Perm.swap z x l)
theorem Own.come {zs L G : List Str} {c i : Nat} (o : Own zs L G c) (hc : c < 402) (ne : ∀ z ∈ zs, noE z) (hi : i ≤ L.length) : Own zs (L.insertIdx i (cam c)) G (c + 1) := by
  have p : (L.insertIdx i (cam c) ++ G).Perm (cam c :: (L ++ G)) := List.Perm.append_right G (perm_ins (cam c) i L hi)
  refine ⟨?_, p.nodup_iff.mpr (List.nodup_cons.mpr ⟨o.new hc ne, o.nd⟩), fun z hz => ?_⟩
  · have := p.length_eq
    rw [List.length_append, List.length_cons, List.length_append] at this
    have := o.len
    omega
  · rcases List.mem_cons.mp (p.mem_iff.mp hz) with e | e
    · exact .inr ⟨c, by omega, e⟩
    · rcases o.mem z e with h | ⟨j, hj, e⟩
      · exact .inl h
      · exact .inr ⟨j, by omega, e⟩
theorem Own.ok {zs L G : List Str} {c : Nat} (o : Own zs L G c) (hc : c ≤ 402) (ok : ∀ z ∈ zs, PyData.strOk z = true) : ∀ z ∈ L ++ G, PyData.strOk z = true := fun z hz => by
  rcases o.mem z hz with h | ⟨j, hj, e⟩
  · exact ok z h
  · rw [e]; exact cam_ok (by omega)
end K11
end Cd

set_option Elab.async false
set_option linter.all false
set_option maxRecDepth 100000
set_option maxHeartbeats 4000000
namespace Cd
open PySem PySem.Spec PyProof.Rows L2 Tx Kp Mx
open Evl (Ex sq_of ex_l sz_of sz_lt fresh_back)
theorem inV_str {z : Str} {g : List Str} : inV (.str z) (g.map V.str) = decide (z ∈ g) := by
  unfold inV
  rw [List.any_map]
  by_cases h : z ∈ g
  · rw [decide_eq_true h, List.any_eq_true]
    exact ⟨z, h, by simp [eqV]⟩
  · rw [decide_eq_false h, List.any_eq_false]
    intro y hy e
    have : y = z := by simpa [eqV] using e
    exact h (this ▸ hy)
theorem flat_strs (g : List Str) : (g.map V.str).all flatV = true := by
  rw [List.all_eq_true]
  intro x hx
  obtain ⟨z, _, rfl⟩ := List.mem_map.mp hx
  rfl
namespace K11
variable {K : PySem.W.Frag}
def t_hand (K : PySem.W.Frag) : TS :=
  (tSeq (tAsg (tOp oMod (tOp oSub (tVar 3) (tC (.int 1))) (tCB (rLenL K) (tCons (tVar 5) tNil))) (gName 12))
  (tSeq (tAsg (tOp rCat (tSl (rSlL K) (tVar 5) (tPart (tVar 12)) tNoPart) (tSl (rSlL K) (tVar 5) tNoPart (tPart (tVar 12)))) (gName 5))
  (tSeq (tIfS (tOr (tTest (tOp rNe (tOp (rIxL K) (tVar 5) (tC (.int 0))) (tVar 11))) (tTest (tOp (rIn K false) (tVar 11) (tVar 6))))
  (tRet (tC (.bl false)))
  tNext)
  (tSeq (tDrop (tBM K "list" rAppend (tVar 6) (tCons (tVar 11) tNil)))
  (tAsg (tSl (rSlL K) (tVar 5) (tPart (tC (.int 1))) tNoPart) (gName 5))))))
theorem hand_go {R : Rep K} {a p : Addr} {ns : List Int} {h : Addr} {zs : List Str} {r : Addr} {D c : Nat} {H : Hp} {F : Addr → Prop} {ro ga T : Addr} {L G l g t : List Str} {z : Str} {told : List V} {y8 y9 y12 y13 y14 : Option V} {De : Ends} (d1 : 1 ≤ D)
    (s : S11 K R a ns h zs r D H F ro ga L G l g) (hT : H T = some (.lst told)) (nT : T ≠ ga) (hz : Jos.rotN (D - 1) l = z :: t) (ng : z ∉ g) (b1 : l.length ≤ 1000) (b2 : g.length ≤ 1000)
    (k : ∀ y12 ro' H', S11 K R a ns h zs r D H' F ro' ga L G t (g ++ [z]) → H' T = some (.lst told) → De.nx [some (.ref a), some (.ref p), some (.ref h), some (.int (D : Int)), some (.ref r), some (.ref ro'), some (.ref ga), some (.int (c : Int)), y8, y9, some (.ref T), some (.str z), y12, y13, y14] H') :
    t_hand K De [some (.ref a), some (.ref p), some (.ref h), some (.int (D : Int)), some (.ref r), some (.ref ro), some (.ref ga), some (.int (c : Int)), y8, y9, some (.ref T), some (.str z), y12, y13, y14] H := by
  have hl0 : 0 < l.length := by
    have := Jos.rotN_len (D - 1) l
    rw [hz] at this; simp at this; omega
  have hlm : (l.map V.str).length = l.length := List.length_map _
  refine ⟨_, rfl, _, _, rfl, rfl, _, rfl, ro, _, rfl, .inl (sq_of s.hr), _, _, rfl, rfl, pos0 (by omega), ?_⟩
  have hk : (D - 1) % l.length < l.length := Nat.mod_lt _ hl0
  dsimp only
  rw [hlm, show ((D : Int) - 1) % (l.length : Int) = (((D - 1) % l.length : Nat) : Int) by rw [Int.natCast_emod]; congr 1; omega]
  generalize hj : (D - 1) % l.length = j at hk
  refine ⟨_, rfl, _, rfl, _, rfl, ro, _, rfl, sq_of s.hr, fun x nx => ?_⟩
  have e1 := Evl.Ex.new (o := .lst (cutV (l.map V.str) (some (j : Int)) none)) nx
  have hx := show _ = some (HO.lst (cutV (l.map V.str) (some (j : Int)) none)) from upd_same (H := H) (a := x)
  refine ⟨_, rfl, _, rfl, _, rfl, ro, _, rfl, sq_of (e1 _ _ s.hr), fun y ny => ?_⟩
  have e2 := Evl.Ex.new (o := .lst (cutV (l.map V.str) none (some (j : Int)))) ny
  have hy := show _ = some (HO.lst (cutV (l.map V.str) none (some (j : Int)))) from upd_same (H := upd H x (.lst (cutV (l.map V.str) (some (j : Int)) none))) (a := y)
  refine ⟨x, y, _, _, rfl, rfl, e2 _ _ hx, hy, ?_, fun w nw => ?_⟩
  · rw [cut_from (by omega), cut_to (by omega), List.length_drop, List.length_take]
    exact sz_of (by omega)
  have e3 := Evl.Ex.new (o := .lst (cutV (l.map V.str) (some (j : Int)) none ++ cutV (l.map V.str) none (some (j : Int)))) nw
  have hw := show _ = some (HO.lst (cutV (l.map V.str) (some (j : Int)) none ++ cutV (l.map V.str) none (some (j : Int)))) from upd_same (H := upd (upd H x (.lst (cutV (l.map V.str) (some (j : Int)) none))) y (.lst (cutV (l.map V.str) none (some (j : Int))))) (a := w)
  have hrow : cutV (l.map V.str) (some (j : Int)) none ++ cutV (l.map V.str) none (some (j : Int)) = (z :: t).map V.str := by
    rw [cut_from (by omega), cut_to (by omega), ← hz, Jos.rotN_eq _ _ hl0, hj]
    unfold Jos.rot
    rw [List.map_append, List.map_drop, List.map_take]
  have ee := e1.trans (e2.trans e3)
  rw [hrow] at hw ee
  rw [hrow]
  have s2 := s.row (ro' := w) (l' := z :: t) ee (fresh_back e1 (fresh_back e2 nw)) hw
  have hT2 := ee _ _ hT
  generalize upd (upd (upd H x (.lst (cutV (l.map V.str) (some (j : Int)) none))) y (.lst (cutV (l.map V.str) none (some (j : Int))))) w (.lst ((z :: t).map V.str)) = H2 at s2 hT2 hw
  refine ⟨_, rfl, w, _, 0, .str z, rfl, rfl, sq_of hw, (by exact at0), _, rfl, rfl, _, rfl, iteC (fun e => (dec_self e).elim) (fun _ => ?_)⟩
  refine ⟨_, rfl, _, rfl, ga, _, rfl, .inl (sq_of s2.hg), rfl, flat_strs g, ?_⟩
  rw [inV_str, decide_eq_false ng]
  refine ⟨_, rfl, iteC (fun e => by cases e) (fun _ => ?_)⟩
  refine ⟨_, rfl, ty_l s2.hg, _, rfl, ga, _, _, rfl, rfl, s2.hg, ?_, ?_⟩
  · rw [List.length_map]; exact sz_lt (by omega)
  have s3 := s2.app (z := z)
  have hT3 : upd H2 ga (.lst ((g ++ [z]).map V.str)) T = some (.lst told) := by rw [upd_ne nT]; exact hT2
  rw [List.map_append] at s3 hT3
  refine ⟨_, rfl, _, rfl, w, _, rfl, sq_of s3.hr, fun v nv => ?_⟩
  have e4 := Evl.Ex.new (o := .lst (cutV ((z :: t).map V.str) (some (1 : Int)) none)) nv
  have hcut : cutV ((z :: t).map V.str) (some (1 : Int)) none = t.map V.str := by
    have := cut_from (xs := (z :: t).map V.str) (k := 1) (by simp)
    rw [show ((1 : Nat) : Int) = 1 from rfl] at this
    rw [this]; rfl
  rw [hcut] at e4 ⊢
  exact k _ v _ (s3.row (l' := t) e4 nv upd_same) (e4 _ _ hT3)
end K11
end Cd

set_option Elab.async false
set_option linter.all false
set_option maxRecDepth 100000
set_option maxHeartbeats 4000000
namespace Cd
open PySem PySem.Spec PyProof.Rows L2 Tx Kp Mx
open Evl (Ex sq_of ex_l sz_of sz_lt fresh_back)
namespace K11
variable {K : PySem.W.Frag}
/-- the slots -/
abbrev Sl (a p h : Addr) (D : Nat) (r ro ga : Addr) (c : Nat) (y8 y9 y10 y11 y12 y13 y14 : Option V) : L2.St := [some (.ref a), some (.ref p), some (.ref h), some (.int (D : Int)), some (.ref r), some (.ref ro), some (.ref ga), some (.int (c : Int)), y8, y9, y10, y11, y12, y13, y14]
def t_counts (R : Rep K) (C : Cs) : TS :=
  (tSeq (tAsg (tMeth R.C "counts" (sCountsM R C.count) [] E0 (tVar 4) (tCons (tCB oMin2 (tCons (tOp oAdd (tC (.int 1)) (tVar 9)) (tCons (tCB (rLenL K) (tCons (tVar 5) tNil)) tNil))) tNil)) (gName 10))
  (tFor (iList K (tVar 10)) (gName 11) (t_hand K)))
theorem take_next {α : Type} {l : List α} {i : Nat} {z : α} (h : l[i]? = some z) : l.take (i + 1) = l.take i ++ [z] := by
  rw [List.take_succ, h]; rfl
theorem not_ahead {L G : List Str} {s i : Nat} {z : Str} (nd : (L ++ G).Nodup) (h : (Jos.out s L.length L)[i]? = some z) : z ∉ G ++ (Jos.out s L.length L).take i := by
  have p := Jos.out_perm s L.length L rfl
  have n1 : (Jos.out s L.length L).Nodup := p.nodup_iff.mpr (List.nodup_append.mp nd).1
  have hz : z ∈ L := p.mem_iff.mp (List.mem_of_getElem? h)
  intro m
  rcases List.mem_append.mp m with m | m
  · exact (List.nodup_append.mp nd).2.2 z hz z m rfl
  · obtain ⟨j, hj⟩ := List.mem_iff_getElem?.mp m
    have hji : j < i := by
      have := (List.getElem?_eq_some_iff.mp hj).1
      rw [List.length_take] at this; omega
    rw [List.getElem?_take_of_lt hji] at hj
    have := Jos.nodup_get n1 hj h
    omega
theorem counts_part {R : Rep K} {C : Cs} {a p h : Addr} {ns : List Int} {zs : List Str} {r : Addr} {D c w : Nat} {H : Hp} {F : Addr → Prop} {ro ga : Addr} {L G : List Str} {y8 y10 y11 y12 y13 y14 : Option V} {De : Ends} (d1 : 1 ≤ D)
    (s : S11 K R a ns h zs r D H F ro ga L G L G) (o : Own zs L G c) (hL : L.length + G.length ≤ 400)
    (k : ∀ F' ro' L' G' y10 y11 y12 H', S11 K R a ns h zs r D H' F' ro' ga L' G' L' G' → Own zs L' G' c → De.nx (Sl a p h D r ro' ga c y8 (some (.int (w : Int))) y10 y11 y12 y13 y14) H') :
    t_counts R C De (Sl a p h D r ro ga c y8 (some (.int (w : Int))) y10 y11 y12 y13 y14) H := by
  refine ⟨_, rfl, ?_⟩
  refine meth_of (m := "counts") (by simp) s.ring ?_
  refine ⟨_, rfl, _, _, rfl, rfl, _, rfl, ro, _, rfl, .inl (sq_of s.hr), _, _, rfl, ?_⟩
  obtain ⟨n, hn, hn1⟩ : ∃ n : Nat, (if ((L.map V.str).length : Int) < 1 + (w : Int) then ((L.map V.str).length : Int) else 1 + (w : Int)) = (n : Int) ∧ n ≤ L.length := by
    rw [List.length_map]
    split
    · exact ⟨L.length, rfl, Nat.le_refl _⟩
    · exact ⟨1 + w, by omega, by omega⟩
  rw [hn]
  show sCountsM R C.count [.ref r, .int (n : Int)] H _ E0
  refine counts_go (E := E0) s.ring hn1 fun T F1 H1 nT nFT q ch hT => ?_
  have s1 := s.go q ch
  have nTga : T ≠ ga := fun z => by have := s.hg; rw [← z, nT] at this; cases this
  have po := Jos.out_len (D - 1) L.length L rfl
  have o1 := o.counts (D - 1) n hn1
  refine ⟨_, rfl, T, rfl, ⟨_, sq_of hT⟩, for_list (xs := ((Jos.out (D - 1) L.length L).take n).map V.str) (fun i σ H' => ∃ ro' y11 y12, σ = Sl a p h D r ro' ga c y8 (some (.int (w : Int))) (some (.ref T)) y11 y12 y13 y14 ∧
      S11 K R a ns h zs r D H' F1 ro' ga (Jos.aft (D - 1) n L) (G ++ (Jos.out (D - 1) L.length L).take n) (Jos.aft (D - 1) i L) (G ++ (Jos.out (D - 1) L.length L).take i) ∧ H' T = some (.lst (((Jos.out (D - 1) L.length L).take n).map V.str)))
    ⟨ro, _, _, rfl, by rw [List.take_zero, List.append_nil]; exact s1, hT⟩ ?_ ?_ ?_⟩
  · intro i σ H' _ hP
    obtain ⟨_, _, _, _, _, h⟩ := hP
    exact sq_of h
  · intro i x σ H' hx hP
    obtain ⟨ro', y11', y12', rfl, s2, hT2⟩ := hP
    have hi : i < n := by
      have := (List.getElem?_eq_some_iff.mp hx).1
      rw [List.length_map, List.length_take] at this; omega
    obtain ⟨z, t, hz, hzi, ht⟩ := Jos.out_head (D - 1) i L (by omega)
    have ex : x = .str z := by
      rw [List.getElem?_map, List.getElem?_take_of_lt hi, hzi] at hx
      exact (Option.some.inj hx).symm
    subst ex
    refine hand_go (c := c) d1 s2 hT2 nTga hz (not_ahead o.nd hzi) ?_ ?_ fun y12 ro2 H3 s3 hT3 => ?_
    · rw [Jos.aft_len]; omega
    · rw [List.length_append, List.length_take]; omega
    · refine ⟨ro2, _, _, rfl, ?_, hT3⟩
      rw [ht, take_next hzi, ← List.append_assoc]
      exact s3
  · intro σ H' hP
    obtain ⟨ro', y11', y12', rfl, s2, hT2⟩ := hP
    have en : (((Jos.out (D - 1) L.length L).take n).map V.str).length = n := by rw [List.length_map, List.length_take]; omega
    rw [en] at s2
    exact k _ _ _ _ _ _ _ _ s2 o1
end K11
end Cd

set_option Elab.async false
set_option linter.all false
set_option maxRecDepth 100000
set_option maxHeartbeats 4000000
namespace Cd
open PySem PySem.Spec PyProof.Rows L2 Tx Kp Mx
open Evl (Ex sq_of ex_l sz_of sz_lt fresh_back)
theorem ins_td {α : Type} (z : α) : ∀ (i : Nat) (l : List α), i ≤ l.length → l.take i ++ [z] ++ l.drop i = l.insertIdx i z
  | 0, l, _ => by rw [List.insertIdx_zero]; rfl
  | i + 1, [], h => by simp at h
  | i + 1, x :: l, h => by
    rw [List.insertIdx_succ_cons, ← ins_td z i l (by simpa using h)]
    rfl
theorem ins_map {z : Str} {i : Nat} {l : List Str} (h : i ≤ l.length) : (l.map V.str).take i ++ [V.str z] ++ (l.map V.str).drop i = (l.insertIdx i z).map V.str := by
  rw [← ins_td z i l h, List.map_append, List.map_append, List.map_take, List.map_drop]; rfl
namespace K11
variable {K : PySem.W.Frag}
def t_come (R : Rep K) (C : Cs) : TS :=
  (tSeq (tAsg (tOp oAddS (tC (.str "came")) (tCB oStrI (tCons (tVar 7) tNil))) (gName 11))
  (tSeq (tAsg (tOp oAdd (tVar 7) (tC (.int 1))) (gName 7))
  (tSeq (tAsg (tOp oMod (tOp oFdiv (tVar 8) (tC (.int 4))) (tOp oAdd (tCB (rLenL K) (tCons (tVar 5) tNil)) (tC (.int 1)))) (gName 13))
  (tSeq (tIfS (tTest (tOp rEq (tOp oMod (tOp oFdiv (tVar 8) (tC (.int 4))) (tC (.int 3))) (tC (.int 1))))
  (tSeq (tAsg (tCB (rLenL K) (tCons (tVar 5) tNil)) (gName 13))
  (tDrop (tMeth R.C "come" (sComeM R C) [.non] E0 (tVar 4) (tCons (tVar 11) tNil))))
  (tDrop (tMeth R.C "come" (sComeM R C) [] E0 (tVar 4) (tCons (tVar 11) (tCons (tVar 13) tNil)))))
  (tDrop (tBM K "list" rInsert (tVar 5) (tCons (tVar 13) (tCons (tVar 11) tNil))))))))
theorem come_part {R : Rep K} {C : Cs} {a p h : Addr} {ns : List Int} {zs : List Str} {r : Addr} {D c : Nat} {cell : Int} {H : Hp} {F : Addr → Prop} {ro ga : Addr} {L G : List Str} {y9 y10 y11 y12 y13 y14 : Option V} {De : Ends}
    (s : S11 K R a ns h zs r D H F ro ga L G L G) (o : Own zs L G c) (ne : ∀ z ∈ zs, noE z) (hc : c < 290) (hL : L.length + G.length < 400)
    (k : ∀ F' L' y11 y13 H', S11 K R a ns h zs r D H' F' ro ga L' G L' G → Own zs L' G (c + 1) → De.nx (Sl a p h D r ro ga (c + 1) (some (.int cell)) y9 y10 y11 y12 y13 y14) H') :
    t_come R C De (Sl a p h D r ro ga c (some (.int cell)) y9 y10 y11 y12 y13 y14) H := by
  have f := sk_facts c (by omega)
  have new := o.new (by omega) ne
  have okc := cam_ok (k := c) (by omega)
  refine ⟨_, rfl, _, rfl, Nat.lt_of_le_of_lt (Nat.log2_le_self _) (by omega), _, _, rfl, rfl, ?_, ?_⟩
  · show (Str.ofString "came").length + (sk c).length ≤ sizeLine
    rw [show (Str.ofString "came").length = 4 by decide +kernel]
    exact sz_of (by omega)
  refine ⟨_, rfl, _, _, rfl, rfl, ?_⟩
  dsimp only
  rw [show (c : Int) + 1 = ((c + 1 : Nat) : Int) by omega]
  refine ⟨_, rfl, _, _, rfl, rfl, ⟨by decide, by decide⟩, _, rfl, ro, _, rfl, .inl (sq_of s.hr), _, _, rfl, rfl, _, _, rfl, rfl, pos0 (by omega), ?_⟩
  obtain ⟨i, hi, hi2⟩ : ∃ i : Nat, cell / 4 % (((L.map V.str).length : Int) + 1) = (i : Int) ∧ i ≤ L.length := by
    rw [List.length_map]
    have b1 : 0 ≤ cell / 4 % ((L.length : Int) + 1) := Int.emod_nonneg _ (by omega)
    have b2 : cell / 4 % ((L.length : Int) + 1) < (L.length : Int) + 1 := Int.emod_lt_of_pos _ (by omega)
    exact ⟨(cell / 4 % ((L.length : Int) + 1)).toNat, by omega, by omega⟩
  dsimp only
  rw [hi]
  -- behind the coming: the law's own row likewise
  have fin : ∀ (j : Nat) F' H', j ≤ L.length → R.at_ H' r F' (L.insertIdx j (cam c)) G D → Chg H F H' F' →
      (tDrop (tBM K "list" rInsert (tVar 5) (tCons (tVar 13) (tCons (tVar 11) tNil)))) De (Sl a p h D r ro ga (c + 1) (some (.int cell)) y9 y10 (some (.str (cam c))) y12 (some (.int (j : Int))) y14) H' := by
    intro j F' H' hj q ch
    have s1 := s.go q ch
    refine ⟨_, rfl, ty_l s1.hr, _, rfl, _, rfl, ro, _, _, _, rfl, rfl, s1.hr, ?_, by omega, by omega, ?_⟩
    · rw [List.length_map]; exact sz_lt (by omega)
    · rw [Int.toNat_natCast, ins_map hj]
      exact k F' _ _ _ _ s1.ins (o.come (by omega) ne hj)
  refine ⟨_, rfl, _, _, rfl, rfl, ⟨by decide, by decide⟩, _, _, rfl, rfl, pos0 (by decide), rfl, _, rfl, iteC (fun _ => ?_) (fun _ => ?_)⟩
  · refine ⟨_, rfl, ro, _, rfl, .inl (sq_of s.hr), ?_⟩
    refine ⟨_, rfl, ?_⟩
    refine meth_of (m := "come") (by simp) s.ring ?_
    refine ⟨_, rfl, ?_⟩
    show sComeM R C [.ref r, .str (cam c), .non] H _ E0
    refine come_go (i := L.length) s.ring okc new Typ.non rfl hL fun F' H' q ch => ?_
    rw [show (V.int ((L.map V.str).length : Int)) = V.int (L.length : Int) by rw [List.length_map]]
    exact fin L.length F' H' (Nat.le_refl _) q ch
  · refine ⟨_, rfl, ?_⟩
    refine meth_of (m := "come") (by simp) s.ring ?_
    refine ⟨_, rfl, _, rfl, ?_⟩
    show sComeM R C [.ref r, .str (cam c), .int (i : Int)] H _ E0
    refine come_go (i := i) s.ring okc new Typ.int ?_ hL fun F' H' q ch => fin i F' H' hi2 q ch
    unfold comeAt
    dsimp only
    rw [if_pos ⟨by omega, by omega⟩]
    rfl
end K11
end Cd

set_option Elab.async false
set_option linter.all false
set_option maxRecDepth 100000
set_option maxHeartbeats 4000000
namespace Cd
open PySem PySem.Spec PyProof.Rows L2 Tx Kp Mx
open Evl (Ex sq_of ex_l sz_of sz_lt fresh_back)
namespace K11
variable {K : PySem.W.Frag}
/-- two flat lists that are alike -/
theorem same_go {neg : Bool} {p q : Addr} {xs : List V} {H : Hp} {Q : VK} (hp : SqL K H p xs) (hq : SqL K H q xs) (pl : xs.all plain = true) (k : Q (.bl (!neg)) H) : rEqF K neg (.ref p) (.ref q) H Q := by
  refine ⟨p, q, xs, xs, rfl, rfl, hp, hq, pl, pl, ?_⟩
  cases neg
  · rw [if_neg (by decide), decide_eq_true rfl]; exact k
  · rw [if_pos rfl, decide_eq_true rfl]; exact k
/-- a list that is empty or not -/
theorem empty_go {neg : Bool} {p q : Addr} {xs : List V} {H : Hp} {Q : VK} (hp : SqL K H p xs) (hq : SqL K H q []) (pl : xs.all plain = true) (k : Q (.bl (if neg then !decide (xs = []) else decide (xs = []))) H) : rEqF K neg (.ref p) (.ref q) H Q :=
  ⟨p, q, xs, [], rfl, rfl, hp, hq, pl, rfl, k⟩
def t_shown (R : Rep K) : TS :=
  (tIfS (tAnd (tTest (tOp oLt (tCB (rLenL K) (tCons (tVar 6) tNil)) (tC (.int 40)))) (tOr (tTest (tOp (rEqF K true) (tMeth R.C "left" (sLeftM R) [] E0 (tVar 4) tNil) (tVar 5))) (tTest (tOp (rEqF K true) (tMeth R.C "gone" (sGoneM R) [] E0 (tVar 4) tNil) (tVar 6)))))
  (tRet (tC (.bl false)))
  tNext)
theorem shown_go {R : Rep K} {a p h : Addr} {ns : List Int} {zs : List Str} {r : Addr} {D c : Nat} {H : Hp} {F : Addr → Prop} {ro ga : Addr} {L G : List Str} {y8 y9 y10 y11 y12 y13 y14 : Option V} {De : Ends}
    (s : S11 K R a ns h zs r D H F ro ga L G L G) (ok : ∀ z ∈ L ++ G, PyData.strOk z = true)
    (k : ∀ H', S11 K R a ns h zs r D H' F ro ga L G L G → De.nx (Sl a p h D r ro ga c y8 y9 y10 y11 y12 y13 y14) H') :
    t_shown R De (Sl a p h D r ro ga c y8 y9 y10 y11 y12 y13 y14) H := by
  have okL : (L.map V.str).all plain = true := str_plain fun z hz => ok z (List.mem_append_left _ hz)
  have okG : (G.map V.str).all plain = true := str_plain fun z hz => ok z (List.mem_append_right _ hz)
  refine ⟨_, rfl, ga, _, rfl, .inl (sq_of s.hg), _, _, rfl, rfl, _, rfl, iteC (fun _ => ?_) (fun _ => k H s)⟩
  refine ⟨_, rfl, ?_⟩
  refine meth_of (m := "left") (by simp) s.ring ?_
  show sLeftM R [.ref r] H _ E0
  refine left_go s.ring fun x H1 nx e1 hx => ?_
  refine ⟨_, rfl, ?_⟩
  refine same_go (sq_of hx) (sq_of (e1 _ _ s.hr)) okL ⟨_, rfl, iteC (fun c => by cases c) (fun _ => ?_)⟩
  have s1 := s.ex e1
  refine ⟨_, rfl, ?_⟩
  refine meth_of (m := "gone") (by simp) s1.ring ?_
  show sGoneM R [.ref r] H1 _ E0
  refine gone_go s1.ring fun y H2 ny e2 hy => ?_
  refine ⟨_, rfl, ?_⟩
  exact same_go (sq_of hy) (sq_of (e2 _ _ s1.hg)) okG ⟨_, rfl, iteC (fun c => by cases c) (fun _ => k H2 (s1.ex e2))⟩
def t_beside (R : Rep K) (C : Cs) : TS :=
  (tIfS (tAnd (tTest (tOp rEq (tVar 9) (tC (.int 3)))) (tAnd (tTest (tOp (rEqF K true) (tVar 5) (tLst tNil))) (tTest (tOp oLt (tCB (rLenL K) (tCons (tVar 5) tNil)) (tC (.int 40))))))
  (tSeq (tAsg (tMake R.C (sInit R C.ring C.step C.place) [.int 0] E0 (tCons (tVar 5) (tCons (tVar 3) tNil))) (gName 14))
  (tIfS (tOr (tTest (tOp rNe (tMeth R.C "last" (sLastM R C.hand) [] E0 (tVar 14) tNil) (tMeth R.C "last" (sLastM R C.hand) [] E0 (tVar 4) tNil))) (tTest (tOp (rEqF K true) (tMeth R.C "left" (sLeftM R) [] E0 (tVar 14) tNil) (tMeth R.C "left" (sLeftM R) [] E0 (tVar 4) tNil))))
  (tRet (tC (.bl false)))
  tNext))
  tNext)
theorem beside_go {R : Rep K} {C : Cs} {a p h : Addr} {ns : List Int} {zs : List Str} {r : Addr} {D c : Nat} {w : Int} {H : Hp} {F : Addr → Prop} {ro ga : Addr} {L G : List Str} {y8 y10 y11 y12 y13 y14 : Option V} {De : Ends} (d1 : 1 ≤ D) (d2 : (D : Int) ≤ big)
    (s : S11 K R a ns h zs r D H F ro ga L G L G) (ok : ∀ z ∈ L ++ G, PyData.strOk z = true) (nd : (L ++ G).Nodup)
    (k : ∀ y14 H', S11 K R a ns h zs r D H' F ro ga L G L G → De.nx (Sl a p h D r ro ga c y8 (some (.int w)) y10 y11 y12 y13 y14) H') :
    t_beside R C De (Sl a p h D r ro ga c y8 (some (.int w)) y10 y11 y12 y13 y14) H := by
  have ok1 : ∀ z ∈ L, PyData.strOk z = true := fun z hz => ok z (List.mem_append_left _ hz)
  have okL : (L.map V.str).all plain = true := str_plain ok1
  refine ⟨_, rfl, rfl, _, rfl, iteC (fun _ => ?_) (fun _ => k _ H s)⟩
  refine ⟨_, rfl, Nat.zero_le _, fun x nx => ?_⟩
  have e1 := Evl.Ex.new (o := .lst []) nx
  have s1 := s.ex e1
  refine empty_go (sq_of s1.hr) (sq_of upd_same) okL ⟨_, rfl, iteC (fun c1 => ?_) (fun _ => k _ _ s1)⟩
  have hL0 : 1 ≤ L.length := by
    cases L with
    | nil => simp at c1
    | cons z t => simp
  refine ⟨_, rfl, ro, _, rfl, .inl (sq_of s1.hr), _, _, rfl, rfl, _, rfl, iteC (fun c2 => ?_) (fun _ => k _ _ s1)⟩
  have hL40 : L.length < 40 := by
    have := of_decide_eq_true c2
    rw [List.length_map] at this; omega
  generalize upd H x (.lst []) = H1 at s1
  -- a ring of those that are left, made anew
  refine ⟨_, rfl, _, rfl, ?_⟩
  intro b dx nb ndx ne
  refine make_go (E := E0) (b := 0) s1.hr hL0 (by omega) (List.nodup_append.mp nd).1 ok1 d1 d2 (by omega) nb ndx ne fun F2 H2 q2 fr2 e2 => ?_
  rw [Jos.rot_zero] at q2
  have s2 := s1.ex e2
  obtain ⟨z, hz⟩ : ∃ z, (Jos.out (D - 1) L.length L)[L.length - 1]? = some z := ⟨_, List.getElem?_eq_getElem (by rw [Jos.out_len _ _ _ rfl]; omega)⟩
  refine ⟨_, rfl, ?_⟩
  refine meth_of (m := "last") (by simp) q2 ?_
  show sLastM R C.hand [.ref b] H2 _ E0
  refine last_go q2 hz fun H3 e3 => ?_
  have q3 := Rep.ex q2 e3
  have s3 := s2.ex e3
  refine ⟨_, rfl, ?_⟩
  refine meth_of (m := "last") (by simp) s3.ring ?_
  show sLastM R C.hand [.ref r] H3 _ E0
  refine last_go s3.ring hz fun H4 e4 => ?_
  have q4 := Rep.ex q3 e4
  have s4 := s3.ex e4
  refine ⟨rfl, _, rfl, iteC (fun c => (dec_self c).elim) (fun _ => ?_)⟩
  refine ⟨_, rfl, ?_⟩
  refine meth_of (m := "left") (by simp) q4 ?_
  show sLeftM R [.ref b] H4 _ E0
  refine left_go q4 fun u H5 nu e5 hu => ?_
  have s5 := s4.ex e5
  refine ⟨_, rfl, ?_⟩
  refine meth_of (m := "left") (by simp) s5.ring ?_
  show sLeftM R [.ref r] H5 _ E0
  refine left_go s5.ring fun v H6 nv e6 hv => ?_
  exact same_go (sq_of (e6 _ _ hu)) (sq_of hv) okL ⟨_, rfl, iteC (fun c => by cases c) (fun _ => k _ _ (s5.ex e6))⟩
end K11
end Cd

set_option Elab.async false
set_option linter.all false
set_option maxRecDepth 100000
set_option maxHeartbeats 4000000
namespace Jos
/-- by the numbers of a ring of so many -/
theorem out_num {α : Type} {d c p : Nat} {l : List α} {z : α} (hd : 0 < d) (h : (order d l.length 0)[c]? = some p) (hp : l[p]? = some z) : (out (d - 1) l.length l)[c]? = some z := by
  have e : l = (List.range l.length).map (fun i => l.getD i z) := by
    apply List.ext_getElem
    · simp
    · intro i h1 h2
      simp [List.getD, h1]
  have h2 : out (d - 1) l.length l = (out (d - 1) l.length (List.range l.length)).map (fun i => l.getD i z) := by
    rw [← out_map, ← e]
  have h3 : order d l.length 0 = out (d - 1) l.length (List.range l.length) := by rw [order, ring, rot_zero]
  rw [h2, List.getElem?_map, ← h3, h]
  show some (l.getD p z) = some z
  rw [List.getD, hp]
  rfl
end Jos
namespace Cd
open PySem PySem.Spec PyProof.Rows L2 Tx Kp Mx
open Evl (Ex sq_of ex_l sz_of sz_lt fresh_back)
open K04 (eWord_of)
variable {K : PySem.W.Frag}
theorem sDueM.imp {R : Rep K} {CH : Addr} {vs : List V} {H : Hp} {Q : VK} {E E' : XK} (h : sDueM R CH vs H Q E) (g : ∀ c o H', E c o H' → E' c o H') : sDueM R CH vs H Q E' := by
  unfold sDueM at *
  obtain ⟨a, z, F, l, gn, d, e, ok, hr, q1, q2⟩ := h
  exact ⟨a, z, F, l, gn, d, e, ok, hr, fun n H' x => g _ _ _ (q1 n H' x), q2⟩
theorem sLastM.imp {R : Rep K} {CH : Addr} {vs : List V} {H : Hp} {Q : VK} {E E' : XK} (h : sLastM R CH vs H Q E) (g : ∀ c o H', E c o H' → E' c o H') : sLastM R CH vs H Q E' := by
  unfold sLastM at *
  obtain ⟨a, F, l, gn, d, e, hr, q1, q2⟩ := h
  exact ⟨a, F, l, gn, d, e, hr, fun n H' x => g _ _ _ (q1 n H' x), q2⟩
theorem due_go {R : Rep K} {CH : Addr} {H : Hp} {a : Addr} {F : Addr → Prop} {l g : List Str} {d : Nat} {Q : VK} {E : XK} {z : Str} {c : Nat} (hr : R.at_ H a F l g d) (ok : PyData.strOk z = true) (nd : l.Nodup) (hc : (Jos.out (d - 1) l.length l)[c]? = some z)
    (q : ∀ H', Ex H H' → Q (.int ((c : Int) + 1)) H') : sDueM R CH [.ref a, .str z] H Q E := by
  unfold sDueM
  have p := Jos.out_perm (d - 1) l.length l rfl
  refine ⟨a, z, F, l, g, d, rfl, ok, hr, fun n => absurd (p.mem_iff.mp (List.mem_of_getElem? hc)) n, fun c' hc' => ?_⟩
  rw [Jos.nodup_get (p.nodup_iff.mpr nd) hc' hc]
  exact q
theorem due_none {R : Rep K} {C : Cs} {H : Hp} {a : Addr} {F : Addr → Prop} {l g : List Str} {d : Nat} {Q : VK} {z : Str} (hr : R.at_ H a F l g d) (ok : PyData.strOk z = true) (n : z ∉ l)
    (q : ∀ H', Ex H H' → Q (.str "hand") H') : sDueM R C.hand [.ref a, .str z] H Q (eWord C Q) := by
  unfold sDueM
  refine ⟨a, z, F, l, g, d, rfl, ok, hr, fun _ H' e => eWord_of .hand fun H'' e2 => q H'' (e.trans e2), fun c hc => ?_⟩
  exact absurd ((Jos.out_perm (d - 1) l.length l rfl).mem_iff.mp (List.mem_of_getElem? hc)) n
namespace K10
def t_due (R : Rep K) (C : Cs) : TS :=
(tSeq (tTryK K C.err 2 3 (fun W => (tRet (tMethX R.C "due" (sDueM R C.hand) [] (WE W) (tVar 0) (tCons (tVar 1) tNil)))))
  (tRet (tCall (sErr K C) [] E0 (tCons (tVar 3) tNil))))
@[irreducible] def sDue10 (R : Rep K) (C : Cs) : Sp := fun vs H Q _ => ∃ a z F l g d, vs = [.ref a, .str z] ∧ R.at_ H a F l g d ∧ sDueM R C.hand [.ref a, .str z] H Q (eWord C Q)
theorem pure_due {R : Rep K} {C : Cs} (X : ErrF K C) {vs : List V} {H : Hp} {Q : VK} {E : XK} {nx : L2.St → Hp → Prop} (h : sDue10 R C vs H Q E) : t_due R C { nx := nx, rt := Q } (start ["_law_ring", "_law_hand", "_law_e", "_law_error_here"] vs) H := by
  unfold sDue10 at h
  obtain ⟨a, z, F, l, g, d, rfl, hr, hs⟩ := h
  refine ⟨_, rfl, ?_⟩
  refine meth_of (m := "due") (by simp) hr ?_
  refine ⟨_, rfl, ?_⟩
  show sDueM R C.hand [.ref a, .str z] H _ _
  refine hs.imp fun cls dd H' e => ?_
  obtain ⟨ed, k, ec, qq⟩ := e
  subst ed ec
  refine ⟨rfl, X.caught k, fun b nb => ?_⟩
  exact ⟨_, rfl, b, k, rfl, upd_same, fun H'' ex => qq H'' ((Evl.Ex.new nb).trans ex)⟩
def t_last (R : Rep K) (C : Cs) : TS :=
(tSeq (tTryK K C.err 1 2 (fun W => (tRet (tMethX R.C "last" (sLastM R C.hand) [] (WE W) (tVar 0) tNil))))
  (tRet (tTup (tCons (tCall (sErr K C) [] E0 (tCons (tVar 2) tNil)) tNil))))
@[irreducible] def sLast10 (R : Rep K) (C : Cs) : Sp := fun vs H Q _ => ∃ a F l g d, vs = [.ref a] ∧ R.at_ H a F l g d ∧ (l = [] → ∀ T H1, Ex H H1 → H1 T = none → Q (.ref T) (upd H1 T (.tup [.str "hand"]))) ∧
  ∀ z, (Jos.out (d - 1) l.length l)[l.length - 1]? = some z → ∀ H', Ex H H' → Q (.str z) H'
theorem pure_last {R : Rep K} {C : Cs} (X : ErrF K C) {vs : List V} {H : Hp} {Q : VK} {E : XK} {nx : L2.St → Hp → Prop} (h : sLast10 R C vs H Q E) : t_last R C { nx := nx, rt := Q } (start ["_law_ring", "_law_e", "_law_error_here"] vs) H := by
  unfold sLast10 at h
  obtain ⟨a, F, l, g, d, rfl, hr, q1, q2⟩ := h
  refine ⟨_, rfl, ?_⟩
  refine meth_of (m := "last") (by simp) hr ?_
  show sLastM R C.hand [.ref a] H _ _
  unfold sLastM
  refine ⟨a, F, l, g, d, rfl, hr, fun e H' x => ?_, q2⟩
  refine ⟨rfl, X.caught .hand, fun b nb => ?_⟩
  refine ⟨_, rfl, b, .hand, rfl, upd_same, fun H'' ex => ⟨(by decide : 1 ≤ sizeLine), fun T nT => ?_⟩⟩
  exact q1 e T H'' (x.trans ((Evl.Ex.new nb).trans ex)) nT
end K10
end Cd

set_option Elab.async false
set_option linter.all false
set_option maxRecDepth 100000
set_option maxHeartbeats 4000000
namespace Cd
open PySem PySem.Spec PyProof.Rows L2 Tx Kp Mx
open Evl (Ex sq_of ex_l sz_of sz_lt fresh_back)
open K11 (same_go empty_go)
variable {K : PySem.W.Frag}
theorem eqD_str {z : Str} {H : Hp} {Q : VK} (ok : PyData.strOk z = true) (k : Q (.bl true) H) : rEqD K (.str z) (.str z) H Q := by
  have sh : SeqAt.shaped (.str z) = true := by
    unfold SeqAt.shaped
    simp only [PyData.canLay0, PyData.depth, ok]
    rfl
  refine ⟨_, _, .str z, .str z, sh, sh, ?_⟩
  have e : PyData.eqv (.str z) (.str z) = true := by simp [PyData.eqv]
  rw [e]; exact k
theorem eqD_tup {z : Str} {p q : Addr} {H : Hp} {Q : VK} (ok : PyData.strOk z = true) (hp : H p = some (.tup [.str z])) (hq : H q = some (.tup [.str z])) (k : Q (.bl true) H) : rEqD K (.ref p) (.ref q) H Q := by
  have sh : SeqAt.shaped (.tuple [.str z]) = true := by
    unfold SeqAt.shaped
    simp only [PyData.canLay0, PyData.canLayAll0, PyData.depth, PyData.depthAll, ok]
    rfl
  have d : ∀ {p : Addr}, H p = some (.tup [.str z]) → Dp K H (.ref p) (.tuple [.str z]) := fun h => .tup (.inl (.inl h)) (.cons (.str z) .nil)
  refine ⟨_, _, d hp, d hq, sh, sh, ?_⟩
  have e : PyData.eqv (.tuple [.str z]) (.tuple [.str z]) = true := by simp [PyData.eqv, PyData.eqvAll]
  rw [e]; exact k
namespace K10
def t_each (R : Rep K) (C : Cs) : TS :=
  (tSeq (tAsg (tCall (sDue10 R C) [] E0 (tCons (tVar 0) (tCons (tVar 6) tNil))) (gName 7))
  (tSeq (tIfS (tOr (tNot (tB (tCall sWhole [] E0 (tCons (tVar 7) tNil)))) (tTest (tOp rNe (tVar 7) (tOp oAdd (tVar 5) (tC (.int 1))))))
  (tRet (tC (.bl false)))
  tNext)
  (tIfS (tAnd (tTest (tOp oLe (tVar 3) (tC (.int 100)))) (tTest (tOp rNe (tVar 7) (tCall (sCount K C.many C.step C.place) [] E0 (tCons (tCB (rLenL K) (tCons (tVar 1) tNil)) (tCons (tVar 3) (tCons (tC (.int 0)) (tCons (tBM K "list" (rIndex K) (tVar 1) (tCons (tVar 6) tNil)) tNil))))))))
  (tRet (tC (.bl false)))
  tNext)))
/-- what is seen while it is asked -/
structure See (K : PySem.W.Frag) (R : Rep K) (r ro ga o : Addr) (D : Nat) (F : Addr → Prop) (L G : List Str) (H : Hp) : Prop where
  ring : R.at_ H r F L G D
  hr : H ro = some (.lst (L.map V.str))
  hg : H ga = some (.lst (G.map V.str))
  ho : H o = some (.lst ((Jos.out (D - 1) L.length L).map V.str))
theorem See.ex {R : Rep K} {r ro ga o : Addr} {D : Nat} {F : Addr → Prop} {L G : List Str} {H H' : Hp} (s : See K R r ro ga o D F L G H) (e : Ex H H') : See K R r ro ga o D F L G H' := ⟨Rep.ex s.ring e, e _ _ s.hr, e _ _ s.hg, e _ _ s.ho⟩
theorem each_go {R : Rep K} {C : Cs} {r ro ga o : Addr} {D : Nat} {F : Addr → Prop} {L G : List Str} {H : Hp} {z : Str} {i : Nat} {y7 : Option V} {De : Ends} (d1 : 1 ≤ D) (s : See K R r ro ga o D F L G H) (nd : L.Nodup) (ok : ∀ z ∈ L, PyData.strOk z = true) (hL : L.length ≤ 400)
    (hz : (Jos.out (D - 1) L.length L)[i]? = some z) (k : ∀ y7 H', Ex H H' → See K R r ro ga o D F L G H' → De.nx [some (.ref r), some (.ref ro), some (.ref ga), some (.int (D : Int)), some (.ref o), some (.int (i : Int)), some (.str z), y7] H') :
    t_each R C De [some (.ref r), some (.ref ro), some (.ref ga), some (.int (D : Int)), some (.ref o), some (.int (i : Int)), some (.str z), y7] H := by
  have pm := Jos.out_perm (D - 1) L.length L rfl
  have hzL : z ∈ L := pm.mem_iff.mp (List.mem_of_getElem? hz)
  refine ⟨_, rfl, _, rfl, ?_⟩
  show sDue10 R C [.ref r, .str z] H _ E0
  unfold sDue10
  refine ⟨r, z, F, L, G, D, rfl, s.ring, due_go s.ring (ok z hzL) nd hz fun H1 e1 => ?_⟩
  have s1 := s.ex e1
  refine ⟨_, rfl, _, rfl, true, rfl, iteF ?_⟩
  refine ⟨_, rfl, _, rfl, _, _, rfl, rfl, rfl, _, rfl, iteC (fun c => (dec_self c).elim) (fun _ => ?_)⟩
  refine ⟨_, rfl, _, _, rfl, rfl, _, rfl, iteC (fun c => ?_) (fun _ => k _ _ e1 s1)⟩
  have d100 : D ≤ 100 := by have := of_decide_eq_true c; omega
  -- by the numbers of a ring of so many
  have hi : i < L.length := by
    have := (List.getElem?_eq_some_iff.mp hz).1
    rw [Jos.out_len _ _ _ rfl] at this; exact this
  obtain ⟨p, hp⟩ : ∃ p, (Jos.order D L.length 0)[i]? = some p := ⟨_, List.getElem?_eq_getElem (by rw [Jos.order_len]; exact hi)⟩
  have hpL : p < L.length := Jos.order_lt (List.mem_of_getElem? hp)
  have hLp : L[p]? = some z := by
    have h1 := Jos.out_num (l := L) d1 hp (List.getElem?_eq_getElem hpL)
    rw [hz] at h1
    rw [List.getElem?_eq_getElem hpL, Option.some.inj h1]
  refine ⟨_, rfl, _, rfl, ro, _, rfl, .inl (sq_of s1.hr), _, rfl, _, rfl, ty_l s1.hr, _, rfl, ro, _, _, p, .str z, rfl, rfl, sq_of s1.hr, rfl, flat_strs L, ?_, ?_, ?_, ?_⟩
  · rw [List.getElem?_map, hLp]; rfl
  · simp [eqV]
  · intro m z' hm hz'
    rw [List.getElem?_map] at hz'
    cases e : L[m]? with
    | none => rw [e] at hz'; cases hz'
    | some y =>
      rw [e] at hz'
      cases hz'
      have ne : y ≠ z := fun q => by
        subst q
        have := Jos.nodup_get nd e hLp
        omega
      show (y == z) = false
      exact beq_false_of_ne ne
  · rw [List.length_map]
    have g := @count_right K C.many C.step C.place L.length D 0 p i H1
    refine g (by unfold big; omega) d1 d100 (by omega) hp ?_
    exact ⟨rfl, _, rfl, iteC (fun c => (dec_self c).elim) (fun _ => k _ _ e1 s1)⟩
end K10
end Cd

set_option Elab.async false
set_option linter.all false
set_option maxRecDepth 100000
set_option maxHeartbeats 4000000
namespace Cd
open PySem PySem.Spec PyProof.Rows L2 Tx Kp Mx
open Evl (Ex sq_of ex_l sz_of sz_lt fresh_back)
open K11 (same_go empty_go)
variable {K : PySem.W.Frag}
namespace K10
def t_none (R : Rep K) (C : Cs) : TS :=
  (tIfS (tAnd (tTest (tOp (rIn K true) (tVar 6) (tVar 1))) (tTest (tOp rNe (tCall (sDue10 R C) [] E0 (tCons (tVar 0) (tCons (tVar 6) tNil))) (tC (.str "hand")))))
  (tRet (tC (.bl false)))
  tNext)
theorem none_go {R : Rep K} {C : Cs} {r ro ga o : Addr} {D : Nat} {F : Addr → Prop} {L G : List Str} {H : Hp} {z : Str} {y5 y7 : Option V} {De : Ends} (s : See K R r ro ga o D F L G H) (okz : PyData.strOk z = true)
    (k : ∀ H', Ex H H' → De.nx [some (.ref r), some (.ref ro), some (.ref ga), some (.int (D : Int)), some (.ref o), y5, some (.str z), y7] H') :
    t_none R C De [some (.ref r), some (.ref ro), some (.ref ga), some (.int (D : Int)), some (.ref o), y5, some (.str z), y7] H := by
  refine ⟨_, rfl, _, rfl, ro, _, rfl, .inl (sq_of s.hr), rfl, flat_strs L, ?_⟩
  rw [inV_str]
  refine ⟨_, rfl, iteC (fun c => ?_) (fun _ => k H (Evl.Ex.refl _))⟩
  have nz : z ∉ L := by
    intro m
    rw [decide_eq_true m] at c
    cases c
  refine ⟨_, rfl, _, rfl, ?_⟩
  show sDue10 R C [.ref r, .str z] H _ E0
  unfold sDue10
  refine ⟨r, z, F, L, G, D, rfl, s.ring, due_none s.ring okz nz fun H1 e1 => ?_⟩
  exact ⟨rfl, _, rfl, iteC (fun c => (dec_self c).elim) (fun _ => k H1 e1)⟩
def t_tail (R : Rep K) (C : Cs) : TS :=
  (tSeq (tIfS (tTest (tOp (rEqF K false) (tVar 1) (tLst tNil)))
  (tRet (tOp (rEqD K) (tCall (sLast10 R C) [] E0 (tCons (tVar 0) tNil)) (tTup (tCons (tC (.str "hand")) tNil))))
  tNext)
  (tSeq (tIfS (tAnd (tTest (tOp oLe (tVar 3) (tC (.int 100)))) (tTest (tOp rNe (tOp (rIxL K) (tVar 4) (tUn oNeg (tC (.int 1)))) (tOp (rIxL K) (tVar 1) (tCall (sLast K C.many C.step C.place) [.int 0] E0 (tCons (tCB (rLenL K) (tCons (tVar 1) tNil)) (tCons (tVar 3) tNil)))))))
  (tRet (tC (.bl false)))
  tNext)
  (tRet (tAndV (tOp (rEqD K) (tCall (sLast10 R C) [] E0 (tCons (tVar 0) tNil)) (tOp (rIxL K) (tVar 4) (tUn oNeg (tC (.int 1))))) (tOp (rEqF K false) (tMeth R.C "left" (sLeftM R) [] E0 (tVar 0) tNil) (tVar 1))))))
theorem tail_go {R : Rep K} {C : Cs} {r ro ga o : Addr} {D : Nat} {F : Addr → Prop} {L G : List Str} {H : Hp} {y5 y6 y7 : Option V} {De : Ends} (d1 : 1 ≤ D) (s : See K R r ro ga o D F L G H) (ok : ∀ z ∈ L, PyData.strOk z = true) (hL : L.length ≤ 400)
    (k : ∀ H', Ex H H' → De.rt (.bl true) H') :
    t_tail R C De [some (.ref r), some (.ref ro), some (.ref ga), some (.int (D : Int)), some (.ref o), y5, y6, y7] H := by
  have okL : (L.map V.str).all plain = true := str_plain ok
  have okh : PyData.strOk (Str.ofString "hand") = true := by decide +kernel
  refine ⟨_, rfl, Nat.zero_le _, fun x nx => ?_⟩
  have e1 := Evl.Ex.new (o := .lst []) nx
  have s1 := s.ex e1
  refine empty_go (sq_of s1.hr) (sq_of upd_same) okL ⟨_, rfl, iteC (fun c1 => ?_) (fun c1 => ?_)⟩
  · -- none is left
    have hLe : L = [] := by
      cases L with
      | nil => rfl
      | cons z t => simp at c1
    subst hLe
    generalize upd H x (.lst []) = H1 at s1 e1
    refine ⟨_, rfl, ?_⟩
    show sLast10 R C [.ref r] H1 _ E0
    unfold sLast10
    refine ⟨r, F, [], G, D, rfl, s1.ring, fun _ T H2 e2 nT => ?_, fun z hz => by simp [Jos.out] at hz⟩
    have e3 := Evl.Ex.new (o := .tup [.str "hand"]) nT
    refine ⟨(by decide : 1 ≤ sizeLine), fun U nU => ?_⟩
    have e4 := Evl.Ex.new (o := .tup [.str "hand"]) nU
    exact eqD_tup okh (e4 _ _ upd_same) upd_same (k _ (e1.trans (e2.trans (e3.trans e4))))
  · have hL0 : 1 ≤ L.length := by
      cases L with
      | nil => simp at c1
      | cons z t => simp
    generalize upd H x (.lst []) = H1 at s1 e1
    obtain ⟨z, hz⟩ : ∃ z, (Jos.out (D - 1) L.length L)[L.length - 1]? = some z := ⟨_, List.getElem?_eq_getElem (by rw [Jos.out_len _ _ _ rfl]; omega)⟩
    have hzL : z ∈ L := (Jos.out_perm (D - 1) L.length L rfl).mem_iff.mp (List.mem_of_getElem? hz)
    have hat : atI ((Jos.out (D - 1) L.length L).map V.str) (-1) = some (.str z) := last_at (n := L.length) (by rw [List.getElem?_map, hz]; rfl) (by rw [List.length_map, Jos.out_len _ _ _ rfl]) (by omega)
    have fin : (tRet (tAndV (tOp (rEqD K) (tCall (sLast10 R C) [] E0 (tCons (tVar 0) tNil)) (tOp (rIxL K) (tVar 4) (tUn oNeg (tC (.int 1))))) (tOp (rEqF K false) (tMeth R.C "left" (sLeftM R) [] E0 (tVar 0) tNil) (tVar 1)))) De [some (.ref r), some (.ref ro), some (.ref ga), some (.int (D : Int)), some (.ref o), y5, y6, y7] H1 := by
      refine ⟨_, rfl, ?_⟩
      show sLast10 R C [.ref r] H1 _ E0
      unfold sLast10
      refine ⟨r, F, L, G, D, rfl, s1.ring, fun e => by rw [e] at hL0; simp at hL0, fun z' hz' H2 e2 => ?_⟩
      rw [hz] at hz'
      cases hz'
      have s2 := s1.ex e2
      refine ⟨_, rfl, _, rfl, o, _, -1, _, rfl, rfl, sq_of s2.ho, hat, ?_⟩
      refine eqD_str (ok z hzL) ⟨_, rfl, iteC (fun _ => ?_) (fun c => by cases c)⟩
      refine ⟨_, rfl, ?_⟩
      refine meth_of (m := "left") (by simp) s2.ring ?_
      show sLeftM R [.ref r] H2 _ E0
      refine left_go s2.ring fun u H3 nu e3 hu => ?_
      refine ⟨_, rfl, ?_⟩
      exact same_go (sq_of hu) (sq_of (e3 _ _ s2.hr)) okL (k _ (e1.trans (e2.trans e3)))
    refine ⟨_, rfl, _, _, rfl, rfl, _, rfl, iteC (fun c => ?_) (fun _ => fin)⟩
    have d100 : D ≤ 100 := by have := of_decide_eq_true c; omega
    obtain ⟨p, hp⟩ : ∃ p, (Jos.order D L.length 0)[L.length - 1]? = some p := ⟨_, List.getElem?_eq_getElem (by rw [Jos.order_len]; omega)⟩
    have hpL : p < L.length := Jos.order_lt (List.mem_of_getElem? hp)
    have hLp : L[p]? = some z := by
      have h1 := Jos.out_num (l := L) d1 hp (List.getElem?_eq_getElem hpL)
      rw [hz] at h1
      rw [List.getElem?_eq_getElem hpL, Option.some.inj h1]
    refine ⟨_, rfl, _, rfl, o, _, -1, _, rfl, rfl, sq_of s1.ho, hat, ?_⟩
    refine ⟨_, rfl, _, rfl, ro, _, rfl, .inl (sq_of s1.hr), _, rfl, ?_⟩
    rw [List.length_map]
    have g := @last_right K C.many C.step C.place L.length D 0 p H1
    refine g (by unfold big; omega) d1 d100 (by omega) hp ?_
    have hat2 : atI (L.map V.str) (p : Int) = some (.str z) := by
      unfold atI ixN
      rw [if_pos (by omega), if_pos (by rw [List.length_map]; omega)]
      simp [hLp]
    exact ⟨ro, _, _, .str z, rfl, rfl, sq_of s1.hr, hat2, rfl, _, rfl, iteC (fun c => (dec_self c).elim) (fun _ => fin)⟩
def t_right (R : Rep K) (C : Cs) : TS :=
(tSeq (tAsg (tLst tNil) (gName 4))
  (tSeq (tIfS (tTest (tOp (rEqF K true) (tVar 1) (tLst tNil)))
  (tAsg (tCall (sOut K) [] E0 (tCons (tVar 1) (tCons (tVar 3) tNil))) (gName 4))
  tNext)
  (tSeq (tFor (iEnum K (tCons (tVar 4) tNil)) (gTup K 2 (gCons (gName 5) (gCons (gName 6) gNil)))
  (t_each R C))
  (tSeq (tFor (iList K (tOp rCat (tVar 2) (tLst (tCons (tC (.str "nobody at all")) (tCons (tC (.str "")) tNil))))) (gName 6)
  (t_none R C))
  (t_tail R C)))))
@[irreducible] def sRight (R : Rep K) (C : Cs) : Sp := fun vs H Q _ => ∃ r ro ga F L G, ∃ D : Nat, vs = [.ref r, .ref ro, .ref ga, .int (D : Int)] ∧ R.at_ H r F L G D ∧ H ro = some (.lst (L.map V.str)) ∧ H ga = some (.lst (G.map V.str)) ∧
  1 ≤ D ∧ L.length + G.length ≤ 400 ∧ L.Nodup ∧ (∀ z ∈ L ++ G, PyData.strOk z = true) ∧ ∀ H', Ex H H' → Q (.bl true) H'
theorem pure_right {R : Rep K} {C : Cs} {vs : List V} {H : Hp} {Q : VK} {E : XK} {nx : L2.St → Hp → Prop} (h : sRight R C vs H Q E) : t_right R C { nx := nx, rt := Q } (start ["_law_ring", "_law_left", "_law_gone", "_law_step_here", "_law_order", "_law_at", "_law_hand", "_law_found"] vs) H := by
  unfold sRight at h
  obtain ⟨r, ro, ga, F, L, G, D, rfl, hr, hL, hG, d1, hz, nd, ok, k⟩ := h
  have ok1 : ∀ z ∈ L, PyData.strOk z = true := fun z h => ok z (List.mem_append_left _ h)
  have okL : (L.map V.str).all plain = true := str_plain ok1
  -- behind the order
  have rest : ∀ o y H', Ex H H' → See K R r ro ga o D F L G H' → (tSeq (tFor (iEnum K (tCons (tVar 4) tNil)) (gTup K 2 (gCons (gName 5) (gCons (gName 6) gNil))) (t_each R C))
      (tSeq (tFor (iList K (tOp rCat (tVar 2) (tLst (tCons (tC (.str "nobody at all")) (tCons (tC (.str "")) tNil))))) (gName 6) (t_none R C)) (t_tail R C))) { nx := nx, rt := Q } [some (.ref r), some (.ref ro), some (.ref ga), some (.int (D : Int)), some (.ref o), none, none, y] H' := by
    intro o y H1 e1 s1
    refine ⟨_, rfl, o, _, rfl, sq_of s1.ho, for_enum (xs := (Jos.out (D - 1) L.length L).map V.str) (fun i σ H' => ∃ y5 y6 y7, σ = [some (.ref r), some (.ref ro), some (.ref ga), some (.int (D : Int)), some (.ref o), y5, y6, y7] ∧ See K R r ro ga o D F L G H' ∧ Ex H H')
      ⟨_, _, _, rfl, s1, e1⟩ (fun i σ H' _ hP => ?_) ?_ ?_⟩
    · obtain ⟨_, _, _, _, s, _⟩ := hP
      exact sq_of s.ho
    · intro i x σ H' T hx hP nT
      obtain ⟨y5, y6, y7, rfl, s, e⟩ := hP
      obtain ⟨z, hz, rfl⟩ : ∃ z, (Jos.out (D - 1) L.length L)[i]? = some z ∧ x = .str z := by
        rw [List.getElem?_map] at hx
        cases q : (Jos.out (D - 1) L.length L)[i]? with
        | none => rw [q] at hx; cases hx
        | some z => rw [q] at hx; exact ⟨z, rfl, (Option.some.inj hx).symm⟩
      have eT : Ex H' (upd H' T (.tup [.int (i : Nat), .str z])) := Evl.Ex.new nT
      refine ⟨T, _, rfl, .inl (.inl upd_same), rfl, _, _, rfl, _, _, rfl, rfl, ?_⟩
      exact each_go d1 (s.ex eT) nd ok1 (by omega) hz fun y7 H2 e2 s2 => ⟨_, _, _, rfl, s2, e.trans (eT.trans e2)⟩
    · intro σ H' hP
      obtain ⟨y5, y6, y7, rfl, s, e⟩ := hP
      refine ⟨_, rfl, (by decide : 2 ≤ sizeLine), fun x nx => ?_⟩
      have e2 := Evl.Ex.new (o := .lst [.str "nobody at all", .str ""]) nx
      refine ⟨ga, x, _, _, rfl, rfl, e2 _ _ s.hg, upd_same, ?_, fun w nw => ?_⟩
      · rw [List.length_map]
        show G.length + 2 ≤ sizeLine
        exact sz_of (by omega)
      have e3 := Evl.Ex.new (o := .lst (G.map V.str ++ [.str "nobody at all", .str ""])) nw
      have s3 := (s.ex e2).ex e3
      have hxs : G.map V.str ++ [V.str "nobody at all", .str ""] = (G ++ [Str.ofString "nobody at all", Str.ofString ""]).map V.str := by rw [List.map_append]; rfl
      have okx : ∀ z ∈ G ++ [Str.ofString "nobody at all", Str.ofString ""], PyData.strOk z = true := by
        intro z hz
        rcases List.mem_append.mp hz with hz | hz
        · exact ok z (List.mem_append_right _ hz)
        · simp only [List.mem_cons, List.not_mem_nil, or_false] at hz
          rcases hz with rfl | rfl <;> decide +kernel
      rw [hxs] at e3 s3 ⊢
      refine ⟨w, rfl, ⟨_, sq_of upd_same⟩, for_list (xs := (G ++ [Str.ofString "nobody at all", Str.ofString ""]).map V.str) (fun i σ H' => ∃ y5 y6 y7, σ = [some (.ref r), some (.ref ro), some (.ref ga), some (.int (D : Int)), some (.ref o), y5, y6, y7] ∧ See K R r ro ga o D F L G H' ∧ Ex H H' ∧ H' w = some (.lst ((G ++ [Str.ofString "nobody at all", Str.ofString ""]).map V.str)))
        ⟨_, _, _, rfl, s3, e.trans (e2.trans e3), upd_same⟩ ?_ ?_ ?_⟩
      · intro i σ H' _ hP
        obtain ⟨_, _, _, _, _, _, h⟩ := hP
        exact sq_of h
      · intro i x σ H' hx hP
        obtain ⟨y5, y6, y7, rfl, s, e, hw⟩ := hP
        obtain ⟨z, hz, rfl⟩ := List.mem_map.mp (List.mem_of_getElem? hx)
        exact none_go s (okx z hz) fun H2 e4 => ⟨_, _, _, rfl, s.ex e4, e.trans e4, e4 _ _ hw⟩
      · intro σ H' hP
        obtain ⟨y5, y6, y7, rfl, s, e, hw⟩ := hP
        exact tail_go d1 s ok1 (by omega) fun H2 e4 => k _ (e.trans e4)
  refine ⟨Nat.zero_le _, fun o no => ?_⟩
  have e1 := Evl.Ex.new (o := .lst []) no
  refine ⟨_, rfl, Nat.zero_le _, fun x nx => ?_⟩
  have e2 := Evl.Ex.new (o := .lst []) nx
  have e12 := e1.trans e2
  refine empty_go (sq_of (e12 _ _ hL)) (sq_of upd_same) okL ⟨_, rfl, iteC (fun c1 => ?_) (fun c1 => ?_)⟩
  · refine ⟨_, rfl, _, rfl, ro, _, _, rfl, sq_of (e12 _ _ hL), ?_, okL, by omega, fun u H3 nu e3 hu => ?_⟩
    · rw [List.length_map]; omega
    rw [List.length_map, Jos.out_map, show ((D : Int) - 1).toNat = D - 1 by omega] at hu
    have e13 := e12.trans e3
    exact rest u none H3 e13 ⟨Rep.ex hr e13, e13 _ _ hL, e13 _ _ hG, hu⟩
  · have hLe : L = [] := by
      cases L with
      | nil => rfl
      | cons z t => simp at c1
    refine rest o none _ e12 ⟨Rep.ex hr e12, e12 _ _ hL, e12 _ _ hG, ?_⟩
    rw [hLe]
    exact e2 _ _ upd_same
end K10
end Cd

set_option Elab.async false
set_option linter.all false
set_option maxRecDepth 100000
set_option maxHeartbeats 4000000
namespace Cd
open PySem PySem.Spec PyProof.Rows L2 Tx Kp Mx
open Evl (Ex sq_of ex_l sz_of sz_lt fresh_back)
open K11 (same_go empty_go take_next not_ahead)
variable {K : PySem.W.Frag}
/-- those that are in, and were, with those that came -/
structure OwnN (nm : Nat → Str → Prop) (zs L G : List Str) (c : Nat) : Prop where
  len : L.length + G.length ≤ zs.length + c
  nd : (L ++ G).Nodup
  mem : ∀ z ∈ L ++ G, z ∈ zs ∨ ∃ j, j < c ∧ nm j z
section
variable {nm : Nat → Str → Prop} {zs L G L' G' : List Str} {c : Nat}
theorem OwnN.perm (o : OwnN nm zs L G c) (p : (L' ++ G').Perm (L ++ G)) : OwnN nm zs L' G' c where
  len := by have := p.length_eq; rw [List.length_append, List.length_append] at this; have := o.len; omega
  nd := p.nodup_iff.mpr o.nd
  mem z hz := o.mem z (p.mem_iff.mp hz)
theorem OwnN.mono (o : OwnN nm zs L G c) : OwnN nm zs L G (c + 1) :=
  ⟨by have := o.len; omega, o.nd, fun z hz => (o.mem z hz).imp id fun ⟨j, hj, e⟩ => ⟨j, by omega, e⟩⟩
theorem OwnN.counts (s k : Nat) (o : OwnN nm zs L G c) (hk : k ≤ L.length) : OwnN nm zs (Jos.aft s k L) (G ++ (Jos.out s L.length L).take k) c := by
  refine o.perm ?_
  have p := Jos.aft_perm s k L hk
  refine List.Perm.trans (l₂ := Jos.aft s k L ++ ((Jos.out s L.length L).take k ++ G)) (List.Perm.append_left _ List.perm_append_comm) ?_
  rw [← List.append_assoc]
  exact List.Perm.append_right _ (List.perm_append_comm.trans p)
theorem OwnN.new {z : Str} (o : OwnN nm zs L G c) (ne : ∀ z ∈ zs, noE z) (h1 : nm c z) (he : ∀ j z, nm j z → ¬ noE z) (hi : ∀ i j z, i ≤ c → j ≤ c → nm i z → nm j z → i = j) : z ∉ L ++ G := fun m => by
  rcases o.mem _ m with h | ⟨j, hj, e⟩
  · exact he _ _ h1 (ne _ h)
  · have := hi j c z (by omega) (Nat.le_refl _) e h1
    omega
theorem OwnN.come {z : Str} {i : Nat} (o : OwnN nm zs L G c) (new : z ∉ L ++ G) (h1 : nm c z) (hil : i ≤ L.length) : OwnN nm zs (L.insertIdx i z) G (c + 1) := by
  have p : (L.insertIdx i z ++ G).Perm (z :: (L ++ G)) := List.Perm.append_right G (K11.perm_ins z i L hil)
  refine ⟨?_, p.nodup_iff.mpr (List.nodup_cons.mpr ⟨new, o.nd⟩), fun y hy => ?_⟩
  · have := p.length_eq
    rw [List.length_append, List.length_cons, List.length_append] at this
    have := o.len
    omega
  · rcases List.mem_cons.mp (p.mem_iff.mp hy) with e | e
    · exact .inr ⟨c, by omega, e ▸ h1⟩
    · rcases o.mem y e with h | ⟨j, hj, e⟩
      · exact .inl h
      · exact .inr ⟨j, by omega, e⟩
theorem OwnN.ok (o : OwnN nm zs L G c) (ok : ∀ z ∈ zs, PyData.strOk z = true) (okn : ∀ j z, j < c → nm j z → PyData.strOk z = true) : ∀ z ∈ L ++ G, PyData.strOk z = true := fun z hz => by
  rcases o.mem z hz with h | ⟨j, hj, e⟩
  · exact ok z h
  · exact okn j z hj e
end
/-- the ring, the chance at p, the law's own row and gone -/
structure S10 (K : PySem.W.Frag) (R : Rep K) (p r : Addr) (D : Nat) (q9 : Addr) (o9 : HO) (H : Hp) (F : Addr → Prop) (ro ga : Addr) (L G l g : List Str) : Prop where
  ring : R.at_ H r F L G D
  hr : H ro = some (.lst (l.map V.str))
  hg : H ga = some (.lst (g.map V.str))
  st : StAt H p
  fp : ¬ F p
  fr : ¬ F ro
  fg : ¬ F ga
  n1 : ro ≠ ga
  n2 : ro ≠ p
  n3 : ga ≠ p
  hq : H q9 = some o9
  fq : ¬ F q9
  n4 : q9 ≠ ro
  n5 : q9 ≠ ga
  n6 : q9 ≠ p
section
variable {R : Rep K} {p r q9 : Addr} {o9 : HO} {D : Nat} {H H' : Hp} {F F' : Addr → Prop} {ro ga : Addr} {L G L' G' l g : List Str}
theorem S10.run (s : S10 K R p r D q9 o9 H F ro ga L G l g) (e : Run p H H') : S10 K R p r D q9 o9 H' F ro ga L G l g := by
  refine ⟨R.frame s.ring fun b hb => ?_, e.keep s.n2 s.hr, e.keep s.n3 s.hg, e.2, s.fp, s.fr, s.fg, s.n1, s.n2, s.n3, e.keep s.n6 s.hq, s.fq, s.n4, s.n5, s.n6⟩
  cases q : H b with
  | none => exact absurd q (R.live s.ring hb)
  | some o => exact e.1 b o (fun z => s.fp (z ▸ hb)) q
theorem S10.ex (s : S10 K R p r D q9 o9 H F ro ga L G l g) (e : Ex H H') : S10 K R p r D q9 o9 H' F ro ga L G l g := s.run (Run.ex s.st e)
theorem S10.go (s : S10 K R p r D q9 o9 H F ro ga L G l g) (q : R.at_ H' r F' L' G' D) (c : Chg H F H' F') : S10 K R p r D q9 o9 H' F' ro ga L' G' l g := by
  have np : H p ≠ none := by
    obtain ⟨x, _, z⟩ := s.st
    rw [z]; exact fun c => by cases c
  refine ⟨q, c.keep _ _ s.hr s.fr, c.keep _ _ s.hg s.fg, ?_, c.off s.fp np, c.off s.fr (by rw [s.hr]; simp), c.off s.fg (by rw [s.hg]; simp), s.n1, s.n2, s.n3, c.keep _ _ s.hq s.fq, c.off s.fq (by rw [s.hq]; simp), s.n4, s.n5, s.n6⟩
  obtain ⟨x, h1, z⟩ := s.st
  exact ⟨x, h1, c.keep _ _ z s.fp⟩
theorem S10.row {ro' : Addr} {l' : List Str} (s : S10 K R p r D q9 o9 H F ro ga L G l g) (e : Ex H H') (n : H ro' = none) (hr : H' ro' = some (.lst (l'.map V.str))) : S10 K R p r D q9 o9 H' F ro' ga L G l' g := by
  have s2 := s.ex e
  refine ⟨s2.ring, hr, s2.hg, s2.st, s2.fp, Rep.free s.ring n, s2.fg, fun z => ?_, s.st.ne n, s2.n3, s2.hq, s2.fq, fun z => ?_, s2.n5, s2.n6⟩
  · have := s.hg; rw [← z, n] at this; cases this
  · have := s.hq; rw [z, n] at this; cases this
theorem S10.app {z : Str} (s : S10 K R p r D q9 o9 H F ro ga L G l g) : S10 K R p r D q9 o9 (upd H ga (.lst ((g ++ [z]).map V.str))) F ro ga L G l (g ++ [z]) := by
  refine ⟨Rep.mut s.ring s.fg, ?_, upd_same, ?_, s.fp, s.fr, s.fg, s.n1, s.n2, s.n3, by rw [upd_ne s.n5]; exact s.hq, s.fq, s.n4, s.n5, s.n6⟩
  · rw [upd_ne s.n1]; exact s.hr
  · obtain ⟨x, h1, z⟩ := s.st
    exact ⟨x, h1, by rw [upd_ne (Ne.symm s.n3)]; exact z⟩
theorem S10.ins {l' : List Str} (s : S10 K R p r D q9 o9 H F ro ga L G l g) : S10 K R p r D q9 o9 (upd H ro (.lst (l'.map V.str))) F ro ga L G l' g := by
  refine ⟨Rep.mut s.ring s.fr, upd_same, ?_, ?_, s.fp, s.fr, s.fg, s.n1, s.n2, s.n3, by rw [upd_ne s.n4]; exact s.hq, s.fq, s.n4, s.n5, s.n6⟩
  · rw [upd_ne (Ne.symm s.n1)]; exact s.hg
  · obtain ⟨x, h1, z⟩ := s.st
    exact ⟨x, h1, by rw [upd_ne (Ne.symm s.n2)]; exact z⟩
end
/-- one goes, in the law's own row -/
theorem turned_eq {l : List Str} {D : Nat} (d1 : 1 ≤ D) (h0 : 0 < l.length) : Jos.rot (l.map V.str) (((D : Int) - 1) % ((l.map V.str).length : Int)).toNat = (Jos.rotN (D - 1) l).map V.str := by
  rw [List.length_map, show ((D : Int) - 1) % (l.length : Int) = (((D - 1) % l.length : Nat) : Int) by rw [Int.natCast_emod]; congr 1; omega, Int.toNat_natCast, Jos.rot_map, Jos.rotN_eq _ _ h0]
theorem count_go {R : Rep K} {CH : Addr} {H : Hp} {a : Addr} {F : Addr → Prop} {l g : List Str} {d : Nat} {Q : VK} {E : XK} {z : Str} {t : List Str} (hr : R.at_ H a F l g d) (hz : Jos.rotN (d - 1) l = z :: t)
    (q : ∀ F' H', R.at_ H' a F' t (g ++ [z]) d → Chg H F H' F' → Q (.str z) H') : sCountM R CH [.ref a] H Q E := by
  unfold sCountM
  refine ⟨a, F, l, g, d, rfl, hr, fun e => ?_, fun z' t' hz' F' H' h c => ?_⟩
  · subst e
    have := Jos.rotN_len (d - 1) ([] : List Str)
    rw [hz] at this; simp at this
  · rw [hz] at hz'
    cases hz'
    exact q F' H' h c
end Cd

set_option Elab.async false
set_option linter.all false
set_option maxRecDepth 100000
set_option maxHeartbeats 4000000
namespace Cd
open PySem PySem.Spec PyProof.Rows L2 Tx Kp Mx
open Evl (Ex sq_of ex_l sz_of sz_lt fresh_back)
open K11 (same_go empty_go take_next not_ahead)
variable {K : PySem.W.Frag} {q9 : Addr} {o9 : HO}
/-- a new one: e stands within -/
def newN (k : Nat) : Str := Str.ofString "new" ++ sk k
theorem newN_e (k : Nat) : ¬ noE (newN k) := by
  unfold noE newN
  rw [app_cps, Array.toList_append, Classical.not_not]
  exact List.mem_append_left _ (by decide +kernel)
theorem newN_inj {i j : Nat} (hi : i < 402) (hj : j < 402) (h : newN i = newN j) : i = j := sk_inj hi hj (app_left h)
theorem newN_ok {k : Nat} (hk : k < 402) : PyData.strOk (newN k) = true := ok_app (by decide +kernel) (sk_facts k hk).2.2
namespace K10
abbrev nm : Nat → Str → Prop := fun j z => z = newN j
abbrev Sl (a p : Addr) (y2 : Option V) (h : Addr) (D : Nat) (y5 : Option V) (r ro ga : Addr) (y9 y10 y11 : Option V) : L2.St := [some (.ref a), some (.ref p), y2, some (.ref h), some (.int (D : Int)), y5, some (.ref r), some (.ref ro), some (.ref ga), y9, y10, y11]
def t_pass (K : PySem.W.Frag) : TS :=
  (tSeq (tAsg (tCall sTurned [] E0 (tCons (tVar 7) (tCons (tOp oSub (tVar 4) (tC (.int 1))) tNil))) (gName 7))
  (tSeq (tDrop (tBM K "list" rAppend (tVar 8) (tCons (tOp (rIxL K) (tVar 7) (tC (.int 0))) tNil)))
  (tAsg (tSl (rSlL K) (tVar 7) (tPart (tC (.int 1))) tNoPart) (gName 7))))
theorem pass_go {R : Rep K} {a p h r ro ga : Addr} {D : Nat} {H : Hp} {F : Addr → Prop} {L G l g t : List Str} {z : Str} {y2 y5 y9 y10 y11 : Option V} {De : Ends} (d1 : 1 ≤ D) (s : S10 K R p r D q9 o9 H F ro ga L G l g) (hz : Jos.rotN (D - 1) l = z :: t) (b1 : l.length ≤ 1000) (b2 : g.length ≤ 1000)
    (k : ∀ ro' H', S10 K R p r D q9 o9 H' F ro' ga L G t (g ++ [z]) → De.nx (Sl a p y2 h D y5 r ro' ga y9 y10 y11) H') :
    t_pass K De (Sl a p y2 h D y5 r ro ga y9 y10 y11) H := by
  have hl0 : 0 < l.length := by
    have := Jos.rotN_len (D - 1) l
    rw [hz] at this; simp at this; omega
  refine ⟨_, rfl, _, rfl, _, _, rfl, rfl, ?_⟩
  refine ⟨ro, _, _, rfl, s.hr, by rw [List.length_map]; exact hl0, by rw [List.length_map]; omega, fun w H1 nw e1 hw => ?_⟩
  rw [turned_eq d1 hl0, hz] at hw
  have s1 := s.row e1 nw hw
  refine ⟨_, rfl, ty_l s1.hg, _, rfl, w, _, 0, .str z, rfl, rfl, sq_of hw, (by exact at0), ga, _, _, rfl, rfl, s1.hg, ?_, ?_⟩
  · rw [List.length_map]; exact sz_lt (by omega)
  have s2 := s1.app (z := z)
  rw [List.map_append] at s2
  refine ⟨_, rfl, _, rfl, w, _, rfl, sq_of s2.hr, fun v nv => ?_⟩
  have e4 := Evl.Ex.new (o := .lst (cutV ((z :: t).map V.str) (some (1 : Int)) none)) nv
  have hcut : cutV ((z :: t).map V.str) (some (1 : Int)) none = t.map V.str := by
    have := cut_from (xs := (z :: t).map V.str) (k := 1) (by simp)
    rw [show ((1 : Nat) : Int) = 1 from rfl] at this
    rw [this]; rfl
  rw [hcut] at e4 ⊢
  exact k v _ (s2.row (l' := t) e4 nv upd_same)
def t_gone (R : Rep K) (C : Cs) : TS :=
  (tIfS (tTest (tOp rEq (tVar 2) (tC (.int 1))))
  (tDrop (tMeth R.C "count" (sCountM R C.hand) [] E0 (tVar 6) tNil))
  (tDrop (tMeth R.C "counts" (sCountsM R C.count) [] E0 (tVar 6) (tCons (tVar 2) tNil))))
/-- behind the row's counts the ring's -/
theorem gone2_go {R : Rep K} {C : Cs} {a p h r ro ga : Addr} {D m : Nat} {H : Hp} {F : Addr → Prop} {L G l g : List Str} {y5 y9 y10 y11 : Option V} {De : Ends} (s : S10 K R p r D q9 o9 H F ro ga L G l g) (hm : m ≤ L.length)
    (k : ∀ F' H', S10 K R p r D q9 o9 H' F' ro ga (Jos.aft (D - 1) m L) (G ++ (Jos.out (D - 1) L.length L).take m) l g → De.nx (Sl a p (some (.int (m : Int))) h D y5 r ro ga y9 y10 y11) H') :
    t_gone R C De (Sl a p (some (.int (m : Int))) h D y5 r ro ga y9 y10 y11) H := by
  refine ⟨_, rfl, rfl, _, rfl, iteC (fun c => ?_) (fun _ => ?_)⟩
  · have em : m = 1 := by have := V.int.inj (of_decide_eq_true c); omega
    subst em
    obtain ⟨z, t, hz, hzi, ht⟩ := Jos.out_head (D - 1) 0 L (by omega)
    refine ⟨_, rfl, ?_⟩
    refine meth_of (m := "count") (by simp) s.ring ?_
    show sCountM R C.hand [.ref r] H _ E0
    refine count_go s.ring hz fun F' H' q c => ?_
    rw [show (0 : Nat) + 1 = 1 from rfl] at ht
    have e : (Jos.out (D - 1) L.length L).take 1 = [z] := by
      have := take_next hzi
      rw [List.take_zero, List.nil_append] at this; exact this
    rw [← e, ← ht] at q
    exact k F' H' (s.go q c)
  · refine ⟨_, rfl, ?_⟩
    refine meth_of (m := "counts") (by simp) s.ring ?_
    refine ⟨_, rfl, ?_⟩
    show sCountsM R C.count [.ref r, .int (m : Int)] H _ E0
    exact counts_go s.ring hm fun o F' H' no nF q c _ => k F' H' (s.go q c)
def t_new (R : Rep K) (C : Cs) : TS :=
  (tIfS (tTest (tOp rEq (tOp oMod (tCall sNext [] E0 (tCons (tVar 1) tNil)) (tC (.int 4))) (tC (.int 1))))
  (tSeq (tAsg (tOp oMod (tCall sNext [] E0 (tCons (tVar 1) tNil)) (tOp oAdd (tCB (rLenL K) (tCons (tVar 7) tNil)) (tC (.int 1)))) (gName 11))
  (tSeq (tDrop (tBM K "list" rInsert (tVar 7) (tCons (tVar 11) (tCons (tOp oAddS (tC (.str "new")) (tCB oStrI (tCons (tVar 9) tNil))) tNil))))
  (tDrop (tMeth R.C "come" (sComeM R C) [] E0 (tVar 6) (tCons (tOp oAddS (tC (.str "new")) (tCB oStrI (tCons (tVar 9) tNil))) (tCons (tVar 11) tNil))))))
  tNext)
theorem new_go {R : Rep K} {C : Cs} {a p h r ro ga : Addr} {D i : Nat} {H : Hp} {F : Addr → Prop} {zs L G : List Str} {y2 y5 y10 y11 : Option V} {De : Ends} (s : S10 K R p r D q9 o9 H F ro ga L G L G) (o : OwnN nm zs L G i) (ne : ∀ z ∈ zs, noE z) (hi : i < 100) (hz : zs.length ≤ 14)
    (k : ∀ F' L' y11 H', S10 K R p r D q9 o9 H' F' ro ga L' G L' G → OwnN nm zs L' G (i + 1) → De.nx (Sl a p y2 h D y5 r ro ga (some (.int (i : Int))) y10 y11) H') :
    t_new R C De (Sl a p y2 h D y5 r ro ga (some (.int (i : Int))) y10 y11) H := by
  have hl := o.len
  refine ⟨_, rfl, p, rfl, s.st, fun H1 n1 r1 _ _ => ?_⟩
  have s1 := s.run r1
  refine ⟨_, _, rfl, rfl, pos0 (by decide), rfl, _, rfl, iteC (fun _ => ?_) (fun _ => k _ _ _ _ s1 o.mono)⟩
  refine ⟨_, rfl, p, rfl, s1.st, fun H2 n2 r2 _ _ => ?_⟩
  have s2 := s1.run r2
  refine ⟨_, rfl, ro, _, rfl, .inl (sq_of s2.hr), _, _, rfl, rfl, _, _, rfl, rfl, pos0 (by omega), ?_⟩
  obtain ⟨j, hj, hj2⟩ : ∃ j : Nat, n2 % (((L.map V.str).length : Int) + 1) = (j : Int) ∧ j ≤ L.length := by
    rw [List.length_map]
    have b1 : 0 ≤ n2 % ((L.length : Int) + 1) := Int.emod_nonneg _ (by omega)
    have b2 : n2 % ((L.length : Int) + 1) < (L.length : Int) + 1 := Int.emod_lt_of_pos _ (by omega)
    exact ⟨(n2 % ((L.length : Int) + 1)).toNat, by omega, by omega⟩
  dsimp only
  rw [hj]
  have f := sk_facts i (by omega)
  have lg : ((i : Int)).natAbs.log2 < 1920 := Nat.lt_of_le_of_lt (Nat.log2_le_self _) (by omega)
  have sz : (Str.ofString "new").length + (sk i).length ≤ sizeLine := by
    rw [show (Str.ofString "new").length = 3 by decide +kernel]
    exact sz_of (by omega)
  have new : newN i ∉ L ++ G := o.new ne rfl (fun j z e => by rw [e]; exact newN_e j) fun x y z hx hy ex ey => newN_inj (by omega) (by omega) (ex.symm.trans ey)
  refine ⟨_, rfl, ty_l s2.hr, _, rfl, _, rfl, _, rfl, lg, _, _, rfl, rfl, sz, ro, _, _, _, rfl, rfl, s2.hr, ?_, by omega, by omega, ?_⟩
  · rw [List.length_map]; exact sz_lt (by omega)
  have s3 := s2.ins (l' := L.insertIdx j (newN i))
  rw [← ins_map hj2] at s3
  rw [Int.toNat_natCast]
  refine ⟨_, rfl, ?_⟩
  refine meth_of (m := "come") (by simp) s3.ring ?_
  refine ⟨_, rfl, _, rfl, lg, _, _, rfl, rfl, sz, _, rfl, ?_⟩
  show sComeM R C [.ref r, .str (newN i), .int (j : Int)] _ _ E0
  refine come_go (i := j) s3.ring (newN_ok (by omega)) new Typ.int ?_ (by omega) fun F' H' q c => k F' _ _ H' (s3.go q c) (o.come new rfl hj2)
  unfold comeAt
  dsimp only
  rw [if_pos ⟨by omega, by omega⟩]
  rfl
end K10
end Cd

set_option Elab.async false
set_option linter.all false
set_option maxRecDepth 100000
set_option maxHeartbeats 4000000
namespace Cd
open PySem PySem.Spec PyProof.Rows L2 Tx Kp Mx
open Evl (Ex sq_of ex_l sz_of sz_lt fresh_back)
open K11 (same_go empty_go)
variable {K : PySem.W.Frag}
def hN (k : Nat) : Str := Str.ofString "h" ++ sk k
theorem hN_inj {i j : Nat} (hi : i < 402) (hj : j < 402) (h : hN i = hN j) : i = j := sk_inj hi hj (app_left h)
theorem hN_ok {k : Nat} (hk : k < 402) : PyData.strOk (hN k) = true := ok_app (by decide +kernel) (sk_facts k hk).2.2
theorem Jos.counts_at {d m b c p : Nat} (h : (Jos.order d m b)[c]? = some p) : (Jos.counts d m b)[p]? = some (c + 1) := by
  have hp : p < m := Jos.order_lt (List.mem_of_getElem? h)
  unfold Jos.counts
  rw [List.getElem?_map, List.getElem?_range hp]
  show some ((Jos.order d m b).idxOf p + 1) = _
  rw [Jos.idx_of h]
namespace K12
def hs (M : Nat) : List Str := (List.range M).map hN
theorem hs_len (M : Nat) : (hs M).length = M := by unfold hs; rw [List.length_map, List.length_range]
theorem hs_nodup {M : Nat} (h : M ≤ 402) : (hs M).Nodup := nodup_of_inj List.nodup_range fun x hx y hy e => hN_inj (by have := List.mem_range.mp hx; omega) (by have := List.mem_range.mp hy; omega) e
theorem hs_ok {M : Nat} (h : M ≤ 402) : ∀ z ∈ hs M, PyData.strOk z = true := fun z hz => by
  obtain ⟨k, hk, rfl⟩ := List.mem_map.mp hz
  have := List.mem_range.mp hk
  exact hN_ok (by omega)
/-- the names of those that go -/
theorem names_eq (D M B : Nat) : Jos.out (D - 1) M (Jos.rot (hs M) B) = (Jos.order D M B).map hN := by
  unfold hs
  rw [Jos.rot_map, Jos.out_map]
  rfl
def t_names (K : PySem.W.Frag) : TE := (tLc (iList K (tVar 5)) (gName 7) tYes (tOp (rIxL K) (tVar 3) (tVar 7)) [7])
def t_hs : TE := (tLc (iRng1 (tCons (tVar 0) tNil)) (gName 4) tYes (tOp oAddS (tC (.str "h")) (tCB oStrI (tCons (tVar 4) tNil))) [4])
section
variable {M D B : Nat} {y0 y1 y2 y3 y4 y5 y6 y7 y8 y9 y10 y11 : Option V} {H : Hp} {Q : VK}
theorem hs_go (m2 : M ≤ 200) (q : ∀ a H', H a = none → Ex H H' → H' a = some (.lst ((hs M).map V.str)) → Q (.ref a) H') : t_hs [some (.int (M : Int)), y1, y2, y3, y4, y5, y6, y7, y8, y9, y10, y11] H Q := by
  refine ⟨_, rfl, _, rfl, by omega, by omega, fun R nR => ?_⟩
  refine lc_range (lo := 0) (n := M) (fun i H' => Ex H H' ∧ H' R = some (.lst ((hs i).map V.str))) ⟨Evl.Ex.new nR, upd_same⟩ (fun i H' hi p => ?_) (fun H' p => q R H' nR p.1 p.2)
  obtain ⟨p1, p2⟩ := p
  refine ⟨rfl, ?_⟩
  unfold tYes
  dsimp only
  rw [if_pos rfl]
  have ei : ((0 : Int) + (i : Int)) = (i : Int) := Int.zero_add _
  rw [ei]
  have f := sk_facts i (by omega)
  refine ⟨_, rfl, _, rfl, Nat.lt_of_le_of_lt (Nat.log2_le_self _) (by omega), _, _, rfl, rfl, ?_, _, p2, ?_, Evl.Ex.mut p1 nR, ?_⟩
  · show (Str.ofString "h").length + (sk i).length ≤ sizeLine
    rw [show (Str.ofString "h").length = 1 by decide +kernel]
    exact sz_of (by omega)
  · rw [List.length_map, hs_len]; exact sz_lt (by omega)
  · rw [upd_same]
    unfold hs
    rw [List.range_succ, List.map_append, List.map_append]; rfl
theorem names_go {h o : Addr} (m2 : M ≤ 200) (hh : H h = some (.lst ((hs M).map V.str))) (ho : H o = some (.lst ((Jos.order D M B).map nV))) (q : ∀ a H', H a = none → Ex H H' → H' a = some (.lst (((Jos.order D M B).map hN).map V.str)) → Q (.ref a) H') :
    t_names K [y0, y1, y2, some (.ref h), y4, some (.ref o), y6, y7, y8, y9, y10, y11] H Q := by
  refine ⟨_, rfl, o, rfl, ⟨_, sq_of ho⟩, fun R nR => ?_⟩
  refine lc_list (xs := (Jos.order D M B).map nV) (fun i H' => Ex H H' ∧ H' R = some (.lst ((((Jos.order D M B).take i).map hN).map V.str))) ⟨Evl.Ex.new nR, upd_same⟩ (fun i H' _ p => sq_of (p.1 _ _ ho)) (fun i x H' hx p => ?_) (fun H' p => q R H' nR p.1 ?_)
  · obtain ⟨p1, p2⟩ := p
    obtain ⟨P, hP, rfl⟩ := nV_get hx
    have hPM : P < M := Jos.order_lt (List.mem_of_getElem? hP)
    refine ⟨rfl, ?_⟩
    unfold tYes
    dsimp only
    rw [if_pos rfl]
    have hat : atI ((hs M).map V.str) (P : Int) = some (.str (hN P)) := by
      unfold atI ixN
      rw [if_pos (by omega), if_pos (by rw [List.length_map, hs_len]; omega)]
      simp [hs, hPM]
    have li : i < M := by
      have := (List.getElem?_eq_some_iff.mp hP).1
      rw [Jos.order_len] at this; exact this
    refine ⟨_, rfl, _, rfl, h, _, _, _, rfl, rfl, sq_of (p1 _ _ hh), hat, _, p2, ?_, Evl.Ex.mut p1 nR, ?_⟩
    · rw [List.length_map, List.length_map, List.length_take]; exact sz_lt (by omega)
    · rw [upd_same, K11.take_next hP, List.map_append, List.map_append]; rfl
  · have := p.2
    rw [List.length_map, List.take_length] at this
    exact this
end
def t_each (K : PySem.W.Frag) (C : Cs) : TS :=
  (tSeq (tIfS (tOr (tTest (tOp rNe (tOp (rIxL K) (tVar 8) (tVar 7)) (tOp oAdd (tVar 9) (tC (.int 1))))) (tTest (tOp rNe (tCall (sCount K C.many C.step C.place) [] E0 (tCons (tVar 0) (tCons (tVar 1) (tCons (tVar 2) (tCons (tVar 7) tNil))))) (tOp oAdd (tVar 9) (tC (.int 1))))))
  (tRet (tC (.bl false)))
  tNext)
  (tIfS (tTest (tOp rNe (tCall (sGoes K C.many C.step C.place C.count) [] E0 (tCons (tVar 0) (tCons (tVar 1) (tCons (tVar 2) (tCons (tOp oAdd (tVar 9) (tC (.int 1))) tNil))))) (tVar 7)))
  (tRet (tC (.bl false)))
  tNext))
theorem each_go {C : Cs} {M D B i P : Nat} {c : Addr} {y3 y4 y5 y6 y10 y11 : Option V} {H : Hp} {De : Ends} (m2 : M ≤ 200) (d1 : 1 ≤ D) (d2 : D ≤ 100) (hB : B < M) (hP : (Jos.order D M B)[i]? = some P) (hc : H c = some (.lst ((Jos.counts D M B).map nV)))
    (k : De.nx [some (.int (M : Int)), some (.int (D : Int)), some (.int (B : Int)), y3, y4, y5, y6, some (nV P), some (.ref c), some (.int (i : Int)), y10, y11] H) :
    t_each K C De [some (.int (M : Int)), some (.int (D : Int)), some (.int (B : Int)), y3, y4, y5, y6, some (nV P), some (.ref c), some (.int (i : Int)), y10, y11] H := by
  have hM : (M : Int) ≤ big := by unfold big; omega
  have hPM : P < M := Jos.order_lt (List.mem_of_getElem? hP)
  have hat : atI ((Jos.counts D M B).map nV) (P : Int) = some (nV (i + 1)) := by
    unfold atI ixN
    rw [if_pos (by omega), if_pos (by rw [List.length_map, Jos.counts_len]; omega)]
    simp [Jos.counts_at hP]
  have e1 : nV (i + 1) = V.int ((i : Int) + 1) := by unfold nV; congr 1
  rw [e1] at hat
  refine ⟨_, rfl, _, rfl, c, _, _, _, rfl, rfl, sq_of hc, hat, _, rfl, _, _, rfl, rfl, rfl, _, rfl, iteC (fun z => (dec_self z).elim) (fun _ => ?_)⟩
  refine ⟨_, rfl, _, rfl, _, rfl, _, rfl, ?_⟩
  refine count_right hM d1 d2 hB hP ?_
  refine ⟨_, rfl, _, _, rfl, rfl, rfl, _, rfl, iteC (fun z => (dec_self z).elim) (fun _ => ?_)⟩
  refine ⟨_, rfl, _, rfl, _, rfl, _, rfl, _, _, rfl, rfl, ?_⟩
  refine goes_right hM d1 d2 hB hP ?_
  exact ⟨_, rfl, rfl, _, rfl, iteC (fun z => (dec_self z).elim) (fun _ => k)⟩
end K12
end Cd

set_option Elab.async false
set_option linter.all false
set_option maxRecDepth 100000
set_option maxHeartbeats 4000000
namespace Cd
open PySem PySem.Spec PyProof.Rows L2 Tx Kp Mx
open Evl (Ex sq_of ex_l sz_of sz_lt fresh_back)
open K11 (same_go empty_go take_next not_ahead)
open K04 (eWord_of)
variable {K : PySem.W.Frag}
theorem sComeM.imp {R : Rep K} {C : Cs} {vs : List V} {H : Hp} {Q : VK} {E E' : XK} (h : sComeM R C vs H Q E) (m : ∀ c o H', E c o H' → E' c o H') : sComeM R C vs H Q E' := by
  unfold sComeM at *
  obtain ⟨a, h, p, F, l, g, d, e, hr, t1, t2, q1, q2⟩ := h
  refine ⟨a, h, p, F, l, g, d, e, hr, t1, t2, fun n H' x => m _ _ _ (q1 n H' x), fun z ez => ?_⟩
  obtain ⟨ok, q3, q4⟩ := q2 z ez
  refine ⟨ok, fun n H' x => m _ _ _ (q3 n H' x), fun n => ?_⟩
  obtain ⟨q5, q6⟩ := q4 n
  refine ⟨fun n H' x => m _ _ _ (q5 n H' x), fun i hi => ?_⟩
  obtain ⟨q7, q8⟩ := q6 i hi
  exact ⟨fun n H' x => m _ _ _ (q7 n H' x), q8⟩
namespace K09
def t_come (R : Rep K) (C : Cs) : TS :=
(tSeq (tTryK K C.err 3 4 (fun W => (tRet (tMethX R.C "come" (sComeM R C) [] (WE W) (tVar 0) (tCons (tVar 1) (tCons (tVar 2) tNil))))))
  (tRet (tCall (sErr K C) [] E0 (tCons (tVar 4) tNil))))
@[irreducible] def sCome9 (R : Rep K) (C : Cs) : Sp := fun vs H Q _ => ∃ a h p F l g d, vs = [.ref a, h, p] ∧ R.at_ H a F l g d ∧ sComeM R C [.ref a, h, p] H Q (eWord C Q)
theorem pure_come {R : Rep K} {C : Cs} (X : ErrF K C) {vs : List V} {H : Hp} {Q : VK} {E : XK} {nx : L2.St → Hp → Prop} (h : sCome9 R C vs H Q E) : t_come R C { nx := nx, rt := Q } (start ["_law_ring", "_law_hand", "_law_place", "_law_e", "_law_error_here"] vs) H := by
  unfold sCome9 at h
  obtain ⟨a, h, p, F, l, g, d, rfl, hr, hs⟩ := h
  refine ⟨_, rfl, ?_⟩
  refine meth_of (m := "come") (by simp) hr ?_
  refine ⟨_, rfl, _, rfl, ?_⟩
  show sComeM R C [.ref a, h, p] H _ _
  refine hs.imp fun cls dd H' e => ?_
  obtain ⟨ed, k, ec, qq⟩ := e
  subst ed ec
  refine ⟨rfl, X.caught k, fun b nb => ?_⟩
  exact ⟨_, rfl, b, k, rfl, upd_same, fun H'' ex => qq H'' ((Evl.Ex.new nb).trans ex)⟩
section
variable {R : Rep K} {C : Cs} {H : Hp} {a : Addr} {F : Addr → Prop} {l g : List Str} {d : Nat} {Q : VK} {E : XK} {h p : V} {z : Str}
theorem come_hand (hr : R.at_ H a F l g d) (t1 : Typ K H h) (t2 : Typ K H p) (n : isS h = false) (q : ∀ H', Ex H H' → Q (.str "hand") H') : sCome9 R C [.ref a, h, p] H Q E := by
  unfold sCome9
  refine ⟨a, h, p, F, l, g, d, rfl, hr, ?_⟩
  unfold sComeM
  refine ⟨a, h, p, F, l, g, d, rfl, hr, t1, t2, fun _ H' e => eWord_of .hand fun H'' e2 => q H'' (e.trans e2), fun z ez => ?_⟩
  subst ez
  cases n
theorem come_twice (hr : R.at_ H a F l g d) (ok : PyData.strOk z = true) (t2 : Typ K H p) (m : z ∈ l ++ g) (q : ∀ H', Ex H H' → Q (.str "twice") H') : sCome9 R C [.ref a, .str z, p] H Q E := by
  unfold sCome9
  refine ⟨a, _, p, F, l, g, d, rfl, hr, ?_⟩
  unfold sComeM
  refine ⟨a, _, p, F, l, g, d, rfl, hr, Typ.str, t2, (fun e => by cases e), fun z' ez => ?_⟩
  cases ez
  exact ⟨ok, fun _ H' e => eWord_of .twice fun H'' e2 => q H'' (e.trans e2), fun n => absurd m n⟩
theorem come_place (hr : R.at_ H a F l g d) (ok : PyData.strOk z = true) (t2 : Typ K H p) (n : z ∉ l ++ g) (hp : comeAt l p = none) (q : ∀ H', Ex H H' → Q (.str "place") H') : sCome9 R C [.ref a, .str z, p] H Q E := by
  unfold sCome9
  refine ⟨a, _, p, F, l, g, d, rfl, hr, ?_⟩
  unfold sComeM
  refine ⟨a, _, p, F, l, g, d, rfl, hr, Typ.str, t2, (fun e => by cases e), fun z' ez => ?_⟩
  cases ez
  exact ⟨ok, fun m => absurd m n, fun _ => ⟨fun _ H' e => eWord_of .place fun H'' e2 => q H'' (e.trans e2), fun i hi => by rw [hp] at hi; cases hi⟩⟩
theorem come_much {i : Nat} (hr : R.at_ H a F l g d) (ok : PyData.strOk z = true) (t2 : Typ K H p) (n : z ∉ l ++ g) (hp : comeAt l p = some i) (full : 400 ≤ l.length + g.length) (q : ∀ H', Ex H H' → Q (.str "much") H') : sCome9 R C [.ref a, .str z, p] H Q E := by
  unfold sCome9
  refine ⟨a, _, p, F, l, g, d, rfl, hr, ?_⟩
  unfold sComeM
  refine ⟨a, _, p, F, l, g, d, rfl, hr, Typ.str, t2, (fun e => by cases e), fun z' ez => ?_⟩
  cases ez
  refine ⟨ok, fun m => absurd m n, fun _ => ⟨(fun c => by rw [hp] at c; cases c), fun j _ => ⟨fun _ H' e => eWord_of .much fun H'' e2 => q H'' (e.trans e2), fun c => by omega⟩⟩⟩
theorem come_right {i : Nat} (hr : R.at_ H a F l g d) (ok : PyData.strOk z = true) (t2 : Typ K H p) (n : z ∉ l ++ g) (hp : comeAt l p = some i) (few : l.length + g.length < 400) (q : ∀ F' H', R.at_ H' a F' (l.insertIdx i z) g d → Chg H F H' F' → Q .non H') : sCome9 R C [.ref a, .str z, p] H Q E := by
  unfold sCome9
  exact ⟨a, _, p, F, l, g, d, rfl, hr, come_go hr ok n t2 hp few q⟩
end
def t_refused (R : Rep K) (C : Cs) : TS :=
(tSeq (tIfS (tTest (tOp rEq (tVar 4) (tC (.int 4))))
  (tSeq (tAsg (tOp (rIxL K) (tOp rCat (tVar 1) (tVar 2)) (tOp oMod (tVar 3) (tCB (rLenL K) (tCons (tOp rCat (tVar 1) (tVar 2)) tNil)))) (gName 5))
  (tRet (tOp rEq (tCall (sCome9 R C) [] E0 (tCons (tVar 0) (tCons (tVar 5) (tCons (tOp (rIxL K) (tLst (tCons (tC (.int 0)) (tCons (tUn oNeg (tC (.int 1))) (tCons (tC .non) tNil)))) (tOp oMod (tVar 3) (tC (.int 3)))) tNil)))) (tC (.str "twice")))))
  tNext)
  (tRet (tOp rEq (tCall (sCome9 R C) [] E0 (tCons (tVar 0) (tCons (tOp (rIxL K) (tLst (tCons (tC .non) (tCons (tC (.int 7)) (tCons (tLst (tCons (tC (.str "a")) tNil)) (tCons (tC (.bl true)) (tCons (tTup (tCons (tC (.str "a")) tNil)) tNil)))))) (tOp oMod (tVar 3) (tC (.int 5)))) (tCons (tOp (rIxL K) (tLst (tCons (tC (.int 0)) (tCons (tUn oNeg (tC (.int 1))) tNil))) (tOp oMod (tVar 3) (tC (.int 2)))) tNil)))) (tC (.str "hand")))))
@[irreducible] def sRefused (R : Rep K) (C : Cs) : Sp := fun vs H Q _ => ∃ r ro ga F L G, ∃ (D : Nat) (rest way : Int), vs = [.ref r, .ref ro, .ref ga, .int rest, .int way] ∧ R.at_ H r F L G D ∧ H ro = some (.lst (L.map V.str)) ∧ H ga = some (.lst (G.map V.str)) ∧
  L.length + G.length ≤ 1000 ∧ (∀ z ∈ L ++ G, PyData.strOk z = true) ∧ (way = 4 → L ++ G ≠ []) ∧ ∀ H', Ex H H' → Q (.bl true) H'
theorem pure_refused {R : Rep K} {C : Cs} {vs : List V} {H : Hp} {Q : VK} {E : XK} {nx : L2.St → Hp → Prop} (h : sRefused R C vs H Q E) : t_refused R C { nx := nx, rt := Q } (start ["_law_ring", "_law_left", "_law_gone", "_law_rest", "_law_way", "_law_twice"] vs) H := by
  unfold sRefused at h
  obtain ⟨r, ro, ga, F, L, G, D, rest, way, rfl, hr, hL, hG, hz, ok, hne, q⟩ := h
  have lz : (L.map V.str).length + (G.map V.str).length ≤ sizeLine := by rw [List.length_map, List.length_map]; exact sz_of (by omega)
  refine ⟨_, rfl, rfl, _, rfl, iteC (fun c => ?_) (fun _ => ?_)⟩
  · have hw : way = 4 := V.int.inj (of_decide_eq_true c)
    have hne := hne hw
    refine ⟨_, rfl, _, rfl, ro, ga, _, _, rfl, rfl, hL, hG, lz, fun x nx' => ?_⟩
    have e1 := Evl.Ex.new (o := .lst (L.map V.str ++ G.map V.str)) nx'
    refine ⟨_, rfl, _, rfl, _, rfl, ro, ga, _, _, rfl, rfl, e1 _ _ hL, e1 _ _ hG, lz, fun y ny => ?_⟩
    have e2 := Evl.Ex.new (o := .lst (L.map V.str ++ G.map V.str)) ny
    refine ⟨y, _, rfl, .inl (sq_of upd_same), _, _, rfl, rfl, pos0 ?_, ?_⟩
    · have := List.length_pos_iff.mpr hne
      rw [List.length_append] at this
      rw [List.length_append, List.length_map, List.length_map]; omega
    obtain ⟨v, hv, ha⟩ := at_mod (n := rest) (xs := L.map V.str ++ G.map V.str) (by have := List.length_pos_iff.mpr hne; rw [List.length_append] at this ⊢; rw [List.length_map, List.length_map]; exact this)
    rw [← List.map_append] at hv
    obtain ⟨z, hzm, rfl⟩ := List.mem_map.mp hv
    refine ⟨x, _, _, _, rfl, rfl, sq_of (e2 _ _ upd_same), ha, ?_⟩
    refine ⟨_, rfl, _, rfl, _, rfl, (by decide : 3 ≤ sizeLine), fun w nw => ?_⟩
    have e3 := Evl.Ex.new (o := .lst [.int 0, .int (-1), .non]) nw
    refine ⟨_, rfl, _, _, rfl, rfl, pos0 (by decide), ?_⟩
    obtain ⟨p, hp, hap⟩ := at_mod (n := rest) (xs := [V.int 0, .int (-1), .non]) (by simp)
    refine ⟨w, _, _, _, rfl, rfl, sq_of upd_same, hap, ?_⟩
    have e13 := e1.trans (e2.trans e3)
    have tp : ∀ H, Typ K H p := by
      intro H
      simp only [List.mem_cons, List.not_mem_nil, or_false] at hp
      rcases hp with rfl | rfl | rfl <;> first | exact Typ.int | exact Typ.non
    show sCome9 R C [.ref r, .str z, p] _ _ E0
    refine come_twice (Rep.ex hr e13) (ok z hzm) (tp _) hzm fun H5 e5 => ?_
    refine ⟨rfl, ?_⟩
    rw [decide_eq_true rfl]
    exact q _ (e13.trans e5)
  · refine ⟨_, rfl, (by decide : 1 ≤ sizeLine), fun x nx' => ⟨(by decide : 1 ≤ sizeLine), fun y ny => ⟨(by decide : 5 ≤ sizeLine), fun w nw => ?_⟩⟩⟩
    have e1 := Evl.Ex.new (o := .lst [.str "a"]) nx'
    have e2 := Evl.Ex.new (o := .tup [.str "a"]) ny
    have e3 := Evl.Ex.new (o := .lst [.non, .int 7, .ref x, .bl true, .ref y]) nw
    refine ⟨_, rfl, _, _, rfl, rfl, pos0 (by decide), ?_⟩
    obtain ⟨v, hv, hav⟩ := at_mod (n := rest) (xs := [V.non, .int 7, .ref x, .bl true, .ref y]) (by simp)
    refine ⟨w, _, _, _, rfl, rfl, sq_of upd_same, hav, ?_⟩
    refine ⟨_, rfl, (by decide : 2 ≤ sizeLine), fun u nu => ?_⟩
    have e4 := Evl.Ex.new (o := .lst [.int 0, .int (-1)]) nu
    refine ⟨_, rfl, _, _, rfl, rfl, pos0 (by decide), ?_⟩
    obtain ⟨p, hp, hap⟩ := at_mod (n := rest) (xs := [V.int 0, .int (-1)]) (by simp)
    refine ⟨u, _, _, _, rfl, rfl, sq_of upd_same, hap, ?_⟩
    have e14 := e1.trans (e2.trans (e3.trans e4))
    have tp : ∀ H, Typ K H p := by
      intro H
      simp only [List.mem_cons, List.not_mem_nil, or_false] at hp
      rcases hp with rfl | rfl <;> exact Typ.int
    have hx := e4 _ _ (e3 _ _ (e2 _ _ (show _ = some (HO.lst [V.str "a"]) from upd_same (H := H) (a := x))))
    have hy := e4 _ _ (e3 _ _ (show _ = some (HO.tup [V.str "a"]) from upd_same (H := upd H x (.lst [.str "a"])) (a := y)))
    show sCome9 R C [.ref r, v, p] _ _ E0
    simp only [List.mem_cons, List.not_mem_nil, or_false] at hv
    refine come_hand (Rep.ex hr e14) ?_ (tp _) ?_ fun H5 e5 => ?_
    · rcases hv with rfl | rfl | rfl | rfl | rfl
      · exact Typ.non
      · exact Typ.int
      · exact Typ.lst hx
      · exact Typ.bl
      · exact Typ.tup hy
    · rcases hv with rfl | rfl | rfl | rfl | rfl <;> rfl
    · refine ⟨rfl, ?_⟩
      rw [decide_eq_true rfl]
      exact q _ (e14.trans e5)
end K09
end Cd

set_option Elab.async false
set_option linter.all false
set_option maxRecDepth 100000
set_option maxHeartbeats 4000000
namespace Cd
open PySem PySem.Spec PyProof.Rows L2 Tx Kp Mx
open Evl (Ex sq_of ex_l sz_of sz_lt fresh_back)
open K11 (same_go empty_go take_next not_ahead)
open K12 (hs hs_len hs_nodup hs_ok)
variable {K : PySem.W.Frag}
/-- the first sign -/
def hd1 (z : Str) : Option Nat := z.cps.toList.head?
theorem hd1_h (k : Nat) : hd1 (hN k) = some 104 := by
  unfold hd1 hN
  rw [app_cps, Array.toList_append, show (Str.ofString "h").cps.toList = [104] by decide +kernel]
  rfl
def nN (k : Nat) : Str := Str.ofString "n" ++ sk k
theorem hd1_n (k : Nat) : hd1 (nN k) = some 110 := by
  unfold hd1 nN
  rw [app_cps, Array.toList_append, show (Str.ofString "n").cps.toList = [110] by decide +kernel]
  rfl
theorem nN_inj {i j : Nat} (hi : i < 402) (hj : j < 402) (h : nN i = nN j) : i = j := sk_inj hi hj (app_left h)
theorem nN_ok {k : Nat} (hk : k < 402) : PyData.strOk (nN k) = true := ok_app (by decide +kernel) (sk_facts k hk).2.2
def more : Str := Str.ofString "more"
theorem hd1_m : hd1 more = some 109 := by decide +kernel
theorem OwnN.off {nm : Nat → Str → Prop} {zs L G : List Str} {c : Nat} {z : Str} (o : OwnN nm zs L G c) (h1 : z ∉ zs) (h2 : ∀ j, j < c → ¬ nm j z) : z ∉ L ++ G := fun m => by
  rcases o.mem _ m with h | ⟨j, hj, e⟩
  · exact h1 h
  · exact h2 j hj e
namespace K09
abbrev nmF : Nat → Str → Prop := fun j z => z = nN j
theorem hs_hd {M : Nat} {z : Str} (h : z ∈ hs M) : hd1 z = some 104 := by
  obtain ⟨k, _, rfl⟩ := List.mem_map.mp h
  exact hd1_h k
def t_hs2 : TE := (tLc (iRng1 (tCons (tC (.int 200)) tNil)) (gName 2) tYes (tOp oAddS (tC (.str "h")) (tCB oStrI (tCons (tVar 2) tNil))) [2])
theorem hs2_go {y0 y1 y2 y3 y4 y5 y6 : Option V} {H : Hp} {Q : VK} (q : ∀ a H', H a = none → Ex H H' → H' a = some (.lst ((hs 200).map V.str)) → Q (.ref a) H') : t_hs2 [y0, y1, y2, y3, y4, y5, y6] H Q := by
  refine ⟨200, rfl, by decide, by decide, fun R nR => ?_⟩
  refine lc_range (lo := 0) (n := 200) (fun i H' => Ex H H' ∧ H' R = some (.lst ((hs i).map V.str))) ⟨Evl.Ex.new nR, upd_same⟩ (fun i H' hi p => ?_) (fun H' p => q R H' nR p.1 p.2)
  obtain ⟨p1, p2⟩ := p
  refine ⟨rfl, ?_⟩
  unfold tYes
  dsimp only
  rw [if_pos rfl]
  have ei : ((0 : Int) + (i : Int)) = (i : Int) := Int.zero_add _
  rw [ei]
  have f := sk_facts i (by omega)
  refine ⟨_, rfl, _, rfl, Nat.lt_of_le_of_lt (Nat.log2_le_self _) (by omega), _, _, rfl, rfl, ?_, _, p2, ?_, Evl.Ex.mut p1 nR, ?_⟩
  · show (Str.ofString "h").length + (sk i).length ≤ sizeLine
    rw [show (Str.ofString "h").length = 1 by decide +kernel]
    exact sz_of (by omega)
  · rw [List.length_map, hs_len]; exact sz_lt (by omega)
  · rw [upd_same]
    unfold hs
    rw [List.range_succ, List.map_append, List.map_append]; rfl
def t_tell (R : Rep K) (C : Cs) : TS :=
  (tSeq (tAsg (tMeth R.C "left" (sLeftM R) [] E0 (tVar 3) tNil) (gName 5))
  (tSeq (tAsg (tLst (tCons (tCall (sCome9 R C) [] E0 (tCons (tVar 3) (tCons (tC (.str "more")) (tCons (tC .non) tNil)))) (tCons (tCall (sCome9 R C) [] E0 (tCons (tVar 3) (tCons (tOp (rIxL K) (tVar 4) (tC (.int 0))) (tCons (tC .non) tNil)))) (tCons (tCall (sCome9 R C) [] E0 (tCons (tVar 3) (tCons (tC (.str "more")) (tCons (tC (.int 394)) tNil)))) tNil)))) (gName 6))
  (tSeq (tAsg (tOp rCat (tVar 6) (tLst (tCons (tCall (sCome9 R C) [] E0 (tCons (tVar 3) (tCons (tC (.int 7)) (tCons (tC .non) tNil)))) (tCons (tCall (sCome9 R C) [] E0 (tCons (tVar 3) (tCons (tC (.str "more")) (tCons (tC (.int 0)) tNil)))) tNil)))) (gName 6))
  (tRet (tAndV (tOp (rEqF K false) (tVar 6) (tLst (tCons (tC (.str "much")) (tCons (tC (.str "twice")) (tCons (tC (.str "place")) (tCons (tC (.str "hand")) (tCons (tC (.str "much")) tNil))))))) (tAndV (tOp (rEqF K false) (tMeth R.C "left" (sLeftM R) [] E0 (tVar 3) tNil) (tVar 5)) (tOp rEq (tCB (rLenL K) (tCons (tVar 5) tNil)) (tC (.int 393)))))))))
theorem tell_go {R : Rep K} {C : Cs} {D : Nat} {r u : Addr} {y0 y1 y2 y5 y6 : Option V} {F : Addr → Prop} {L G : List Str} {z : Str} {t : List V} {H : Hp} {De : Ends} (hr : R.at_ H r F L G D) (hu : H u = some (.lst (.str z :: t))) (hz : z ∈ L ++ G) (l1 : L.length = 393) (l2 : G.length = 7) (ok : ∀ z ∈ L ++ G, PyData.strOk z = true) (nm : more ∉ L ++ G)
    (q : ∀ H', Ex H H' → De.rt (.bl true) H') :
    t_tell R C De [y0, y1, y2, some (.ref r), some (.ref u), y5, y6] H := by
  have okm : PyData.strOk more = true := by decide +kernel
  have okL : (L.map V.str).all plain = true := str_plain fun z hz => ok z (List.mem_append_left _ hz)
  refine ⟨_, rfl, ?_⟩
  refine meth_of (m := "left") (by simp) hr ?_
  show sLeftM R [.ref r] H _ E0
  refine left_go hr fun v H1 nv e1 hv => ?_
  have r1 := Rep.ex hr e1
  refine ⟨_, rfl, ?_⟩
  show sCome9 R C [.ref r, .str more, .non] H1 _ E0
  refine come_much r1 okm Typ.non nm (i := L.length) rfl (by omega) fun H2 e2 => ?_
  have r2 := Rep.ex r1 e2
  have e12 := e1.trans e2
  refine ⟨_, rfl, _, rfl, u, _, 0, .str z, rfl, rfl, sq_of (e12 _ _ hu), at0, ?_⟩
  show sCome9 R C [.ref r, .str z, .non] H2 _ E0
  refine come_twice r2 (ok z hz) Typ.non hz fun H3 e3 => ?_
  have r3 := Rep.ex r2 e3
  refine ⟨_, rfl, ?_⟩
  show sCome9 R C [.ref r, .str more, .int 394] H3 _ E0
  refine come_place r3 okm Typ.int nm ?_ fun H4 e4 => ?_
  · unfold comeAt
    dsimp only
    rw [if_neg (by omega)]
  have r4 := Rep.ex r3 e4
  refine ⟨(by decide : 3 ≤ sizeLine), fun x nx => ?_⟩
  have e5 := Evl.Ex.new (o := .lst [.str "much", .str "twice", .str "place"]) nx
  have hx := show _ = some (HO.lst [V.str "much", .str "twice", .str "place"]) from upd_same (H := H4) (a := x)
  have r5 := Rep.ex r4 e5
  refine ⟨_, rfl, _, rfl, ?_⟩
  show sCome9 R C [.ref r, .int 7, .non] _ _ E0
  refine come_hand r5 Typ.int Typ.non rfl fun H6 e6 => ?_
  have r6 := Rep.ex r5 e6
  refine ⟨_, rfl, ?_⟩
  show sCome9 R C [.ref r, .str more, .int 0] _ _ E0
  refine come_much r6 okm Typ.int nm (i := 0) ?_ (by omega) fun H7 e7 => ?_
  · unfold comeAt
    dsimp only
    rw [if_pos ⟨by omega, by omega⟩]
    rfl
  have r7 := Rep.ex r6 e7
  refine ⟨(by decide : 2 ≤ sizeLine), fun y ny => ?_⟩
  have e8 := Evl.Ex.new (o := .lst [.str "hand", .str "much"]) ny
  refine ⟨x, y, _, _, rfl, rfl, (e6.trans (e7.trans e8)) _ _ hx, upd_same, (by decide : 3 + 2 ≤ sizeLine), fun w nw => ?_⟩
  have e9 := Evl.Ex.new (o := .lst ([.str "much", .str "twice", .str "place"] ++ [.str "hand", .str "much"])) nw
  refine ⟨_, rfl, (by decide : 5 ≤ sizeLine), fun s ns => ?_⟩
  have e10 := Evl.Ex.new (o := .lst [.str "much", .str "twice", .str "place", .str "hand", .str "much"]) ns
  refine same_go (xs := [.str "much", .str "twice", .str "place", .str "hand", .str "much"]) (sq_of (e10 _ _ upd_same)) (sq_of upd_same) (by decide +kernel) ⟨_, rfl, iteC (fun _ => ?_) (fun c => by cases c)⟩
  have e110 := e2.trans (e3.trans (e4.trans (e5.trans (e6.trans (e7.trans (e8.trans (e9.trans e10)))))))
  have r10 := Rep.ex r1 e110
  refine ⟨_, rfl, ?_⟩
  refine meth_of (m := "left") (by simp) r10 ?_
  show sLeftM R [.ref r] _ _ E0
  refine left_go r10 fun v2 H11 nv2 e11 hv2 => ?_
  have hv11 := (e110.trans e11) _ _ hv
  refine ⟨_, rfl, ?_⟩
  refine same_go (sq_of hv2) (sq_of hv11) okL ⟨_, rfl, iteC (fun _ => ?_) (fun c => by cases c)⟩
  refine ⟨_, rfl, v, _, rfl, .inl (sq_of hv11), rfl, ?_⟩
  have et : decide (V.int ((L.map V.str).length : Int) = V.int 393) = true := decide_eq_true (by rw [List.length_map, l1]; rfl)
  rw [et]
  exact q _ (e1.trans (e110.trans e11))
end K09
end Cd

set_option Elab.async false
set_option linter.all false
set_option maxRecDepth 100000
set_option maxHeartbeats 4000000
namespace Cd
open PySem PySem.Spec PyProof.Rows L2 Tx Kp Mx
open Evl (Ex sq_of ex_l sz_of sz_lt fresh_back)
open K11 (same_go empty_go take_next not_ahead)
open K12 (hs hs_len hs_nodup hs_ok)
variable {K : PySem.W.Frag}
namespace K09
def t_in (R : Rep K) (C : Cs) : TS :=
  (tIfS (tTest (tOp oNotN (tCall (sCome9 R C) [] E0 (tCons (tVar 3) (tCons (tOp oAddS (tC (.str "n")) (tCB oStrI (tCons (tVar 2) tNil))) (tCons (tC .non) tNil)))) (tC .non)))
  (tRet (tC (.bl false)))
  tNext)
def t_full (R : Rep K) (C : Cs) : TS :=
(tSeq (tAsg t_hs2 (gName 1))
  (tSeq (tAsg (tMake R.C (sInit R C.ring C.step C.place) [.int 0] E0 (tCons (tVar 1) (tCons (tVar 0) tNil))) (gName 3))
  (tSeq (tAsg (tMeth R.C "counts" (sCountsM R C.count) [] E0 (tVar 3) (tCons (tC (.int 7)) tNil)) (gName 4))
  (tSeq (tFor (iRng1 (tCons (tC (.int 200)) tNil)) (gName 2)
  (t_in R C))
  (t_tell R C)))))
@[irreducible] def sFull (R : Rep K) (C : Cs) : Sp := fun vs H Q _ => ∃ D : Nat, vs = [.int (D : Int)] ∧ 1 ≤ D ∧ D ≤ 100 ∧ ∀ H', Ex H H' → Q (.bl true) H'
/-- what lay there stays, the ring aside -/
structure Beside (H H' : Hp) (F : Addr → Prop) : Prop where
  ex : Ex H H'
  off : ∀ b, H b ≠ none → ¬ F b
theorem Beside.go {H H1 H2 : Hp} {F F' : Addr → Prop} (b : Beside H H1 F) (c : Chg H1 F H2 F') : Beside H H2 F' where
  ex a o h := c.keep a o (b.ex a o h) (b.off a (by rw [h]; simp))
  off a h := c.off (b.off a h) (by
    cases e : H a with
    | none => exact absurd e h
    | some o => rw [b.ex a o e]; simp)
theorem pure_full {R : Rep K} {C : Cs} {vs : List V} {H : Hp} {Q : VK} {E : XK} {nx : L2.St → Hp → Prop} (h : sFull R C vs H Q E) : t_full R C { nx := nx, rt := Q } (start ["_law_step_here", "_law_row", "_law_k", "_law_ring", "_law_gone", "_law_left", "_law_told"] vs) H := by
  unfold t_full
  generalize hT0 : t_hs2 = tq0
  unfold sFull at h
  obtain ⟨D, rfl, d1, d2, q⟩ := h
  show tq0 [some (.int (D : Int)), none, none, none, none, none, none] H _
  refine Eq.mp (congrFun (congrFun (congrFun hT0 _) _) _) ?_
  refine hs2_go fun h H1 nh e1 hh => ?_
  refine ⟨_, rfl, _, rfl, ?_⟩
  intro r dx nr ndx ner
  have hl := hs_len 200
  refine make_go (E := E0) (b := 0) hh (by omega) (by omega) (hs_nodup (by omega)) (hs_ok (by omega)) d1 (by unfold big; omega) (by omega) nr ndx ner fun F H2 q2 fr2 e2 => ?_
  rw [Jos.rot_zero] at q2
  have b2 : Beside H H2 F := ⟨e1.trans e2, fun b x z => x (by
    cases e : H b with
    | none => rfl
    | some o => have := fr2 b z; rw [e1 b o e] at this; cases this)⟩
  refine ⟨_, rfl, ?_⟩
  refine meth_of (m := "counts") (by simp) q2 ?_
  show sCountsM R C.count [.ref r, .int ((7 : Nat) : Int)] H2 _ E0
  refine counts_go (k := 7) q2 (by omega) fun u F3 H3 nu nFu q3 c3 hu => ?_
  have b3 := b2.go c3
  have lo : (Jos.out (D - 1) (hs 200).length (hs 200)).length = 200 := by rw [Jos.out_len _ _ _ rfl, hl]
  have po := Jos.out_perm (D - 1) (hs 200).length (hs 200) rfl
  obtain ⟨z, t, hzt⟩ : ∃ z t, (Jos.out (D - 1) (hs 200).length (hs 200)).take 7 = z :: t := by
    cases e : (Jos.out (D - 1) (hs 200).length (hs 200)).take 7 with
    | nil => have := congrArg List.length e; rw [List.length_take, lo] at this; simp at this
    | cons z t => exact ⟨z, t, rfl⟩
  have o0 : OwnN nmF (hs 200) (hs 200) [] 0 := ⟨by simp, by rw [List.append_nil]; exact hs_nodup (by omega), fun z hz => .inl (by rw [List.append_nil] at hz; exact hz)⟩
  have o1 := o0.counts (D - 1) 7 (by omega)
  rw [List.nil_append] at q3 o1
  have hG7 : ((Jos.out (D - 1) (hs 200).length (hs 200)).take 7).length = 7 := by rw [List.length_take, lo]; rfl
  have hL3 : (Jos.aft (D - 1) 7 (hs 200)).length = 193 := by rw [Jos.aft_len, hl]
  generalize hGe : (Jos.out (D - 1) (hs 200).length (hs 200)).take 7 = G at *
  refine ⟨200, rfl, by decide, by decide, for_range (lo := 0) (n := 200) (fun i σ H' => ∃ F L y2, σ = [some (.int (D : Int)), some (.ref h), y2, some (.ref r), some (.ref u), none, none] ∧ R.at_ H' r F L G D ∧ Beside H H' F ∧ H' u = some (.lst (G.map V.str)) ∧ ¬ F u ∧ OwnN nmF (hs 200) L G i ∧ L.length = 193 + i)
    ⟨F3, _, none, rfl, q3, b3, hu, nFu, o1, hL3⟩ ?_ ?_⟩
  · intro i σ H' hi hP
    obtain ⟨F, L, y2, rfl, hr, b, hu, nFu, o, hl'⟩ := hP
    have ei : ((0 : Int) + (i : Int)) = (i : Int) := Int.zero_add _
    show t_in R C _ [some (.int (D : Int)), some (.ref h), some (.int ((0 : Int) + (i : Int))), some (.ref r), some (.ref u), none, none] H'
    rw [ei]
    have f := sk_facts i (by omega)
    refine ⟨_, rfl, _, rfl, _, rfl, Nat.lt_of_le_of_lt (Nat.log2_le_self _) (by omega), _, _, rfl, rfl, ?_, ?_⟩
    · show (Str.ofString "n").length + (sk i).length ≤ sizeLine
      rw [show (Str.ofString "n").length = 1 by decide +kernel]
      exact sz_of (by omega)
    have new : nN i ∉ L ++ G := o.off (fun m => by
      have h1 := hs_hd m
      rw [hd1_n] at h1; cases h1) fun j hj e => by
      have := nN_inj (i := i) (j := j) (by omega) (by omega) e
      omega
    show sCome9 R C [.ref r, .str (nN i), .non] H' _ E0
    refine come_right (i := L.length) hr (nN_ok (by omega)) Typ.non new rfl (by omega) fun F' H2 q2 c2 => ?_
    have pin := K11.perm_ins (nN i) L.length L (Nat.le_refl _)
    refine ⟨rfl, _, rfl, iteC (fun c => (dec_self c).elim) (fun _ => ?_)⟩
    refine ⟨F', _, _, rfl, q2, b.go c2, c2.keep _ _ hu nFu, c2.off nFu (by rw [hu]; simp), o.come new rfl (Nat.le_refl _), ?_⟩
    rw [pin.length_eq, List.length_cons]; omega
  · intro σ H' hP
    obtain ⟨F, L, y2, rfl, hr, b, hu, nFu, o, hl'⟩ := hP
    have nm : more ∉ L ++ G := o.off (fun m => by
      have h1 := hs_hd m
      rw [hd1_m] at h1; cases h1) fun j hj e => by
      have h1 := congrArg hd1 e
      rw [hd1_m, hd1_n] at h1; cases h1
    have ok := o.ok (hs_ok (by omega)) fun j z hj e => by rw [e]; exact nN_ok (by omega)
    rw [hzt, List.map_cons] at hu
    exact tell_go hr hu (List.mem_append_right _ (by rw [hzt]; exact List.mem_cons_self)) (by omega) hG7 ok nm fun H2 e2 => q H2 (b.ex.trans e2)
end K09
end Cd

set_option Elab.async false
set_option linter.all false
set_option maxRecDepth 100000
set_option maxHeartbeats 4000000
namespace Cd
open PySem PySem.Spec PyProof.Rows L2 Tx Kp Mx
open Evl (Ex sq_of ex_l sz_of sz_lt fresh_back)
open K11 (same_go empty_go take_next not_ahead)
variable {K : PySem.W.Frag} {q9 : Addr} {o9 : HO}
/-- int(x) of a truth or a number -/
abbrev rInt1 : List V → Hp → VK → Prop := fun ys G R => (∃ n, ys = [.int n] ∧ R (.int n) G) ∨ ∃ b, ys = [.bl b] ∧ R (.int (if b then 1 else 0)) G
namespace K09
/-- a blank or none -/
def sp9 (k : Nat) : Str := PySem.Txt.mul (Str.ofString " ") (k : Int)
theorem sp9_0 : (sp9 0).cps.toList = [] := by decide +kernel
theorem sp9_1 : (sp9 1).cps.toList = [32] := by decide +kernel
theorem sk_noB : ∀ k, k < 402 → (sk k).cps.toList.contains 32 = false := by decide +kernel
abbrev nm9 : Nat → Str → Prop := fun j z => ∃ k, k < 2 ∧ z = newN j ++ sp9 k
theorem nm9_e {j : Nat} {z : Str} (h : nm9 j z) : ¬ noE z := by
  obtain ⟨k, _, rfl⟩ := h
  unfold noE
  rw [app_cps, Array.toList_append, Classical.not_not]
  have := newN_e j
  unfold noE at this
  exact List.mem_append_left _ (Classical.not_not.mp this)
theorem nm9_inj {i j : Nat} {z : Str} (hi : i < 402) (hj : j < 402) (h : nm9 i z) (h' : nm9 j z) : i = j := by
  obtain ⟨k, hk, e⟩ := h
  obtain ⟨k', hk', e'⟩ := h'
  rw [e] at e'
  have l := congrArg (fun s : Str => s.cps.toList) e'
  simp only [newN, app_cps, Array.toList_append, List.append_assoc] at l
  have l2 := List.append_cancel_left l
  have b1 := sk_noB i hi
  have b2 := sk_noB j hj
  have c : ∀ {x : List Nat} {y : List Nat}, x = y ++ [32] → x.contains 32 = true := fun h => by rw [h]; simp
  apply sk_inj hi hj
  apply str_ext
  apply Array.toList_inj.mp
  rcases (by omega : k = 0 ∨ k = 1) with rfl | rfl <;> rcases (by omega : k' = 0 ∨ k' = 1) with rfl | rfl
  · rw [sp9_0, List.append_nil, List.append_nil] at l2; exact l2
  · rw [sp9_0, sp9_1, List.append_nil] at l2
    rw [c l2] at b1; cases b1
  · rw [sp9_0, sp9_1, List.append_nil] at l2
    rw [c l2.symm] at b2; cases b2
  · rw [sp9_1] at l2; exact List.append_cancel_right l2
theorem nm9_ok {j : Nat} {z : Str} (hj : j < 402) (h : nm9 j z) : PyData.strOk z = true := by
  obtain ⟨k, hk, rfl⟩ := h
  refine ok_app (newN_ok hj) ?_
  rcases (by omega : k = 0 ∨ k = 1) with rfl | rfl <;> decide +kernel
abbrev Sl (a p : Addr) (y2 : Option V) (h : Addr) (D : Nat) (r ro ga : Addr) (y8 y9 y10 y11 y12 y13 y14 : Option V) : L2.St := [some (.ref a), some (.ref p), y2, some (.ref h), some (.int (D : Int)), some (.ref r), some (.ref ro), some (.ref ga), y8, y9, y10, y11, y12, y13, y14]
def t_count (R : Rep K) (C : Cs) : TS :=
  (tSeq (tAsg (tCall sTurned [] E0 (tCons (tVar 6) (tCons (tOp oSub (tVar 4) (tC (.int 1))) tNil))) (gName 6))
  (tSeq (tDrop (tBM K "list" rAppend (tVar 7) (tCons (tOp (rIxL K) (tVar 6) (tC (.int 0))) tNil)))
  (tSeq (tAsg (tSl (rSlL K) (tVar 6) (tPart (tC (.int 1))) tNoPart) (gName 6))
  (tIfS (tTest (tOp rNe (tMeth R.C "count" (sCountM R C.hand) [] E0 (tVar 5) tNil) (tOp (rIxL K) (tVar 7) (tUn oNeg (tC (.int 1))))))
  (tRet (tC (.bl false)))
  tNext))))
theorem count9_go {R : Rep K} {C : Cs} {a p h r ro ga : Addr} {D : Nat} {H : Hp} {F : Addr → Prop} {L G t : List Str} {z : Str} {y2 y8 y9 y10 y11 y12 y13 y14 : Option V} {De : Ends} (d1 : 1 ≤ D) (s : S10 K R p r D q9 o9 H F ro ga L G L G) (hz : Jos.rotN (D - 1) L = z :: t) (b1 : L.length ≤ 1000) (b2 : G.length ≤ 1000)
    (k : ∀ F' ro' H', S10 K R p r D q9 o9 H' F' ro' ga t (G ++ [z]) t (G ++ [z]) → De.nx (Sl a p y2 h D r ro' ga y8 y9 y10 y11 y12 y13 y14) H') :
    t_count R C De (Sl a p y2 h D r ro ga y8 y9 y10 y11 y12 y13 y14) H := by
  have hl0 : 0 < L.length := by
    have := Jos.rotN_len (D - 1) L
    rw [hz] at this; simp at this; omega
  refine ⟨_, rfl, _, rfl, _, _, rfl, rfl, ?_⟩
  refine ⟨ro, _, _, rfl, s.hr, by rw [List.length_map]; exact hl0, by rw [List.length_map]; omega, fun w H1 nw e1 hw => ?_⟩
  rw [turned_eq d1 hl0, hz] at hw
  have s1 := s.row e1 nw hw
  refine ⟨_, rfl, ty_l s1.hg, _, rfl, w, _, 0, .str z, rfl, rfl, sq_of hw, (by exact at0), ga, _, _, rfl, rfl, s1.hg, ?_, ?_⟩
  · rw [List.length_map]; exact sz_lt (by omega)
  have s2 := s1.app (z := z)
  rw [List.map_append] at s2
  refine ⟨_, rfl, _, rfl, w, _, rfl, sq_of s2.hr, fun v nv => ?_⟩
  have e4 := Evl.Ex.new (o := .lst (cutV ((z :: t).map V.str) (some (1 : Int)) none)) nv
  have hcut : cutV ((z :: t).map V.str) (some (1 : Int)) none = t.map V.str := by
    have := cut_from (xs := (z :: t).map V.str) (k := 1) (by simp)
    rw [show ((1 : Nat) : Int) = 1 from rfl] at this
    rw [this]; rfl
  rw [hcut] at e4 ⊢
  have s3 := s2.row (l' := t) e4 nv upd_same
  refine ⟨_, rfl, ?_⟩
  refine meth_of (m := "count") (by simp) s3.ring ?_
  show sCountM R C.hand [.ref r] _ _ E0
  refine count_go s3.ring hz fun F' H' q c => ?_
  have s4 := s3.go q c
  have hat : atI ((G ++ [z]).map V.str) (-1) = some (.str z) := last_at (n := G.length + 1) (by rw [List.map_append, Nat.add_sub_cancel, List.getElem?_append_right (by simp)]; simp) (by simp) (by omega)
  exact ⟨_, rfl, _, rfl, ga, _, -1, _, rfl, rfl, sq_of s4.hg, hat, rfl, _, rfl, iteC (fun c => (dec_self c).elim) (fun _ => k F' v H' s4)⟩
end K09
end Cd

set_option Elab.async false
set_option linter.all false
set_option maxRecDepth 100000
set_option maxHeartbeats 4000000
namespace Cd
open PySem PySem.Spec PyProof.Rows L2 Tx Kp Mx
open Evl (Ex sq_of ex_l sz_of sz_lt fresh_back)
open K11 (same_go empty_go take_next not_ahead)
variable {K : PySem.W.Frag} {q9 : Addr} {o9 : HO}
namespace K09
def t_comes (R : Rep K) (C : Cs) : TS :=
  (tSeq (tAsg (tOp (rIxL K) (tLst (tCons (tOp oAdd (tCB (rLenL K) (tCons (tVar 6) tNil)) (tC (.int 1))) (tCons (tUn oNeg (tC (.int 1))) (tCons (tC (.bl true)) (tCons (tC (.str "0")) (tCons (tOp oPow (tC (.int 10)) (tC (.int 60))) tNil)))))) (tOp oMod (tVar 11) (tC (.int 5)))) (gName 14))
  (tSeq (tIfS (tAnd (tTest (tOp rEq (tVar 10) (tC (.int 3)))) (tTest (tOp rNe (tCall (sCome9 R C) [] E0 (tCons (tVar 5) (tCons (tVar 13) (tCons (tVar 14) tNil)))) (tC (.str "place")))))
  (tRet (tC (.bl false)))
  tNext)
  (tSeq (tIfS (tTest (tOp rEq (tVar 10) (tC (.int 2))))
  (tAsg (tCB (rLenL K) (tCons (tVar 6) tNil)) (gName 12))
  tNext)
  (tSeq (tIfS (tTest (tOp oNotN (tCall (sCome9 R C) [] E0 (tCons (tVar 5) (tCons (tVar 13) (tCons (tOp (rIxL K) (tLst (tCons (tVar 12) (tCons (tC .non) tNil))) (tCB rInt1 (tCons (tOp rEq (tVar 10) (tC (.int 2))) tNil))) tNil)))) (tC .non)))
  (tRet (tC (.bl false)))
  tNext)
  (tDrop (tBM K "list" rInsert (tVar 6) (tCons (tVar 12) (tCons (tVar 13) tNil))))))))
theorem comes_go {R : Rep K} {C : Cs} {a p h r ro ga : Addr} {D j : Nat} {w rest : Int} {H : Hp} {F : Addr → Prop} {L G : List Str} {z : Str} {y2 y8 y9 y14 : Option V} {De : Ends} (s : S10 K R p r D q9 o9 H F ro ga L G L G) (okz : PyData.strOk z = true) (new : z ∉ L ++ G) (few : L.length + G.length < 400) (hj : j ≤ L.length)
    (k : ∀ F' L' i y12 y14 H', i ≤ L.length → L' = L.insertIdx i z → S10 K R p r D q9 o9 H' F' ro ga L' G L' G → De.nx (Sl a p y2 h D r ro ga y8 y9 (some (.int w)) (some (.int rest)) y12 (some (.str z)) y14) H') :
    t_comes R C De (Sl a p y2 h D r ro ga y8 y9 (some (.int w)) (some (.int rest)) (some (.int (j : Int))) (some (.str z)) y14) H := by
  refine ⟨_, rfl, ro, _, rfl, .inl (sq_of s.hr), _, _, rfl, rfl, _, rfl, _, _, rfl, rfl, ⟨by decide, by decide, by decide⟩, (by decide : 5 ≤ sizeLine), fun l nl => ?_⟩
  have e1 := Evl.Ex.new (o := .lst [.int (((L.map V.str).length : Int) + 1), .int (-1), .bl true, .str "0", .int (10 ^ (60 : Int).toNat)]) nl
  have s1 := s.ex e1
  refine ⟨_, rfl, _, _, rfl, rfl, pos0 (by decide), ?_⟩
  obtain ⟨bad, hb, hat⟩ := at_mod (n := rest) (xs := [V.int (((L.map V.str).length : Int) + 1), .int (-1), .bl true, .str "0", .int (10 ^ (60 : Int).toNat)]) (by simp)
  refine ⟨l, _, _, _, rfl, rfl, sq_of upd_same, hat, ?_⟩
  have tb : ∀ H, Typ K H bad := by
    intro H
    simp only [List.mem_cons, List.not_mem_nil, or_false] at hb
    rcases hb with rfl | rfl | rfl | rfl | rfl <;> first | exact Typ.int | exact Typ.bl | exact Typ.str
  have cb : comeAt L bad = none := by
    have hbig : (400 : Int) < big := by decide
    simp only [ten60, List.mem_cons, List.not_mem_nil, or_false, List.length_map] at hb
    rcases hb with rfl | rfl | rfl | rfl | rfl
    · unfold comeAt; dsimp only; rw [if_neg (by omega)]
    · unfold comeAt; dsimp only; rw [if_neg (by omega)]
    · rfl
    · rfl
    · unfold comeAt; dsimp only; rw [if_neg (by omega)]
  clear hb hat
  generalize upd H l (.lst [.int (((L.map V.str).length : Int) + 1), .int (-1), .bl true, .str "0", .int (10 ^ (60 : Int).toNat)]) = H1 at s1
  -- the coming that is right
  have fin : ∀ (i : Nat) (pv : V) (H2 : Hp), i ≤ L.length → comeAt L pv = some i → (∀ H, Typ K H pv) → S10 K R p r D q9 o9 H2 F ro ga L G L G → atI [V.int (i : Int), .non] (if (if w = 2 then true else false) = true then 1 else 0) = some pv →
      (tSeq (tIfS (tTest (tOp oNotN (tCall (sCome9 R C) [] E0 (tCons (tVar 5) (tCons (tVar 13) (tCons (tOp (rIxL K) (tLst (tCons (tVar 12) (tCons (tC .non) tNil))) (tCB rInt1 (tCons (tOp rEq (tVar 10) (tC (.int 2))) tNil))) tNil)))) (tC .non)))
      (tRet (tC (.bl false)))
      tNext)
      (tDrop (tBM K "list" rInsert (tVar 6) (tCons (tVar 12) (tCons (tVar 13) tNil))))) De (Sl a p y2 h D r ro ga y8 y9 (some (.int w)) (some (.int rest)) (some (.int (i : Int))) (some (.str z)) (some bad)) H2 := by
    intro i pv H2 hi hpv tp s2 hat
    refine ⟨_, rfl, _, rfl, _, rfl, (by decide : 2 ≤ sizeLine), fun x nx => ?_⟩
    have e3 := Evl.Ex.new (o := .lst [.int (i : Int), .non]) nx
    have s3 := s2.ex e3
    refine ⟨_, rfl, rfl, .inr ⟨_, rfl, ?_⟩⟩
    have hdec : decide (V.int w = V.int 2) = (if w = 2 then true else false) := by
      by_cases c : w = 2
      · subst c; simp
      · rw [if_neg c]; exact decide_eq_false fun e => c (V.int.inj e)
    rw [hdec]
    refine ⟨x, _, _, pv, rfl, rfl, sq_of upd_same, hat, ?_⟩
    show sCome9 R C [.ref r, .str z, pv] _ _ E0
    refine come_right (i := i) s3.ring okz (tp _) new hpv few fun F' H4 q c => ?_
    have s4 := s3.go q c
    refine ⟨rfl, _, rfl, iteC (fun c => (dec_self c).elim) (fun _ => ?_)⟩
    refine ⟨_, rfl, ty_l s4.hr, _, rfl, _, rfl, ro, _, _, _, rfl, rfl, s4.hr, ?_, by omega, by omega, ?_⟩
    · rw [List.length_map]; exact sz_lt (by omega)
    · rw [Int.toNat_natCast, ins_map hi]
      exact k F' _ i _ _ _ hi rfl s4.ins
  have go2 : ∀ H2, S10 K R p r D q9 o9 H2 F ro ga L G L G → (tSeq (tIfS (tTest (tOp rEq (tVar 10) (tC (.int 2))))
      (tAsg (tCB (rLenL K) (tCons (tVar 6) tNil)) (gName 12))
      tNext)
      (tSeq (tIfS (tTest (tOp oNotN (tCall (sCome9 R C) [] E0 (tCons (tVar 5) (tCons (tVar 13) (tCons (tOp (rIxL K) (tLst (tCons (tVar 12) (tCons (tC .non) tNil))) (tCB rInt1 (tCons (tOp rEq (tVar 10) (tC (.int 2))) tNil))) tNil)))) (tC .non)))
      (tRet (tC (.bl false)))
      tNext)
      (tDrop (tBM K "list" rInsert (tVar 6) (tCons (tVar 12) (tCons (tVar 13) tNil)))))) De (Sl a p y2 h D r ro ga y8 y9 (some (.int w)) (some (.int rest)) (some (.int (j : Int))) (some (.str z)) (some bad)) H2 := by
    intro H2 s2
    refine ⟨_, rfl, rfl, _, rfl, iteC (fun c => ?_) (fun c => ?_)⟩
    · have hw : w = 2 := V.int.inj (of_decide_eq_true c)
      refine ⟨_, rfl, ro, _, rfl, .inl (sq_of s2.hr), ?_⟩
      rw [List.length_map]
      refine fin L.length .non H2 (Nat.le_refl _) rfl (fun _ => Typ.non) s2 ?_
      rw [if_pos hw]; rfl
    · have hw : w ≠ 2 := fun e => by
        rw [e, decide_eq_true rfl] at c; cases c
      refine fin j (.int (j : Int)) H2 hj ?_ (fun _ => Typ.int) s2 ?_
      · unfold comeAt
        dsimp only
        rw [if_pos ⟨by omega, by omega⟩]
        rfl
      · rw [if_neg hw]; rfl
  refine ⟨_, rfl, rfl, _, rfl, iteC (fun _ => ?_) (fun _ => go2 H1 s1)⟩
  refine ⟨_, rfl, _, rfl, _, rfl, ?_⟩
  show sCome9 R C [.ref r, .str z, bad] H1 _ E0
  refine come_place s1.ring okz (tb _) new cb fun H2 e2 => ?_
  exact ⟨rfl, _, rfl, iteC (fun c => (dec_self c).elim) (fun _ => go2 H2 (s1.ex e2))⟩
end K09
end Cd

set_option Elab.async false
set_option linter.all false
set_option maxRecDepth 100000
set_option maxHeartbeats 4000000
namespace Cd
open PySem PySem.Spec PyProof.Rows L2 Tx Kp Mx
open Evl (Ex sq_of ex_l sz_of sz_lt fresh_back)
open K11 (same_go empty_go take_next not_ahead)
variable {K : PySem.W.Frag} {q9 : Addr} {o9 : HO}
namespace K09
def t_shown (R : Rep K) : TS :=
  (tIfS (tOr (tTest (tOp (rEqF K true) (tMeth R.C "left" (sLeftM R) [] E0 (tVar 5) tNil) (tVar 6))) (tTest (tOp (rEqF K true) (tMeth R.C "gone" (sGoneM R) [] E0 (tVar 5) tNil) (tVar 7))))
  (tRet (tC (.bl false)))
  tNext)
theorem shown_go {R : Rep K} {a p h r ro ga : Addr} {D : Nat} {H : Hp} {F : Addr → Prop} {L G : List Str} {y2 y8 y9 y10 y11 y12 y13 y14 : Option V} {De : Ends} (s : S10 K R p r D q9 o9 H F ro ga L G L G) (ok : ∀ z ∈ L ++ G, PyData.strOk z = true)
    (k : ∀ H', S10 K R p r D q9 o9 H' F ro ga L G L G → De.nx (Sl a p y2 h D r ro ga y8 y9 y10 y11 y12 y13 y14) H') :
    t_shown R De (Sl a p y2 h D r ro ga y8 y9 y10 y11 y12 y13 y14) H := by
  have okL : (L.map V.str).all plain = true := str_plain fun z hz => ok z (List.mem_append_left _ hz)
  have okG : (G.map V.str).all plain = true := str_plain fun z hz => ok z (List.mem_append_right _ hz)
  refine ⟨_, rfl, ?_⟩
  refine meth_of (m := "left") (by simp) s.ring ?_
  show sLeftM R [.ref r] H _ E0
  refine left_go s.ring fun x H1 nx e1 hx => ?_
  have s1 := s.ex e1
  refine ⟨_, rfl, ?_⟩
  refine same_go (sq_of hx) (sq_of s1.hr) okL ⟨_, rfl, iteC (fun c => by cases c) (fun _ => ?_)⟩
  refine ⟨_, rfl, ?_⟩
  refine meth_of (m := "gone") (by simp) s1.ring ?_
  show sGoneM R [.ref r] H1 _ E0
  refine gone_go s1.ring fun y H2 ny e2 hy => ?_
  have s2 := s1.ex e2
  refine ⟨_, rfl, ?_⟩
  exact same_go (sq_of hy) (sq_of s2.hg) okG ⟨_, rfl, iteC (fun c => by cases c) (fun _ => k H2 s2)⟩
def t_turn (R : Rep K) (C : Cs) : TS :=
  (tSeq (tAsg (tOp oMod (tVar 9) (tC (.int 6))) (gName 10))
  (tSeq (tAsg (tOp oFdiv (tVar 9) (tC (.int 6))) (gName 11))
  (tSeq (tAsg (tOp oMod (tVar 11) (tOp oAdd (tCB (rLenL K) (tCons (tVar 6) tNil)) (tC (.int 1)))) (gName 12))
  (tSeq (tAsg (tOp oAddS (tOp oAddS (tC (.str "new")) (tCB oStrI (tCons (tVar 8) tNil))) (tOp oMulS (tC (.str " ")) (tOp oMod (tVar 11) (tC (.int 2))))) (gName 13))
  (tSeq (tIfS (tAnd (tTest (tOp oLt (tVar 10) (tC (.int 2)))) (tTest (tOp (rEqF K true) (tVar 6) (tLst tNil))))
  (t_count R C)
  (tIfS (tOr (tAnd (tTest (tOp rEq (tVar 10) (tC (.int 4)))) (tTest (tOp (rEqF K true) (tOp rCat (tVar 6) (tVar 7)) (tLst tNil)))) (tTest (tOp rEq (tVar 10) (tC (.int 5)))))
  (tIfS (tNot (tB (tCall (sRefused R C) [] E0 (tCons (tVar 5) (tCons (tVar 6) (tCons (tVar 7) (tCons (tVar 11) (tCons (tVar 10) tNil))))))))
  (tRet (tC (.bl false)))
  tNext)
  (t_comes R C)))
  (t_shown R))))))
theorem turn_go {R : Rep K} {C : Cs} {a p h r ro ga : Addr} {D i : Nat} {cell : Int} {H : Hp} {F : Addr → Prop} {zs L G : List Str} {y2 y10 y11 y12 y13 y14 : Option V} {De : Ends} (d1 : 1 ≤ D) (s : S10 K R p r D q9 o9 H F ro ga L G L G) (o : OwnN nm9 zs L G i) (ne : ∀ z ∈ zs, noE z) (ok : ∀ z ∈ zs, PyData.strOk z = true) (hi : i < 100) (hz : zs.length ≤ 14)
    (k : ∀ F' ro' L' G' y10 y11 y12 y13 y14 H', S10 K R p r D q9 o9 H' F' ro' ga L' G' L' G' → OwnN nm9 zs L' G' (i + 1) → De.nx (Sl a p y2 h D r ro' ga (some (.int (i : Int))) (some (.int cell)) y10 y11 y12 y13 y14) H') :
    t_turn R C De (Sl a p y2 h D r ro ga (some (.int (i : Int))) (some (.int cell)) y10 y11 y12 y13 y14) H := by
  have hl := o.len
  refine ⟨_, rfl, _, _, rfl, rfl, pos0 (by decide), ?_⟩
  refine ⟨_, rfl, _, _, rfl, rfl, ⟨by decide, by decide⟩, ?_⟩
  refine ⟨_, rfl, _, rfl, ro, _, rfl, .inl (sq_of s.hr), _, _, rfl, rfl, _, _, rfl, rfl, pos0 (by omega), ?_⟩
  obtain ⟨j, hj, hj2⟩ : ∃ j : Nat, cell / 6 % (((L.map V.str).length : Int) + 1) = (j : Int) ∧ j ≤ L.length := by
    rw [List.length_map]
    have b1 : 0 ≤ cell / 6 % ((L.length : Int) + 1) := Int.emod_nonneg _ (by omega)
    have b2 : cell / 6 % ((L.length : Int) + 1) < (L.length : Int) + 1 := Int.emod_lt_of_pos _ (by omega)
    exact ⟨(cell / 6 % ((L.length : Int) + 1)).toNat, by omega, by omega⟩
  dsimp only
  rw [hj]
  have f := sk_facts i (by omega)
  have lg : ((i : Int)).natAbs.log2 < 1920 := Nat.lt_of_le_of_lt (Nat.log2_le_self _) (by omega)
  obtain ⟨b, hb, hb2⟩ : ∃ b : Nat, cell / 6 % 2 = (b : Int) ∧ b < 2 := by
    have b1 : 0 ≤ cell / 6 % 2 := Int.emod_nonneg _ (by decide)
    have b2 : cell / 6 % 2 < 2 := Int.emod_lt_of_pos _ (by decide)
    exact ⟨(cell / 6 % 2).toNat, by omega, by omega⟩
  refine ⟨_, rfl, _, rfl, lg, _, _, rfl, rfl, ?_, _, rfl, _, _, rfl, rfl, pos0 (by decide), ?_⟩
  · show (Str.ofString "new").length + (sk i).length ≤ sizeLine
    rw [show (Str.ofString "new").length = 3 by decide +kernel]
    exact sz_of (by omega)
  dsimp only
  rw [hb]
  refine ⟨_, b, rfl, rfl, by decide +kernel, by omega, _, _, rfl, rfl, ?_, ?_⟩
  · show (newN i).length + (sp9 b).length ≤ sizeLine
    have h1 : (newN i).length = 3 + (sk i).length := by unfold newN; rw [app_len]; congr 1
    have h2 : (sp9 b).length ≤ 1 := by
      rcases (by omega : b = 0 ∨ b = 1) with rfl | rfl <;> decide +kernel
    rw [h1]
    exact sz_of (by omega)
  have hz9 : nm9 i (newN i ++ sp9 b) := ⟨b, hb2, rfl⟩
  show (tSeq _ (t_shown R)) De (Sl a p y2 h D r ro ga (some (.int (i : Int))) (some (.int cell)) (some (.int (cell % 6))) (some (.int (cell / 6))) (some (.int (j : Int))) (some (.str (newN i ++ sp9 b))) y14) H
  generalize hzz : newN i ++ sp9 b = z at hz9
  have okz := nm9_ok (j := i) (by omega) hz9
  have new : z ∉ L ++ G := o.new ne hz9 (fun j z e => nm9_e e) fun x y z hx hy ex ey => nm9_inj (by omega) (by omega) ex ey
  have okn : ∀ j z, j < i + 1 → nm9 j z → PyData.strOk z = true := fun j z hj e => nm9_ok (by omega) e
  have fin : ∀ F' ro' L' G' y10 y11 y12 y13 y14 H', S10 K R p r D q9 o9 H' F' ro' ga L' G' L' G' → OwnN nm9 zs L' G' (i + 1) → t_shown R De (Sl a p y2 h D r ro' ga (some (.int (i : Int))) (some (.int cell)) y10 y11 y12 y13 y14) H' :=
    fun F' ro' L' G' y10 y11 y12 y13 y14 H' s' o' => shown_go s' (o'.ok ok okn) fun H2 s2 => k _ _ _ _ _ _ _ _ _ _ s2 o'
  have okL : (L.map V.str).all plain = true := str_plain fun z hz => o.ok ok (fun j z hj e => okn j z (by omega) e) z (List.mem_append_left _ hz)
  have okG : (G.map V.str).all plain = true := str_plain fun z hz => o.ok ok (fun j z hj e => okn j z (by omega) e) z (List.mem_append_right _ hz)
  -- not a count
  have two : ∀ H', S10 K R p r D q9 o9 H' F ro ga L G L G → (tIfS (tOr (tAnd (tTest (tOp rEq (tVar 10) (tC (.int 4)))) (tTest (tOp (rEqF K true) (tOp rCat (tVar 6) (tVar 7)) (tLst tNil)))) (tTest (tOp rEq (tVar 10) (tC (.int 5)))))
      (tIfS (tNot (tB (tCall (sRefused R C) [] E0 (tCons (tVar 5) (tCons (tVar 6) (tCons (tVar 7) (tCons (tVar 11) (tCons (tVar 10) tNil))))))))
      (tRet (tC (.bl false)))
      tNext)
      (t_comes R C)) { De with nx := t_shown R De } (Sl a p y2 h D r ro ga (some (.int (i : Int))) (some (.int cell)) (some (.int (cell % 6))) (some (.int (cell / 6))) (some (.int (j : Int))) (some (.str z)) y14) H' := by
    intro H' s'
    have comes : ∀ H2, S10 K R p r D q9 o9 H2 F ro ga L G L G → t_comes R C { De with nx := t_shown R De } (Sl a p y2 h D r ro ga (some (.int (i : Int))) (some (.int cell)) (some (.int (cell % 6))) (some (.int (cell / 6))) (some (.int (j : Int))) (some (.str z)) y14) H2 :=
      fun H2 s2 => comes_go s2 okz new (by omega) hj2 fun F' L' i' y12 y14 H3 hi' eL s3 => fin _ _ _ _ _ _ _ _ _ _ s3 (by rw [eL]; exact o.come new hz9 hi')
    have refu : ∀ H2, S10 K R p r D q9 o9 H2 F ro ga L G L G → (cell % 6 = 4 → L ++ G ≠ []) → (tIfS (tNot (tB (tCall (sRefused R C) [] E0 (tCons (tVar 5) (tCons (tVar 6) (tCons (tVar 7) (tCons (tVar 11) (tCons (tVar 10) tNil))))))))
        (tRet (tC (.bl false)))
        tNext) { De with nx := t_shown R De } (Sl a p y2 h D r ro ga (some (.int (i : Int))) (some (.int cell)) (some (.int (cell % 6))) (some (.int (cell / 6))) (some (.int (j : Int))) (some (.str z)) y14) H2 := by
      intro H2 s2 hne
      refine ⟨_, rfl, _, rfl, _, rfl, _, rfl, _, rfl, ?_⟩
      show sRefused R C [.ref r, .ref ro, .ref ga, .int (cell / 6), .int (cell % 6)] H2 _ E0
      unfold sRefused
      exact ⟨r, ro, ga, F, L, G, D, cell / 6, cell % 6, rfl, s2.ring, s2.hr, s2.hg, by omega, o.ok ok (fun j z hj e => okn j z (by omega) e), hne, fun H3 e3 => ⟨true, rfl, iteF (fin _ _ _ _ _ _ _ _ _ _ (s2.ex e3) o.mono)⟩⟩
    refine ⟨_, rfl, rfl, _, rfl, iteC (fun c => ?_) (fun c => ?_)⟩
    · -- way 4
      refine ⟨_, rfl, _, rfl, ro, ga, _, _, rfl, rfl, s'.hr, s'.hg, ?_, fun x nx => ⟨Nat.zero_le _, fun y ny => ?_⟩⟩
      · rw [List.length_map, List.length_map]; exact sz_of (by omega)
      have e1 := Evl.Ex.new (o := .lst (L.map V.str ++ G.map V.str)) nx
      have e2 := Evl.Ex.new (o := .lst []) ny
      have s2 := (s'.ex e1).ex e2
      refine empty_go (xs := L.map V.str ++ G.map V.str) (sq_of (e2 _ _ upd_same)) (sq_of upd_same) (by rw [List.all_append, okL, okG]; rfl) ⟨_, rfl, iteC (fun c1 => ?_) (fun c1 => ?_)⟩
      · refine refu _ s2 fun _ z => ?_
        have := List.append_eq_nil_iff.mp z
        rw [this.1, this.2] at c1
        simp at c1
      · refine ⟨_, rfl, rfl, _, rfl, iteC (fun c5 => refu _ s2 fun h4 => ?_) (fun _ => comes _ s2)⟩
        have := V.int.inj (of_decide_eq_true c5)
        omega
    · refine ⟨_, rfl, rfl, _, rfl, iteC (fun c5 => refu _ s' fun h4 => ?_) (fun _ => comes _ s')⟩
      have := V.int.inj (of_decide_eq_true c5)
      omega
  refine ⟨_, rfl, _, _, rfl, rfl, _, rfl, iteC (fun _ => ?_) (fun _ => two H s)⟩
  refine ⟨_, rfl, Nat.zero_le _, fun x nx => ?_⟩
  have e1 := Evl.Ex.new (o := .lst []) nx
  have s1 := s.ex e1
  refine empty_go (sq_of s1.hr) (sq_of upd_same) okL ⟨_, rfl, iteC (fun c1 => ?_) (fun _ => two _ s1)⟩
  have hL0 : 0 < L.length := by
    cases L with
    | nil => simp at c1
    | cons z t => simp
  obtain ⟨y, t, hy, hyi, ht⟩ := Jos.out_head (D - 1) 0 L hL0
  rw [show (0 : Nat) + 1 = 1 from rfl] at ht
  have e : (Jos.out (D - 1) L.length L).take 1 = [y] := by
    have := take_next hyi
    rw [List.take_zero, List.nil_append] at this; exact this
  have o1 := o.counts (D - 1) 1 (by omega)
  rw [e, ht] at o1
  exact count9_go d1 s1 hy (by omega) (by omega) fun F' ro' H2 s2 => fin _ _ _ _ _ _ _ _ _ _ s2 o1.mono
end K09
end Cd

set_option Elab.async false
set_option linter.all false
set_option maxRecDepth 100000
set_option maxHeartbeats 4000000
namespace Cd
open PySem PySem.Spec PyProof.Rows L2 Tx Kp Mx
open Evl (Ex sq_of ex_l sz_of sz_lt fresh_back)
open K11 (same_go empty_go take_next not_ahead)
variable {K : PySem.W.Frag} {q9 : Addr} {o9 : HO}
namespace K09
def t_rest (R : Rep K) (C : Cs) : TS :=
  (tSeq (tAsg (tOp oAdd (tC (.int 1)) (tOp oMod (tCall sNext [] E0 (tCons (tVar 1) tNil)) (tC (.int 9)))) (gName 2))
  (tSeq (tAsg (tCall sHands [] E0 (tCons (tVar 1) (tCons (tVar 2) tNil))) (gName 3))
  (tSeq (tAsg (tCall sStep [] E0 (tCons (tVar 1) (tCons (tC (.int 40)) tNil))) (gName 4))
  (tSeq (tAsg (tMake R.C (sInit R C.ring C.step C.place) [.int 0] E0 (tCons (tVar 3) (tCons (tVar 4) tNil))) (gName 5))
  (tSeq (tAsg (tCB (rListOf K) (tCons (tVar 3) tNil)) (gName 6))
  (tSeq (tAsg (tLst tNil) (gName 7))
  (tSeq (tFor (iEnum K (tCons (tSl (rSlL K) (tVar 0) (tPart (tC (.int 2))) (tPart (tC (.int 26)))) tNil)) (gTup K 2 (gCons (gName 8) (gCons (gName 9) gNil)))
  (t_turn R C))
  (tRet (tAndV (tOp (rEqF K false) (tMeth R.C "left" (sLeftM R) [] E0 (tVar 5) tNil) (tVar 6)) (tOp (rEqF K false) (tMeth R.C "gone" (sGoneM R) [] E0 (tVar 5) tNil) (tVar 7)))))))))))
theorem cut_int {xs : List V} {lo hi : Option Int} {x : V} (h : x ∈ cutV xs lo hi) : x ∈ xs := by
  unfold cutV at h
  exact List.mem_of_mem_drop (List.mem_of_mem_take h)
theorem cut_few {xs : List V} : (cutV xs (some 2) (some 26)).length ≤ 24 := by
  unfold cutV
  rw [show HT.sIx xs.length 0 (some (2 : Int)) = min 2 xs.length from HT.sIx_nat xs.length 0 2, show HT.sIx xs.length xs.length (some (26 : Int)) = min 26 xs.length from HT.sIx_nat xs.length xs.length 26]
  rw [List.length_take]
  omega
theorem rest_go {R : Rep K} {C : Cs} {a p : Addr} {ns : List Int} {y2 y3 y4 y5 y6 y7 y8 y9 y10 y11 y12 y13 y14 : Option V} {De : Ends} {H : Hp} (st : StAt H p) (sc : ScAt K H a p ns) (q : ∀ H', De.rt (.bl true) H') :
    t_rest R C De [some (.ref a), some (.ref p), y2, y3, y4, y5, y6, y7, y8, y9, y10, y11, y12, y13, y14] H := by
  refine ⟨_, rfl, p, rfl, st, fun H2 n2 r2 _ _ => ?_⟩
  refine ⟨_, _, rfl, rfl, pos0 (by decide), _, _, rfl, rfl, ?_⟩
  obtain ⟨M, hM, m1, m2⟩ : ∃ M : Nat, 1 + n2 % 9 = (M : Int) ∧ 1 ≤ M ∧ M ≤ 9 := by
    have b1 : 0 ≤ n2 % 9 := Int.emod_nonneg _ (by decide)
    have b2 : n2 % 9 < 9 := Int.emod_lt_of_pos _ (by decide)
    exact ⟨(1 + n2 % 9).toNat, by omega, by omega, by omega⟩
  dsimp only
  rw [hM]
  refine ⟨_, rfl, _, rfl, p, M, rfl, r2.2, by omega, fun h H3 zs nh r3 hh hz hn ok ne => ?_⟩
  have nhp : h ≠ p := r2.2.ne nh
  refine ⟨_, rfl, p, 40, rfl, r3.2, by decide, fun H4 d r4 d1 d2 => ?_⟩
  obtain ⟨D, rfl⟩ : ∃ D : Nat, d = (D : Int) := ⟨d.toNat, by omega⟩
  have hh4 := r4.keep nhp hh
  have st4 := r4.2
  have sq4 := sc _ (r2.trans (r3.trans r4))
  refine ⟨_, rfl, _, rfl, ?_⟩
  intro r dx nr ndx ner
  refine make_go (E := E0) (b := 0) hh4 (by omega) (by omega) hn ok (by omega) (by unfold big; omega) (by omega) nr ndx ner fun F H5 q5 fr5 e5 => ?_
  rw [Jos.rot_zero] at q5
  have hh5 := e5 _ _ hh4
  have st5 := st4.ex e5
  have sq5 : SqL K H5 a (ns.map V.int) := by
    rcases sq4 with (h | ⟨o, h⟩) | h
    · exact .inl (.inl (e5 _ _ h))
    · exact .inl (.inr ⟨o, e5 _ _ h⟩)
    · exact .inr h
  have nFp : ¬ F p := fun z => by
    obtain ⟨x, _, y⟩ := st4
    have := fr5 p z; rw [y] at this; cases this
  refine ⟨_, rfl, h, _, rfl, .inl (sq_of hh5), fun ro nro => ?_⟩
  have e6 := Evl.Ex.new (o := .lst (zs.map V.str)) nro
  refine ⟨Nat.zero_le _, fun ga nga => ?_⟩
  have e7 := Evl.Ex.new (o := .lst []) nga
  have hro := e7 _ _ (show _ = some (HO.lst (zs.map V.str)) from upd_same (H := H5) (a := ro))
  have hga : _ = some (HO.lst (([] : List Str).map V.str)) := upd_same (H := upd H5 ro (.lst (zs.map V.str))) (a := ga)
  have e57 := e6.trans e7
  have nga5 : H5 ga = none := fresh_back e6 nga
  have sq7 : SqL K (upd (upd H5 ro (.lst (zs.map V.str))) ga (.lst [])) a (ns.map V.int) := by
    rcases sq5 with (h | ⟨o, h⟩) | h
    · exact .inl (.inl (e57 _ _ h))
    · exact .inl (.inr ⟨o, e57 _ _ h⟩)
    · exact .inr h
  refine ⟨_, rfl, _, rfl, _, rfl, a, _, rfl, sq7, fun l nl => ?_⟩
  have e8 := Evl.Ex.new (o := .lst (cutV (ns.map V.int) (some 2) (some 26))) nl
  have e58 := e57.trans e8
  have nl5 : H5 l = none := fresh_back e57 nl
  have hl8 := show _ = some (HO.lst (cutV (ns.map V.int) (some 2) (some 26))) from upd_same (H := upd (upd H5 ro (.lst (zs.map V.str))) ga (.lst [])) (a := l)
  have s0 : S10 K R p r D l (.lst (cutV (ns.map V.int) (some 2) (some 26))) (upd (upd (upd H5 ro (.lst (zs.map V.str))) ga (.lst [])) l (.lst (cutV (ns.map V.int) (some 2) (some 26)))) F ro ga zs [] zs [] := by
    refine ⟨Rep.ex q5 e58, e8 _ _ hro, e8 _ _ hga, st5.ex e58, nFp, Rep.free q5 nro, Rep.free q5 nga5, fun z => ?_, st5.ne nro, st5.ne nga5, hl8, Rep.free q5 nl5, fun z => ?_, fun z => ?_, st5.ne nl5⟩
    · rw [← z, upd_same] at nga; cases nga
    · rw [z, hro] at nl; cases nl
    · rw [z, upd_same] at nl; cases nl
  have o0 : OwnN nm9 zs zs [] 0 := ⟨by simp, by rw [List.append_nil]; exact hn, fun z hz => .inl (by rw [List.append_nil] at hz; exact hz)⟩
  refine ⟨l, _, rfl, sq_of hl8, for_enum (xs := cutV (ns.map V.int) (some 2) (some 26)) (fun i σ H' => ∃ F ro L G y8 y9 y10 y11 y12 y13 y14, σ = Sl a p (some (.int (M : Int))) h D r ro ga y8 y9 y10 y11 y12 y13 y14 ∧ S10 K R p r D l (.lst (cutV (ns.map V.int) (some 2) (some 26))) H' F ro ga L G L G ∧ OwnN nm9 zs L G i)
    ⟨F, ro, zs, [], _, _, _, _, _, _, _, rfl, s0, o0⟩ (fun i σ H' _ hP => ?_) ?_ ?_⟩
  · obtain ⟨_, _, _, _, _, _, _, _, _, _, _, _, s, _⟩ := hP
    exact sq_of s.hq
  · intro i x σ H' T hx hP nT
    obtain ⟨F, ro, L, G, y8, y9, y10, y11, y12, y13, y14, rfl, s, o⟩ := hP
    obtain ⟨cell, rfl⟩ : ∃ cell : Int, x = .int cell := by
      obtain ⟨z, _, rfl⟩ := List.mem_map.mp (cut_int (List.mem_of_getElem? hx))
      exact ⟨z, rfl⟩
    have hi : i < 24 := Nat.lt_of_lt_of_le (List.getElem?_eq_some_iff.mp hx).1 cut_few
    have eT : Ex H' (upd H' T (.tup [.int (i : Nat), .int cell])) := Evl.Ex.new nT
    refine ⟨T, _, rfl, .inl (.inl upd_same), rfl, _, _, rfl, _, _, rfl, rfl, ?_⟩
    exact turn_go (by omega) (s.ex eT) o ne ok (by omega) (by omega) fun F' ro' L' G' y10 y11 y12 y13 y14 H'' s' o' => ⟨F', ro', L', G', _, _, _, _, _, _, _, rfl, s', o'⟩
  · intro σ H' hP
    obtain ⟨F, ro, L, G, y8, y9, y10, y11, y12, y13, y14, rfl, s, o⟩ := hP
    have hlen := o.len
    have few := cut_few (xs := ns.map V.int)
    have ok' := o.ok ok fun j z hj e => nm9_ok (by omega) e
    have okL : (L.map V.str).all plain = true := str_plain fun z hz => ok' z (List.mem_append_left _ hz)
    have okG : (G.map V.str).all plain = true := str_plain fun z hz => ok' z (List.mem_append_right _ hz)
    refine ⟨_, rfl, ?_⟩
    refine meth_of (m := "left") (by simp) s.ring ?_
    show sLeftM R [.ref r] H' _ E0
    refine left_go s.ring fun u G1 nu g1 hu => ?_
    have s1 := s.ex g1
    refine ⟨_, rfl, ?_⟩
    refine same_go (sq_of hu) (sq_of s1.hr) okL ⟨_, rfl, iteC (fun _ => ?_) (fun c => by cases c)⟩
    refine ⟨_, rfl, ?_⟩
    refine meth_of (m := "gone") (by simp) s1.ring ?_
    show sGoneM R [.ref r] G1 _ E0
    refine gone_go s1.ring fun v G2 nv g2 hv => ?_
    have s2 := s1.ex g2
    refine ⟨_, rfl, ?_⟩
    exact same_go (sq_of hv) (sq_of s2.hg) okG (q _)
def t_law (R : Rep K) (C : Cs) : TS :=
(tSeq (tAsg (tCall (sState K) [] E0 (tCons (tVar 0) (tCons (tC (.int 0)) tNil))) (gName 1))
  (tSeq (tIfS (tAnd (tTest (tOp rEq (tOp oMod (tCall (sCell K) [] E0 (tCons (tVar 0) (tCons (tC (.int 1)) tNil))) (tC (.int 8))) (tC (.int 3)))) (tNot (tB (tCall (sFull R C) [] E0 (tCons (tOp oAdd (tC (.int 1)) (tOp oMod (tOp oFdiv (tCall (sCell K) [] E0 (tCons (tVar 0) (tCons (tC (.int 1)) tNil))) (tC (.int 8))) (tC (.int 9)))) tNil)))))
  (tRet (tC (.bl false)))
  tNext)
  (t_rest R C)))
def sLaw (K : PySem.W.Frag) : Sp := fun vs H Q _ => ∃ (a : Addr) (ns : List Int), vs = [.ref a] ∧ SqL K H a (ns.map V.int) ∧ ∀ H', Q (.bl true) H'
theorem pure_law {R : Rep K} {C : Cs} {vs : List V} {H : Hp} {Q : VK} {E : XK} {nx : L2.St → Hp → Prop} (h : sLaw K vs H Q E) : t_law R C { nx := nx, rt := Q } (start ["_law_script", "_law_state_here", "_law_many", "_law_hands_here", "_law_step_here", "_law_ring", "_law_left", "_law_gone", "_law_turn", "_law_cell", "_law_way", "_law_rest", "_law_place", "_law_hand", "_law_bad"] vs) H := by
  obtain ⟨a, ns, rfl, hS, k⟩ := h
  refine ⟨_, rfl, a, ns, 0, rfl, hS, fun p H1 np e1 st1 => ?_⟩
  have sc1 := ScAt.of hS np e1
  refine ⟨_, rfl, a, ns, 1, rfl, sc1 _ (Run.refl st1), fun z => ?_⟩
  refine ⟨_, _, rfl, rfl, pos0 (by decide), rfl, _, rfl, iteC (fun _ => ?_) (fun _ => rest_go st1 sc1 k)⟩
  refine ⟨_, rfl, a, ns, 1, rfl, sc1 _ (Run.refl st1), fun z' => ?_⟩
  refine ⟨_, _, rfl, rfl, ⟨by decide, by decide⟩, _, _, rfl, rfl, pos0 (by decide), _, _, rfl, rfl, ?_⟩
  obtain ⟨D, hD, d1, d2⟩ : ∃ D : Nat, 1 + z' / 8 % 9 = (D : Int) ∧ 1 ≤ D ∧ D ≤ 100 := by
    have b1 : 0 ≤ z' / 8 % 9 := Int.emod_nonneg _ (by decide)
    have b2 : z' / 8 % 9 < 9 := Int.emod_lt_of_pos _ (by decide)
    exact ⟨(1 + z' / 8 % 9).toNat, by omega, by omega, by omega⟩
  dsimp only
  rw [hD]
  show sFull R C [.int (D : Int)] H1 _ E0
  unfold sFull
  exact ⟨D, rfl, d1, d2, fun H2 e2 => ⟨true, rfl, iteF (rest_go (st1.ex e2) (sc1.run (Run.ex st1 e2)) k)⟩⟩
end K09
end Cd

set_option Elab.async false
set_option linter.all false
set_option maxRecDepth 100000
set_option maxHeartbeats 4000000
namespace Cd
open PySem PySem.Spec PyProof.Rows L2 Tx Kp Mx
open Evl (Ex sq_of ex_l sz_of sz_lt fresh_back)
open K04 (eWord_of)
variable {K : PySem.W.Frag}
namespace K08
/-- a refusal's word, alone in a tuple -/
abbrev tupW (Q : VK) (z : Str) (H : Hp) : Prop := ∀ T H1, Ex H H1 → H1 T = none → Q (.ref T) (upd H1 T (.tup [.str z]))
def t_tried (R : Rep K) (C : Cs) : TS :=
(tSeq (tTryK K C.err 3 4 (fun W => (tSeq (tIfS (tTest (tOp rEq (tVar 1) (tC (.int 0))))
  (tRet (tMethX R.C "count" (sCountM R C.hand) [] (WE W) (tVar 0) tNil))
  tNext)
  (tRet (tMethX R.C "counts" (sCountsM R C.count) [] (WE W) (tVar 0) (tCons (tVar 2) tNil))))))
  (tRet (tTup (tCons (tCall (sErr K C) [] E0 (tCons (tVar 4) tNil)) tNil))))
@[irreducible] def sTried (R : Rep K) (C : Cs) : Sp := fun vs H Q _ => ∃ a F l g d, ∃ (way : Int) (m : V), vs = [.ref a, .int way, m] ∧ R.at_ H a F l g d ∧
  (way = 0 → (l = [] → tupW Q "hand" H) ∧ ∀ z t, Jos.rotN (d - 1) l = z :: t → ∀ F' H', R.at_ H' a F' t (g ++ [z]) d → Chg H F H' F' → Q (.str z) H') ∧
  (way ≠ 0 → Typ K H m ∧ (whB m 0 (l.length : Int) = false → tupW Q "count" H) ∧ ∀ k : Nat, m = .int (k : Int) → k ≤ l.length → ∀ o F' H', H o = none → ¬ F' o → R.at_ H' a F' (Jos.aft (d - 1) k l) (g ++ (Jos.out (d - 1) l.length l).take k) d → Chg H F H' F' →
    H' o = some (.lst (((Jos.out (d - 1) l.length l).take k).map V.str)) → Q (.ref o) H')
theorem pure_tried {R : Rep K} {C : Cs} (X : ErrF K C) {vs : List V} {H : Hp} {Q : VK} {E : XK} {nx : L2.St → Hp → Prop} (h : sTried R C vs H Q E) : t_tried R C { nx := nx, rt := Q } (start ["_law_ring", "_law_way", "_law_many", "_law_e", "_law_error_here"] vs) H := by
  unfold sTried at h
  obtain ⟨a, F, l, g, d, way, m, rfl, hr, q0, q1⟩ := h
  refine ⟨_, rfl, rfl, _, rfl, iteC (fun c => ?_) (fun c => ?_)⟩
  · obtain ⟨n1, n2⟩ := q0 (V.int.inj (of_decide_eq_true c))
    refine ⟨_, rfl, ?_⟩
    refine meth_of (m := "count") (by simp) hr ?_
    show sCountM R C.hand [.ref a] H _ _
    unfold sCountM
    refine ⟨a, F, l, g, d, rfl, hr, fun e H' x => ?_, n2⟩
    refine ⟨rfl, X.caught .hand, fun b nb => ?_⟩
    exact ⟨_, rfl, b, .hand, rfl, upd_same, fun H'' ex => ⟨(by decide : 1 ≤ sizeLine), fun T nT => n1 e T H'' (x.trans ((Evl.Ex.new nb).trans ex)) nT⟩⟩
  · have hw : way ≠ 0 := fun e => by
      rw [e, decide_eq_true rfl] at c; cases c
    obtain ⟨tm, n1, n2⟩ := q1 hw
    refine ⟨_, rfl, ?_⟩
    refine meth_of (m := "counts") (by simp) hr ?_
    refine ⟨_, rfl, ?_⟩
    show sCountsM R C.count [.ref a, m] H _ _
    unfold sCountsM
    refine ⟨a, m, F, l, g, d, rfl, hr, tm, fun e H' x => ?_, n2⟩
    refine ⟨rfl, X.caught .count, fun b nb => ?_⟩
    exact ⟨_, rfl, b, .count, rfl, upd_same, fun H'' ex => ⟨(by decide : 1 ≤ sizeLine), fun T nT => n1 e T H'' (x.trans ((Evl.Ex.new nb).trans ex)) nT⟩⟩
def t_made (R : Rep K) (C : Cs) : TS :=
(tSeq (tTryK K C.err 3 4 (fun W => (tSeq (tDrop (tMakeX R.C (sInit R C.ring C.step C.place) [] (WE W) (tCons (tVar 0) (tCons (tVar 1) (tCons (tVar 2) tNil)))))
  (tRet (tC (.str ""))))))
  (tRet (tCall (sErr K C) [] E0 (tCons (tVar 4) tNil))))
/-- a ring that is refused -/
@[irreducible] def sMade (R : Rep K) (C : Cs) : Sp := fun vs H Q _ => ∃ h d b, vs = [h, d, b] ∧ ∃ rb, IsR K H h rb ∧ Typ K H d ∧ Typ K H b ∧ (∀ l (zs : List Str), h = .ref l → H l = some (.lst (zs.map V.str)) → ∀ z ∈ zs, PyData.strOk z = true) ∧ (∀ l, h = .ref l → H l ≠ none) ∧
  (rb = false → ∀ H', Ex H H' → Q (.str "ring") H') ∧
  (rb = true → (whB d 1 big = false → ∀ H', Ex H H' → Q (.str "step") H') ∧ ∀ s : Nat, d = .int (s : Int) → 1 ≤ s → (s : Int) ≤ big → ∀ l (zs : List Str), h = .ref l → H l = some (.lst (zs.map V.str)) →
    whB b 0 ((zs.length : Int) - 1) = false ∧ ∀ H', Ex H H' → Q (.str "place") H')
theorem pure_made {R : Rep K} {C : Cs} (X : ErrF K C) {vs : List V} {H : Hp} {Q : VK} {E : XK} {nx : L2.St → Hp → Prop} (h : sMade R C vs H Q E) : t_made R C { nx := nx, rt := Q } (start ["_law_hands_here", "_law_step_here", "_law_begin", "_law_e", "_law_error_here"] vs) H := by
  unfold sMade at h
  obtain ⟨h, d, b, rfl, rb, hr, td, tb, ok, live, q0, q1⟩ := h
  refine ⟨_, rfl, _, rfl, _, rfl, ?_⟩
  intro x dx nx' ndx ne
  have e1 : Ex H (upd H dx (.own x)) := Evl.Ex.new ndx
  have e2 : Ex (upd H dx (.own x)) (upd (upd H dx (.own x)) x (.ins R.C dx [])) := Evl.Ex.new (by rw [upd_ne (Ne.symm ne)]; exact nx')
  have e := e1.trans e2
  have back : ∀ {l : Addr} {o : HO}, h = .ref l → upd (upd H dx (.own x)) x (.ins R.C dx []) l = some o → H l = some o := fun {l o} el hl => by
    cases q : H l with
    | none => exact absurd q (live l el)
    | some o' => rw [e _ _ q] at hl; exact hl
  have word : ∀ (k : Ek) (H' : Hp), (∀ H'', Ex H' H'' → Q (.str k.word) H'') → WE (wKp K (.ref C.err) 3 4 { nx := tRet (tCall (sErr K C) [] E0 (tCons (tVar 4) tNil)) { nx := nx, rt := Q }, rt := Q }) [some h, some d, some b, none, none] (.ref (C.on k)) none H' := by
    intro k H' q
    refine ⟨rfl, X.caught k, fun c nc => ?_⟩
    exact ⟨_, rfl, c, k, rfl, upd_same, fun H'' ex => q H'' ((Evl.Ex.new nc).trans ex)⟩
  show sInit R C.ring C.step C.place [.ref x, h, d, b] _ _ _
  unfold sInit
  refine ⟨x, h, d, b, H, rfl, ⟨dx, nx', ndx, ne, rfl⟩, rb, hr.ex e, ?_, ?_, fun l zs el hl => ok l zs el (back el hl), fun c H' x' => word .ring H' fun H'' y => q0 c H'' (x'.trans y), fun c => ⟨fun c2 H' x' => word .step H' fun H'' y => (q1 c).1 c2 H'' (x'.trans y), fun s es s1 s2 l zs el hl => ?_⟩⟩
  · exact td.ex e
  · exact tb.ex e
  · obtain ⟨n1, n2⟩ := (q1 c).2 s es s1 s2 l zs el (back el hl)
    refine ⟨fun _ H' x' => word .place H' fun H'' y => n2 H'' (x'.trans y), fun g eg hg => ?_⟩
    subst eg
    rw [wh_of (by omega) (by omega)] at n1
    cases n1
end K08
end Cd

set_option Elab.async false
set_option linter.all false
set_option maxRecDepth 100000
set_option maxHeartbeats 4000000
namespace Cd
open PySem PySem.Spec PyProof.Rows L2 Tx Kp Mx
open Evl (Ex sq_of ex_l sz_of sz_lt fresh_back)
variable {K : PySem.W.Frag}
/-! ### a dict of five -/
namespace K08
abbrev kk (s : Str) : Key := Sum.inr s
theorem kne {a b : Str} (h : (a == b) = false) : ¬ kk a = kk b := fun e => by
  rw [Sum.inr.inj e] at h
  simp at h
def ownK (row : Addr) (d k : Nat) (ord he : Addr) : List (Key × V) := [(kk "row", .ref row), (kk "step", .int (d : Int)), (kk "at", .int (k : Int)), (kk "order", .ref ord), (kk "held", .ref he)]
section
variable {row ord he : Addr} {d k j : Nat}
theorem own_row : valV (ownK row d k ord he) (kk "row") = some (.ref row) := valV_pos rfl
theorem own_step : valV (ownK row d k ord he) (kk "step") = some (.int (d : Int)) :=
  (valV_neg (kne (by decide +kernel))).trans (valV_pos rfl)
theorem own_at : valV (ownK row d k ord he) (kk "at") = some (.int (k : Int)) :=
  (valV_neg (kne (by decide +kernel))).trans ((valV_neg (kne (by decide +kernel))).trans (valV_pos rfl))
theorem own_order : valV (ownK row d k ord he) (kk "order") = some (.ref ord) :=
  (valV_neg (kne (by decide +kernel))).trans ((valV_neg (kne (by decide +kernel))).trans ((valV_neg (kne (by decide +kernel))).trans (valV_pos rfl)))
theorem own_held : valV (ownK row d k ord he) (kk "held") = some (.ref he) :=
  (valV_neg (kne (by decide +kernel))).trans ((valV_neg (kne (by decide +kernel))).trans ((valV_neg (kne (by decide +kernel))).trans ((valV_neg (kne (by decide +kernel))).trans (valV_pos rfl))))
theorem own_put : putK (ownK row d k ord he) (kk "at") (.int (j : Int)) = ownK row d j ord he := by
  unfold putK
  rw [valV_any, own_at, if_pos (show (some (V.int (k : Int))).isSome = true from rfl)]
  unfold ownK
  simp only [List.map_cons, List.map_nil, if_neg (kne (a := "row") (b := "at") (by decide +kernel)), if_neg (kne (a := "step") (b := "at") (by decide +kernel)), if_neg (kne (a := "order") (b := "at") (by decide +kernel)), if_neg (kne (a := "held") (b := "at") (by decide +kernel))]
  rw [if_pos trivial]
theorem put_end {kvs : List (Key × V)} {s : Str} {v : V} (h : valV kvs (kk s) = none) : putK kvs (kk s) v = kvs ++ [(kk s, v)] := by
  unfold putK
  rw [valV_any, h, if_neg (by decide)]
theorem own_merge : mergeK [] (ownK row d k ord he) = ownK row d k ord he := by
  unfold mergeK ownK
  simp only [List.foldl_cons, List.foldl_nil]
  rw [put_end (kvs := []) rfl, List.nil_append]
  rw [put_end ((valV_neg (kne (by decide +kernel))).trans rfl)]
  simp only [List.cons_append, List.nil_append]
  rw [put_end ((valV_neg (kne (by decide +kernel))).trans ((valV_neg (kne (by decide +kernel))).trans rfl))]
  simp only [List.cons_append, List.nil_append]
  rw [put_end ((valV_neg (kne (by decide +kernel))).trans ((valV_neg (kne (by decide +kernel))).trans ((valV_neg (kne (by decide +kernel))).trans rfl)))]
  simp only [List.cons_append, List.nil_append]
  rw [put_end ((valV_neg (kne (by decide +kernel))).trans ((valV_neg (kne (by decide +kernel))).trans ((valV_neg (kne (by decide +kernel))).trans ((valV_neg (kne (by decide +kernel))).trans rfl))))]
  rfl
end
theorem dg {H : Hp} {o : Addr} {kvs : List (Key × V)} {s : Str} {v : V} (ho : H o = some (.dK kvs)) (hv : valV kvs (kk s) = some v) : DGet H o (.str s) (some v) := by
  rw [← hv]; exact DGet.k (k := kk s) ho
/-! ### a ring and what is kept of it -/
structure C8 where
  r : Addr
  o : Addr
  row : Addr
  ord : Addr
  he : Addr
  d : Nat
  zs : List Str
abbrev C8.out (c : C8) : List Str := Jos.out (c.d - 1) c.zs.length c.zs
abbrev C8.l (c : C8) (k : Nat) : List Str := Jos.aft (c.d - 1) k c.zs
abbrev C8.g (c : C8) (k : Nat) : List Str := c.out.take k
abbrev C8.own (c : C8) (k : Nat) : List (Key × V) := ownK c.row c.d k c.ord c.he
structure C8.Ok (c : C8) : Prop where
  d1 : 1 ≤ c.d
  z12 : c.zs.length ≤ 12
  ok : ∀ z ∈ c.zs, PyData.strOk z = true
structure One (R : Rep K) (c : C8) (H : Hp) (F : Addr → Prop) (k : Nat) (hs : List V) : Prop where
  ring : R.at_ H c.r F (c.l k) (c.g k) c.d
  ho : H c.o = some (.dK (c.own k))
  hrow : H c.row = some (.lst (c.zs.map V.str))
  hord : H c.ord = some (.lst (c.out.map V.str))
  hhe : H c.he = some (.lst hs)
  hk : k ≤ c.zs.length
  fo : ¬ F c.o
  frow : ¬ F c.row
  ford : ¬ F c.ord
  fhe : ¬ F c.he
  n1 : c.he ≠ c.row
  n2 : c.he ≠ c.ord
theorem One.ex {R : Rep K} {c : C8} {H H' : Hp} {F : Addr → Prop} {k : Nat} {hs : List V} (s : One R c H F k hs) (e : Ex H H') : One R c H' F k hs :=
  ⟨Rep.ex s.ring e, e _ _ s.ho, e _ _ s.hrow, e _ _ s.hord, e _ _ s.hhe, s.hk, s.fo, s.frow, s.ford, s.fhe, s.n1, s.n2⟩
theorem C8.len (c : C8) (k : Nat) : (c.l k).length = c.zs.length - k := Jos.aft_len _ _ _
theorem C8.olen (c : C8) : c.out.length = c.zs.length := Jos.out_len _ _ _ rfl
theorem C8.mem (c : C8) {z : Str} (h : z ∈ c.out) : z ∈ c.zs := (Jos.out_perm (c.d - 1) c.zs.length c.zs rfl).mem_iff.mp h
theorem C8.oks {c : C8} (o : c.Ok) : ∀ z ∈ c.out, PyData.strOk z = true := fun z h => o.ok z (c.mem h)
theorem C8.lok {c : C8} (o : c.Ok) {k : Nat} (hk : k ≤ c.zs.length) : ∀ z ∈ c.l k, PyData.strOk z = true := fun z h => by
  have p := Jos.aft_perm (c.d - 1) k c.zs hk
  exact o.ok z (p.mem_iff.mp (List.mem_append_right _ h))
/-! ### from the next one on -/
def t_next_first (K : PySem.W.Frag) : TS :=
(tSeq (tAsg (tCB (rListOf K) (tCons (tDGet (tVar 0) (tC (.str "row"))) tNil)) (gName 1))
  (tSeq (tFor (iRng1 (tCons (tDGet (tVar 0) (tC (.str "at"))) tNil)) (gName 2)
  (tAsg (tSl (rSlL K) (tCall sTurned [] E0 (tCons (tVar 1) (tCons (tOp oSub (tDGet (tVar 0) (tC (.str "step"))) (tC (.int 1))) tNil))) (tPart (tC (.int 1))) tNoPart) (gName 1)))
  (tRet (tVar 1))))
@[irreducible] def sNextFirst (K : PySem.W.Frag) : Sp := fun vs H Q _ => ∃ (c : C8) (k : Nat), vs = [.ref c.o] ∧ c.Ok ∧ k ≤ c.zs.length ∧ H c.o = some (.dK (c.own k)) ∧ H c.row = some (.lst (c.zs.map V.str)) ∧
  ∀ q H', H q = none → Ex H H' → H' q = some (.lst ((c.l k).map V.str)) → Q (.ref q) H'
theorem pure_next_first {vs : List V} {H : Hp} {Q : VK} {E : XK} {nx : L2.St → Hp → Prop} (h : sNextFirst K vs H Q E) : t_next_first K { nx := nx, rt := Q } (start ["_law_own", "_law_left", "_law_turn"] vs) H := by
  unfold sNextFirst at h
  obtain ⟨c, k, rfl, co, hk, ho, hrow, q⟩ := h
  have d1 := co.d1
  have z12 := co.z12
  refine ⟨_, rfl, c.o, _, rfl, dg ho own_row, c.row, _, rfl, .inl (sq_of hrow), fun L nL => ?_⟩
  have e1 := Evl.Ex.new (o := .lst (c.zs.map V.str)) nL
  refine ⟨_, rfl, c.o, _, rfl, dg (e1 _ _ ho) own_at, _, rfl, by omega, by omega, for_range (lo := 0) (n := ((k : Int)).toNat) (fun i σ H' => ∃ L y, σ = [some (.ref c.o), some (.ref L), y] ∧ Ex H H' ∧ H L = none ∧ H' L = some (.lst ((c.l i).map V.str)))
    ⟨L, _, rfl, e1, nL, upd_same⟩ ?_ ?_⟩
  · intro i σ H' hi hP
    obtain ⟨L, y, rfl, e, n, hL⟩ := hP
    have hi' : i < k := by omega
    obtain ⟨z, t, hz1, _, ht⟩ := Jos.out_head (c.d - 1) i c.zs (by omega)
    have hlen := c.len i
    refine ⟨_, rfl, _, rfl, c.o, _, rfl, dg (e _ _ ho) own_step, _, _, rfl, rfl, L, _, _, rfl, hL, by rw [List.length_map]; omega, by rw [List.length_map]; omega, fun c2 H2 nc e2 hc => ?_⟩
    rw [turned_eq d1 (by omega), hz1] at hc
    refine ⟨_, rfl, c2, _, rfl, sq_of hc, fun p np => ?_⟩
    have e3 := Evl.Ex.new (o := .lst (cutV ((z :: t).map V.str) (some (1 : Int)) none)) np
    refine ⟨p, _, rfl, e.trans (e2.trans e3), fresh_back e (fresh_back e2 np), ?_⟩
    have hcut := cut_from (xs := (z :: t).map V.str) (k := 1) (by simp)
    rw [show ((1 : Nat) : Int) = (1 : Int) from rfl] at hcut
    rw [upd_same, hcut]
    show some (HO.lst (t.map V.str)) = some (HO.lst ((Jos.aft (c.d - 1) (i + 1) c.zs).map V.str))
    rw [ht]
  · intro σ H' hP
    obtain ⟨L, y, rfl, e, n, hL⟩ := hP
    rw [Int.toNat_natCast] at hL
    exact ⟨_, rfl, q L H' n e hL⟩
/-! ### shown -/
theorem eqD_two {p q a b a' b' : Addr} {xs ys : List V} {H : Hp} {Q : VK} (hp : H p = some (.lst [.ref a, .ref b])) (ha : H a = some (.lst xs)) (hb : H b = some (.lst ys)) (hq : H q = some (.lst [.ref a', .ref b'])) (ha' : H a' = some (.lst xs)) (hb' : H b' = some (.lst ys))
    (h1 : xs.all plain = true) (h2 : ys.all plain = true) (k : Q (.bl true) H) : rEqD K (.ref p) (.ref q) H Q := by
  refine ⟨_, _, dp_two hp ha hb h1 h2, dp_two hq ha' hb' h1 h2, two_shaped h1 h2, two_shaped h1 h2, ?_⟩
  rw [two_eqv h1 h2]; exact k
theorem neD_two {p q a b a' b' : Addr} {xs ys : List V} {H : Hp} {Q : VK} (hp : H p = some (.lst [.ref a, .ref b])) (ha : H a = some (.lst xs)) (hb : H b = some (.lst ys)) (hq : H q = some (.lst [.ref a', .ref b'])) (ha' : H a' = some (.lst xs)) (hb' : H b' = some (.lst ys))
    (h1 : xs.all plain = true) (h2 : ys.all plain = true) (k : Q (.bl false) H) : rNeD K (.ref p) (.ref q) H Q := by
  refine ⟨_, _, dp_two hp ha hb h1 h2, dp_two hq ha' hb' h1 h2, two_shaped h1 h2, two_shaped h1 h2, ?_⟩
  rw [two_eqv h1 h2]; exact k
def tLook (R : Rep K) : TE := (tLst (tCons (tMeth R.C "left" (sLeftM R) [] E0 (tVar 0) tNil) (tCons (tMeth R.C "gone" (sGoneM R) [] E0 (tVar 0) tNil) tNil)))
theorem look_go {R : Rep K} {r : Addr} {H : Hp} {F : Addr → Prop} {l g : List Str} {d : Nat} {σ : L2.St} {Q : VK} (hr : R.at_ H r F l g d) (hσ : σ[0]? = some (some (.ref r)))
    (q : ∀ f a b H', H f = none → H a = none → H b = none → a ≠ b → f ≠ a → f ≠ b → Ex H H' → H' f = some (.lst [.ref a, .ref b]) → H' a = some (.lst (l.map V.str)) → H' b = some (.lst (g.map V.str)) → Q (.ref f) H') : tLook R σ H Q := by
  refine ⟨_, hσ, ?_⟩
  refine meth_of (m := "left") (by simp) hr ?_
  show sLeftM R [.ref r] H _ E0
  refine left_go hr fun a H1 na e1 ha => ?_
  refine ⟨_, hσ, ?_⟩
  refine meth_of (m := "gone") (by simp) (Rep.ex hr e1) ?_
  show sGoneM R [.ref r] H1 _ E0
  refine gone_go (Rep.ex hr e1) fun b H2 nb e2 hb => ?_
  refine ⟨(by decide : 2 ≤ sizeLine), fun f nf => ?_⟩
  have e3 := Evl.Ex.new (o := .lst [.ref a, .ref b]) nf
  have ha2 := e2 _ _ ha
  refine q f a b _ (fresh_back e1 (fresh_back e2 nf)) na (fresh_back e1 nb) (fun z => ?_) (fun z => ?_) (fun z => ?_) (e1.trans (e2.trans e3)) upd_same (e3 _ _ ha2) (e3 _ _ hb)
  · rw [← z, ha] at nb; cases nb
  · rw [z, ha2] at nf; cases nf
  · rw [z, hb] at nf; cases nf
end K08
end Cd

set_option Elab.async false
set_option linter.all false
set_option maxRecDepth 100000
set_option maxHeartbeats 4000000
namespace Cd
open PySem PySem.Spec PyProof.Rows L2 Tx Kp Mx
open Evl (Ex sq_of ex_l sz_of sz_lt fresh_back)
variable {K : PySem.W.Frag}
namespace K08
def t_shown (R : Rep K) : TS :=
(tSeq (tAsg (tLook R) (gName 2))
  (tSeq (tAsg (tLst (tCons (tCall (sNextFirst K) [] E0 (tCons (tVar 1) tNil)) (tCons (tSl (rSlL K) (tDGet (tVar 1) (tC (.str "order"))) tNoPart (tPart (tDGet (tVar 1) (tC (.str "at"))))) tNil))) (gName 3))
  (tSeq (tIfS (tOr (tTest (tOp (rNeD K) (tVar 2) (tVar 3))) (tOr (tNot (tB (tCB (rIsi K) (tCons (tOp (rIxL K) (tVar 2) (tC (.int 0))) (tCons (tC (.ty "list")) tNil))))) (tNot (tB (tCB (rIsi K) (tCons (tOp (rIxL K) (tVar 2) (tC (.int 1))) (tCons (tC (.ty "list")) tNil)))))))
  (tRet (tC (.bl false)))
  tNext)
  (tSeq (tDrop (tBM K "list" rAppend (tOp (rIxL K) (tVar 2) (tC (.int 0))) (tCons (tC (.str "more")) tNil)))
  (tSeq (tDrop (tBM K "list" rAppend (tOp (rIxL K) (tVar 2) (tC (.int 1))) (tCons (tC (.str "more")) tNil)))
  (tRet (tOp (rEqD K) (tLook R) (tVar 3))))))))
@[irreducible] def sShown (R : Rep K) : Sp := fun vs H Q _ => ∃ (c : C8) (F : Addr → Prop) (k : Nat) (hs : List V), vs = [.ref c.r, .ref c.o] ∧ c.Ok ∧ One R c H F k hs ∧ ∀ H', Ex H H' → Q (.bl true) H'
theorem pure_shown {R : Rep K} {vs : List V} {H : Hp} {Q : VK} {E : XK} {nx : L2.St → Hp → Prop} (h : sShown R vs H Q E) : t_shown R { nx := nx, rt := Q } (start ["_law_ring", "_law_own", "_law_found", "_law_due"] vs) H := by
  unfold sShown at h
  obtain ⟨c, F, k, hs, rfl, co, s, q⟩ := h
  unfold t_shown
  generalize hT : tLook R = tq
  show tq [some (.ref c.r), some (.ref c.o), none, none] H _
  refine Eq.mp (congrFun (congrFun (congrFun hT _) _) _) ?_
  have hpl : ((c.l k).map V.str).all plain = true := str_plain (C8.lok co s.hk)
  have hpg : ((c.g k).map V.str).all plain = true := str_plain fun z hz => C8.oks co z (List.mem_of_mem_take hz)
  have z12 := co.z12
  have l1 := c.len k
  have l2 : (c.g k).length ≤ 12 := by
    have := c.olen
    show (c.out.take k).length ≤ 12
    rw [List.length_take]; omega
  refine look_go s.ring rfl fun f a b H1 nf na nb nab nfa nfb e1 hf ha hb => ?_
  have s1 := s.ex e1
  refine ⟨_, rfl, ?_⟩
  show sNextFirst K [.ref c.o] H1 _ E0
  unfold sNextFirst
  refine ⟨c, k, rfl, co, s.hk, s1.ho, s1.hrow, fun u H2 nu e2 hu => ?_⟩
  have s2 := s1.ex e2
  refine ⟨_, rfl, c.o, _, rfl, dg s2.ho own_order, _, rfl, c.o, _, rfl, dg s2.ho own_at, _, rfl, c.ord, _, rfl, sq_of s2.hord, fun w nw => ?_⟩
  rw [cut_to (by rw [List.length_map, c.olen]; exact s.hk), ← List.map_take]
  have e3 := Evl.Ex.new (o := .lst ((c.g k).map V.str)) nw
  refine ⟨(by decide : 2 ≤ sizeLine), fun v nv => ?_⟩
  have e4 := Evl.Ex.new (o := .lst [.ref u, .ref w]) nv
  have e24 := e2.trans (e3.trans e4)
  have hv : _ = some (HO.lst [.ref u, .ref w]) := upd_same (H := upd H2 w (.lst ((c.g k).map V.str))) (a := v)
  have hw := e4 _ _ (show _ = some (HO.lst ((c.g k).map V.str)) from upd_same (H := H2) (a := w))
  have hu4 := (e3.trans e4) _ _ hu
  have nw1 : H1 w = none := fresh_back e2 nw
  have nv1 : H1 v = none := fresh_back (e2.trans e3) nv
  have ne1 : ∀ {x y : Addr} {o : HO}, H1 x = some o → H1 y = none → y ≠ x := fun {x y o} hx hy z => by rw [z, hx] at hy; cases hy
  have nua := ne1 ha nu
  have nub := ne1 hb nu
  have nwa := ne1 ha nw1
  have nwb := ne1 hb nw1
  have nva := ne1 ha nv1
  have nvb := ne1 hb nv1
  have hf4 := e24 _ _ hf
  have ha4 := e24 _ _ ha
  have hb4 := e24 _ _ hb
  have e04 := e1.trans e24
  generalize upd (upd H2 w (.lst ((c.g k).map V.str))) v (.lst [.ref u, .ref w]) = H4 at hv hw hu4 hf4 ha4 hb4 e04
  refine ⟨_, rfl, _, rfl, neD_two hf4 ha4 hb4 hv hu4 hw hpl hpg ⟨false, rfl, iteF ?_⟩⟩
  refine ⟨_, rfl, f, _, 0, .ref a, rfl, rfl, sq_of hf4, at0, _, _, _, _, true, rfl, .ty "list", .base (.lst ha4), kit_ty (by decide +kernel), true, rfl, iteF ?_⟩
  refine ⟨_, rfl, f, _, 1, .ref b, rfl, rfl, sq_of hf4, atI_nat (j := 1) rfl, _, _, _, _, true, rfl, .ty "list", .base (.lst hb4), kit_ty (by decide +kernel), true, rfl, iteF ?_⟩
  refine ⟨_, rfl, f, _, 0, .ref a, rfl, rfl, sq_of hf4, at0, ty_l ha4, a, _, .str "more", rfl, rfl, ha4, sz_lt (by rw [List.length_map]; omega), ?_⟩
  have e05 := Evl.Ex.mut (o := .lst ((c.l k).map V.str ++ [.str "more"])) e04 na
  have hf5 : upd H4 a (.lst ((c.l k).map V.str ++ [.str "more"])) f = some (.lst [.ref a, .ref b]) := by rw [upd_ne nfa]; exact hf4
  have hb5 : upd H4 a (.lst ((c.l k).map V.str ++ [.str "more"])) b = some (.lst ((c.g k).map V.str)) := by rw [upd_ne (Ne.symm nab)]; exact hb4
  have hv5 : upd H4 a (.lst ((c.l k).map V.str ++ [.str "more"])) v = some (.lst [.ref u, .ref w]) := by rw [upd_ne nva]; exact hv
  have hu5 : upd H4 a (.lst ((c.l k).map V.str ++ [.str "more"])) u = some (.lst ((c.l k).map V.str)) := by rw [upd_ne nua]; exact hu4
  have hw5 : upd H4 a (.lst ((c.l k).map V.str ++ [.str "more"])) w = some (.lst ((c.g k).map V.str)) := by rw [upd_ne nwa]; exact hw
  generalize upd H4 a (.lst ((c.l k).map V.str ++ [.str "more"])) = H5 at e05 hf5 hb5 hv5 hu5 hw5
  refine ⟨_, rfl, f, _, 1, .ref b, rfl, rfl, sq_of hf5, atI_nat (j := 1) rfl, ty_l hb5, b, _, .str "more", rfl, rfl, hb5, sz_lt (by rw [List.length_map]; omega), ?_⟩
  have e06 := Evl.Ex.mut (o := .lst ((c.g k).map V.str ++ [.str "more"])) e05 nb
  have hv6 : upd H5 b (.lst ((c.g k).map V.str ++ [.str "more"])) v = some (.lst [.ref u, .ref w]) := by rw [upd_ne nvb]; exact hv5
  have hu6 : upd H5 b (.lst ((c.g k).map V.str ++ [.str "more"])) u = some (.lst ((c.l k).map V.str)) := by rw [upd_ne nub]; exact hu5
  have hw6 : upd H5 b (.lst ((c.g k).map V.str ++ [.str "more"])) w = some (.lst ((c.g k).map V.str)) := by rw [upd_ne nwb]; exact hw5
  generalize upd H5 b (.lst ((c.g k).map V.str ++ [.str "more"])) = H6 at e06 hv6 hu6 hw6
  show tq [some (.ref c.r), some (.ref c.o), some (.ref f), some (.ref v)] H6 _
  refine Eq.mp (congrFun (congrFun (congrFun hT _) _) _) ?_
  refine look_go (s.ex e06).ring rfl fun f2 a2 b2 H7 _ _ _ _ _ _ e7 hf7 ha7 hb7 => ?_
  exact ⟨_, rfl, eqD_two hf7 ha7 hb7 (e7 _ _ hv6) (e7 _ _ hu6) (e7 _ _ hw6) hpl hpg (q H7 (e06.trans e7))⟩
end K08
end Cd

set_option Elab.async false
set_option linter.all false
set_option maxRecDepth 100000
set_option maxHeartbeats 4000000
namespace Cd
open PySem PySem.Spec PyProof.Rows L2 Tx Kp Mx
open Evl (Ex sq_of ex_l sz_of sz_lt fresh_back)
variable {K : PySem.W.Frag}
theorem eqD_lst {p q : Addr} {xs : List V} {H : Hp} {Q : VK} (hp : H p = some (.lst xs)) (hq : H q = some (.lst xs)) (pl : xs.all plain = true) (k : Q (.bl true) H) : rEqD K (.ref p) (.ref q) H Q := by
  have sh : SeqAt.shaped (.list (xs.map dat)) = true := by
    unfold SeqAt.shaped
    simp only [PyData.canLay0, dats_can pl, PyData.depth, dats_depth]
    rfl
  have d : ∀ {p : Addr}, H p = some (.lst xs) → Dp K H (.ref p) (.list (xs.map dat)) := fun h => .lst (sq_of h) (dats_dp pl)
  refine ⟨_, _, d hp, d hq, sh, sh, ?_⟩
  have e : PyData.eqv (.list (xs.map dat)) (.list (xs.map dat)) = true := by
    simp only [PyData.eqv, dats_eqv pl pl, decide_true]
  rw [e]; exact k
namespace K08
/-! ### one deed -/
/-- told and due, kept in a tuple -/
structure E8 where
  T : Addr
  f : Addr
  u : Addr
  xs : List Str
structure EOk (H : Hp) (e : E8) : Prop where
  hT : H e.T = some (.tup [.ref e.f, .ref e.u])
  hf : H e.f = some (.lst (e.xs.map V.str))
  hu : H e.u = some (.lst (e.xs.map V.str))
  ok : ∀ z ∈ e.xs, PyData.strOk z = true
  few : e.xs.length ≤ 12
structure ENew (c : C8) (H : Hp) (F F' : Addr → Prop) (e : E8) : Prop where
  sep : ∀ b, H b ≠ none → ¬ F b → b ≠ c.o → b ≠ c.he → b ≠ e.T ∧ b ≠ e.f ∧ b ≠ e.u
  oo : e.T ≠ c.o ∧ e.f ≠ c.o ∧ e.u ≠ c.o
  hh : e.T ≠ c.he ∧ e.f ≠ c.he ∧ e.u ≠ c.he
  ne : e.f ≠ e.u
  fF : ¬ F' e.T ∧ ¬ F' e.f ∧ ¬ F' e.u
structure Did (c : C8) (H H' : Hp) (F F' : Addr → Prop) : Prop where
  keep : ∀ b x, H b = some x → ¬ F b → b ≠ c.o → b ≠ c.he → H' b = some x
  own : ∀ b, F' b → F b ∨ H b = none
theorem Did.ex {c : C8} {H H' : Hp} {F : Addr → Prop} (e : Ex H H') : Did c H H' F F := ⟨fun b x h _ _ _ => e b x h, fun b h => .inl h⟩
abbrev DoneK (R : Rep K) (c : C8) (F : Addr → Prop) (hs : List V) (H : Hp) (Q : VK) : Prop :=
  ∀ F' k' hs' H', One R c H' F' k' hs' → Did c H H' F F' → (hs' = hs ∨ ∃ e : E8, hs' = hs ++ [.ref e.T] ∧ EOk H' e ∧ ENew c H F F' e) → Q (.bl true) H'
def tCountW : TE := tTup (tCons (tC (.str "count")) tNil)
theorem refuse_go {R : Rep K} {C : Cs} {c : C8} {H H0 : Hp} {F : Addr → Prop} {k : Nat} {hs : List V} {m : V} {σ : L2.St} {Q : VK} (s : One R c H F k hs) (e0 : Ex H0 H) (tm : Typ K H m) (w : whB m 0 ((c.l k).length : Int) = false) (q : DoneK R c F hs H0 Q) :
    sTried R C [.ref c.r, .int 1, m] H (fun x H1 => tTup (tCons (tC (.str "count")) tNil) σ H1 fun y H2 => rEqD K x y H2 Q) E0 := by
  unfold sTried
  refine ⟨c.r, F, _, _, c.d, 1, m, rfl, s.ring, fun e => absurd e (by decide), fun _ => ⟨tm, fun _ T H1 e1 nT => ?_, fun k' em hk' => ?_⟩⟩
  · refine ⟨(by decide : 1 ≤ sizeLine), fun T2 nT2 => ?_⟩
    have e2 := Evl.Ex.new (o := .tup [.str "count"]) nT
    have e3 := Evl.Ex.new (o := .tup [.str "count"]) nT2
    have e13 := e1.trans (e2.trans e3)
    exact eqD_tup (by decide +kernel) (e3 _ _ upd_same) upd_same (q F k hs _ (s.ex e13) (Did.ex (e0.trans e13)) (.inl rfl))
  · subst em
    rw [wh_of (by omega) (by omega)] at w
    cases w
theorem cut_mid {xs : List V} {i j : Nat} (h : i + j ≤ xs.length) : cutV xs (some (i : Int)) (some ((i : Int) + (j : Int))) = (xs.drop i).take j := by
  unfold cutV
  rw [show (i : Int) + (j : Int) = ((i + j : Nat) : Int) by omega, show HT.sIx xs.length 0 (some (i : Int)) = min i xs.length from HT.sIx_nat xs.length 0 i, show HT.sIx xs.length xs.length (some ((i + j : Nat) : Int)) = min (i + j) xs.length from HT.sIx_nat xs.length xs.length (i + j), Nat.min_eq_left (show i ≤ xs.length by omega), Nat.min_eq_left (show i + j ≤ xs.length from h), show i + j - i = j by omega]
theorem C8.split (c : C8) {k : Nat} (hk : k ≤ c.zs.length) : c.out = c.g k ++ Jos.out (c.d - 1) (c.l k).length (c.l k) := by
  have e := Jos.out_split (c.d - 1) k c.zs hk
  rw [c.len k]; exact e
theorem C8.next (c : C8) {k m : Nat} (hk : k + m ≤ c.zs.length) : (c.out.drop k).take m = (Jos.out (c.d - 1) (c.l k).length (c.l k)).take m ∧ c.g k ++ (Jos.out (c.d - 1) (c.l k).length (c.l k)).take m = c.g (k + m) := by
  have e := c.split (show k ≤ c.zs.length by omega)
  have hg : (c.g k).length = k := by
    show (c.out.take k).length = k
    rw [List.length_take, c.olen]; omega
  have e1 : c.out.drop k = Jos.out (c.d - 1) (c.l k).length (c.l k) := by
    conv => lhs; rw [e]
    rw [List.drop_append, hg, Nat.sub_self, List.drop_zero, List.drop_of_length_le (by omega), List.nil_append]
  refine ⟨by rw [e1], ?_⟩
  rw [← e1]
  show c.out.take k ++ (c.out.drop k).take m = c.out.take (k + m)
  rw [List.take_add]
theorem C8.move (c : C8) (k m : Nat) : Jos.aft (c.d - 1) m (c.l k) = c.l (k + m) := Jos.aft_add _ _ _ _
abbrev Sd (c : C8) (cell rest m : Int) (y5 y6 : Option V) : L2.St := [some (.ref c.r), some (.ref c.o), some (.int cell), some (.int rest), some (.int m), y5, y6]
def t_many (R : Rep K) (C : Cs) : TS :=
  (tSeq (tAsg (tSl (rSlL K) (tDGet (tVar 1) (tC (.str "order"))) (tPart (tDGet (tVar 1) (tC (.str "at")))) (tPart (tOp oAdd (tDGet (tVar 1) (tC (.str "at"))) (tVar 4)))) (gName 5))
  (tSeq (sDPut (tVar 1) (tC (.str "at")) (tOp oAdd (tDGet (tVar 1) (tC (.str "at"))) (tVar 4)))
  (tSeq (tAsg (tCall (sTried R C) [] E0 (tCons (tVar 0) (tCons (tC (.int 1)) (tCons (tVar 4) tNil)))) (gName 6))
  (tSeq (tDrop (tBM K "list" rAppend (tDGet (tVar 1) (tC (.str "held"))) (tCons (tTup (tCons (tVar 6) (tCons (tVar 5) tNil))) tNil)))
  (tRet (tOp (rEqD K) (tVar 6) (tVar 5)))))))
theorem many_go {R : Rep K} {C : Cs} {c : C8} {H : Hp} {F : Addr → Prop} {k m : Nat} {hs : List V} {cell rest : Int} {y5 y6 : Option V} {De : Ends} (co : c.Ok) (s : One R c H F k hs) (hm : k + m ≤ c.zs.length) (hz : hs.length ≤ 1000) (q : DoneK R c F hs H De.rt) :
    t_many R C De (Sd c cell rest (m : Int) y5 y6) H := by
  have z12 := co.z12
  have hlk := c.len k
  obtain ⟨n1, n2⟩ := c.next hm
  refine ⟨_, rfl, c.o, _, rfl, dg s.ho own_order, _, rfl, c.o, _, rfl, dg s.ho own_at, _, rfl, _, rfl, c.o, _, rfl, dg s.ho own_at, _, rfl, _, _, rfl, rfl, _, rfl, c.ord, _, rfl, sq_of s.hord, fun u nu => ?_⟩
  rw [cut_mid (by rw [List.length_map, c.olen]; exact hm), ← List.map_drop, ← List.map_take, n1]
  have e1 := Evl.Ex.new (o := .lst (((Jos.out (c.d - 1) (c.l k).length (c.l k)).take m).map V.str)) nu
  have hu1 : _ = some (HO.lst (((Jos.out (c.d - 1) (c.l k).length (c.l k)).take m).map V.str)) := upd_same (H := H) (a := u)
  have s1 := s.ex e1
  have nuo : u ≠ c.o := fun z => by rw [z, s.ho] at nu; cases nu
  have nuh : u ≠ c.he := fun z => by rw [z, s.hhe] at nu; cases nu
  have nFu : ¬ F u := Rep.free s.ring nu
  have back1 : ∀ b, upd H u (.lst (((Jos.out (c.d - 1) (c.l k).length (c.l k)).take m).map V.str)) b = none → H b = none := fun b hb => fresh_back e1 hb
  generalize upd H u (.lst (((Jos.out (c.d - 1) (c.l k).length (c.l k)).take m).map V.str)) = H1 at e1 hu1 s1 back1
  refine ⟨_, rfl, c.o, _, rfl, dg s1.ho own_at, _, rfl, _, _, rfl, rfl, _, rfl, c.o, _, rfl, DPut.k (k := kk "at") s1.ho (by show 5 < sizeLine; decide), ?_⟩
  dsimp only
  rw [show (k : Int) + (m : Int) = ((k + m : Nat) : Int) by omega, own_put]
  have hou2 : ∀ b, b ≠ c.o → upd H1 c.o (.dK (ownK c.row c.d (k + m) c.ord c.he)) b = H1 b := fun b hb => upd_ne hb
  have ho2 : _ = some (HO.dK (ownK c.row c.d (k + m) c.ord c.he)) := upd_same (H := H1) (a := c.o)
  have hr2 : R.at_ (upd H1 c.o (.dK (ownK c.row c.d (k + m) c.ord c.he))) c.r F (c.l k) (c.g k) c.d := Rep.mut s1.ring s.fo
  generalize upd H1 c.o (.dK (ownK c.row c.d (k + m) c.ord c.he)) = H2 at hou2 ho2 hr2
  have nor : c.row ≠ c.o := fun z => by have := s.hrow; rw [z, s.ho] at this; cases this
  have noo : c.ord ≠ c.o := fun z => by have := s.hord; rw [z, s.ho] at this; cases this
  have noh : c.he ≠ c.o := fun z => by have := s.hhe; rw [z, s.ho] at this; cases this
  have back2 : ∀ b, H2 b = none → H b = none := fun b hb => by
    refine back1 b ?_
    rw [← hou2 b fun z => by rw [z, ho2] at hb; cases hb]; exact hb
  refine ⟨_, rfl, _, rfl, ?_⟩
  show sTried R C [.ref c.r, .int 1, .int (m : Int)] H2 _ E0
  unfold sTried
  refine ⟨c.r, F, _, _, c.d, 1, _, rfl, hr2, fun e => absurd e (by decide), fun _ => ⟨Typ.int, fun w => ?_, fun k' ek _ f F' H3 nf nFf hr3 ch3 hf3 => ?_⟩⟩
  · rw [wh_of (by omega) (by omega)] at w; cases w
  obtain rfl : k' = m := by have := V.int.inj ek; omega
  rw [c.move, n2] at hr3
  have keep3 : ∀ b x, H2 b = some x → ¬ F b → H3 b = some x := ch3.keep
  have hu2 : H2 u = some (.lst (((Jos.out (c.d - 1) (c.l k).length (c.l k)).take k').map V.str)) := by rw [hou2 u nuo]; exact hu1
  have hu3 := keep3 _ _ hu2 nFu
  have ho3 := keep3 _ _ ho2 s.fo
  have hh2 : H2 c.he = some (.lst hs) := by rw [hou2 _ noh]; exact s1.hhe
  have hh3 := keep3 _ _ hh2 s.fhe
  have nF'u : ¬ F' u := ch3.off nFu (by rw [hu2]; simp)
  have nF'o : ¬ F' c.o := ch3.off s.fo (by rw [ho2]; simp)
  have nF'h : ¬ F' c.he := ch3.off s.fhe (by rw [hh2]; simp)
  have hrow2 : H2 c.row = some (.lst (c.zs.map V.str)) := by rw [hou2 _ nor]; exact s1.hrow
  have hord2 : H2 c.ord = some (.lst (c.out.map V.str)) := by rw [hou2 _ noo]; exact s1.hord
  have nfu : f ≠ u := fun z => by rw [z, hu2] at nf; cases nf
  have nfh : f ≠ c.he := fun z => by rw [z, hh2] at nf; cases nf
  refine ⟨_, rfl, c.o, _, rfl, dg ho3 own_held, ty_l hh3, _, rfl, _, rfl, (by decide : 2 ≤ sizeLine), fun T nT => ?_⟩
  have e4 := Evl.Ex.new (o := .tup [.ref f, .ref u]) nT
  have hT4 : _ = some (HO.tup [.ref f, .ref u]) := upd_same (H := H3) (a := T)
  have nTh : T ≠ c.he := fun z => by rw [z, hh3] at nT; cases nT
  have nF'T : ¬ F' T := Rep.free hr3 nT
  have keep03 : ∀ b x, H b = some x → ¬ F b → b ≠ c.o → H3 b = some x := fun b x hb nb no => keep3 _ _ ((hou2 b no).trans (e1 _ _ hb)) nb
  have hf4 := e4 _ _ hf3
  have hu4 := e4 _ _ hu3
  have hh4 := e4 _ _ hh3
  have ho4 := e4 _ _ ho3
  have keep04 : ∀ b x, H b = some x → ¬ F b → b ≠ c.o → upd H3 T (.tup [.ref f, .ref u]) b = some x := fun b x hb nb no => e4 _ _ (keep03 b x hb nb no)
  have hr4 : R.at_ (upd H3 T (.tup [.ref f, .ref u])) c.r F' (c.l (k + k')) (c.g (k + k')) c.d := Rep.ex hr3 e4
  generalize upd H3 T (.tup [.ref f, .ref u]) = H4 at e4 hT4 hf4 hu4 hh4 ho4 keep04 hr4
  refine ⟨c.he, hs, .ref T, rfl, rfl, hh4, sz_lt (by omega), ?_⟩
  have hr5 := Rep.mut (o := .lst (hs ++ [.ref T])) hr4 nF'h
  have nhr : c.row ≠ c.he := Ne.symm s.n1
  have nho : c.ord ≠ c.he := Ne.symm s.n2
  have hu5 : upd H4 c.he (.lst (hs ++ [.ref T])) u = some (.lst (((Jos.out (c.d - 1) (c.l k).length (c.l k)).take k').map V.str)) := by rw [upd_ne nuh]; exact hu4
  have hf5 : upd H4 c.he (.lst (hs ++ [.ref T])) f = some (.lst (((Jos.out (c.d - 1) (c.l k).length (c.l k)).take k').map V.str)) := by rw [upd_ne nfh]; exact hf4
  have okx : ∀ z ∈ (Jos.out (c.d - 1) (c.l k).length (c.l k)).take k', PyData.strOk z = true := fun z hz => by
    rw [← n1] at hz
    exact C8.oks co z (List.mem_of_mem_drop (List.mem_of_mem_take hz))
  refine ⟨_, rfl, _, rfl, eqD_lst hf5 hu5 (str_plain okx) ?_⟩
  refine q F' (k + k') (hs ++ [.ref T]) _ ⟨hr5, ?_, ?_, ?_, upd_same, hm, nF'o, ?_, ?_, nF'h, s.n1, s.n2⟩ ⟨fun b x hb nb no nh => ?_, fun b hb => ?_⟩ (.inr ⟨⟨T, f, u, (Jos.out (c.d - 1) (c.l k).length (c.l k)).take k'⟩, rfl, ⟨?_, hf5, hu5, okx, ?_⟩, ⟨fun b hb nb no nh => ?_, ⟨?_, ?_, nuo⟩, ⟨nTh, nfh, nuh⟩, nfu, ⟨nF'T, nFf, nF'u⟩⟩⟩)
  · rw [upd_ne (Ne.symm noh)]; exact ho4
  · rw [upd_ne nhr]; exact keep04 _ _ s.hrow s.frow nor
  · rw [upd_ne nho]; exact keep04 _ _ s.hord s.ford noo
  · exact ch3.off s.frow (by rw [hrow2]; simp)
  · exact ch3.off s.ford (by rw [hord2]; simp)
  · rw [upd_ne nh]; exact keep04 b x hb nb no
  · exact (ch3.own b hb).imp id (back2 b)
  · rw [upd_ne nTh]; exact hT4
  · rw [List.length_take]; omega
  · obtain ⟨x, hx⟩ : ∃ x, H b = some x := by
      cases e : H b with
      | none => exact absurd e hb
      | some x => exact ⟨x, rfl⟩
    have h3 := keep03 b x hx nb no
    have h2 := (hou2 b no).trans (e1 _ _ hx)
    refine ⟨fun z => ?_, fun z => ?_, fun z => ?_⟩
    · subst z; rw [nT] at h3; cases h3
    · subst z; rw [nf] at h2; cases h2
    · subst z; rw [nu] at hx; cases hx
  · exact fun z => by subst z; rw [nT] at ho3; cases ho3
  · exact fun z => by subst z; rw [nf] at ho2; cases ho2
end K08
end Cd

set_option Elab.async false
set_option linter.all false
set_option maxRecDepth 100000
set_option maxHeartbeats 4000000
namespace Cd
open PySem PySem.Spec PyProof.Rows L2 Tx Kp Mx
open Evl (Ex sq_of ex_l sz_of sz_lt fresh_back)
variable {K : PySem.W.Frag}
namespace K08
def t_bad (R : Rep K) (C : Cs) : TS :=
  (tRet (tOp (rEqD K) (tCall (sTried R C) [] E0 (tCons (tVar 0) (tCons (tC (.int 1)) (tCons (tOp (rIxL K) (tLst (tCons (tUn oNeg (tC (.int 1))) (tCons (tOp oAdd (tVar 3) (tC (.int 1))) (tCons (tC .non) (tCons (tC (.bl true)) (tCons (tC (.str "1")) tNil)))))) (tVar 4)) tNil)))) (tTup (tCons (tC (.str "count")) tNil))))
theorem bad_go {R : Rep K} {C : Cs} {c : C8} {H : Hp} {F : Addr → Prop} {k m : Nat} {hs : List V} {cell : Int} {y5 y6 : Option V} {De : Ends} (s : One R c H F k hs) (hm : m < 5) (q : DoneK R c F hs H De.rt) :
    t_bad R C De (Sd c cell ((c.zs.length : Int) - (k : Int)) (m : Int) y5 y6) H := by
  have hlk := c.len k
  have hk := s.hk
  refine ⟨_, rfl, _, rfl, _, rfl, _, _, rfl, rfl, (by decide : 5 ≤ sizeLine), fun L nL => ?_⟩
  have e1 := Evl.Ex.new (o := .lst [.int (-1), .int ((c.zs.length : Int) - (k : Int) + 1), .non, .bl true, .str "1"]) nL
  have hL : _ = some (HO.lst [.int (-1), .int ((c.zs.length : Int) - (k : Int) + 1), .non, .bl true, .str "1"]) := upd_same (H := H) (a := L)
  obtain ⟨v, hv, tv, wv⟩ : ∃ v, ([.int (-1), .int ((c.zs.length : Int) - (k : Int) + 1), .non, .bl true, .str "1"] : List V)[m]? = some v ∧ (∀ H' : Hp, Typ K H' v) ∧ whB v 0 ((c.l k).length : Int) = false := by
    have : m = 0 ∨ m = 1 ∨ m = 2 ∨ m = 3 ∨ m = 4 := by omega
    rcases this with rfl | rfl | rfl | rfl | rfl
    · exact ⟨_, rfl, fun _ => Typ.int, by rw [wh_off]; omega⟩
    · exact ⟨_, rfl, fun _ => Typ.int, by rw [wh_off]; omega⟩
    · exact ⟨_, rfl, fun _ => Typ.non, rfl⟩
    · exact ⟨_, rfl, fun _ => Typ.bl, rfl⟩
    · exact ⟨_, rfl, fun _ => Typ.str, rfl⟩
  refine ⟨_, rfl, L, _, (m : Int), v, rfl, rfl, sq_of hL, atI_nat hv, ?_⟩
  show sTried R C [.ref c.r, .int 1, v] _ _ E0
  exact refuse_go (s.ex e1) e1 (tv _) wv q
def t_one (R : Rep K) (C : Cs) : TS :=
  (tSeq (tAsg (tOp (rIxL K) (tOp rCat (tDGet (tVar 1) (tC (.str "order"))) (tLst (tCons (tTup (tCons (tC (.str "hand")) tNil)) tNil))) (tDGet (tVar 1) (tC (.str "at")))) (gName 5))
  (tSeq (sDPut (tVar 1) (tC (.str "at")) (tCB oMin2 (tCons (tOp oAdd (tDGet (tVar 1) (tC (.str "at"))) (tC (.int 1))) (tCons (tCB (rLenL K) (tCons (tDGet (tVar 1) (tC (.str "order"))) tNil)) tNil))))
  (tRet (tOp (rEqD K) (tCall (sTried R C) [] E0 (tCons (tVar 0) (tCons (tC (.int 0)) (tCons (tC (.int 0)) tNil)))) (tVar 5)))))
theorem one_go {R : Rep K} {C : Cs} {c : C8} {H : Hp} {F : Addr → Prop} {k : Nat} {hs : List V} {cell rest m : Int} {y5 y6 : Option V} {De : Ends} (co : c.Ok) (s : One R c H F k hs) (q : DoneK R c F hs H De.rt) :
    t_one R C De (Sd c cell rest m y5 y6) H := by
  have z12 := co.z12
  have hlk := c.len k
  have hol := c.olen
  have hk := s.hk
  refine ⟨_, rfl, c.o, _, rfl, dg s.ho own_order, (by decide : 1 ≤ sizeLine), fun T nT => ⟨(by decide : 1 ≤ sizeLine), fun L nL => ?_⟩⟩
  have e1 := Evl.Ex.new (o := .tup [.str "hand"]) nT
  have e2 := Evl.Ex.new (o := .lst [.ref T]) nL
  have e12 := e1.trans e2
  have s2 := s.ex e12
  have hT2 := e2 _ _ (show _ = some (HO.tup [.str "hand"]) from upd_same (H := H) (a := T))
  refine ⟨c.ord, L, _, _, rfl, rfl, s2.hord, upd_same, sz_of (by rw [List.length_map, hol]; show c.zs.length + 1 ≤ 100000; omega), fun p np => ?_⟩
  have e3 := Evl.Ex.new (o := .lst (c.out.map V.str ++ [.ref T])) np
  have e13 := e12.trans e3
  have s3 := s.ex e13
  have hp3 : _ = some (HO.lst (c.out.map V.str ++ [.ref T])) := upd_same (H := upd (upd H T (.tup [.str "hand"])) L (.lst [.ref T])) (a := p)
  have hT3 := e3 _ _ hT2
  have back : ∀ b, upd (upd (upd H T (.tup [.str "hand"])) L (.lst [.ref T])) p (.lst (c.out.map V.str ++ [.ref T])) b = none → H b = none := fun b hb => fresh_back e13 hb
  generalize upd (upd (upd H T (.tup [.str "hand"])) L (.lst [.ref T])) p (.lst (c.out.map V.str ++ [.ref T])) = H3 at e13 s3 hp3 hT3 back
  have hTo : T ≠ c.o := fun z => by rw [z, s.ho] at nT; cases nT
  -- what is told
  have fin : ∀ (v : V) (k' : Nat), (if (c.out.length : Int) < (k : Int) + 1 then (c.out.length : Int) else (k : Int) + 1) = (k' : Int) →
      (∀ H4, H4 = upd H3 c.o (.dK (c.own k')) → sTried R C [.ref c.r, .int 0, .int 0] H4 (fun x H5 => tVar 5 (Sd c cell rest m (some v) y6) H5 fun y H6 => rEqD K x y H6 De.rt) E0) → (c.out.map V.str ++ [V.ref T])[k]? = some v →
      (tSeq (tAsg (tOp (rIxL K) (fun σ H Q => Q (.ref p) H) (tDGet (tVar 1) (tC (.str "at")))) (gName 5))
        (tSeq (sDPut (tVar 1) (tC (.str "at")) (tCB oMin2 (tCons (tOp oAdd (tDGet (tVar 1) (tC (.str "at"))) (tC (.int 1))) (tCons (tCB (rLenL K) (tCons (tDGet (tVar 1) (tC (.str "order"))) tNil)) tNil))))
        (tRet (tOp (rEqD K) (tCall (sTried R C) [] E0 (tCons (tVar 0) (tCons (tC (.int 0)) (tCons (tC (.int 0)) tNil)))) (tVar 5))))) De (Sd c cell rest m y5 y6) H3 := by
    intro v k' hk' hq hv
    refine ⟨_, rfl, c.o, _, rfl, dg s3.ho own_at, p, _, (k : Int), v, rfl, rfl, sq_of hp3, atI_nat hv, ?_⟩
    refine ⟨_, rfl, c.o, _, rfl, dg s3.ho own_at, _, _, rfl, rfl, _, rfl, c.o, _, rfl, dg s3.ho own_order, c.ord, _, rfl, .inl (sq_of s3.hord), _, _, rfl, _, rfl, c.o, _, rfl, DPut.k (k := kk "at") s3.ho (by show 5 < sizeLine; decide), ?_⟩
    dsimp only
    rw [List.length_map, hk', own_put]
    refine ⟨_, rfl, ?_⟩
    exact hq _ rfl
  refine (?_ : (tSeq (tAsg (tOp (rIxL K) (fun σ H Q => Q (.ref p) H) (tDGet (tVar 1) (tC (.str "at")))) (gName 5)) _) De (Sd c cell rest m y5 y6) H3)
  have nor : c.row ≠ c.o := fun z => by have := s.hrow; rw [z, s.ho] at this; cases this
  have noo : c.ord ≠ c.o := fun z => by have := s.hord; rw [z, s.ho] at this; cases this
  have noh : c.he ≠ c.o := fun z => by have := s.hhe; rw [z, s.ho] at this; cases this
  by_cases hlt : k < c.zs.length
  · obtain ⟨z, t, hz1, hz2, ht⟩ := Jos.out_head (c.d - 1) k c.zs hlt
    have hz2' : c.out[k]? = some z := hz2
    refine fin (.str z) (k + 1) ?_ ?_ ?_
    · rw [if_neg (by omega)]; rfl
    · intro H4 e4
      have ho4 : H4 c.o = some (.dK (c.own (k + 1))) := by rw [e4, upd_same]
      have hou : ∀ b, b ≠ c.o → H4 b = H3 b := fun b hb => by rw [e4, upd_ne hb]
      have hr4 : R.at_ H4 c.r F (c.l k) (c.g k) c.d := by rw [e4]; exact Rep.mut s3.ring s.fo
      unfold sTried
      refine ⟨c.r, F, _, _, c.d, 0, _, rfl, hr4, fun _ => ⟨fun e => ?_, fun z' t' hz' F' H5 hr5 ch => ?_⟩, fun e => absurd rfl e⟩
      · rw [e] at hlk; simp at hlk; omega
      · rw [show Jos.rotN (c.d - 1) (c.l k) = z :: t from hz1] at hz'
        cases hz'
        have hg : c.g k ++ [z] = c.g (k + 1) := by
          show c.out.take k ++ [z] = c.out.take (k + 1)
          rw [List.take_add_one, hz2']; rfl
        rw [← ht, hg] at hr5
        have k4 : ∀ b x, H b = some x → b ≠ c.o → H4 b = some x := fun b x hb no => (hou b no).trans (e13 _ _ hb)
        have k5 : ∀ b x, H b = some x → ¬ F b → b ≠ c.o → H5 b = some x := fun b x hb nb no => ch.keep _ _ (k4 b x hb no) nb
        have okz : PyData.strOk z = true := C8.oks co z (List.mem_of_getElem? hz2')
        refine ⟨_, rfl, eqD_str okz ?_⟩
        refine q F' (k + 1) hs H5 ⟨hr5, ch.keep _ _ ho4 s.fo, k5 _ _ s.hrow s.frow nor, k5 _ _ s.hord s.ford noo, k5 _ _ s.hhe s.fhe noh, hlt, ch.off s.fo (by rw [ho4]; simp), ch.off s.frow (by rw [k4 _ _ s.hrow nor]; simp), ch.off s.ford (by rw [k4 _ _ s.hord noo]; simp), ch.off s.fhe (by rw [k4 _ _ s.hhe noh]; simp), s.n1, s.n2⟩ ⟨fun b x hb nb no _ => k5 b x hb nb no, fun b hb => ?_⟩ (.inl rfl)
        refine (ch.own b hb).imp id fun h4 => back b ?_
        rw [← hou b fun e => by rw [e, ho4] at h4; cases h4]; exact h4
    · rw [List.getElem?_append_left (by rw [List.length_map, hol]; exact hlt), List.getElem?_map, hz2']; rfl
  · have ek : k = c.zs.length := by omega
    have hl0 : c.l k = [] := List.eq_nil_of_length_eq_zero (by rw [hlk]; omega)
    refine fin (.ref T) k ?_ ?_ ?_
    · rw [if_pos (by omega)]; omega
    · intro H4 e4
      have ho4 : H4 c.o = some (.dK (c.own k)) := by rw [e4, upd_same]
      have hou : ∀ b, b ≠ c.o → H4 b = H3 b := fun b hb => by rw [e4, upd_ne hb]
      have hr4 : R.at_ H4 c.r F (c.l k) (c.g k) c.d := by rw [e4]; exact Rep.mut s3.ring s.fo
      have s4 : One R c H4 F k hs := ⟨hr4, ho4, (hou _ nor).trans s3.hrow, (hou _ noo).trans s3.hord, (hou _ noh).trans s3.hhe, hk, s.fo, s.frow, s.ford, s.fhe, s.n1, s.n2⟩
      have e04 : Ex H H4 := fun b x hb => by
        by_cases no : b = c.o
        · subst no
          rw [s.ho] at hb
          cases hb
          exact ho4
        · exact (hou b no).trans (e13 _ _ hb)
      unfold sTried
      refine ⟨c.r, F, _, _, c.d, 0, _, rfl, hr4, fun _ => ⟨fun e U H5 e5 nU => ?_, fun z' t' hz' F' H5 hr5 ch => ?_⟩, fun e => absurd rfl e⟩
      · have e6 := Evl.Ex.new (o := .tup [.str "hand"]) nU
        refine ⟨_, rfl, eqD_tup (by decide +kernel) upd_same (e6 _ _ (e5 _ _ ((hou T hTo).trans hT3))) ?_⟩
        exact q F k hs _ (s4.ex (e5.trans e6)) (Did.ex (e04.trans (e5.trans e6))) (.inl rfl)
      · have := Jos.rotN_len (c.d - 1) (c.l k)
        rw [hz', hl0] at this; simp at this
    · rw [List.getElem?_append_right (by rw [List.length_map, hol]; omega), List.length_map, hol, ek, Nat.sub_self]; rfl
end K08
end Cd

set_option Elab.async false
set_option linter.all false
set_option maxRecDepth 100000
set_option maxHeartbeats 4000000
namespace Cd
open PySem PySem.Spec PyProof.Rows L2 Tx Kp Mx
open Evl (Ex sq_of ex_l sz_of sz_lt fresh_back)
variable {K : PySem.W.Frag}
namespace K08
def t_done (R : Rep K) (C : Cs) : TS :=
(tSeq (tAsg (tOp oSub (tCB (rLenL K) (tCons (tDGet (tVar 1) (tC (.str "order"))) tNil)) (tDGet (tVar 1) (tC (.str "at")))) (gName 3))
  (tSeq (tAsg (tOp oMod (tOp oFdiv (tVar 2) (tC (.int 4))) (tC (.int 5))) (gName 4))
  (tSeq (tIfS (tAnd (tTest (tOp rEq (tOp oMod (tVar 2) (tC (.int 4))) (tC (.int 0)))) (tTest (tOp oGt (tVar 4) (tVar 3))))
  (tRet (tOp (rEqD K) (tCall (sTried R C) [] E0 (tCons (tVar 0) (tCons (tC (.int 1)) (tCons (tVar 4) tNil)))) (tTup (tCons (tC (.str "count")) tNil))))
  tNext)
  (tSeq (tIfS (tTest (tOp rEq (tOp oMod (tVar 2) (tC (.int 4))) (tC (.int 0))))
  (t_many R C)
  tNext)
  (tSeq (tIfS (tTest (tOp rEq (tOp oMod (tVar 2) (tC (.int 4))) (tC (.int 1))))
  (t_bad R C)
  tNext)
  (t_one R C))))))
@[irreducible] def sDone (R : Rep K) (C : Cs) : Sp := fun vs H Q _ => ∃ (c : C8) (F : Addr → Prop) (k : Nat) (hs : List V) (cell : Int), vs = [.ref c.r, .ref c.o, .int cell] ∧ c.Ok ∧ One R c H F k hs ∧ hs.length ≤ 1000 ∧ DoneK R c F hs H Q
theorem pure_done {R : Rep K} {C : Cs} {vs : List V} {H : Hp} {Q : VK} {E : XK} {nx : L2.St → Hp → Prop} (h : sDone R C vs H Q E) : t_done R C { nx := nx, rt := Q } (start ["_law_ring", "_law_own", "_law_cell", "_law_rest", "_law_many", "_law_due", "_law_found"] vs) H := by
  unfold sDone at h
  obtain ⟨c, F, k, hs, cell, rfl, co, s, hz, q⟩ := h
  have hk := s.hk
  have hol := c.olen
  have hlk := c.len k
  refine ⟨_, rfl, c.o, _, rfl, dg s.ho own_order, c.ord, _, rfl, .inl (sq_of s.hord), _, rfl, c.o, _, rfl, dg s.ho own_at, _, _, rfl, rfl, ?_⟩
  dsimp only
  rw [List.length_map, hol]
  refine ⟨_, rfl, _, _, rfl, rfl, ⟨by decide, by decide⟩, _, _, rfl, rfl, pos0 (by decide), ?_⟩
  obtain ⟨m, hm, hm5⟩ : ∃ m : Nat, cell / 4 % 5 = (m : Int) ∧ m < 5 := by
    have b1 : 0 ≤ cell / 4 % 5 := Int.emod_nonneg _ (by decide)
    have b2 : cell / 4 % 5 < 5 := Int.emod_lt_of_pos _ (by decide)
    exact ⟨(cell / 4 % 5).toNat, by omega, by omega⟩
  dsimp only
  rw [hm]
  have rest : (tSeq (tIfS (tTest (tOp rEq (tOp oMod (tVar 2) (tC (.int 4))) (tC (.int 1))))
      (t_bad R C)
      tNext)
      (t_one R C)) { nx := nx, rt := Q } (Sd c cell ((c.zs.length : Int) - (k : Int)) (m : Int) none none) H := by
    refine ⟨_, rfl, _, _, rfl, rfl, pos0 (by decide), rfl, _, rfl, iteC (fun c1 => ?_) (fun c1 => ?_)⟩
    · exact bad_go s hm5 q
    · exact one_go co s q
  refine ⟨_, rfl, _, _, rfl, rfl, pos0 (by decide), rfl, _, rfl, iteC (fun c1 => ?_) (fun c1 => ?_)⟩
  · refine ⟨_, rfl, _, rfl, _, _, rfl, rfl, _, rfl, iteC (fun c2 => ?_) (fun c2 => ?_)⟩
    · have h2 := of_decide_eq_true c2
      refine ⟨_, rfl, _, rfl, ?_⟩
      show sTried R C [.ref c.r, .int 1, .int (m : Int)] _ _ E0
      refine refuse_go s (Evl.Ex.refl H) Typ.int ?_ q
      rw [wh_off]; omega
    · have h2 := of_decide_eq_false c2
      refine ⟨_, rfl, _, _, rfl, rfl, pos0 (by decide), rfl, _, rfl, ?_⟩
      rw [c1]
      refine iteT ?_
      exact many_go co s (by omega) hz q
  · refine iteF ?_
    refine ⟨_, rfl, _, _, rfl, rfl, pos0 (by decide), rfl, _, rfl, ?_⟩
    rw [c1]
    exact iteF rest
end K08
end Cd

set_option Elab.async false
set_option linter.all false
set_option maxRecDepth 100000
set_option maxHeartbeats 4000000
namespace Cd
open PySem PySem.Spec PyProof.Rows L2 Tx Kp Mx
open Evl (Ex sq_of ex_l sz_of sz_lt fresh_back)
variable {K : PySem.W.Frag}
namespace K08
/-! ### two rings -/
abbrev Mut (c : C8) (F : Addr → Prop) (b : Addr) : Prop := F b ∨ b = c.o ∨ b = c.he
def tOwn (K : PySem.W.Frag) : TE := (tDisp (((tC (.str "row")), (tVar 8)) :: (((tC (.str "step")), (tVar 6)) :: (((tC (.str "at")), (tC (.int 0))) :: (((tC (.str "order")), (tCall (sOut K) [] E0 (tCons (tVar 8) (tCons (tVar 6) tNil)))) :: (((tC (.str "held")), (tLst tNil)) :: []))))))
theorem own_go {p RL OL h : Addr} {kk8 : Option V} {M B : Option V} {D : Nat} {row : Addr} {zs : List Str} {H : Hp} {Q : VK} (hrow : H row = some (.lst (zs.map V.str))) (hz : zs.length ≤ 12) (ok : ∀ z ∈ zs, PyData.strOk z = true) (d1 : 1 ≤ D)
    (q : ∀ o ord he H', H o = none → H ord = none → H he = none → he ≠ ord → o ≠ ord → o ≠ he → Ex H H' → H' o = some (.dK (ownK row D 0 ord he)) → H' ord = some (.lst ((Jos.out (D - 1) zs.length zs).map V.str)) → H' he = some (.lst []) → Q (.ref o) H') :
    tOwn K [some (.ref p), some (.ref RL), some (.ref OL), kk8, M, some (.ref h), some (.int (D : Int)), B, some (.ref row)] H Q := by
  intro o no
  have e1 := Evl.Ex.new (o := .dK []) no
  have hrow1 := e1 _ _ hrow
  have ho1 : _ = some (HO.dK []) := upd_same (H := H) (a := o)
  refine ⟨_, rfl, _, rfl, _, rfl, _, rfl, row, _, _, rfl, sq_of hrow1, by rw [List.length_map]; omega, str_plain ok, by omega, fun ord H2 nord e2 hord => ?_⟩
  rw [List.length_map, Jos.out_map, show ((D : Int) - 1).toNat = D - 1 by omega] at hord
  refine ⟨Nat.zero_le _, fun he nhe => ?_⟩
  have e3 := Evl.Ex.new (o := .lst []) nhe
  have ho2 := e2 _ _ ho1
  have ho3 := e3 _ _ ho2
  refine ⟨ho3, ownK row D 0 ord he, rfl, (by show 5 ≤ 15; decide), ?_⟩
  rw [own_merge]
  have noord : o ≠ ord := fun z => by rw [← z, ho1] at nord; cases nord
  have nohe : o ≠ he := fun z => by rw [← z, ho2] at nhe; cases nhe
  have nho : he ≠ ord := fun z => by rw [z, hord] at nhe; cases nhe
  have e13 := e1.trans (e2.trans e3)
  refine q o ord he _ no (fresh_back e1 nord) (fresh_back (e1.trans e2) nhe) nho noord nohe (Evl.Ex.mut e13 no) upd_same ?_ ?_
  · rw [upd_ne noord.symm]; exact e3 _ _ hord
  · rw [upd_ne nohe.symm, upd_same]
def t_each (R : Rep K) (C : Cs) : TS :=
  (tSeq (tAsg (tOp oAdd (tC (.int 1)) (tOp oMod (tCall sNext [] E0 (tCons (tVar 0) tNil)) (tC (.int 12)))) (gName 4))
  (tSeq (tAsg (tCall sHands [] E0 (tCons (tVar 0) (tCons (tVar 4) tNil))) (gName 5))
  (tSeq (tAsg (tCall sOf [] E0 (tCons (tVar 0) (tCons (tLst (tCons (tCall sStep [] E0 (tCons (tVar 0) (tCons (tC (.int 40)) tNil))) (tCons (tCall sStep [] E0 (tCons (tVar 0) (tCons (tC (.int 40)) tNil))) (tCons (tOp oAdd (tC (.int 1)) (tCall sFar [] E0 (tCons (tVar 0) (tCons (tOp oPow (tC (.int 10)) (tC (.int 60))) tNil)))) tNil)))) tNil))) (gName 6))
  (tSeq (tAsg (tOp oMod (tCall sNext [] E0 (tCons (tVar 0) tNil)) (tVar 4)) (gName 7))
  (tSeq (tAsg (tCall sTurned [] E0 (tCons (tCB (rListOf K) (tCons (tVar 5) tNil)) (tCons (tVar 7) tNil))) (gName 8))
  (tSeq (tDrop (tBM K "list" rAppend (tVar 2) (tCons (tOwn K) tNil)))
  (tSeq (tDrop (tBM K "list" rAppend (tVar 1) (tCons (tMake R.C (sInit R C.ring C.step C.place) [] E0 (tCons (tVar 5) (tCons (tVar 6) (tCons (tVar 7) tNil)))) tNil)))
  (tDrop (tBM0 K "list" rClear (tVar 5))))))))))
/-- one more -/
structure More (R : Rep K) (p RL OL : Addr) (rs os : List V) (H H' : Hp) (c : C8) (F : Addr → Prop) : Prop where
  ok : c.Ok
  one : One R c H' F 0 []
  st : StAt H' p
  hR : H' RL = some (.lst (rs ++ [.ref c.r]))
  hO : H' OL = some (.lst (os ++ [.ref c.o]))
  keep : ∀ b x, H b = some x → b ≠ p → b ≠ RL → b ≠ OL → H' b = some x
  new : ∀ b, Mut c F b → H b = none
  nrow : H c.row = none
  nord : H c.ord = none
theorem each_go {R : Rep K} {C : Cs} {p RL OL : Addr} {rs os : List V} {H : Hp} {y3 y4 y5 y6 y7 y8 : Option V} {De : Ends} (st : StAt H p) (hR : H RL = some (.lst rs)) (hO : H OL = some (.lst os)) (nRO : RL ≠ OL) (nRp : RL ≠ p) (nOp : OL ≠ p) (z1 : rs.length ≤ 5) (z2 : os.length ≤ 5)
    (q : ∀ c F H' y3 y4 y5 y6 y7 y8, More R p RL OL rs os H H' c F → De.nx [some (.ref p), some (.ref RL), some (.ref OL), y3, y4, y5, y6, y7, y8] H') :
    t_each R C De [some (.ref p), some (.ref RL), some (.ref OL), y3, y4, y5, y6, y7, y8] H := by
  unfold t_each
  generalize hT : tOwn K = tq
  refine ⟨_, rfl, p, rfl, st, fun H2 n2 r2 _ _ => ?_⟩
  refine ⟨_, _, rfl, rfl, pos0 (by decide), _, _, rfl, rfl, ?_⟩
  obtain ⟨M, hM, m1, m2⟩ : ∃ M : Nat, 1 + n2 % 12 = (M : Int) ∧ 1 ≤ M ∧ M ≤ 12 := by
    have b1 : 0 ≤ n2 % 12 := Int.emod_nonneg _ (by decide)
    have b2 : n2 % 12 < 12 := Int.emod_lt_of_pos _ (by decide)
    exact ⟨(1 + n2 % 12).toNat, by omega, by omega, by omega⟩
  dsimp only
  rw [hM]
  refine ⟨_, rfl, _, rfl, p, M, rfl, r2.2, by omega, fun h H3 zs nh r3 hh hz hn ok ne => ?_⟩
  have nhp : h ≠ p := r2.2.ne nh
  have nh0 : H h = none := r2.free nh
  refine ⟨_, rfl, _, rfl, p, 40, rfl, r3.2, by decide, fun H4 d4 r4 d41 d42 => ?_⟩
  refine ⟨_, rfl, p, 40, rfl, r4.2, by decide, fun H5 d5 r5 d51 d52 => ?_⟩
  refine ⟨_, rfl, _, _, rfl, rfl, ⟨by decide, by decide, by decide⟩, p, _, rfl, r5.2, by rw [ten60]; decide, fun H6 f6 r6 h6 => ?_⟩
  rw [ten60] at h6
  refine ⟨_, _, rfl, rfl, (by decide : 3 ≤ sizeLine), fun l6 nl6 => ?_⟩
  refine ⟨p, .ref l6, rfl, r6.2.ex (Evl.Ex.new nl6), .inl ⟨l6, _, rfl, r6.2.ne nl6, upd_same, by simp, fun H7 v r7 hv => ?_⟩⟩
  have r37 : Run p H3 H7 := r4.trans (r5.trans (r6.trans ((Run.ex r6.2 (Evl.Ex.new nl6)).trans r7)))
  obtain ⟨D, rfl, d1, d2⟩ : ∃ D : Nat, v = .int (D : Int) ∧ 1 ≤ D ∧ (D : Int) ≤ big := by
    have b40 : (40 : Int) ≤ big := by decide
    simp only [List.mem_cons, List.not_mem_nil, or_false] at hv
    rcases hv with rfl | rfl | rfl
    · exact ⟨d4.toNat, by rw [Int.toNat_of_nonneg (by omega)], by omega, by omega⟩
    · exact ⟨d5.toNat, by rw [Int.toNat_of_nonneg (by omega)], by omega, by omega⟩
    · exact ⟨1 + f6, by congr 1, by omega, by omega⟩
  clear hv
  have hh7 := r37.keep nhp hh
  refine ⟨_, rfl, p, rfl, r7.2, fun H8 n8 r8 _ _ => ?_⟩
  refine ⟨_, rfl, _, _, rfl, rfl, pos0 (by omega), ?_⟩
  obtain ⟨B, hB, hBM⟩ : ∃ B : Nat, n8 % (M : Int) = (B : Int) ∧ B < M := by
    have b1 : 0 ≤ n8 % (M : Int) := Int.emod_nonneg _ (by omega)
    have b2 : n8 % (M : Int) < M := Int.emod_lt_of_pos _ (by omega)
    exact ⟨(n8 % (M : Int)).toNat, by omega, by omega⟩
  dsimp only
  rw [hB]
  have hh8 := r8.keep nhp hh7
  have st8 := r8.2
  have r08 : Run p H H8 := r2.trans (r3.trans (r37.trans r8))
  -- the row
  refine ⟨_, rfl, h, _, rfl, .inl (sq_of hh8), fun c nc => ?_⟩
  have e9 := Evl.Ex.new (o := .lst (zs.map V.str)) nc
  refine ⟨_, rfl, c, _, _, rfl, upd_same, by rw [List.length_map]; omega, by rw [List.length_map]; omega, fun ro H10 nro e10 hro => ?_⟩
  rw [List.length_map, Int.emod_eq_of_lt (by omega) (by omega), Int.toNat_natCast, Jos.rot_map] at hro
  have e810 := e9.trans e10
  have nro8 : H8 ro = none := fresh_back e9 nro
  have r010 : Run p H H10 := r08.trans (Run.ex st8 e810)
  have hR10 := r010.keep nRp hR
  have hO10 := r010.keep nOp hO
  have hh10 := e810 _ _ hh8
  have nhR : h ≠ RL := fun z => by rw [z, hR] at nh0; cases nh0
  have nhO : h ≠ OL := fun z => by rw [z, hO] at nh0; cases nh0
  have okr : ∀ z ∈ Jos.rot zs B, PyData.strOk z = true := fun z hz => ok z ((Jos.rot_perm zs B).mem_iff.mp hz)
  have lrot : (Jos.rot zs B).length = M := by rw [Jos.rot_len]; exact hz
  refine ⟨_, rfl, ty_l hO10, ?_⟩
  show tq [some (.ref p), some (.ref RL), some (.ref OL), y3, some (.int (M : Int)), some (.ref h), some (.int (D : Int)), some (.int (B : Int)), some (.ref ro)] H10 _
  refine Eq.mp (congrFun (congrFun (congrFun hT _) _) _) ?_
  refine own_go hro (by omega) okr d1 fun o ord he H11 no nord nhe nhe1 noo noh e11 ho hord hhe => ?_
  have hO11 := e11 _ _ hO10
  have hR11 := e11 _ _ hR10
  have hh11 := e11 _ _ hh10
  have hro11 := e11 _ _ hro
  have noO : o ≠ OL := fun z => by rw [z, hO10] at no; cases no
  have ndO : ord ≠ OL := fun z => by rw [z, hO10] at nord; cases nord
  have neO : he ≠ OL := fun z => by rw [z, hO10] at nhe; cases nhe
  have noR : o ≠ RL := fun z => by rw [z, hR10] at no; cases no
  have ndR : ord ≠ RL := fun z => by rw [z, hR10] at nord; cases nord
  have neR : he ≠ RL := fun z => by rw [z, hR10] at nhe; cases nhe
  have noh' : o ≠ h := fun z => by rw [z, hh10] at no; cases no
  have ndh : ord ≠ h := fun z => by rw [z, hh10] at nord; cases nord
  have neh : he ≠ h := fun z => by rw [z, hh10] at nhe; cases nhe
  have nro0 : H ro = none := r08.free nro8
  have roO : ro ≠ OL := fun z => by rw [z, hO] at nro0; cases nro0
  have roR : ro ≠ RL := fun z => by rw [z, hR] at nro0; cases nro0
  have roh : ro ≠ h := fun z => by rw [z, hh8] at nro8; cases nro8
  have nop : o ≠ p := r010.2.ne no
  have ndp : ord ≠ p := r010.2.ne nord
  have nep : he ≠ p := r010.2.ne nhe
  have rop : ro ≠ p := st8.ne nro8
  refine ⟨OL, os, .ref o, rfl, rfl, hO11, sz_lt (by omega), ?_⟩
  have hou : ∀ b, b ≠ OL → upd H11 OL (.lst (os ++ [.ref o])) b = H11 b := fun b hb => upd_ne hb
  have hO12 : _ = some (HO.lst (os ++ [.ref o])) := upd_same (H := H11) (a := OL)
  have st11 : StAt H11 p := r010.2.ex e11
  generalize upd H11 OL (.lst (os ++ [.ref o])) = H12 at hou hO12
  have hR12 := (hou RL nRO).trans hR11
  have hh12 := (hou h nhO).trans hh11
  refine ⟨_, rfl, ty_l hR12, _, rfl, _, rfl, _, rfl, ?_⟩
  intro r dx nr ndx ner
  refine make_go (E := E0) (b := B) hh12 (by omega) (by omega) hn ok d1 d2 (by omega) nr ndx ner fun F H13 hr13 fr13 e13 => ?_
  have hR13 := e13 _ _ hR12
  have hh13 := e13 _ _ hh12
  refine ⟨RL, rs, .ref r, rfl, rfl, hR13, sz_lt (by omega), ?_⟩
  have nFR : ¬ F RL := fun z => by have := fr13 _ z; rw [hR12] at this; cases this
  have nFh : ¬ F h := fun z => by have := fr13 _ z; rw [hh12] at this; cases this
  have hh14 : upd H13 RL (.lst (rs ++ [.ref r])) h = some (.lst (zs.map V.str)) := by rw [upd_ne nhR]; exact hh13
  refine ⟨_, rfl, ty_l hh14, h, _, rfl, rfl, hh14, ?_⟩
  -- what stands behind
  have fin : ∀ b x, b ≠ OL → b ≠ RL → b ≠ h → H11 b = some x → upd (upd H13 RL (.lst (rs ++ [.ref r]))) h (.lst []) b = some x := fun b x b1 b2 b3 hb => by
    rw [upd_ne b3, upd_ne b2]; exact e13 _ _ ((hou b b1).trans hb)
  have nF : ∀ b, b ≠ OL → H11 b ≠ none → ¬ F b := fun b b1 hb z => by
    have := fr13 _ z
    rw [hou b b1] at this
    exact hb this
  have back11 : ∀ b, H11 b = none → H b = none := fun b hb => r010.free (fresh_back e11 hb)
  have nfp : ∀ b, F b → H b = none := fun b hb => by
    have h12 := fr13 b hb
    by_cases z : b = OL
    · rw [z, hO12] at h12; cases h12
    · rw [hou b z] at h12
      exact back11 b h12
  obtain ⟨sx, sx1, sx2⟩ := st11
  have npO : p ≠ OL := Ne.symm nOp
  refine q ⟨r, o, ro, ord, he, D, Jos.rot zs B⟩ F _ _ _ _ _ _ _ ⟨⟨d1, by rw [lrot]; exact m2, okr⟩, ⟨?_, ?_, ?_, ?_, ?_, Nat.zero_le _, ?_, ?_, ?_, ?_, ?_, nhe1⟩, ⟨sx, sx1, fin p _ npO (Ne.symm nRp) (Ne.symm nhp) sx2⟩, ?_, ?_, fun b x hb bp bR bO => ?_, fun b hb => ?_, nro0, ?_⟩
  · exact Rep.mut (Rep.mut hr13 nFR) nFh
  · exact fin o _ noO noR noh' ho
  · exact fin ro _ roO roR roh hro11
  · exact fin ord _ ndO ndR ndh hord
  · exact fin he _ neO neR neh hhe
  · exact nF o noO (by rw [ho]; simp)
  · exact nF ro roO (by rw [hro11]; simp)
  · exact nF ord ndO (by rw [hord]; simp)
  · exact nF he neO (by rw [hhe]; simp)
  · exact fun z => by
      have z2 : he = ro := z
      rw [z2, hro] at nhe; cases nhe
  · rw [upd_ne (Ne.symm nhR), upd_same]
  · rw [upd_ne (Ne.symm nhO), upd_ne (Ne.symm nRO)]; exact e13 _ _ hO12
  · have bh : b ≠ h := fun z => by rw [z, nh0] at hb; cases hb
    exact fin b x bO bR bh (e11 _ _ (r010.keep bp hb))
  · rcases hb with hb | rfl | rfl
    · exact nfp b hb
    · exact r010.free no
    · exact r010.free nhe
  · exact r010.free nord
theorem One.keep {R : Rep K} {c : C8} {H H' : Hp} {F : Addr → Prop} {k : Nat} {hs : List V} (s : One R c H F k hs) (kp : ∀ b x, H b = some x → (F b ∨ b = c.o ∨ b = c.he ∨ b = c.row ∨ b = c.ord) → H' b = some x) : One R c H' F k hs := by
  refine ⟨R.frame s.ring fun b hb => ?_, kp _ _ s.ho (.inr (.inl rfl)), kp _ _ s.hrow (.inr (.inr (.inr (.inl rfl)))), kp _ _ s.hord (.inr (.inr (.inr (.inr rfl)))), kp _ _ s.hhe (.inr (.inr (.inl rfl))), s.hk, s.fo, s.frow, s.ford, s.fhe, s.n1, s.n2⟩
  cases q : H b with
  | none => exact absurd q (R.live s.ring hb)
  | some o => exact kp b o q (.inl hb)
theorem One.live {R : Rep K} {c : C8} {H : Hp} {F : Addr → Prop} {k : Nat} {hs : List V} (s : One R c H F k hs) {b : Addr} (h : F b ∨ b = c.o ∨ b = c.he ∨ b = c.row ∨ b = c.ord) : H b ≠ none := by
  rcases h with h | rfl | rfl | rfl | rfl
  · exact R.live s.ring h
  · rw [s.ho]; simp
  · rw [s.hhe]; simp
  · rw [s.hrow]; simp
  · rw [s.hord]; simp
structure Two (R : Rep K) (p RL OL T : Addr) (c0 c1 : C8) (F0 F1 : Addr → Prop) (H H' : Hp) : Prop where
  hT : H' T = some (.tup [.ref RL, .ref OL])
  hR : H' RL = some (.lst [.ref c0.r, .ref c1.r])
  hO : H' OL = some (.lst [.ref c0.o, .ref c1.o])
  st : StAt H' p
  ok0 : c0.Ok
  ok1 : c1.Ok
  a0 : One R c0 H' F0 0 []
  a1 : One R c1 H' F1 0 []
  keep : ∀ b x, H b = some x → b ≠ p → H' b = some x
  n0 : ∀ b, Mut c0 F0 b → H b = none
  n1 : ∀ b, Mut c1 F1 b → H b = none
  s01 : ∀ b, Mut c0 F0 b → ¬ Mut c1 F1 b
  o0 : ∀ b, Mut c0 F0 b → b ≠ RL ∧ b ≠ OL ∧ b ≠ c1.row ∧ b ≠ c1.ord
  o1 : ∀ b, Mut c1 F1 b → b ≠ RL ∧ b ≠ OL ∧ b ≠ c0.row ∧ b ≠ c0.ord
def t_rings (R : Rep K) (C : Cs) : TS :=
(tSeq (tAsg (tLst tNil) (gName 1))
  (tSeq (tAsg (tLst tNil) (gName 2))
  (tSeq (tFor (iRng1 (tCons (tC (.int 2)) tNil)) (gName 3)
  (t_each R C))
  (tRet (tTup (tCons (tVar 1) (tCons (tVar 2) tNil)))))))
@[irreducible] def sRings (R : Rep K) : Sp := fun vs H Q _ => ∃ p, vs = [.ref p] ∧ StAt H p ∧ ∀ T RL OL c0 c1 F0 F1 H', Two R p RL OL T c0 c1 F0 F1 H H' → Q (.ref T) H'
theorem pure_rings {R : Rep K} {C : Cs} {vs : List V} {H : Hp} {Q : VK} {E : XK} {nx : L2.St → Hp → Prop} (h : sRings R vs H Q E) : t_rings R C { nx := nx, rt := Q } (start ["_law_state_here", "_law_rings_here", "_law_owns", "_law_k", "_law_many", "_law_hands_here", "_law_step_here", "_law_begin", "_law_row"] vs) H := by
  unfold sRings at h
  obtain ⟨p, rfl, st, q⟩ := h
  refine ⟨Nat.zero_le _, fun RL nR => ?_⟩
  have e1 := Evl.Ex.new (o := .lst []) nR
  refine ⟨Nat.zero_le _, fun OL nO => ?_⟩
  have e2 := Evl.Ex.new (o := .lst []) nO
  have e12 := e1.trans e2
  have nO0 : H OL = none := fresh_back e1 nO
  have hR2 := e2 _ _ (show _ = some (HO.lst []) from upd_same (H := H) (a := RL))
  have hO2 : _ = some (HO.lst []) := upd_same (H := upd H RL (.lst [])) (a := OL)
  have nRO : RL ≠ OL := fun z => by rw [← z, upd_same] at nO; cases nO
  have st2 := st.ex e12
  have nRp : RL ≠ p := st.ne nR
  have nOp : OL ≠ p := st.ne nO0
  have back : ∀ b, upd (upd H RL (.lst [])) OL (.lst []) b = none → H b = none := fun b hb => fresh_back e12 hb
  generalize upd (upd H RL (.lst [])) OL (.lst []) = H2 at e12 hR2 hO2 st2 back
  obtain ⟨sx, sx1, sx2⟩ := id st2
  have np2 : H2 p ≠ none := by rw [sx2]; simp
  have fr : ∀ {b : Addr}, H2 b = none → b ≠ p ∧ b ≠ RL ∧ b ≠ OL := fun {b} hb => ⟨fun z => np2 (z ▸ hb), fun z => (by rw [z, hR2] at hb; cases hb), fun z => (by rw [z, hO2] at hb; cases hb)⟩
  refine ⟨2, rfl, by decide, by decide, for_range (lo := 0) (n := ((2 : Int)).toNat) (fun i σ H' => ∃ y3 y4 y5 y6 y7 y8, σ = [some (.ref p), some (.ref RL), some (.ref OL), y3, y4, y5, y6, y7, y8] ∧
      ((i = 0 ∧ H' = H2) ∨ (i = 1 ∧ ∃ c0 F0, More R p RL OL [] [] H2 H' c0 F0) ∨ (i = 2 ∧ ∃ c0 F0 H1 c1 F1, More R p RL OL [] [] H2 H1 c0 F0 ∧ More R p RL OL [.ref c0.r] [.ref c0.o] H1 H' c1 F1)))
    ⟨_, _, _, _, _, _, rfl, .inl ⟨rfl, rfl⟩⟩ ?_ ?_⟩
  · intro i σ H' hi hP
    obtain ⟨y3, y4, y5, y6, y7, y8, rfl, ⟨rfl, rfl⟩ | ⟨rfl, c0, F0, m0⟩ | ⟨rfl, _⟩⟩ := hP
    · exact each_go (y3 := some (.int (0 + ((0 : Nat) : Int)))) st2 hR2 hO2 nRO nRp nOp (by decide) (by decide) fun c F H' _ _ _ _ _ _ m => ⟨_, _, _, _, _, _, rfl, .inr (.inl ⟨rfl, c, F, m⟩)⟩
    · exact each_go (y3 := some (.int (0 + ((1 : Nat) : Int)))) m0.st m0.hR m0.hO nRO nRp nOp (by simp) (by simp) fun c F H'' _ _ _ _ _ _ m => ⟨_, _, _, _, _, _, rfl, .inr (.inr ⟨rfl, c0, F0, H', c, F, m0, m⟩)⟩
    · exact absurd hi (by decide)
  · intro σ H' hP
    obtain ⟨y3, y4, y5, y6, y7, y8, rfl, ⟨e, _⟩ | ⟨e, _⟩ | ⟨_, c0, F0, H1, c1, F1, m0, m1⟩⟩ := hP
    · exact absurd e (by decide)
    · exact absurd e (by decide)
    refine ⟨_, rfl, _, rfl, (by decide : 2 ≤ sizeLine), fun T nT => ?_⟩
    have eT := Evl.Ex.new (o := .tup [.ref RL, .ref OL]) nT
    have c0cell : ∀ {b : Addr}, (F0 b ∨ b = c0.o ∨ b = c0.he ∨ b = c0.row ∨ b = c0.ord) → H2 b = none := fun {b} h => by
      rcases h with h | rfl | rfl | rfl | rfl
      · exact m0.new _ (.inl h)
      · exact m0.new _ (.inr (.inl rfl))
      · exact m0.new _ (.inr (.inr rfl))
      · exact m0.nrow
      · exact m0.nord
    have a0 : One R c0 H' F0 0 [] := m0.one.keep fun b x hb h => by
      obtain ⟨f1, f2, f3⟩ := fr (c0cell h)
      exact m1.keep b x hb f1 f2 f3
    have mut0 : ∀ {b : Addr}, Mut c0 F0 b → (F0 b ∨ b = c0.o ∨ b = c0.he ∨ b = c0.row ∨ b = c0.ord) := fun {b} h => by
      rcases h with h | h | h
      · exact .inl h
      · exact .inr (.inl h)
      · exact .inr (.inr (.inl h))
    have live1 : ∀ {b : Addr}, (F0 b ∨ b = c0.o ∨ b = c0.he ∨ b = c0.row ∨ b = c0.ord) → H1 b ≠ none := m0.one.live
    have new1 : ∀ {b : Addr}, H1 b = none → H2 b = none := fun {b} hb => by
      cases e : H2 b with
      | none => rfl
      | some x =>
        by_cases bp : b = p
        · subst bp
          obtain ⟨sy, _, sy2⟩ := m0.st
          rw [sy2] at hb; cases hb
        by_cases bR : b = RL
        · rw [bR, m0.hR] at hb; cases hb
        by_cases bO : b = OL
        · rw [bO, m0.hO] at hb; cases hb
        rw [m0.keep b x e bp bR bO] at hb; cases hb
    refine q T RL OL c0 c1 F0 F1 _ ⟨upd_same, eT _ _ m1.hR, eT _ _ m1.hO, m1.st.ex eT, m0.ok, m1.ok, a0.ex eT, m1.one.ex eT, fun b x hb bp => ?_, fun b hb => back b (m0.new b hb), fun b hb => back b (new1 (m1.new b hb)), fun b h0 h1 => live1 (mut0 h0) (m1.new b h1), fun b h0 => ?_, fun b h1 => ?_⟩
    · have b2 := e12 _ _ hb
      have bR : b ≠ RL := fun z => by rw [z, nR] at hb; cases hb
      have bO : b ≠ OL := fun z => by rw [z, nO0] at hb; cases hb
      exact eT _ _ (m1.keep b x (m0.keep b x b2 bp bR bO) bp bR bO)
    · obtain ⟨f1, f2, f3⟩ := fr (m0.new b h0)
      exact ⟨f2, f3, fun z => live1 (mut0 h0) (z ▸ m1.nrow), fun z => live1 (mut0 h0) (z ▸ m1.nord)⟩
    · obtain ⟨f1, f2, f3⟩ := fr (new1 (m1.new b h1))
      exact ⟨f2, f3, fun z => live1 (b := b) (.inr (.inr (.inr (.inl z)))) (m1.new b h1), fun z => live1 (b := b) (.inr (.inr (.inr (.inr z)))) (m1.new b h1)⟩
end K08
end Cd

set_option Elab.async false
set_option linter.all false
set_option maxRecDepth 100000
set_option maxHeartbeats 4000000
namespace Cd
open PySem PySem.Spec PyProof.Rows L2 Tx Kp Mx
open Evl (Ex sq_of ex_l sz_of sz_lt fresh_back)
variable {K : PySem.W.Frag}
namespace K08
/-! ### the two beside each other, over what stands still -/
structure W8 (R : Rep K) (S : Hp) (c0 c1 : C8) (H : Hp) (F0 F1 : Addr → Prop) (k0 k1 : Nat) (h0 h1 : List V) : Prop where
  a0 : One R c0 H F0 k0 h0
  a1 : One R c1 H F1 k1 h1
  ex : Ex S H
  s01 : ∀ b, Mut c0 F0 b → ¬ Mut c1 F1 b
  m0 : ∀ b, Mut c0 F0 b → S b = none
  m1 : ∀ b, Mut c1 F1 b → S b = none
  i0 : S c0.row ≠ none ∧ S c0.ord ≠ none
  i1 : S c1.row ≠ none ∧ S c1.ord ≠ none
section
variable {R : Rep K} {S : Hp} {c0 c1 : C8} {H H' : Hp} {F0 F1 F0' : Addr → Prop} {k0 k1 k0' : Nat} {h0 h1 h0' : List V}
theorem W8.swap (w : W8 R S c0 c1 H F0 F1 k0 k1 h0 h1) : W8 R S c1 c0 H F1 F0 k1 k0 h1 h0 :=
  ⟨w.a1, w.a0, w.ex, fun b h h' => w.s01 b h' h, w.m1, w.m0, w.i1, w.i0⟩
theorem W8.go (w : W8 R S c0 c1 H F0 F1 k0 k1 h0 h1) (e : Ex H H') : W8 R S c0 c1 H' F0 F1 k0 k1 h0 h1 :=
  ⟨w.a0.ex e, w.a1.ex e, w.ex.trans e, w.s01, w.m0, w.m1, w.i0, w.i1⟩
theorem W8.live (w : W8 R S c0 c1 H F0 F1 k0 k1 h0 h1) {b : Addr} (h : S b ≠ none) : H b ≠ none := fun z => by
  cases e : S b with
  | none => exact h e
  | some x => rw [w.ex _ _ e] at z; cases z
theorem mut_cell {c : C8} {F : Addr → Prop} {b : Addr} (h : Mut c F b) : F b ∨ b = c.o ∨ b = c.he ∨ b = c.row ∨ b = c.ord := by
  rcases h with h | h | h
  · exact .inl h
  · exact .inr (.inl h)
  · exact .inr (.inr (.inl h))
/-- the other's cells are none of this one's -/
theorem W8.off (w : W8 R S c0 c1 H F0 F1 k0 k1 h0 h1) {b : Addr} (h : F1 b ∨ b = c1.o ∨ b = c1.he ∨ b = c1.row ∨ b = c1.ord) : ¬ Mut c0 F0 b := by
  rcases h with h | h | h | rfl | rfl
  · exact fun z => w.s01 b z (.inl h)
  · exact fun z => w.s01 b z (.inr (.inl h))
  · exact fun z => w.s01 b z (.inr (.inr h))
  · exact fun z => w.i1.1 (w.m0 _ z)
  · exact fun z => w.i1.2 (w.m0 _ z)
theorem W8.did (w : W8 R S c0 c1 H F0 F1 k0 k1 h0 h1) (a : One R c0 H' F0' k0' h0') (d : Did c0 H H' F0 F0') : W8 R S c0 c1 H' F0' F1 k0' k1 h0' h1 := by
  have kp : ∀ b x, H b = some x → ¬ Mut c0 F0 b → H' b = some x := fun b x hb n => d.keep b x hb (fun z => n (.inl z)) (fun z => n (.inr (.inl z))) fun z => n (.inr (.inr z))
  refine ⟨a, w.a1.keep fun b x hb h => kp b x hb (w.off h), fun b x hb => kp b x (w.ex _ _ hb) fun z => ?_, fun b h h' => ?_, fun b h => ?_, w.m1, w.i0, w.i1⟩
  · rw [w.m0 b z] at hb; cases hb
  · rcases h with h | h | h
    · rcases d.own b h with e | e
      · exact w.s01 b (.inl e) h'
      · exact w.a1.live (mut_cell h') e
    · exact w.s01 b (.inr (.inl h)) h'
    · exact w.s01 b (.inr (.inr h)) h'
  · rcases h with h | h | h
    · rcases d.own b h with e | e
      · exact w.m0 b (.inl e)
      · cases q : S b with
        | none => rfl
        | some x => rw [w.ex _ _ q] at e; cases e
    · exact w.m0 b (.inr (.inl h))
    · exact w.m0 b (.inr (.inr h))
/-! what was told, and what was due -/
structure EIn (S : Hp) (c0 c1 : C8) (H : Hp) (F0 F1 : Addr → Prop) (e : E8) : Prop where
  ok : EOk H e
  sf : S e.f = none
  m0 : ¬ Mut c0 F0 e.T ∧ ¬ Mut c0 F0 e.f ∧ ¬ Mut c0 F0 e.u
  m1 : ¬ Mut c1 F1 e.T ∧ ¬ Mut c1 F1 e.f ∧ ¬ Mut c1 F1 e.u
def Sep (e e' : E8) : Prop := e.f ≠ e'.f ∧ e.f ≠ e'.u ∧ e'.f ≠ e.u
theorem Sep.symm {e e' : E8} (s : Sep e e') : Sep e' e := ⟨s.1.symm, s.2.2, s.2.1⟩
structure Ents (S : Hp) (c0 c1 : C8) (H : Hp) (F0 F1 : Addr → Prop) (es : List E8) : Prop where
  all : ∀ e ∈ es, EIn S c0 c1 H F0 F1 e
  sep : es.Pairwise Sep
theorem Ents.perm {es es' : List E8} (n : Ents S c0 c1 H F0 F1 es) (p : es'.Perm es) : Ents S c0 c1 H F0 F1 es' :=
  ⟨fun e he => n.all e (p.mem_iff.mp he), (p.pairwise_iff (R := Sep) fun h => Sep.symm h).mpr n.sep⟩
theorem Ents.swap {es : List E8} (n : Ents S c0 c1 H F0 F1 es) : Ents S c1 c0 H F1 F0 es :=
  ⟨fun e he => ⟨(n.all e he).ok, (n.all e he).sf, (n.all e he).m1, (n.all e he).m0⟩, n.sep⟩
theorem EOk.ex {e : E8} (o : EOk H e) (x : Ex H H') : EOk H' e := ⟨x _ _ o.hT, x _ _ o.hf, x _ _ o.hu, o.ok, o.few⟩
theorem Ents.go {es : List E8} (n : Ents S c0 c1 H F0 F1 es) (x : Ex H H') : Ents S c0 c1 H' F0 F1 es :=
  ⟨fun e he => ⟨(n.all e he).ok.ex x, (n.all e he).sf, (n.all e he).m0, (n.all e he).m1⟩, n.sep⟩
theorem Ents.did {es : List E8} (n : Ents S c0 c1 H F0 F1 es) (d : Did c0 H H' F0 F0') : Ents S c0 c1 H' F0' F1 es := by
  have kp : ∀ b x, H b = some x → ¬ Mut c0 F0 b → H' b = some x := fun b x hb n => d.keep b x hb (fun z => n (.inl z)) (fun z => n (.inr (.inl z))) fun z => n (.inr (.inr z))
  have nm : ∀ b x, H b = some x → ¬ Mut c0 F0 b → ¬ Mut c0 F0' b := fun b x hb n h => by
    rcases h with h | h | h
    · rcases d.own b h with e | e
      · exact n (.inl e)
      · rw [hb] at e; cases e
    · exact n (.inr (.inl h))
    · exact n (.inr (.inr h))
  refine ⟨fun e he => ?_, n.sep⟩
  obtain ⟨⟨hT, hf, hu, ok, few⟩, sf, ⟨a1, a2, a3⟩, m1⟩ := n.all e he
  exact ⟨⟨kp _ _ hT a1, kp _ _ hf a2, kp _ _ hu a3, ok, few⟩, sf, ⟨nm _ _ hT a1, nm _ _ hf a2, nm _ _ hu a3⟩, m1⟩
theorem Ents.more {es : List E8} {e : E8} (n : Ents S c0 c1 H F0 F1 es) (w : W8 R S c0 c1 H F0 F1 k0 k1 h0 h1) (d : Did c0 H H' F0 F0') (o : EOk H' e) (x : ENew c0 H F0 F0' e) : Ents S c0 c1 H' F0' F1 (e :: es) := by
  have n' := n.did d
  have sp : ∀ {b : Addr}, H b ≠ none → ¬ Mut c0 F0 b → b ≠ e.T ∧ b ≠ e.f ∧ b ≠ e.u := fun {b} hb nb => x.sep b hb (fun z => nb (.inl z)) (fun z => nb (.inr (.inl z))) fun z => nb (.inr (.inr z))
  have no1 : ∀ b, (b = e.T ∨ b = e.f ∨ b = e.u) → ¬ Mut c1 F1 b := fun b hb h => by
    have s := sp (w.a1.live (mut_cell h)) (w.off (mut_cell h))
    rcases hb with rfl | rfl | rfl
    · exact s.1 rfl
    · exact s.2.1 rfl
    · exact s.2.2 rfl
  refine ⟨fun e' he => ?_, List.pairwise_cons.mpr ⟨fun e' he => ?_, n.sep⟩⟩
  · rcases List.mem_cons.mp he with rfl | he
    · refine ⟨o, ?_, ⟨?_, ?_, ?_⟩, no1 _ (.inl rfl), no1 _ (.inr (.inl rfl)), no1 _ (.inr (.inr rfl))⟩
      · refine Classical.byContradiction fun hs => ?_
        exact (sp (w.live hs) fun z => hs (w.m0 _ z)).2.1 rfl
      · exact fun z => z.elim x.fF.1 fun z => z.elim x.oo.1 x.hh.1
      · exact fun z => z.elim x.fF.2.1 fun z => z.elim x.oo.2.1 x.hh.2.1
      · exact fun z => z.elim x.fF.2.2 fun z => z.elim x.oo.2.2 x.hh.2.2
    · exact n'.all e' he
  · obtain ⟨⟨hT, hf, hu, _, _⟩, _, ⟨a1, a2, a3⟩, _⟩ := n.all e' he
    have s1 := sp (b := e'.f) (by rw [hf]; simp) a2
    have s2 := sp (b := e'.u) (by rw [hu]; simp) a3
    exact ⟨s1.2.1.symm, s2.2.1.symm, s1.2.2⟩
/-- a list that was told is changed by its owner -/
theorem W8.mine {e : E8} {o : HO} (w : W8 R S c0 c1 H F0 F1 k0 k1 h0 h1) (i : EIn S c0 c1 H F0 F1 e) : W8 R S c0 c1 (upd H e.f o) F0 F1 k0 k1 h0 h1 := by
  have ne : ∀ {b : Addr}, S b ≠ none → b ≠ e.f := fun {b} hb z => hb (by rw [z]; exact i.sf)
  refine ⟨w.a0.keep fun b x hb h => ?_, w.a1.keep fun b x hb h => ?_, fun b x hb => ?_, w.s01, w.m0, w.m1, w.i0, w.i1⟩
  · refine (upd_ne ?_).trans hb
    rcases h with h | h | h | h | h
    · exact fun z => i.m0.2.1 (.inl (z ▸ h))
    · exact fun z => i.m0.2.1 (.inr (.inl (z.symm.trans h)))
    · exact fun z => i.m0.2.1 (.inr (.inr (z.symm.trans h)))
    · exact h ▸ ne w.i0.1
    · exact h ▸ ne w.i0.2
  · refine (upd_ne ?_).trans hb
    rcases h with h | h | h | h | h
    · exact fun z => i.m1.2.1 (.inl (z ▸ h))
    · exact fun z => i.m1.2.1 (.inr (.inl (z.symm.trans h)))
    · exact fun z => i.m1.2.1 (.inr (.inr (z.symm.trans h)))
    · exact h ▸ ne w.i1.1
    · exact h ▸ ne w.i1.2
  · rw [upd_ne (ne (by rw [hb]; simp))]; exact w.ex _ _ hb
theorem Ents.mine {e : E8} {es : List E8} {xs : List V} (n : Ents S c0 c1 H F0 F1 (e :: es)) : Ents S c0 c1 (upd H e.f (.lst xs)) F0 F1 es := by
  obtain ⟨s1, s2⟩ := List.pairwise_cons.mp n.sep
  have i := n.all e (List.mem_cons_self ..)
  refine ⟨fun e' he => ?_, s2⟩
  have i' := n.all e' (List.mem_cons_of_mem _ he)
  have sp := s1 e' he
  refine ⟨⟨?_, ?_, ?_, i'.ok.ok, i'.ok.few⟩, i'.sf, i'.m0, i'.m1⟩
  · rw [upd_ne fun z => by have := i'.ok.hT; rw [z, i.ok.hf] at this; cases this]; exact i'.ok.hT
  · rw [upd_ne sp.1.symm]; exact i'.ok.hf
  · rw [upd_ne sp.2.1.symm]; exact i'.ok.hu
end
end K08
end Cd

set_option Elab.async false
set_option linter.all false
set_option maxRecDepth 100000
set_option maxHeartbeats 4000000
namespace Cd
open PySem PySem.Spec PyProof.Rows L2 Tx Kp Mx
open Evl (Ex sq_of ex_l sz_of sz_lt fresh_back)
open K11 (same_go)
variable {K : PySem.W.Frag}
namespace K08
abbrev S8 (a p RL OL : Addr) (y4 y5 y6 y7 y8 y9 y10 y11 : Option V) : L2.St := [some (.ref a), some (.ref p), some (.ref RL), some (.ref OL), y4, y5, y6, y7, y8, y9, y10, y11]
abbrev tl (es : List E8) : List V := es.map fun e => V.ref e.T
def Wd (R : Rep K) (S : Hp) (c0 c1 : C8) (i : Nat) (H : Hp) : Prop := ∃ F0 F1 k0 k1 e0 e1, W8 R S c0 c1 H F0 F1 k0 k1 (tl e0) (tl e1) ∧ Ents S c0 c1 H F0 F1 (e0 ++ e1) ∧ e0.length ≤ i ∧ e1.length ≤ i
section
variable {R : Rep K} {C : Cs} {S : Hp} {c0 c1 : C8} {H H' : Hp} {i : Nat} {a p RL OL : Addr} {y4 y5 y6 y7 y8 y9 y10 y11 : Option V} {De : Ends}
theorem Wd.swap (w : Wd R S c0 c1 i H) : Wd R S c1 c0 i H := by
  obtain ⟨F0, F1, k0, k1, e0, e1, w, n, l0, l1⟩ := w
  exact ⟨F1, F0, k1, k0, e1, e0, w.swap, n.swap.perm List.perm_append_comm, l1, l0⟩
theorem Wd.go (w : Wd R S c0 c1 i H) (e : Ex H H') : Wd R S c0 c1 i H' := by
  obtain ⟨F0, F1, k0, k1, e0, e1, w, n, l0, l1⟩ := w
  exact ⟨F0, F1, k0, k1, e0, e1, w.go e, n.go e, l0, l1⟩
theorem deed0 {Q : VK} (w : Wd R S c0 c1 i H) (ok : c0.Ok) (hi : i ≤ 1000) (z : Int) (q : ∀ H', Wd R S c0 c1 (i + 1) H' → Q (.bl true) H') : sDone R C [.ref c0.r, .ref c0.o, .int z] H Q E0 := by
  obtain ⟨F0, F1, k0, k1, e0, e1, w, n, l0, l1⟩ := w
  unfold sDone
  refine ⟨c0, F0, k0, _, z, rfl, ok, w.a0, by rw [List.length_map]; omega, fun F' k' hs' H' a d res => ?_⟩
  rcases res with rfl | ⟨e, rfl, eo, en⟩
  · exact q H' ⟨F', F1, k', k1, e0, e1, w.did a d, n.did d, by omega, by omega⟩
  · refine q H' ⟨F', F1, k', k1, e0 ++ [e], e1, ?_, (n.more w d eo en).perm ?_, by rw [List.length_append, List.length_singleton]; omega, by omega⟩
    · have e2 : tl (e0 ++ [e]) = tl e0 ++ [V.ref e.T] := by simp [tl]
      rw [e2]; exact w.did a d
    · rw [List.append_assoc]
      exact List.perm_middle
def t_deed (R : Rep K) (C : Cs) : TS :=
  (tIfS (tNot (tB (tCall (sDone R C) [] E0 (tCons (tOp (rIxL K) (tVar 2) (tOp oMod (tVar 4) (tC (.int 2)))) (tCons (tOp (rIxL K) (tVar 3) (tOp oMod (tVar 4) (tC (.int 2)))) (tCons (tOp oFdiv (tVar 4) (tC (.int 2))) tNil))))))
  (tRet (tC (.bl false)))
  tNext)
theorem deed_go {z : Int} (w : Wd R S c0 c1 i H) (ok0 : c0.Ok) (ok1 : c1.Ok) (hi : i ≤ 1000) (hR : H RL = some (.lst [.ref c0.r, .ref c1.r])) (hO : H OL = some (.lst [.ref c0.o, .ref c1.o]))
    (q : ∀ H', Wd R S c0 c1 (i + 1) H' → De.nx (S8 a p RL OL (some (.int z)) y5 y6 y7 y8 y9 y10 y11) H') : t_deed R C De (S8 a p RL OL (some (.int z)) y5 y6 y7 y8 y9 y10 y11) H := by
  have b1 : 0 ≤ z % 2 := Int.emod_nonneg _ (by decide)
  have b2 : z % 2 < 2 := Int.emod_lt_of_pos _ (by decide)
  obtain hj | hj : z % 2 = ((0 : Nat) : Int) ∨ z % 2 = ((1 : Nat) : Int) := by omega
  · refine ⟨_, rfl, _, rfl, _, _, rfl, rfl, pos0 (by decide), ?_⟩
    dsimp only
    rw [hj]
    refine ⟨RL, _, _, .ref c0.r, rfl, rfl, sq_of hR, atI_nat rfl, ?_⟩
    refine ⟨_, rfl, _, rfl, _, _, rfl, rfl, pos0 (by decide), ?_⟩
    dsimp only
    rw [hj]
    refine ⟨OL, _, _, .ref c0.o, rfl, rfl, sq_of hO, atI_nat rfl, ?_⟩
    refine ⟨_, rfl, _, _, rfl, rfl, ⟨by decide, by decide⟩, ?_⟩
    show sDone R C [.ref c0.r, .ref c0.o, .int (z / 2)] H _ E0
    exact deed0 w ok0 hi _ fun H' w' => ⟨true, rfl, iteF (q H' w')⟩
  · refine ⟨_, rfl, _, rfl, _, _, rfl, rfl, pos0 (by decide), ?_⟩
    dsimp only
    rw [hj]
    refine ⟨RL, _, _, .ref c1.r, rfl, rfl, sq_of hR, atI_nat rfl, ?_⟩
    refine ⟨_, rfl, _, rfl, _, _, rfl, rfl, pos0 (by decide), ?_⟩
    dsimp only
    rw [hj]
    refine ⟨OL, _, _, .ref c1.o, rfl, rfl, sq_of hO, atI_nat rfl, ?_⟩
    refine ⟨_, rfl, _, _, rfl, rfl, ⟨by decide, by decide⟩, ?_⟩
    show sDone R C [.ref c1.r, .ref c1.o, .int (z / 2)] H _ E0
    exact deed0 w.swap ok1 hi _ fun H' w' => ⟨true, rfl, iteF (q H' w'.swap)⟩
def t_look (R : Rep K) : TS :=
  (tIfS (tOr (tNot (tB (tCall (sShown R) [] E0 (tCons (tOp (rIxL K) (tVar 2) (tC (.int 0))) (tCons (tOp (rIxL K) (tVar 3) (tC (.int 0))) tNil))))) (tNot (tB (tCall (sShown R) [] E0 (tCons (tOp (rIxL K) (tVar 2) (tC (.int 1))) (tCons (tOp (rIxL K) (tVar 3) (tC (.int 1))) tNil))))))
  (tRet (tC (.bl false)))
  tNext)
theorem seen_go {c : C8} {F : Addr → Prop} {k : Nat} {hs : List V} {Q : VK} {E : XK} (ok : c.Ok) (s : One R c H F k hs) (q : ∀ H', Ex H H' → Q (.bl true) H') : sShown R [.ref c.r, .ref c.o] H Q E := by
  unfold sShown
  exact ⟨c, F, k, hs, rfl, ok, s, q⟩
theorem both_go {F0 F1 : Addr → Prop} {k0 k1 : Nat} {h0 h1 : List V} (w : W8 R S c0 c1 H F0 F1 k0 k1 h0 h1) (ok0 : c0.Ok) (ok1 : c1.Ok) (hR : H RL = some (.lst [.ref c0.r, .ref c1.r])) (hO : H OL = some (.lst [.ref c0.o, .ref c1.o]))
    (q : ∀ H', Ex H H' → De.nx (S8 a p RL OL y4 y5 y6 y7 y8 y9 y10 y11) H') : t_look R De (S8 a p RL OL y4 y5 y6 y7 y8 y9 y10 y11) H := by
  refine ⟨_, rfl, RL, _, 0, .ref c0.r, rfl, rfl, sq_of hR, at0, _, rfl, OL, _, 0, .ref c0.o, rfl, rfl, sq_of hO, at0, ?_⟩
  show sShown R [.ref c0.r, .ref c0.o] H _ E0
  refine seen_go ok0 w.a0 fun H1 e1 => ⟨true, rfl, iteF ?_⟩
  refine ⟨_, rfl, RL, _, 1, .ref c1.r, rfl, rfl, sq_of (e1 _ _ hR), atI_nat (j := 1) rfl, _, rfl, OL, _, 1, .ref c1.o, rfl, rfl, sq_of (e1 _ _ hO), atI_nat (j := 1) rfl, ?_⟩
  show sShown R [.ref c1.r, .ref c1.o] H1 _ E0
  exact seen_go ok1 (w.a1.ex e1) fun H2 e2 => ⟨true, rfl, iteF (q H2 (e1.trans e2))⟩
def t_mine (K : PySem.W.Frag) : TS :=
  (tSeq (tIfS (tOr (tNot (tB (tCB (rIsi K) (tCons (tVar 6) (tCons (tC (.ty "list")) tNil))))) (tTest (tOp (rEqF K true) (tVar 6) (tVar 7))))
  (tRet (tC (.bl false)))
  tNext)
  (tDrop (tBM K "list" rAppend (tVar 6) (tCons (tC (.str "more")) tNil))))
def t_held (K : PySem.W.Frag) : TS :=
  (tFor (iList K (tDGet (tVar 5) (tC (.str "held")))) (gTup K 2 (gCons (gName 6) (gCons (gName 7) gNil)))
  (t_mine K))
theorem held_go {F0 F1 : Addr → Prop} {k0 k1 : Nat} {e0 rs : List E8} {h1 : List V} (w : W8 R S c0 c1 H F0 F1 k0 k1 (tl e0) h1) (n : Ents S c0 c1 H F0 F1 (e0 ++ rs))
    (q : ∀ y6 y7 H', W8 R S c0 c1 H' F0 F1 k0 k1 (tl e0) h1 → Ents S c0 c1 H' F0 F1 rs → De.nx (S8 a p RL OL y4 (some (.ref c0.o)) y6 y7 y8 y9 y10 y11) H') : t_held K De (S8 a p RL OL y4 (some (.ref c0.o)) y6 y7 y8 y9 y10 y11) H := by
  refine ⟨_, rfl, c0.o, _, rfl, dg w.a0.ho own_held, c0.he, rfl, ⟨_, sq_of w.a0.hhe⟩, for_list (K := K) (a := c0.he) (xs := tl e0) (fun i σ H' => ∃ y6 y7, σ = S8 a p RL OL y4 (some (.ref c0.o)) y6 y7 y8 y9 y10 y11 ∧ W8 R S c0 c1 H' F0 F1 k0 k1 (tl e0) h1 ∧ Ents S c0 c1 H' F0 F1 (e0.drop i ++ rs))
    ⟨_, _, rfl, w, n⟩ (fun i σ H' _ hP => ?_) ?_ ?_⟩
  · obtain ⟨_, _, _, w, _⟩ := hP
    exact sq_of w.a0.hhe
  · intro i x σ H' hx hP
    obtain ⟨z6, z7, rfl, w, n⟩ := hP
    obtain ⟨e, he, rfl⟩ : ∃ e, e0[i]? = some e ∧ x = .ref e.T := by
      rw [List.getElem?_map] at hx
      cases q : e0[i]? with
      | none => rw [q] at hx; cases hx
      | some e => rw [q] at hx; exact ⟨e, rfl, (Option.some.inj hx).symm⟩
    obtain ⟨hil, hie⟩ := List.getElem?_eq_some_iff.mp he
    rw [List.drop_eq_getElem_cons hil, hie, List.cons_append] at n
    have ei := n.all e (List.mem_cons_self ..)
    have pl := str_plain ei.ok.ok
    have few := ei.ok.few
    refine ⟨e.T, _, rfl, .inl (.inl ei.ok.hT), rfl, _, _, rfl, _, _, rfl, rfl, ?_⟩
    refine ⟨_, rfl, _, _, _, _, true, rfl, .ty "list", .base (.lst ei.ok.hf), kit_ty (by decide +kernel), true, rfl, iteF ?_⟩
    refine ⟨_, rfl, _, rfl, same_go (sq_of ei.ok.hf) (sq_of ei.ok.hu) pl ⟨_, rfl, iteF ?_⟩⟩
    refine ⟨_, rfl, ty_l ei.ok.hf, e.f, _, .str "more", rfl, rfl, ei.ok.hf, sz_lt (by rw [List.length_map]; omega), ?_⟩
    exact ⟨_, _, rfl, w.mine ei, n.mine⟩
  · intro σ H' hP
    obtain ⟨z6, z7, rfl, w, n⟩ := hP
    rw [List.drop_of_length_le (by rw [List.length_map]; exact Nat.le_refl _), List.nil_append] at n
    exact q _ _ H' w n
def t_owns (K : PySem.W.Frag) : TS :=
  (tFor (iList K (tVar 3)) (gName 5)
  (t_held K))
theorem owns_go (w : Wd R S c0 c1 i H) (hO : S OL = some (.lst [.ref c0.o, .ref c1.o]))
    (q : ∀ F0 F1 k0 k1 h0 h1 y5 y6 y7 H', W8 R S c0 c1 H' F0 F1 k0 k1 h0 h1 → De.nx (S8 a p RL OL y4 y5 y6 y7 y8 y9 y10 y11) H') : t_owns K De (S8 a p RL OL y4 y5 y6 y7 y8 y9 y10 y11) H := by
  obtain ⟨F0, F1, k0, k1, e0, e1, w, n, _, _⟩ := w
  refine ⟨_, rfl, OL, rfl, ⟨_, sq_of (w.ex _ _ hO)⟩, for_list (K := K) (a := OL) (xs := [.ref c0.o, .ref c1.o]) (fun j σ H' => ∃ y5 y6 y7, σ = S8 a p RL OL y4 y5 y6 y7 y8 y9 y10 y11 ∧ W8 R S c0 c1 H' F0 F1 k0 k1 (tl e0) (tl e1) ∧
      (j = 0 → Ents S c0 c1 H' F0 F1 (e0 ++ e1)) ∧ (j = 1 → Ents S c0 c1 H' F0 F1 e1))
    ⟨_, _, _, rfl, w, (fun _ => n), (fun z => by cases z)⟩ (fun j σ H' _ hP => ?_) ?_ ?_⟩
  · obtain ⟨_, _, _, _, w, _⟩ := hP
    exact sq_of (w.ex _ _ hO)
  · intro j x σ H' hx hP
    obtain ⟨z5, z6, z7, rfl, w, n0, n1⟩ := hP
    have hj : j < 2 := (List.getElem?_eq_some_iff.mp hx).1
    obtain rfl | rfl : j = 0 ∨ j = 1 := by omega
    · obtain rfl : V.ref c0.o = x := Option.some.inj hx
      refine held_go w (n0 rfl) fun y6 y7 H'' w' n' => ⟨_, _, _, rfl, w', (fun z => by cases z), (fun _ => n')⟩
    · obtain rfl : V.ref c1.o = x := Option.some.inj hx
      refine held_go w.swap (rs := []) (by rw [List.append_nil]; exact (n1 rfl).swap) fun y6 y7 H'' w' n' => ⟨_, _, _, rfl, w'.swap, (fun z => by cases z), (fun z => by cases z)⟩
  · intro σ H' hP
    obtain ⟨z5, z6, z7, rfl, w, _, _⟩ := hP
    exact q _ _ _ _ _ _ _ _ _ H' w
end
end K08
end Cd

set_option Elab.async false
set_option linter.all false
set_option maxRecDepth 100000
set_option maxHeartbeats 4000000
namespace Cd
open PySem PySem.Spec PyProof.Rows L2 Tx Kp Mx
open Evl (Ex sq_of ex_l sz_of sz_lt fresh_back)
open K11 (same_go)
variable {K : PySem.W.Frag}
namespace K08
/-! ### what is refused -/
section
variable {R : Rep K} {C : Cs} {H : Hp} {Q : VK} {E : XK} {d b : V}
theorem made_ring {h : V} (hr : IsR K H h false) (td : Typ K H d) (tb : Typ K H b) (ok : ∀ l (zs : List Str), h = .ref l → H l = some (.lst (zs.map V.str)) → ∀ z ∈ zs, PyData.strOk z = true) (live : ∀ l, h = .ref l → H l ≠ none) (q : ∀ H', Ex H H' → Q (.str "ring") H') : sMade R C [h, d, b] H Q E := by
  unfold sMade
  exact ⟨h, d, b, rfl, false, hr, td, tb, ok, live, fun _ => q, fun c => by cases c⟩
theorem str_inj {xs ys : List Str} (h : xs.map V.str = ys.map V.str) : xs = ys := List.map_inj_right (fun _ _ e => V.str.inj e) |>.mp h
theorem made_step {l : Addr} {zs : List Str} (hl : H l = some (.lst (zs.map V.str))) (z1 : 1 ≤ zs.length) (z2 : zs.length ≤ 200) (zn : zs.Nodup) (ok : ∀ z ∈ zs, PyData.strOk z = true) (td : Typ K H d) (wd : whB d 1 big = false) (tb : Typ K H b) (q : ∀ H', Ex H H' → Q (.str "step") H') : sMade R C [.ref l, d, b] H Q E := by
  unfold sMade
  refine ⟨_, d, b, rfl, _, IsR.texts hl (by omega), td, tb, fun l' zs' el hl' => ?_, fun l' el => ?_, fun c => ?_, fun _ => ⟨fun _ => q, fun s es s1 s2 => ?_⟩⟩
  · cases el
    rw [hl] at hl'
    rw [← str_inj (HO.lst.inj (Option.some.inj hl'))]
    exact ok
  · cases el
    rw [hl]; simp
  · rw [ringB_texts z1 z2 zn] at c; cases c
  · subst es
    rw [wh_of (by omega) s2] at wd; cases wd
theorem made_place {l : Addr} {zs : List Str} {s : Nat} (hl : H l = some (.lst (zs.map V.str))) (z1 : 1 ≤ zs.length) (z2 : zs.length ≤ 200) (zn : zs.Nodup) (ok : ∀ z ∈ zs, PyData.strOk z = true) (s1 : 1 ≤ s) (s2 : (s : Int) ≤ big) (tb : Typ K H b) (wb : whB b 0 ((zs.length : Int) - 1) = false) (q : ∀ H', Ex H H' → Q (.str "place") H') : sMade R C [.ref l, .int (s : Int), b] H Q E := by
  unfold sMade
  refine ⟨_, _, b, rfl, _, IsR.texts hl (by omega), Typ.int, tb, fun l' zs' el hl' => ?_, fun l' el => ?_, fun c => ?_, fun _ => ⟨fun c => ?_, fun s' es _ _ l' zs' el hl' => ?_⟩⟩
  · cases el
    rw [hl] at hl'
    rw [← str_inj (HO.lst.inj (Option.some.inj hl'))]
    exact ok
  · cases el
    rw [hl]; simp
  · rw [ringB_texts z1 z2 zn] at c; cases c
  · rw [wh_of (by omega) s2] at c; cases c
  · cases el
    rw [hl] at hl'
    rw [← str_inj (HO.lst.inj (Option.some.inj hl'))]
    exact ⟨wb, q⟩
end
def t_tell (R : Rep K) (C : Cs) : TS :=
  (tRet (tOp (rEqF K false) (tLst (tCons (tCall (sMade R C) [] E0 (tCons (tVar 9) (tCons (tVar 10) (tCons (tVar 11) tNil)))) (tCons (tCall (sMade R C) [] E0 (tCons (tVar 8) (tCons (tVar 10) (tCons (tVar 11) tNil)))) (tCons (tCall (sMade R C) [] E0 (tCons (tVar 8) (tCons (tC (.int 2)) (tCons (tVar 11) tNil)))) tNil)))) (tLst (tCons (tC (.str "ring")) (tCons (tC (.str "step")) (tCons (tC (.str "place")) tNil))))))
def abc : List Str := ["a", "b", "c"]
theorem abc_ok : ∀ z ∈ abc, PyData.strOk z = true := by decide +kernel
theorem abc_nd : abc.Nodup := by decide +kernel
theorem tell_go {R : Rep K} {C : Cs} {a p RL OL h : Addr} {y4 y5 y6 y7 : Option V} {bad odd off : V} {De : Ends} {H : Hp} (hh : H h = some (.lst (abc.map V.str))) (hr : IsR K H bad false) (ok : ∀ l (zs : List Str), bad = .ref l → H l = some (.lst (zs.map V.str)) → ∀ z ∈ zs, PyData.strOk z = true) (live : ∀ l, bad = .ref l → H l ≠ none)
    (td : ∀ H' : Hp, Typ K H' odd) (wd : whB odd 1 big = false) (tb : ∀ H' : Hp, Typ K H' off) (wb : whB off 0 2 = false) (q : ∀ H', De.rt (.bl true) H') :
    t_tell R C De (S8 a p RL OL y4 y5 y6 y7 (some (.ref h)) (some bad) (some odd) (some off)) H := by
  refine ⟨_, rfl, _, rfl, _, rfl, ?_⟩
  show sMade R C [bad, odd, off] H _ E0
  refine made_ring hr (td _) (tb _) ok live fun H1 e1 => ?_
  refine ⟨_, rfl, _, rfl, _, rfl, ?_⟩
  show sMade R C [.ref h, odd, off] H1 _ E0
  refine made_step (zs := abc) (e1 _ _ hh) (by decide) (by decide) abc_nd abc_ok (td _) wd (tb _) fun H2 e2 => ?_
  refine ⟨_, rfl, _, rfl, ?_⟩
  show sMade R C [.ref h, .int ((2 : Nat) : Int), off] H2 _ E0
  refine made_place (zs := abc) (s := 2) (e2 _ _ (e1 _ _ hh)) (by decide) (by decide) abc_nd abc_ok (by decide) (by decide) (tb _) wb fun H3 e3 => ?_
  refine ⟨(by decide : 3 ≤ sizeLine), fun A nA => ⟨(by decide : 3 ≤ sizeLine), fun B nB => ?_⟩⟩
  have eB := Evl.Ex.new (o := .lst [.str "ring", .str "step", .str "place"]) nB
  exact same_go (sq_of (eB _ _ upd_same)) (sq_of upd_same) (by decide +kernel) (q _)
def t_tail (R : Rep K) (C : Cs) : TS :=
(tSeq (tAsg (tLst (tCons (tC (.str "a")) (tCons (tC (.str "b")) (tCons (tC (.str "c")) tNil)))) (gName 8))
  (tSeq (tAsg (tCall sOf [] E0 (tCons (tVar 1) (tCons (tLst (tCons (tLst tNil) (tCons (tLst (tCons (tC (.str "a")) (tCons (tC (.str "a")) tNil))) (tCons (tC .non) (tCons (tTup (tCons (tC (.str "a")) tNil)) (tCons (tLst (tCons (tC (.str "a")) (tCons (tC (.int 1)) tNil))) (tCons (tC (.str "ab")) tNil))))))) tNil))) (gName 9))
  (tSeq (tAsg (tCall sOf [] E0 (tCons (tVar 1) (tCons (tLst (tCons (tC (.int 0)) (tCons (tUn oNeg (tC (.int 1))) (tCons (tC .non) (tCons (tC (.bl true)) (tCons (tC (.str "1")) (tCons (tOp oAdd (tOp oPow (tC (.int 10)) (tC (.int 60))) (tC (.int 1))) tNil))))))) tNil))) (gName 10))
  (tSeq (tAsg (tCall sOf [] E0 (tCons (tVar 1) (tCons (tLst (tCons (tC (.int 3)) (tCons (tUn oNeg (tC (.int 1))) (tCons (tC .non) (tCons (tC (.bl true)) (tCons (tC (.str "0")) tNil)))))) tNil))) (gName 11))
  (t_tell R C)))))
theorem tail_go {R : Rep K} {C : Cs} {a p RL OL : Addr} {y4 y5 y6 y7 y8 y9 y10 y11 : Option V} {De : Ends} {H : Hp} (st : StAt H p) (q : ∀ H', De.rt (.bl true) H') : t_tail R C De (S8 a p RL OL y4 y5 y6 y7 y8 y9 y10 y11) H := by
  refine ⟨(by decide : 3 ≤ sizeLine), fun h nh => ?_⟩
  have e0 := Evl.Ex.new (o := .lst (abc.map V.str)) nh
  have hh0 : _ = some (HO.lst (abc.map V.str)) := upd_same (H := H) (a := h)
  have st0 := st.ex e0
  have nhp : h ≠ p := st.ne nh
  show (tSeq _ _) De (S8 a p RL OL y4 y5 y6 y7 (some (.ref h)) y9 y10 y11) (upd H h (.lst (abc.map V.str)))
  generalize upd H h (.lst (abc.map V.str)) = H0 at hh0 st0
  refine ⟨_, rfl, Nat.zero_le _, fun L1 n1 => ⟨(by decide : 2 ≤ sizeLine), fun L2 n2 => ⟨(by decide : 1 ≤ sizeLine), fun T nT => ⟨(by decide : 2 ≤ sizeLine), fun L3 n3 => ⟨(by decide : 6 ≤ sizeLine), fun l nl => ?_⟩⟩⟩⟩⟩
  have e1 := Evl.Ex.new (o := .lst []) n1
  have e2 := Evl.Ex.new (o := .lst [.str "a", .str "a"]) n2
  have e3 := Evl.Ex.new (o := .tup [.str "a"]) nT
  have e4 := Evl.Ex.new (o := .lst [.str "a", .int 1]) n3
  have e5 := Evl.Ex.new (o := .lst [.ref L1, .ref L2, .non, .ref T, .ref L3, .str "ab"]) nl
  have c1 := e5 _ _ (e4 _ _ (e3 _ _ (e2 _ _ (show _ = some (HO.lst []) from upd_same (H := H0) (a := L1)))))
  have c2 := e5 _ _ (e4 _ _ (e3 _ _ (show _ = some (HO.lst [.str "a", .str "a"]) from upd_same (H := upd H0 L1 (.lst [])) (a := L2))))
  have cT := e5 _ _ (e4 _ _ (show _ = some (HO.tup [.str "a"]) from upd_same (H := upd (upd H0 L1 (.lst [])) L2 (.lst [.str "a", .str "a"])) (a := T)))
  have c3 := e5 _ _ (show _ = some (HO.lst [.str "a", .int 1]) from upd_same (H := upd (upd (upd H0 L1 (.lst [])) L2 (.lst [.str "a", .str "a"])) T (.tup [.str "a"])) (a := L3))
  have cl : _ = some (HO.lst [.ref L1, .ref L2, .non, .ref T, .ref L3, .str "ab"]) := upd_same (H := upd (upd (upd (upd H0 L1 (.lst [])) L2 (.lst [.str "a", .str "a"])) T (.tup [.str "a"])) L3 (.lst [.str "a", .int 1])) (a := l)
  have e15 := e1.trans (e2.trans (e3.trans (e4.trans e5)))
  have p1 := st0.ne n1
  have p2 := (st0.ex e1).ne n2
  have pT := ((st0.ex e1).ex e2).ne nT
  have p3 := (((st0.ex e1).ex e2).ex e3).ne n3
  have pl := ((((st0.ex e1).ex e2).ex e3).ex e4).ne nl
  have st5 := st0.ex e15
  have hh5 := e15 _ _ hh0
  generalize upd (upd (upd (upd (upd H0 L1 (.lst [])) L2 (.lst [.str "a", .str "a"])) T (.tup [.str "a"])) L3 (.lst [.str "a", .int 1])) l (.lst [.ref L1, .ref L2, .non, .ref T, .ref L3, .str "ab"]) = H5 at c1 c2 cT c3 cl st5 hh5
  refine ⟨p, .ref l, rfl, st5, .inl ⟨l, _, rfl, pl, cl, by simp, fun H6 bad r6 hbad => ?_⟩⟩
  -- step
  refine ⟨_, rfl, _, rfl, _, _, rfl, rfl, ⟨by decide, by decide, by decide⟩, _, _, rfl, rfl, (by decide : 6 ≤ sizeLine), fun l2 nl2 => ?_⟩
  refine ⟨p, .ref l2, rfl, r6.2.ex (Evl.Ex.new nl2), .inl ⟨l2, _, rfl, r6.2.ne nl2, upd_same, by simp, fun H7 odd r7 hodd => ?_⟩⟩
  have r67 : Run p H6 H7 := (Run.ex r6.2 (Evl.Ex.new nl2)).trans r7
  -- place
  refine ⟨_, rfl, _, rfl, (by decide : 5 ≤ sizeLine), fun l3 nl3 => ?_⟩
  refine ⟨p, .ref l3, rfl, r67.2.ex (Evl.Ex.new nl3), .inl ⟨l3, _, rfl, r67.2.ne nl3, upd_same, by simp, fun H8 off r8 hoff => ?_⟩⟩
  have r58 : Run p H5 H8 := r6.trans (r67.trans ((Run.ex r67.2 (Evl.Ex.new nl3)).trans r8))
  have hh8 := r58.keep nhp hh5
  have c1 := r58.keep p1 c1
  have c2 := r58.keep p2 c2
  have cT := r58.keep pT cT
  have c3 := r58.keep p3 c3
  obtain ⟨td, wd⟩ : (∀ H' : Hp, Typ K H' odd) ∧ whB odd 1 big = false := by
    rw [ten60] at hodd
    simp only [List.mem_cons, List.not_mem_nil, or_false] at hodd
    rcases hodd with rfl | rfl | rfl | rfl | rfl | rfl
    · exact ⟨fun _ => Typ.int, by decide⟩
    · exact ⟨fun _ => Typ.int, by decide⟩
    · exact ⟨fun _ => Typ.non, rfl⟩
    · exact ⟨fun _ => Typ.bl, rfl⟩
    · exact ⟨fun _ => Typ.str, rfl⟩
    · exact ⟨fun _ => Typ.int, by decide⟩
  obtain ⟨tb, wb⟩ : (∀ H' : Hp, Typ K H' off) ∧ whB off 0 2 = false := by
    simp only [List.mem_cons, List.not_mem_nil, or_false] at hoff
    rcases hoff with rfl | rfl | rfl | rfl | rfl
    · exact ⟨fun _ => Typ.int, by decide⟩
    · exact ⟨fun _ => Typ.int, by decide⟩
    · exact ⟨fun _ => Typ.non, rfl⟩
    · exact ⟨fun _ => Typ.bl, rfl⟩
    · exact ⟨fun _ => Typ.str, rfl⟩
  have it2 : ∀ v ∈ ([.str "a", .str "a"] : List V), Typ K H8 v ∧ (isS v = true ∨ ∃ T : String, TyX K H8 v (.type T) ∧ T ∈ ["NoneType", "bool", "int", "list", "tuple", "dict"]) := fun v hv => by
    simp only [List.mem_cons, List.not_mem_nil, or_false] at hv
    rcases hv with rfl | rfl <;> exact it_s
  have it3 : ∀ v ∈ ([.str "a", .int 1] : List V), Typ K H8 v ∧ (isS v = true ∨ ∃ T : String, TyX K H8 v (.type T) ∧ T ∈ ["NoneType", "bool", "int", "list", "tuple", "dict"]) := fun v hv => by
    simp only [List.mem_cons, List.not_mem_nil, or_false] at hv
    rcases hv with rfl | rfl
    · exact it_s
    · exact it_i
  simp only [List.mem_cons, List.not_mem_nil, or_false] at hbad
  rcases hbad with rfl | rfl | rfl | rfl | rfl | rfl
  · refine tell_go hh8 (no_ring c1 (by decide +kernel) (by decide) (fun v hv => by cases hv)) (fun l' zs el hl => ?_) (fun l' el => ?_) td wd tb wb q
    · cases el
      rw [c1] at hl
      have := str_inj (xs := []) (HO.lst.inj (Option.some.inj hl))
      rw [← this]
      exact fun z hz => by cases hz
    · cases el; rw [c1]; simp
  · refine tell_go hh8 (no_ring c2 (by decide +kernel) (by decide) it2) (fun l' zs el hl => ?_) (fun l' el => ?_) td wd tb wb q
    · cases el
      rw [c2] at hl
      have := str_inj (xs := ["a", "a"]) (HO.lst.inj (Option.some.inj hl))
      rw [← this]
      decide +kernel
    · cases el; rw [c2]; simp
  · exact tell_go hh8 (.no (T := "NoneType") (.base .non) (by decide)) (fun l' zs el hl => by cases el) (fun l' el => by cases el) td wd tb wb q
  · refine tell_go hh8 (.no (T := "tuple") (.base (.tup cT)) (by decide)) (fun l' zs el hl => ?_) (fun l' el => ?_) td wd tb wb q
    · cases el
      rw [cT] at hl; cases hl
    · cases el; rw [cT]; simp
  · refine tell_go hh8 (no_ring c3 (by decide +kernel) (by decide) it3) (fun l' zs el hl => ?_) (fun l' el => ?_) td wd tb wb q
    · cases el
      rw [c3] at hl
      have e := HO.lst.inj (Option.some.inj hl)
      match zs, e with
      | [x, y], e => cases (List.cons.inj (List.cons.inj e).2).1
    · cases el; rw [c3]; simp
  · exact tell_go hh8 (.no (T := "str") (.base (.str _)) (by decide)) (fun l' zs el hl => by cases el) (fun l' el => by cases el) td wd tb wb q
end K08
end Cd

set_option Elab.async false
set_option linter.all false
set_option maxRecDepth 100000
set_option maxHeartbeats 4000000
namespace Cd
open PySem PySem.Spec PyProof.Rows L2 Tx Kp Mx
open Evl (Ex sq_of ex_l sz_of sz_lt fresh_back)
open K11 (same_go)
open K09 (cut_int cut_few)
variable {K : PySem.W.Frag}
namespace K08
def t_small (R : Rep K) (C : Cs) : TS :=
  (tIfS (tTest (tOp (rEqF K true) (tMeth R.C "left" (sLeftM R) [] E0 (tMake R.C (sInit R C.ring C.step C.place) [.int 0] E0 (tCons (tLst (tCons (tC (.str "a")) (tCons (tC (.str "b")) tNil))) (tCons (tC (.int 2)) tNil))) tNil) (tLst (tCons (tC (.str "a")) (tCons (tC (.str "b")) tNil)))))
  (tRet (tC (.bl false)))
  tNext)
def ab : List Str := ["a", "b"]
theorem small_go {R : Rep K} {C : Cs} {σ : L2.St} {De : Ends} {H : Hp} (q : ∀ H', Ex H H' → De.nx σ H') : t_small R C De σ H := by
  refine ⟨(by decide : 2 ≤ sizeLine), fun L nL => ?_⟩
  have e1 := Evl.Ex.new (o := .lst (ab.map V.str)) nL
  have hL : _ = some (HO.lst (ab.map V.str)) := upd_same (H := H) (a := L)
  intro r dx nr ndx ner
  show sInit R C.ring C.step C.place [.ref r, .ref L, .int ((2 : Nat) : Int), .int ((0 : Nat) : Int)] _ _ E0
  refine make_go (E := E0) (zs := ab) (s := 2) (b := 0) hL (by decide) (by decide) (by decide +kernel) (by decide +kernel) (by decide) (by decide) (by decide) nr ndx ner fun F H2 hr fr e2 => ?_
  rw [Jos.rot_zero] at hr
  refine meth_of (m := "left") (by simp) hr ?_
  show sLeftM R [.ref r] H2 _ E0
  refine left_go hr fun u H3 nu e3 hu => ?_
  refine ⟨(by decide : 2 ≤ sizeLine), fun w nw => ?_⟩
  have e4 := Evl.Ex.new (o := .lst (ab.map V.str)) nw
  have hw : _ = some (HO.lst (ab.map V.str)) := upd_same (H := H3) (a := w)
  refine same_go (xs := ab.map V.str) (sq_of (e4 _ _ hu)) (sq_of hw) (by decide +kernel) ⟨_, rfl, iteF ?_⟩
  exact q _ (e1.trans (e2.trans (e3.trans e4)))
def t_law (R : Rep K) (C : Cs) : TS :=
(tSeq (tAsg (tCall (sState K) [] E0 (tCons (tVar 0) (tCons (tC (.int 0)) tNil))) (gName 1))
  (tSeq (tAsg (tCall (sRings R) [] E0 (tCons (tVar 1) tNil)) (gTup K 2 (gCons (gName 2) (gCons (gName 3) gNil))))
  (tSeq (t_small R C)
  (tSeq (tFor (iList K (tSl (rSlL K) (tVar 0) (tPart (tC (.int 2))) (tPart (tC (.int 26))))) (gName 4)
  (tSeq (t_deed R C)
  (t_look R)))
  (tSeq (t_owns K)
  (tSeq (t_look R)
  (t_tail R C)))))))
def sLaw (K : PySem.W.Frag) : Sp := fun vs H Q _ => ∃ (a : Addr) (ns : List Int), vs = [.ref a] ∧ SqL K H a (ns.map V.int) ∧ ∀ H', Q (.bl true) H'
theorem pure_law {R : Rep K} {C : Cs} {vs : List V} {H : Hp} {Q : VK} {E : XK} {nx : L2.St → Hp → Prop} (h : sLaw K vs H Q E) : t_law R C { nx := nx, rt := Q } (start ["_law_script", "_law_state_here", "_law_rings_here", "_law_owns", "_law_cell", "_law_own", "_law_found", "_law_due", "_law_hands_here", "_law_bad", "_law_odd", "_law_off"] vs) H := by
  obtain ⟨a, ns, rfl, hS, q⟩ := h
  refine ⟨_, rfl, a, ns, 0, rfl, hS, fun p H1 np e1 st1 => ?_⟩
  have sc1 := ScAt.of hS np e1
  refine ⟨_, rfl, ?_⟩
  show sRings R [.ref p] H1 _ E0
  unfold sRings
  refine ⟨p, rfl, st1, fun T RL OL c0 c1 F0 F1 H2 t => ?_⟩
  refine ⟨T, _, rfl, .inl (.inl t.hT), rfl, _, _, rfl, _, _, rfl, rfl, ?_⟩
  refine small_go fun H3 e3 => ?_
  have sq3 := sc1 _ ((show Run p H1 H2 from ⟨fun b o n h => t.keep b o h n, t.st⟩).trans (Run.ex t.st e3))
  refine ⟨_, rfl, _, rfl, _, rfl, a, _, rfl, sq3, fun l nl => ?_⟩
  have e4 := Evl.Ex.new (o := .lst (cutV (ns.map V.int) (some 2) (some 26))) nl
  have hl4 : _ = some (HO.lst (cutV (ns.map V.int) (some 2) (some 26))) := upd_same (H := H3) (a := l)
  have e24 := e3.trans e4
  have n2l : H2 l = none := fresh_back e3 nl
  generalize upd H3 l (.lst (cutV (ns.map V.int) (some 2) (some 26))) = H4 at e24 hl4
  -- what stands still from here on
  obtain ⟨S, hS0, hS1⟩ : ∃ S : Hp, (∀ b, Mut c0 F0 b ∨ Mut c1 F1 b → S b = none) ∧ ∀ b, ¬ (Mut c0 F0 b ∨ Mut c1 F1 b) → S b = H4 b := by
    classical
    exact ⟨fun b => if Mut c0 F0 b ∨ Mut c1 F1 b then none else H4 b, fun b h => if_pos h, fun b h => if_neg h⟩
  have a0 := t.a0
  have a1 := t.a1
  have nro : ∀ {c : C8} {F : Addr → Prop}, One R c H2 F 0 [] → ¬ Mut c F c.row ∧ ¬ Mut c F c.ord := fun {c F} s => by
    refine ⟨fun z => ?_, fun z => ?_⟩
    · rcases z with z | z | z
      · exact s.frow z
      · have := s.hrow; rw [z, s.ho] at this; cases this
      · exact s.n1 z.symm
    · rcases z with z | z | z
      · exact s.ford z
      · have := s.hord; rw [z, s.ho] at this; cases this
      · exact s.n2 z.symm
  have r0 := nro a0
  have r1 := nro a1
  have live : ∀ {b : Addr}, (Mut c0 F0 b ∨ Mut c1 F1 b) → H2 b ≠ none := fun {b} h => h.elim (fun z => a0.live (mut_cell z)) fun z => a1.live (mut_cell z)
  have ml : ¬ (Mut c0 F0 l ∨ Mut c1 F1 l) := fun z => live z n2l
  have mR : ¬ (Mut c0 F0 RL ∨ Mut c1 F1 RL) := fun z => z.elim (fun z => (t.o0 _ z).1 rfl) fun z => (t.o1 _ z).1 rfl
  have mO : ¬ (Mut c0 F0 OL ∨ Mut c1 F1 OL) := fun z => z.elim (fun z => (t.o0 _ z).2.1 rfl) fun z => (t.o1 _ z).2.1 rfl
  have mp : ¬ (Mut c0 F0 p ∨ Mut c1 F1 p) := fun z => by
    obtain ⟨x, _, y⟩ := st1
    rcases z with z | z
    · rw [t.n0 p z] at y; cases y
    · rw [t.n1 p z] at y; cases y
  have hl : S l = some (.lst (cutV (ns.map V.int) (some 2) (some 26))) := (hS1 l ml).trans hl4
  have hR : S RL = some (.lst [.ref c0.r, .ref c1.r]) := (hS1 RL mR).trans (e24 _ _ t.hR)
  have hO : S OL = some (.lst [.ref c0.o, .ref c1.o]) := (hS1 OL mO).trans (e24 _ _ t.hO)
  have stS : StAt S p := by
    obtain ⟨x, h1, h2⟩ := t.st
    exact ⟨x, h1, (hS1 p mp).trans (e24 _ _ h2)⟩
  have exS : Ex S H4 := fun b x hb => by
    by_cases z : Mut c0 F0 b ∨ Mut c1 F1 b
    · rw [hS0 b z] at hb; cases hb
    · rw [← hS1 b z]; exact hb
  have cell : ∀ {b : Addr} {x : HO}, H2 b = some x → ¬ Mut c0 F0 b → ¬ Mut c1 F1 b → S b ≠ none := fun {b x} hb n0 n1 => by
    rw [hS1 b fun z => z.elim n0 n1, e24 _ _ hb]; simp
  have w0 : W8 R S c0 c1 H4 F0 F1 0 0 [] [] :=
    ⟨a0.ex e24, a1.ex e24, exS, t.s01, fun b z => hS0 b (.inl z), fun b z => hS0 b (.inr z),
      ⟨cell a0.hrow r0.1 fun z => (t.o1 _ z).2.2.1 rfl, cell a0.hord r0.2 fun z => (t.o1 _ z).2.2.2 rfl⟩,
      ⟨cell a1.hrow (fun z => (t.o0 _ z).2.2.1 rfl) r1.1, cell a1.hord (fun z => (t.o0 _ z).2.2.2 rfl) r1.2⟩⟩
  have d0 : Wd R S c0 c1 0 H4 := ⟨F0, F1, 0, 0, [], [], w0, ⟨fun e he => (by cases he), List.Pairwise.nil⟩, Nat.le_refl _, Nat.le_refl _⟩
  refine ⟨l, rfl, ⟨_, sq_of hl4⟩, for_list (K := K) (a := l) (xs := cutV (ns.map V.int) (some 2) (some 26)) (fun i σ H' => ∃ y4, σ = S8 a p RL OL y4 none none none none none none none ∧ Wd R S c0 c1 i H')
    ⟨_, rfl, d0⟩ (fun i σ H' _ hP => ?_) ?_ ?_⟩
  · obtain ⟨_, _, _, _, _, _, _, _, w, _⟩ := hP
    exact sq_of (w.ex _ _ hl)
  · intro i x σ H' hx hP
    obtain ⟨y4, rfl, d⟩ := hP
    obtain ⟨z, rfl⟩ : ∃ z : Int, x = .int z := by
      obtain ⟨z, _, rfl⟩ := List.mem_map.mp (cut_int (List.mem_of_getElem? hx))
      exact ⟨z, rfl⟩
    have hi : i < 24 := Nat.lt_of_lt_of_le (List.getElem?_eq_some_iff.mp hx).1 cut_few
    have ex' : Ex S H' := by
      obtain ⟨_, _, _, _, _, _, w, _⟩ := d
      exact w.ex
    refine deed_go d t.ok0 t.ok1 (by omega) (ex' _ _ hR) (ex' _ _ hO) fun H'' d' => ?_
    have d2 := d'
    obtain ⟨_, _, _, _, _, _, w, _⟩ := d'
    exact both_go w t.ok0 t.ok1 (w.ex _ _ hR) (w.ex _ _ hO) fun H5 e5 => ⟨_, rfl, d2.go e5⟩
  · intro σ H' hP
    obtain ⟨y4, rfl, d⟩ := hP
    refine owns_go d hO fun F0' F1' k0 k1 h0 h1 y5 y6 y7 H5 w => ?_
    refine both_go w t.ok0 t.ok1 (w.ex _ _ hR) (w.ex _ _ hO) fun H6 e6 => ?_
    exact tail_go ((stS.ex w.ex).ex e6) q
end K08
end Cd

set_option Elab.async false
set_option linter.all false
set_option maxRecDepth 100000
set_option maxHeartbeats 4000000
namespace R08
open PySem PySem.Spec PyProof.Rows L2 Cd Tx Kp Mx
open Cd.K08
def topS (i : Nat) : Stmt := PySem.Challenge.pw_countout_k08_rings_counted.main.body.getD i (.Pass ⟨0, 0, 0, 0⟩)
abbrev s_is_whole : Stmt := topS 13
theorem sc_is_whole : FnScope ["thing", "low", "high"] ["thing", "low", "high"] (defScope s_is_whole) := ⟨rfl, rfl, rfl, by decide +kernel, rfl, by decide +kernel, by decide +kernel⟩
abbrev s_check_step : Stmt := topS 14
theorem sc_check_step : FnScope ["step", "most"] ["step", "most"] (defScope s_check_step) := ⟨rfl, rfl, rfl, by decide +kernel, rfl, by decide +kernel, by decide +kernel⟩
abbrev s_check_place : Stmt := topS 15
theorem sc_check_place : FnScope ["place", "many"] ["place", "many"] (defScope s_check_place) := ⟨rfl, rfl, rfl, by decide +kernel, rfl, by decide +kernel, by decide +kernel⟩
abbrev s_check_count : Stmt := topS 16
theorem sc_check_count : FnScope ["count", "low", "high"] ["count", "low", "high"] (defScope s_check_count) := ⟨rfl, rfl, rfl, by decide +kernel, rfl, by decide +kernel, by decide +kernel⟩
abbrev s_is_ring : Stmt := topS 19
theorem sc_is_ring : FnScope ["thing", "hand"] ["thing"] (defScope s_is_ring) := ⟨rfl, rfl, rfl, by decide +kernel, rfl, by decide +kernel, by decide +kernel⟩
abbrev s_check_laid : Stmt := topS 20
theorem sc_check_laid : FnScope ["hands", "step", "begin"] ["hands", "step", "begin"] (defScope s_check_laid) := ⟨rfl, rfl, rfl, by decide +kernel, rfl, by decide +kernel, by decide +kernel⟩
abbrev s_goes_next : Stmt := topS 21
theorem sc_goes_next : FnScope ["many", "step", "begin"] ["many", "step", "begin"] (defScope s_goes_next) := ⟨rfl, rfl, rfl, by decide +kernel, rfl, by decide +kernel, by decide +kernel⟩
abbrev s_Ring___init__ : Stmt := inClass (topS 24) 0
theorem sc_Ring___init__ : FnScope ["self", "hands", "step", "begin"] ["self", "hands", "step", "begin"] (defScope s_Ring___init__) := ⟨rfl, rfl, rfl, by decide +kernel, rfl, by decide +kernel, by decide +kernel⟩
abbrev s_Ring_left : Stmt := inClass (topS 24) 1
theorem sc_Ring_left : FnScope ["self"] ["self"] (defScope s_Ring_left) := ⟨rfl, rfl, rfl, by decide +kernel, rfl, by decide +kernel, by decide +kernel⟩
abbrev s_Ring_gone : Stmt := inClass (topS 24) 2
theorem sc_Ring_gone : FnScope ["self"] ["self"] (defScope s_Ring_gone) := ⟨rfl, rfl, rfl, by decide +kernel, rfl, by decide +kernel, by decide +kernel⟩
abbrev s_Ring_count : Stmt := inClass (topS 24) 3
theorem sc_Ring_count : FnScope ["self"] ["self"] (defScope s_Ring_count) := ⟨rfl, rfl, rfl, by decide +kernel, rfl, by decide +kernel, by decide +kernel⟩
abbrev s_Ring_counts : Stmt := inClass (topS 24) 4
theorem sc_Ring_counts : FnScope ["self", "many", "_"] ["self", "many"] (defScope s_Ring_counts) := ⟨rfl, rfl, rfl, by decide +kernel, rfl, by decide +kernel, by decide +kernel⟩
abbrev s_Ring__go_on : Stmt := inClass (topS 24) 9
theorem sc_Ring__go_on : FnScope ["self", "at", "hand"] ["self"] (defScope s_Ring__go_on) := ⟨rfl, rfl, rfl, by decide +kernel, rfl, by decide +kernel, by decide +kernel⟩
abbrev s__law_cell_at : Stmt := topS 26
theorem sc__law_cell_at : FnScope ["_law_script", "_law_k"] ["_law_script", "_law_k"] (defScope s__law_cell_at) := ⟨rfl, rfl, rfl, by decide +kernel, rfl, by decide +kernel, by decide +kernel⟩
abbrev s__law_next : Stmt := topS 27
theorem sc__law_next : FnScope ["_law_state_here"] ["_law_state_here"] (defScope s__law_next) := ⟨rfl, rfl, rfl, by decide +kernel, rfl, by decide +kernel, by decide +kernel⟩
abbrev s__law_state : Stmt := topS 28
theorem sc__law_state : FnScope ["_law_script", "_law_first"] ["_law_script", "_law_first"] (defScope s__law_state) := ⟨rfl, rfl, rfl, by decide +kernel, rfl, by decide +kernel, by decide +kernel⟩
abbrev s__law_of : Stmt := topS 29
theorem sc__law_of : FnScope ["_law_state_here", "_law_some"] ["_law_state_here", "_law_some"] (defScope s__law_of) := ⟨rfl, rfl, rfl, by decide +kernel, rfl, by decide +kernel, by decide +kernel⟩
abbrev s__law_far : Stmt := topS 30
theorem sc__law_far : FnScope ["_law_state_here", "_law_many", "_law_found", "_law_k"] ["_law_state_here", "_law_many"] (defScope s__law_far) := ⟨rfl, rfl, rfl, by decide +kernel, rfl, by decide +kernel, by decide +kernel⟩
abbrev s__law_hands : Stmt := topS 31
theorem sc__law_hands : FnScope ["_law_state_here", "_law_many", "_law_way", "_law_base", "_law_k", "_law_found"] ["_law_state_here", "_law_many"] (defScope s__law_hands) := ⟨rfl, rfl, rfl, by decide +kernel, rfl, by decide +kernel, by decide +kernel⟩
abbrev s__law_turned : Stmt := topS 32
theorem sc__law_turned : FnScope ["_law_row", "_law_many"] ["_law_row", "_law_many"] (defScope s__law_turned) := ⟨rfl, rfl, rfl, by decide +kernel, rfl, by decide +kernel, by decide +kernel⟩
abbrev s__law_out : Stmt := topS 33
theorem sc__law_out : FnScope ["_law_row", "_law_step_here", "_law_found", "_law_left", "_law_told"] ["_law_row", "_law_step_here"] (defScope s__law_out) := ⟨rfl, rfl, rfl, by decide +kernel, rfl, by decide +kernel, by decide +kernel⟩
abbrev s__law_step : Stmt := topS 34
theorem sc__law_step : FnScope ["_law_state_here", "_law_most"] ["_law_state_here", "_law_most"] (defScope s__law_step) := ⟨rfl, rfl, rfl, by decide +kernel, rfl, by decide +kernel, by decide +kernel⟩
abbrev s__law_error : Stmt := topS 35
theorem sc__law_error : FnScope ["_law_e", "_law_words"] ["_law_e"] (defScope s__law_error) := ⟨rfl, rfl, rfl, by decide +kernel, rfl, by decide +kernel, by decide +kernel⟩
abbrev s__law_tried : Stmt := topS 36
theorem sc__law_tried : FnScope ["_law_ring", "_law_way", "_law_many", "_law_e", "_law_error_here"] ["_law_ring", "_law_way", "_law_many"] (defScope s__law_tried) := ⟨rfl, rfl, rfl, by decide +kernel, rfl, by decide +kernel, by decide +kernel⟩
abbrev s__law_made : Stmt := topS 37
theorem sc__law_made : FnScope ["_law_hands_here", "_law_step_here", "_law_begin", "_law_e", "_law_error_here"] ["_law_hands_here", "_law_step_here", "_law_begin"] (defScope s__law_made) := ⟨rfl, rfl, rfl, by decide +kernel, rfl, by decide +kernel, by decide +kernel⟩
abbrev s__law_shown : Stmt := topS 38
theorem sc__law_shown : FnScope ["_law_ring", "_law_own", "_law_found", "_law_due"] ["_law_ring", "_law_own"] (defScope s__law_shown) := ⟨rfl, rfl, rfl, by decide +kernel, rfl, by decide +kernel, by decide +kernel⟩
abbrev s__law_next_first : Stmt := topS 39
theorem sc__law_next_first : FnScope ["_law_own", "_law_left", "_law_turn"] ["_law_own"] (defScope s__law_next_first) := ⟨rfl, rfl, rfl, by decide +kernel, rfl, by decide +kernel, by decide +kernel⟩
abbrev s__law_done : Stmt := topS 40
theorem sc__law_done : FnScope ["_law_ring", "_law_own", "_law_cell", "_law_rest", "_law_many", "_law_due", "_law_found"] ["_law_ring", "_law_own", "_law_cell"] (defScope s__law_done) := ⟨rfl, rfl, rfl, by decide +kernel, rfl, by decide +kernel, by decide +kernel⟩
abbrev s__law_rings : Stmt := topS 41
theorem sc__law_rings : FnScope ["_law_state_here", "_law_rings_here", "_law_owns", "_law_k", "_law_many", "_law_hands_here", "_law_step_here", "_law_begin", "_law_row"] ["_law_state_here"] (defScope s__law_rings) := ⟨rfl, rfl, rfl, by decide +kernel, rfl, by decide +kernel, by decide +kernel⟩
abbrev s_law : Stmt := topS 42
theorem sc_law : FnScope ["_law_script", "_law_state_here", "_law_rings_here", "_law_owns", "_law_cell", "_law_own", "_law_found", "_law_due", "_law_hands_here", "_law_bad", "_law_odd", "_law_off"] ["_law_script"] (defScope s_law) := ⟨rfl, rfl, rfl, by decide +kernel, rfl, by decide +kernel, by decide +kernel⟩
structure Ad where
  f_is_whole : Addr
  f_check_step : Addr
  f_check_place : Addr
  f_check_count : Addr
  f_is_ring : Addr
  f_check_laid : Addr
  f_goes_next : Addr
  f_Ring___init__ : Addr
  f_Ring_left : Addr
  f_Ring_gone : Addr
  f_Ring_count : Addr
  f_Ring_counts : Addr
  f_Ring__go_on : Addr
  f__law_cell_at : Addr
  f__law_next : Addr
  f__law_state : Addr
  f__law_of : Addr
  f__law_far : Addr
  f__law_hands : Addr
  f__law_turned : Addr
  f__law_out : Addr
  f__law_step : Addr
  f__law_error : Addr
  f__law_tried : Addr
  f__law_made : Addr
  f__law_shown : Addr
  f__law_next_first : Addr
  f__law_done : Addr
  f__law_rings : Addr
  f_law : Addr
  c_CountError : Addr
  c_NoCount : Addr
  c_NoHand : Addr
  c_NoMany : Addr
  c_NoPlace : Addr
  c_NoRing : Addr
  c_NoStep : Addr
  c_TooMany : Addr
  c_TwiceTold : Addr
  c_Ring : Addr
def Ad.cs (A : Ad) : Cs := ⟨A.c_NoRing, A.c_NoMany, A.c_NoStep, A.c_NoPlace, A.c_NoCount, A.c_NoHand, A.c_TwiceTold, A.c_TooMany, A.c_CountError⟩
structure Fd where
  d_is_whole : FuncData
  d_check_step : FuncData
  d_check_place : FuncData
  d_check_count : FuncData
  d_is_ring : FuncData
  d_check_laid : FuncData
  d_goes_next : FuncData
  d_Ring___init__ : FuncData
  d_Ring_left : FuncData
  d_Ring_gone : FuncData
  d_Ring_count : FuncData
  d_Ring_counts : FuncData
  d_Ring__go_on : FuncData
  d__law_cell_at : FuncData
  d__law_next : FuncData
  d__law_state : FuncData
  d__law_of : FuncData
  d__law_far : FuncData
  d__law_hands : FuncData
  d__law_turned : FuncData
  d__law_out : FuncData
  d__law_step : FuncData
  d__law_error : FuncData
  d__law_tried : FuncData
  d__law_made : FuncData
  d__law_shown : FuncData
  d__law_next_first : FuncData
  d__law_done : FuncData
  d__law_rings : FuncData
  d_law : FuncData
structure Txt (K : PySem.W.Frag) (mg : Str → Option Value) (A : Ad) : Prop where
  b_ValueError : mg "ValueError" = none
  b_all : mg "all" = none
  b_bool : mg "bool" = none
  b_int : mg "int" = none
  b_isinstance : mg "isinstance" = none
  b_len : mg "len" = none
  b_list : mg "list" = none
  b_min : mg "min" = none
  b_range : mg "range" = none
  b_set : mg "set" = none
  b_str : mg "str" = none
  c_GREATEST : ∃ t, mg "GREATEST" = some (.int (1000000000000000000000000000000000000000000000000000000000000) t)
  c_MOST_HANDS : ∃ t, mg "MOST_HANDS" = some (.int (200) t)
  g_is_whole : mg "is_whole" = some (.ref A.f_is_whole)
  k_is_whole : PySem.W.keepIn K (.ref A.f_is_whole) = true
  g_check_step : mg "check_step" = some (.ref A.f_check_step)
  k_check_step : PySem.W.keepIn K (.ref A.f_check_step) = true
  g_check_place : mg "check_place" = some (.ref A.f_check_place)
  k_check_place : PySem.W.keepIn K (.ref A.f_check_place) = true
  g_check_count : mg "check_count" = some (.ref A.f_check_count)
  k_check_count : PySem.W.keepIn K (.ref A.f_check_count) = true
  g_is_ring : mg "is_ring" = some (.ref A.f_is_ring)
  k_is_ring : PySem.W.keepIn K (.ref A.f_is_ring) = true
  g_check_laid : mg "check_laid" = some (.ref A.f_check_laid)
  k_check_laid : PySem.W.keepIn K (.ref A.f_check_laid) = true
  g_goes_next : mg "goes_next" = some (.ref A.f_goes_next)
  k_goes_next : PySem.W.keepIn K (.ref A.f_goes_next) = true
  g__law_cell_at : mg "_law_cell_at" = some (.ref A.f__law_cell_at)
  k__law_cell_at : PySem.W.keepIn K (.ref A.f__law_cell_at) = true
  g__law_next : mg "_law_next" = some (.ref A.f__law_next)
  k__law_next : PySem.W.keepIn K (.ref A.f__law_next) = true
  g__law_state : mg "_law_state" = some (.ref A.f__law_state)
  k__law_state : PySem.W.keepIn K (.ref A.f__law_state) = true
  g__law_of : mg "_law_of" = some (.ref A.f__law_of)
  k__law_of : PySem.W.keepIn K (.ref A.f__law_of) = true
  g__law_far : mg "_law_far" = some (.ref A.f__law_far)
  k__law_far : PySem.W.keepIn K (.ref A.f__law_far) = true
  g__law_hands : mg "_law_hands" = some (.ref A.f__law_hands)
  k__law_hands : PySem.W.keepIn K (.ref A.f__law_hands) = true
  g__law_turned : mg "_law_turned" = some (.ref A.f__law_turned)
  k__law_turned : PySem.W.keepIn K (.ref A.f__law_turned) = true
  g__law_out : mg "_law_out" = some (.ref A.f__law_out)
  k__law_out : PySem.W.keepIn K (.ref A.f__law_out) = true
  g__law_step : mg "_law_step" = some (.ref A.f__law_step)
  k__law_step : PySem.W.keepIn K (.ref A.f__law_step) = true
  g__law_error : mg "_law_error" = some (.ref A.f__law_error)
  k__law_error : PySem.W.keepIn K (.ref A.f__law_error) = true
  g__law_tried : mg "_law_tried" = some (.ref A.f__law_tried)
  k__law_tried : PySem.W.keepIn K (.ref A.f__law_tried) = true
  g__law_made : mg "_law_made" = some (.ref A.f__law_made)
  k__law_made : PySem.W.keepIn K (.ref A.f__law_made) = true
  g__law_shown : mg "_law_shown" = some (.ref A.f__law_shown)
  k__law_shown : PySem.W.keepIn K (.ref A.f__law_shown) = true
  g__law_next_first : mg "_law_next_first" = some (.ref A.f__law_next_first)
  k__law_next_first : PySem.W.keepIn K (.ref A.f__law_next_first) = true
  g__law_done : mg "_law_done" = some (.ref A.f__law_done)
  k__law_done : PySem.W.keepIn K (.ref A.f__law_done) = true
  g__law_rings : mg "_law_rings" = some (.ref A.f__law_rings)
  k__law_rings : PySem.W.keepIn K (.ref A.f__law_rings) = true
  g_law : mg "law" = some (.ref A.f_law)
  k_law : PySem.W.keepIn K (.ref A.f_law) = true
  g_Ring : mg "Ring" = some (.ref A.c_Ring)
  cls_Ring : Cls K A.c_Ring
  mk_Ring : Mk K A.c_Ring A.f_Ring___init__
  rf_Ring : RF K A.c_Ring
  me_Ring_left : Meth K A.c_Ring "left" A.f_Ring_left
  me_Ring_gone : Meth K A.c_Ring "gone" A.f_Ring_gone
  me_Ring_count : Meth K A.c_Ring "count" A.f_Ring_count
  me_Ring_counts : Meth K A.c_Ring "counts" A.f_Ring_counts
  me_Ring__go_on : Meth K A.c_Ring "_go_on" A.f_Ring__go_on
  g_CountError : mg "CountError" = some (.ref A.c_CountError)
  k_CountError : PySem.W.keepIn K (.ref A.c_CountError) = true
  x_CountError : PySem.W.excIn K A.c_CountError [.type "ValueError", .type "Exception", .type "BaseException", .type "object"] "ValueError.__new__" = true
  bb_CountError : PySem.W.subIn K (.ref A.c_CountError) (.type "BaseException") = some true
  t_CountError : PySem.W.typeIn K (.ref A.c_CountError) = some (.type "type")
  g_NoCount : mg "NoCount" = some (.ref A.c_NoCount)
  k_NoCount : PySem.W.keepIn K (.ref A.c_NoCount) = true
  x_NoCount : PySem.W.excIn K A.c_NoCount [.type "ValueError", .type "Exception", .type "BaseException", .type "object"] "ValueError.__new__" = true
  bb_NoCount : PySem.W.subIn K (.ref A.c_NoCount) (.type "BaseException") = some true
  t_NoCount : PySem.W.typeIn K (.ref A.c_NoCount) = some (.type "type")
  g_NoHand : mg "NoHand" = some (.ref A.c_NoHand)
  k_NoHand : PySem.W.keepIn K (.ref A.c_NoHand) = true
  x_NoHand : PySem.W.excIn K A.c_NoHand [.type "ValueError", .type "Exception", .type "BaseException", .type "object"] "ValueError.__new__" = true
  bb_NoHand : PySem.W.subIn K (.ref A.c_NoHand) (.type "BaseException") = some true
  t_NoHand : PySem.W.typeIn K (.ref A.c_NoHand) = some (.type "type")
  g_NoMany : mg "NoMany" = some (.ref A.c_NoMany)
  k_NoMany : PySem.W.keepIn K (.ref A.c_NoMany) = true
  x_NoMany : PySem.W.excIn K A.c_NoMany [.type "ValueError", .type "Exception", .type "BaseException", .type "object"] "ValueError.__new__" = true
  bb_NoMany : PySem.W.subIn K (.ref A.c_NoMany) (.type "BaseException") = some true
  t_NoMany : PySem.W.typeIn K (.ref A.c_NoMany) = some (.type "type")
  g_NoPlace : mg "NoPlace" = some (.ref A.c_NoPlace)
  k_NoPlace : PySem.W.keepIn K (.ref A.c_NoPlace) = true
  x_NoPlace : PySem.W.excIn K A.c_NoPlace [.type "ValueError", .type "Exception", .type "BaseException", .type "object"] "ValueError.__new__" = true
  bb_NoPlace : PySem.W.subIn K (.ref A.c_NoPlace) (.type "BaseException") = some true
  t_NoPlace : PySem.W.typeIn K (.ref A.c_NoPlace) = some (.type "type")
  g_NoRing : mg "NoRing" = some (.ref A.c_NoRing)
  k_NoRing : PySem.W.keepIn K (.ref A.c_NoRing) = true
  x_NoRing : PySem.W.excIn K A.c_NoRing [.type "ValueError", .type "Exception", .type "BaseException", .type "object"] "ValueError.__new__" = true
  bb_NoRing : PySem.W.subIn K (.ref A.c_NoRing) (.type "BaseException") = some true
  t_NoRing : PySem.W.typeIn K (.ref A.c_NoRing) = some (.type "type")
  g_NoStep : mg "NoStep" = some (.ref A.c_NoStep)
  k_NoStep : PySem.W.keepIn K (.ref A.c_NoStep) = true
  x_NoStep : PySem.W.excIn K A.c_NoStep [.type "ValueError", .type "Exception", .type "BaseException", .type "object"] "ValueError.__new__" = true
  bb_NoStep : PySem.W.subIn K (.ref A.c_NoStep) (.type "BaseException") = some true
  t_NoStep : PySem.W.typeIn K (.ref A.c_NoStep) = some (.type "type")
  g_TooMany : mg "TooMany" = some (.ref A.c_TooMany)
  k_TooMany : PySem.W.keepIn K (.ref A.c_TooMany) = true
  x_TooMany : PySem.W.excIn K A.c_TooMany [.type "ValueError", .type "Exception", .type "BaseException", .type "object"] "ValueError.__new__" = true
  bb_TooMany : PySem.W.subIn K (.ref A.c_TooMany) (.type "BaseException") = some true
  t_TooMany : PySem.W.typeIn K (.ref A.c_TooMany) = some (.type "type")
  g_TwiceTold : mg "TwiceTold" = some (.ref A.c_TwiceTold)
  k_TwiceTold : PySem.W.keepIn K (.ref A.c_TwiceTold) = true
  x_TwiceTold : PySem.W.excIn K A.c_TwiceTold [.type "ValueError", .type "Exception", .type "BaseException", .type "object"] "ValueError.__new__" = true
  bb_TwiceTold : PySem.W.subIn K (.ref A.c_TwiceTold) (.type "BaseException") = some true
  t_TwiceTold : PySem.W.typeIn K (.ref A.c_TwiceTold) = some (.type "type")
  err : ErrF K A.cs
structure Funs (K : PySem.W.Frag) (A : Ad) (D : Fd) : Prop where
  f_is_whole : Fun K "is_whole" "is_whole" s_is_whole A.f_is_whole D.d_is_whole
  f_check_step : Fun K "check_step" "check_step" s_check_step A.f_check_step D.d_check_step
  f_check_place : Fun K "check_place" "check_place" s_check_place A.f_check_place D.d_check_place
  f_check_count : Fun K "check_count" "check_count" s_check_count A.f_check_count D.d_check_count
  f_is_ring : Fun K "is_ring" "is_ring" s_is_ring A.f_is_ring D.d_is_ring
  f_check_laid : Fun K "check_laid" "check_laid" s_check_laid A.f_check_laid D.d_check_laid
  f_goes_next : Fun K "goes_next" "goes_next" s_goes_next A.f_goes_next D.d_goes_next
  f_Ring___init__ : FunD K "__init__" "Ring.__init__" (defArgs s_Ring___init__) (defBody s_Ring___init__) (defScope s_Ring___init__) [.int 0] [] A.f_Ring___init__ D.d_Ring___init__
  f_Ring_left : Fun K "left" "Ring.left" s_Ring_left A.f_Ring_left D.d_Ring_left
  f_Ring_gone : Fun K "gone" "Ring.gone" s_Ring_gone A.f_Ring_gone D.d_Ring_gone
  f_Ring_count : Fun K "count" "Ring.count" s_Ring_count A.f_Ring_count D.d_Ring_count
  f_Ring_counts : Fun K "counts" "Ring.counts" s_Ring_counts A.f_Ring_counts D.d_Ring_counts
  f_Ring__go_on : Fun K "_go_on" "Ring._go_on" s_Ring__go_on A.f_Ring__go_on D.d_Ring__go_on
  f__law_cell_at : Fun K "_law_cell_at" "_law_cell_at" s__law_cell_at A.f__law_cell_at D.d__law_cell_at
  f__law_next : Fun K "_law_next" "_law_next" s__law_next A.f__law_next D.d__law_next
  f__law_state : Fun K "_law_state" "_law_state" s__law_state A.f__law_state D.d__law_state
  f__law_of : Fun K "_law_of" "_law_of" s__law_of A.f__law_of D.d__law_of
  f__law_far : Fun K "_law_far" "_law_far" s__law_far A.f__law_far D.d__law_far
  f__law_hands : Fun K "_law_hands" "_law_hands" s__law_hands A.f__law_hands D.d__law_hands
  f__law_turned : Fun K "_law_turned" "_law_turned" s__law_turned A.f__law_turned D.d__law_turned
  f__law_out : Fun K "_law_out" "_law_out" s__law_out A.f__law_out D.d__law_out
  f__law_step : Fun K "_law_step" "_law_step" s__law_step A.f__law_step D.d__law_step
  f__law_error : Fun K "_law_error" "_law_error" s__law_error A.f__law_error D.d__law_error
  f__law_tried : Fun K "_law_tried" "_law_tried" s__law_tried A.f__law_tried D.d__law_tried
  f__law_made : Fun K "_law_made" "_law_made" s__law_made A.f__law_made D.d__law_made
  f__law_shown : Fun K "_law_shown" "_law_shown" s__law_shown A.f__law_shown D.d__law_shown
  f__law_next_first : Fun K "_law_next_first" "_law_next_first" s__law_next_first A.f__law_next_first D.d__law_next_first
  f__law_done : Fun K "_law_done" "_law_done" s__law_done A.f__law_done D.d__law_done
  f__law_rings : Fun K "_law_rings" "_law_rings" s__law_rings A.f__law_rings D.d__law_rings
  f_law : Fun K "law" "law" s_law A.f_law D.d_law
section
variable {P : Program} {w : World} {K : PySem.W.Frag} {mg : Str → Option Value} {base : Heap} {A : Ad} {D : Fd}
theorem ok_is_whole (F : Funs K A D) (T : Txt K mg A) : FnOk P w K mg base CX0 1 A.f_is_whole D.d_is_whole ["thing", "low", "high"] (sIsW K) := by
  refine F.f_is_whole.ok sc_is_whole (fun vs H Q E h => ?_) (fun cdv Ar outer s H vs Q E hr h => ⟨t_is_whole K, ?_, pure_is_whole h⟩)
  · obtain ⟨_, _, _, rfl, _⟩ := h; rfl
  · have S := sc_is_whole
    exact (pss_one (ps_ret (pe_and (pe_callB call_isi (by rfl) T.b_isinstance (by decide +kernel) (pa_cons (pv 0) (pa_cons (pe_bltn (v := .ty "int") (by rfl) T.b_int (by decide +kernel) rfl) pa_nil))) (pe_and (pe_not (pe_callB call_isi (by rfl) T.b_isinstance (by decide +kernel) (pa_cons (pv 0) (pa_cons (pe_bltn (v := .ty "bool") (by rfl) T.b_bool (by decide +kernel) rfl) pa_nil)))) (pe_one (pe_chain op_le op_le (pv 1) (pv 0) (pv 2)))))))
theorem ok_check_step (F : Funs K A D) (T : Txt K mg A) : FnOk P w K mg base (L2.CX P w) 2 A.f_check_step D.d_check_step ["step", "most"] (sCk1 K A.c_NoStep) := by
  have G_is_whole := ok_is_whole (P := P) (w := w) (mg := mg) (base := base) F T
  have V_is_whole_3 : Vals [] [] := .nil
  have B_is_whole_3 := F.f_is_whole.binds (ps := ["thing", "low", "high"]) fun _ _ _ _ _ _ us hl => match us, hl with | [_, _, _], _ => rfl
  refine F.f_check_step.okX sc_check_step (fun vs H Q E h => ?_) (fun cdv Ar outer s H vs Q E hr h => ⟨t_check_many K A.c_NoStep E, ?_, pure_ck1 rfl h⟩)
  · obtain ⟨_, _, rfl, _⟩ := h; rfl
  · have S := sc_check_step
    exact (pss_one (ps_if (pt_not (pt_val (pe_call G_is_whole (hr.mono (by decide)) (by rfl) T.g_is_whole T.k_is_whole B_is_whole_3 V_is_whole_3 pass0 (pa_cons (pv 0) (pa_cons pe_int (pa_cons (pv 1) pa_nil))))))
      (pss_one (ps_raise rfl (takes_of rfl rfl rfl rfl) (pmk_own PySem.F.excBase_ValueError T.x_NoStep T.g_NoStep T.k_NoStep (raises_own T.bb_NoStep T.t_NoStep) (by exact rfl))))
      pss_nil))
theorem ok_check_place (F : Funs K A D) (T : Txt K mg A) : FnOk P w K mg base (L2.CX P w) 2 A.f_check_place D.d_check_place ["place", "many"] (sCkP K A.c_NoPlace) := by
  have G_is_whole := ok_is_whole (P := P) (w := w) (mg := mg) (base := base) F T
  have V_is_whole_3 : Vals [] [] := .nil
  have B_is_whole_3 := F.f_is_whole.binds (ps := ["thing", "low", "high"]) fun _ _ _ _ _ _ us hl => match us, hl with | [_, _, _], _ => rfl
  refine F.f_check_place.okX sc_check_place (fun vs H Q E h => ?_) (fun cdv Ar outer s H vs Q E hr h => ⟨t_check_place K A.c_NoPlace E, ?_, pure_check_place h⟩)
  · obtain ⟨_, _, rfl, _⟩ := h; rfl
  · have S := sc_check_place
    exact (pss_one (ps_if (pt_not (pt_val (pe_call G_is_whole (hr.mono (by decide)) (by rfl) T.g_is_whole T.k_is_whole B_is_whole_3 V_is_whole_3 pass0 (pa_cons (pv 0) (pa_cons pe_int (pa_cons (pe_op op_sub (pv 1) pe_int) pa_nil))))))
      (pss_one (ps_raise rfl (takes_of rfl rfl rfl rfl) (pmk_own PySem.F.excBase_ValueError T.x_NoPlace T.g_NoPlace T.k_NoPlace (raises_own T.bb_NoPlace T.t_NoPlace) (by exact rfl))))
      pss_nil))
theorem ok_check_count (F : Funs K A D) (T : Txt K mg A) : FnOk P w K mg base (L2.CX P w) 2 A.f_check_count D.d_check_count ["count", "low", "high"] (sCkC K A.c_NoCount) := by
  have G_is_whole := ok_is_whole (P := P) (w := w) (mg := mg) (base := base) F T
  have V_is_whole_3 : Vals [] [] := .nil
  have B_is_whole_3 := F.f_is_whole.binds (ps := ["thing", "low", "high"]) fun _ _ _ _ _ _ us hl => match us, hl with | [_, _, _], _ => rfl
  refine F.f_check_count.okX sc_check_count (fun vs H Q E h => ?_) (fun cdv Ar outer s H vs Q E hr h => ⟨t_check_count K A.c_NoCount E, ?_, pure_check_count h⟩)
  · obtain ⟨_, _, _, rfl, _⟩ := h; rfl
  · have S := sc_check_count
    exact (pss_one (ps_if (pt_not (pt_val (pe_call G_is_whole (hr.mono (by decide)) (by rfl) T.g_is_whole T.k_is_whole B_is_whole_3 V_is_whole_3 pass0 (pa_cons (pv 0) (pa_cons (pv 1) (pa_cons (pv 2) pa_nil))))))
      (pss_one (ps_raise rfl (takes_of rfl rfl rfl rfl) (pmk_own PySem.F.excBase_ValueError T.x_NoCount T.g_NoCount T.k_NoCount (raises_own T.bb_NoCount T.t_NoCount) (by exact rfl))))
      pss_nil))
theorem ok_is_ring (F : Funs K A D) (T : Txt K mg A) : FnOk P w K mg base CX0 2 A.f_is_ring D.d_is_ring ["thing"] (sIsRing K) := by
  have G_is_whole := ok_is_whole (P := P) (w := w) (mg := mg) (base := base) F T
  have V_is_whole_3 : Vals [] [] := .nil
  have B_is_whole_3 := F.f_is_whole.binds (ps := ["thing", "low", "high"]) fun _ _ _ _ _ _ us hl => match us, hl with | [_, _, _], _ => rfl
  refine F.f_is_ring.ok sc_is_ring (fun vs H Q E h => ?_) (fun cdv Ar outer s H vs Q E hr h => ⟨t_is_ring K P w, ?_, pure_is_ring h⟩)
  · obtain ⟨_, rfl, _⟩ := h; rfl
  · have S := sc_is_ring
    exact (pss_cons (ps_if (PW.pt (pw_or (pt_not (pt_val (pe_callB call_isi (by rfl) T.b_isinstance (by decide +kernel) (pa_cons (pv 0) (pa_cons (pe_bltn (v := .ty "list") (by rfl) T.b_list (by decide +kernel) rfl) pa_nil))))) (pw_or1 (pt_not (pt_val (pe_call G_is_whole (hr.mono (by decide)) (by rfl) T.g_is_whole T.k_is_whole B_is_whole_3 V_is_whole_3 pass0 (pa_cons (pe_callB call_len_seq (by rfl) T.b_len PySem.boot_len (pa_cons (pv 0) pa_nil)) (pa_cons pe_int (pa_cons (pe_glob rfl T.c_MOST_HANDS.choose_spec ⟨_, rfl⟩) pa_nil)))))))))
      (pss_one (ps_ret pe_bl))
      pss_nil)
      (pss_one (ps_ret (pe_and (pe_callB (cr_all rfl) (by rfl) T.b_all (by decide +kernel) (pa_cons (pe_lc (own := [("hand", 1)]) (g := gName 1) (tt := tYes) rfl S.nd (pi_list (pv 0)) (blkOk_by (N := ["thing", "hand"]) (sc := defScope s_is_ring) (by decide +kernel)) (fun _ _ _ _ _ => pg_name (i := 1) S.nd rfl (Or.inl rfl)) (fun _ _ _ _ _ => pts_nil) (fun _ _ _ _ _ => (pe_callB call_isi (by rfl) T.b_isinstance (by decide +kernel) (pa_cons (pv 1) (pa_cons (pe_bltn (v := .ty "str") (by rfl) T.b_str (by decide +kernel) rfl) pa_nil))))) pa_nil)) (pe_one (pe_cmpR op_eq (pe_callB cr_lenT (by rfl) T.b_len PySem.boot_len (pa_cons (pe_callTy (cr_setT rfl) (by rfl) T.b_set (by decide +kernel) (pa_cons (pv 0) pa_nil)) pa_nil)) (pe_callB call_len_seq (by rfl) T.b_len PySem.boot_len (pa_cons (pv 0) pa_nil)) (nomark _)))))))
theorem ok_check_laid (F : Funs K A D) (T : Txt K mg A) : FnOk P w K mg base (L2.CX P w) 3 A.f_check_laid D.d_check_laid ["hands", "step", "begin"] (sLaid K A.c_NoRing A.c_NoStep A.c_NoPlace) := by
  have G_is_ring := ok_is_ring (P := P) (w := w) (mg := mg) (base := base) F T
  have G_check_step := ok_check_step (P := P) (w := w) (mg := mg) (base := base) F T
  have G_check_place := ok_check_place (P := P) (w := w) (mg := mg) (base := base) F T
  have V_check_place_2 : Vals [] [] := .nil
  have B_check_place_2 := F.f_check_place.binds (ps := ["place", "many"]) fun _ _ _ _ _ _ us hl => match us, hl with | [_, _], _ => rfl
  have V_check_step_2 : Vals [] [] := .nil
  have B_check_step_2 := F.f_check_step.binds (ps := ["step", "most"]) fun _ _ _ _ _ _ us hl => match us, hl with | [_, _], _ => rfl
  have V_is_ring_1 : Vals [] [] := .nil
  have B_is_ring_1 := F.f_is_ring.binds (ps := ["thing"]) fun _ _ _ _ _ _ us hl => match us, hl with | [_], _ => rfl
  refine F.f_check_laid.okX sc_check_laid (fun vs H Q E h => ?_) (fun cdv Ar outer s H vs Q E hr h => ⟨t_check_laid K A.c_NoRing A.c_NoStep A.c_NoPlace E, ?_, pure_check_laid h⟩)
  · unfold sLaid at h; obtain ⟨_, _, _, rfl, _⟩ := h; rfl
  · have S := sc_check_laid
    exact (pss_cons (ps_if (pt_not (pt_val (pe_call G_is_ring (hr.mono (by decide)) (by rfl) T.g_is_ring T.k_is_ring B_is_ring_1 V_is_ring_1 pass0 (pa_cons (pv 0) pa_nil))))
      (pss_one (ps_raise rfl (takes_of rfl rfl rfl rfl) (pmk_own PySem.F.excBase_ValueError T.x_NoRing T.g_NoRing T.k_NoRing (raises_own T.bb_NoRing T.t_NoRing) (by exact rfl))))
      pss_nil)
      (pss_cons (ps_expr (pe_call G_check_step (hr.mono (by decide)) (by rfl) T.g_check_step T.k_check_step B_check_step_2 V_check_step_2 (passes_call (takes_of rfl rfl rfl rfl) (fun _ _ _ _ h => h)) (pa_cons (pv 1) (pa_cons (pe_glob rfl T.c_GREATEST.choose_spec ⟨_, rfl⟩) pa_nil))))
      (pss_one (ps_expr (pe_call G_check_place (hr.mono (by decide)) (by rfl) T.g_check_place T.k_check_place B_check_place_2 V_check_place_2 (passes_call (takes_of rfl rfl rfl rfl) (fun _ _ _ _ h => h)) (pa_cons (pv 2) (pa_cons (pe_callB call_len_seq (by rfl) T.b_len PySem.boot_len (pa_cons (pv 0) pa_nil)) pa_nil)))))))
theorem ok_goes_next (F : Funs K A D) (T : Txt K mg A) : FnOk P w K mg base CX0 1 A.f_goes_next D.d_goes_next ["many", "step", "begin"] sGN := by
  refine F.f_goes_next.ok sc_goes_next (fun vs H Q E h => ?_) (fun cdv Ar outer s H vs Q E hr h => ⟨t_goes_next, ?_, pure_goes_next h⟩)
  · obtain ⟨_, _, _, rfl, _⟩ := h; rfl
  · have S := sc_goes_next
    exact (pss_one (ps_ret (pe_op op_mod (pe_op op_sub (pe_op op_add (pv 2) (pv 1)) pe_int) (pv 0))))
theorem ok_Ring___init__ (F : Funs K A D) (T : Txt K mg A) : FnOk P w K mg base (L2.CX P w) 4 A.f_Ring___init__ D.d_Ring___init__ ["self", "hands", "step", "begin"] (sInit (RR K A.c_Ring) A.c_NoRing A.c_NoStep A.c_NoPlace) := by
  have G_check_laid := ok_check_laid (P := P) (w := w) (mg := mg) (base := base) F T
  have V_check_laid_3 : Vals [] [] := .nil
  have B_check_laid_3 := F.f_check_laid.binds (ps := ["hands", "step", "begin"]) fun _ _ _ _ _ _ us hl => match us, hl with | [_, _, _], _ => rfl
  refine F.f_Ring___init__.ok (CX := L2.CX P w) sc_Ring___init__ (fun vs H Q E h => ?_) (fun cdv Ar outer s H vs Q E hr h => ⟨Cd.t_init K A.c_NoRing A.c_NoStep A.c_NoPlace E, ?_, Cd.pure_init T.rf_Ring h⟩)
  · unfold sInit at h; obtain ⟨_, _, _, _, _, rfl, _⟩ := h; rfl
  · have S := sc_Ring___init__
    exact (pss_cons (ps_expr (pe_call G_check_laid (hr.mono (by decide)) (by rfl) T.g_check_laid T.k_check_laid B_check_laid_3 V_check_laid_3 (passes_call (takes_of rfl rfl rfl rfl) (fun _ _ _ _ h => h)) (pa_cons (pv 1) (pa_cons (pv 2) (pa_cons (pv 3) pa_nil)))))
      (pss_cons (ps_fld (pv 0) (pe_op op_cat (pe_slice sl_list (pv 1) (po_some (pv 3)) po_none) (pe_slice sl_list (pv 1) po_none (po_some (pv 3)))) rfl)
      (pss_cons (ps_fld (pv 0) (pe_lst pa_nil) rfl)
      (pss_one (ps_fld (pv 0) (pv 2) rfl)))))
theorem ok_Ring_left (F : Funs K A D) (T : Txt K mg A) : FnOk P w K mg base CX0 1 A.f_Ring_left D.d_Ring_left ["self"] (sLeftM (RR K A.c_Ring)) := by
  refine F.f_Ring_left.ok sc_Ring_left (fun vs H Q E h => ?_) (fun cdv Ar outer s H vs Q E hr h => ⟨Cd.t_left K, ?_, Cd.pure_left T.rf_Ring h⟩)
  · unfold sLeftM at h; obtain ⟨_, _, _, _, _, rfl, _⟩ := h; rfl
  · have S := sc_Ring_left
    exact (pss_one (ps_ret (pe_callTy call_list_of (by rfl) T.b_list (by decide +kernel) (pa_cons (pe_fld (pv 0) rfl) pa_nil))))
theorem ok_Ring_gone (F : Funs K A D) (T : Txt K mg A) : FnOk P w K mg base CX0 1 A.f_Ring_gone D.d_Ring_gone ["self"] (sGoneM (RR K A.c_Ring)) := by
  refine F.f_Ring_gone.ok sc_Ring_gone (fun vs H Q E h => ?_) (fun cdv Ar outer s H vs Q E hr h => ⟨Cd.t_gone K, ?_, Cd.pure_gone T.rf_Ring h⟩)
  · unfold sGoneM at h; obtain ⟨_, _, _, _, _, rfl, _⟩ := h; rfl
  · have S := sc_Ring_gone
    exact (pss_one (ps_ret (pe_callTy call_list_of (by rfl) T.b_list (by decide +kernel) (pa_cons (pe_fld (pv 0) rfl) pa_nil))))
theorem ok_Ring__go_on (F : Funs K A D) (T : Txt K mg A) : FnOk P w K mg base CX0 2 A.f_Ring__go_on D.d_Ring__go_on ["self"] (sGoOn (RR K A.c_Ring)) := by
  have G_goes_next := ok_goes_next (P := P) (w := w) (mg := mg) (base := base) F T
  have V_goes_next_3 : Vals [] [] := .nil
  have B_goes_next_3 := F.f_goes_next.binds (ps := ["many", "step", "begin"]) fun _ _ _ _ _ _ us hl => match us, hl with | [_, _, _], _ => rfl
  refine F.f_Ring__go_on.ok sc_Ring__go_on (fun vs H Q E h => ?_) (fun cdv Ar outer s H vs Q E hr h => ⟨Cd.t_go_on K, ?_, Cd.pure_go_on T.rf_Ring h⟩)
  · unfold sGoOn at h; obtain ⟨_, _, _, _, _, _, _, rfl, _⟩ := h; rfl
  · have S := sc_Ring__go_on
    exact (pss_cons (ps_set (i := 1) S.nd rfl (Or.inl rfl) (pe_call G_goes_next (hr.mono (by decide)) (by rfl) T.g_goes_next T.k_goes_next B_goes_next_3 V_goes_next_3 pass0 (pa_cons (pe_callB call_len_seq (by rfl) T.b_len PySem.boot_len (pa_cons (pe_fld (pv 0) rfl) pa_nil)) (pa_cons (pe_fld (pv 0) rfl) (pa_cons pe_int pa_nil)))))
      (pss_cons (ps_set (i := 2) S.nd rfl (Or.inl rfl) (pe_ix ix_list (pe_fld (pv 0) rfl) (pv 1) (fun _ _ => rfl)))
      (pss_cons (ps_fld (pv 0) (pe_op op_cat (pe_slice sl_list (pe_fld (pv 0) rfl) (po_some (pe_op op_add (pv 1) pe_int)) po_none) (pe_slice sl_list (pe_fld (pv 0) rfl) po_none (po_some (pv 1)))) rfl)
      (pss_cons (ps_expr (pe_bm PySem.F.plainAttrs_list PySem.F.slot_list_append PySem.F.type_list_append mt_append (pe_fld (pv 0) rfl) (pa_cons (pv 2) pa_nil)))
      (pss_one (ps_ret (pv 2)))))))
theorem ok_Ring_count (F : Funs K A D) (T : Txt K mg A) : FnOk P w K mg base (L2.CX P w) 3 A.f_Ring_count D.d_Ring_count ["self"] (sCountM (RR K A.c_Ring) A.c_NoHand) := by
  have G_Ring__go_on := ok_Ring__go_on (P := P) (w := w) (mg := mg) (base := base) F T
  have V_Ring__go_on_0 : Vals [] [] := .nil
  have B_Ring__go_on_0 := F.f_Ring__go_on.binds (ps := ["self"]) fun _ _ _ _ _ _ us hl => match us, hl with | [_], _ => rfl
  refine F.f_Ring_count.okX sc_Ring_count (fun vs H Q E h => ?_) (fun cdv Ar outer s H vs Q E hr h => ⟨Cd.t_count K A.c_Ring A.c_NoHand E, ?_, Cd.pure_count T.rf_Ring h⟩)
  · unfold sCountM at h; obtain ⟨_, _, _, _, _, rfl, _⟩ := h; rfl
  · have S := sc_Ring_count
    exact (pss_cons (ps_if (pt_not (pt_truth (pe_fld (pv 0) rfl) (by intro _; rfl)))
      (pss_one (ps_raise rfl (takes_of rfl rfl rfl rfl) (pmk_own PySem.F.excBase_ValueError T.x_NoHand T.g_NoHand T.k_NoHand (raises_own T.bb_NoHand T.t_NoHand) (by exact rfl))))
      pss_nil)
      (pss_one (ps_ret (pe_meth0 (pv 0) T.cls_Ring T.me_Ring__go_on G_Ring__go_on (hr.mono (by decide)) B_Ring__go_on_0 V_Ring__go_on_0 pass0))))
theorem ok_Ring_counts (F : Funs K A D) (T : Txt K mg A) : FnOk P w K mg base (L2.CX P w) 3 A.f_Ring_counts D.d_Ring_counts ["self", "many"] (sCountsM (RR K A.c_Ring) A.c_NoCount) := by
  have G_check_count := ok_check_count (P := P) (w := w) (mg := mg) (base := base) F T
  have G_Ring__go_on := ok_Ring__go_on (P := P) (w := w) (mg := mg) (base := base) F T
  have V_Ring__go_on_0 : Vals [] [] := .nil
  have B_Ring__go_on_0 := F.f_Ring__go_on.binds (ps := ["self"]) fun _ _ _ _ _ _ us hl => match us, hl with | [_], _ => rfl
  have V_check_count_3 : Vals [] [] := .nil
  have B_check_count_3 := F.f_check_count.binds (ps := ["count", "low", "high"]) fun _ _ _ _ _ _ us hl => match us, hl with | [_, _, _], _ => rfl
  refine F.f_Ring_counts.okX sc_Ring_counts (fun vs H Q E h => ?_) (fun cdv Ar outer s H vs Q E hr h => ⟨Cd.t_counts K A.c_Ring A.c_NoCount E, ?_, Cd.pure_counts T.rf_Ring h⟩)
  · unfold sCountsM at h; obtain ⟨_, _, _, _, _, _, rfl, _⟩ := h; rfl
  · have S := sc_Ring_counts
    exact (pss_cons (ps_expr (pe_call G_check_count (hr.mono (by decide)) (by rfl) T.g_check_count T.k_check_count B_check_count_3 V_check_count_3 (passes_call (takes_of rfl rfl rfl rfl) (fun _ _ _ _ h => h)) (pa_cons (pv 1) (pa_cons pe_int (pa_cons (pe_callB call_len_seq (by rfl) T.b_len PySem.boot_len (pa_cons (pe_fld (pv 0) rfl) pa_nil)) pa_nil)))))
      (pss_one (ps_ret (pe_lc (own := [("_", 2)]) (g := gName 2) (tt := tYes) rfl S.nd (pi_range1 (by rfl) T.b_range (pa_cons (pv 1) pa_nil)) (blkOk_by (N := ["self", "many", "_"]) (sc := defScope s_Ring_counts) (by decide +kernel)) (fun _ _ _ _ _ => pg_name (i := 2) S.nd rfl (Or.inl rfl)) (fun _ _ _ _ _ => pts_nil) (fun _ _ _ _ _ => (pe_meth0 (pv 0) T.cls_Ring T.me_Ring__go_on G_Ring__go_on (hr.mono (by decide)) B_Ring__go_on_0 V_Ring__go_on_0 pass0))))))
theorem ok__law_cell_at (F : Funs K A D) (T : Txt K mg A) : FnOk P w K mg base CX0 1 A.f__law_cell_at D.d__law_cell_at ["_law_script", "_law_k"] (sCell K) := by
  refine F.f__law_cell_at.ok sc__law_cell_at (fun vs H Q E h => ?_) (fun cdv Ar outer s H vs Q E hr h => ⟨t_cell K, ?_, pure_cell h⟩)
  · obtain ⟨_, _, _, rfl, _⟩ := h; rfl
  · have S := sc__law_cell_at
    exact (pss_cons (ps_if (pt_cmpR op_lt (pv 1) (pe_callB call_len_seq (by rfl) T.b_len PySem.boot_len (pa_cons (pv 0) pa_nil)) (nomark _))
      (pss_one (ps_ret (pe_ix ix_list (pv 0) (pv 1) (fun _ _ => rfl))))
      pss_nil)
      (pss_one (ps_ret pe_int)))
theorem ok__law_next (F : Funs K A D) (T : Txt K mg A) : FnOk P w K mg base CX0 1 A.f__law_next D.d__law_next ["_law_state_here"] sNext := by
  refine F.f__law_next.ok sc__law_next (fun vs H Q E h => ?_) (fun cdv Ar outer s H vs Q E hr h => ⟨t_next K, ?_, pure_next h⟩)
  · obtain ⟨_, rfl, _⟩ := h; rfl
  · have S := sc__law_next
    exact (pss_cons (ps_asg (pe_op op_mod (pe_op op_add (pe_op op_mul (pe_ix ix_list (pv 0) pe_int (fun _ _ => rfl)) pe_int) pe_int) pe_int) (pg_sub (pv 0) pe_int set_list))
      (pss_one (ps_ret (pe_op op_fdiv (pe_op op_mod (pe_op op_mul (pe_ix ix_list (pv 0) pe_int (fun _ _ => rfl)) (pe_ix ix_list (pv 0) pe_int (fun _ _ => rfl))) pe_int) pe_int))))
theorem ok__law_state (F : Funs K A D) (T : Txt K mg A) : FnOk P w K mg base CX0 2 A.f__law_state D.d__law_state ["_law_script", "_law_first"] (sState K) := by
  have G__law_cell_at := ok__law_cell_at (P := P) (w := w) (mg := mg) (base := base) F T
  have V__law_cell_at_2 : Vals [] [] := .nil
  have B__law_cell_at_2 := F.f__law_cell_at.binds (ps := ["_law_script", "_law_k"]) fun _ _ _ _ _ _ us hl => match us, hl with | [_, _], _ => rfl
  refine F.f__law_state.ok sc__law_state (fun vs H Q E h => ?_) (fun cdv Ar outer s H vs Q E hr h => ⟨t_state K, ?_, pure_state h⟩)
  · obtain ⟨_, _, _, rfl, _⟩ := h; rfl
  · have S := sc__law_state
    exact (pss_one (ps_ret (pe_lst (pa_cons (pe_op op_add (pe_op op_add pe_int (pe_op op_mod (pe_call G__law_cell_at (hr.mono (by decide)) (by rfl) T.g__law_cell_at T.k__law_cell_at B__law_cell_at_2 V__law_cell_at_2 pass0 (pa_cons (pv 0) (pa_cons (pv 1) pa_nil))) pe_int)) (pe_op op_mod (pe_call G__law_cell_at (hr.mono (by decide)) (by rfl) T.g__law_cell_at T.k__law_cell_at B__law_cell_at_2 V__law_cell_at_2 pass0 (pa_cons (pv 0) (pa_cons (pe_op op_add (pv 1) pe_int) pa_nil))) pe_int)) pa_nil))))
theorem ok__law_of (F : Funs K A D) (T : Txt K mg A) : FnOk P w K mg base CX0 2 A.f__law_of D.d__law_of ["_law_state_here", "_law_some"] sOf := by
  have G__law_next := ok__law_next (P := P) (w := w) (mg := mg) (base := base) F T
  have V__law_next_1 : Vals [] [] := .nil
  have B__law_next_1 := F.f__law_next.binds (ps := ["_law_state_here"]) fun _ _ _ _ _ _ us hl => match us, hl with | [_], _ => rfl
  refine F.f__law_of.ok sc__law_of (fun vs H Q E h => ?_) (fun cdv Ar outer s H vs Q E hr h => ⟨t_of K, ?_, pure_of h⟩)
  · obtain ⟨_, _, rfl, _⟩ := h; rfl
  · have S := sc__law_of
    exact (pss_one (ps_ret (pe_ix ix_seq (pv 1) (pe_op op_mod (pe_call G__law_next (hr.mono (by decide)) (by rfl) T.g__law_next T.k__law_next B__law_next_1 V__law_next_1 pass0 (pa_cons (pv 0) pa_nil)) (pe_callB call_len (by rfl) T.b_len PySem.boot_len (pa_cons (pv 1) pa_nil))) (fun _ _ => rfl))))
theorem ok__law_far (F : Funs K A D) (T : Txt K mg A) : FnOk P w K mg base CX0 2 A.f__law_far D.d__law_far ["_law_state_here", "_law_many"] sFar := by
  have G__law_next := ok__law_next (P := P) (w := w) (mg := mg) (base := base) F T
  have V__law_next_1 : Vals [] [] := .nil
  have B__law_next_1 := F.f__law_next.binds (ps := ["_law_state_here"]) fun _ _ _ _ _ _ us hl => match us, hl with | [_], _ => rfl
  refine F.f__law_far.ok sc__law_far (fun vs H Q E h => ?_) (fun cdv Ar outer s H vs Q E hr h => ⟨t_far, ?_, pure_far h⟩)
  · obtain ⟨_, _, rfl, _⟩ := h; rfl
  · have S := sc__law_far
    exact (pss_cons (ps_set (i := 2) S.nd rfl (Or.inl rfl) pe_int)
      (pss_cons (ps_for PassesOwn.never rfl (pi_range1 (by rfl) T.b_range (pa_cons pe_int pa_nil)) (pg_name (i := 3) S.nd rfl (Or.inl rfl))
      (pss_one (ps_set (i := 2) S.nd rfl (Or.inl rfl) (pe_op op_add (pe_op op_mul (pv 2) (pe_op op_pow pe_int pe_int)) (pe_op op_mod (pe_call G__law_next (hr.mono (by decide)) (by rfl) T.g__law_next T.k__law_next B__law_next_1 V__law_next_1 pass0 (pa_cons (pv 0) pa_nil)) (pe_op op_pow pe_int pe_int))))))
      (pss_one (ps_ret (pe_op op_mod (pv 2) (pv 1))))))
theorem ok__law_hands (F : Funs K A D) (T : Txt K mg A) : FnOk P w K mg base CX0 3 A.f__law_hands D.d__law_hands ["_law_state_here", "_law_many"] sHands := by
  have G__law_next := ok__law_next (P := P) (w := w) (mg := mg) (base := base) F T
  have G__law_of := ok__law_of (P := P) (w := w) (mg := mg) (base := base) F T
  have V__law_next_1 : Vals [] [] := .nil
  have B__law_next_1 := F.f__law_next.binds (ps := ["_law_state_here"]) fun _ _ _ _ _ _ us hl => match us, hl with | [_], _ => rfl
  have V__law_of_2 : Vals [] [] := .nil
  have B__law_of_2 := F.f__law_of.binds (ps := ["_law_state_here", "_law_some"]) fun _ _ _ _ _ _ us hl => match us, hl with | [_, _], _ => rfl
  refine F.f__law_hands.ok sc__law_hands (fun vs H Q E h => ?_) (fun cdv Ar outer s H vs Q E hr h => ⟨t_hands K, ?_, pure_hands h⟩)
  · obtain ⟨_, _, rfl, _⟩ := h; rfl
  · have S := sc__law_hands
    exact (pss_cons (ps_set (i := 2) S.nd rfl (Or.inl rfl) (pe_op op_mod (pe_call G__law_next (hr.mono (by decide)) (by rfl) T.g__law_next T.k__law_next B__law_next_1 V__law_next_1 pass0 (pa_cons (pv 0) pa_nil)) pe_int))
      (pss_cons (ps_set (i := 3) S.nd rfl (Or.inl rfl) (pe_join pe_str (pe_lc (own := [("_law_k", 4)]) (g := gName 4) (tt := tYes) rfl S.nd (pi_range1 (by rfl) T.b_range (pa_cons (pe_op op_mod (pe_call G__law_next (hr.mono (by decide)) (by rfl) T.g__law_next T.k__law_next B__law_next_1 V__law_next_1 pass0 (pa_cons (pv 0) pa_nil)) pe_int) pa_nil)) (blkOk_by (N := ["_law_state_here", "_law_many", "_law_way", "_law_base", "_law_k", "_law_found"]) (sc := defScope s__law_hands) (by decide +kernel)) (fun _ _ _ _ _ => pg_name (i := 4) S.nd rfl (Or.inl rfl)) (fun _ _ _ _ _ => pts_nil) (fun _ _ _ _ _ => (pe_call G__law_of (hr.mono (by decide)) (by rfl) T.g__law_of T.k__law_of B__law_of_2 V__law_of_2 pass0 (pa_cons (pv 0) (pa_cons pe_str pa_nil)))))))
      (pss_cons (ps_set (i := 5) S.nd rfl (Or.inl rfl) (pe_lst pa_nil))
      (pss_cons (ps_for PassesOwn.never rfl (pi_range1 (by rfl) T.b_range (pa_cons (pv 1) pa_nil)) (pg_name (i := 4) S.nd rfl (Or.inl rfl))
      (pss_one (ps_expr (pe_bm PySem.F.plainAttrs_list PySem.F.slot_list_append PySem.F.type_list_append mt_append (pv 5) (pa_cons (pe_ix ix_list (pe_lst (pa_cons (pe_op op_add_str (pv 3) (pe_callTy call_str_int (by rfl) T.b_str (by decide +kernel) (pa_cons (pv 4) pa_nil))) (pa_cons (pe_op op_add_str (pe_callTy call_str_int (by rfl) T.b_str (by decide +kernel) (pa_cons (pv 4) pa_nil)) (pv 3)) (pa_cons (pe_op op_add_str (pe_op op_mulS pe_str (pv 4)) (pv 3)) pa_nil)))) (pv 2) (fun _ _ => rfl)) pa_nil)))))
      (pss_one (ps_ret (pe_sliceStep (pv 5) (pe_ix ix_list (pe_lst (pa_cons pe_int (pa_cons (pe_un un_neg pe_int) pa_nil))) (pe_op op_mod (pe_call G__law_next (hr.mono (by decide)) (by rfl) T.g__law_next T.k__law_next B__law_next_1 V__law_next_1 pass0 (pa_cons (pv 0) pa_nil)) pe_int) (fun _ _ => rfl)) (fun _ _ => ⟨_, rfl⟩))))))))
theorem ok__law_turned (F : Funs K A D) (T : Txt K mg A) : FnOk P w K mg base CX0 1 A.f__law_turned D.d__law_turned ["_law_row", "_law_many"] sTurned := by
  refine F.f__law_turned.ok sc__law_turned (fun vs H Q E h => ?_) (fun cdv Ar outer s H vs Q E hr h => ⟨t_turned K, ?_, pure_turned h⟩)
  · obtain ⟨_, _, _, rfl, _⟩ := h; rfl
  · have S := sc__law_turned
    exact (pss_cons (ps_set (i := 1) S.nd rfl (Or.inl rfl) (pe_op op_mod (pv 1) (pe_callB call_len_seq (by rfl) T.b_len PySem.boot_len (pa_cons (pv 0) pa_nil))))
      (pss_one (ps_ret (pe_op op_cat (pe_slice sl_list (pv 0) (po_some (pv 1)) po_none) (pe_slice sl_list (pv 0) po_none (po_some (pv 1)))))))
theorem ok__law_out (F : Funs K A D) (T : Txt K mg A) : FnOk P w K mg base CX0 1 A.f__law_out D.d__law_out ["_law_row", "_law_step_here"] (sOut K) := by
  refine F.f__law_out.ok sc__law_out (fun vs H Q E h => ?_) (fun cdv Ar outer s H vs Q E hr h => ⟨t_out K, ?_, pure_out h⟩)
  · obtain ⟨_, _, _, rfl, _⟩ := h; rfl
  · have S := sc__law_out
    have hu64 := hr.units
    exact (pss_cons (ps_set (i := 2) S.nd rfl (Or.inl rfl) (pe_lst pa_nil))
      (pss_cons (ps_set (i := 3) S.nd rfl (Or.inl rfl) (pe_callTy call_list_of (by rfl) T.b_list (by decide +kernel) (pa_cons (pv 0) pa_nil)))
      (pss_cons (ps_while PassesOwn.never (pt_cmpR (op_neF hu64) (pv 3) (pe_lst pa_nil) (nomark _))
      (pss_cons (ps_set (i := 4) S.nd rfl (Or.inl rfl) (pv 1))
      (pss_cons (ps_if (pt_cmpR op_gt (pv 1) (pe_op op_mul pe_int (pe_callB call_len_seq (by rfl) T.b_len PySem.boot_len (pa_cons (pv 3) pa_nil))) (nomark _))
      (pss_one (ps_set (i := 4) S.nd rfl (Or.inl rfl) (pe_op op_add (pe_op op_mod (pv 1) (pe_callB call_len_seq (by rfl) T.b_len PySem.boot_len (pa_cons (pv 3) pa_nil))) (pe_op op_mul pe_int (pe_callB call_len_seq (by rfl) T.b_len PySem.boot_len (pa_cons (pv 3) pa_nil))))))
      pss_nil)
      (pss_cons (ps_while PassesOwn.never (pt_cmpR op_gt (pv 4) pe_int (nomark _))
      (pss_cons (ps_expr (pe_bm PySem.F.plainAttrs_list PySem.F.slot_list_append PySem.F.type_list_append mt_append (pv 3) (pa_cons (pe_bm PySem.F.plainAttrs_list PySem.F.slot_list_pop PySem.F.type_list_pop mt_popAt (pv 3) (pa_cons pe_int pa_nil)) pa_nil)))
      (pss_one (ps_set (i := 4) S.nd rfl (Or.inl rfl) (pe_op op_sub (pv 4) pe_int)))))
      (pss_one (ps_expr (pe_bm PySem.F.plainAttrs_list PySem.F.slot_list_append PySem.F.type_list_append mt_append (pv 2) (pa_cons (pe_bm PySem.F.plainAttrs_list PySem.F.slot_list_pop PySem.F.type_list_pop mt_popAt (pv 3) (pa_cons pe_int pa_nil)) pa_nil))))))))
      (pss_one (ps_ret (pv 2))))))
theorem ok__law_step (F : Funs K A D) (T : Txt K mg A) : FnOk P w K mg base CX0 3 A.f__law_step D.d__law_step ["_law_state_here", "_law_most"] sStep := by
  have G__law_of := ok__law_of (P := P) (w := w) (mg := mg) (base := base) F T
  have G__law_next := ok__law_next (P := P) (w := w) (mg := mg) (base := base) F T
  have V__law_next_1 : Vals [] [] := .nil
  have B__law_next_1 := F.f__law_next.binds (ps := ["_law_state_here"]) fun _ _ _ _ _ _ us hl => match us, hl with | [_], _ => rfl
  have V__law_of_2 : Vals [] [] := .nil
  have B__law_of_2 := F.f__law_of.binds (ps := ["_law_state_here", "_law_some"]) fun _ _ _ _ _ _ us hl => match us, hl with | [_, _], _ => rfl
  refine F.f__law_step.ok sc__law_step (fun vs H Q E h => ?_) (fun cdv Ar outer s H vs Q E hr h => ⟨t_step, ?_, pure_step h⟩)
  · obtain ⟨_, _, rfl, _⟩ := h; rfl
  · have S := sc__law_step
    exact (pss_one (ps_ret (pe_call G__law_of (hr.mono (by decide)) (by rfl) T.g__law_of T.k__law_of B__law_of_2 V__law_of_2 pass0 (pa_cons (pv 0) (pa_cons (pe_lst (pa_cons pe_int (pa_cons pe_int (pa_cons pe_int (pa_cons (pe_op op_add pe_int (pe_op op_mod (pe_call G__law_next (hr.mono (by decide)) (by rfl) T.g__law_next T.k__law_next B__law_next_1 V__law_next_1 pass0 (pa_cons (pv 0) pa_nil)) pe_int)) (pa_cons (pe_op op_add pe_int (pe_op op_mod (pe_call G__law_next (hr.mono (by decide)) (by rfl) T.g__law_next T.k__law_next B__law_next_1 V__law_next_1 pass0 (pa_cons (pv 0) pa_nil)) (pv 1))) (pa_cons (pv 1) pa_nil))))))) pa_nil)))))
theorem ok__law_error (F : Funs K A D) (T : Txt K mg A) : FnOk P w K mg base CX0 1 A.f__law_error D.d__law_error ["_law_e"] (sErr K A.cs) := by
  refine F.f__law_error.ok sc__law_error (fun vs H Q E h => ?_) (fun cdv Ar outer s H vs Q E hr h => ⟨t_error K A.cs, ?_, pure_error T.err h⟩)
  · obtain ⟨_, _, rfl, _⟩ := h; rfl
  · have S := sc__law_error
    exact (pss_cons (ps_set (i := 1) S.nd rfl (Or.inl rfl) (pe_lst pa_nil))
      (pss_cons (ps_if (pt_val (pe_callB call_isX (by rfl) T.b_isinstance (by decide +kernel) (pa_cons (pv 0) (pa_cons (pe_glob rfl T.g_NoRing rfl) pa_nil))))
      (pss_one (ps_expr (pe_bm PySem.F.plainAttrs_list PySem.F.slot_list_append PySem.F.type_list_append mt_append (pv 1) (pa_cons pe_str pa_nil))))
      pss_nil)
      (pss_cons (ps_if (pt_val (pe_callB call_isX (by rfl) T.b_isinstance (by decide +kernel) (pa_cons (pv 0) (pa_cons (pe_glob rfl T.g_NoMany rfl) pa_nil))))
      (pss_one (ps_expr (pe_bm PySem.F.plainAttrs_list PySem.F.slot_list_append PySem.F.type_list_append mt_append (pv 1) (pa_cons pe_str pa_nil))))
      pss_nil)
      (pss_cons (ps_if (pt_val (pe_callB call_isX (by rfl) T.b_isinstance (by decide +kernel) (pa_cons (pv 0) (pa_cons (pe_glob rfl T.g_NoStep rfl) pa_nil))))
      (pss_one (ps_expr (pe_bm PySem.F.plainAttrs_list PySem.F.slot_list_append PySem.F.type_list_append mt_append (pv 1) (pa_cons pe_str pa_nil))))
      pss_nil)
      (pss_cons (ps_if (pt_val (pe_callB call_isX (by rfl) T.b_isinstance (by decide +kernel) (pa_cons (pv 0) (pa_cons (pe_glob rfl T.g_NoPlace rfl) pa_nil))))
      (pss_one (ps_expr (pe_bm PySem.F.plainAttrs_list PySem.F.slot_list_append PySem.F.type_list_append mt_append (pv 1) (pa_cons pe_str pa_nil))))
      pss_nil)
      (pss_cons (ps_if (pt_val (pe_callB call_isX (by rfl) T.b_isinstance (by decide +kernel) (pa_cons (pv 0) (pa_cons (pe_glob rfl T.g_NoCount rfl) pa_nil))))
      (pss_one (ps_expr (pe_bm PySem.F.plainAttrs_list PySem.F.slot_list_append PySem.F.type_list_append mt_append (pv 1) (pa_cons pe_str pa_nil))))
      pss_nil)
      (pss_cons (ps_if (pt_val (pe_callB call_isX (by rfl) T.b_isinstance (by decide +kernel) (pa_cons (pv 0) (pa_cons (pe_glob rfl T.g_NoHand rfl) pa_nil))))
      (pss_one (ps_expr (pe_bm PySem.F.plainAttrs_list PySem.F.slot_list_append PySem.F.type_list_append mt_append (pv 1) (pa_cons pe_str pa_nil))))
      pss_nil)
      (pss_cons (ps_if (pt_val (pe_callB call_isX (by rfl) T.b_isinstance (by decide +kernel) (pa_cons (pv 0) (pa_cons (pe_glob rfl T.g_TwiceTold rfl) pa_nil))))
      (pss_one (ps_expr (pe_bm PySem.F.plainAttrs_list PySem.F.slot_list_append PySem.F.type_list_append mt_append (pv 1) (pa_cons pe_str pa_nil))))
      pss_nil)
      (pss_cons (ps_if (pt_val (pe_callB call_isX (by rfl) T.b_isinstance (by decide +kernel) (pa_cons (pv 0) (pa_cons (pe_glob rfl T.g_TooMany rfl) pa_nil))))
      (pss_one (ps_expr (pe_bm PySem.F.plainAttrs_list PySem.F.slot_list_append PySem.F.type_list_append mt_append (pv 1) (pa_cons pe_str pa_nil))))
      pss_nil)
      (pss_cons (ps_if (PW.pt (pw_or (pt_cmpR op_ne (pe_callB call_len_seq (by rfl) T.b_len PySem.boot_len (pa_cons (pv 1) pa_nil)) pe_int (nomark _)) (pw_or1 (pt_not (pt_val (pe_callB call_isX (by rfl) T.b_isinstance (by decide +kernel) (pa_cons (pv 0) (pa_cons (pe_bltn (v := .ty "ValueError") (by rfl) T.b_ValueError (by decide +kernel) rfl) pa_nil))))))))
      (pss_one (ps_ret pe_str))
      pss_nil)
      (pss_one (ps_ret (pe_ix ix_list (pv 1) pe_int (fun _ _ => rfl))))))))))))))
theorem ok__law_tried (F : Funs K A D) (T : Txt K mg A) : FnOk P w K mg base CX0 4 A.f__law_tried D.d__law_tried ["_law_ring", "_law_way", "_law_many"] (sTried (RR K A.c_Ring) A.cs) := by
  have G_Ring_count := ok_Ring_count (P := P) (w := w) (mg := mg) (base := base) F T
  have G_Ring_counts := ok_Ring_counts (P := P) (w := w) (mg := mg) (base := base) F T
  have G__law_error := ok__law_error (P := P) (w := w) (mg := mg) (base := base) F T
  have V_Ring_count_0 : Vals [] [] := .nil
  have B_Ring_count_0 := F.f_Ring_count.binds (ps := ["self"]) fun _ _ _ _ _ _ us hl => match us, hl with | [_], _ => rfl
  have V_Ring_counts_1 : Vals [] [] := .nil
  have B_Ring_counts_1 := F.f_Ring_counts.binds (ps := ["self", "many"]) fun _ _ _ _ _ _ us hl => match us, hl with | [_, _], _ => rfl
  have V__law_error_1 : Vals [] [] := .nil
  have B__law_error_1 := F.f__law_error.binds (ps := ["_law_e"]) fun _ _ _ _ _ _ us hl => match us, hl with | [_], _ => rfl
  refine F.f__law_tried.ok sc__law_tried (fun vs H Q E h => ?_) (fun cdv Ar outer s H vs Q E hr h => ⟨t_tried (RR K A.c_Ring) A.cs, ?_, pure_tried T.err h⟩)
  · unfold sTried at h; obtain ⟨_, _, _, _, _, _, _, rfl, _⟩ := h; rfl
  · have S := sc__law_tried
    exact (pss_cons (ps_try_keep (i := 3) (j := 4) (tb := fun W => (tSeq (tIfS (tTest (tOp rEq (tVar 1) (tC (.int 0))))
      (tRet (tMethX A.c_Ring "count" (sCountM (RR K A.c_Ring) A.c_NoHand) [] (WE W) (tVar 0) tNil))
      tNext)
      (tRet (tMethX A.c_Ring "counts" (sCountsM (RR K A.c_Ring) A.c_NoCount) [] (WE W) (tVar 0) (tCons (tVar 2) tNil))))) rfl rfl rfl S.nd rfl rfl rfl rfl rfl ⟨rfl, by decide, Or.inl T.g_CountError⟩ (by decide) (by decide)
        (fun W pn xe tk _ => (pss_cons (ps_if (pt_cmpR op_eq (pv 1) pe_int (nomark _))
      (pss_one (ps_ret (pe_methX0 (pv 0) T.cls_Ring T.me_Ring_count G_Ring_count (hr.mono (by decide)) B_Ring_count_0 V_Ring_count_0 (fun σ => passAt tk σ))))
      pss_nil)
      (pss_one (ps_ret (pe_methX (pv 0) T.cls_Ring T.me_Ring_counts G_Ring_counts (hr.mono (by decide)) B_Ring_counts_1 V_Ring_counts_1 (fun σ => passAt tk σ) (pa_cons (pv 2) pa_nil)))))) rfl)
      (pss_one (ps_ret (pe_tup (pa_cons (pe_call G__law_error (hr.mono (by decide)) (by rfl) T.g__law_error T.k__law_error B__law_error_1 V__law_error_1 pass0 (pa_cons (pv 4) pa_nil)) pa_nil)))))
theorem ok__law_made (F : Funs K A D) (T : Txt K mg A) : FnOk P w K mg base CX0 6 A.f__law_made D.d__law_made ["_law_hands_here", "_law_step_here", "_law_begin"] (sMade (RR K A.c_Ring) A.cs) := by
  have G_Ring_init := ok_Ring___init__ (P := P) (w := w) (mg := mg) (base := base) F T
  have G__law_error := ok__law_error (P := P) (w := w) (mg := mg) (base := base) F T
  obtain ⟨ds_Ring_init_3, V_Ring_init_3, B_Ring_init_3⟩ := F.f_Ring___init__.binds1 (ps := ["self", "hands", "step", "begin"]) 4 1 (by simp) rfl (fun _ _ _ _ _ _ _ us its hu hi => match us, its, hu, hi with | [_, _, _, _], [_], _, _ => ⟨_, rfl, rfl⟩)
  have V__law_error_1 : Vals [] [] := .nil
  have B__law_error_1 := F.f__law_error.binds (ps := ["_law_e"]) fun _ _ _ _ _ _ us hl => match us, hl with | [_], _ => rfl
  obtain rfl : ds_Ring_init_3 = [] := List.eq_nil_of_length_eq_zero (V_Ring_init_3.length).symm
  refine F.f__law_made.ok sc__law_made (fun vs H Q E h => ?_) (fun cdv Ar outer s H vs Q E hr h => ⟨t_made (RR K A.c_Ring) A.cs, ?_, pure_made T.err h⟩)
  · unfold sMade at h; obtain ⟨_, _, _, rfl, _⟩ := h; rfl
  · have S := sc__law_made
    exact (pss_cons (ps_try_keep (i := 3) (j := 4) (tb := fun W => (tSeq (tDrop (tMakeX A.c_Ring (sInit (RR K A.c_Ring) A.c_NoRing A.c_NoStep A.c_NoPlace) [] (WE W) (tCons (tVar 0) (tCons (tVar 1) (tCons (tVar 2) tNil)))))
      (tRet (tC (.str ""))))) rfl rfl rfl S.nd rfl rfl rfl rfl rfl ⟨rfl, by decide, Or.inl T.g_CountError⟩ (by decide) (by decide)
        (fun W pn xe tk _ => (pss_cons (ps_expr (pe_makeX T.mk_Ring G_Ring_init (hr.mono (by decide)) (by rfl) T.g_Ring B_Ring_init_3 V_Ring_init_3 (fun σ => passAt tk σ) (pa_cons (pv 0) (pa_cons (pv 1) (pa_cons (pv 2) pa_nil)))))
      (pss_one (ps_ret pe_str)))) rfl)
      (pss_one (ps_ret (pe_call G__law_error (hr.mono (by decide)) (by rfl) T.g__law_error T.k__law_error B__law_error_1 V__law_error_1 pass0 (pa_cons (pv 4) pa_nil)))))
theorem ok__law_next_first (F : Funs K A D) (T : Txt K mg A) : FnOk P w K mg base CX0 2 A.f__law_next_first D.d__law_next_first ["_law_own"] (sNextFirst K) := by
  have G__law_turned := ok__law_turned (P := P) (w := w) (mg := mg) (base := base) F T
  have V__law_turned_2 : Vals [] [] := .nil
  have B__law_turned_2 := F.f__law_turned.binds (ps := ["_law_row", "_law_many"]) fun _ _ _ _ _ _ us hl => match us, hl with | [_, _], _ => rfl
  refine F.f__law_next_first.ok sc__law_next_first (fun vs H Q E h => ?_) (fun cdv Ar outer s H vs Q E hr h => ⟨t_next_first K, ?_, pure_next_first h⟩)
  · unfold sNextFirst at h; obtain ⟨_, _, rfl, _⟩ := h; rfl
  · have S := sc__law_next_first
    have hu := hu_of hr
    exact (pss_cons (ps_set (i := 1) S.nd rfl (Or.inl rfl) (pe_callTy call_list_of (by rfl) T.b_list (by decide +kernel) (pa_cons (pe_dget hu (pv 0) pe_str (fun _ _ => rfl)) pa_nil)))
      (pss_cons (ps_for PassesOwn.never rfl (pi_range1 (by rfl) T.b_range (pa_cons (pe_dget hu (pv 0) pe_str (fun _ _ => rfl)) pa_nil)) (pg_name (i := 2) S.nd rfl (Or.inl rfl))
      (pss_one (ps_set (i := 1) S.nd rfl (Or.inl rfl) (pe_slice sl_list (pe_call G__law_turned (hr.mono (by decide)) (by rfl) T.g__law_turned T.k__law_turned B__law_turned_2 V__law_turned_2 pass0 (pa_cons (pv 1) (pa_cons (pe_op op_sub (pe_dget hu (pv 0) pe_str (fun _ _ => rfl)) pe_int) pa_nil))) (po_some pe_int) po_none))))
      (pss_one (ps_ret (pv 1)))))
theorem ok__law_shown (F : Funs K A D) (T : Txt K mg A) : FnOk P w K mg base CX0 3 A.f__law_shown D.d__law_shown ["_law_ring", "_law_own"] (sShown (RR K A.c_Ring)) := by
  have G_Ring_gone := ok_Ring_gone (P := P) (w := w) (mg := mg) (base := base) F T
  have G_Ring_left := ok_Ring_left (P := P) (w := w) (mg := mg) (base := base) F T
  have G__law_next_first := ok__law_next_first (P := P) (w := w) (mg := mg) (base := base) F T
  have V_Ring_gone_0 : Vals [] [] := .nil
  have B_Ring_gone_0 := F.f_Ring_gone.binds (ps := ["self"]) fun _ _ _ _ _ _ us hl => match us, hl with | [_], _ => rfl
  have V_Ring_left_0 : Vals [] [] := .nil
  have B_Ring_left_0 := F.f_Ring_left.binds (ps := ["self"]) fun _ _ _ _ _ _ us hl => match us, hl with | [_], _ => rfl
  have V__law_next_first_1 : Vals [] [] := .nil
  have B__law_next_first_1 := F.f__law_next_first.binds (ps := ["_law_own"]) fun _ _ _ _ _ _ us hl => match us, hl with | [_], _ => rfl
  refine F.f__law_shown.ok sc__law_shown (fun vs H Q E h => ?_) (fun cdv Ar outer s H vs Q E hr h => ⟨t_shown (RR K A.c_Ring), ?_, pure_shown h⟩)
  · unfold sShown at h; obtain ⟨_, _, _, _, rfl, _⟩ := h; rfl
  · have S := sc__law_shown
    have hu64 := hr.units
    have hu := hu_of hr
    exact (pss_cons (ps_set (i := 2) S.nd rfl (Or.inl rfl) (pe_lst (pa_cons (pe_meth0 (pv 0) T.cls_Ring T.me_Ring_left G_Ring_left (hr.mono (by decide)) B_Ring_left_0 V_Ring_left_0 pass0) (pa_cons (pe_meth0 (pv 0) T.cls_Ring T.me_Ring_gone G_Ring_gone (hr.mono (by decide)) B_Ring_gone_0 V_Ring_gone_0 pass0) pa_nil))))
      (pss_cons (ps_set (i := 3) S.nd rfl (Or.inl rfl) (pe_lst (pa_cons (pe_call G__law_next_first (hr.mono (by decide)) (by rfl) T.g__law_next_first T.k__law_next_first B__law_next_first_1 V__law_next_first_1 pass0 (pa_cons (pv 1) pa_nil)) (pa_cons (pe_slice sl_list (pe_dget hu (pv 1) pe_str (fun _ _ => rfl)) po_none (po_some (pe_dget hu (pv 1) pe_str (fun _ _ => rfl)))) pa_nil))))
      (pss_cons (ps_if (PW.pt (pw_or (pt_cmpR (op_neD hu64) (pv 2) (pv 3) (nomark _)) (pw_or (pt_not (pt_val (pe_callB call_isi (by rfl) T.b_isinstance (by decide +kernel) (pa_cons (pe_ix ix_list (pv 2) pe_int (fun _ _ => rfl)) (pa_cons (pe_bltn (v := .ty "list") (by rfl) T.b_list (by decide +kernel) rfl) pa_nil))))) (pw_or1 (pt_not (pt_val (pe_callB call_isi (by rfl) T.b_isinstance (by decide +kernel) (pa_cons (pe_ix ix_list (pv 2) pe_int (fun _ _ => rfl)) (pa_cons (pe_bltn (v := .ty "list") (by rfl) T.b_list (by decide +kernel) rfl) pa_nil)))))))))
      (pss_one (ps_ret pe_bl))
      pss_nil)
      (pss_cons (ps_expr (pe_bm PySem.F.plainAttrs_list PySem.F.slot_list_append PySem.F.type_list_append mt_append (pe_ix ix_list (pv 2) pe_int (fun _ _ => rfl)) (pa_cons pe_str pa_nil)))
      (pss_cons (ps_expr (pe_bm PySem.F.plainAttrs_list PySem.F.slot_list_append PySem.F.type_list_append mt_append (pe_ix ix_list (pv 2) pe_int (fun _ _ => rfl)) (pa_cons pe_str pa_nil)))
      (pss_one (ps_ret (pe_cmpR (op_eqD hu64) (pe_lst (pa_cons (pe_meth0 (pv 0) T.cls_Ring T.me_Ring_left G_Ring_left (hr.mono (by decide)) B_Ring_left_0 V_Ring_left_0 pass0) (pa_cons (pe_meth0 (pv 0) T.cls_Ring T.me_Ring_gone G_Ring_gone (hr.mono (by decide)) B_Ring_gone_0 V_Ring_gone_0 pass0) pa_nil))) (pv 3) (nomark _)))))))))
theorem ok__law_done (F : Funs K A D) (T : Txt K mg A) : FnOk P w K mg base CX0 5 A.f__law_done D.d__law_done ["_law_ring", "_law_own", "_law_cell"] (sDone (RR K A.c_Ring) A.cs) := by
  have G__law_tried := ok__law_tried (P := P) (w := w) (mg := mg) (base := base) F T
  have V__law_tried_3 : Vals [] [] := .nil
  have B__law_tried_3 := F.f__law_tried.binds (ps := ["_law_ring", "_law_way", "_law_many"]) fun _ _ _ _ _ _ us hl => match us, hl with | [_, _, _], _ => rfl
  refine F.f__law_done.ok sc__law_done (fun vs H Q E h => ?_) (fun cdv Ar outer s H vs Q E hr h => ⟨t_done (RR K A.c_Ring) A.cs, ?_, pure_done h⟩)
  · unfold sDone at h; obtain ⟨_, _, _, _, _, rfl, _⟩ := h; rfl
  · have S := sc__law_done
    have hu64 := hr.units
    have hu := hu_of hr
    exact (pss_cons (ps_set (i := 3) S.nd rfl (Or.inl rfl) (pe_op op_sub (pe_callB call_len_seq (by rfl) T.b_len PySem.boot_len (pa_cons (pe_dget hu (pv 1) pe_str (fun _ _ => rfl)) pa_nil)) (pe_dget hu (pv 1) pe_str (fun _ _ => rfl))))
      (pss_cons (ps_set (i := 4) S.nd rfl (Or.inl rfl) (pe_op op_mod (pe_op op_fdiv (pv 2) pe_int) pe_int))
      (pss_cons (ps_if (PW.pt (pw_and (pt_cmpR op_eq (pe_op op_mod (pv 2) pe_int) pe_int (nomark _)) (pw_and1 (pt_cmpR op_gt (pv 4) (pv 3) (nomark _)))))
      (pss_one (ps_ret (pe_cmpR (op_eqD hu64) (pe_call G__law_tried (hr.mono (by decide)) (by rfl) T.g__law_tried T.k__law_tried B__law_tried_3 V__law_tried_3 pass0 (pa_cons (pv 0) (pa_cons pe_int (pa_cons (pv 4) pa_nil)))) (pe_tup (pa_cons pe_str pa_nil)) (nomark _))))
      pss_nil)
      (pss_cons (ps_if (pt_cmpR op_eq (pe_op op_mod (pv 2) pe_int) pe_int (nomark _))
      (pss_cons (ps_set (i := 5) S.nd rfl (Or.inl rfl) (pe_slice sl_list (pe_dget hu (pv 1) pe_str (fun _ _ => rfl)) (po_some (pe_dget hu (pv 1) pe_str (fun _ _ => rfl))) (po_some (pe_op op_add (pe_dget hu (pv 1) pe_str (fun _ _ => rfl)) (pv 4)))))
      (pss_cons (ps_dput hu (pv 1) pe_str (pe_op op_add (pe_dget hu (pv 1) pe_str (fun _ _ => rfl)) (pv 4)) rfl)
      (pss_cons (ps_set (i := 6) S.nd rfl (Or.inl rfl) (pe_call G__law_tried (hr.mono (by decide)) (by rfl) T.g__law_tried T.k__law_tried B__law_tried_3 V__law_tried_3 pass0 (pa_cons (pv 0) (pa_cons pe_int (pa_cons (pv 4) pa_nil)))))
      (pss_cons (ps_expr (pe_bm PySem.F.plainAttrs_list PySem.F.slot_list_append PySem.F.type_list_append mt_append (pe_dget hu (pv 1) pe_str (fun _ _ => rfl)) (pa_cons (pe_tup (pa_cons (pv 6) (pa_cons (pv 5) pa_nil))) pa_nil)))
      (pss_one (ps_ret (pe_cmpR (op_eqD hu64) (pv 6) (pv 5) (nomark _))))))))
      pss_nil)
      (pss_cons (ps_if (pt_cmpR op_eq (pe_op op_mod (pv 2) pe_int) pe_int (nomark _))
      (pss_one (ps_ret (pe_cmpR (op_eqD hu64) (pe_call G__law_tried (hr.mono (by decide)) (by rfl) T.g__law_tried T.k__law_tried B__law_tried_3 V__law_tried_3 pass0 (pa_cons (pv 0) (pa_cons pe_int (pa_cons (pe_ix ix_list (pe_lst (pa_cons (pe_un un_neg pe_int) (pa_cons (pe_op op_add (pv 3) pe_int) (pa_cons pe_non (pa_cons pe_bl (pa_cons pe_str pa_nil)))))) (pv 4) (fun _ _ => rfl)) pa_nil)))) (pe_tup (pa_cons pe_str pa_nil)) (nomark _))))
      pss_nil)
      (pss_cons (ps_set (i := 5) S.nd rfl (Or.inl rfl) (pe_ix ix_list (pe_op op_cat (pe_dget hu (pv 1) pe_str (fun _ _ => rfl)) (pe_lst (pa_cons (pe_tup (pa_cons pe_str pa_nil)) pa_nil))) (pe_dget hu (pv 1) pe_str (fun _ _ => rfl)) (fun _ _ => rfl)))
      (pss_cons (ps_dput hu (pv 1) pe_str (pe_callB (call_min2 rfl) (by rfl) T.b_min (by decide +kernel) (pa_cons (pe_op op_add (pe_dget hu (pv 1) pe_str (fun _ _ => rfl)) pe_int) (pa_cons (pe_callB call_len_seq (by rfl) T.b_len PySem.boot_len (pa_cons (pe_dget hu (pv 1) pe_str (fun _ _ => rfl)) pa_nil)) pa_nil))) rfl)
      (pss_one (ps_ret (pe_cmpR (op_eqD hu64) (pe_call G__law_tried (hr.mono (by decide)) (by rfl) T.g__law_tried T.k__law_tried B__law_tried_3 V__law_tried_3 pass0 (pa_cons (pv 0) (pa_cons pe_int (pa_cons pe_int pa_nil)))) (pv 5) (nomark _)))))))))))
theorem ok__law_rings (F : Funs K A D) (T : Txt K mg A) : FnOk P w K mg base CX0 6 A.f__law_rings D.d__law_rings ["_law_state_here"] (sRings (RR K A.c_Ring)) := by
  have G__law_next := ok__law_next (P := P) (w := w) (mg := mg) (base := base) F T
  have G__law_hands := ok__law_hands (P := P) (w := w) (mg := mg) (base := base) F T
  have G__law_of := ok__law_of (P := P) (w := w) (mg := mg) (base := base) F T
  have G__law_far := ok__law_far (P := P) (w := w) (mg := mg) (base := base) F T
  have G__law_step := ok__law_step (P := P) (w := w) (mg := mg) (base := base) F T
  have G__law_turned := ok__law_turned (P := P) (w := w) (mg := mg) (base := base) F T
  have G__law_out := ok__law_out (P := P) (w := w) (mg := mg) (base := base) F T
  have G_Ring_init := ok_Ring___init__ (P := P) (w := w) (mg := mg) (base := base) F T
  obtain ⟨ds_Ring_init_3, V_Ring_init_3, B_Ring_init_3⟩ := F.f_Ring___init__.binds1 (ps := ["self", "hands", "step", "begin"]) 4 1 (by simp) rfl (fun _ _ _ _ _ _ _ us its hu hi => match us, its, hu, hi with | [_, _, _, _], [_], _, _ => ⟨_, rfl, rfl⟩)
  have V__law_far_2 : Vals [] [] := .nil
  have B__law_far_2 := F.f__law_far.binds (ps := ["_law_state_here", "_law_many"]) fun _ _ _ _ _ _ us hl => match us, hl with | [_, _], _ => rfl
  have V__law_hands_2 : Vals [] [] := .nil
  have B__law_hands_2 := F.f__law_hands.binds (ps := ["_law_state_here", "_law_many"]) fun _ _ _ _ _ _ us hl => match us, hl with | [_, _], _ => rfl
  have V__law_next_1 : Vals [] [] := .nil
  have B__law_next_1 := F.f__law_next.binds (ps := ["_law_state_here"]) fun _ _ _ _ _ _ us hl => match us, hl with | [_], _ => rfl
  have V__law_of_2 : Vals [] [] := .nil
  have B__law_of_2 := F.f__law_of.binds (ps := ["_law_state_here", "_law_some"]) fun _ _ _ _ _ _ us hl => match us, hl with | [_, _], _ => rfl
  have V__law_out_2 : Vals [] [] := .nil
  have B__law_out_2 := F.f__law_out.binds (ps := ["_law_row", "_law_step_here"]) fun _ _ _ _ _ _ us hl => match us, hl with | [_, _], _ => rfl
  have V__law_step_2 : Vals [] [] := .nil
  have B__law_step_2 := F.f__law_step.binds (ps := ["_law_state_here", "_law_most"]) fun _ _ _ _ _ _ us hl => match us, hl with | [_, _], _ => rfl
  have V__law_turned_2 : Vals [] [] := .nil
  have B__law_turned_2 := F.f__law_turned.binds (ps := ["_law_row", "_law_many"]) fun _ _ _ _ _ _ us hl => match us, hl with | [_, _], _ => rfl
  obtain rfl : ds_Ring_init_3 = [] := List.eq_nil_of_length_eq_zero (V_Ring_init_3.length).symm
  refine F.f__law_rings.ok sc__law_rings (fun vs H Q E h => ?_) (fun cdv Ar outer s H vs Q E hr h => ⟨t_rings (RR K A.c_Ring) A.cs, ?_, pure_rings h⟩)
  · unfold sRings at h; obtain ⟨_, rfl, _⟩ := h; rfl
  · have S := sc__law_rings
    exact (pss_cons (ps_set (i := 1) S.nd rfl (Or.inl rfl) (pe_lst pa_nil))
      (pss_cons (ps_set (i := 2) S.nd rfl (Or.inl rfl) (pe_lst pa_nil))
      (pss_cons (ps_for PassesOwn.never rfl (pi_range1 (by rfl) T.b_range (pa_cons pe_int pa_nil)) (pg_name (i := 3) S.nd rfl (Or.inl rfl))
      (pss_cons (ps_set (i := 4) S.nd rfl (Or.inl rfl) (pe_op op_add pe_int (pe_op op_mod (pe_call G__law_next (hr.mono (by decide)) (by rfl) T.g__law_next T.k__law_next B__law_next_1 V__law_next_1 pass0 (pa_cons (pv 0) pa_nil)) pe_int)))
      (pss_cons (ps_set (i := 5) S.nd rfl (Or.inl rfl) (pe_call G__law_hands (hr.mono (by decide)) (by rfl) T.g__law_hands T.k__law_hands B__law_hands_2 V__law_hands_2 pass0 (pa_cons (pv 0) (pa_cons (pv 4) pa_nil))))
      (pss_cons (ps_set (i := 6) S.nd rfl (Or.inl rfl) (pe_call G__law_of (hr.mono (by decide)) (by rfl) T.g__law_of T.k__law_of B__law_of_2 V__law_of_2 pass0 (pa_cons (pv 0) (pa_cons (pe_lst (pa_cons (pe_call G__law_step (hr.mono (by decide)) (by rfl) T.g__law_step T.k__law_step B__law_step_2 V__law_step_2 pass0 (pa_cons (pv 0) (pa_cons pe_int pa_nil))) (pa_cons (pe_call G__law_step (hr.mono (by decide)) (by rfl) T.g__law_step T.k__law_step B__law_step_2 V__law_step_2 pass0 (pa_cons (pv 0) (pa_cons pe_int pa_nil))) (pa_cons (pe_op op_add pe_int (pe_call G__law_far (hr.mono (by decide)) (by rfl) T.g__law_far T.k__law_far B__law_far_2 V__law_far_2 pass0 (pa_cons (pv 0) (pa_cons (pe_op op_pow pe_int pe_int) pa_nil)))) pa_nil)))) pa_nil))))
      (pss_cons (ps_set (i := 7) S.nd rfl (Or.inl rfl) (pe_op op_mod (pe_call G__law_next (hr.mono (by decide)) (by rfl) T.g__law_next T.k__law_next B__law_next_1 V__law_next_1 pass0 (pa_cons (pv 0) pa_nil)) (pv 4)))
      (pss_cons (ps_set (i := 8) S.nd rfl (Or.inl rfl) (pe_call G__law_turned (hr.mono (by decide)) (by rfl) T.g__law_turned T.k__law_turned B__law_turned_2 V__law_turned_2 pass0 (pa_cons (pe_callTy call_list_of (by rfl) T.b_list (by decide +kernel) (pa_cons (pv 5) pa_nil)) (pa_cons (pv 7) pa_nil))))
      (pss_cons (ps_expr (pe_bm PySem.F.plainAttrs_list PySem.F.slot_list_append PySem.F.type_list_append mt_append (pv 2) (pa_cons (pe_disp (pps_cons pe_str (pv 8) (pps_cons pe_str (pv 6) (pps_cons pe_str pe_int (pps_cons pe_str (pe_call G__law_out (hr.mono (by decide)) (by rfl) T.g__law_out T.k__law_out B__law_out_2 V__law_out_2 pass0 (pa_cons (pv 8) (pa_cons (pv 6) pa_nil))) (pps_cons pe_str (pe_lst pa_nil) pps_nil))))) (by rfl) (by rfl) (fun z => by cases z) (by decide)) pa_nil)))
      (pss_cons (ps_expr (pe_bm PySem.F.plainAttrs_list PySem.F.slot_list_append PySem.F.type_list_append mt_append (pv 1) (pa_cons (pe_make T.mk_Ring G_Ring_init (hr.mono (by decide)) (by rfl) T.g_Ring B_Ring_init_3 V_Ring_init_3 passL (pa_cons (pv 5) (pa_cons (pv 6) (pa_cons (pv 7) pa_nil)))) pa_nil)))
      (pss_one (ps_expr (pe_bm0 PySem.F.plainAttrs_list PySem.F.slot_list_clear PySem.F.type_list_clear mt_clear (pv 5))))))))))))
      (pss_one (ps_ret (pe_tup (pa_cons (pv 1) (pa_cons (pv 2) pa_nil))))))))
theorem ok_law (F : Funs K A D) (T : Txt K mg A) : FnOk P w K mg base CX0 7 A.f_law D.d_law ["_law_script"] (sLaw K) := by
  have G__law_state := ok__law_state (P := P) (w := w) (mg := mg) (base := base) F T
  have G__law_rings := ok__law_rings (P := P) (w := w) (mg := mg) (base := base) F T
  have G_Ring_init := ok_Ring___init__ (P := P) (w := w) (mg := mg) (base := base) F T
  have G_Ring_left := ok_Ring_left (P := P) (w := w) (mg := mg) (base := base) F T
  have G__law_done := ok__law_done (P := P) (w := w) (mg := mg) (base := base) F T
  have G__law_shown := ok__law_shown (P := P) (w := w) (mg := mg) (base := base) F T
  have G__law_of := ok__law_of (P := P) (w := w) (mg := mg) (base := base) F T
  have G__law_made := ok__law_made (P := P) (w := w) (mg := mg) (base := base) F T
  obtain ⟨ds_Ring_init_2, V_Ring_init_2, B_Ring_init_2⟩ := F.f_Ring___init__.binds1 (ps := ["self", "hands", "step", "begin"]) 3 0 (by simp) rfl (fun _ _ _ _ _ _ _ us its hu hi => match us, its, hu, hi with | [_, _, _], [_], _, _ => ⟨_, rfl, rfl⟩)
  have V_Ring_left_0 : Vals [] [] := .nil
  have B_Ring_left_0 := F.f_Ring_left.binds (ps := ["self"]) fun _ _ _ _ _ _ us hl => match us, hl with | [_], _ => rfl
  have V__law_done_3 : Vals [] [] := .nil
  have B__law_done_3 := F.f__law_done.binds (ps := ["_law_ring", "_law_own", "_law_cell"]) fun _ _ _ _ _ _ us hl => match us, hl with | [_, _, _], _ => rfl
  have V__law_made_3 : Vals [] [] := .nil
  have B__law_made_3 := F.f__law_made.binds (ps := ["_law_hands_here", "_law_step_here", "_law_begin"]) fun _ _ _ _ _ _ us hl => match us, hl with | [_, _, _], _ => rfl
  have V__law_of_2 : Vals [] [] := .nil
  have B__law_of_2 := F.f__law_of.binds (ps := ["_law_state_here", "_law_some"]) fun _ _ _ _ _ _ us hl => match us, hl with | [_, _], _ => rfl
  have V__law_rings_1 : Vals [] [] := .nil
  have B__law_rings_1 := F.f__law_rings.binds (ps := ["_law_state_here"]) fun _ _ _ _ _ _ us hl => match us, hl with | [_], _ => rfl
  have V__law_shown_2 : Vals [] [] := .nil
  have B__law_shown_2 := F.f__law_shown.binds (ps := ["_law_ring", "_law_own"]) fun _ _ _ _ _ _ us hl => match us, hl with | [_, _], _ => rfl
  have V__law_state_2 : Vals [] [] := .nil
  have B__law_state_2 := F.f__law_state.binds (ps := ["_law_script", "_law_first"]) fun _ _ _ _ _ _ us hl => match us, hl with | [_, _], _ => rfl
  refine F.f_law.ok sc_law (fun vs H Q E h => ?_) (fun cdv Ar outer s H vs Q E hr h => ⟨t_law (RR K A.c_Ring) A.cs, ?_, pure_law h⟩)
  · obtain ⟨_, _, rfl, _⟩ := h; rfl
  · have S := sc_law
    have hu64 := hr.units
    have hu := hu_of hr
    exact (pss_cons (ps_set (i := 1) S.nd rfl (Or.inl rfl) (pe_call G__law_state (hr.mono (by decide)) (by rfl) T.g__law_state T.k__law_state B__law_state_2 V__law_state_2 pass0 (pa_cons (pv 0) (pa_cons pe_int pa_nil))))
      (pss_cons (ps_asg (pe_call G__law_rings (hr.mono (by decide)) (by rfl) T.g__law_rings T.k__law_rings B__law_rings_1 V__law_rings_1 pass0 (pa_cons (pv 1) pa_nil)) (pg_tup rfl (pgs_cons (pg_name (i := 2) S.nd rfl (Or.inl rfl)) (pgs_cons (pg_name (i := 3) S.nd rfl (Or.inl rfl)) pgs_nil))))
      (pss_cons (ps_if (pt_cmpR (op_neF hu64) (pe_meth0 (pe_make T.mk_Ring G_Ring_init (hr.mono (by decide)) (by rfl) T.g_Ring B_Ring_init_2 V_Ring_init_2 passL (pa_cons (pe_lst (pa_cons pe_str (pa_cons pe_str pa_nil))) (pa_cons pe_int pa_nil))) T.cls_Ring T.me_Ring_left G_Ring_left (hr.mono (by decide)) B_Ring_left_0 V_Ring_left_0 pass0) (pe_lst (pa_cons pe_str (pa_cons pe_str pa_nil))) (nomark _))
      (pss_one (ps_ret pe_bl))
      pss_nil)
      (pss_cons (ps_for PassesOwn.never rfl (pi_list (pe_slice sl_list (pv 0) (po_some pe_int) (po_some pe_int))) (pg_name (i := 4) S.nd rfl (Or.inl rfl))
      (pss_cons (ps_if (pt_not (pt_val (pe_call G__law_done (hr.mono (by decide)) (by rfl) T.g__law_done T.k__law_done B__law_done_3 V__law_done_3 pass0 (pa_cons (pe_ix ix_list (pv 2) (pe_op op_mod (pv 4) pe_int) (fun _ _ => rfl)) (pa_cons (pe_ix ix_list (pv 3) (pe_op op_mod (pv 4) pe_int) (fun _ _ => rfl)) (pa_cons (pe_op op_fdiv (pv 4) pe_int) pa_nil))))))
      (pss_one (ps_ret pe_bl))
      pss_nil)
      (pss_one (ps_if (PW.pt (pw_or (pt_not (pt_val (pe_call G__law_shown (hr.mono (by decide)) (by rfl) T.g__law_shown T.k__law_shown B__law_shown_2 V__law_shown_2 pass0 (pa_cons (pe_ix ix_list (pv 2) pe_int (fun _ _ => rfl)) (pa_cons (pe_ix ix_list (pv 3) pe_int (fun _ _ => rfl)) pa_nil))))) (pw_or1 (pt_not (pt_val (pe_call G__law_shown (hr.mono (by decide)) (by rfl) T.g__law_shown T.k__law_shown B__law_shown_2 V__law_shown_2 pass0 (pa_cons (pe_ix ix_list (pv 2) pe_int (fun _ _ => rfl)) (pa_cons (pe_ix ix_list (pv 3) pe_int (fun _ _ => rfl)) pa_nil))))))))
      (pss_one (ps_ret pe_bl))
      pss_nil))))
      (pss_cons (ps_for PassesOwn.never rfl (pi_list (pv 3)) (pg_name (i := 5) S.nd rfl (Or.inl rfl))
      (pss_one (ps_for PassesOwn.never rfl (pi_list (pe_dget hu (pv 5) pe_str (fun _ _ => rfl))) (pg_tup rfl (pgs_cons (pg_name (i := 6) S.nd rfl (Or.inl rfl)) (pgs_cons (pg_name (i := 7) S.nd rfl (Or.inl rfl)) pgs_nil)))
      (pss_cons (ps_if (PW.pt (pw_or (pt_not (pt_val (pe_callB call_isi (by rfl) T.b_isinstance (by decide +kernel) (pa_cons (pv 6) (pa_cons (pe_bltn (v := .ty "list") (by rfl) T.b_list (by decide +kernel) rfl) pa_nil))))) (pw_or1 (pt_cmpR (op_neF hu64) (pv 6) (pv 7) (nomark _)))))
      (pss_one (ps_ret pe_bl))
      pss_nil)
      (pss_one (ps_expr (pe_bm PySem.F.plainAttrs_list PySem.F.slot_list_append PySem.F.type_list_append mt_append (pv 6) (pa_cons pe_str pa_nil))))))))
      (pss_cons (ps_if (PW.pt (pw_or (pt_not (pt_val (pe_call G__law_shown (hr.mono (by decide)) (by rfl) T.g__law_shown T.k__law_shown B__law_shown_2 V__law_shown_2 pass0 (pa_cons (pe_ix ix_list (pv 2) pe_int (fun _ _ => rfl)) (pa_cons (pe_ix ix_list (pv 3) pe_int (fun _ _ => rfl)) pa_nil))))) (pw_or1 (pt_not (pt_val (pe_call G__law_shown (hr.mono (by decide)) (by rfl) T.g__law_shown T.k__law_shown B__law_shown_2 V__law_shown_2 pass0 (pa_cons (pe_ix ix_list (pv 2) pe_int (fun _ _ => rfl)) (pa_cons (pe_ix ix_list (pv 3) pe_int (fun _ _ => rfl)) pa_nil))))))))
      (pss_one (ps_ret pe_bl))
      pss_nil)
      (pss_cons (ps_set (i := 8) S.nd rfl (Or.inl rfl) (pe_lst (pa_cons pe_str (pa_cons pe_str (pa_cons pe_str pa_nil)))))
      (pss_cons (ps_set (i := 9) S.nd rfl (Or.inl rfl) (pe_call G__law_of (hr.mono (by decide)) (by rfl) T.g__law_of T.k__law_of B__law_of_2 V__law_of_2 pass0 (pa_cons (pv 1) (pa_cons (pe_lst (pa_cons (pe_lst pa_nil) (pa_cons (pe_lst (pa_cons pe_str (pa_cons pe_str pa_nil))) (pa_cons pe_non (pa_cons (pe_tup (pa_cons pe_str pa_nil)) (pa_cons (pe_lst (pa_cons pe_str (pa_cons pe_int pa_nil))) (pa_cons pe_str pa_nil))))))) pa_nil))))
      (pss_cons (ps_set (i := 10) S.nd rfl (Or.inl rfl) (pe_call G__law_of (hr.mono (by decide)) (by rfl) T.g__law_of T.k__law_of B__law_of_2 V__law_of_2 pass0 (pa_cons (pv 1) (pa_cons (pe_lst (pa_cons pe_int (pa_cons (pe_un un_neg pe_int) (pa_cons pe_non (pa_cons pe_bl (pa_cons pe_str (pa_cons (pe_op op_add (pe_op op_pow pe_int pe_int) pe_int) pa_nil))))))) pa_nil))))
      (pss_cons (ps_set (i := 11) S.nd rfl (Or.inl rfl) (pe_call G__law_of (hr.mono (by decide)) (by rfl) T.g__law_of T.k__law_of B__law_of_2 V__law_of_2 pass0 (pa_cons (pv 1) (pa_cons (pe_lst (pa_cons pe_int (pa_cons (pe_un un_neg pe_int) (pa_cons pe_non (pa_cons pe_bl (pa_cons pe_str pa_nil)))))) pa_nil))))
      (pss_one (ps_ret (pe_cmpR (op_eqF hu64) (pe_lst (pa_cons (pe_call G__law_made (hr.mono (by decide)) (by rfl) T.g__law_made T.k__law_made B__law_made_3 V__law_made_3 pass0 (pa_cons (pv 9) (pa_cons (pv 10) (pa_cons (pv 11) pa_nil)))) (pa_cons (pe_call G__law_made (hr.mono (by decide)) (by rfl) T.g__law_made T.k__law_made B__law_made_3 V__law_made_3 pass0 (pa_cons (pv 8) (pa_cons (pv 10) (pa_cons (pv 11) pa_nil)))) (pa_cons (pe_call G__law_made (hr.mono (by decide)) (by rfl) T.g__law_made T.k__law_made B__law_made_3 V__law_made_3 pass0 (pa_cons (pv 8) (pa_cons pe_int (pa_cons (pv 11) pa_nil)))) pa_nil)))) (pe_lst (pa_cons pe_str (pa_cons pe_str (pa_cons pe_str pa_nil)))) (nomark _))))))))))))))
end
theorem all_mk {l : PySem.W.OpenLaw} {w : World} {K : PySem.W.Frag} {h : Heap} {mg : Str → Option Value} {fa : Addr} (X : K.In h) (G : h.Ns mainGlobals mg) (hfa : mg "law" = some (.ref fa))
    {c_Ring : Addr} (a_Ring : PySem.W.nsIn K mainGlobals "Ring" = some (some (.ref c_Ring)))
    {f_is_whole : Addr} {od_is_whole an_is_whole : Option Addr} {sl_is_whole : Array (Option Value)} {oc_is_whole kV_is_whole dc_is_whole pm_is_whole cd_is_whole ct_is_whole : Value}
    (a_is_whole : PySem.W.nsIn K mainGlobals "is_whole" = some (some (.ref f_is_whole)))
    (l_is_whole : K.lookup f_is_whole = some ⟨oc_is_whole, od_is_whole, .func (PySem.W.fnOf "is_whole" "is_whole" (defArgs s_is_whole) (defBody s_is_whole) (defScope s_is_whole) .none kV_is_whole dc_is_whole pm_is_whole an_is_whole cd_is_whole ct_is_whole), sl_is_whole⟩)
    (cc_is_whole : PySem.W.codeIn K cd_is_whole "is_whole" = true) (k_is_whole : PySem.W.keepIn K (.ref f_is_whole) = true)
    {f_check_step : Addr} {od_check_step an_check_step : Option Addr} {sl_check_step : Array (Option Value)} {oc_check_step kV_check_step dc_check_step pm_check_step cd_check_step ct_check_step : Value}
    (a_check_step : PySem.W.nsIn K mainGlobals "check_step" = some (some (.ref f_check_step)))
    (l_check_step : K.lookup f_check_step = some ⟨oc_check_step, od_check_step, .func (PySem.W.fnOf "check_step" "check_step" (defArgs s_check_step) (defBody s_check_step) (defScope s_check_step) .none kV_check_step dc_check_step pm_check_step an_check_step cd_check_step ct_check_step), sl_check_step⟩)
    (cc_check_step : PySem.W.codeIn K cd_check_step "check_step" = true) (k_check_step : PySem.W.keepIn K (.ref f_check_step) = true)
    {f_check_place : Addr} {od_check_place an_check_place : Option Addr} {sl_check_place : Array (Option Value)} {oc_check_place kV_check_place dc_check_place pm_check_place cd_check_place ct_check_place : Value}
    (a_check_place : PySem.W.nsIn K mainGlobals "check_place" = some (some (.ref f_check_place)))
    (l_check_place : K.lookup f_check_place = some ⟨oc_check_place, od_check_place, .func (PySem.W.fnOf "check_place" "check_place" (defArgs s_check_place) (defBody s_check_place) (defScope s_check_place) .none kV_check_place dc_check_place pm_check_place an_check_place cd_check_place ct_check_place), sl_check_place⟩)
    (cc_check_place : PySem.W.codeIn K cd_check_place "check_place" = true) (k_check_place : PySem.W.keepIn K (.ref f_check_place) = true)
    {f_check_count : Addr} {od_check_count an_check_count : Option Addr} {sl_check_count : Array (Option Value)} {oc_check_count kV_check_count dc_check_count pm_check_count cd_check_count ct_check_count : Value}
    (a_check_count : PySem.W.nsIn K mainGlobals "check_count" = some (some (.ref f_check_count)))
    (l_check_count : K.lookup f_check_count = some ⟨oc_check_count, od_check_count, .func (PySem.W.fnOf "check_count" "check_count" (defArgs s_check_count) (defBody s_check_count) (defScope s_check_count) .none kV_check_count dc_check_count pm_check_count an_check_count cd_check_count ct_check_count), sl_check_count⟩)
    (cc_check_count : PySem.W.codeIn K cd_check_count "check_count" = true) (k_check_count : PySem.W.keepIn K (.ref f_check_count) = true)
    {f_is_ring : Addr} {od_is_ring an_is_ring : Option Addr} {sl_is_ring : Array (Option Value)} {oc_is_ring kV_is_ring dc_is_ring pm_is_ring cd_is_ring ct_is_ring : Value}
    (a_is_ring : PySem.W.nsIn K mainGlobals "is_ring" = some (some (.ref f_is_ring)))
    (l_is_ring : K.lookup f_is_ring = some ⟨oc_is_ring, od_is_ring, .func (PySem.W.fnOf "is_ring" "is_ring" (defArgs s_is_ring) (defBody s_is_ring) (defScope s_is_ring) .none kV_is_ring dc_is_ring pm_is_ring an_is_ring cd_is_ring ct_is_ring), sl_is_ring⟩)
    (cc_is_ring : PySem.W.codeIn K cd_is_ring "is_ring" = true) (k_is_ring : PySem.W.keepIn K (.ref f_is_ring) = true)
    {f_check_laid : Addr} {od_check_laid an_check_laid : Option Addr} {sl_check_laid : Array (Option Value)} {oc_check_laid kV_check_laid dc_check_laid pm_check_laid cd_check_laid ct_check_laid : Value}
    (a_check_laid : PySem.W.nsIn K mainGlobals "check_laid" = some (some (.ref f_check_laid)))
    (l_check_laid : K.lookup f_check_laid = some ⟨oc_check_laid, od_check_laid, .func (PySem.W.fnOf "check_laid" "check_laid" (defArgs s_check_laid) (defBody s_check_laid) (defScope s_check_laid) .none kV_check_laid dc_check_laid pm_check_laid an_check_laid cd_check_laid ct_check_laid), sl_check_laid⟩)
    (cc_check_laid : PySem.W.codeIn K cd_check_laid "check_laid" = true) (k_check_laid : PySem.W.keepIn K (.ref f_check_laid) = true)
    {f_goes_next : Addr} {od_goes_next an_goes_next : Option Addr} {sl_goes_next : Array (Option Value)} {oc_goes_next kV_goes_next dc_goes_next pm_goes_next cd_goes_next ct_goes_next : Value}
    (a_goes_next : PySem.W.nsIn K mainGlobals "goes_next" = some (some (.ref f_goes_next)))
    (l_goes_next : K.lookup f_goes_next = some ⟨oc_goes_next, od_goes_next, .func (PySem.W.fnOf "goes_next" "goes_next" (defArgs s_goes_next) (defBody s_goes_next) (defScope s_goes_next) .none kV_goes_next dc_goes_next pm_goes_next an_goes_next cd_goes_next ct_goes_next), sl_goes_next⟩)
    (cc_goes_next : PySem.W.codeIn K cd_goes_next "goes_next" = true) (k_goes_next : PySem.W.keepIn K (.ref f_goes_next) = true)
    {f_Ring___init__ : Addr} {od_Ring___init__ an_Ring___init__ : Option Addr} {sl_Ring___init__ : Array (Option Value)} {oc_Ring___init__ kV_Ring___init__ dc_Ring___init__ pm_Ring___init__ cd_Ring___init__ ct_Ring___init__ : Value}
    {dT_Ring___init__ : Addr} {dO_Ring___init__ : Obj} {dI_Ring___init__ : List Value} {dN_Ring___init__ : Nat}
    (a_Ring___init__ : PySem.W.findIn K (.ref c_Ring) "__init__" = some (some (.ref f_Ring___init__))) (i_Ring___init__ : PySem.W.isFn K (.ref f_Ring___init__) = true)
    (l_Ring___init__ : K.lookup f_Ring___init__ = some ⟨oc_Ring___init__, od_Ring___init__, .func (PySem.W.fnOf "__init__" "Ring.__init__" (defArgs s_Ring___init__) (defBody s_Ring___init__) (defScope s_Ring___init__) (.ref dT_Ring___init__) kV_Ring___init__ dc_Ring___init__ pm_Ring___init__ an_Ring___init__ cd_Ring___init__ ct_Ring___init__), sl_Ring___init__⟩)
    (dt_Ring___init__ : K.lookup dT_Ring___init__ = some dO_Ring___init__) (dd_Ring___init__ : dO_Ring___init__.data = .seq dI_Ring___init__.toArray dN_Ring___init__) (dv_Ring___init__ : Vals [.int 0] dI_Ring___init__)
    (cc_Ring___init__ : PySem.W.codeIn K cd_Ring___init__ "Ring.__init__" = true) (k_Ring___init__ : PySem.W.keepIn K (.ref f_Ring___init__) = true)
    {f_Ring_left : Addr} {od_Ring_left an_Ring_left : Option Addr} {sl_Ring_left : Array (Option Value)} {oc_Ring_left kV_Ring_left dc_Ring_left pm_Ring_left cd_Ring_left ct_Ring_left : Value}
    (a_Ring_left : PySem.W.findIn K (.ref c_Ring) "left" = some (some (.ref f_Ring_left))) (i_Ring_left : PySem.W.isFn K (.ref f_Ring_left) = true)
    (l_Ring_left : K.lookup f_Ring_left = some ⟨oc_Ring_left, od_Ring_left, .func (PySem.W.fnOf "left" "Ring.left" (defArgs s_Ring_left) (defBody s_Ring_left) (defScope s_Ring_left) .none kV_Ring_left dc_Ring_left pm_Ring_left an_Ring_left cd_Ring_left ct_Ring_left), sl_Ring_left⟩)
    (cc_Ring_left : PySem.W.codeIn K cd_Ring_left "Ring.left" = true) (k_Ring_left : PySem.W.keepIn K (.ref f_Ring_left) = true)
    {f_Ring_gone : Addr} {od_Ring_gone an_Ring_gone : Option Addr} {sl_Ring_gone : Array (Option Value)} {oc_Ring_gone kV_Ring_gone dc_Ring_gone pm_Ring_gone cd_Ring_gone ct_Ring_gone : Value}
    (a_Ring_gone : PySem.W.findIn K (.ref c_Ring) "gone" = some (some (.ref f_Ring_gone))) (i_Ring_gone : PySem.W.isFn K (.ref f_Ring_gone) = true)
    (l_Ring_gone : K.lookup f_Ring_gone = some ⟨oc_Ring_gone, od_Ring_gone, .func (PySem.W.fnOf "gone" "Ring.gone" (defArgs s_Ring_gone) (defBody s_Ring_gone) (defScope s_Ring_gone) .none kV_Ring_gone dc_Ring_gone pm_Ring_gone an_Ring_gone cd_Ring_gone ct_Ring_gone), sl_Ring_gone⟩)
    (cc_Ring_gone : PySem.W.codeIn K cd_Ring_gone "Ring.gone" = true) (k_Ring_gone : PySem.W.keepIn K (.ref f_Ring_gone) = true)
    {f_Ring_count : Addr} {od_Ring_count an_Ring_count : Option Addr} {sl_Ring_count : Array (Option Value)} {oc_Ring_count kV_Ring_count dc_Ring_count pm_Ring_count cd_Ring_count ct_Ring_count : Value}
    (a_Ring_count : PySem.W.findIn K (.ref c_Ring) "count" = some (some (.ref f_Ring_count))) (i_Ring_count : PySem.W.isFn K (.ref f_Ring_count) = true)
    (l_Ring_count : K.lookup f_Ring_count = some ⟨oc_Ring_count, od_Ring_count, .func (PySem.W.fnOf "count" "Ring.count" (defArgs s_Ring_count) (defBody s_Ring_count) (defScope s_Ring_count) .none kV_Ring_count dc_Ring_count pm_Ring_count an_Ring_count cd_Ring_count ct_Ring_count), sl_Ring_count⟩)
    (cc_Ring_count : PySem.W.codeIn K cd_Ring_count "Ring.count" = true) (k_Ring_count : PySem.W.keepIn K (.ref f_Ring_count) = true)
    {f_Ring_counts : Addr} {od_Ring_counts an_Ring_counts : Option Addr} {sl_Ring_counts : Array (Option Value)} {oc_Ring_counts kV_Ring_counts dc_Ring_counts pm_Ring_counts cd_Ring_counts ct_Ring_counts : Value}
    (a_Ring_counts : PySem.W.findIn K (.ref c_Ring) "counts" = some (some (.ref f_Ring_counts))) (i_Ring_counts : PySem.W.isFn K (.ref f_Ring_counts) = true)
    (l_Ring_counts : K.lookup f_Ring_counts = some ⟨oc_Ring_counts, od_Ring_counts, .func (PySem.W.fnOf "counts" "Ring.counts" (defArgs s_Ring_counts) (defBody s_Ring_counts) (defScope s_Ring_counts) .none kV_Ring_counts dc_Ring_counts pm_Ring_counts an_Ring_counts cd_Ring_counts ct_Ring_counts), sl_Ring_counts⟩)
    (cc_Ring_counts : PySem.W.codeIn K cd_Ring_counts "Ring.counts" = true) (k_Ring_counts : PySem.W.keepIn K (.ref f_Ring_counts) = true)
    {f_Ring__go_on : Addr} {od_Ring__go_on an_Ring__go_on : Option Addr} {sl_Ring__go_on : Array (Option Value)} {oc_Ring__go_on kV_Ring__go_on dc_Ring__go_on pm_Ring__go_on cd_Ring__go_on ct_Ring__go_on : Value}
    (a_Ring__go_on : PySem.W.findIn K (.ref c_Ring) "_go_on" = some (some (.ref f_Ring__go_on))) (i_Ring__go_on : PySem.W.isFn K (.ref f_Ring__go_on) = true)
    (l_Ring__go_on : K.lookup f_Ring__go_on = some ⟨oc_Ring__go_on, od_Ring__go_on, .func (PySem.W.fnOf "_go_on" "Ring._go_on" (defArgs s_Ring__go_on) (defBody s_Ring__go_on) (defScope s_Ring__go_on) .none kV_Ring__go_on dc_Ring__go_on pm_Ring__go_on an_Ring__go_on cd_Ring__go_on ct_Ring__go_on), sl_Ring__go_on⟩)
    (cc_Ring__go_on : PySem.W.codeIn K cd_Ring__go_on "Ring._go_on" = true) (k_Ring__go_on : PySem.W.keepIn K (.ref f_Ring__go_on) = true)
    {f__law_cell_at : Addr} {od__law_cell_at an__law_cell_at : Option Addr} {sl__law_cell_at : Array (Option Value)} {oc__law_cell_at kV__law_cell_at dc__law_cell_at pm__law_cell_at cd__law_cell_at ct__law_cell_at : Value}
    (a__law_cell_at : PySem.W.nsIn K mainGlobals "_law_cell_at" = some (some (.ref f__law_cell_at)))
    (l__law_cell_at : K.lookup f__law_cell_at = some ⟨oc__law_cell_at, od__law_cell_at, .func (PySem.W.fnOf "_law_cell_at" "_law_cell_at" (defArgs s__law_cell_at) (defBody s__law_cell_at) (defScope s__law_cell_at) .none kV__law_cell_at dc__law_cell_at pm__law_cell_at an__law_cell_at cd__law_cell_at ct__law_cell_at), sl__law_cell_at⟩)
    (cc__law_cell_at : PySem.W.codeIn K cd__law_cell_at "_law_cell_at" = true) (k__law_cell_at : PySem.W.keepIn K (.ref f__law_cell_at) = true)
    {f__law_next : Addr} {od__law_next an__law_next : Option Addr} {sl__law_next : Array (Option Value)} {oc__law_next kV__law_next dc__law_next pm__law_next cd__law_next ct__law_next : Value}
    (a__law_next : PySem.W.nsIn K mainGlobals "_law_next" = some (some (.ref f__law_next)))
    (l__law_next : K.lookup f__law_next = some ⟨oc__law_next, od__law_next, .func (PySem.W.fnOf "_law_next" "_law_next" (defArgs s__law_next) (defBody s__law_next) (defScope s__law_next) .none kV__law_next dc__law_next pm__law_next an__law_next cd__law_next ct__law_next), sl__law_next⟩)
    (cc__law_next : PySem.W.codeIn K cd__law_next "_law_next" = true) (k__law_next : PySem.W.keepIn K (.ref f__law_next) = true)
    {f__law_state : Addr} {od__law_state an__law_state : Option Addr} {sl__law_state : Array (Option Value)} {oc__law_state kV__law_state dc__law_state pm__law_state cd__law_state ct__law_state : Value}
    (a__law_state : PySem.W.nsIn K mainGlobals "_law_state" = some (some (.ref f__law_state)))
    (l__law_state : K.lookup f__law_state = some ⟨oc__law_state, od__law_state, .func (PySem.W.fnOf "_law_state" "_law_state" (defArgs s__law_state) (defBody s__law_state) (defScope s__law_state) .none kV__law_state dc__law_state pm__law_state an__law_state cd__law_state ct__law_state), sl__law_state⟩)
    (cc__law_state : PySem.W.codeIn K cd__law_state "_law_state" = true) (k__law_state : PySem.W.keepIn K (.ref f__law_state) = true)
    {f__law_of : Addr} {od__law_of an__law_of : Option Addr} {sl__law_of : Array (Option Value)} {oc__law_of kV__law_of dc__law_of pm__law_of cd__law_of ct__law_of : Value}
    (a__law_of : PySem.W.nsIn K mainGlobals "_law_of" = some (some (.ref f__law_of)))
    (l__law_of : K.lookup f__law_of = some ⟨oc__law_of, od__law_of, .func (PySem.W.fnOf "_law_of" "_law_of" (defArgs s__law_of) (defBody s__law_of) (defScope s__law_of) .none kV__law_of dc__law_of pm__law_of an__law_of cd__law_of ct__law_of), sl__law_of⟩)
    (cc__law_of : PySem.W.codeIn K cd__law_of "_law_of" = true) (k__law_of : PySem.W.keepIn K (.ref f__law_of) = true)
    {f__law_far : Addr} {od__law_far an__law_far : Option Addr} {sl__law_far : Array (Option Value)} {oc__law_far kV__law_far dc__law_far pm__law_far cd__law_far ct__law_far : Value}
    (a__law_far : PySem.W.nsIn K mainGlobals "_law_far" = some (some (.ref f__law_far)))
    (l__law_far : K.lookup f__law_far = some ⟨oc__law_far, od__law_far, .func (PySem.W.fnOf "_law_far" "_law_far" (defArgs s__law_far) (defBody s__law_far) (defScope s__law_far) .none kV__law_far dc__law_far pm__law_far an__law_far cd__law_far ct__law_far), sl__law_far⟩)
    (cc__law_far : PySem.W.codeIn K cd__law_far "_law_far" = true) (k__law_far : PySem.W.keepIn K (.ref f__law_far) = true)
    {f__law_hands : Addr} {od__law_hands an__law_hands : Option Addr} {sl__law_hands : Array (Option Value)} {oc__law_hands kV__law_hands dc__law_hands pm__law_hands cd__law_hands ct__law_hands : Value}
    (a__law_hands : PySem.W.nsIn K mainGlobals "_law_hands" = some (some (.ref f__law_hands)))
    (l__law_hands : K.lookup f__law_hands = some ⟨oc__law_hands, od__law_hands, .func (PySem.W.fnOf "_law_hands" "_law_hands" (defArgs s__law_hands) (defBody s__law_hands) (defScope s__law_hands) .none kV__law_hands dc__law_hands pm__law_hands an__law_hands cd__law_hands ct__law_hands), sl__law_hands⟩)
    (cc__law_hands : PySem.W.codeIn K cd__law_hands "_law_hands" = true) (k__law_hands : PySem.W.keepIn K (.ref f__law_hands) = true)
    {f__law_turned : Addr} {od__law_turned an__law_turned : Option Addr} {sl__law_turned : Array (Option Value)} {oc__law_turned kV__law_turned dc__law_turned pm__law_turned cd__law_turned ct__law_turned : Value}
    (a__law_turned : PySem.W.nsIn K mainGlobals "_law_turned" = some (some (.ref f__law_turned)))
    (l__law_turned : K.lookup f__law_turned = some ⟨oc__law_turned, od__law_turned, .func (PySem.W.fnOf "_law_turned" "_law_turned" (defArgs s__law_turned) (defBody s__law_turned) (defScope s__law_turned) .none kV__law_turned dc__law_turned pm__law_turned an__law_turned cd__law_turned ct__law_turned), sl__law_turned⟩)
    (cc__law_turned : PySem.W.codeIn K cd__law_turned "_law_turned" = true) (k__law_turned : PySem.W.keepIn K (.ref f__law_turned) = true)
    {f__law_out : Addr} {od__law_out an__law_out : Option Addr} {sl__law_out : Array (Option Value)} {oc__law_out kV__law_out dc__law_out pm__law_out cd__law_out ct__law_out : Value}
    (a__law_out : PySem.W.nsIn K mainGlobals "_law_out" = some (some (.ref f__law_out)))
    (l__law_out : K.lookup f__law_out = some ⟨oc__law_out, od__law_out, .func (PySem.W.fnOf "_law_out" "_law_out" (defArgs s__law_out) (defBody s__law_out) (defScope s__law_out) .none kV__law_out dc__law_out pm__law_out an__law_out cd__law_out ct__law_out), sl__law_out⟩)
    (cc__law_out : PySem.W.codeIn K cd__law_out "_law_out" = true) (k__law_out : PySem.W.keepIn K (.ref f__law_out) = true)
    {f__law_step : Addr} {od__law_step an__law_step : Option Addr} {sl__law_step : Array (Option Value)} {oc__law_step kV__law_step dc__law_step pm__law_step cd__law_step ct__law_step : Value}
    (a__law_step : PySem.W.nsIn K mainGlobals "_law_step" = some (some (.ref f__law_step)))
    (l__law_step : K.lookup f__law_step = some ⟨oc__law_step, od__law_step, .func (PySem.W.fnOf "_law_step" "_law_step" (defArgs s__law_step) (defBody s__law_step) (defScope s__law_step) .none kV__law_step dc__law_step pm__law_step an__law_step cd__law_step ct__law_step), sl__law_step⟩)
    (cc__law_step : PySem.W.codeIn K cd__law_step "_law_step" = true) (k__law_step : PySem.W.keepIn K (.ref f__law_step) = true)
    {f__law_error : Addr} {od__law_error an__law_error : Option Addr} {sl__law_error : Array (Option Value)} {oc__law_error kV__law_error dc__law_error pm__law_error cd__law_error ct__law_error : Value}
    (a__law_error : PySem.W.nsIn K mainGlobals "_law_error" = some (some (.ref f__law_error)))
    (l__law_error : K.lookup f__law_error = some ⟨oc__law_error, od__law_error, .func (PySem.W.fnOf "_law_error" "_law_error" (defArgs s__law_error) (defBody s__law_error) (defScope s__law_error) .none kV__law_error dc__law_error pm__law_error an__law_error cd__law_error ct__law_error), sl__law_error⟩)
    (cc__law_error : PySem.W.codeIn K cd__law_error "_law_error" = true) (k__law_error : PySem.W.keepIn K (.ref f__law_error) = true)
    {f__law_tried : Addr} {od__law_tried an__law_tried : Option Addr} {sl__law_tried : Array (Option Value)} {oc__law_tried kV__law_tried dc__law_tried pm__law_tried cd__law_tried ct__law_tried : Value}
    (a__law_tried : PySem.W.nsIn K mainGlobals "_law_tried" = some (some (.ref f__law_tried)))
    (l__law_tried : K.lookup f__law_tried = some ⟨oc__law_tried, od__law_tried, .func (PySem.W.fnOf "_law_tried" "_law_tried" (defArgs s__law_tried) (defBody s__law_tried) (defScope s__law_tried) .none kV__law_tried dc__law_tried pm__law_tried an__law_tried cd__law_tried ct__law_tried), sl__law_tried⟩)
    (cc__law_tried : PySem.W.codeIn K cd__law_tried "_law_tried" = true) (k__law_tried : PySem.W.keepIn K (.ref f__law_tried) = true)
    {f__law_made : Addr} {od__law_made an__law_made : Option Addr} {sl__law_made : Array (Option Value)} {oc__law_made kV__law_made dc__law_made pm__law_made cd__law_made ct__law_made : Value}
    (a__law_made : PySem.W.nsIn K mainGlobals "_law_made" = some (some (.ref f__law_made)))
    (l__law_made : K.lookup f__law_made = some ⟨oc__law_made, od__law_made, .func (PySem.W.fnOf "_law_made" "_law_made" (defArgs s__law_made) (defBody s__law_made) (defScope s__law_made) .none kV__law_made dc__law_made pm__law_made an__law_made cd__law_made ct__law_made), sl__law_made⟩)
    (cc__law_made : PySem.W.codeIn K cd__law_made "_law_made" = true) (k__law_made : PySem.W.keepIn K (.ref f__law_made) = true)
    {f__law_shown : Addr} {od__law_shown an__law_shown : Option Addr} {sl__law_shown : Array (Option Value)} {oc__law_shown kV__law_shown dc__law_shown pm__law_shown cd__law_shown ct__law_shown : Value}
    (a__law_shown : PySem.W.nsIn K mainGlobals "_law_shown" = some (some (.ref f__law_shown)))
    (l__law_shown : K.lookup f__law_shown = some ⟨oc__law_shown, od__law_shown, .func (PySem.W.fnOf "_law_shown" "_law_shown" (defArgs s__law_shown) (defBody s__law_shown) (defScope s__law_shown) .none kV__law_shown dc__law_shown pm__law_shown an__law_shown cd__law_shown ct__law_shown), sl__law_shown⟩)
    (cc__law_shown : PySem.W.codeIn K cd__law_shown "_law_shown" = true) (k__law_shown : PySem.W.keepIn K (.ref f__law_shown) = true)
    {f__law_next_first : Addr} {od__law_next_first an__law_next_first : Option Addr} {sl__law_next_first : Array (Option Value)} {oc__law_next_first kV__law_next_first dc__law_next_first pm__law_next_first cd__law_next_first ct__law_next_first : Value}
    (a__law_next_first : PySem.W.nsIn K mainGlobals "_law_next_first" = some (some (.ref f__law_next_first)))
    (l__law_next_first : K.lookup f__law_next_first = some ⟨oc__law_next_first, od__law_next_first, .func (PySem.W.fnOf "_law_next_first" "_law_next_first" (defArgs s__law_next_first) (defBody s__law_next_first) (defScope s__law_next_first) .none kV__law_next_first dc__law_next_first pm__law_next_first an__law_next_first cd__law_next_first ct__law_next_first), sl__law_next_first⟩)
    (cc__law_next_first : PySem.W.codeIn K cd__law_next_first "_law_next_first" = true) (k__law_next_first : PySem.W.keepIn K (.ref f__law_next_first) = true)
    {f__law_done : Addr} {od__law_done an__law_done : Option Addr} {sl__law_done : Array (Option Value)} {oc__law_done kV__law_done dc__law_done pm__law_done cd__law_done ct__law_done : Value}
    (a__law_done : PySem.W.nsIn K mainGlobals "_law_done" = some (some (.ref f__law_done)))
    (l__law_done : K.lookup f__law_done = some ⟨oc__law_done, od__law_done, .func (PySem.W.fnOf "_law_done" "_law_done" (defArgs s__law_done) (defBody s__law_done) (defScope s__law_done) .none kV__law_done dc__law_done pm__law_done an__law_done cd__law_done ct__law_done), sl__law_done⟩)
    (cc__law_done : PySem.W.codeIn K cd__law_done "_law_done" = true) (k__law_done : PySem.W.keepIn K (.ref f__law_done) = true)
    {f__law_rings : Addr} {od__law_rings an__law_rings : Option Addr} {sl__law_rings : Array (Option Value)} {oc__law_rings kV__law_rings dc__law_rings pm__law_rings cd__law_rings ct__law_rings : Value}
    (a__law_rings : PySem.W.nsIn K mainGlobals "_law_rings" = some (some (.ref f__law_rings)))
    (l__law_rings : K.lookup f__law_rings = some ⟨oc__law_rings, od__law_rings, .func (PySem.W.fnOf "_law_rings" "_law_rings" (defArgs s__law_rings) (defBody s__law_rings) (defScope s__law_rings) .none kV__law_rings dc__law_rings pm__law_rings an__law_rings cd__law_rings ct__law_rings), sl__law_rings⟩)
    (cc__law_rings : PySem.W.codeIn K cd__law_rings "_law_rings" = true) (k__law_rings : PySem.W.keepIn K (.ref f__law_rings) = true)
    {f_law : Addr} {od_law an_law : Option Addr} {sl_law : Array (Option Value)} {oc_law kV_law dc_law pm_law cd_law ct_law : Value}
    (a_law : PySem.W.nsIn K mainGlobals "law" = some (some (.ref f_law)))
    (l_law : K.lookup f_law = some ⟨oc_law, od_law, .func (PySem.W.fnOf "law" "law" (defArgs s_law) (defBody s_law) (defScope s_law) .none kV_law dc_law pm_law an_law cd_law ct_law), sl_law⟩)
    (cc_law : PySem.W.codeIn K cd_law "law" = true) (k_law : PySem.W.keepIn K (.ref f_law) = true)
    (pg_Ring : PySem.W.plainGet K c_Ring Str.empty = true) (hd_Ring : PySem.W.hasDictIn K c_Ring = true) (po_Ring : PySem.W.plainOver K c_Ring = true) (sa_Ring : PySem.W.findIn K (.ref c_Ring) "__setattr__" = some (some (.builtin "object.__setattr__"))) (mk_Ring : PySem.W.makesIn K c_Ring = true) (kc_Ring : PySem.W.keepIn K (.ref c_Ring) = true)
    (n_Ring_gone : PySem.W.findIn K (.ref c_Ring) "_gone" = some none)
    (n_Ring_left : PySem.W.findIn K (.ref c_Ring) "_left" = some none)
    (n_Ring_step : PySem.W.findIn K (.ref c_Ring) "_step" = some none)
    {t_GREATEST : Tok} (a_GREATEST : PySem.W.nsIn K mainGlobals "GREATEST" = some (some (.int (1000000000000000000000000000000000000000000000000000000000000) t_GREATEST)))
    {t_MOST_HANDS : Tok} (a_MOST_HANDS : PySem.W.nsIn K mainGlobals "MOST_HANDS" = some (some (.int (200) t_MOST_HANDS)))
    (z_ValueError : PySem.W.nsIn K mainGlobals "ValueError" = some none)
    (z_all : PySem.W.nsIn K mainGlobals "all" = some none)
    (z_bool : PySem.W.nsIn K mainGlobals "bool" = some none)
    (z_int : PySem.W.nsIn K mainGlobals "int" = some none)
    (z_isinstance : PySem.W.nsIn K mainGlobals "isinstance" = some none)
    (z_len : PySem.W.nsIn K mainGlobals "len" = some none)
    (z_list : PySem.W.nsIn K mainGlobals "list" = some none)
    (z_min : PySem.W.nsIn K mainGlobals "min" = some none)
    (z_range : PySem.W.nsIn K mainGlobals "range" = some none)
    (z_set : PySem.W.nsIn K mainGlobals "set" = some none)
    (z_str : PySem.W.nsIn K mainGlobals "str" = some none)
    {c_CountError : Addr} (a_CountError : PySem.W.nsIn K mainGlobals "CountError" = some (some (.ref c_CountError))) (k_CountError : PySem.W.keepIn K (.ref c_CountError) = true) (x_CountError : PySem.W.excIn K c_CountError [.type "ValueError", .type "Exception", .type "BaseException", .type "object"] "ValueError.__new__" = true) (bb_CountError : PySem.W.subIn K (.ref c_CountError) (.type "BaseException") = some true) (t_CountError : PySem.W.typeIn K (.ref c_CountError) = some (.type "type"))
    {c_NoCount : Addr} (a_NoCount : PySem.W.nsIn K mainGlobals "NoCount" = some (some (.ref c_NoCount))) (k_NoCount : PySem.W.keepIn K (.ref c_NoCount) = true) (x_NoCount : PySem.W.excIn K c_NoCount [.type "ValueError", .type "Exception", .type "BaseException", .type "object"] "ValueError.__new__" = true) (bb_NoCount : PySem.W.subIn K (.ref c_NoCount) (.type "BaseException") = some true) (t_NoCount : PySem.W.typeIn K (.ref c_NoCount) = some (.type "type"))
    {c_NoHand : Addr} (a_NoHand : PySem.W.nsIn K mainGlobals "NoHand" = some (some (.ref c_NoHand))) (k_NoHand : PySem.W.keepIn K (.ref c_NoHand) = true) (x_NoHand : PySem.W.excIn K c_NoHand [.type "ValueError", .type "Exception", .type "BaseException", .type "object"] "ValueError.__new__" = true) (bb_NoHand : PySem.W.subIn K (.ref c_NoHand) (.type "BaseException") = some true) (t_NoHand : PySem.W.typeIn K (.ref c_NoHand) = some (.type "type"))
    {c_NoMany : Addr} (a_NoMany : PySem.W.nsIn K mainGlobals "NoMany" = some (some (.ref c_NoMany))) (k_NoMany : PySem.W.keepIn K (.ref c_NoMany) = true) (x_NoMany : PySem.W.excIn K c_NoMany [.type "ValueError", .type "Exception", .type "BaseException", .type "object"] "ValueError.__new__" = true) (bb_NoMany : PySem.W.subIn K (.ref c_NoMany) (.type "BaseException") = some true) (t_NoMany : PySem.W.typeIn K (.ref c_NoMany) = some (.type "type"))
    {c_NoPlace : Addr} (a_NoPlace : PySem.W.nsIn K mainGlobals "NoPlace" = some (some (.ref c_NoPlace))) (k_NoPlace : PySem.W.keepIn K (.ref c_NoPlace) = true) (x_NoPlace : PySem.W.excIn K c_NoPlace [.type "ValueError", .type "Exception", .type "BaseException", .type "object"] "ValueError.__new__" = true) (bb_NoPlace : PySem.W.subIn K (.ref c_NoPlace) (.type "BaseException") = some true) (t_NoPlace : PySem.W.typeIn K (.ref c_NoPlace) = some (.type "type"))
    {c_NoRing : Addr} (a_NoRing : PySem.W.nsIn K mainGlobals "NoRing" = some (some (.ref c_NoRing))) (k_NoRing : PySem.W.keepIn K (.ref c_NoRing) = true) (x_NoRing : PySem.W.excIn K c_NoRing [.type "ValueError", .type "Exception", .type "BaseException", .type "object"] "ValueError.__new__" = true) (bb_NoRing : PySem.W.subIn K (.ref c_NoRing) (.type "BaseException") = some true) (t_NoRing : PySem.W.typeIn K (.ref c_NoRing) = some (.type "type"))
    {c_NoStep : Addr} (a_NoStep : PySem.W.nsIn K mainGlobals "NoStep" = some (some (.ref c_NoStep))) (k_NoStep : PySem.W.keepIn K (.ref c_NoStep) = true) (x_NoStep : PySem.W.excIn K c_NoStep [.type "ValueError", .type "Exception", .type "BaseException", .type "object"] "ValueError.__new__" = true) (bb_NoStep : PySem.W.subIn K (.ref c_NoStep) (.type "BaseException") = some true) (t_NoStep : PySem.W.typeIn K (.ref c_NoStep) = some (.type "type"))
    {c_TooMany : Addr} (a_TooMany : PySem.W.nsIn K mainGlobals "TooMany" = some (some (.ref c_TooMany))) (k_TooMany : PySem.W.keepIn K (.ref c_TooMany) = true) (x_TooMany : PySem.W.excIn K c_TooMany [.type "ValueError", .type "Exception", .type "BaseException", .type "object"] "ValueError.__new__" = true) (bb_TooMany : PySem.W.subIn K (.ref c_TooMany) (.type "BaseException") = some true) (t_TooMany : PySem.W.typeIn K (.ref c_TooMany) = some (.type "type"))
    {c_TwiceTold : Addr} (a_TwiceTold : PySem.W.nsIn K mainGlobals "TwiceTold" = some (some (.ref c_TwiceTold))) (k_TwiceTold : PySem.W.keepIn K (.ref c_TwiceTold) = true) (x_TwiceTold : PySem.W.excIn K c_TwiceTold [.type "ValueError", .type "Exception", .type "BaseException", .type "object"] "ValueError.__new__" = true) (bb_TwiceTold : PySem.W.subIn K (.ref c_TwiceTold) (.type "BaseException") = some true) (t_TwiceTold : PySem.W.typeIn K (.ref c_TwiceTold) = some (.type "type"))
    (er_eg : ∀ k, PySem.W.findIn K (.ref ((⟨c_NoRing, c_NoMany, c_NoStep, c_NoPlace, c_NoCount, c_NoHand, c_TwiceTold, c_TooMany, c_CountError⟩ : Cs).on k)) "__getattribute__" = some (some (.builtin "BaseException.__getattribute__")))
    (er_ek : ∀ k, PySem.W.findIn K (.ref ((⟨c_NoRing, c_NoMany, c_NoStep, c_NoPlace, c_NoCount, c_NoHand, c_TwiceTold, c_TooMany, c_CountError⟩ : Cs).on k)) "__getattr__" = some none)
    (er_es : ∀ k, PySem.W.subIn K (.ref ((⟨c_NoRing, c_NoMany, c_NoStep, c_NoPlace, c_NoCount, c_NoHand, c_TwiceTold, c_TooMany, c_CountError⟩ : Cs).on k)) (.type "BaseException") = some true)
    (er_ed : ∀ k, PySem.W.hasDictIn K ((⟨c_NoRing, c_NoMany, c_NoStep, c_NoPlace, c_NoCount, c_NoHand, c_TwiceTold, c_TooMany, c_CountError⟩ : Cs).on k) = true)
    (er_ea : ∀ k, PySem.W.findIn K (.ref ((⟨c_NoRing, c_NoMany, c_NoStep, c_NoPlace, c_NoCount, c_NoHand, c_TwiceTold, c_TooMany, c_CountError⟩ : Cs).on k)) "__class__" = some (some (.builtin "object.__class__")))
    (er_en : PySem.W.specialIn K (.builtin "object.__class__") "__get__" = some (some (.builtin "getset_descriptor.__get__")))
    (er_et : PySem.W.takesIn K (.builtin "object.__class__") = some true)
    (er_em : ∀ k, PySem.W.mroIn K ((⟨c_NoRing, c_NoMany, c_NoStep, c_NoPlace, c_NoCount, c_NoHand, c_TwiceTold, c_TooMany, c_CountError⟩ : Cs).on k) (.type "object") = some true)
    (er_ey : ∀ k, PySem.W.typeIn K (.ref ((⟨c_NoRing, c_NoMany, c_NoStep, c_NoPlace, c_NoCount, c_NoHand, c_TwiceTold, c_TooMany, c_CountError⟩ : Cs).on k)) = some (.type "type"))
    (er_ei : ∀ k, PySem.W.isClsIn K ((⟨c_NoRing, c_NoMany, c_NoStep, c_NoPlace, c_NoCount, c_NoHand, c_TwiceTold, c_TooMany, c_CountError⟩ : Cs).on k) = true)
    (er_eu : ∀ k j, PySem.W.subIn K (.ref ((⟨c_NoRing, c_NoMany, c_NoStep, c_NoPlace, c_NoCount, c_NoHand, c_TwiceTold, c_TooMany, c_CountError⟩ : Cs).on k)) (.ref ((⟨c_NoRing, c_NoMany, c_NoStep, c_NoPlace, c_NoCount, c_NoHand, c_TwiceTold, c_TooMany, c_CountError⟩ : Cs).on j)) = some (decide (k = j)))
    (er_ev : ∀ k, PySem.W.subIn K (.ref ((⟨c_NoRing, c_NoMany, c_NoStep, c_NoPlace, c_NoCount, c_NoHand, c_TwiceTold, c_TooMany, c_CountError⟩ : Cs).on k)) (.type "ValueError") = some true)
    (er_e1 : PySem.W.subIn K (.ref c_CountError) (.type "BaseException") = some true)
    (er_e2 : PySem.W.hasDictIn K c_CountError = true)
    (er_e3 : PySem.W.typeIn K (.ref c_CountError) = some (.type "type"))
    (er_e4 : ∀ k, PySem.W.subIn K (.ref ((⟨c_NoRing, c_NoMany, c_NoStep, c_NoPlace, c_NoCount, c_NoHand, c_TwiceTold, c_TooMany, c_CountError⟩ : Cs).on k)) (.ref c_CountError) = some true)
    : ∃ fd : FuncData, (∀ (s : Shared) (v : Value), BindsTo s fd ⟨[v], []⟩ [("_law_script", v)]) ∧ ∀ base : Heap, K.In base → base.Ns mainGlobals mg → FnOk l.prog w K mg base CX0 7 fa fd ["_law_script"] (sLaw K) := by
  have e := hfa.symm.trans (PySem.W.mg_of X G a_law)
  cases e
  have T : Txt K mg ⟨f_is_whole, f_check_step, f_check_place, f_check_count, f_is_ring, f_check_laid, f_goes_next, f_Ring___init__, f_Ring_left, f_Ring_gone, f_Ring_count, f_Ring_counts, f_Ring__go_on, f__law_cell_at, f__law_next, f__law_state, f__law_of, f__law_far, f__law_hands, f__law_turned, f__law_out, f__law_step, f__law_error, f__law_tried, f__law_made, f__law_shown, f__law_next_first, f__law_done, f__law_rings, fa, c_CountError, c_NoCount, c_NoHand, c_NoMany, c_NoPlace, c_NoRing, c_NoStep, c_TooMany, c_TwiceTold, c_Ring⟩ := {
    b_ValueError := PySem.W.mg_none_of X G z_ValueError
    b_all := PySem.W.mg_none_of X G z_all
    b_bool := PySem.W.mg_none_of X G z_bool
    b_int := PySem.W.mg_none_of X G z_int
    b_isinstance := PySem.W.mg_none_of X G z_isinstance
    b_len := PySem.W.mg_none_of X G z_len
    b_list := PySem.W.mg_none_of X G z_list
    b_min := PySem.W.mg_none_of X G z_min
    b_range := PySem.W.mg_none_of X G z_range
    b_set := PySem.W.mg_none_of X G z_set
    b_str := PySem.W.mg_none_of X G z_str
    c_GREATEST := ⟨_, PySem.W.mg_of X G a_GREATEST⟩
    c_MOST_HANDS := ⟨_, PySem.W.mg_of X G a_MOST_HANDS⟩
    g_is_whole := PySem.W.mg_of X G a_is_whole
    k_is_whole := k_is_whole
    g_check_step := PySem.W.mg_of X G a_check_step
    k_check_step := k_check_step
    g_check_place := PySem.W.mg_of X G a_check_place
    k_check_place := k_check_place
    g_check_count := PySem.W.mg_of X G a_check_count
    k_check_count := k_check_count
    g_is_ring := PySem.W.mg_of X G a_is_ring
    k_is_ring := k_is_ring
    g_check_laid := PySem.W.mg_of X G a_check_laid
    k_check_laid := k_check_laid
    g_goes_next := PySem.W.mg_of X G a_goes_next
    k_goes_next := k_goes_next
    g__law_cell_at := PySem.W.mg_of X G a__law_cell_at
    k__law_cell_at := k__law_cell_at
    g__law_next := PySem.W.mg_of X G a__law_next
    k__law_next := k__law_next
    g__law_state := PySem.W.mg_of X G a__law_state
    k__law_state := k__law_state
    g__law_of := PySem.W.mg_of X G a__law_of
    k__law_of := k__law_of
    g__law_far := PySem.W.mg_of X G a__law_far
    k__law_far := k__law_far
    g__law_hands := PySem.W.mg_of X G a__law_hands
    k__law_hands := k__law_hands
    g__law_turned := PySem.W.mg_of X G a__law_turned
    k__law_turned := k__law_turned
    g__law_out := PySem.W.mg_of X G a__law_out
    k__law_out := k__law_out
    g__law_step := PySem.W.mg_of X G a__law_step
    k__law_step := k__law_step
    g__law_error := PySem.W.mg_of X G a__law_error
    k__law_error := k__law_error
    g__law_tried := PySem.W.mg_of X G a__law_tried
    k__law_tried := k__law_tried
    g__law_made := PySem.W.mg_of X G a__law_made
    k__law_made := k__law_made
    g__law_shown := PySem.W.mg_of X G a__law_shown
    k__law_shown := k__law_shown
    g__law_next_first := PySem.W.mg_of X G a__law_next_first
    k__law_next_first := k__law_next_first
    g__law_done := PySem.W.mg_of X G a__law_done
    k__law_done := k__law_done
    g__law_rings := PySem.W.mg_of X G a__law_rings
    k__law_rings := k__law_rings
    g_law := PySem.W.mg_of X G a_law
    k_law := k_law
    g_Ring := PySem.W.mg_of X G a_Ring
    cls_Ring := ⟨pg_Ring, hd_Ring, po_Ring, sa_Ring⟩
    mk_Ring := ⟨mk_Ring, a_Ring___init__, i_Ring___init__, kc_Ring⟩
    rf_Ring := ⟨⟨pg_Ring, hd_Ring, po_Ring, sa_Ring⟩, n_Ring_left, n_Ring_gone, n_Ring_step⟩
    me_Ring_left := ⟨a_Ring_left, i_Ring_left, k_Ring_left⟩
    me_Ring_gone := ⟨a_Ring_gone, i_Ring_gone, k_Ring_gone⟩
    me_Ring_count := ⟨a_Ring_count, i_Ring_count, k_Ring_count⟩
    me_Ring_counts := ⟨a_Ring_counts, i_Ring_counts, k_Ring_counts⟩
    me_Ring__go_on := ⟨a_Ring__go_on, i_Ring__go_on, k_Ring__go_on⟩
    g_CountError := PySem.W.mg_of X G a_CountError
    k_CountError := k_CountError
    x_CountError := x_CountError
    bb_CountError := bb_CountError
    t_CountError := t_CountError
    g_NoCount := PySem.W.mg_of X G a_NoCount
    k_NoCount := k_NoCount
    x_NoCount := x_NoCount
    bb_NoCount := bb_NoCount
    t_NoCount := t_NoCount
    g_NoHand := PySem.W.mg_of X G a_NoHand
    k_NoHand := k_NoHand
    x_NoHand := x_NoHand
    bb_NoHand := bb_NoHand
    t_NoHand := t_NoHand
    g_NoMany := PySem.W.mg_of X G a_NoMany
    k_NoMany := k_NoMany
    x_NoMany := x_NoMany
    bb_NoMany := bb_NoMany
    t_NoMany := t_NoMany
    g_NoPlace := PySem.W.mg_of X G a_NoPlace
    k_NoPlace := k_NoPlace
    x_NoPlace := x_NoPlace
    bb_NoPlace := bb_NoPlace
    t_NoPlace := t_NoPlace
    g_NoRing := PySem.W.mg_of X G a_NoRing
    k_NoRing := k_NoRing
    x_NoRing := x_NoRing
    bb_NoRing := bb_NoRing
    t_NoRing := t_NoRing
    g_NoStep := PySem.W.mg_of X G a_NoStep
    k_NoStep := k_NoStep
    x_NoStep := x_NoStep
    bb_NoStep := bb_NoStep
    t_NoStep := t_NoStep
    g_TooMany := PySem.W.mg_of X G a_TooMany
    k_TooMany := k_TooMany
    x_TooMany := x_TooMany
    bb_TooMany := bb_TooMany
    t_TooMany := t_TooMany
    g_TwiceTold := PySem.W.mg_of X G a_TwiceTold
    k_TwiceTold := k_TwiceTold
    x_TwiceTold := x_TwiceTold
    bb_TwiceTold := bb_TwiceTold
    t_TwiceTold := t_TwiceTold
    err := errF_mk er_eg er_ek er_es er_ed er_ea er_en er_et er_em er_ey er_ei er_eu er_ev er_e1 er_e2 er_e3 er_e4 }
  have F : Funs K ⟨f_is_whole, f_check_step, f_check_place, f_check_count, f_is_ring, f_check_laid, f_goes_next, f_Ring___init__, f_Ring_left, f_Ring_gone, f_Ring_count, f_Ring_counts, f_Ring__go_on, f__law_cell_at, f__law_next, f__law_state, f__law_of, f__law_far, f__law_hands, f__law_turned, f__law_out, f__law_step, f__law_error, f__law_tried, f__law_made, f__law_shown, f__law_next_first, f__law_done, f__law_rings, fa, c_CountError, c_NoCount, c_NoHand, c_NoMany, c_NoPlace, c_NoRing, c_NoStep, c_TooMany, c_TwiceTold, c_Ring⟩ ⟨PySem.W.fnOf "is_whole" "is_whole" (defArgs s_is_whole) (defBody s_is_whole) (defScope s_is_whole) .none kV_is_whole dc_is_whole pm_is_whole an_is_whole cd_is_whole ct_is_whole,
    PySem.W.fnOf "check_step" "check_step" (defArgs s_check_step) (defBody s_check_step) (defScope s_check_step) .none kV_check_step dc_check_step pm_check_step an_check_step cd_check_step ct_check_step,
    PySem.W.fnOf "check_place" "check_place" (defArgs s_check_place) (defBody s_check_place) (defScope s_check_place) .none kV_check_place dc_check_place pm_check_place an_check_place cd_check_place ct_check_place,
    PySem.W.fnOf "check_count" "check_count" (defArgs s_check_count) (defBody s_check_count) (defScope s_check_count) .none kV_check_count dc_check_count pm_check_count an_check_count cd_check_count ct_check_count,
    PySem.W.fnOf "is_ring" "is_ring" (defArgs s_is_ring) (defBody s_is_ring) (defScope s_is_ring) .none kV_is_ring dc_is_ring pm_is_ring an_is_ring cd_is_ring ct_is_ring,
    PySem.W.fnOf "check_laid" "check_laid" (defArgs s_check_laid) (defBody s_check_laid) (defScope s_check_laid) .none kV_check_laid dc_check_laid pm_check_laid an_check_laid cd_check_laid ct_check_laid,
    PySem.W.fnOf "goes_next" "goes_next" (defArgs s_goes_next) (defBody s_goes_next) (defScope s_goes_next) .none kV_goes_next dc_goes_next pm_goes_next an_goes_next cd_goes_next ct_goes_next,
    PySem.W.fnOf "__init__" "Ring.__init__" (defArgs s_Ring___init__) (defBody s_Ring___init__) (defScope s_Ring___init__) (.ref dT_Ring___init__) kV_Ring___init__ dc_Ring___init__ pm_Ring___init__ an_Ring___init__ cd_Ring___init__ ct_Ring___init__,
    PySem.W.fnOf "left" "Ring.left" (defArgs s_Ring_left) (defBody s_Ring_left) (defScope s_Ring_left) .none kV_Ring_left dc_Ring_left pm_Ring_left an_Ring_left cd_Ring_left ct_Ring_left,
    PySem.W.fnOf "gone" "Ring.gone" (defArgs s_Ring_gone) (defBody s_Ring_gone) (defScope s_Ring_gone) .none kV_Ring_gone dc_Ring_gone pm_Ring_gone an_Ring_gone cd_Ring_gone ct_Ring_gone,
    PySem.W.fnOf "count" "Ring.count" (defArgs s_Ring_count) (defBody s_Ring_count) (defScope s_Ring_count) .none kV_Ring_count dc_Ring_count pm_Ring_count an_Ring_count cd_Ring_count ct_Ring_count,
    PySem.W.fnOf "counts" "Ring.counts" (defArgs s_Ring_counts) (defBody s_Ring_counts) (defScope s_Ring_counts) .none kV_Ring_counts dc_Ring_counts pm_Ring_counts an_Ring_counts cd_Ring_counts ct_Ring_counts,
    PySem.W.fnOf "_go_on" "Ring._go_on" (defArgs s_Ring__go_on) (defBody s_Ring__go_on) (defScope s_Ring__go_on) .none kV_Ring__go_on dc_Ring__go_on pm_Ring__go_on an_Ring__go_on cd_Ring__go_on ct_Ring__go_on,
    PySem.W.fnOf "_law_cell_at" "_law_cell_at" (defArgs s__law_cell_at) (defBody s__law_cell_at) (defScope s__law_cell_at) .none kV__law_cell_at dc__law_cell_at pm__law_cell_at an__law_cell_at cd__law_cell_at ct__law_cell_at,
    PySem.W.fnOf "_law_next" "_law_next" (defArgs s__law_next) (defBody s__law_next) (defScope s__law_next) .none kV__law_next dc__law_next pm__law_next an__law_next cd__law_next ct__law_next,
    PySem.W.fnOf "_law_state" "_law_state" (defArgs s__law_state) (defBody s__law_state) (defScope s__law_state) .none kV__law_state dc__law_state pm__law_state an__law_state cd__law_state ct__law_state,
    PySem.W.fnOf "_law_of" "_law_of" (defArgs s__law_of) (defBody s__law_of) (defScope s__law_of) .none kV__law_of dc__law_of pm__law_of an__law_of cd__law_of ct__law_of,
    PySem.W.fnOf "_law_far" "_law_far" (defArgs s__law_far) (defBody s__law_far) (defScope s__law_far) .none kV__law_far dc__law_far pm__law_far an__law_far cd__law_far ct__law_far,
    PySem.W.fnOf "_law_hands" "_law_hands" (defArgs s__law_hands) (defBody s__law_hands) (defScope s__law_hands) .none kV__law_hands dc__law_hands pm__law_hands an__law_hands cd__law_hands ct__law_hands,
    PySem.W.fnOf "_law_turned" "_law_turned" (defArgs s__law_turned) (defBody s__law_turned) (defScope s__law_turned) .none kV__law_turned dc__law_turned pm__law_turned an__law_turned cd__law_turned ct__law_turned,
    PySem.W.fnOf "_law_out" "_law_out" (defArgs s__law_out) (defBody s__law_out) (defScope s__law_out) .none kV__law_out dc__law_out pm__law_out an__law_out cd__law_out ct__law_out,
    PySem.W.fnOf "_law_step" "_law_step" (defArgs s__law_step) (defBody s__law_step) (defScope s__law_step) .none kV__law_step dc__law_step pm__law_step an__law_step cd__law_step ct__law_step,
    PySem.W.fnOf "_law_error" "_law_error" (defArgs s__law_error) (defBody s__law_error) (defScope s__law_error) .none kV__law_error dc__law_error pm__law_error an__law_error cd__law_error ct__law_error,
    PySem.W.fnOf "_law_tried" "_law_tried" (defArgs s__law_tried) (defBody s__law_tried) (defScope s__law_tried) .none kV__law_tried dc__law_tried pm__law_tried an__law_tried cd__law_tried ct__law_tried,
    PySem.W.fnOf "_law_made" "_law_made" (defArgs s__law_made) (defBody s__law_made) (defScope s__law_made) .none kV__law_made dc__law_made pm__law_made an__law_made cd__law_made ct__law_made,
    PySem.W.fnOf "_law_shown" "_law_shown" (defArgs s__law_shown) (defBody s__law_shown) (defScope s__law_shown) .none kV__law_shown dc__law_shown pm__law_shown an__law_shown cd__law_shown ct__law_shown,
    PySem.W.fnOf "_law_next_first" "_law_next_first" (defArgs s__law_next_first) (defBody s__law_next_first) (defScope s__law_next_first) .none kV__law_next_first dc__law_next_first pm__law_next_first an__law_next_first cd__law_next_first ct__law_next_first,
    PySem.W.fnOf "_law_done" "_law_done" (defArgs s__law_done) (defBody s__law_done) (defScope s__law_done) .none kV__law_done dc__law_done pm__law_done an__law_done cd__law_done ct__law_done,
    PySem.W.fnOf "_law_rings" "_law_rings" (defArgs s__law_rings) (defBody s__law_rings) (defScope s__law_rings) .none kV__law_rings dc__law_rings pm__law_rings an__law_rings cd__law_rings ct__law_rings,
    PySem.W.fnOf "law" "law" (defArgs s_law) (defBody s_law) (defScope s_law) .none kV_law dc_law pm_law an_law cd_law ct_law⟩ := {
    f_is_whole := fun_mk (st := s_is_whole) l_is_whole cc_is_whole k_is_whole
    f_check_step := fun_mk (st := s_check_step) l_check_step cc_check_step k_check_step
    f_check_place := fun_mk (st := s_check_place) l_check_place cc_check_place k_check_place
    f_check_count := fun_mk (st := s_check_count) l_check_count cc_check_count k_check_count
    f_is_ring := fun_mk (st := s_is_ring) l_is_ring cc_is_ring k_is_ring
    f_check_laid := fun_mk (st := s_check_laid) l_check_laid cc_check_laid k_check_laid
    f_goes_next := fun_mk (st := s_goes_next) l_goes_next cc_goes_next k_goes_next
    f_Ring___init__ := ⟨⟨_, _, _, _, _, _, _, _, _, _, rfl, l_Ring___init__, cc_Ring___init__, .inr ⟨by simp, _, _, _, _, rfl, dt_Ring___init__, dd_Ring___init__, dv_Ring___init__⟩, .inl rfl⟩, k_Ring___init__⟩
    f_Ring_left := fun_mk (st := s_Ring_left) l_Ring_left cc_Ring_left k_Ring_left
    f_Ring_gone := fun_mk (st := s_Ring_gone) l_Ring_gone cc_Ring_gone k_Ring_gone
    f_Ring_count := fun_mk (st := s_Ring_count) l_Ring_count cc_Ring_count k_Ring_count
    f_Ring_counts := fun_mk (st := s_Ring_counts) l_Ring_counts cc_Ring_counts k_Ring_counts
    f_Ring__go_on := fun_mk (st := s_Ring__go_on) l_Ring__go_on cc_Ring__go_on k_Ring__go_on
    f__law_cell_at := fun_mk (st := s__law_cell_at) l__law_cell_at cc__law_cell_at k__law_cell_at
    f__law_next := fun_mk (st := s__law_next) l__law_next cc__law_next k__law_next
    f__law_state := fun_mk (st := s__law_state) l__law_state cc__law_state k__law_state
    f__law_of := fun_mk (st := s__law_of) l__law_of cc__law_of k__law_of
    f__law_far := fun_mk (st := s__law_far) l__law_far cc__law_far k__law_far
    f__law_hands := fun_mk (st := s__law_hands) l__law_hands cc__law_hands k__law_hands
    f__law_turned := fun_mk (st := s__law_turned) l__law_turned cc__law_turned k__law_turned
    f__law_out := fun_mk (st := s__law_out) l__law_out cc__law_out k__law_out
    f__law_step := fun_mk (st := s__law_step) l__law_step cc__law_step k__law_step
    f__law_error := fun_mk (st := s__law_error) l__law_error cc__law_error k__law_error
    f__law_tried := fun_mk (st := s__law_tried) l__law_tried cc__law_tried k__law_tried
    f__law_made := fun_mk (st := s__law_made) l__law_made cc__law_made k__law_made
    f__law_shown := fun_mk (st := s__law_shown) l__law_shown cc__law_shown k__law_shown
    f__law_next_first := fun_mk (st := s__law_next_first) l__law_next_first cc__law_next_first k__law_next_first
    f__law_done := fun_mk (st := s__law_done) l__law_done cc__law_done k__law_done
    f__law_rings := fun_mk (st := s__law_rings) l__law_rings cc__law_rings k__law_rings
    f_law := fun_mk (st := s_law) l_law cc_law k_law }
  exact ⟨PySem.W.fnOf "law" "law" (defArgs s_law) (defBody s_law) (defScope s_law) .none kV_law dc_law pm_law an_law cd_law ct_law, fun s v => .of_eq rfl, fun base _ _ => ok_law F T⟩
end R08
open PySem PySem.W PyProof.Rows
set_option maxHeartbeats 0 in
theorem PySem.Challenge.cw_countout_k08_rings_counted_holds : PySem.Challenge.rw_countout_k08_rings_counted.Holds := by
  w_on; o_law; k_head; (case hw => w_witness2)
  k_fill
  refine L2.walk_of (l := PySem.Challenge.rw_countout_k08_rings_counted) (n := 63) (k := 7) (x := "_law_script") (CX := fun _ => L2.CX0) (sp := fun w => Cd.K08.sLaw _) rfl (by decide) rfl ⟨rfl, by decide, by decide⟩ (fun w h Y => PySem.W.kIn_of Y) ?F (fun _ _ a ns hl _ hS => ⟨a, ns, rfl, hS, fun _ => rfl⟩) (fun _ _ _ _ _ h => h)
  case F =>
    intro w mg fa h KX G hmg
    refine' R08.all_mk KX G hmg ?a_Ring ?a_is_whole ?l_is_whole ?cc_is_whole ?k_is_whole ?a_check_step ?l_check_step ?cc_check_step ?k_check_step ?a_check_place ?l_check_place ?cc_check_place ?k_check_place ?a_check_count ?l_check_count ?cc_check_count ?k_check_count ?a_is_ring ?l_is_ring ?cc_is_ring ?k_is_ring ?a_check_laid ?l_check_laid ?cc_check_laid ?k_check_laid ?a_goes_next ?l_goes_next ?cc_goes_next ?k_goes_next ?a_Ring___init__ ?i_Ring___init__ ?l_Ring___init__ ?dt_Ring___init__ ?dd_Ring___init__ ?dv_Ring___init__ ?cc_Ring___init__ ?k_Ring___init__ ?a_Ring_left ?i_Ring_left ?l_Ring_left ?cc_Ring_left ?k_Ring_left ?a_Ring_gone ?i_Ring_gone ?l_Ring_gone ?cc_Ring_gone ?k_Ring_gone ?a_Ring_count ?i_Ring_count ?l_Ring_count ?cc_Ring_count ?k_Ring_count ?a_Ring_counts ?i_Ring_counts ?l_Ring_counts ?cc_Ring_counts ?k_Ring_counts ?a_Ring__go_on ?i_Ring__go_on ?l_Ring__go_on ?cc_Ring__go_on ?k_Ring__go_on ?a__law_cell_at ?l__law_cell_at ?cc__law_cell_at ?k__law_cell_at ?a__law_next ?l__law_next ?cc__law_next ?k__law_next ?a__law_state ?l__law_state ?cc__law_state ?k__law_state ?a__law_of ?l__law_of ?cc__law_of ?k__law_of ?a__law_far ?l__law_far ?cc__law_far ?k__law_far ?a__law_hands ?l__law_hands ?cc__law_hands ?k__law_hands ?a__law_turned ?l__law_turned ?cc__law_turned ?k__law_turned ?a__law_out ?l__law_out ?cc__law_out ?k__law_out ?a__law_step ?l__law_step ?cc__law_step ?k__law_step ?a__law_error ?l__law_error ?cc__law_error ?k__law_error ?a__law_tried ?l__law_tried ?cc__law_tried ?k__law_tried ?a__law_made ?l__law_made ?cc__law_made ?k__law_made ?a__law_shown ?l__law_shown ?cc__law_shown ?k__law_shown ?a__law_next_first ?l__law_next_first ?cc__law_next_first ?k__law_next_first ?a__law_done ?l__law_done ?cc__law_done ?k__law_done ?a__law_rings ?l__law_rings ?cc__law_rings ?k__law_rings ?a_law ?l_law ?cc_law ?k_law ?pg_Ring ?hd_Ring ?po_Ring ?sa_Ring ?mk_Ring ?kc_Ring ?n_Ring_gone ?n_Ring_left ?n_Ring_step ?a_GREATEST ?a_MOST_HANDS ?z_ValueError ?z_all ?z_bool ?z_int ?z_isinstance ?z_len ?z_list ?z_min ?z_range ?z_set ?z_str ?a_CountError ?k_CountError ?x_CountError ?bb_CountError ?t_CountError ?a_NoCount ?k_NoCount ?x_NoCount ?bb_NoCount ?t_NoCount ?a_NoHand ?k_NoHand ?x_NoHand ?bb_NoHand ?t_NoHand ?a_NoMany ?k_NoMany ?x_NoMany ?bb_NoMany ?t_NoMany ?a_NoPlace ?k_NoPlace ?x_NoPlace ?bb_NoPlace ?t_NoPlace ?a_NoRing ?k_NoRing ?x_NoRing ?bb_NoRing ?t_NoRing ?a_NoStep ?k_NoStep ?x_NoStep ?bb_NoStep ?t_NoStep ?a_TooMany ?k_TooMany ?x_TooMany ?bb_TooMany ?t_TooMany ?a_TwiceTold ?k_TwiceTold ?x_TwiceTold ?bb_TwiceTold ?t_TwiceTold ?er_eg ?er_ek ?er_es ?er_ed ?er_ea ?er_en ?er_et ?er_em ?er_ey ?er_ei ?er_eu ?er_ev ?er_e1 ?er_e2 ?er_e3 ?er_e4
    (case a_Ring => k_is)
    (case a_is_whole => k_is)
    (case l_is_whole => k_is)
    (case cc_is_whole => k_is)
    (case k_is_whole => k_is)
    (case a_check_step => k_is)
    (case l_check_step => k_is)
    (case cc_check_step => k_is)
    (case k_check_step => k_is)
    (case a_check_place => k_is)
    (case l_check_place => k_is)
    (case cc_check_place => k_is)
    (case k_check_place => k_is)
    (case a_check_count => k_is)
    (case l_check_count => k_is)
    (case cc_check_count => k_is)
    (case k_check_count => k_is)
    (case a_is_ring => k_is)
    (case l_is_ring => k_is)
    (case cc_is_ring => k_is)
    (case k_is_ring => k_is)
    (case a_check_laid => k_is)
    (case l_check_laid => k_is)
    (case cc_check_laid => k_is)
    (case k_check_laid => k_is)
    (case a_goes_next => k_is)
    (case l_goes_next => k_is)
    (case cc_goes_next => k_is)
    (case k_goes_next => k_is)
    (case a_Ring___init__ => k_is)
    (case i_Ring___init__ => k_is)
    (case l_Ring___init__ => k_is)
    (case dt_Ring___init__ => k_is)
    (case dd_Ring___init__ => rfl)
    (case dv_Ring___init__ => exact .cons ⟨_, rfl⟩ .nil)
    (case cc_Ring___init__ => k_is)
    (case k_Ring___init__ => k_is)
    (case a_Ring_left => k_is)
    (case i_Ring_left => k_is)
    (case l_Ring_left => k_is)
    (case cc_Ring_left => k_is)
    (case k_Ring_left => k_is)
    (case a_Ring_gone => k_is)
    (case i_Ring_gone => k_is)
    (case l_Ring_gone => k_is)
    (case cc_Ring_gone => k_is)
    (case k_Ring_gone => k_is)
    (case a_Ring_count => k_is)
    (case i_Ring_count => k_is)
    (case l_Ring_count => k_is)
    (case cc_Ring_count => k_is)
    (case k_Ring_count => k_is)
    (case a_Ring_counts => k_is)
    (case i_Ring_counts => k_is)
    (case l_Ring_counts => k_is)
    (case cc_Ring_counts => k_is)
    (case k_Ring_counts => k_is)
    (case a_Ring__go_on => k_is)
    (case i_Ring__go_on => k_is)
    (case l_Ring__go_on => k_is)
    (case cc_Ring__go_on => k_is)
    (case k_Ring__go_on => k_is)
    (case a__law_cell_at => k_is)
    (case l__law_cell_at => k_is)
    (case cc__law_cell_at => k_is)
    (case k__law_cell_at => k_is)
    (case a__law_next => k_is)
    (case l__law_next => k_is)
    (case cc__law_next => k_is)
    (case k__law_next => k_is)
    (case a__law_state => k_is)
    (case l__law_state => k_is)
    (case cc__law_state => k_is)
    (case k__law_state => k_is)
    (case a__law_of => k_is)
    (case l__law_of => k_is)
    (case cc__law_of => k_is)
    (case k__law_of => k_is)
    (case a__law_far => k_is)
    (case l__law_far => k_is)
    (case cc__law_far => k_is)
    (case k__law_far => k_is)
    (case a__law_hands => k_is)
    (case l__law_hands => k_is)
    (case cc__law_hands => k_is)
    (case k__law_hands => k_is)
    (case a__law_turned => k_is)
    (case l__law_turned => k_is)
    (case cc__law_turned => k_is)
    (case k__law_turned => k_is)
    (case a__law_out => k_is)
    (case l__law_out => k_is)
    (case cc__law_out => k_is)
    (case k__law_out => k_is)
    (case a__law_step => k_is)
    (case l__law_step => k_is)
    (case cc__law_step => k_is)
    (case k__law_step => k_is)
    (case a__law_error => k_is)
    (case l__law_error => k_is)
    (case cc__law_error => k_is)
    (case k__law_error => k_is)
    (case a__law_tried => k_is)
    (case l__law_tried => k_is)
    (case cc__law_tried => k_is)
    (case k__law_tried => k_is)
    (case a__law_made => k_is)
    (case l__law_made => k_is)
    (case cc__law_made => k_is)
    (case k__law_made => k_is)
    (case a__law_shown => k_is)
    (case l__law_shown => k_is)
    (case cc__law_shown => k_is)
    (case k__law_shown => k_is)
    (case a__law_next_first => k_is)
    (case l__law_next_first => k_is)
    (case cc__law_next_first => k_is)
    (case k__law_next_first => k_is)
    (case a__law_done => k_is)
    (case l__law_done => k_is)
    (case cc__law_done => k_is)
    (case k__law_done => k_is)
    (case a__law_rings => k_is)
    (case l__law_rings => k_is)
    (case cc__law_rings => k_is)
    (case k__law_rings => k_is)
    (case a_law => k_is)
    (case l_law => k_is)
    (case cc_law => k_is)
    (case k_law => k_is)
    (case pg_Ring => k_is)
    (case hd_Ring => k_is)
    (case po_Ring => k_is)
    (case sa_Ring => k_is)
    (case mk_Ring => k_is)
    (case kc_Ring => k_is)
    (case n_Ring_gone => k_is)
    (case n_Ring_left => k_is)
    (case n_Ring_step => k_is)
    (case a_GREATEST => k_is)
    (case a_MOST_HANDS => k_is)
    (case z_ValueError => k_is)
    (case z_all => k_is)
    (case z_bool => k_is)
    (case z_int => k_is)
    (case z_isinstance => k_is)
    (case z_len => k_is)
    (case z_list => k_is)
    (case z_min => k_is)
    (case z_range => k_is)
    (case z_set => k_is)
    (case z_str => k_is)
    (case a_CountError => k_is)
    (case k_CountError => k_is)
    (case x_CountError => k_exc)
    (case bb_CountError => k_is)
    (case t_CountError => k_is)
    (case a_NoCount => k_is)
    (case k_NoCount => k_is)
    (case x_NoCount => k_exc)
    (case bb_NoCount => k_is)
    (case t_NoCount => k_is)
    (case a_NoHand => k_is)
    (case k_NoHand => k_is)
    (case x_NoHand => k_exc)
    (case bb_NoHand => k_is)
    (case t_NoHand => k_is)
    (case a_NoMany => k_is)
    (case k_NoMany => k_is)
    (case x_NoMany => k_exc)
    (case bb_NoMany => k_is)
    (case t_NoMany => k_is)
    (case a_NoPlace => k_is)
    (case k_NoPlace => k_is)
    (case x_NoPlace => k_exc)
    (case bb_NoPlace => k_is)
    (case t_NoPlace => k_is)
    (case a_NoRing => k_is)
    (case k_NoRing => k_is)
    (case x_NoRing => k_exc)
    (case bb_NoRing => k_is)
    (case t_NoRing => k_is)
    (case a_NoStep => k_is)
    (case k_NoStep => k_is)
    (case x_NoStep => k_exc)
    (case bb_NoStep => k_is)
    (case t_NoStep => k_is)
    (case a_TooMany => k_is)
    (case k_TooMany => k_is)
    (case x_TooMany => k_exc)
    (case bb_TooMany => k_is)
    (case t_TooMany => k_is)
    (case a_TwiceTold => k_is)
    (case k_TwiceTold => k_is)
    (case x_TwiceTold => k_exc)
    (case bb_TwiceTold => k_is)
    (case t_TwiceTold => k_is)
    (case er_eg => intro k; cases k <;> (dsimp only [Cd.Cs.on]; k_is))
    (case er_ek => intro k; cases k <;> (dsimp only [Cd.Cs.on]; k_is))
    (case er_es => intro k; cases k <;> (dsimp only [Cd.Cs.on]; k_is))
    (case er_ed => intro k; cases k <;> (dsimp only [Cd.Cs.on]; k_is))
    (case er_ea => intro k; cases k <;> (dsimp only [Cd.Cs.on]; k_is))
    (case er_en => k_is)
    (case er_et => k_is)
    (case er_em => intro k; cases k <;> (dsimp only [Cd.Cs.on]; k_is))
    (case er_ey => intro k; cases k <;> (dsimp only [Cd.Cs.on]; k_is))
    (case er_ei => intro k; cases k <;> (dsimp only [Cd.Cs.on]; k_is))
    (case er_eu => intro k j; cases k <;> cases j <;> (dsimp only [Cd.Cs.on]; k_is))
    (case er_ev => intro k; cases k <;> (dsimp only [Cd.Cs.on]; k_is))
    (case er_e1 => k_is)
    (case er_e2 => k_is)
    (case er_e3 => k_is)
    (case er_e4 => intro k; cases k <;> (dsimp only [Cd.Cs.on]; k_is))
