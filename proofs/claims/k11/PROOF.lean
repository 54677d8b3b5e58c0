import PyProof.Rows.All
import Wide.All
import OpenK.AllK
import Wide.FinOn
import HandS.ForMost
import HandS.Conv
import HandS.IsInst
import HandS.Defaults
import HandS.Wide
import HandS.More
import HandS.ForExc
import HandS.Evl
import HandS.Strs
import HandS.ExcIs
import KE.KRevSl
import HandS.Style
import HandS.CallSlots
import PySem.Challenge.RW_countout_k11_whole_ring_hand_by_hand
namespace Jos
/-! ## rings -/
variable {α β : Type}
/-- turned by a -/
def rot (l : List α) (a : Nat) : List α := l.drop a ++ l.take a
theorem rot_len (l : List α) (a : Nat) : (rot l a).length = l.length := by
  unfold rot; rw [List.length_append, List.length_drop, List.length_take]; omega
theorem rot_zero (l : List α) : rot l 0 = l := by simp [rot]
theorem rot_all (l : List α) : rot l l.length = l := by simp [rot]
theorem rot_get {l : List α} {a i : Nat} (ha : a ≤ l.length) (hi : i < l.length) : (rot l a)[i]? = l[(a + i) % l.length]? := by
  unfold rot
  by_cases h : a + i < l.length
  · rw [List.getElem?_append_left (by rw [List.length_drop]; omega), List.getElem?_drop, Nat.mod_eq_of_lt h]
  · rw [List.getElem?_append_right (by rw [List.length_drop]; omega), List.length_drop, List.getElem?_take_of_lt (by omega)]
    have e : (a + i) % l.length = a + i - l.length := by
      rw [Nat.mod_eq_sub_mod (by omega), Nat.mod_eq_of_lt (by omega)]
    rw [e, show i - (l.length - a) = a + i - l.length by omega]
theorem ext_len {l m : List α} (h : l.length = m.length) (g : ∀ i, i < l.length → l[i]? = m[i]?) : l = m := by
  apply List.ext_getElem? 
  intro i
  by_cases hi : i < l.length
  · exact g i hi
  · rw [List.getElem?_eq_none_iff.mpr (by omega), List.getElem?_eq_none_iff.mpr (by omega)]
theorem rot_rot {l : List α} {a b : Nat} (ha : a ≤ l.length) (hb : b ≤ l.length) (hl : 0 < l.length) : rot (rot l a) b = rot l ((a + b) % l.length) := by
  apply ext_len
  · rw [rot_len, rot_len, rot_len]
  · intro i hi
    rw [rot_len, rot_len] at hi
    have hm : (a + b) % l.length < l.length := Nat.mod_lt _ hl
    rw [rot_get (by rw [rot_len]; exact hb) (by rw [rot_len]; exact hi), rot_len, rot_get ha (Nat.mod_lt _ hl), rot_get (Nat.le_of_lt hm) hi]
    congr 1
    simp only [Nat.add_mod_mod, Nat.mod_add_mod, Nat.add_assoc]
/-- one goes behind all -/
def rot1 : List α → List α
  | [] => []
  | x :: r => r ++ [x]
theorem rot1_eq {l : List α} (h : 0 < l.length) : rot1 l = rot l 1 := by
  cases l with
  | nil => simp at h
  | cons x r => simp [rot1, rot]
theorem rot1_len (l : List α) : (rot1 l).length = l.length := by
  cases l with
  | nil => rfl
  | cons x r => simp [rot1]
def rotN : Nat → List α → List α
  | 0, l => l
  | k + 1, l => rotN k (rot1 l)
theorem rotN_len : ∀ (k : Nat) (l : List α), (rotN k l).length = l.length
  | 0, _ => rfl
  | k + 1, l => by rw [rotN, rotN_len k, rot1_len]
theorem rotN_eq : ∀ (k : Nat) (l : List α), 0 < l.length → rotN k l = rot l (k % l.length)
  | 0, l, h => by rw [rotN, Nat.zero_mod, rot_zero]
  | k + 1, l, h => by
    have h1 : 0 < (rot1 l).length := by rw [rot1_len]; exact h
    rw [rotN, rotN_eq k _ h1, rot1_len, rot1_eq h, rot_rot (by omega) (Nat.le_of_lt (Nat.mod_lt _ h)) h]
    congr 1
    rw [Nat.add_mod_mod, Nat.add_comm]
theorem rotN_congr {j k : Nat} {l : List α} (h : j % l.length = k % l.length) : rotN j l = rotN k l := by
  by_cases hl : 0 < l.length
  · rw [rotN_eq j l hl, rotN_eq k l hl, h]
  · have : l = [] := by
      cases l with
      | nil => rfl
      | cons x r => simp at hl
    subst this
    have : ∀ k : Nat, rotN k ([] : List α) = [] := by
      intro k; induction k with
      | zero => rfl
      | succ k ih => exact ih
    rw [this, this]
theorem rotN_succ : ∀ (k : Nat) (l : List α), rotN (k + 1) l = rot1 (rotN k l)
  | 0, _ => rfl
  | k + 1, l => by rw [rotN, rotN_succ k (rot1 l)]; rfl
/-- who goes, one behind the other: s more are passed by each time (the step less 1) -/
def out (s : Nat) : Nat → List α → List α
  | 0, _ => []
  | n + 1, l => match rotN s l with
    | [] => []
    | x :: t => x :: out s n t
theorem out_len (s : Nat) : ∀ (n : Nat) (l : List α), l.length = n → (out s n l).length = n
  | 0, l, h => rfl
  | n + 1, l, h => by
    have hl := rotN_len s l
    unfold out
    split
    · rename_i e; rw [e] at hl; simp at hl; omega
    · rename_i x t e
      rw [e] at hl
      rw [List.length_cons, out_len s n t (by simp at hl; omega)]
theorem rot1_perm (l : List α) : (rot1 l).Perm l := by
  cases l with
  | nil => exact List.Perm.refl _
  | cons x r => exact List.perm_append_comm (l₁ := r) (l₂ := [x])
theorem rotN_perm : ∀ (k : Nat) (l : List α), (rotN k l).Perm l
  | 0, _ => List.Perm.refl _
  | k + 1, l => (rotN_perm k (rot1 l)).trans (rot1_perm l)
theorem out_perm (s : Nat) : ∀ (n : Nat) (l : List α), l.length = n → (out s n l).Perm l
  | 0, l, h => by
    have : l = [] := List.eq_nil_of_length_eq_zero h
    subst this; exact List.Perm.refl _
  | n + 1, l, h => by
    have hl := rotN_len s l
    have hp := rotN_perm s l
    unfold out
    split
    · rename_i e; rw [e] at hl; simp at hl; omega
    · rename_i x t e
      rw [e] at hl hp
      exact (List.Perm.cons x (out_perm s n t (by simp at hl; omega))).trans hp
theorem out_congr {s s' : Nat} : ∀ (n : Nat) (l : List α), l.length = n → (∀ k, 1 ≤ k → k ≤ n → s % k = s' % k) → out s n l = out s' n l
  | 0, _, _, _ => rfl
  | n + 1, l, h, hk => by
    have e : rotN s l = rotN s' l := rotN_congr (by rw [h]; exact hk (n + 1) (by omega) (Nat.le_refl _))
    have hl := rotN_len s' l
    unfold out
    rw [e]
    split
    · rfl
    · rename_i x t e'
      rw [e'] at hl
      rw [out_congr n t (by simp at hl; omega) fun k h1 h2 => hk k h1 (by omega)]
theorem rot1_map (f : α → β) (l : List α) : rot1 (l.map f) = (rot1 l).map f := by
  cases l with
  | nil => rfl
  | cons x r => simp [rot1]
theorem rotN_map (f : α → β) : ∀ (k : Nat) (l : List α), rotN k (l.map f) = (rotN k l).map f
  | 0, _ => rfl
  | k + 1, l => by rw [rotN, rot1_map, rotN_map f k]; rfl
theorem out_map (f : α → β) (s : Nat) : ∀ (n : Nat) (l : List α), out s n (l.map f) = (out s n l).map f
  | 0, _ => rfl
  | n + 1, l => by
    unfold out
    rw [rotN_map]
    cases rotN s l with
    | nil => rfl
    | cons x t => simp [out_map f s n t]
theorem rot_map (f : α → β) (l : List α) (a : Nat) : rot (l.map f) a = (rot l a).map f := by
  simp [rot, List.map_drop, List.map_take]
/-- the ring as a list and a place in it: one turn -/
theorem out_at {s a n : Nat} {l : List α} (hn : l.length = n + 1) (ha : a ≤ l.length) {x : α} (hx : l[(a + s) % l.length]? = some x) :
    out s (n + 1) (rot l a) = x :: out s n (rot (l.eraseIdx ((a + s) % l.length)) ((a + s) % l.length)) := by
  have hl : 0 < l.length := by omega
  have hj : (a + s) % l.length < l.length := Nat.mod_lt _ hl
  have e : rotN s (rot l a) = rot l ((a + s) % l.length) := by
    rw [rotN_eq s _ (by rw [rot_len]; exact hl), rot_len, rot_rot ha (Nat.le_of_lt (Nat.mod_lt _ hl)) hl, Nat.add_mod_mod]
  have e2 : rot l ((a + s) % l.length) = x :: rot (l.eraseIdx ((a + s) % l.length)) ((a + s) % l.length) := by
    generalize (a + s) % l.length = j at hx hj
    unfold rot
    obtain ⟨h1, h2⟩ := List.getElem?_eq_some_iff.mp hx
    rw [List.drop_eq_getElem_cons h1, h2, List.eraseIdx_eq_take_drop_succ, List.cons_append]
    have hk : (l.take j).length = j := by rw [List.length_take]; omega
    congr 1
    rw [List.drop_append, List.take_append, hk]
    simp [List.take_of_length_le (show (l.take j).length ≤ j by omega)]
  rw [out, e, e2]
/-! ## numbers told on and on -/
/-- who are left, the next one first, when t numbers have been told -/
def tell (d : Nat) (l : List α) : Nat → List α
  | 0 => l
  | t + 1 => match tell d l t with
    | [] => []
    | x :: r => if (t + 1) % d = 0 then r else r ++ [x]
theorem div_succ {t d : Nat} (_ : 0 < d) (h : (t + 1) % d = 0) : (t + 1) / d = t / d + 1 := by
  rw [Nat.succ_div, if_pos (Nat.dvd_of_mod_eq_zero h)]
theorem div_succ' {t d : Nat} (_ : 0 < d) (h : (t + 1) % d ≠ 0) : (t + 1) / d = t / d := by
  rw [Nat.succ_div, if_neg (fun z => h (Nat.mod_eq_zero_of_dvd z))]; omega
theorem tell_len {d : Nat} {l : List α} (hd : 0 < d) : ∀ t, t ≤ l.length * d → (tell d l t).length = l.length - t / d
  | 0, _ => by simp [tell]
  | t + 1, h => by
    have ih := tell_len (l := l) hd t (by omega)
    have hq : t / d < l.length := Nat.div_lt_of_lt_mul (by rw [Nat.mul_comm]; omega)
    unfold tell
    split
    · rename_i e; rw [e] at ih; simp at ih; omega
    · rename_i x r e
      rw [e, List.length_cons] at ih
      by_cases hz : (t + 1) % d = 0
      · rw [if_pos hz, div_succ hd hz]; omega
      · rw [if_neg hz, div_succ' hd hz, List.length_append]; simp; omega
/-- who is told a number -/
def told (d : Nat) (l : List α) (n : Nat) : Option α := (tell d l (n - 1))[0]?
theorem tell_shift {d : Nat} {l : List α} (hd : 0 < d) : ∀ (p t : Nat), t ≤ l.length * d → p < (tell d l t).length → (tell d l t)[p]? = (tell d l (t + p))[0]?
  | 0, t, _, _ => rfl
  | p + 1, t, ht, hp => by
    have hlen := tell_len (l := l) hd t ht
    have hq : t / d < l.length := by omega
    have ht' : t + 1 ≤ l.length * d := by
      have h1 := Nat.div_add_mod t d
      have h2 := Nat.mod_lt t hd
      have h3 : (t / d + 1) * d ≤ l.length * d := Nat.mul_le_mul_right d hq
      have h4 : (t / d + 1) * d = d * (t / d) + d := by rw [Nat.add_mul, Nat.one_mul, Nat.mul_comm]
      omega
    have key : (tell d l t)[p + 1]? = (tell d l (t + 1))[p]? ∧ p < (tell d l (t + 1)).length := by
      show _ = (match tell d l t with | [] => [] | x :: r => if (t + 1) % d = 0 then r else r ++ [x])[p]? ∧ p < (match tell d l t with | [] => [] | x :: r => if (t + 1) % d = 0 then r else r ++ [x]).length
      cases e : tell d l t with
      | nil => rw [e] at hp; simp at hp
      | cons x r =>
        rw [e, List.length_cons] at hp
        show (x :: r)[p + 1]? = (if (t + 1) % d = 0 then r else r ++ [x])[p]? ∧ p < (if (t + 1) % d = 0 then r else r ++ [x]).length
        by_cases hz : (t + 1) % d = 0
        · rw [if_pos hz]; exact ⟨by simp, by omega⟩
        · rw [if_neg hz]; refine ⟨?_, by simp; omega⟩
          rw [List.getElem?_append_left (by omega)]; simp
    rw [key.1, tell_shift hd p (t + 1) ht' key.2, show t + 1 + p = t + (p + 1) by omega]
theorem told_first {d : Nat} {l : List α} (hd : 0 < d) {n : Nat} (h1 : 1 ≤ n) (h2 : n ≤ l.length) : told d l n = l[n - 1]? := by
  have h := tell_shift (l := l) hd (n - 1) 0 (Nat.zero_le _) (by show n - 1 < l.length; omega)
  rw [Nat.zero_add] at h
  exact h.symm
theorem told_leap {d : Nat} {l : List α} (hd : 0 < d) {n : Nat} (h1 : 1 ≤ n) (h2 : n ≤ l.length * d) (hz : n % d ≠ 0) : told d l (l.length + n - n / d) = told d l n := by
  obtain ⟨t, rfl⟩ : ∃ t, n = t + 1 := ⟨n - 1, by omega⟩
  have hlen := tell_len (l := l) hd t (by omega)
  have hdv := div_succ' hd hz
  have hq : t / d < l.length := Nat.div_lt_of_lt_mul (by rw [Nat.mul_comm]; omega)
  have hlen1 := tell_len (l := l) hd (t + 1) h2
  rw [hdv] at hlen1
  show (tell d l (l.length + (t + 1) - (t + 1) / d - 1))[0]? = (tell d l (t + 1 - 1))[0]?
  rw [hdv, show l.length + (t + 1) - t / d - 1 = (t + 1) + (l.length - t / d - 1) by omega,
    ← tell_shift hd (l.length - t / d - 1) (t + 1) h2 (by omega)]
  show (match tell d l t with | [] => [] | x :: r => if (t + 1) % d = 0 then r else r ++ [x])[l.length - t / d - 1]? = (tell d l t)[0]?
  cases e : tell d l t with
  | nil => rw [e] at hlen; simp at hlen; omega
  | cons x r =>
    rw [e, List.length_cons] at hlen
    show (if (t + 1) % d = 0 then r else r ++ [x])[l.length - t / d - 1]? = some x
    rw [if_neg hz, List.getElem?_append_right (by omega)]
    rw [show l.length - t / d - 1 - r.length = 0 by omega]; rfl
theorem tell_turn {d : Nat} {l : List α} (hd : 0 < d) (c : Nat) : ∀ k, k < d → tell d l (c * d + k) = rotN k (tell d l (c * d))
  | 0, _ => rfl
  | k + 1, h => by
    have hz : (c * d + k + 1) % d ≠ 0 := by
      rw [Nat.add_assoc, Nat.add_comm, Nat.add_mul_mod_self_right, Nat.mod_eq_of_lt h]; omega
    rw [rotN_succ, ← tell_turn hd c k (by omega)]
    show (match tell d l (c * d + k) with | [] => [] | x :: r => if (c * d + k + 1) % d = 0 then r else r ++ [x]) = _
    cases tell d l (c * d + k) with
    | nil => rfl
    | cons x r => show (if (c * d + k + 1) % d = 0 then r else r ++ [x]) = r ++ [x]; rw [if_neg hz]
theorem out_tell {d : Nat} {l : List α} (hd : 0 < d) : ∀ (n c i : Nat), c + n = l.length → i < n → (out (d - 1) n (tell d l (c * d)))[i]? = told d l ((c + i + 1) * d)
  | 0, _, _, _, h => by omega
  | n + 1, c, i, hc, hi => by
    have hlen : (tell d l (c * d)).length = n + 1 := by
      rw [tell_len hd _ (Nat.mul_le_mul_right d (by omega)), Nat.mul_div_cancel _ hd]; omega
    have ht := tell_turn (l := l) hd c (d - 1) (by omega)
    have hl2 := rotN_len (d - 1) (tell d l (c * d))
    have hnext : tell d l ((c + 1) * d) = (rotN (d - 1) (tell d l (c * d))).tail := by
      rw [show (c + 1) * d = (c * d + (d - 1)) + 1 by rw [Nat.add_mul, Nat.one_mul]; omega]
      show (match tell d l (c * d + (d - 1)) with | [] => [] | x :: r => if (c * d + (d - 1) + 1) % d = 0 then r else r ++ [x]) = _
      rw [ht]
      have hz : (c * d + (d - 1) + 1) % d = 0 := by
        rw [Nat.add_assoc, show d - 1 + 1 = d by omega, Nat.add_mod_right, Nat.mul_mod_left]
      cases rotN (d - 1) (tell d l (c * d)) with
      | nil => rfl
      | cons x r => show (if (c * d + (d - 1) + 1) % d = 0 then r else r ++ [x]) = r; rw [if_pos hz]
    cases e : rotN (d - 1) (tell d l (c * d)) with
    | nil => rw [e, hlen] at hl2; simp at hl2
    | cons x r =>
      rw [e] at hnext ht
      have hn : tell d l ((c + 1) * d) = r := hnext
      rw [out, e]
      show (x :: out (d - 1) n r)[i]? = _
      cases i with
      | zero =>
        show some x = (tell d l ((c + 0 + 1) * d - 1))[0]?
        rw [show (c + 0 + 1) * d - 1 = c * d + (d - 1) by rw [Nat.add_zero, Nat.add_mul, Nat.one_mul]; omega, ht]; rfl
      | succ i =>
        have ih := out_tell (l := l) hd n (c + 1) i (by omega) (by omega)
        rw [hn] at ih
        rw [List.getElem?_cons_succ, ih, show c + 1 + i + 1 = c + (i + 1) + 1 by omega]
/-- at a count the one goes who is told the count's number -/
theorem out_told {d : Nat} {l : List α} (hd : 0 < d) {i : Nat} (hi : i < l.length) : (out (d - 1) l.length l)[i]? = told d l ((i + 1) * d) := by
  have h := out_tell (l := l) hd l.length 0 i (by omega) hi
  rw [Nat.zero_mul] at h
  rw [show (i + 1) = 0 + i + 1 by omega]
  exact h
/-! ## the two loops over numbers -/
theorem leap_up {m d n : Nat} (hd : 0 < d) (h2 : n ≤ m * d) (hz : n % d ≠ 0) : n < m + n - n / d ∧ m + n - n / d ≤ m * d ∧ n / d < m := by
  have h1 := Nat.div_add_mod n d
  have h3 := Nat.mod_lt n hd
  have hq : n / d < m := by
    apply Nat.div_lt_of_lt_mul
    rcases Nat.lt_or_ge n (m * d) with h | h
    · rw [Nat.mul_comm]; exact h
    · have e : n = m * d := by omega
      rw [e, Nat.mul_mod_left] at hz; exact absurd rfl hz
  refine ⟨by omega, ?_, hq⟩
  obtain ⟨k, hk⟩ : ∃ k, m = n / d + 1 + k := ⟨m - n / d - 1, by omega⟩
  obtain ⟨e, he⟩ : ∃ e, d = e + 1 := ⟨d - 1, by omega⟩
  have h4 : m * d = d * (n / d) + d + k * d := by
    rw [hk, Nat.add_mul, Nat.add_mul, Nat.one_mul, Nat.mul_comm (n / d) d]
  have h5 : k * d = k * e + k := by rw [he, Nat.mul_add, Nat.mul_one]
  omega
theorem leap_down {m d n : Nat} (hd : 0 < d) (h1 : m < n) (h2 : n ≤ m * d) :
    2 ≤ d ∧ 1 ≤ (n - m) + (n - m - 1) / (d - 1) ∧ (n - m) + (n - m - 1) / (d - 1) < n ∧ ((n - m) + (n - m - 1) / (d - 1)) % d ≠ 0 ∧ m + ((n - m) + (n - m - 1) / (d - 1)) - ((n - m) + (n - m - 1) / (d - 1)) / d = n := by
  have hd2 : 2 ≤ d := by
    rcases Nat.lt_or_ge d 2 with h | h
    · have : d = 1 := by omega
      subst this; omega
    · exact h
  obtain ⟨e, he⟩ : ∃ e, d = e + 1 := ⟨d - 1, by omega⟩
  subst he
  have h3 := Nat.div_add_mod (n - m - 1) e
  have h4 := Nat.mod_lt (n - m - 1) (show 0 < e by omega)
  rw [Nat.add_sub_cancel]
  generalize hq : (n - m - 1) / e = q at *
  generalize hr : (n - m - 1) % e = r at *
  have hqm : q < m := by
    rw [← hq]
    apply Nat.div_lt_of_lt_mul
    rw [Nat.mul_add, Nat.mul_one] at h2
    rw [Nat.mul_comm]; omega
  have en : n - m + q = (r + 1) + q * (e + 1) := by
    rw [Nat.mul_add, Nat.mul_one, Nat.mul_comm q e]; omega
  have hmod : (n - m + q) % (e + 1) = r + 1 := by
    rw [en, Nat.add_mul_mod_self_right, Nat.mod_eq_of_lt (by omega)]
  have hdiv : (n - m + q) / (e + 1) = q := by
    rw [en, Nat.add_mul_div_right _ _ (by omega), Nat.div_eq_of_lt (by omega)]; omega
  rw [hmod, hdiv]
  omega
theorem told_back {d : Nat} {l : List α} (hd : 0 < d) {n : Nat} (h1 : l.length < n) (h2 : n ≤ l.length * d) :
    told d l ((n - l.length) + (n - l.length - 1) / (d - 1)) = told d l n := by
  obtain ⟨_, a, b, c, e⟩ := leap_down hd h1 h2
  have h := told_leap (l := l) hd a (by omega) c
  rw [e] at h
  exact h.symm
theorem nodup_get {l : List α} (h : l.Nodup) {i j : Nat} {x : α} (a : l[i]? = some x) (b : l[j]? = some x) : i = j := by
  obtain ⟨h1, e1⟩ := List.getElem?_eq_some_iff.mp a
  obtain ⟨h2, e2⟩ := List.getElem?_eq_some_iff.mp b
  exact (List.getElem_inj h).mp (e1.trans e2.symm)
/-! ## places in a ring of numbers -/
def ring (m b : Nat) : List Nat := rot (List.range m) b
theorem ring_len (m b : Nat) : (ring m b).length = m := by rw [ring, rot_len, List.length_range]
theorem ring_get {m b i : Nat} (hb : b ≤ m) (hi : i < m) : (ring m b)[i]? = some ((b + i) % m) := by
  have h := rot_get (l := List.range m) (a := b) (i := i) (by rw [List.length_range]; exact hb) (by rw [List.length_range]; exact hi)
  rw [List.length_range] at h
  rw [ring, h, List.getElem?_range (Nat.mod_lt _ (by omega))]
/-- the places in the order in which they go -/
def order (d m b : Nat) : List Nat := out (d - 1) m (ring m b)
theorem order_len (d m b : Nat) : (order d m b).length = m := out_len _ _ _ (ring_len m b)
theorem rot_perm (l : List α) (a : Nat) : (rot l a).Perm l := by
  unfold rot
  exact List.perm_append_comm.trans (by rw [List.take_append_drop])
theorem order_perm (d m b : Nat) : (order d m b).Perm (List.range m) := (out_perm _ _ _ (ring_len m b)).trans (rot_perm _ _)
theorem order_nodup (d m b : Nat) : (order d m b).Nodup := (order_perm d m b).nodup_iff.mpr List.nodup_range
theorem order_lt {d m b x : Nat} (h : x ∈ order d m b) : x < m := List.mem_range.mp ((order_perm d m b).mem_iff.mp h)
theorem order_mem {d m b x : Nat} (h : x < m) : x ∈ order d m b := (order_perm d m b).mem_iff.mpr (List.mem_range.mpr h)
theorem order_told {d m b i : Nat} (hd : 0 < d) (hi : i < m) : (order d m b)[i]? = told d (ring m b) ((i + 1) * d) := by
  have h := out_told (l := ring m b) hd (i := i) (by rw [ring_len]; exact hi)
  rw [ring_len] at h
  exact h
end Jos

namespace Jos
variable {α β : Type}
theorem ring_map (m b : Nat) (h : b ≤ m) : ring m b = (ring m 0).map (fun i => (b + i) % m) := by
  apply ext_len
  · rw [List.length_map, ring_len, ring_len]
  · intro i hi
    rw [ring_len] at hi
    rw [ring_get h hi, List.getElem?_map, ring_get (Nat.zero_le _) hi]
    simp only [Option.map_some, Nat.zero_add, Nat.add_mod_mod]
theorem order_map (d m b : Nat) (h : b ≤ m) : order d m b = (order d m 0).map (fun i => (b + i) % m) := by
  unfold order
  rw [ring_map m b h, out_map]
/-- a begin turned -/
theorem order_turn {d m b c p : Nat} (h : b ≤ m) (hc : (order d m 0)[c]? = some p) : (order d m b)[c]? = some ((b + p) % m) := by
  rw [order_map d m b h, List.getElem?_map, hc]; rfl
/-- the first one gone, the rest is a ring of one fewer -/
theorem order_succ (d n : Nat) (hd : 0 < d) : order d (n + 1) 0 = ((d - 1) % (n + 1)) :: (order d n 0).map (fun i => (i + d) % (n + 1)) := by
  have h0 : ring (n + 1) 0 = List.range (n + 1) := rot_zero _
  have hx : (List.range (n + 1))[(0 + (d - 1)) % (List.range (n + 1)).length]? = some ((d - 1) % (n + 1)) := by
    rw [List.length_range, Nat.zero_add, List.getElem?_range (Nat.mod_lt _ (by omega))]
  have h := out_at (s := d - 1) (a := 0) (n := n) (l := List.range (n + 1)) (by rw [List.length_range]) (Nat.zero_le _) hx
  unfold order
  rw [h0, ← rot_zero (List.range (n + 1)), h]
  congr 1
  rw [List.length_range, Nat.zero_add]
  have hj : (d - 1) % (n + 1) < n + 1 := Nat.mod_lt _ (by omega)
  have e : rot ((List.range (n + 1)).eraseIdx ((d - 1) % (n + 1))) ((d - 1) % (n + 1)) = (ring n 0).map (fun i => (i + d) % (n + 1)) := by
    generalize hJ : (d - 1) % (n + 1) = j at hj
    have hl : ((List.range (n + 1)).eraseIdx j).length = n := by rw [List.length_eraseIdx, List.length_range, if_pos hj]; omega
    apply ext_len
    · rw [rot_len, hl, List.length_map, ring_len]
    · intro i hi
      rw [rot_len, hl] at hi
      rw [rot_get (by rw [hl]; omega) (by rw [hl]; exact hi), hl, List.getElem?_map, ring_get (Nat.zero_le _) hi, List.getElem?_eraseIdx]
      have e2 : (i + d) % (n + 1) = (j + i + 1) % (n + 1) := by
        rw [show i + d = (d - 1) + (i + 1) by omega, show j + i + 1 = j + (i + 1) by omega, ← hJ, Nat.mod_add_mod]
      simp only [Option.map_some, Nat.zero_add, Nat.mod_eq_of_lt hi, e2]
      by_cases hw : j + i < n
      · rw [Nat.mod_eq_of_lt hw, if_neg (by omega), List.getElem?_range (by omega), Nat.mod_eq_of_lt (by omega)]
      · have e3 : (j + i) % n = j + i - n := by
          by_cases hjn : j + i < n + n
          · rw [Nat.mod_eq_sub_mod (by omega), Nat.mod_eq_of_lt (by omega)]
          · omega
        rw [e3, if_pos (by omega), List.getElem?_range (by omega)]
        rw [show j + i + 1 = (j + i - n) + (n + 1) by omega, Nat.add_mod_right, Nat.mod_eq_of_lt (by omega)]
  rw [e, out_map]
theorem order_zero {d n : Nat} (hd : 0 < d) (hn : 0 < n) : (order d n 0)[0]? = some ((d - 1) % n) := by
  obtain ⟨k, rfl⟩ : ∃ k, n = k + 1 := ⟨n - 1, by omega⟩
  rw [order_succ d k hd]; rfl
theorem order_next {d n c p : Nat} (hd : 0 < d) (h : (order d n 0)[c]? = some p) : (order d (n + 1) 0)[c + 1]? = some ((p + d) % (n + 1)) := by
  rw [order_succ d n hd, List.getElem?_cons_succ, List.getElem?_map, h]; rfl
/-- hand by hand more, no round ending -/
theorem order_leap {d n c p : Nat} (hd : 0 < d) (h : (order d n 0)[c]? = some p) : ∀ L, p + (d - 1) * L < n → (order d (n + L) 0)[c + L]? = some (p + d * L)
  | 0, _ => by rw [Nat.mul_zero]; exact h
  | L + 1, hL => by
    have e1 : (d - 1) * (L + 1) = (d - 1) * L + (d - 1) := by rw [Nat.mul_add, Nat.mul_one]
    have e2 : d * (L + 1) = d * L + d := by rw [Nat.mul_add, Nat.mul_one]
    have e3 : d * L = (d - 1) * L + L := by
      obtain ⟨e, rfl⟩ : ∃ e, d = e + 1 := ⟨d - 1, by omega⟩
      rw [Nat.add_sub_cancel, Nat.add_mul, Nat.one_mul]
    have ih := order_leap hd h L (by omega)
    have k := order_next hd ih
    rw [show n + (L + 1) = n + L + 1 by omega, show c + (L + 1) = c + L + 1 by omega, k, Nat.mod_eq_of_lt (by omega)]
    congr 1
    omega
theorem order_leap1 {d n c p : Nat} (hd : 0 < d) (h : (order d n 0)[c]? = some p) (L : Nat) (hL : 1 ≤ L) (hk : p + (d - 1) * (L - 1) < n) : (order d (n + L) 0)[c + L]? = some ((p + d * L) % (n + L)) := by
  obtain ⟨k, rfl⟩ : ∃ k, L = k + 1 := ⟨L - 1, by omega⟩
  rw [Nat.add_sub_cancel] at hk
  have ih := order_leap hd h k hk
  have g := order_next hd ih
  rw [show n + (k + 1) = n + k + 1 by omega, show c + (k + 1) = c + k + 1 by omega, g]
  congr 2
  rw [Nat.mul_add, Nat.mul_one]; omega
end Jos

set_option Elab.async false
set_option linter.all false
set_option maxRecDepth 100000
set_option maxHeartbeats 2000000
namespace Cd
open PySem PySem.Spec PyProof.Rows L2
open Evl (Ex)
/-! ### operations by short names -/
abbrev oAdd : R2 := rI0 fun i j => .int (i + j)
abbrev oSub : R2 := rI0 fun i j => .int (i - j)
abbrev oMul : R2 := rI CMul fun i j => .int (i * j)
abbrev oMod : R2 := rI (fun _ j => 0 < j) fun i j => .int (i % j)
abbrev oFdiv : R2 := rI CDiv fun i j => .int (i / j)
abbrev oPow : R2 := rI CPow fun i j => .int (i ^ j.toNat)
abbrev oLt : R2 := rI0 fun i j => .bl (decide (i < j))
abbrev oLe : R2 := rI0 fun i j => .bl (decide (i ≤ j))
abbrev oGt : R2 := rI0 fun i j => .bl (decide (j < i))
abbrev oGe : R2 := rI0 fun i j => .bl (decide (j ≤ i))
abbrev oNeg : V → Hp → VK → Prop := rU fun i => .int (-i)
abbrev oAddS : R2 := fun x y H Q => ∃ i j, x = .str i ∧ y = .str j ∧ i.length + j.length ≤ sizeLine ∧ Q (.str (i ++ j)) H
abbrev oIsN : R2 := fun x y H Q => y = .non ∧ Q (.bl (decide (x = .non))) H
abbrev oNotN : R2 := fun x y H Q => y = .non ∧ Q (.bl (!decide (x = .non))) H
abbrev oMin2 : List V → Hp → VK → Prop := fun xs H Q => ∃ i j, xs = [.int i, .int j] ∧ Q (.int (if j < i then j else i)) H
abbrev oMax2 : List V → Hp → VK → Prop := fun xs H Q => ∃ i j, xs = [.int i, .int j] ∧ Q (.int (if j > i then j else i)) H
abbrev oStrI : List V → Hp → VK → Prop := fun xs H Q => ∃ i : Int, xs = [.int i] ∧ i.natAbs.log2 < 1920 ∧ Q (.str (toString i)) H
abbrev rLenL (K : PySem.W.Frag) : List V → Hp → VK → Prop := fun xs H Q => ∃ p ys, xs = [.ref p] ∧ (SqL K H p ys ∨ SqT K H p ys) ∧ Q (.int (ys.length : Int)) H
abbrev rLenV (K : PySem.W.Frag) : List V → Hp → VK → Prop := fun xs H Q => ∃ x n, xs = [x] ∧ LenV K x H n ∧ Q (.int (n : Int)) H
abbrev rListOf (K : PySem.W.Frag) : List V → Hp → VK → Prop := fun xs H Q => ∃ p ys, xs = [.ref p] ∧ (SqL K H p ys ∨ SqT K H p ys) ∧ ∀ l, H l = none → Q (.ref l) (upd H l (.lst ys))
abbrev rInsert : V → List V → Hp → VK → Prop := fun x vs H Q => ∃ (l : Addr) (xs : List V) (i : Int) (y : V), x = .ref l ∧ vs = [.int i, y] ∧ H l = some (.lst xs) ∧ xs.length < sizeLine ∧ 0 ≤ i ∧ i < 2 ^ 63 ∧
    Q .non (upd H l (.lst (xs.take i.toNat ++ [y] ++ xs.drop i.toNat)))
abbrev tRaise (C : Addr) (E : XK) : TS := fun _ _ H => E (.ref C) none H
theorem iteC {c : Bool} {A B : Prop} (h1 : c = true → A) (h2 : c = false → B) : if c = true then A else B := by
  cases c with
  | true => exact iteT (h1 rfl)
  | false => exact iteF (h2 rfl)
/-! ### data that compares plainly -/
/-- numbers and texts, None -/
def plain : V → Bool
  | .int _ => true
  | .str x => PyData.strOk x
  | .non => true
  | _ => false
def dat : V → PyData
  | .int i => .int i
  | .str x => .str x
  | _ => .none
theorem dat_dp {K : PySem.W.Frag} {H : Hp} {v : V} (h : plain v = true) : Dp K H v (dat v) := by
  cases v <;> first | exact .int _ | exact .str _ | exact .non | (simp [plain] at h; done)
theorem dats_dp {K : PySem.W.Frag} {H : Hp} : ∀ {vs : List V}, vs.all plain = true → DpAll K H vs (vs.map dat)
  | [], _ => .nil
  | v :: vs, h => by
    rw [List.all_cons, Bool.and_eq_true] at h
    exact .cons (dat_dp h.1) (dats_dp h.2)
theorem dat_eqv {v w : V} (h : plain v = true) (h' : plain w = true) : PyData.eqv (dat v) (dat w) = decide (v = w) := by
  cases v <;> cases w <;> first
    | (simp [plain] at h; done)
    | (simp [plain] at h'; done)
    | (simp [dat, PyData.eqv]; done)
    | (simp only [dat, PyData.eqv, V.int.injEq, V.str.injEq]; exact Bool.beq_eq_decide_eq _ _)
theorem dats_eqv : ∀ {vs ws : List V}, vs.all plain = true → ws.all plain = true → PyData.eqvAll (vs.map dat) (ws.map dat) = decide (vs = ws)
  | [], [], _, _ => by simp [PyData.eqvAll]
  | [], w :: ws, _, _ => by simp [PyData.eqvAll]
  | v :: vs, [], _, _ => by simp [PyData.eqvAll]
  | v :: vs, w :: ws, h, h' => by
    rw [List.all_cons, Bool.and_eq_true] at h h'
    rw [List.map_cons, List.map_cons, PyData.eqvAll, dat_eqv h.1 h'.1, dats_eqv h.2 h'.2]
    by_cases e : v = w
    · subst e; simp
    · simp [e]
theorem dats_can : ∀ {vs : List V}, vs.all plain = true → PyData.canLayAll0 (vs.map dat) = true
  | [], _ => by simp [PyData.canLayAll0]
  | v :: vs, h => by
    rw [List.all_cons, Bool.and_eq_true] at h
    rw [List.map_cons, PyData.canLayAll0, dats_can h.2, Bool.and_true]
    have h1 := h.1
    cases v <;> first | (simp [dat, PyData.canLay0]; done) | exact h1 | (simp [plain] at h1; done) | (simp only [dat, PyData.canLay0]; exact h1)
theorem dats_depth : ∀ vs : List V, PyData.depthAll (vs.map dat) = 0
  | [] => by simp [PyData.depthAll]
  | v :: vs => by
    rw [List.map_cons, PyData.depthAll, dats_depth vs]
    cases v <;> simp [dat, PyData.depth]
theorem dats_shaped {vs : List V} (h : vs.all plain = true) : SeqAt.shaped (.list (vs.map dat)) = true := by
  unfold SeqAt.shaped
  rw [PyData.canLay0, dats_can h, PyData.depth, dats_depth]
  rfl
/-- two lists of plain things -/
def rEqF (K : PySem.W.Frag) (neg : Bool) : R2 := fun x y H Q => ∃ p q xs ys, x = .ref p ∧ y = .ref q ∧ SqL K H p xs ∧ SqL K H q ys ∧ xs.all plain = true ∧ ys.all plain = true ∧ Q (.bl (if neg then !decide (xs = ys) else decide (xs = ys))) H
section
variable {X : Cx}
theorem op_eqF (hu : X.A.units + 64 < cLine) : OpR X (compareOp .Eq) (rEqF X.K false) := by
  intro pins s σ H x y v u Q I rx ry h
  obtain ⟨p, q, xs, ys, rfl, rfl, hp, hq, h1, h2, k⟩ := h
  refine op_eqD hu pins s σ H _ _ v u Q I rx ry ⟨_, _, .lst hp (dats_dp h1), .lst hq (dats_dp h2), dats_shaped h1, dats_shaped h2, ?_⟩
  rw [PyData.eqv, dats_eqv h1 h2]
  exact k
theorem op_neF (hu : X.A.units + 64 < cLine) : OpR X (compareOp .NotEq) (rEqF X.K true) := by
  intro pins s σ H x y v u Q I rx ry h
  obtain ⟨p, q, xs, ys, rfl, rfl, hp, hq, h1, h2, k⟩ := h
  refine op_neD hu pins s σ H _ _ v u Q I rx ry ⟨_, _, .lst hp (dats_dp h1), .lst hq (dats_dp h2), dats_shaped h1, dats_shaped h2, ?_⟩
  rw [PyData.eqv, dats_eqv h1 h2]
  exact k
end
end Cd

set_option Elab.async false
set_option linter.all false
set_option maxRecDepth 100000
set_option maxHeartbeats 4000000
/-! set(xs) of a list of texts, however many -/
namespace Tx
open PySem PySem.Spec PyProof.Rows
/-- those met so far, each once -/
def add1 (l : List Str) (x : Str) : List Str := if l.any (· == x) then l else l ++ [x]
def met (xs : List Str) (i : Nat) : List Str := (xs.take i).foldl add1 []
theorem met_next {xs : List Str} {i : Nat} {x : Str} (h : xs[i]? = some x) : met xs (i + 1) = add1 (met xs i) x := by
  unfold met
  rw [List.take_add_one, h, Option.toList_some, List.foldl_append]; rfl
theorem add1_any (l : List Str) (x k : Str) : (add1 l x).any (· == k) = (l.any (· == k) || decide (k = x)) := by
  unfold add1
  by_cases c : l.any (· == x) = true
  · rw [if_pos c]
    by_cases e : k = x
    · rw [e, c]; simp
    · simp [e]
  · rw [if_neg c]
    by_cases e : k = x
    · rw [e]; simp
    · have e' : (x == k) = false := beq_eq_false_iff_ne.mpr fun z => e z.symm
      simp [e, e']
theorem add1_len (l : List Str) (x : Str) : (add1 l x).length = if l.any (· == x) then l.length else l.length + 1 := by
  unfold add1; split <;> simp
theorem met_le (xs : List Str) : ∀ i, (met xs i).length ≤ i
  | 0 => by simp [met]
  | i + 1 => by
    have ih := met_le xs i
    cases h : xs[i]? with
    | none =>
      have e : met xs (i + 1) = met xs i := by
        unfold met
        rw [List.take_add_one, h]; simp
      rw [e]; omega
    | some x => rw [met_next h, add1_len]; split <;> omega
theorem met_mem (xs : List Str) (k : Str) : ∀ i, (met xs i).any (· == k) = true → k ∈ xs.take i
  | 0, h => by simp [met] at h
  | i + 1, h => by
    cases e : xs[i]? with
    | none =>
      have e2 : met xs (i + 1) = met xs i := by
        unfold met
        rw [List.take_add_one, e]; simp
      rw [e2] at h
      rw [List.take_add_one, e]
      exact List.mem_append_left _ (met_mem xs k i h)
    | some x =>
      rw [met_next e, add1_any, Bool.or_eq_true] at h
      rw [List.take_add_one, e]
      rcases h with h | h
      · exact List.mem_append_left _ (met_mem xs k i h)
      · have := of_decide_eq_true h
        subst this
        exact List.mem_append_right _ (by simp)
/-- all unlike: as many -/
theorem met_nodup {xs : List Str} (h : xs.Nodup) : ∀ i, i ≤ xs.length → (met xs i).length = i
  | 0, _ => by simp [met]
  | i + 1, hi => by
    have hx : xs[i]? = some xs[i] := List.getElem?_eq_getElem (by omega)
    rw [met_next hx, add1_len, met_nodup h i (by omega), if_neg]
    intro c
    have m := met_mem xs _ i c
    obtain ⟨j, hj, e⟩ := List.mem_iff_getElem.mp m
    rw [List.length_take] at hj
    rw [List.getElem_take] at e
    have := (List.getElem_inj h).mp e
    omega
section
variable {P : Program} {w : World} {A : Around} {R : Result → Shared → Prop} {It : Addr} {fp wr : List Addr} {G : Array GenState → Array GenState → Prop} {n : Nat} {Pv : Nat → Value → Prop} {T : Nat → Shared → Prop}
/-- the filling's turns, from the i-th on -/
theorem fill (W : WalksS P w A.in1 It fp wr G n Pv T) {S : Addr} (nf : S ∉ fp) {xs : List Str} (hz : n + 1 < scanBound) (hP : ∀ i v, Pv i v → ∃ x t, xs[i]? = some x ∧ v = .str x t) {m : Nat} :
    ∀ (i : Nat) (s : Shared), n - i = m → i ≤ n → T i s →
      s.heap.SetOf (PySem.strKind P w) S (fun k => (met xs i).any (· == k)) (met xs i).length →
      (∀ s1, Moved (S :: wr) G s s1 → s1.heap.SetOf (PySem.strKind P w) S (fun k => (met xs n).any (· == k)) (met xs n).length → R (.ok (.ret .none)) s1) →
      codeAny (model P w) A (.builtin "set.update.loop" { pos := [.ref S, .ref It], kw := [] }) R s := by
  have nw : S ∉ wr := fun z => nf (W.sub _ z)
  have wide : ∀ b ∈ wr, b ∈ S :: wr := fun b z => List.mem_cons.mpr (.inr z)
  have stays : ∀ {s s1 : Shared} {X : Str → Bool} {j : Nat}, Moved wr G s s1 → s.heap.SetOf (PySem.strKind P w) S X j → s1.heap.SetOf (PySem.strKind P w) S X j := fun mv z => by
    obtain ⟨o, es, ep, tb, ho, q⟩ := z
    exact ⟨o, es, ep, tb, mv.heap S _ nw ho, q⟩
  induction m with
  | zero =>
    intro i s hm hi st hS hR
    obtain rfl : i = n := by omega
    apply codeAny_builtin PyProof.Rows.F.entry_set_update_loop
    rw [Around.under_plainId PyProof.Rows.F.plain_set_update_loop]
    exact wpAny_bind (m := pyNext (.ref It)) (W.done s _ _ st fun s1 mv => wpAny_pure (hR s1 (mv.mono wide) (stays mv hS)))
  | succ m ih =>
    intro i s hm hi st hS hR
    apply codeAny_builtin PyProof.Rows.F.entry_set_update_loop
    rw [Around.under_plainId PyProof.Rows.F.plain_set_update_loop]
    refine wpAny_bind (m := pyNext (.ref It)) (W.item i s _ _ (by omega) st fun v s1 pv st1 mv => ?_)
    obtain ⟨x, t, hx, rfl⟩ := hP i v pv
    refine wpAny_bind (m := holding [Value.str x t] (setAdd S (.str x t))) (wpAny_holding ?_)
    unfold setAdd
    refine wpAny_holding (wpAny_bind ((PySem.strKind P w).pyHash (k := x) (strKind_is _ _ _ _) ?_))
    have few := met_le xs i
    refine wpAny_setAddHashed_of (knd := PySem.strKind P w) (k := x) (s := { s1 with toks := s1.toks + 1 }) (strKind_is _ _ _ _) rfl (show s1.heap.SetOf (PySem.strKind P w) S _ _ from stays mv hS) (Nat.lt_of_le_of_lt (Nat.succ_le_succ few) (by omega)) fun h2 sb hS2 => ?_
    have hS3 : h2.SetOf (PySem.strKind P w) S (fun k => (met xs (i + 1)).any (· == k)) (met xs (i + 1)).length := by
      refine SetOf_congr hS2 (fun k => ?_) ?_
      · rw [met_next hx, add1_any]
      · rw [met_next hx, add1_len]
    have nS : ∀ b ∈ fp, b ≠ S := fun b hb z => nf (z ▸ hb)
    refine wpAny_pure ⟨plainId_quiet PyProof.Rows.F.plain_set_update_loop _, ih (i + 1) _ (by omega) (by omega) (W.frame _ s1 _ _ st1 (Nat.le_succ _) fun b hb o e => (sb.2 b (nS b hb)).trans e) hS3 fun s3 mv3 q3 => hR s3 ?_ q3⟩
    refine Moved.trans W.gtrans ((mv.mono wide).then_heap (Nat.le_succ _) fun b o hb e => ?_) mv3
    exact (sb.2 b fun z => hb (List.mem_cons.mpr (.inl z))).trans e
end

section
variable {P : Program} {w : World} {A : Around} {E : Value → Shared → Prop} {s : Shared}
abbrev newSet (led : Bool) : Obj := { cls := .type "set", dict := none, data := .set #[] 0 (.fresh 0 0 led) }
/-- the new set is filled: behind set.__init__ -/
def Filled (P : Program) (w : World) (s : Shared) (xs : List Str) (h2 : Heap) : Prop :=
  h2.SetOf (PySem.strKind P w) s.heap.objs.size (fun k => (met xs xs.length).any (· == k)) (met xs xs.length).length ∧ ∀ b o, b < s.heap.objs.size → s.heap.get? b = some o → h2.get? b = some o
set_option maxHeartbeats 8000000 in
theorem call_set {l : Addr} {its : Array Value} {xs : List Str} {Q : Value → Shared → Prop} (hh : A.handled = none) (hl : s.heap.IsList l its) (hx : StrsAre its.toList xs) (hz : xs.length + 1 < scanBound)
    (q : ∀ h2 tk, Filled P w s xs h2 → Q (.ref s.heap.objs.size) { s with heap := h2, toks := tk }) : wpAny (model P w) A (call (.type "set") [.ref l]) Q E s := by
  have len : its.size = xs.length := by rw [← Array.length_toList]; exact hx.length
  obtain ⟨_, _, mr⟩ := PySem.F.called_set.mro
  have k1 := PySem.F.called_set.made
  have k2 := PySem.F.called_set.sub
  have k3 := PySem.F.called_set.notType
  have k4 := PySem.F.called_set.canCreate
  have k5 := PySem.F.typeCall_set_1 (.ref l)
  apply wpAny_call
  apply codeAny_of_tree
  show wpAny _ _ (callAny (.type "set") _) _ _ _
  refine wpAny_pure ⟨Code.quiet_builtin _ (by decide +kernel), codeAny_builtin PySem.F.entry_type_call ?_⟩
  have wt := weight_type_call_type "set" [.ref l] []
  rw [Around.under_plain wt rfl]
  repeat (any_goals (first | assumption | wp_step))
  -- set.__new__
  refine codeAny_mono (code_set_new_1 (.ref l) (E := E) (Q₁ := fun v s1 => ∃ led, v = .ref s.heap.objs.size ∧ s1 = { s with heap := s.heap.push (newSet led) }) fun led => ⟨led, rfl, rfl⟩) fun r s1 hr => ?_
  cases r with
  | error e => exact hr
  | ok fl =>
    cases fl with
    | next => exact False.elim hr
    | brk => exact False.elim hr
    | cont => exact False.elim hr
    | ret v =>
      obtain ⟨led, ev, es⟩ := hr
      subst ev es
      have at0 : (s.heap.push (newSet led)).get? s.heap.objs.size = some (newSet led) := Heap.get?_push_size _ rfl
      have ty0 : Shared.TypeIs { s with heap := s.heap.push (newSet led) } (.ref s.heap.objs.size) "set" := ⟨newSet led, at0, rfl⟩
      have k6 := PySem.F.called_set.init.lookup
      have k7 := PySem.F.called_set.init.bind (.ref s.heap.objs.size)
      repeat (any_goals (first | assumption | wp_step))
      -- set.__init__
      refine codeAny_mono (codeAny_call_builtin (R := wants (fun r s2 => r = .none ∧ ∃ h2 tk, s2 = { s with heap := h2, toks := tk } ∧ Filled P w s xs h2) E)
        PySem.F.called_set.init.plain PySem.F.entry_set_init (check_set_init_1 ty0 ?_)) fun r2 s2 hr2 => ?_
      · obtain ⟨⟨oc, od, odt, osl⟩, ho, hc, c, hd⟩ := hl
        simp only at hc hd
        subst hc hd
        have k8 := PySem.F.sub_list_set
        have k9 := PySem.F.sub_list_frozenset
        have k10 : (Value.type "list" == Value.type "dict") = false := by decide
        have ho1 : (s.heap.push (newSet led)).get? l = some { cls := .type "list", dict := od, data := .seq its c, slots := osl } := Heap.get?_push_of_some _ ho
        have li : (s.heap.push (newSet led)).IsList l its := ⟨_, ho1, rfl, c, rfl⟩
        have lt : l < s.heap.objs.size := Heap.lt_size ho
        have sz1 : (s.heap.push (newSet led)).objs.size = s.heap.objs.size + 1 := Heap.size_push _ _
        unfold Builtin.«set.__init__» noKeywords Builtin.Frozenset.updateFrom
        generalize hp : pyIter = itr
        wp_walk
        subst hp
        refine wpAny_pyIter_list li (wpAny_bind (wpAny_runValue ?_))
        have ne1 : l ≠ (s.heap.push (newSet led)).objs.size := by rw [sz1]; exact Nat.ne_of_lt (Nat.lt_succ_of_lt lt)
        have nf : s.heap.objs.size ∉ [(s.heap.push (newSet led)).objs.size, l] := by
          rw [sz1]
          intro z
          simp only [List.mem_cons, List.not_mem_nil, or_false] at z
          rcases z with z | z
          · exact Nat.ne_of_lt (Nat.lt_succ_self _) z
          · exact Nat.ne_of_gt lt z
        have hn : A.in1.in1.in1.handled = none := by simp [hh]
        have hP : ∀ (i : Nat) (v : Value), its[i]? = some v → ∃ x t, xs[i]? = some x ∧ v = .str x t := fun i v hv => by
          have hv2 : its.toList[i]? = some v := by rw [Array.getElem?_toList]; exact hv
          have hi : i < xs.length := by
            have := (List.getElem?_eq_some_iff.mp hv2).1
            rw [hx.length] at this; exact this
          obtain ⟨t, e⟩ := hx.get i xs[i] (List.getElem?_eq_getElem hi)
          rw [hv2] at e
          exact ⟨xs[i], t, List.getElem?_eq_getElem hi, Option.some.inj e⟩
        refine fill (Walks.list hn _ l ne1 its).toS nf (by rw [len]; exact hz) hP 0 _ rfl (Nat.zero_le _) ⟨⟨_, Heap.get?_push_size _ rfl, rfl, rfl⟩, li.push _⟩ ?_ ?_
        · have g : ((s.heap.push (newSet led)).push { cls := .type "list_iterator", data := .fields #[.ref l, .int 0 0] }).get? s.heap.objs.size = some (newSet led) := Heap.get?_push_of_some _ at0
          exact SetOf_congr ((setObjOf_fresh (knd := PySem.strKind P w) led).setOf g (by unfold scanBound; omega)) (fun _ => rfl) rfl
        · intro s3 mv q3
          obtain ⟨h3, g3, d3, t3, o3⟩ := s3
          obtain rfl : g3 = s.gens := mv.gens
          obtain rfl : d3 = s.drawn := mv.drawn
          obtain rfl : o3 = s.os := mv.os
          show wpAny _ _ _ _ _ _
          refine wpAny_pure ?_
          show wpAny _ _ (ret Value.none) _ _ _
          rw [len] at q3
          refine wpAny_pure ⟨rfl, h3, t3, rfl, q3, fun b o hb e => ?_⟩
          refine mv.heap b o (fun z => ?_) (Heap.get?_push_of_some _ (Heap.get?_push_of_some _ e))
          rw [sz1] at z
          simp only [List.mem_cons, List.not_mem_nil, or_false] at z
          rcases z with z | z
          · exact Nat.ne_of_lt hb z
          · exact Nat.ne_of_lt (Nat.lt_succ_of_lt hb) z
      · cases r2 with
        | error e => exact hr2
        | ok f2 =>
          cases f2 with
          | next => exact False.elim hr2
          | brk => exact False.elim hr2
          | cont => exact False.elim hr2
          | ret v2 =>
            obtain ⟨ev, h2, tk, es, fi⟩ := hr2
            subst ev es
            repeat (any_goals (first | assumption | wp_step))
            exact q h2 tk fi
end
end Tx

set_option Elab.async false
set_option linter.all false
set_option maxRecDepth 100000
set_option maxHeartbeats 4000000
namespace Tx
open PySem PySem.Spec PyProof.Rows L2
/-- a set of texts, made of the list ys -/
def SetT (P : Program) (w : World) (p : Addr) (ys : List Str) : HO := .ext fun h => h.SetOf (PySem.strKind P w) p (fun k => (met ys ys.length).any (· == k)) (met ys ys.length).length
abbrev rSetT (K : PySem.W.Frag) (P : Program) (w : World) : List V → Hp → VK → Prop := fun xs H Q => ∃ l ys, xs = [.ref l] ∧ SqL K H l (List.map V.str ys) ∧ ys.length ≤ 1000 ∧ ∀ p, H p = none → Q (.ref p) (upd H p (SetT P w p ys))
abbrev rLenT (P : Program) (w : World) : List V → Hp → VK → Prop := fun xs H Q => ∃ p ys, xs = [.ref p] ∧ H p = some (SetT P w p ys) ∧ ys.length ≤ 1000 ∧ Q (.int ((met ys ys.length).length : Int)) H
section
variable {X : Cx}
theorem cr_setT (hc : X.calm = true) : CallR X (.type "set") (rSetT X.K X.prog X.w) := by
  intro pins s σ H xs us Q I r h
  obtain ⟨l, ys, rfl, hl, hz, q⟩ := h
  obtain ⟨u, rfl, ru⟩ := vals1 r
  obtain rfl : u = Value.ref l := ru
  obtain ⟨its, rv, pl, _⟩ := I.list hl
  refine call_set (I.ok.hd hc) pl.isList (by simpa using strsAre_of rv) (by unfold scanBound; omega) fun h2 tk fi => ?_
  have new : ObjOk X.prog X.w (upd H s.heap.objs.size (SetT X.prog X.w s.heap.objs.size ys)) h2 s.heap.objs.size (SetT X.prog X.w s.heap.objs.size ys) := by
    refine ⟨fi.1, ?_, fun h3 h4 z k => ?_⟩
    · obtain ⟨o, _, _, _, ho, _⟩ := fi.1
      exact ⟨o, ho⟩
    · obtain ⟨o, es, ep, t, ho, z⟩ := z
      exact ⟨o, es, ep, t, k o ho, z⟩
  exact ⟨.ref s.heap.objs.size, upd H s.heap.objs.size (SetT X.prog X.w s.heap.objs.size ys), I.laid (t' := tk) (fun b o e => fi.2 b o (Heap.lt_size e) e) (Nat.le_refl _) new, rfl, q s.heap.objs.size (I.hok.fresh (Nat.le_refl _))⟩
theorem cr_lenT : CallR X (.builtin "len") (rLenT X.prog X.w) := by
  intro pins s σ H xs us Q I r h
  obtain ⟨p, ys, rfl, hp, hz, q⟩ := h
  obtain ⟨u, rfl, ru⟩ := vals1 r
  obtain rfl : u = Value.ref p := ru
  obtain ⟨⟨o, es, ep, t, ho, hex, hd, _, _, _, hf, hn⟩, _⟩ := (show ObjOk X.prog X.w H s.heap p (SetT X.prog X.w p ys) from I.hok p _ hp)
  have le := met_le ys ys.length
  refine call_len_set ho hex hd hf (by rw [hn] <;> omega) ⟨.int _, H, I.tok _, ⟨_, by rw [hn]⟩, q⟩
end
end Tx

set_option Elab.async false
set_option linter.all false
set_option maxRecDepth 100000
set_option maxHeartbeats 4000000
/-! an exception that is caught, and kept under another name: try .. except C as n: x = n -/
namespace Kp
open PySem PySem.Spec PyProof.Rows L2
/-- an exception object of the class cls, without a dict of its own -/
def ExT (cls : Value) (a : Addr) : HO := .ext fun h => ∃ (oe : Obj) (vs : Array Value), h.get? a = some oe ∧ Zc cls none oe ∧ oe.data = .fields vs
section
variable {X : Cx} {pins : List (Addr × Obj)} {σ : L2.St} {H : Hp} {s : Shared} {a : Addr} {oe : Obj} {vs : Array Value} {cls : Value}
/-- it is looked at from here on as a thing of ours -/
theorem track (I : Inv X pins σ H s) (he : s.heap.get? a = some oe) (hz : Zc cls none oe) (hd : oe.data = .fields vs) (na : H a = none) (n0 : X.s_0.heap.get? a = none) (nL : a ≠ X.env.locals)
    (np : ∀ p ∈ X.pn ++ pins, p.1 ≠ a) : Inv X pins σ (upd H a (ExT cls a)) s where
  ok := I.ok
  os := I.os
  bare := I.bare
  base := by
    have ne : ∀ b o, X.s_0.heap.get? b = some o → b ≠ a := fun b o e z => by rw [z, n0] at e; cases e
    have nh : ∀ b o, H b = some o → b ≠ a := fun b o e z => by rw [z, na] at e; cases e
    refine ⟨I.base.keep, I.base.slot, fun b o e n x => ?_, I.base.there, fun b xs e => ?_, fun b o u e => ?_, fun b ps e => ?_⟩
    · rw [upd_ne (ne b o e)]; exact I.base.free b o e n x
    · have z := I.base.tups b xs e
      rw [upd_ne (nh b _ z)]; exact z
    · have z := I.base.frzs b o u e
      rw [upd_ne (nh b _ z)]; exact z
    · obtain ⟨m, z⟩ := I.base.tbls b ps e
      exact ⟨m, by rw [upd_ne (nh b _ z)]; exact z⟩
  loc := I.loc
  cell := I.cell
  free := by rw [upd_ne nL.symm]; exact I.free
  freeC := fun x c e => by
    have nc : c ≠ a := fun z => by
      obtain ⟨v, q⟩ := I.cell x c e
      obtain ⟨oc, h1, h2⟩ := q
      rw [z, he] at h1
      cases h1
      rw [hd] at h2
      exact nomatch h2
    rw [upd_ne nc]; exact I.freeC x c e
  pin := fun p hp => by
    obtain ⟨q1, q2, q3⟩ := I.pin p hp
    exact ⟨q1, by rw [upd_ne (np p hp)]; exact q2, q3⟩
  hok := fun b u e => by
    by_cases hb : b = a
    · subst hb
      rw [upd_same] at e
      cases e
      exact ⟨⟨oe, vs, he, hz, hd⟩, ⟨oe, he⟩, fun _ _ ⟨o, v, q, r⟩ k => ⟨o, v, k o q, r⟩⟩
    · rw [upd_ne hb] at e
      exact (I.hok b u e).stay (fun c v _ q => q) (fun c q => by rw [upd_ne (ne_of_none q na)]; exact q) fun c xs q => by rw [upd_ne (ne_of_none q na)]; exact q
  len := I.len
/-- isinstance(e, c), e a kept exception of the class D -/
def rIsX (K : PySem.W.Frag) : List V → Hp → VK → Prop := fun xs H Q => ∃ (a D : Addr) (c : V) (cv : Value) (b : Bool), xs = [.ref a, c] ∧ ClsV c cv ∧ H a = some (ExT (.ref D) a) ∧ ExcC K D ∧ PySem.W.kitOne K (.ref D) cv = some b ∧ Q (.bl b) H
theorem call_isX : CallR X (.builtin "isinstance") (rIsX X.K) := by
  intro pins s σ H xs us Q I r h
  obtain ⟨a, D, c, cv, b, rfl, hc, ha, C, e, q⟩ := h
  obtain ⟨u1, u2, rfl, r1, r2⟩ := vals2 r
  obtain rfl : u1 = Value.ref a := r1
  obtain rfl := hc.eq r2
  obtain ⟨⟨oe, vs, he, hz, hd⟩, _⟩ := (show ObjOk X.prog X.w H s.heap a (ExT (.ref D) a) from I.hok a _ ha)
  have J : PySem.W.InstAt s.heap a oe D none := by
    obtain ⟨oc, od, oda, osl⟩ := oe
    obtain ⟨h1, h2⟩ := hz
    dsimp only at h1 h2 hd
    subst h1 h2 hd
    exact ⟨he, rfl, rfl, trivial⟩
  exact PySem.W.kia_one (PySem.W.handS_kitx_exc C.hg C.hk C.hs C.hd C.ha C.hn C.ht C.hm) I.kIn J e (fun z => nomatch z) fun tk => ⟨.bl b, H, I.kept (t' := tk) fun _ _ z => z, rfl, q⟩
end

/-- what the clause 'except x as n: m = n' asks of an exception of the body (n at slot i, m at slot j) -/
def wKp (K : PySem.W.Frag) (c : Value) (i j : Nat) (D : Ends) : WX := fun cls d σ H =>
  d = none ∧ PySem.W.exmOne K cls c = some true ∧ ∀ a, H a = none → D.nx (((σ.set i (some (.ref a))).set j (some (.ref a))).set i none) (upd H a (ExT cls a))
section
variable {X : Cx} {x n m : Str} {c : Value} {i j : Nat} {body : List Stmt} {np pos pos' q1 q2 q3 : Pos} {tb : WX → TS}
theorem ps_try_keep (hs : X.stack = X.env :: X.outer) (hf : X.env.frame = some X.env.locals) (hex : X.ex = []) (nd : X.N.Nodup) (hi : X.N[i]? = some n) (hj : X.N[j]? = some m) (hln : X.env.kindOf n = some .local) (hlm : X.env.scope.names.lookup m = some .local) (hvn : X.env.scope.names.lookup n = some .local)
    (hc : Names X x c) (h1 : (n == ("__debug__" : Str)) = false) (h2 : (n == ("__classdict__" : Str)) = false)
    (hb : ∀ (W : WX) (pn : List (Addr × Obj)) (xe : Value → Shared → Prop), Takes (X.tr pn xe) W → PassesOwn (model X.prog X.w) X.A X.env xe → PSs (X.tr pn xe) body (tb W))
    (hsw : swapsWith (.Name n q2) (some (.Name m q1)) q3.line X.env = pure false) :
    PS X (.Try body [.ExceptHandler (some (.Name x np)) (some n) [.Assign [.Name m q1] (.Name n q2) q3] pos'] [] [] pos) (fun D σ H => tb (wKp X.K c i j D) D σ H) where
  run pins s σ H D I h := by
    have ok := I.ok
    have frames : X.A.frames = some (X.env :: X.outer) := by rw [ok.frames, hs]
    apply wpAny_Try_except
    refine wpAny_mono ((hb (wKp X.K c i j D) (X.pn ++ pins) (fun e s1 => wpAny (model X.prog X.w) X.A (noteFrame e X.env) (fun _ s2 => wpAny (model X.prog X.w) X.A (setFlight e none)
      (fun _ s3 => wpAny (model X.prog X.w) X.A (handleBy e X.env [.ExceptHandler (some (.Name x np)) (some n) [.Assign [.Name m q1] (.Name n q2) q3] pos']) (SP X pins D) X.xe s3) X.xe s2) X.xe s1)
      (fun u s1 flown => ?_) PassesOwn.looking).run [] s σ H D (I.toTry _) h) (fun f s1 done => ?_) (fun _ _ z => z)
    · obtain ⟨a, B, s0, pins0, σ1, H1, cls, d, rfl, I0, ground, slots, sky, na, os, bare, ed, hit, go⟩ := flown
      subst ed
      have J0 : Inv X pins σ1 H1 s0 := I0.ofTry ok
      rw [show (X.tr (X.pn ++ pins) _).stack = X.env :: X.outer from hs] at sky
      show wpAny (model X.prog X.w) X.A (noteFrame (.ref a) X.env) _ _ _
      refine Sky.land Zc.steady frames hf sky fun hA flA upA => ?_
      have JA : Inv X pins σ1 H1 { s1 with heap := hA } := J0.landed ground flA.1 (slots.trans upA) os bare
      have noB : B.get? a = none := flA.2.1
      -- the exception is none of the frames
      have apart : ∀ {hh : Heap} {o : Obj} {ws : Array Value}, hh.FunFrames B (X.env :: X.outer) → hh.get? a = some o → o.data = .fields ws → a ∉ frs (X.env :: X.outer) := fun ff e dd z => by
        obtain ⟨_, o2, e2, nf⟩ := ff.mem z
        rw [e] at e2
        cases e2
        exact nf _ dd
      obtain ⟨oA, wA, eA, zA, dA⟩ := flA.there
      have nfr := apart flA.2.2.1 eA dA
      have nL : a ≠ X.env.locals := fun z => nfr (List.mem_filterMap.mpr ⟨X.env, List.mem_cons_self, by rw [hf, z]⟩)
      have nF : a ∉ X.fs := fun z => by
        obtain ⟨e, he, q⟩ := List.mem_filterMap.mp z
        exact nfr (List.mem_filterMap.mpr ⟨e, List.mem_cons_of_mem _ he, q⟩)
      -- it is younger than the frame's entry, and none of what is pinned
      have no0 : s0.heap.get? a = none := by
        cases e : s0.heap.get? a with
        | none => rfl
        | some o =>
          have z := ground a o e (by rw [show (X.tr (X.pn ++ pins) _).stack = X.env :: X.outer from hs]; exact nfr)
          rw [noB] at z
          cases z
      have n0 : X.s_0.heap.get? a = none := by
        cases e : X.s_0.heap.get? a with
        | none => rfl
        | some o =>
          obtain ⟨o2, z⟩ := J0.base.there a o e (by rw [hex]; exact fun z => nomatch z)
          rw [no0] at z
          cases z
      have npin : ∀ p ∈ X.pn ++ pins, p.1 ≠ a := fun p hp z => by
        have q := (J0.pin p hp).1
        rw [z, no0] at q
        cases q
      refine wpAny_handleBy_cons (codeAny_handlers_test ?_) (by intro z; cases z)
      have SA := JA.suite eA dA na nL nF
      have kind : PySem.W.Looks (model X.prog X.w) hA (typeOf (.ref a)) cls := fun A Q E s k q => wpAny_typeOf_ref (k _ _ eA) (by rw [zA.1]; exact q)
      have meets := PySem.W.exm_one (M := model X.prog X.w) JA.kIn kind hit
      have named : ∀ {Q : Value → Shared → Prop} {E : Value → Shared → Prop}, Q c { s1 with heap := hA } → wpAny (model X.prog X.w) (X.A.mark (some (.ref a))) (eval (.Name x np) X.env) Q E { s1 with heap := hA } := fun q => by
        obtain ⟨hg, hdb, hm | ⟨hm, hv, hn⟩⟩ := hc
        · exact ld_glob (X := X.suite a ((a, oA) :: (X.pn ++ pins))) SA hg hm q hdb
        · exact ld_blt (X := X.suite a ((a, oA) :: (X.pn ++ pins))) SA hg hm hv q hn hdb
      refine named (meets.here (codeAny_handlers_suite_as ?_))
      refine HandSPX.lands_againZ flA fun hB flB upB => ?_
      have JB : Inv X pins σ1 H1 { s1 with heap := hB } := J0.landed ground flB.1 ((slots.trans upA).trans upB) os bare
      obtain ⟨oB, wB, eB, zB, dB⟩ := flB.there
      have SB := JB.suite eB dB na nL nF
      refine store_ok (X := X.suite a ((a, oB) :: (X.pn ++ pins))) (v := .ref a) SB nd hi (.inl hln) rfl (fun s2 S2 => ?_) (.inr hvn)
      -- m = n
      have step : PSs (X.suite a ((a, oB) :: (X.pn ++ pins))) [.Assign [.Name m q1] (.Name n q2) q3] (tAsg (tVar i) (gName j)) :=
        pss_one (ps_set (X := X.suite a ((a, oB) :: (X.pn ++ pins))) nd hj (.inl hlm) (pe_var (X := X.suite a ((a, oB) :: (X.pn ++ pins))) hi (.inl hvn) h1 h2) hsw (.inr hlm))
      have li : i < σ1.length := by
        rw [J0.len]
        exact (List.getElem?_eq_some_iff.mp hi).1
      have reads : (σ1.set i (some (V.ref a)))[i]? = some (some (V.ref a)) := by rw [List.getElem?_set_self li]
      refine wpAny_mono (step.run [] s2 _ H1 { nx := fun σ' H' => σ' = (σ1.set i (some (.ref a))).set j (some (.ref a)) ∧ H' = H1, rt := fun _ _ => False, bk := fun _ _ => False, ct := fun _ _ => False } S2 ⟨_, reads, rfl, rfl⟩) (fun f s3 done => ?_) (fun _ _ z => False.elim z)
      cases f with
      | brk => obtain ⟨_, _, _, z⟩ := done; exact z.elim
      | cont => obtain ⟨_, _, _, z⟩ := done; exact z.elim
      | ret u => obtain ⟨_, _, _, _, _, z⟩ := done; exact z.elim
      | next =>
        obtain ⟨σ3, H3, S3, e3, e4⟩ := done
        subst e3 e4
        have he3 := (S3.pin (a, oB) (List.mem_append_left _ List.mem_cons_self)).1
        have J3 : Inv X pins _ (upd H3 a (ExT cls a)) s3 := track (S3.unsuite ok) he3 zB dB na n0 nL npin
        exact gone_ok J3 nd hi hln fun s4 J4 => ⟨_, _, J4, go a na⟩
    · cases f with
      | next =>
        obtain ⟨σ1, H1, J, q⟩ := done
        exact wpAny_execs_nil ⟨σ1, H1, J.ofTry ok, q⟩
      | brk =>
        obtain ⟨σ1, H1, J, q⟩ := done
        exact ⟨σ1, H1, J.ofTry ok, q⟩
      | cont =>
        obtain ⟨σ1, H1, J, q⟩ := done
        exact ⟨σ1, H1, J.ofTry ok, q⟩
      | ret u =>
        obtain ⟨v, σ1, H1, J, r, q⟩ := done
        exact ⟨v, σ1, H1, J.ofTry ok, r, q⟩
end
end Kp

set_option Elab.async false
set_option linter.all false
set_option maxRecDepth 100000
set_option maxHeartbeats 4000000
namespace Cd
open PySem PySem.Spec PyProof.Rows L2
open Evl (Ex sq_of ex_l sz_of sz_lt fresh_back)
/-! ### xs[::k], k 1 or -1; a text times a number -/
/-- all, or all backwards -/
def tSlS (K : PySem.W.Frag) (te ts : TE) : TE := fun σ H Q => te σ H fun x H1 => ts σ H1 fun y H2 => ∃ a xs, ∃ k : Int, x = .ref a ∧ y = .int k ∧ (k = 1 ∨ k = -1) ∧ SqL K H2 a xs ∧ ∀ p, H2 p = none → Q (.ref p) (upd H2 p (.lst (if k = 1 then xs else xs.reverse)))
theorem pick_one (its : Array Value) : slicePick its none none (some 1) = its.toList.toArray := by
  have h := slicePick_cut its.toList none none
  rw [Array.toArray_toList] at h
  have e : slicePick its none none (some 1) = slicePick its none none none := by
    unfold slicePick
    rfl
  rw [e, h, HT.sIx_none, HT.sIx_none, List.drop_zero, Nat.sub_zero, List.take_length]
theorem Vals.rev : ∀ {xs : List V} {us : List Value}, Vals xs us → Vals xs.reverse us.reverse
  | _, _, .nil => .nil
  | _, _, .cons r t => by
    rw [List.reverse_cons, List.reverse_cons]
    exact Vals.append (Vals.rev t) (.cons r .nil)
section
variable {X : Cx}
theorem pe_sliceStep {e st : Expr} {te ts : TE} {pos p2 : Pos} (he : PE X e te) (hst : PE X st ts) (hs : ∀ o i, ∃ ops, subscripted (.Slice none none (some st) p2) false o i = operate ops (getItem o i)) :
    PE X (.Subscript e (.Slice none none (some st) p2) pos) (tSlS X.K te ts) where
  run pins s σ H Q I h := by
    apply Subscript_
    refine thn (he.run pins s σ H _ I h) fun v s1 ⟨x, H1, I1, rx, q1⟩ => ?_
    apply wpAny_Slice
    rw [evalPart_none]
    refine wpAny_pure (wpAny_pure ?_)
    rw [evalPart_some]
    refine thn (hst.run pins s1 σ H1 _ I1 q1) fun u s2 ⟨y, H2, I2, ry, a, xs, k, ex, ey, hk, hl, q⟩ => ?_
    subst ex ey
    obtain rfl : v = Value.ref a := rx
    obtain ⟨t, rfl⟩ := ry
    have I3 : Inv X pins σ H2 { s2 with heap := s2.heap.push { cls := .type "slice", data := .fields #[.none, .none, .int k t] } } := I2.kept (t' := s2.toks) fun b o z => Heap.get?_push_of_some _ z
    obtain ⟨its, rv, pl, hz⟩ := I3.list hl
    have hlen := rv.length
    show wpAny _ _ (subscriptTail e (.Slice none none (some st) p2) (.ref a) (.ref s2.heap.objs.size)) _ _ _
    obtain ⟨ops, hops⟩ := hs (.ref a) (.ref s2.heap.objs.size)
    refine tail_any (ops := ops) pl.isList.typeIs PySem.slot_list_getitem.lookup ?_ hops
    refine wpAny_getItem_list_slice pl.isList (Heap.IsSliceOf.new ..) .none .none (.int k t) (by rcases hk with rfl | rfl <;> simp) ?_ (by rw [List.size_toArray, ← hlen]; exact hz)
    have fin : ∀ {ys : List V} {us : List Value}, Vals ys us → ys.length ≤ sizeLine → (∀ p, H2 p = none → Q (.ref p) (upd H2 p (.lst ys))) → EP X pins σ Q (.ref (s2.heap.push { cls := .type "slice", data := .fields #[.none, .none, .int k t] }).objs.size)
        { s2 with heap := (s2.heap.push { cls := .type "slice", data := .fields #[.none, .none, .int k t] }).push { cls := .type "list", data := .seq us.toArray } } := fun {ys us} r z g =>
      ⟨.ref _, upd H2 _ (.lst ys), I3.laid (t' := s2.toks) (fun b o z => Heap.get?_push_of_some _ z) (Nat.le_refl _) ⟨z, us, 0, r, Heap.get?_push_size _ rfl⟩, rfl, g _ (I3.hok.fresh (Nat.le_refl _))⟩
    rcases hk with rfl | rfl
    · rw [pick_one]
      exact fin rv hz fun p hp => q p hp
    · rw [PySem.W.krv_pick]
      exact fin (Vals.rev rv) (by rw [List.length_reverse]; exact hz) fun p hp => q p hp
/-- a text many times -/
abbrev oMulS : R2 := fun x y H Q => ∃ z, ∃ k : Nat, x = .str z ∧ y = .int (k : Int) ∧ z.length = 1 ∧ k ≤ 1000 ∧ Q (.str (PySem.Txt.mul z (k : Int))) H
theorem op_mulS : OpR X (binaryOp .Mult) oMulS := by
  intro pins s σ H x y v u Q I rx ry h
  obtain ⟨z, k, rfl, rfl, hz, hk, q⟩ := h
  obtain ⟨t, rfl⟩ := rx
  obtain ⟨t2, rfl⟩ := ry
  refine PySem.SB.mul ⟨?_, fun h1 _ h3 => ?_, fun h1 _ => ?_⟩ fun t3 j => ⟨.str _, H, I.kept (t' := j) fun _ _ z => z, ⟨t3, rfl⟩, q⟩
  · rw [Bool.or_eq_false_iff, decide_eq_false_iff_not, decide_eq_false_iff_not]
    omega
  · have h4 : (1 : Int) ≤ (2 ^ 63 - 1) / (k : Int) := (Int.le_ediv_iff_mul_le (by omega)).mpr (by omega)
    rw [hz] at h3
    omega
  · rw [hz]
    unfold PySem.Builtin.Str.tooLong
    rw [decide_eq_false_iff_not, sizeLine_eq]
    omega
end
end Cd

set_option Elab.async false
set_option linter.all false
set_option maxRecDepth 100000
set_option maxHeartbeats 4000000
namespace Cd
open PySem PySem.Spec PyProof.Rows L2
def sk (k : Nat) : Str := Str.ofString (toString (k : Int))
/-- read back -/
def skVal (z : Str) : Nat := z.cps.toList.foldl (fun n c => n * 10 + (c - 48)) 0
theorem sk_facts : ∀ k, k < 402 → skVal (sk k) = k ∧ (sk k).length ≤ 3 ∧ PyData.strOk (sk k) = true := by decide +kernel
def sa : Str := Str.ofString "a"
theorem fold_reps (x : Array Nat) : ∀ (n : Nat) (acc : Array Nat), ((List.replicate n x).foldl (· ++ ·) acc).toList = acc.toList ++ (List.replicate n x.toList).flatten
  | 0, acc => by simp
  | n + 1, acc => by rw [List.replicate_succ, List.foldl_cons, fold_reps x n, List.replicate_succ, List.flatten_cons, Array.toList_append, List.append_assoc]
theorem mul_sa (k : Nat) : (PySem.Txt.mul sa (k : Int)).cps.toList = List.replicate k 97 := by
  have ha : sa.cps = #[97] := by decide +kernel
  unfold PySem.Txt.mul
  by_cases h1 : (k : Int) < 1
  · rw [if_pos h1]
    have : k = 0 := by omega
    subst this; rfl
  · rw [if_neg h1]
    by_cases h2 : ((k : Int) == 1 || sa.length == 0) = true
    · rw [if_pos h2]
      have h3 : sa.length = 1 := by decide +kernel
      rw [h3] at h2
      have e1 : (k : Int) = 1 := by simpa using h2
      have : k = 1 := by omega
      subst this
      rw [ha]; rfl
    · rw [if_neg h2]
      show ((List.replicate (k : Int).toNat sa.cps).foldl (· ++ ·) #[]).toList = _
      rw [fold_reps, ha, Int.toNat_natCast]
      simp
/-- a hand of the law's, by one of three ways -/
def handAt (way : Nat) (base : Str) (k : Nat) : Str := match way with
  | 0 => base ++ sk k
  | 1 => sk k ++ base
  | _ => PySem.Txt.mul sa (k : Int) ++ base
theorem app_cps (x y : Str) : (x ++ y).cps = x.cps ++ y.cps := rfl
theorem app_len (x y : Str) : (x ++ y).length = x.length + y.length := by
  show (x.cps ++ y.cps).size = _
  rw [Array.size_append]; rfl
theorem str_ext {x y : Str} (h : x.cps = y.cps) : x = y := by
  cases x; cases y; cases h; rfl
theorem app_left {x y z : Str} (h : x ++ y = x ++ z) : y = z := by
  have e := congrArg Str.cps h
  rw [app_cps, app_cps] at e
  apply str_ext
  have := congrArg Array.toList e
  rw [Array.toList_append, Array.toList_append] at this
  exact Array.toList_inj.mp (List.append_cancel_left this)
theorem app_right {x y z : Str} (h : x ++ z = y ++ z) : x = y := by
  have e := congrArg Str.cps h
  rw [app_cps, app_cps] at e
  apply str_ext
  have := congrArg Array.toList e
  rw [Array.toList_append, Array.toList_append] at this
  exact Array.toList_inj.mp (List.append_cancel_right this)
theorem sk_inj {i j : Nat} (hi : i < 402) (hj : j < 402) (h : sk i = sk j) : i = j := by
  rw [← (sk_facts i hi).1, ← (sk_facts j hj).1, h]
theorem mul_len (k : Nat) : (PySem.Txt.mul sa (k : Int)).length = k := by
  have := congrArg List.length (mul_sa k)
  rw [List.length_replicate] at this
  simpa [Str.length] using this
theorem hand_inj {way : Nat} {base : Str} {i j : Nat} (hi : i < 402) (hj : j < 402) (h : handAt way base i = handAt way base j) : i = j := by
  unfold handAt at h
  split at h
  · exact sk_inj hi hj (app_left h)
  · exact sk_inj hi hj (app_right h)
  · have e := congrArg Str.length (app_right h)
    rw [mul_len, mul_len] at e
    exact e
theorem nodup_of_inj {α β : Type} {f : α → β} : ∀ {l : List α}, l.Nodup → (∀ x ∈ l, ∀ y ∈ l, f x = f y → x = y) → (l.map f).Nodup
  | [], _, _ => List.nodup_nil
  | a :: l, h, g => by
    rw [List.nodup_cons] at h
    rw [List.map_cons, List.nodup_cons]
    refine ⟨fun m => ?_, nodup_of_inj h.2 fun x hx y hy => g x (List.mem_cons_of_mem _ hx) y (List.mem_cons_of_mem _ hy)⟩
    obtain ⟨b, hb, e⟩ := List.mem_map.mp m
    have := g b (List.mem_cons_of_mem _ hb) a List.mem_cons_self e
    rw [this] at hb
    exact h.1 hb
theorem hands_nodup (way : Nat) (base : Str) {m : Nat} (hm : m ≤ 402) : ((List.range m).map (handAt way base)).Nodup := by
  refine nodup_of_inj List.nodup_range fun x hx y hy e => hand_inj ?_ ?_ e
  · have := List.mem_range.mp hx; omega
  · have := List.mem_range.mp hy; omega

theorem ok_app {x y : Str} (h : PyData.strOk x = true) (h' : PyData.strOk y = true) : PyData.strOk (x ++ y) = true := by
  unfold PyData.strOk at *
  rw [app_cps, Array.all_append, h, h']; rfl
theorem ok_mul (k : Nat) : PyData.strOk (PySem.Txt.mul sa (k : Int)) = true := by
  unfold PyData.strOk
  rw [← Array.all_toList, mul_sa, List.all_eq_true]
  intro x hx
  rw [List.eq_of_mem_replicate hx]
  decide
/-- the law's own text: a few signs -/
structure Base (z : Str) : Prop where
  len : z.length ≤ 5
  ok : PyData.strOk z = true
theorem hand_ok {way : Nat} {base : Str} (b : Base base) {k : Nat} (hk : k < 402) : PyData.strOk (handAt way base k) = true := by
  unfold handAt
  split
  · exact ok_app b.ok (sk_facts k hk).2.2
  · exact ok_app (sk_facts k hk).2.2 b.ok
  · exact ok_app (ok_mul k) b.ok
/-- single signs, one behind the other -/
theorem glue_len : ∀ (cs : List Nat) (acc : Array Nat), (((cs.map fun c => (⟨#[c]⟩ : Str))).foldl (fun a p => a ++ (Str.ofString "").cps ++ p.cps) acc).size = acc.size + cs.length
  | [], acc => by simp
  | c :: cs, acc => by
    rw [List.map_cons, List.foldl_cons, glue_len cs, List.length_cons]
    simp [show (Str.ofString "").cps = #[] by decide +kernel]
    omega
theorem glue_ok : ∀ (cs : List Nat) (acc : Array Nat), acc.all (· < 0x110000) = true → (∀ c ∈ cs, c < 0x110000) → (((cs.map fun c => (⟨#[c]⟩ : Str))).foldl (fun a p => a ++ (Str.ofString "").cps ++ p.cps) acc).all (· < 0x110000) = true
  | [], acc, h, _ => h
  | c :: cs, acc, h, g => by
    rw [List.map_cons, List.foldl_cons]
    refine glue_ok cs _ ?_ fun x hx => g x (List.mem_cons_of_mem _ hx)
    rw [show (Str.ofString "").cps = #[] by decide +kernel, Array.append_empty, Array.all_append, h]
    simp [g c List.mem_cons_self]
theorem base_of {cs : List Nat} (h5 : cs.length ≤ 5) (g : ∀ c ∈ cs, c < 0x110000) : Base (PySem.Txt.join (Str.ofString "") (cs.map fun c => (⟨#[c]⟩ : Str))) := by
  unfold PySem.Txt.join Builtin.Str.glued
  cases cs with
  | nil => exact ⟨by decide, by decide +kernel⟩
  | cons c cs =>
    rw [List.map_cons, List.drop_one, List.tail_cons, List.headD_cons]
    refine ⟨?_, ?_⟩
    · show Array.size _ ≤ 5
      rw [glue_len]
      rw [List.length_cons] at h5
      show 1 + cs.length ≤ 5
      omega
    · exact glue_ok cs _ (by simpa using g c List.mem_cons_self) fun x hx => g x (List.mem_cons_of_mem _ hx)
end Cd

set_option Elab.async false
set_option linter.all false
set_option maxRecDepth 100000
set_option maxHeartbeats 4000000
namespace Cd
open PySem PySem.Spec PyProof.Rows L2
/-! ### texts without the sign e -/
def noE (z : Str) : Prop := 101 ∉ z.cps.toList
theorem noE_app {x y : Str} (h : noE x) (h' : noE y) : noE (x ++ y) := by
  unfold noE at *
  rw [app_cps, Array.toList_append, List.mem_append]
  rintro (z | z)
  · exact h z
  · exact h' z
theorem sk_noE : ∀ k, k < 402 → noE (sk k) := by
  have : ∀ k, k < 402 → (sk k).cps.toList.contains 101 = false := by decide +kernel
  intro k hk z
  have h := this k hk
  rw [← Bool.not_eq_true, List.contains_iff_mem] at h
  exact h z
theorem mul_noE (k : Nat) : noE (PySem.Txt.mul sa (k : Int)) := by
  unfold noE
  rw [mul_sa]
  intro z
  have := List.eq_of_mem_replicate z
  omega
theorem glue_mem : ∀ (cs : List Nat) (acc : Array Nat) (x : Nat), x ∈ (((cs.map fun c => (⟨#[c]⟩ : Str))).foldl (fun a p => a ++ (Str.ofString "").cps ++ p.cps) acc).toList → x ∈ acc.toList ∨ x ∈ cs
  | [], acc, x, h => .inl h
  | c :: cs, acc, x, h => by
    rw [List.map_cons, List.foldl_cons] at h
    rcases glue_mem cs _ x h with h | h
    · rw [show (Str.ofString "").cps = #[] by decide +kernel, Array.append_empty, Array.toList_append, List.mem_append] at h
      rcases h with h | h
      · exact .inl h
      · refine .inr ?_
        have : x = c := by simpa using h
        rw [this]; exact List.mem_cons_self
    · exact .inr (List.mem_cons_of_mem _ h)
theorem join_noE {cs : List Nat} (h : ∀ c ∈ cs, c ≠ 101) : noE (PySem.Txt.join (Str.ofString "") (cs.map fun c => (⟨#[c]⟩ : Str))) := by
  unfold PySem.Txt.join Builtin.Str.glued noE
  cases cs with
  | nil => decide +kernel
  | cons c cs =>
    rw [List.map_cons, List.drop_one, List.tail_cons, List.headD_cons]
    intro z
    rcases glue_mem cs _ 101 z with z | z
    · have : 101 = c := by simpa using z
      exact h c List.mem_cons_self this.symm
    · exact h 101 (List.mem_cons_of_mem _ z) rfl
theorem hand_noE {way : Nat} {base : Str} (b : noE base) {k : Nat} (hk : k < 402) : noE (handAt way base k) := by
  unfold handAt
  split
  · exact noE_app b (sk_noE k hk)
  · exact noE_app (sk_noE k hk) b
  · exact noE_app (mul_noE k) b
/-- who comes: e stands within -/
def cam (k : Nat) : Str := Str.ofString "came" ++ sk k
theorem cam_e (k : Nat) : ¬ noE (cam k) := by
  unfold noE cam
  rw [app_cps, Array.toList_append, Classical.not_not]
  exact List.mem_append_left _ (by decide +kernel)
theorem cam_inj {i j : Nat} (hi : i < 402) (hj : j < 402) (h : cam i = cam j) : i = j := sk_inj hi hj (app_left h)
theorem cam_ok {k : Nat} (hk : k < 402) : PyData.strOk (cam k) = true := ok_app (by decide +kernel) (sk_facts k hk).2.2
end Cd

set_option Elab.async false
set_option linter.all false
set_option maxRecDepth 100000
set_option maxHeartbeats 2000000
namespace Cd
open PySem PySem.Spec PyProof.Rows L2
open Evl (Ex sq_of ex_l sz_of sz_lt fresh_back)
/-! ### the law's own chance: one number in a list -/
def StOk (s : Int) : Prop := 0 ≤ s ∧ s < 4294967296
def StAt (H : Hp) (p : Addr) : Prop := ∃ s, StOk s ∧ H p = some (.lst [.int s])
/-- all but the number stays -/
def Run (p : Addr) (H H' : Hp) : Prop := (∀ b o, b ≠ p → H b = some o → H' b = some o) ∧ StAt H' p
theorem Run.refl {p : Addr} {H : Hp} (h : StAt H p) : Run p H H := ⟨fun _ _ _ e => e, h⟩
theorem Run.trans {p : Addr} {H H1 H2 : Hp} (a : Run p H H1) (b : Run p H1 H2) : Run p H H2 := ⟨fun c o n e => b.1 c o n (a.1 c o n e), b.2⟩
theorem StAt.ex {p : Addr} {H H' : Hp} (h : StAt H p) (e : Ex H H') : StAt H' p := by
  obtain ⟨s, h1, h2⟩ := h
  exact ⟨s, h1, e _ _ h2⟩
theorem Run.ex {p : Addr} {H H' : Hp} (h : StAt H p) (e : Ex H H') : Run p H H' := ⟨fun b o _ x => e b o x, h.ex e⟩
theorem Run.new {p q : Addr} {H H' : Hp} {o : HO} (r : Run p H H') (h : H' q = none) : Run p H (upd H' q o) := r.trans (Run.ex r.2 (Ex.new h))
theorem Run.free {p q : Addr} {H H' : Hp} (r : Run p H H') (h : H' q = none) : H q = none := by
  cases e : H q with
  | none => rfl
  | some o =>
    by_cases n : q = p
    · obtain ⟨s, _, h2⟩ := r.2
      rw [← n, h] at h2; cases h2
    · rw [r.1 q o n e] at h; cases h
theorem StAt.ne {p q : Addr} {H : Hp} (h : StAt H p) (n : H q = none) : q ≠ p := fun e => by
  obtain ⟨s, _, h2⟩ := h
  rw [e, h2] at n; cases n
theorem Run.keep {p q : Addr} {H H' : Hp} {o : HO} (r : Run p H H') (n : q ≠ p) (e : H q = some o) : H' q = some o := r.1 q o n e
theorem pos0 {j : Int} (h : 0 < j) : 0 < j := h
theorem at0 {v : V} {xs : List V} : atI (v :: xs) 0 = some v := by simp [atI, ixN]
def t_next (K : PySem.W.Frag) : TS :=
(tSeq (tAsg (tOp oMod (tOp oAdd (tOp oMul (tOp (rIxL K) (tVar 0) (tC (.int 0))) (tC (.int 48271))) (tC (.int 11))) (tC (.int 2147483647))) (gSub (tVar 0) (tC (.int 0)) rSetL))
  (tRet (tOp oFdiv (tOp oMod (tOp oMul (tOp (rIxL K) (tVar 0) (tC (.int 0))) (tOp (rIxL K) (tVar 0) (tC (.int 0)))) (tC (.int 2147483629))) (tC (.int 7)))))
def sNext : Sp := fun vs H Q _ => ∃ p, vs = [.ref p] ∧ StAt H p ∧ ∀ H' n, Run p H H' → 0 ≤ n → n < 306783376 → Q (.int n) H'
theorem pure_next {K : PySem.W.Frag} {vs : List V} {H : Hp} {Q : VK} {E : XK} {nx : L2.St → Hp → Prop} (h : sNext vs H Q E) : t_next K { nx := nx, rt := Q } (start ["_law_state_here"] vs) H := by
  obtain ⟨p, rfl, ⟨s, hs, hp⟩, q⟩ := h
  have b1 : 0 ≤ (s * 48271 + 11) % 2147483647 := Int.emod_nonneg _ (by decide)
  have b2 : (s * 48271 + 11) % 2147483647 < 2147483647 := Int.emod_lt_of_pos _ (by decide)
  generalize hz : (s * 48271 + 11) % 2147483647 = z at b1 b2
  refine ⟨_, rfl, p, _, 0, _, rfl, rfl, sq_of hp, at0, _, _, rfl, rfl, .inr ⟨by decide, by decide⟩, _, _, rfl, rfl, _, _, rfl, rfl, pos0 (by decide), ?_⟩
  dsimp only
  rw [hz]
  refine ⟨_, rfl, p, _, 0, 0, rfl, rfl, hp, rfl, ?_⟩
  have hq : (upd H p (.lst [.int z])) p = some (.lst [.int z]) := upd_same
  refine ⟨_, rfl, p, _, 0, _, rfl, rfl, sq_of hq, at0, _, rfl, p, _, 0, _, rfl, rfl, sq_of hq, at0, _, _, rfl, rfl, .inl ⟨by omega, by omega⟩, _, _, rfl, rfl, pos0 (by decide), _, _, rfl, rfl, ⟨by decide, by decide⟩, ?_⟩
  have c1 : 0 ≤ z * z % 2147483629 := Int.emod_nonneg _ (by decide)
  have c2 : z * z % 2147483629 < 2147483629 := Int.emod_lt_of_pos _ (by decide)
  refine q _ _ ⟨fun b o n e => ?_, z, ⟨b1, by omega⟩, hq⟩ (by omega) (by omega)
  show upd H p (.lst [.int z]) b = some o
  rw [upd_ne n]
  exact e

def t_cell (K : PySem.W.Frag) : TS :=
(tSeq (tIfS (tTest (tOp oLt (tVar 1) (tCB (rLenL K) (tCons (tVar 0) tNil))))
  (tRet (tOp (rIxL K) (tVar 0) (tVar 1)))
  tNext)
  (tRet (tC (.int 0))))
def sCell (K : PySem.W.Frag) : Sp := fun vs H Q _ => ∃ l ns, ∃ j : Nat, vs = [.ref l, .int (j : Int)] ∧ SqL K H l (List.map V.int ns) ∧ ∀ z : Int, Q (.int z) H
theorem pure_cell {K : PySem.W.Frag} {vs : List V} {H : Hp} {Q : VK} {E : XK} {nx : L2.St → Hp → Prop} (h : sCell K vs H Q E) : t_cell K { nx := nx, rt := Q } (start ["_law_script", "_law_k"] vs) H := by
  obtain ⟨l, ns, j, rfl, hl, q⟩ := h
  refine ⟨_, rfl, _, rfl, l, _, rfl, .inl hl, _, _, rfl, rfl, _, rfl, ite2 (fun e => ?_) (fun e => ?_)⟩
  · have e1 := of_decide_eq_true e
    rw [List.length_map] at e1
    have e2 : j < ns.length := by omega
    refine ⟨_, rfl, _, rfl, l, _, _, .int ns[j], rfl, rfl, hl, atI_nat ?_, q _⟩
    rw [List.getElem?_map, List.getElem?_eq_getElem e2]; rfl
  · exact q 0
def t_state (K : PySem.W.Frag) : TS :=
(tRet (tLst (tCons (tOp oAdd (tOp oAdd (tC (.int 1)) (tOp oMod (tCall (sCell K) [] E0 (tCons (tVar 0) (tCons (tVar 1) tNil))) (tC (.int 2147483646)))) (tOp oMod (tCall (sCell K) [] E0 (tCons (tVar 0) (tCons (tOp oAdd (tVar 1) (tC (.int 1))) tNil))) (tC (.int 1000003)))) tNil)))
def sState (K : PySem.W.Frag) : Sp := fun vs H Q _ => ∃ l ns, ∃ j : Nat, vs = [.ref l, .int (j : Int)] ∧ SqL K H l (List.map V.int ns) ∧ ∀ p H', H p = none → Ex H H' → StAt H' p → Q (.ref p) H'
theorem pure_state {K : PySem.W.Frag} {vs : List V} {H : Hp} {Q : VK} {E : XK} {nx : L2.St → Hp → Prop} (h : sState K vs H Q E) : t_state K { nx := nx, rt := Q } (start ["_law_script", "_law_first"] vs) H := by
  obtain ⟨l, ns, j, rfl, hl, q⟩ := h
  refine ⟨_, rfl, _, rfl, l, ns, j, rfl, hl, fun z => ?_⟩
  refine ⟨_, _, rfl, rfl, pos0 (by decide), _, _, rfl, rfl, _, rfl, _, rfl, _, _, rfl, rfl, l, ns, j + 1, rfl, hl, fun y => ?_⟩
  refine ⟨_, _, rfl, rfl, pos0 (by decide), _, _, rfl, rfl, ?_⟩
  have a1 : 0 ≤ z % 2147483646 := Int.emod_nonneg _ (by decide)
  have a2 : z % 2147483646 < 2147483646 := Int.emod_lt_of_pos _ (by decide)
  have b1 : 0 ≤ y % 1000003 := Int.emod_nonneg _ (by decide)
  have b2 : y % 1000003 < 1000003 := Int.emod_lt_of_pos _ (by decide)
  refine ⟨(by decide : 1 ≤ sizeLine), fun p hp => q p _ hp (Evl.Ex.new hp) ⟨_, ⟨?_, ?_⟩, upd_same⟩⟩
  · omega
  · omega
def t_of (K : PySem.W.Frag) : TS :=
(tRet (tOp (rIx K) (tVar 1) (tOp oMod (tCall sNext [] E0 (tCons (tVar 0) tNil)) (tCB (rLenV K) (tCons (tVar 1) tNil)))))
/-- one of some things in a list, one of the signs of a text -/
def sOf : Sp := fun vs H Q _ => ∃ p x, vs = [.ref p, x] ∧ StAt H p ∧
  ((∃ l xs, x = .ref l ∧ l ≠ p ∧ H l = some (.lst xs) ∧ 0 < xs.length ∧ ∀ H' v, Run p H H' → v ∈ xs → Q v H') ∨
   (∃ z : Str, x = .str z ∧ 0 < z.length ∧ z.length ≤ 100000 ∧ ∀ H' c, Run p H H' → c ∈ z.cps.toList → Q (.str ⟨#[c]⟩) H'))
theorem at_mod {α : Type} {xs : List α} {n : Int} (h : 0 < xs.length) : ∃ v, v ∈ xs ∧ atI xs (n % (xs.length : Int)) = some v := by
  have h1 : 0 ≤ n % (xs.length : Int) := Int.emod_nonneg _ (by omega)
  have h2 : n % (xs.length : Int) < xs.length := Int.emod_lt_of_pos _ (by omega)
  obtain ⟨k, hk⟩ : ∃ k : Nat, n % (xs.length : Int) = (k : Int) := ⟨(n % (xs.length : Int)).toNat, by omega⟩
  have h3 : k < xs.length := by omega
  refine ⟨xs[k], List.getElem_mem h3, ?_⟩
  rw [hk]
  unfold atI ixN
  rw [if_pos (by omega), if_pos (by omega)]
  show xs[(k : Int).toNat]? = _
  rw [Int.toNat_natCast, List.getElem?_eq_getElem h3]
theorem pure_of {K : PySem.W.Frag} {vs : List V} {H : Hp} {Q : VK} {E : XK} {nx : L2.St → Hp → Prop} (h : sOf vs H Q E) : t_of K { nx := nx, rt := Q } (start ["_law_state_here", "_law_some"] vs) H := by
  obtain ⟨p, x, rfl, hst, ⟨l, xs, rfl, nl, hl, hx, q⟩ | ⟨z, rfl, hz, hz2, q⟩⟩ := h
  · refine ⟨_, rfl, _, rfl, p, rfl, hst, fun H1 n r n0 n1 => ?_⟩
    have hl1 := sq_of (K := K) (r.keep nl hl)
    refine ⟨_, rfl, _, _, rfl, .inl ⟨xs, hl1, rfl⟩, _, _, rfl, rfl, pos0 (by omega), ?_⟩
    obtain ⟨v, hv, e⟩ := at_mod (n := n) hx
    exact .inl ⟨l, xs, _, v, rfl, rfl, hl1, e, q H1 v r hv⟩
  · refine ⟨_, rfl, _, rfl, p, rfl, hst, fun H1 n r n0 n1 => ?_⟩
    refine ⟨_, rfl, _, _, rfl, ⟨sz_of hz2, rfl⟩, _, _, rfl, rfl, pos0 (by omega), ?_⟩
    have e0 : z.length = z.cps.toList.length := by simp [Str.length]
    obtain ⟨c, hc, e⟩ := at_mod (n := n) (xs := z.cps.toList) (by omega)
    rw [← e0] at e
    exact .inr (.inr ⟨z, _, c, rfl, rfl, sz_of hz2, e, q H1 c r hc⟩)
def t_turned (K : PySem.W.Frag) : TS :=
(tSeq (tAsg (tOp oMod (tVar 1) (tCB (rLenL K) (tCons (tVar 0) tNil))) (gName 1))
  (tRet (tOp rCat (tSl (rSlL K) (tVar 0) (tPart (tVar 1)) tNoPart) (tSl (rSlL K) (tVar 0) tNoPart (tPart (tVar 1))))))
def sTurned : Sp := fun vs H Q _ => ∃ l xs, ∃ m : Int, vs = [.ref l, .int m] ∧ H l = some (.lst xs) ∧ 0 < xs.length ∧ xs.length ≤ 100000 ∧
  ∀ q H', H q = none → Ex H H' → H' q = some (.lst (Jos.rot xs (m % (xs.length : Int)).toNat)) → Q (.ref q) H'
theorem cut_from {xs : List V} {k : Nat} (h : k ≤ xs.length) : cutV xs (some (k : Int)) none = xs.drop k := by
  unfold cutV
  rw [show HT.sIx xs.length 0 (some (k : Int)) = min k xs.length from HT.sIx_nat xs.length 0 k, HT.sIx_none, Nat.min_eq_left h]
  apply List.take_of_length_le
  rw [List.length_drop]
  exact Nat.le_refl _
theorem cut_to {xs : List V} {k : Nat} (h : k ≤ xs.length) : cutV xs none (some (k : Int)) = xs.take k := by
  unfold cutV
  rw [show HT.sIx xs.length xs.length (some (k : Int)) = min k xs.length from HT.sIx_nat xs.length xs.length k, HT.sIx_none, Nat.min_eq_left h]
  simp
theorem pure_turned {K : PySem.W.Frag} {vs : List V} {H : Hp} {Q : VK} {E : XK} {nx : L2.St → Hp → Prop} (h : sTurned vs H Q E) : t_turned K { nx := nx, rt := Q } (start ["_law_row", "_law_many"] vs) H := by
  obtain ⟨l, xs, m, rfl, hl, h0, hz, q⟩ := h
  have h1 : 0 ≤ m % (xs.length : Int) := Int.emod_nonneg _ (by omega)
  have h2 : m % (xs.length : Int) < xs.length := Int.emod_lt_of_pos _ (by omega)
  obtain ⟨k, hk⟩ : ∃ k : Nat, m % (xs.length : Int) = (k : Int) := ⟨(m % (xs.length : Int)).toNat, by omega⟩
  have hkl : k ≤ xs.length := by omega
  refine ⟨_, rfl, _, rfl, l, xs, rfl, .inl (sq_of hl), _, _, rfl, rfl, pos0 (by omega), ?_⟩
  dsimp only
  rw [hk]
  refine ⟨_, rfl, _, rfl, _, rfl, l, xs, rfl, sq_of hl, fun a na => ?_⟩
  have e1 : Ex H (upd H a (.lst (cutV xs (some (k : Int)) none))) := Evl.Ex.new na
  refine ⟨_, rfl, _, rfl, _, rfl, l, xs, rfl, sq_of (e1 _ _ hl), fun b nb => ?_⟩
  have e2 : Ex (upd H a (.lst (cutV xs (some (k : Int)) none))) (upd (upd H a (.lst (cutV xs (some (k : Int)) none))) b (.lst (cutV xs none (some (k : Int))))) := Evl.Ex.new nb
  refine ⟨a, b, _, _, rfl, rfl, e2 _ _ upd_same, upd_same, ?_, fun c nc => ?_⟩
  · rw [cut_from hkl, cut_to hkl, List.length_drop, List.length_take]
    exact sz_of (by omega)
  · have e3 := Evl.Ex.new (o := .lst (cutV xs (some (k : Int)) none ++ cutV xs none (some (k : Int)))) nc
    refine q c _ (fresh_back e1 (fresh_back e2 nc)) (e1.trans (e2.trans e3)) ?_
    rw [upd_same, hk, cut_from hkl, cut_to hkl, Int.toNat_natCast]
    rfl

/-! ### going round hand by hand -/
def t_out (K : PySem.W.Frag) : TS :=
(tSeq (tAsg (tLst tNil) (gName 2))
  (tSeq (tAsg (tCB (rListOf K) (tCons (tVar 0) tNil)) (gName 3))
  (tSeq (tWhile (tTest (tOp (rEqF K true) (tVar 3) (tLst tNil)))
  (tSeq (tAsg (tVar 1) (gName 4))
  (tSeq (tIfS (tTest (tOp oGt (tVar 1) (tOp oMul (tC (.int 3)) (tCB (rLenL K) (tCons (tVar 3) tNil)))))
  (tAsg (tOp oAdd (tOp oMod (tVar 1) (tCB (rLenL K) (tCons (tVar 3) tNil))) (tOp oMul (tC (.int 2)) (tCB (rLenL K) (tCons (tVar 3) tNil)))) (gName 4))
  tNext)
  (tSeq (tWhile (tTest (tOp oGt (tVar 4) (tC (.int 1))))
  (tSeq (tDrop (tBM K "list" rAppend (tVar 3) (tCons (tBM K "list" rPopAt (tVar 3) (tCons (tC (.int 0)) tNil)) tNil)))
  (tAsg (tOp oSub (tVar 4) (tC (.int 1))) (gName 4))))
  (tDrop (tBM K "list" rAppend (tVar 2) (tCons (tBM K "list" rPopAt (tVar 3) (tCons (tC (.int 0)) tNil)) tNil)))))))
  (tRet (tVar 2)))))
def sOut (K : PySem.W.Frag) : Sp := fun vs H Q _ => ∃ l xs, ∃ d : Int, vs = [.ref l, .int d] ∧ SqL K H l xs ∧ xs.length ≤ 1000 ∧ xs.all plain = true ∧ 1 ≤ d ∧
  ∀ q H', H q = none → Ex H H' → H' q = some (.lst (Jos.out (d - 1).toNat xs.length xs)) → Q (.ref q) H'
theorem ty_l {K : PySem.W.Frag} {H : Hp} {p : Addr} {xs : List V} (h : H p = some (.lst xs)) : tyV K "list" (.ref p) H := .inl ⟨rfl, _, sq_of h⟩
theorem rotN_plain {k : Nat} {l : List V} (h : l.all plain = true) : (Jos.rotN k l).all plain = true := by
  rw [List.all_eq_true] at h ⊢
  exact fun x hx => h x ((Jos.rotN_perm k l).mem_iff.mp hx)
/-- what stays: H, the two lists -/
structure OutAt (H H' : Hp) (f w : Addr) (done left : List V) : Prop where
  ex : Ex H H'
  nf : H f = none
  nw : H w = none
  ne : w ≠ f
  hf : H' f = some (.lst done)
  hw : H' w = some (.lst left)
theorem OutAt.setw {H H' : Hp} {f w : Addr} {done left ys : List V} (o : OutAt H H' f w done left) : OutAt H (upd H' w (.lst ys)) f w done ys :=
  ⟨Evl.Ex.mut o.ex o.nw, o.nf, o.nw, o.ne, by rw [upd_ne o.ne.symm]; exact o.hf, upd_same⟩
theorem OutAt.setf {H H' : Hp} {f w : Addr} {done left ys : List V} (o : OutAt H H' f w done left) : OutAt H (upd H' f (.lst ys)) f w ys left :=
  ⟨Evl.Ex.mut o.ex o.nf, o.nf, o.nw, o.ne, upd_same, by rw [upd_ne o.ne]; exact o.hw⟩
theorem OutAt.new {H H' : Hp} {f w q : Addr} {done left : List V} {u : HO} (o : OutAt H H' f w done left) (h : H' q = none) : OutAt H (upd H' q u) f w done left :=
  ⟨o.ex.trans (Evl.Ex.new h), o.nf, o.nw, o.ne, Evl.Ex.new h _ _ o.hf, Evl.Ex.new h _ _ o.hw⟩
theorem seq0 {n : Nat} (h : 0 < n) : seqIndex? 0 n = some 0 := by
  unfold seqIndex?
  simp
  omega
theorem pure_out {K : PySem.W.Frag} {vs : List V} {H : Hp} {Q : VK} {E : XK} {nx : L2.St → Hp → Prop} (h : sOut K vs H Q E) : t_out K { nx := nx, rt := Q } (start ["_law_row", "_law_step_here", "_law_found", "_law_left", "_law_told"] vs) H := by
  obtain ⟨l, xs, d, rfl, hl, hz, hp, hd, q⟩ := h
  refine ⟨Nat.zero_le _, fun f nf => ?_⟩
  have e1 : Ex H (upd H f (.lst [])) := Evl.Ex.new nf
  refine ⟨_, rfl, l, xs, rfl, .inl (ex_l e1 hl), fun w nw => ?_⟩
  have e2 : Ex (upd H f (.lst [])) (upd (upd H f (.lst [])) w (.lst xs)) := Evl.Ex.new nw
  have o0 : OutAt H (upd (upd H f (.lst [])) w (.lst xs)) f w [] xs := ⟨e1.trans e2, nf, fresh_back e1 nw, fun e => (by rw [e, upd_same] at nw; cases nw), e2 _ _ upd_same, upd_same⟩
  refine ⟨fun m σ H' => ∃ done left y4, σ = [some (.ref l), some (.int d), some (.ref f), some (.ref w), y4] ∧ m = left.length ∧ OutAt H H' f w done left ∧ left.length ≤ 1000 ∧ done.length + left.length ≤ 1000 ∧ left.all plain = true ∧
    done ++ Jos.out (d - 1).toNat left.length left = Jos.out (d - 1).toNat xs.length xs, ⟨xs.length, [], xs, none, rfl, rfl, o0, hz, by simpa using hz, hp, rfl⟩, ?_⟩
  intro m σ H' hW
  obtain ⟨done, left, y4, rfl, rfl, o, hz1, hz2, hpl, ho⟩ := hW
  refine ⟨_, rfl, Nat.zero_le _, fun c nc => ?_⟩
  have oc := o.new (u := .lst []) nc
  refine ⟨w, c, left, [], rfl, rfl, sq_of oc.hw, sq_of upd_same, hpl, rfl, _, rfl, ?_⟩
  cases left with
  | nil =>
    refine iteF ?_
    refine ⟨_, rfl, ?_⟩
    rw [← ho, List.length_nil, Jos.out, List.append_nil] at q
    exact q f _ nf oc.ex oc.hf
  | cons x0 r0 =>
    generalize hleft : x0 :: r0 = left at *
    have hpos : 0 < left.length := by rw [← hleft]; simp
    have hne : left ≠ [] := by rw [← hleft]; simp
    refine if_pos (show (if true = true then !decide (left = []) else decide (left = [])) = true by simp [hne]) ▸ ?_
    refine ⟨fun σ2 H2 => ∃ m', m' < left.length ∧ ∃ done' left' y4, σ2 = [some (.ref l), some (.int d), some (.ref f), some (.ref w), y4] ∧ m' = left'.length ∧ OutAt H H2 f w done' left' ∧ left'.length ≤ 1000 ∧ done'.length + left'.length ≤ 1000 ∧ left'.all plain = true ∧
      done' ++ Jos.out (d - 1).toNat left'.length left' = Jos.out (d - 1).toNat xs.length xs, fun _ _ h => h, ?_⟩
    generalize (upd H' c (.lst [])) = Hc at oc
    -- told = step, or what is left of it
    have key : ∀ (t : Int), 1 ≤ t → (t - 1).toNat % left.length = (d - 1).toNat % left.length → (tSeq (tWhile (tTest (tOp oGt (tVar 4) (tC (.int 1))))
      (tSeq (tDrop (tBM K "list" rAppend (tVar 3) (tCons (tBM K "list" rPopAt (tVar 3) (tCons (tC (.int 0)) tNil)) tNil)))
      (tAsg (tOp oSub (tVar 4) (tC (.int 1))) (gName 4))))
      (tDrop (tBM K "list" rAppend (tVar 2) (tCons (tBM K "list" rPopAt (tVar 3) (tCons (tC (.int 0)) tNil)) tNil))))
      { nx := fun σ2 H2 => ∃ m', m' < left.length ∧ ∃ done' left' y4, σ2 = [some (.ref l), some (.int d), some (.ref f), some (.ref w), y4] ∧ m' = left'.length ∧ OutAt H H2 f w done' left' ∧ left'.length ≤ 1000 ∧ done'.length + left'.length ≤ 1000 ∧ left'.all plain = true ∧
      done' ++ Jos.out (d - 1).toNat left'.length left' = Jos.out (d - 1).toNat xs.length xs, rt := Q } [some (.ref l), some (.int d), some (.ref f), some (.ref w), some (.int t)] Hc := by
      intro t ht hm
      have hrot : Jos.rotN (t - 1).toNat left = Jos.rotN (d - 1).toNat left := Jos.rotN_congr hm
      refine ⟨fun m σ3 H3 => ∃ s left', σ3 = [some (.ref l), some (.int d), some (.ref f), some (.ref w), some (.int s)] ∧ 1 ≤ s ∧ m = s.toNat ∧ OutAt H H3 f w done left' ∧ left'.length = left.length ∧ Jos.rotN (s - 1).toNat left' = Jos.rotN (d - 1).toNat left,
        ⟨t.toNat, t, left, rfl, ht, rfl, oc, rfl, hrot⟩, ?_⟩
      intro m σ3 H3 hW
      obtain ⟨s, left', rfl, hs, rfl, o3, hl3, hr3⟩ := hW
      refine ⟨_, rfl, _, _, rfl, rfl, _, rfl, ite2 (fun e => ?_) (fun e => ?_)⟩
      · have hs1 : 1 < s := of_decide_eq_true e
        refine ⟨fun σ4 H4 => ∃ m', m' < s.toNat ∧ ∃ s left', σ4 = [some (.ref l), some (.int d), some (.ref f), some (.ref w), some (.int s)] ∧ 1 ≤ s ∧ m' = s.toNat ∧ OutAt H H4 f w done left' ∧ left'.length = left.length ∧ Jos.rotN (s - 1).toNat left' = Jos.rotN (d - 1).toNat left, fun _ _ h => h, ?_⟩
        cases left' with
        | nil => simp at hl3; omega
        | cons x r =>
          refine ⟨_, rfl, ty_l o3.hw, _, rfl, ty_l o3.hw, w, x :: r, 0, 0, x, rfl, rfl, o3.hw, by omega, by omega, seq0 (by simp), rfl, ?_⟩
          have o4 : OutAt H (upd H3 w (.lst ((x :: r).eraseIdx 0))) f w done r := o3.setw
          refine ⟨w, r, x, rfl, rfl, o4.hw, sz_lt (by simp at hl3; omega), ?_⟩
          refine ⟨_, rfl, _, _, rfl, rfl, ?_⟩
          refine ⟨(s - 1).toNat, by omega, s - 1, r ++ [x], rfl, by omega, rfl, o4.setw, by simp at hl3 ⊢; omega, ?_⟩
          rw [← hr3, show (s - 1).toNat = (s - 1 - 1).toNat + 1 by omega]
          rfl
      · have hs1 : ¬ 1 < s := fun z => e (decide_eq_true z)
        have es : (s - 1).toNat = 0 := by omega
        rw [es] at hr3
        have hr4 : left' = Jos.rotN (d - 1).toNat left := hr3
        cases left' with
        | nil => simp at hl3; omega
        | cons x r =>
          refine ⟨_, rfl, ty_l o3.hf, _, rfl, ty_l o3.hw, w, x :: r, 0, 0, x, rfl, rfl, o3.hw, by omega, by omega, seq0 (by simp), rfl, ?_⟩
          have o4 : OutAt H (upd H3 w (.lst ((x :: r).eraseIdx 0))) f w done r := o3.setw
          refine ⟨f, done, x, rfl, rfl, o4.hf, sz_lt (by omega), ?_⟩
          simp only [List.length_cons] at hl3
          refine ⟨r.length, by omega, done ++ [x], r, _, rfl, rfl, o4.setf, by omega, by simp; omega, ?_, ?_⟩
          · have h1 := rotN_plain (k := (d - 1).toNat) hpl
            rw [← hr4, List.all_cons, Bool.and_eq_true] at h1
            exact h1.2
          · rw [← ho, List.append_assoc]
            congr 1
            rw [← hl3, Jos.out, ← hr4]
            rfl
    refine ⟨_, rfl, ?_⟩
    refine ⟨_, rfl, _, rfl, w, left, rfl, .inl (sq_of oc.hw), _, _, rfl, rfl, .inl ⟨by decide, by decide⟩, _, _, rfl, rfl, _, rfl, ite2 (fun e => ?_) (fun e => ?_)⟩
    · have e1 : 3 * (left.length : Int) < d := of_decide_eq_true e
      refine ⟨_, rfl, _, rfl, w, left, rfl, .inl (sq_of oc.hw), _, _, rfl, rfl, pos0 (by omega), _, rfl, w, left, rfl, .inl (sq_of oc.hw), _, _, rfl, rfl, .inl ⟨by decide, by decide⟩, _, _, rfl, rfl, ?_⟩
      have c1 : 0 ≤ d % (left.length : Int) := Int.emod_nonneg _ (by omega)
      have c2 : d % (left.length : Int) < left.length := Int.emod_lt_of_pos _ (by omega)
      refine key _ (by omega) ?_
      apply Int.ofNat.inj
      show (((d % (left.length : Int) + 2 * (left.length : Int) - 1).toNat % left.length : Nat) : Int) = (((d - 1).toNat % left.length : Nat) : Int)
      rw [Int.natCast_emod, Int.natCast_emod, Int.toNat_of_nonneg (by omega), Int.toNat_of_nonneg (by omega)]
      rw [show d % (left.length : Int) + 2 * (left.length : Int) - 1 = (d % (left.length : Int) - 1) + (left.length : Int) * 2 by omega, Int.add_mul_emod_self_left, Int.emod_sub_emod]
    · exact key d hd rfl
end Cd

set_option Elab.async false
set_option linter.all false
set_option maxRecDepth 100000
set_option maxHeartbeats 2000000
namespace Cd
open PySem PySem.Spec PyProof.Rows L2
open Evl (Ex sq_of ex_l sz_of sz_lt fresh_back)
def t_step : TS :=
(tRet (tCall sOf [] E0 (tCons (tVar 0) (tCons (tLst (tCons (tC (.int 1)) (tCons (tC (.int 2)) (tCons (tC (.int 3)) (tCons (tOp oAdd (tC (.int 1)) (tOp oMod (tCall sNext [] E0 (tCons (tVar 0) tNil)) (tC (.int 12)))) (tCons (tOp oAdd (tC (.int 1)) (tOp oMod (tCall sNext [] E0 (tCons (tVar 0) tNil)) (tVar 1))) (tCons (tVar 1) tNil))))))) tNil))))
def sStep : Sp := fun vs H Q _ => ∃ p, ∃ m : Int, vs = [.ref p, .int m] ∧ StAt H p ∧ 12 ≤ m ∧ ∀ H' d, Run p H H' → 1 ≤ d → d ≤ m → Q (.int d) H'
theorem pure_step {vs : List V} {H : Hp} {Q : VK} {E : XK} {nx : L2.St → Hp → Prop} (h : sStep vs H Q E) : t_step { nx := nx, rt := Q } (start ["_law_state_here", "_law_most"] vs) H := by
  obtain ⟨p, m, rfl, hst, hm, q⟩ := h
  refine ⟨_, rfl, ?_⟩
  refine ⟨_, rfl, p, rfl, hst, fun H1 n1 r1 n10 n11 => ?_⟩
  refine ⟨_, _, rfl, rfl, pos0 (by decide), _, _, rfl, rfl, _, rfl, p, rfl, r1.2, fun H2 n2 r2 n20 n21 => ?_⟩
  refine ⟨_, rfl, _, _, rfl, rfl, pos0 (by omega), _, _, rfl, rfl, _, rfl, (by decide : 6 ≤ sizeLine), fun l nl => ?_⟩
  have r := r1.trans r2
  refine ⟨p, .ref l, rfl, r2.2.ex (Evl.Ex.new nl), .inl ⟨l, _, rfl, r2.2.ne nl, upd_same, by simp, fun H3 v r3 hv => ?_⟩⟩
  have a1 : 0 ≤ n1 % 12 := Int.emod_nonneg _ (by decide)
  have a2 : n1 % 12 < 12 := Int.emod_lt_of_pos _ (by decide)
  have b1 : 0 ≤ n2 % m := Int.emod_nonneg _ (by omega)
  have b2 : n2 % m < m := Int.emod_lt_of_pos _ (by omega)
  have rr := (r.new nl).trans r3
  simp only [List.mem_cons, List.not_mem_nil, or_false] at hv
  rcases hv with rfl | rfl | rfl | rfl | rfl | rfl <;> exact q H3 _ rr (by omega) (by omega)
/-! ### kinds of things -/
/-- a thing of a told kind -/
def isI : V → Bool
  | .int _ => true
  | _ => false
def Typ (K : PySem.W.Frag) (H : Hp) (x : V) : Prop := ∃ T : String, TyX K H x (.type T) ∧ T ∈ ["NoneType", "bool", "int", "str", "list", "tuple", "dict"] ∧ (T = "int" ↔ isI x = true)
theorem Typ.int {K : PySem.W.Frag} {H : Hp} {i : Int} : Typ K H (.int i) := ⟨"int", .base (.int i), by decide, by simp [isI]⟩
theorem Typ.non {K : PySem.W.Frag} {H : Hp} : Typ K H .non := ⟨"NoneType", .base .non, by decide, by simp [isI]⟩
theorem Typ.bl {K : PySem.W.Frag} {H : Hp} {b : Bool} : Typ K H (.bl b) := ⟨"bool", .base (.bl b), by decide, by simp [isI]⟩
theorem Typ.str {K : PySem.W.Frag} {H : Hp} {x : Str} : Typ K H (.str x) := ⟨"str", .base (.str x), by decide, by simp [isI]⟩
theorem Typ.lst {K : PySem.W.Frag} {H : Hp} {a : Addr} {xs : List V} (h : H a = some (.lst xs)) : Typ K H (.ref a) := ⟨"list", .base (.lst h), by decide, by simp [isI]⟩
theorem Typ.tup {K : PySem.W.Frag} {H : Hp} {a : Addr} {xs : List V} (h : H a = some (.tup xs)) : Typ K H (.ref a) := ⟨"tuple", .base (.tup h), by decide, by simp [isI]⟩
theorem Typ.dic {K : PySem.W.Frag} {H : Hp} {a : Addr} {xs : List (Key × V)} (h : H a = some (.dK xs)) : Typ K H (.ref a) := ⟨"dict", .base (.dK h), by decide, by simp [isI]⟩
def whB (x : V) (lo hi : Int) : Bool := match x with
  | .int i => decide (lo ≤ i) && decide (i ≤ hi)
  | _ => false
def t_is_whole (K : PySem.W.Frag) : TS :=
(tRet (tAndV (tCB (rIsi K) (tCons (tVar 0) (tCons (tC (.ty "int")) tNil))) (tAndV (tNotV (tCB (rIsi K) (tCons (tVar 0) (tCons (tC (.ty "bool")) tNil)))) (tChain oLe oLe (tVar 1) (tVar 0) (tVar 2)))))
def sIsW (K : PySem.W.Frag) : Sp := fun vs H Q _ => ∃ x, ∃ lo hi : Int, vs = [x, .int lo, .int hi] ∧ Typ K H x ∧ Q (.bl (whB x lo hi)) H
theorem pure_is_whole {K : PySem.W.Frag} {vs : List V} {H : Hp} {Q : VK} {E : XK} {nx : L2.St → Hp → Prop} (h : sIsW K vs H Q E) : t_is_whole K { nx := nx, rt := Q } (start ["thing", "low", "high"] vs) H := by
  obtain ⟨x, lo, hi, rfl, ⟨T, hT, hm, hI⟩, q⟩ := h
  simp only [List.mem_cons, List.not_mem_nil, or_false] at hm
  by_cases e : T = "int"
  · subst e
    have hx := hI.mp rfl
    cases x <;> first | (simp [isI] at hx; done) | skip
    rename_i i
    refine ⟨_, rfl, _, _, _, _, true, rfl, .ty "int", hT, kit_ty (by decide +kernel), true, rfl, iteT ?_⟩
    refine ⟨_, rfl, _, _, _, _, false, rfl, .ty "bool", hT, kit_ty (by decide +kernel), false, rfl, true, rfl, iteT ?_⟩
    refine ⟨_, rfl, _, rfl, _, _, rfl, rfl, _, rfl, ite2 (fun e1 => ?_) (fun e1 => ?_)⟩
    · refine ⟨_, rfl, _, _, rfl, rfl, ?_⟩
      have e2 : whB (.int i) lo hi = decide (i ≤ hi) := by
        show (decide (lo ≤ i) && decide (i ≤ hi)) = _
        rw [e1, Bool.true_and]
      rw [e2] at q
      exact q
    · have e2 : whB (.int i) lo hi = false := by
        show (decide (lo ≤ i) && decide (i ≤ hi)) = _
        rw [Bool.eq_false_iff.mpr e1, Bool.false_and]
      rw [e2] at q
      exact q
  · have hx : isI x = false := by
      cases h : isI x with
      | false => rfl
      | true => exact absurd (hI.mpr h) e
    have hw : whB x lo hi = false := by cases x <;> first | rfl | (simp [isI] at hx; done)
    rw [hw] at q
    by_cases eb : T = "bool"
    · subst eb
      refine ⟨_, rfl, _, _, _, _, true, rfl, .ty "int", hT, kit_ty (by decide +kernel), true, rfl, iteT ?_⟩
      exact ⟨_, rfl, _, _, _, _, true, rfl, .ty "bool", hT, kit_ty (by decide +kernel), true, rfl, false, rfl, iteF q⟩
    · refine ⟨_, rfl, _, _, _, _, false, rfl, .ty "int", hT, kit_ty ?_, false, rfl, iteF q⟩
      rcases hm with rfl | rfl | rfl | rfl | rfl | rfl | rfl <;> first | exact absurd rfl e | exact absurd rfl eb | decide +kernel
def t_whole (K : PySem.W.Frag) : TS :=
(tRet (tAndV (tCB (rIsi K) (tCons (tVar 0) (tCons (tC (.ty "int")) tNil))) (tNotV (tCB (rIsi K) (tCons (tVar 0) (tCons (tC (.ty "bool")) tNil))))))
def sWhole : Sp := fun vs H Q _ => ∃ i : Int, vs = [.int i] ∧ Q (.bl true) H
theorem pure_whole {K : PySem.W.Frag} {vs : List V} {H : Hp} {Q : VK} {E : XK} {nx : L2.St → Hp → Prop} (h : sWhole vs H Q E) : t_whole K { nx := nx, rt := Q } (start ["_law_found"] vs) H := by
  obtain ⟨i, rfl, q⟩ := h
  refine ⟨_, rfl, _, _, _, _, true, rfl, .ty "int", .base (.int i), kit_ty (by decide +kernel), true, rfl, iteT ?_⟩
  exact ⟨_, rfl, _, _, _, _, false, rfl, .ty "bool", .base (.int i), kit_ty (by decide +kernel), false, rfl, q⟩
end Cd

set_option Elab.async false
set_option linter.all false
set_option maxRecDepth 100000
set_option maxHeartbeats 2000000
namespace Cd
open PySem PySem.Spec PyProof.Rows L2
open Evl (Ex sq_of ex_l sz_of sz_lt fresh_back)
/-! ### which numbers are taken -/
def t_check_many (K : PySem.W.Frag) (C : Addr) (E : XK) : TS :=
(tIfS (tNot (tB (tCall (sIsW K) [] E0 (tCons (tVar 0) (tCons (tC (.int 1)) (tCons (tVar 1) tNil))))))
  (tRaise C E)
  tNext)
/-- from 1 on (many, step) -/
def sCk1 (K : PySem.W.Frag) (C : Addr) : Sp := fun vs H Q E => ∃ x, ∃ hi : Int, vs = [x, .int hi] ∧ Typ K H x ∧ (whB x 1 hi = true → Q .non H) ∧ (whB x 1 hi = false → E (.ref C) none H)
theorem pure_ck1 {K : PySem.W.Frag} {C : Addr} {N : List Str} {vs : List V} {H : Hp} {Q : VK} {E : XK} (hN : N.length = 2) (h : sCk1 K C vs H Q E) : t_check_many K C E { nx := fun _ H' => Q .non H', rt := Q } (start N vs) H := by
  obtain ⟨x, hi, rfl, ht, q1, q2⟩ := h
  have e : L2.start N [x, .int hi] = [some x, some (.int hi)] := by simp [L2.start, hN]
  rw [e]
  refine ⟨_, rfl, _, rfl, x, 1, hi, rfl, ht, _, rfl, ?_⟩
  cases hw : whB x 1 hi with
  | true => exact iteF (q1 hw)
  | false => exact iteT (q2 hw)
def t_check_place (K : PySem.W.Frag) (C : Addr) (E : XK) : TS :=
(tIfS (tNot (tB (tCall (sIsW K) [] E0 (tCons (tVar 0) (tCons (tC (.int 0)) (tCons (tOp oSub (tVar 1) (tC (.int 1))) tNil))))))
  (tRaise C E)
  tNext)
def sCkP (K : PySem.W.Frag) (C : Addr) : Sp := fun vs H Q E => ∃ x, ∃ m : Int, vs = [x, .int m] ∧ Typ K H x ∧ (whB x 0 (m - 1) = true → Q .non H) ∧ (whB x 0 (m - 1) = false → E (.ref C) none H)
theorem pure_check_place {K : PySem.W.Frag} {C : Addr} {vs : List V} {H : Hp} {Q : VK} {E : XK} (h : sCkP K C vs H Q E) : t_check_place K C E { nx := fun _ H' => Q .non H', rt := Q } (start ["place", "many"] vs) H := by
  obtain ⟨x, m, rfl, ht, q1, q2⟩ := h
  refine ⟨_, rfl, _, rfl, _, _, rfl, rfl, x, 0, m - 1, rfl, ht, _, rfl, ?_⟩
  cases hw : whB x 0 (m - 1) with
  | true => exact iteF (q1 hw)
  | false => exact iteT (q2 hw)
def t_check_count (K : PySem.W.Frag) (C : Addr) (E : XK) : TS :=
(tIfS (tNot (tB (tCall (sIsW K) [] E0 (tCons (tVar 0) (tCons (tVar 1) (tCons (tVar 2) tNil))))))
  (tRaise C E)
  tNext)
def sCkC (K : PySem.W.Frag) (C : Addr) : Sp := fun vs H Q E => ∃ x, ∃ lo hi : Int, vs = [x, .int lo, .int hi] ∧ Typ K H x ∧ (whB x lo hi = true → Q .non H) ∧ (whB x lo hi = false → E (.ref C) none H)
theorem pure_check_count {K : PySem.W.Frag} {C : Addr} {vs : List V} {H : Hp} {Q : VK} {E : XK} (h : sCkC K C vs H Q E) : t_check_count K C E { nx := fun _ H' => Q .non H', rt := Q } (start ["count", "low", "high"] vs) H := by
  obtain ⟨x, lo, hi, rfl, ht, q1, q2⟩ := h
  refine ⟨_, rfl, _, rfl, _, rfl, x, lo, hi, rfl, ht, _, rfl, ?_⟩
  cases hw : whB x lo hi with
  | true => exact iteF (q1 hw)
  | false => exact iteT (q2 hw)
theorem wh_int {x : V} {lo hi : Int} (h : whB x lo hi = true) : ∃ i : Int, x = .int i ∧ lo ≤ i ∧ i ≤ hi := by
  cases x <;> first | (simp [whB] at h; done) | skip
  rename_i i
  rw [whB, Bool.and_eq_true, decide_eq_true_eq, decide_eq_true_eq] at h
  exact ⟨i, rfl, h.1, h.2⟩
theorem wh_of {i lo hi : Int} (h1 : lo ≤ i) (h2 : i ≤ hi) : whB (.int i) lo hi = true := by
  rw [whB, Bool.and_eq_true, decide_eq_true_eq, decide_eq_true_eq]; exact ⟨h1, h2⟩
/-! ### rings told by numbers -/
def big : Int := 1000000000000000000000000000000000000000000000000000000000000
def t_check_ring (K : PySem.W.Frag) (CM CS CP : Addr) (E : XK) : TS :=
(tSeq (tDrop (tCall (sCk1 K CM) [] E (tCons (tVar 0) (tCons (tC (.int (1000000000000000000000000000000000000000000000000000000000000))) tNil))))
  (tSeq (tDrop (tCall (sCk1 K CS) [] E (tCons (tVar 1) (tCons (tC (.int (100))) tNil))))
  (tDrop (tCall (sCkP K CP) [] E (tCons (tVar 2) (tCons (tVar 0) tNil))))))
/-- many, step, begin: the first refusal that is due -/
@[irreducible] def sRing (K : PySem.W.Frag) (CM CS CP : Addr) : Sp := fun vs H Q E => ∃ m d b, vs = [m, d, b] ∧ Typ K H m ∧ Typ K H d ∧ Typ K H b ∧
  (whB m 1 big = false → E (.ref CM) none H) ∧ (∀ n : Int, m = .int n → 1 ≤ n → n ≤ big →
    (whB d 1 100 = false → E (.ref CS) none H) ∧ (whB d 1 100 = true → (whB b 0 (n - 1) = false → E (.ref CP) none H) ∧ (whB b 0 (n - 1) = true → Q .non H)))
theorem pure_check_ring {K : PySem.W.Frag} {CM CS CP : Addr} {vs : List V} {H : Hp} {Q : VK} {E : XK} (h : sRing K CM CS CP vs H Q E) : t_check_ring K CM CS CP E { nx := fun _ H' => Q .non H', rt := Q } (start ["many", "step", "begin"] vs) H := by
  unfold sRing at h
  obtain ⟨m, d, b, rfl, tm, td, tb, q0, q⟩ := h
  refine ⟨_, rfl, m, _, rfl, tm, fun h1 => ?_, fun h1 => q0 h1⟩
  obtain ⟨n, rfl, n1, n2⟩ := wh_int h1
  have q := q n rfl n1 n2
  refine ⟨_, rfl, d, _, rfl, td, fun h2 => ?_, fun h2 => q.1 h2⟩
  have q := q.2 h2
  exact ⟨_, rfl, _, rfl, b, n, rfl, tb, fun h3 => q.2 h3, fun h3 => q.1 h3⟩
/-! the count of a place -/
/-- many m, step d, from number n on: the number at which the one who is told n goes -/
def goN (m d : Nat) : Nat → Nat → Nat
  | 0, n => n
  | f + 1, n => if n % d = 0 then n else goN m d f (m + n - n / d)
def t_count_of (K : PySem.W.Frag) (CM CS CP : Addr) (E : XK) : TS :=
(tSeq (tDrop (tCall (sRing K CM CS CP) [] E (tCons (tVar 0) (tCons (tVar 1) (tCons (tVar 2) tNil)))))
  (tSeq (tDrop (tCall (sCkP K CP) [] E (tCons (tVar 3) (tCons (tVar 0) tNil))))
  (tSeq (tAsg (tOp oAdd (tOp oMod (tOp oSub (tVar 3) (tVar 2)) (tVar 0)) (tC (.int 1))) (gName 4))
  (tSeq (tWhile (tTest (tOp rNe (tOp oMod (tVar 4) (tVar 1)) (tC (.int 0))))
  (tAsg (tOp oSub (tOp oAdd (tVar 0) (tVar 4)) (tOp oFdiv (tVar 4) (tVar 1))) (gName 4)))
  (tRet (tOp oFdiv (tVar 4) (tVar 1)))))))
/-- refused likewise: the ring's three, then what stands behind -/
def sRef (K : PySem.W.Frag) (CM CS CP : Addr) (m d b : V) (H : Hp) (E : XK) (ok : Int → Int → Int → Prop) : Prop :=
  Typ K H m ∧ Typ K H d ∧ Typ K H b ∧
  (whB m 1 big = false → E (.ref CM) none H) ∧ (∀ n : Int, m = .int n → 1 ≤ n → n ≤ big →
    (whB d 1 100 = false → E (.ref CS) none H) ∧ (∀ s : Int, d = .int s → 1 ≤ s → s ≤ 100 → (whB b 0 (n - 1) = false → E (.ref CP) none H) ∧ (∀ g : Int, b = .int g → 0 ≤ g → g < n → ok n s g)))
theorem sRef.ring {K : PySem.W.Frag} {CM CS CP : Addr} {m d b : V} {H : Hp} {Q : VK} {E : XK} {ok : Int → Int → Int → Prop} (h : sRef K CM CS CP m d b H E ok)
    (k : ∀ n s g : Int, m = .int n → d = .int s → b = .int g → 1 ≤ n → n ≤ big → 1 ≤ s → s ≤ 100 → 0 ≤ g → g < n → ok n s g → Q .non H) : sRing K CM CS CP [m, d, b] H Q E := by
  obtain ⟨tm, td, tb, q0, q⟩ := h
  unfold sRing
  refine ⟨m, d, b, rfl, tm, td, tb, q0, fun n en n1 n2 => ⟨(q n en n1 n2).1, fun hd => ?_⟩⟩
  obtain ⟨s, es, s1, s2⟩ := wh_int hd
  have q := (q n en n1 n2).2 s es s1 s2
  refine ⟨q.1, fun hb => ?_⟩
  obtain ⟨g, eg, g1, g2⟩ := wh_int hb
  exact k n s g en es eg n1 n2 s1 s2 g1 (by omega) (q.2 g eg g1 (by omega))
@[irreducible] def sCount (K : PySem.W.Frag) (CM CS CP : Addr) : Sp := fun vs H Q E => ∃ m d b x, vs = [m, d, b, x] ∧ Typ K H x ∧ sRef K CM CS CP m d b H E fun n s g =>
  (whB x 0 (n - 1) = false → E (.ref CP) none H) ∧ ∀ p : Nat, x = .int (p : Int) → (p : Int) < n → ∀ c : Nat, (Jos.order s.toNat n.toNat g.toNat)[c]? = some p → Q (.int ((c : Int) + 1)) H
theorem pure_count_of {K : PySem.W.Frag} {CM CS CP : Addr} {vs : List V} {H : Hp} {Q : VK} {E : XK} (h : sCount K CM CS CP vs H Q E) : t_count_of K CM CS CP E { nx := fun _ H' => Q .non H', rt := Q } (start ["many", "step", "begin", "place", "number"] vs) H := by
  unfold sCount at h
  obtain ⟨m, d, b, x, rfl, tx, h⟩ := h
  refine ⟨_, rfl, _, rfl, _, rfl, ?_⟩
  show sRing K CM CS CP [m, d, b] H _ E
  refine h.ring fun n s g em es eg n1 n2 s1 s2 g1 g2 ok => ?_
  subst em es eg
  refine ⟨_, rfl, _, rfl, x, n, rfl, tx, fun hx => ?_, fun hx => ok.1 hx⟩
  obtain ⟨p', rfl, p1, p2⟩ := wh_int hx
  obtain ⟨p, rfl⟩ : ∃ p : Nat, p' = (p : Int) := ⟨p'.toNat, by omega⟩
  have ok := ok.2 p rfl (by omega)
  obtain ⟨M, rfl⟩ : ∃ M : Nat, n = (M : Int) := ⟨n.toNat, by omega⟩
  obtain ⟨D, rfl⟩ : ∃ D : Nat, s = (D : Int) := ⟨s.toNat, by omega⟩
  obtain ⟨B, rfl⟩ : ∃ B : Nat, g = (B : Int) := ⟨g.toNat, by omega⟩
  simp only [Int.toNat_natCast] at ok
  have hD : 0 < D := by omega
  refine ⟨_, rfl, _, rfl, _, _, rfl, rfl, _, rfl, _, _, rfl, rfl, pos0 (by omega), _, _, rfl, rfl, ?_⟩
  -- the first number
  obtain ⟨N0, hN0, h0l, h0t⟩ : ∃ N0 : Nat, ((p : Int) - (B : Int)) % (M : Int) + 1 = (N0 : Int) ∧ 1 ≤ N0 ∧ N0 ≤ M ∧ Jos.told D (Jos.ring M B) N0 = some p := by
    have c1 : 0 ≤ ((p : Int) - (B : Int)) % (M : Int) := Int.emod_nonneg _ (by omega)
    have c2 : ((p : Int) - (B : Int)) % (M : Int) < M := Int.emod_lt_of_pos _ (by omega)
    refine ⟨(((p : Int) - (B : Int)) % (M : Int) + 1).toNat, by omega, by omega, by omega, ?_⟩
    rw [Jos.told_first hD (by omega) (by rw [Jos.ring_len]; omega), Jos.ring_get (by omega) (by omega)]
    congr 1
    apply Int.ofNat.inj
    show (((B + ((((p : Int) - (B : Int)) % (M : Int) + 1).toNat - 1)) % M : Nat) : Int) = (p : Int)
    rw [show B + ((((p : Int) - (B : Int)) % (M : Int) + 1).toNat - 1) = B + (((p : Int) - (B : Int)) % (M : Int)).toNat by omega, Int.natCast_emod, Int.natCast_add, Int.toNat_of_nonneg c1, Int.add_emod_emod, show (B : Int) + ((p : Int) - (B : Int)) = (p : Int) by omega]
    exact Int.emod_eq_of_lt (by omega) (by omega)
  dsimp only
  rw [hN0]
  have hMD : M ≤ M * D := Nat.le_mul_of_pos_right M hD
  refine ⟨fun μ σ H' => ∃ N : Nat, σ = [some (.int (M : Int)), some (.int (D : Int)), some (.int (B : Int)), some (.int (p : Int)), some (.int (N : Int))] ∧ H' = H ∧ μ = M * D - N ∧ 1 ≤ N ∧ N ≤ M * D ∧ Jos.told D (Jos.ring M B) N = some p,
    ⟨M * D - N0, N0, rfl, rfl, rfl, h0l, by omega, h0t.2⟩, ?_⟩
  intro μ σ H' hW
  obtain ⟨N, rfl, rfl, rfl, hN1, hN2, hN3⟩ := hW
  refine ⟨_, rfl, _, rfl, _, _, rfl, rfl, pos0 (by omega), rfl, _, rfl, ?_⟩
  refine iteC (fun e => ?_) (fun e => ?_)
  rotate_left
  · have hz : N % D = 0 := by
      rw [Bool.not_eq_false', decide_eq_true_eq] at e
      have z := V.int.inj e
      rw [← Int.natCast_emod] at z
      omega
    refine ⟨_, rfl, _, rfl, _, _, rfl, rfl, ⟨by omega, by omega⟩, ?_⟩
    dsimp only
    rw [← Int.natCast_ediv]
    have hq := Nat.div_add_mod N D
    rw [hz, Nat.add_zero] at hq
    have q1 : 0 < N / D := Nat.div_pos (Nat.le_of_dvd (by omega) (Nat.dvd_of_mod_eq_zero hz)) hD
    have q2 : N / D ≤ M := Nat.div_le_of_le_mul (by rw [Nat.mul_comm]; exact hN2)
    have k := ok (N / D - 1) (by
      rw [Jos.order_told hD (by omega), show (N / D - 1 + 1) * D = N by rw [show N / D - 1 + 1 = N / D by omega, Nat.mul_comm]; exact hq]
      exact hN3)
    rw [show ((N / D : Nat) : Int) = ((N / D - 1 : Nat) : Int) + 1 by omega]
    exact k
  · have hz : N % D ≠ 0 := by
      rw [Bool.not_eq_true', decide_eq_false_iff_not] at e
      intro z
      exact e (by show V.int ((N : Int) % (D : Int)) = V.int 0; rw [← Int.natCast_emod, z]; rfl)
    obtain ⟨l1, l2, l3⟩ := Jos.leap_up hD hN2 hz
    refine ⟨fun σ' H'' => ∃ m', m' < M * D - N ∧ ∃ N : Nat, σ' = [some (.int (M : Int)), some (.int (D : Int)), some (.int (B : Int)), some (.int (p : Int)), some (.int (N : Int))] ∧ H'' = H' ∧ m' = M * D - N ∧ 1 ≤ N ∧ N ≤ M * D ∧ Jos.told D (Jos.ring M B) N = some p, fun _ _ h => h, ?_⟩
    refine ⟨_, rfl, _, rfl, _, _, rfl, rfl, _, rfl, _, rfl, _, _, rfl, rfl, ⟨by omega, by omega⟩, _, _, rfl, rfl, ?_⟩
    refine ⟨M * D - (M + N - N / D), by omega, M + N - N / D, ?_, rfl, rfl, by omega, l2, ?_⟩
    · have e2 : (M : Int) + (N : Int) - (N : Int) / (D : Int) = ((M + N - N / D : Nat) : Int) := by
        rw [← Int.natCast_ediv]; omega
      dsimp only
      rw [e2]
      rfl
    · have := Jos.told_leap (l := Jos.ring M B) hD hN1 (by rw [Jos.ring_len]; exact hN2) hz
      rw [Jos.ring_len] at this
      rw [this]
      exact hN3
end Cd

set_option Elab.async false
set_option linter.all false
set_option maxRecDepth 100000
set_option maxHeartbeats 2000000
namespace Cd
open PySem PySem.Spec PyProof.Rows L2
open Evl (Ex sq_of ex_l sz_of sz_lt fresh_back)
def t_place_at : TS :=
(tSeq (tAsg (tOp oMul (tVar 3) (tVar 1)) (gName 4))
  (tSeq (tWhile (tTest (tOp oGt (tVar 4) (tVar 0)))
  (tSeq (tAsg (tOp oSub (tVar 4) (tVar 0)) (gName 5))
  (tAsg (tOp oAdd (tVar 5) (tOp oFdiv (tOp oSub (tVar 5) (tC (.int 1))) (tOp oSub (tVar 1) (tC (.int 1))))) (gName 4))))
  (tRet (tOp oMod (tOp oSub (tOp oAdd (tVar 2) (tVar 4)) (tC (.int 1))) (tVar 0)))))
def sPlace : Sp := fun vs H Q _ => ∃ M D B C : Nat, vs = [.int (M : Int), .int (D : Int), .int (B : Int), .int (C : Int)] ∧ 1 ≤ D ∧ D ≤ 100 ∧ B < M ∧ 1 ≤ C ∧ C ≤ M ∧
  ∀ p : Nat, (Jos.order D M B)[C - 1]? = some p → Q (.int (p : Int)) H
theorem pure_place_at {vs : List V} {H : Hp} {Q : VK} {E : XK} {nx : L2.St → Hp → Prop} (h : sPlace vs H Q E) : t_place_at { nx := nx, rt := Q } (start ["many", "step", "begin", "count", "number", "over"] vs) H := by
  obtain ⟨M, D, B, C, rfl, d1, d2, b1, c1, c2, q⟩ := h
  have hD : 0 < D := by omega
  refine ⟨_, rfl, _, rfl, _, _, rfl, rfl, .inr ⟨by omega, by omega⟩, ?_⟩
  have hCD : D ≤ C * D := Nat.le_mul_of_pos_left D (by omega)
  have hCM : C * D ≤ M * D := Nat.mul_le_mul_right D c2
  have hlen : (Jos.order D M B).length = M := Jos.order_len D M B
  obtain ⟨p, hp⟩ : ∃ p, (Jos.order D M B)[C - 1]? = some p := ⟨_, List.getElem?_eq_getElem (by omega)⟩
  have q := q p hp
  have ht : Jos.told D (Jos.ring M B) (C * D) = some p := by
    rw [Jos.order_told hD (by omega), show C - 1 + 1 = C by omega] at hp
    exact hp
  dsimp only
  rw [show (C : Int) * (D : Int) = ((C * D : Nat) : Int) by rw [Int.natCast_mul]]
  refine ⟨fun μ σ H' => ∃ N : Nat, ∃ y5, σ = [some (.int (M : Int)), some (.int (D : Int)), some (.int (B : Int)), some (.int (C : Int)), some (.int (N : Int)), y5] ∧ H' = H ∧ μ = N ∧ 1 ≤ N ∧ N ≤ M * D ∧ Jos.told D (Jos.ring M B) N = some p,
    ⟨C * D, C * D, none, rfl, rfl, rfl, by omega, hCM, ht⟩, ?_⟩
  intro μ σ H' hW
  obtain ⟨N, y5, rfl, rfl, hmu, hN1, hN2, hN3⟩ := hW
  refine ⟨_, rfl, _, rfl, _, _, rfl, rfl, _, rfl, iteC (fun e => ?_) (fun e => ?_)⟩
  · have e1 : (M : Int) < (N : Int) := of_decide_eq_true e
    obtain ⟨l0, l1, l2, l3, l4⟩ := Jos.leap_down hD (show M < N by omega) hN2
    refine ⟨fun σ' H'' => ∃ m', m' < μ ∧ ∃ N : Nat, ∃ y5, σ' = [some (.int (M : Int)), some (.int (D : Int)), some (.int (B : Int)), some (.int (C : Int)), some (.int (N : Int)), y5] ∧ H'' = H' ∧ m' = N ∧ 1 ≤ N ∧ N ≤ M * D ∧ Jos.told D (Jos.ring M B) N = some p, fun _ _ h => h, ?_⟩
    refine ⟨_, rfl, _, rfl, _, _, rfl, rfl, ?_⟩
    refine ⟨_, rfl, _, rfl, _, _, rfl, rfl, _, rfl, _, _, rfl, rfl, _, _, rfl, rfl, ⟨by omega, by omega⟩, _, _, rfl, rfl, ?_⟩
    refine ⟨N - M + (N - M - 1) / (D - 1), by omega, _, some (.int ((N : Int) - (M : Int))), ?_, rfl, rfl, l1, by omega, ?_⟩
    · have e2 : (N : Int) - (M : Int) + ((N : Int) - (M : Int) - 1) / ((D : Int) - 1) = ((N - M + (N - M - 1) / (D - 1) : Nat) : Int) := by
        rw [Int.natCast_add, Int.natCast_ediv]
        congr 1
        · omega
        · congr 1 <;> omega
      rw [← e2]
      rfl
    · have k := Jos.told_back (l := Jos.ring M B) hD (n := N) (by rw [Jos.ring_len]; omega) (by rw [Jos.ring_len]; exact hN2)
      rw [Jos.ring_len] at k
      rw [k]
      exact hN3
  · have e1 : ¬ (M : Int) < (N : Int) := of_decide_eq_false e
    refine ⟨_, rfl, _, rfl, _, _, rfl, rfl, _, _, rfl, rfl, _, rfl, _, _, rfl, rfl, pos0 (by omega), ?_⟩
    rw [Jos.told_first hD hN1 (by rw [Jos.ring_len]; omega), Jos.ring_get (by omega) (by omega)] at hN3
    have e2 := Option.some.inj hN3
    have e3 : ((B : Int) + (N : Int) - 1) % (M : Int) = (p : Int) := by
      rw [← e2, Int.natCast_emod, Int.natCast_add]
      congr 1
      omega
    dsimp only
    rw [e3]
    exact q
def t_goes_at (K : PySem.W.Frag) (CM CS CP CC : Addr) (E : XK) : TS :=
(tSeq (tDrop (tCall (sRing K CM CS CP) [] E (tCons (tVar 0) (tCons (tVar 1) (tCons (tVar 2) tNil)))))
  (tSeq (tDrop (tCall (sCkC K CC) [] E (tCons (tVar 3) (tCons (tC (.int 1)) (tCons (tVar 0) tNil)))))
  (tRet (tCall sPlace [] E0 (tCons (tVar 0) (tCons (tVar 1) (tCons (tVar 2) (tCons (tVar 3) tNil))))))))
@[irreducible] def sGoes (K : PySem.W.Frag) (CM CS CP CC : Addr) : Sp := fun vs H Q E => ∃ m d b x, vs = [m, d, b, x] ∧ Typ K H x ∧ sRef K CM CS CP m d b H E fun n s g =>
  (whB x 1 n = false → E (.ref CC) none H) ∧ ∀ c : Nat, x = .int (c : Int) → 1 ≤ c → (c : Int) ≤ n → ∀ p : Nat, (Jos.order s.toNat n.toNat g.toNat)[c - 1]? = some p → Q (.int (p : Int)) H
theorem pure_goes_at {K : PySem.W.Frag} {CM CS CP CC : Addr} {vs : List V} {H : Hp} {Q : VK} {E : XK} (h : sGoes K CM CS CP CC vs H Q E) : t_goes_at K CM CS CP CC E { nx := fun _ H' => Q .non H', rt := Q } (start ["many", "step", "begin", "count"] vs) H := by
  unfold sGoes at h
  obtain ⟨m, d, b, x, rfl, tx, h⟩ := h
  refine ⟨_, rfl, _, rfl, _, rfl, ?_⟩
  show sRing K CM CS CP [m, d, b] H _ E
  refine h.ring fun n s g em es eg n1 n2 s1 s2 g1 g2 ok => ?_
  subst em es eg
  refine ⟨_, rfl, _, rfl, x, 1, n, rfl, tx, fun hx => ?_, fun hx => ok.1 hx⟩
  obtain ⟨c', rfl, p1, p2⟩ := wh_int hx
  obtain ⟨c, rfl⟩ : ∃ c : Nat, c' = (c : Int) := ⟨c'.toNat, by omega⟩
  have ok := ok.2 c rfl (by omega) p2
  obtain ⟨M, rfl⟩ : ∃ M : Nat, n = (M : Int) := ⟨n.toNat, by omega⟩
  obtain ⟨D, rfl⟩ : ∃ D : Nat, s = (D : Int) := ⟨s.toNat, by omega⟩
  obtain ⟨B, rfl⟩ : ∃ B : Nat, g = (B : Int) := ⟨g.toNat, by omega⟩
  simp only [Int.toNat_natCast] at ok
  exact ⟨_, rfl, _, rfl, _, rfl, _, rfl, M, D, B, c, rfl, by omega, by omega, by omega, by omega, by omega, ok⟩
def t_last_of (K : PySem.W.Frag) (CM CS CP : Addr) (E : XK) : TS :=
(tSeq (tDrop (tCall (sRing K CM CS CP) [] E (tCons (tVar 0) (tCons (tVar 1) (tCons (tVar 2) tNil)))))
  (tRet (tCall sPlace [] E0 (tCons (tVar 0) (tCons (tVar 1) (tCons (tVar 2) (tCons (tVar 0) tNil)))))))
@[irreducible] def sLast (K : PySem.W.Frag) (CM CS CP : Addr) : Sp := fun vs H Q E => ∃ m d b, vs = [m, d, b] ∧ sRef K CM CS CP m d b H E fun n s g =>
  ∀ p : Nat, (Jos.order s.toNat n.toNat g.toNat)[n.toNat - 1]? = some p → Q (.int (p : Int)) H
theorem pure_last_of {K : PySem.W.Frag} {CM CS CP : Addr} {vs : List V} {H : Hp} {Q : VK} {E : XK} (h : sLast K CM CS CP vs H Q E) : t_last_of K CM CS CP E { nx := fun _ H' => Q .non H', rt := Q } (start ["many", "step", "begin"] vs) H := by
  unfold sLast at h
  obtain ⟨m, d, b, rfl, h⟩ := h
  refine ⟨_, rfl, _, rfl, _, rfl, ?_⟩
  show sRing K CM CS CP [m, d, b] H _ E
  refine h.ring fun n s g em es eg n1 n2 s1 s2 g1 g2 ok => ?_
  subst em es eg
  obtain ⟨M, rfl⟩ : ∃ M : Nat, n = (M : Int) := ⟨n.toNat, by omega⟩
  obtain ⟨D, rfl⟩ : ∃ D : Nat, s = (D : Int) := ⟨s.toNat, by omega⟩
  obtain ⟨B, rfl⟩ : ∃ B : Nat, g = (B : Int) := ⟨g.toNat, by omega⟩
  simp only [Int.toNat_natCast] at ok
  exact ⟨_, rfl, _, rfl, _, rfl, _, rfl, M, D, B, M, rfl, by omega, by omega, by omega, by omega, by omega, ok⟩
/-- right numbers: nothing is refused -/
theorem sRef.right {K : PySem.W.Frag} {CM CS CP : Addr} {M D B : Nat} {H : Hp} {E : XK} {ok : Int → Int → Int → Prop} (hM : (M : Int) ≤ big) (h1 : 1 ≤ D) (h2 : D ≤ 100) (h3 : B < M) (k : ok (M : Int) (D : Int) (B : Int)) :
    sRef K CM CS CP (.int (M : Int)) (.int (D : Int)) (.int (B : Int)) H E ok := by
  refine ⟨Typ.int, Typ.int, Typ.int, fun e => ?_, fun n en n1 n2 => ?_⟩
  · rw [wh_of (by omega) hM] at e; cases e
  · cases en
    refine ⟨fun e => ?_, fun s es s1 s2 => ?_⟩
    · rw [wh_of (by omega) (by omega)] at e; cases e
    · cases es
      refine ⟨fun e => ?_, fun g eg g1 g2 => ?_⟩
      · rw [wh_of (by omega) (by omega)] at e; cases e
      · cases eg
        exact k
end Cd

set_option Elab.async false
set_option linter.all false
set_option maxRecDepth 100000
set_option maxHeartbeats 2000000
namespace Cd
open PySem PySem.Spec PyProof.Rows L2
open Evl (Ex sq_of ex_l sz_of sz_lt fresh_back)
section
variable {K : PySem.W.Frag} {CM CS CP CC : Addr} {M D B P c : Nat} {H : Hp} {Q : VK} {E : XK}
theorem count_right (hM : (M : Int) ≤ big) (h1 : 1 ≤ D) (h2 : D ≤ 100) (h3 : B < M) (hc : (Jos.order D M B)[c]? = some P) (q : Q (.int ((c : Int) + 1)) H) : sCount K CM CS CP [.int (M : Int), .int (D : Int), .int (B : Int), .int (P : Int)] H Q E := by
  unfold sCount
  have hP : P < M := Jos.order_lt (List.mem_of_getElem? hc)
  refine ⟨_, _, _, _, rfl, Typ.int, sRef.right hM h1 h2 h3 ⟨fun e => ?_, fun p ep hp c' hc' => ?_⟩⟩
  · rw [wh_of (by omega) (by omega)] at e; cases e
  · have e1 : p = P := by have := V.int.inj ep; omega
    subst e1
    simp only [Int.toNat_natCast] at hc'
    rw [Jos.nodup_get (Jos.order_nodup D M B) hc' hc]
    exact q
theorem goes_right (hM : (M : Int) ≤ big) (h1 : 1 ≤ D) (h2 : D ≤ 100) (h3 : B < M) (hc : (Jos.order D M B)[c]? = some P) (q : Q (.int (P : Int)) H) : sGoes K CM CS CP CC [.int (M : Int), .int (D : Int), .int (B : Int), .int ((c : Int) + 1)] H Q E := by
  unfold sGoes
  have hl : c < M := by
    have := (List.getElem?_eq_some_iff.mp hc).1
    rw [Jos.order_len] at this; exact this
  refine ⟨_, _, _, _, rfl, Typ.int, sRef.right hM h1 h2 h3 ⟨fun e => ?_, fun c' ec h4 h5 p hp => ?_⟩⟩
  · rw [wh_of (by omega) (by omega)] at e; cases e
  · have e1 : c' = c + 1 := by have := V.int.inj ec; omega
    subst e1
    simp only [Int.toNat_natCast, Nat.add_sub_cancel] at hp
    rw [hc] at hp
    rw [← Option.some.inj hp]
    exact q
theorem last_right (hM : (M : Int) ≤ big) (h1 : 1 ≤ D) (h2 : D ≤ 100) (h3 : B < M) (hc : (Jos.order D M B)[M - 1]? = some P) (q : Q (.int (P : Int)) H) : sLast K CM CS CP [.int (M : Int), .int (D : Int), .int (B : Int)] H Q E := by
  unfold sLast
  refine ⟨_, _, _, rfl, sRef.right hM h1 h2 h3 fun p hp => ?_⟩
  simp only [Int.toNat_natCast] at hp
  rw [hc] at hp
  rw [← Option.some.inj hp]
  exact q
end
/-- over enumerate of a list that stays -/
theorem for_enum {K : PySem.W.Frag} {a : Addr} {xs : List V} {g : TG} {tb : TS} {D : Ends} {σ : L2.St} {H : Hp} (Pv : Nat → L2.St → Hp → Prop) (h0 : Pv 0 σ H) (hl : ∀ i σ H, i ≤ xs.length → Pv i σ H → SqL K H a xs)
    (hs : ∀ i x σ H T, xs[i]? = some x → Pv i σ H → H T = none → g (.ref T) σ (upd H T (.tup [.int (i : Nat), x])) fun σ2 H2 => tb { D with nx := Pv (i + 1), ct := Pv (i + 1), bk := D.nx } σ2 H2) (hd : ∀ σ H, Pv xs.length σ H → D.nx σ H) :
    ∃ W : Nat → Nat → L2.St → Hp → Prop, (∃ m, W 0 m σ H) ∧ ∀ i m σ H, W i m σ H →
      ((Ite K a).stop i H ∧ D.nx σ H) ∨ ((Ite K a).go i H ∧ ∃ N : L2.St → Hp → Prop, (∀ σ' H', N σ' H' → ∃ m', m' < m ∧ W (i + 1) m' σ' H') ∧ ∀ x H', (Ite K a).yld i H x H' → g x σ H' fun σ2 H2 => tb { D with nx := N, ct := N, bk := D.nx } σ2 H2) := by
  refine ⟨fun i m σ H => m = xs.length - i ∧ i ≤ xs.length ∧ Pv i σ H, ⟨xs.length, by simp, Nat.zero_le _, h0⟩, ?_⟩
  rintro i m σ H ⟨rfl, hi, p⟩
  have q := hl i σ H hi p
  by_cases hlt : i < xs.length
  · refine .inr ⟨⟨xs, xs[i], q, by simp [hlt]⟩, Pv (i + 1), fun σ' H' p' => ⟨xs.length - (i + 1), by omega, rfl, hlt, p'⟩, fun x H' y => ?_⟩
    obtain ⟨T, z, e1, e2, e3, e4⟩ := y
    subst e1 e3
    exact hs i z σ H T (e4 xs q) p e2
  · have e : i = xs.length := by omega
    subst e
    exact .inl ⟨⟨xs, q, Nat.le_refl _⟩, hd σ H p⟩
/-- numbers as values -/
def nV (k : Nat) : V := .int (k : Int)
theorem rg_nV (M : Nat) : rgV 0 (M : Int) = (List.range M).map nV := by
  unfold rgV nV
  rw [show ((M : Int) - 0).toNat = M by omega]
  congr 1
  funext i
  rw [Int.zero_add]
theorem nV_plain (l : List Nat) : (l.map nV).all plain = true := by
  rw [List.all_eq_true]
  intro x hx
  obtain ⟨k, _, rfl⟩ := List.mem_map.mp hx
  rfl
theorem nV_get {l : List Nat} {i : Nat} {x : V} (h : (l.map nV)[i]? = some x) : ∃ k, l[i]? = some k ∧ x = nV k := by
  rw [List.getElem?_map] at h
  cases e : l[i]? with
  | none => rw [e] at h; cases h
  | some k => rw [e] at h; exact ⟨k, rfl, (Option.some.inj h).symm⟩
/-- one of some numbers within bounds -/
theorem last_at {l : List V} {x : V} {n : Nat} (h : l[n - 1]? = some x) (hn : l.length = n) (h0 : 0 < n) : atI l (-1) = some x := by
  unfold atI ixN
  rw [if_neg (by decide), if_pos (by omega)]
  show l[((-1 : Int) + (l.length : Int)).toNat]? = some x
  rw [show ((-1 : Int) + (l.length : Int)).toNat = n - 1 by omega]
  exact h
end Cd

set_option Elab.async false
set_option linter.all false
set_option maxRecDepth 100000
set_option maxHeartbeats 4000000
namespace Cd
open PySem PySem.Spec PyProof.Rows L2
open Evl (Ex sq_of ex_l sz_of sz_lt fresh_back)
theorem ten9 : (10 : Int) ^ (9 : Int).toNat = 1000000000 := by decide
theorem ten60 : (10 : Int) ^ (60 : Int).toNat = big := by decide
def t_far : TS :=
(tSeq (tAsg (tC (.int 0)) (gName 2))
  (tSeq (tFor (iRng1 (tCons (tC (.int 7)) tNil)) (gName 3)
  (tAsg (tOp oAdd (tOp oMul (tVar 2) (tOp oPow (tC (.int 10)) (tC (.int 9)))) (tOp oMod (tCall sNext [] E0 (tCons (tVar 0) tNil)) (tOp oPow (tC (.int 10)) (tC (.int 9))))) (gName 2)))
  (tRet (tOp oMod (tVar 2) (tVar 1)))))
def sFar : Sp := fun vs H Q _ => ∃ p, ∃ m : Int, vs = [.ref p, .int m] ∧ StAt H p ∧ 1 ≤ m ∧ ∀ H', ∀ n : Nat, Run p H H' → (n : Int) < m → Q (.int (n : Int)) H'
theorem pure_far {vs : List V} {H : Hp} {Q : VK} {E : XK} {nx : L2.St → Hp → Prop} (h : sFar vs H Q E) : t_far { nx := nx, rt := Q } (start ["_law_state_here", "_law_many", "_law_found", "_law_k"] vs) H := by
  obtain ⟨p, m, rfl, st, hm, q⟩ := h
  refine ⟨7, rfl, by decide, by decide, for_range (lo := 0) (n := 7) (fun i σ H' => ∃ (z : Int) (y : Option V), σ = [some (.ref p), some (.int m), some (.int z), y] ∧ Run p H H') ⟨0, none, rfl, Run.refl st⟩ ?_ ?_⟩
  · intro i σ H' hi hP
    obtain ⟨z, y, rfl, r⟩ := hP
    refine ⟨_, rfl, _, _, rfl, rfl, ⟨by decide, by decide, by decide⟩, _, _, rfl, rfl, .inr (by rw [ten9]; decide), _, rfl, p, rfl, r.2, fun H1 n1 r1 _ _ => ?_⟩
    refine ⟨_, _, rfl, rfl, ⟨by decide, by decide, by decide⟩, _, _, rfl, rfl, pos0 (by rw [ten9]; decide), _, _, rfl, rfl, ?_⟩
    exact ⟨_, _, rfl, r.trans r1⟩
  · intro σ H' hP
    obtain ⟨z, y, rfl, r⟩ := hP
    refine ⟨_, rfl, _, rfl, _, _, rfl, rfl, pos0 (by omega), ?_⟩
    have b1 : 0 ≤ z % m := Int.emod_nonneg _ (by omega)
    have b2 : z % m < m := Int.emod_lt_of_pos _ (by omega)
    obtain ⟨k, hk⟩ : ∃ k : Nat, z % m = (k : Int) := ⟨(z % m).toNat, by omega⟩
    dsimp only
    rw [hk] at b2 ⊢
    exact q H' k r b2

def t_lcount : TS :=
(tSeq (tAsg (tOp oAdd (tVar 2) (tC (.int 1))) (gName 3))
  (tSeq (tWhile (tTest (tOp rNe (tOp oMod (tVar 3) (tVar 1)) (tC (.int 0))))
  (tAsg (tOp oSub (tOp oAdd (tVar 0) (tVar 3)) (tOp oFdiv (tVar 3) (tVar 1))) (gName 3)))
  (tRet (tOp oFdiv (tVar 3) (tVar 1)))))
@[irreducible] def sLCount : Sp := fun vs H Q _ => ∃ M D p : Nat, vs = [.int (M : Int), .int (D : Int), .int (p : Int)] ∧ 1 ≤ D ∧ D ≤ 100 ∧ p < M ∧ ∀ c : Nat, (Jos.order D M 0)[c]? = some p → Q (.int ((c : Int) + 1)) H
theorem pure_lcount {vs : List V} {H : Hp} {Q : VK} {E : XK} {nx : L2.St → Hp → Prop} (h : sLCount vs H Q E) : t_lcount { nx := nx, rt := Q } (start ["_law_many", "_law_step", "_law_place_here", "_law_number"] vs) H := by
  unfold sLCount at h
  obtain ⟨M, D, p, rfl, d1, d2, pM, ok⟩ := h
  have hD : 0 < D := by omega
  have hMD : M ≤ M * D := Nat.le_mul_of_pos_right M hD
  have h0 : Jos.told D (Jos.ring M 0) (p + 1) = some p := by
    rw [Jos.told_first hD (by omega) (by rw [Jos.ring_len]; omega), Nat.add_sub_cancel, Jos.ring_get (by omega) pM, Nat.zero_add, Nat.mod_eq_of_lt pM]
  refine ⟨_, rfl, _, _, rfl, rfl, ?_⟩
  refine ⟨fun μ σ H' => ∃ N : Nat, σ = [some (.int (M : Int)), some (.int (D : Int)), some (.int (p : Int)), some (.int (N : Int))] ∧ H' = H ∧ μ = M * D - N ∧ 1 ≤ N ∧ N ≤ M * D ∧ Jos.told D (Jos.ring M 0) N = some p,
    ⟨M * D - (p + 1), p + 1, rfl, rfl, rfl, by omega, by omega, h0⟩, ?_⟩
  intro μ σ H' hW
  obtain ⟨N, rfl, rfl, rfl, hN1, hN2, hN3⟩ := hW
  refine ⟨_, rfl, _, rfl, _, _, rfl, rfl, pos0 (by omega), rfl, _, rfl, iteC (fun e => ?_) (fun e => ?_)⟩
  rotate_left
  · have hz : N % D = 0 := by
      rw [Bool.not_eq_false', decide_eq_true_eq] at e
      have z := V.int.inj e
      rw [← Int.natCast_emod] at z
      omega
    refine ⟨_, rfl, _, rfl, _, _, rfl, rfl, ⟨by omega, by omega⟩, ?_⟩
    dsimp only
    rw [← Int.natCast_ediv]
    have hq := Nat.div_add_mod N D
    rw [hz, Nat.add_zero] at hq
    have q1 : 0 < N / D := Nat.div_pos (Nat.le_of_dvd (by omega) (Nat.dvd_of_mod_eq_zero hz)) hD
    have q2 : N / D ≤ M := Nat.div_le_of_le_mul (by rw [Nat.mul_comm]; exact hN2)
    have k := ok (N / D - 1) (by
      rw [Jos.order_told hD (by omega), show (N / D - 1 + 1) * D = N by rw [show N / D - 1 + 1 = N / D by omega, Nat.mul_comm]; exact hq]
      exact hN3)
    rw [show ((N / D : Nat) : Int) = ((N / D - 1 : Nat) : Int) + 1 by omega]
    exact k
  · have hz : N % D ≠ 0 := by
      rw [Bool.not_eq_true', decide_eq_false_iff_not] at e
      intro z
      exact e (by show V.int ((N : Int) % (D : Int)) = V.int 0; rw [← Int.natCast_emod, z]; rfl)
    obtain ⟨l1, l2, l3⟩ := Jos.leap_up hD hN2 hz
    refine ⟨fun σ' H'' => ∃ m', m' < M * D - N ∧ ∃ N : Nat, σ' = [some (.int (M : Int)), some (.int (D : Int)), some (.int (p : Int)), some (.int (N : Int))] ∧ H'' = H' ∧ m' = M * D - N ∧ 1 ≤ N ∧ N ≤ M * D ∧ Jos.told D (Jos.ring M 0) N = some p, fun _ _ h => h, ?_⟩
    refine ⟨_, rfl, _, rfl, _, _, rfl, rfl, _, rfl, _, rfl, _, _, rfl, rfl, ⟨by omega, by omega⟩, _, _, rfl, rfl, ?_⟩
    refine ⟨M * D - (M + N - N / D), by omega, M + N - N / D, ?_, rfl, rfl, by omega, l2, ?_⟩
    · have e2 : (M : Int) + (N : Int) - (N : Int) / (D : Int) = ((M + N - N / D : Nat) : Int) := by
        rw [← Int.natCast_ediv]; omega
      dsimp only
      rw [e2]
      rfl
    · have := Jos.told_leap (l := Jos.ring M 0) hD hN1 (by rw [Jos.ring_len]; exact hN2) hz
      rw [Jos.ring_len] at this
      rw [this]
      exact hN3
def t_lplace : TS :=
(tSeq (tAsg (tOp oAdd (tOp oSub (tVar 0) (tVar 2)) (tC (.int 1))) (gName 3))
  (tSeq (tAsg (tOp oMod (tOp oSub (tVar 1) (tC (.int 1))) (tVar 3)) (gName 4))
  (tSeq (tWhile (tTest (tOp oLt (tVar 3) (tVar 0)))
  (tSeq (tAsg (tOp oSub (tVar 0) (tVar 3)) (gName 5))
  (tSeq (tIfS (tTest (tOp oGt (tVar 1) (tC (.int 1))))
  (tAsg (tCB oMin2 (tCons (tVar 5) (tCons (tCB oMax2 (tCons (tC (.int 1)) (tCons (tOp oFdiv (tOp oSub (tOp oSub (tVar 3) (tVar 4)) (tC (.int 1))) (tOp oSub (tVar 1) (tC (.int 1)))) tNil))) tNil))) (gName 5))
  tNext)
  (tSeq (tAsg (tOp oAdd (tVar 4) (tOp oMul (tVar 1) (tVar 5))) (gName 4))
  (tSeq (tAsg (tOp oAdd (tVar 3) (tVar 5)) (gName 3))
  (tAsg (tOp oMod (tVar 4) (tVar 3)) (gName 4)))))))
  (tRet (tVar 4)))))
@[irreducible] def sLPlace : Sp := fun vs H Q _ => ∃ M D C : Nat, vs = [.int (M : Int), .int (D : Int), .int (C : Int)] ∧ 1 ≤ D ∧ D ≤ 100 ∧ 1 ≤ C ∧ C ≤ M ∧ ∀ p : Nat, (Jos.order D M 0)[C - 1]? = some p → Q (.int (p : Int)) H
theorem pure_lplace {vs : List V} {H : Hp} {Q : VK} {E : XK} {nx : L2.St → Hp → Prop} (h : sLPlace vs H Q E) : t_lplace { nx := nx, rt := Q } (start ["_law_many", "_law_step", "_law_count_here", "_law_size", "_law_place_here", "_law_leap"] vs) H := by
  unfold sLPlace at h
  obtain ⟨M, D, C, rfl, d1, d2, c1, c2, ok⟩ := h
  have hD : 0 < D := by omega
  refine ⟨_, rfl, _, rfl, _, _, rfl, rfl, _, _, rfl, rfl, ?_⟩
  dsimp only
  rw [show (M : Int) - (C : Int) + 1 = ((M - C + 1 : Nat) : Int) by omega]
  refine ⟨_, rfl, _, _, rfl, rfl, _, rfl, _, _, rfl, rfl, pos0 (by omega), ?_⟩
  dsimp only
  rw [show ((D : Int) - 1) % ((M - C + 1 : Nat) : Int) = (((D - 1) % (M - C + 1) : Nat) : Int) by rw [Int.natCast_emod]; congr 1; omega]
  refine ⟨fun μ σ H' => ∃ S P : Nat, ∃ y, σ = [some (.int (M : Int)), some (.int (D : Int)), some (.int (C : Int)), some (.int (S : Int)), some (.int (P : Int)), y] ∧ H' = H ∧ μ = M - S ∧ M - C + 1 ≤ S ∧ S ≤ M ∧ (Jos.order D S 0)[S - (M - C + 1)]? = some P,
    ⟨M - (M - C + 1), M - C + 1, (D - 1) % (M - C + 1), none, rfl, rfl, rfl, Nat.le_refl _, by omega, by rw [Nat.sub_self]; exact Jos.order_zero hD (by omega)⟩, ?_⟩
  intro μ σ H' hW
  obtain ⟨S, P, y, rfl, rfl, rfl, hS1, hS2, hP⟩ := hW
  have hPS : P < S := Jos.order_lt (List.mem_of_getElem? hP)
  refine ⟨_, rfl, _, rfl, _, _, rfl, rfl, _, rfl, iteC (fun e => ?_) (fun e => ?_)⟩
  · have e1 : (S : Int) < (M : Int) := of_decide_eq_true e
    refine ⟨fun σ' H'' => ∃ m', m' < M - S ∧ ∃ S P : Nat, ∃ y, σ' = [some (.int (M : Int)), some (.int (D : Int)), some (.int (C : Int)), some (.int (S : Int)), some (.int (P : Int)), y] ∧ H'' = H' ∧ m' = M - S ∧ M - C + 1 ≤ S ∧ S ≤ M ∧ (Jos.order D S 0)[S - (M - C + 1)]? = some P, fun _ _ h => h, ?_⟩
    refine ⟨_, rfl, _, rfl, _, _, rfl, rfl, ?_⟩
    have fin : ∀ L : Nat, 1 ≤ L → S + L ≤ M → P + (D - 1) * (L - 1) < S → (tSeq (tAsg (tOp oAdd (tVar 4) (tOp oMul (tVar 1) (tVar 5))) (gName 4))
        (tSeq (tAsg (tOp oAdd (tVar 3) (tVar 5)) (gName 3))
        (tAsg (tOp oMod (tVar 4) (tVar 3)) (gName 4)))) { nx := fun σ' H'' => ∃ m', m' < M - S ∧ ∃ S P : Nat, ∃ y, σ' = [some (.int (M : Int)), some (.int (D : Int)), some (.int (C : Int)), some (.int (S : Int)), some (.int (P : Int)), y] ∧ H'' = H' ∧ m' = M - S ∧ M - C + 1 ≤ S ∧ S ≤ M ∧ (Jos.order D S 0)[S - (M - C + 1)]? = some P, rt := Q }
        [some (.int (M : Int)), some (.int (D : Int)), some (.int (C : Int)), some (.int (S : Int)), some (.int (P : Int)), some (.int (L : Int))] H' := by
      intro L hL1 hL2 hL3
      refine ⟨_, rfl, _, rfl, _, rfl, _, _, rfl, rfl, .inl ⟨by omega, by omega⟩, _, _, rfl, rfl, ?_⟩
      refine ⟨_, rfl, _, rfl, _, _, rfl, rfl, ?_⟩
      refine ⟨_, rfl, _, rfl, _, _, rfl, rfl, pos0 (by omega), ?_⟩
      refine ⟨M - (S + L), by omega, S + L, (P + D * L) % (S + L), some (.int (L : Int)), ?_, rfl, rfl, by omega, hL2, ?_⟩
      rotate_left
      · have g := Jos.order_leap1 hD hP L hL1 hL3
        rw [show S + L - (M - C + 1) = S - (M - C + 1) + L by omega]
        exact g
      · have e2 : ((P : Int) + (D : Int) * (L : Int)) % ((S : Int) + (L : Int)) = (((P + D * L) % (S + L) : Nat) : Int) := by
          rw [Int.natCast_emod, Int.natCast_add, Int.natCast_add, Int.natCast_mul]
        dsimp only
        rw [e2]
        rfl
    refine ⟨_, rfl, _, _, rfl, rfl, _, rfl, iteC (fun e2 => ?_) (fun e2 => ?_)⟩
    · have e3 : 1 < (D : Int) := of_decide_eq_true e2
      refine ⟨_, rfl, _, rfl, _, rfl, _, _, rfl, rfl, _, _, rfl, rfl, _, rfl, _, _, rfl, rfl, _, _, rfl, rfl, ⟨by omega, by omega⟩, _, _, rfl, _, _, rfl, ?_⟩
      dsimp only
      obtain ⟨q, hq⟩ : ∃ q : Nat, ((S : Int) - (P : Int) - 1) / ((D : Int) - 1) = (q : Int) ∧ (D - 1) * q ≤ S - P - 1 := by
        refine ⟨(S - P - 1) / (D - 1), ?_, Nat.mul_div_le _ _⟩
        rw [Int.natCast_ediv]
        congr 1 <;> omega
      rw [hq.1]
      have hmax : (if (q : Int) > 1 then (q : Int) else 1) = ((max 1 q : Nat) : Int) := by
        split <;> omega
      rw [hmax]
      have hmin : (if ((max 1 q : Nat) : Int) < (M : Int) - (S : Int) then ((max 1 q : Nat) : Int) else (M : Int) - (S : Int)) = ((min (M - S) (max 1 q) : Nat) : Int) := by
        split <;> omega
      rw [hmin]
      refine fin (min (M - S) (max 1 q)) (by omega) (by omega) ?_
      by_cases hq1 : q ≤ 1
      · rw [show min (M - S) (max 1 q) - 1 = 0 by omega, Nat.mul_zero]; omega
      · have : (D - 1) * (min (M - S) (max 1 q) - 1) ≤ (D - 1) * q := Nat.mul_le_mul_left _ (by omega)
        omega
    · have e3 : ¬ 1 < (D : Int) := of_decide_eq_false e2
      have eD : D = 1 := by omega
      have k := fin (M - S) (by omega) (by omega) (by rw [eD]; omega)
      rw [show ((M - S : Nat) : Int) = (M : Int) - (S : Int) by omega] at k
      exact k
  · have e1 : ¬ (S : Int) < (M : Int) := of_decide_eq_false e
    have eS : S = M := by omega
    subst eS
    refine ⟨_, rfl, ok P ?_⟩
    rw [← hP]
    congr 1
    omega
/-- the script is read whatever the chance does -/
def ScAt (K : PySem.W.Frag) (H : Hp) (a p : Addr) (ns : List Int) : Prop := ∀ H', Run p H H' → SqL K H' a (ns.map V.int)
theorem ScAt.run {K : PySem.W.Frag} {H H' : Hp} {a p : Addr} {ns : List Int} (h : ScAt K H a p ns) (r : Run p H H') : ScAt K H' a p ns := fun H2 r2 => h H2 (r.trans r2)
theorem ScAt.of {K : PySem.W.Frag} {H H1 : Hp} {a p : Addr} {ns : List Int} (h : SqL K H a (ns.map V.int)) (np : H p = none) (e : Ex H H1) : ScAt K H1 a p ns := fun H' r => by
  have go : ∀ {b : Addr} {u : HO}, H b = some u → H' b = some u := fun {b u} hb => r.1 b u (ne_of_none hb np) (e b u hb)
  rcases h with (h | ⟨o, h⟩) | h
  · exact .inl (.inl (go h))
  · exact .inl (.inr ⟨o, go h⟩)
  · exact .inr h
/-- a number of a told range -/
theorem int_nat {z lo hi : Int} (h0 : 0 ≤ lo) (h1 : lo ≤ z) (h2 : z ≤ hi) : ∃ k : Nat, z = (k : Int) ∧ lo ≤ (k : Int) ∧ (k : Int) ≤ hi := ⟨z.toNat, by omega, by omega, by omega⟩
theorem dec_self {x : V} (h : (!decide (x = x)) = true) : False := by
  rw [decide_eq_true rfl] at h; cases h
theorem wh_off {i lo hi : Int} (h : ¬ (lo ≤ i ∧ i ≤ hi)) : whB (.int i) lo hi = false := by
  cases e : whB (.int i) lo hi with
  | false => rfl
  | true =>
    obtain ⟨j, ej, h1, h2⟩ := wh_int e
    cases ej
    exact absurd ⟨h1, h2⟩ h
end Cd

set_option Elab.async false
set_option linter.all false
set_option maxRecDepth 100000
set_option maxHeartbeats 4000000
namespace Cd
open PySem PySem.Spec PyProof.Rows L2 Tx Kp
open Evl (Ex sq_of ex_l sz_of sz_lt fresh_back)
abbrev tTru (K : PySem.W.Frag) (ta : TE) : TT := fun σ H Q => ta σ H fun x H' => ∃ k, TruV K x H' k ∧ Q k H'
abbrev rJoin (K : PySem.W.Frag) : V → List V → Hp → VK → Prop := fun x xs H Q => ∃ a p, ∃ ys : List Str, x = .str a ∧ xs = [.ref p] ∧ (SqL K H p (ys.map V.str) ∨ SqT K H p (ys.map V.str)) ∧
      (ys.map (·.length)).sum + ys.length * a.length ≤ 16777216 ∧ Q (.str (PySem.Txt.join a ys)) H
abbrev tTryK (K : PySem.W.Frag) (c : Addr) (i j : Nat) (tb : WX → TS) : TS := fun D σ H => tb (wKp K (.ref c) i j D) D σ H
/-! ### refusals -/
inductive Ek where
  | ring | many | step | place | count | hand | twice | much
  deriving DecidableEq
/-- where the classes stand -/
structure Cs where
  ring : Addr
  many : Addr
  step : Addr
  place : Addr
  count : Addr
  hand : Addr
  twice : Addr
  much : Addr
  err : Addr
def Cs.on (C : Cs) : Ek → Addr
  | .ring => C.ring
  | .many => C.many
  | .step => C.step
  | .place => C.place
  | .count => C.count
  | .hand => C.hand
  | .twice => C.twice
  | .much => C.much
def Ek.word : Ek → Str
  | .ring => "ring"
  | .many => "many"
  | .step => "step"
  | .place => "place"
  | .count => "count"
  | .hand => "hand"
  | .twice => "twice"
  | .much => "much"
structure ErrF (K : PySem.W.Frag) (C : Cs) : Prop where
  exc : ∀ k, ExcC K (C.on k)
  kit : ∀ k j, PySem.W.kitOne K (.ref (C.on k)) (.ref (C.on j)) = some (decide (k = j))
  val : ∀ k, PySem.W.kitOne K (.ref (C.on k)) (.type "ValueError") = some true
  caught : ∀ k, PySem.W.exmOne K (.ref (C.on k)) (.ref C.err) = some true
def tErr1 (K : PySem.W.Frag) (c : Addr) (z : Str) (rest : TS) : TS :=
  (tSeq (tIfS (tB (tCB (rIsX K) (tCons (tVar 0) (tCons (tC (.ref c)) tNil))))
  (tDrop (tBM K "list" rAppend (tVar 1) (tCons (tC (.str z)) tNil)))
  tNext) rest)
def t_error (K : PySem.W.Frag) (C : Cs) : TS :=
(tSeq (tAsg (tLst tNil) (gName 1))
  (tErr1 K C.ring "ring" (tErr1 K C.many "many" (tErr1 K C.step "step" (tErr1 K C.place "place" (tErr1 K C.count "count" (tErr1 K C.hand "hand" (tErr1 K C.twice "twice" (tErr1 K C.much "much"
  (tSeq (tIfS (tOr (tTest (tOp rNe (tCB (rLenL K) (tCons (tVar 1) tNil)) (tC (.int 1)))) (tNot (tB (tCB (rIsX K) (tCons (tVar 0) (tCons (tC (.ty "ValueError")) tNil))))))
  (tRet (tC (.str "other")))
  tNext)
  (tRet (tOp (rIxL K) (tVar 1) (tC (.int 0))))))))))))))
/-- the word of a kept refusal -/
def sErr (K : PySem.W.Frag) (C : Cs) : Sp := fun vs H Q _ => ∃ a k, vs = [.ref a] ∧ H a = some (ExT (.ref (C.on k)) a) ∧ ∀ H', Ex H H' → Q (.str k.word) H'
structure ErrAt (H0 H : Hp) (a l : Addr) (u : HO) (ws : List V) : Prop where
  ex : Ex H0 H
  nl : H0 l = none
  ha : H a = some u
  hl : H l = some (.lst ws)
theorem err_step {K : PySem.W.Frag} {C : Cs} (F : ErrF K C) {k : Ek} (j : Ek) {H0 H : Hp} {a l : Addr} {ws : List V} {rest : TS} {D : Ends} (hz : ws.length < 100) (e : ErrAt H0 H a l (ExT (.ref (C.on k)) a) ws)
    (g : ∀ H', ErrAt H0 H' a l (ExT (.ref (C.on k)) a) (ws ++ if k = j then [.str j.word] else []) → rest D [some (.ref a), some (.ref l)] H') : tErr1 K (C.on j) j.word rest D [some (.ref a), some (.ref l)] H := by
  refine ⟨_, rfl, a, C.on k, .ref (C.on j), _, _, rfl, .own _, e.ha, F.exc k, F.kit k j, _, rfl, iteC (fun c => ?_) (fun c => ?_)⟩
  · have ek := of_decide_eq_true c
    refine ⟨_, rfl, ty_l e.hl, l, ws, _, rfl, rfl, e.hl, sz_lt (by omega), g _ ⟨Evl.Ex.mut e.ex e.nl, e.nl, ?_, ?_⟩⟩
    · have n : a ≠ l := fun z => by
        have h1 := e.ha
        have h2 := e.hl
        rw [z, h2] at h1
        cases h1
      rw [upd_ne n]; exact e.ha
    · rw [upd_same, if_pos ek]
  · have ek := of_decide_eq_false c
    refine g H ?_
    rw [if_neg ek, List.append_nil]
    exact e
theorem pure_error {K : PySem.W.Frag} {C : Cs} (F : ErrF K C) {vs : List V} {H : Hp} {Q : VK} {E : XK} {nx : L2.St → Hp → Prop} (h : sErr K C vs H Q E) : t_error K C { nx := nx, rt := Q } (start ["_law_e", "_law_words"] vs) H := by
  obtain ⟨a, k, rfl, ha, q⟩ := h
  refine ⟨Nat.zero_le _, fun l nl => ?_⟩
  have na : a ≠ l := fun z => by rw [z, nl] at ha; cases ha
  have e0 : ErrAt H (upd H l (.lst [])) a l (ExT (.ref (C.on k)) a) [] := ⟨Evl.Ex.new nl, nl, by rw [upd_ne na]; exact ha, upd_same⟩
  refine err_step F .ring (by simp) e0 fun H1 e1 => ?_
  refine err_step F .many (by split at e1 <;> split <;> simp) e1 fun H2 e2 => ?_
  refine err_step F .step (by repeat' split <;> simp) e2 fun H3 e3 => ?_
  refine err_step F .place (by repeat' split <;> simp) e3 fun H4 e4 => ?_
  refine err_step F .count (by repeat' split <;> simp) e4 fun H5 e5 => ?_
  refine err_step F .hand (by repeat' split <;> simp) e5 fun H6 e6 => ?_
  refine err_step F .twice (by repeat' split <;> simp) e6 fun H7 e7 => ?_
  refine err_step F .much (by repeat' split <;> simp) e7 fun H8 e8 => ?_
  have e9 : ErrAt H H8 a l (ExT (.ref (C.on k)) a) [.str k.word] := by
    cases k <;> exact e8
  refine ⟨_, rfl, l, _, rfl, .inl (sq_of e9.hl), rfl, _, rfl, iteC (fun c => (by have c2 : (!decide (V.int 1 = V.int 1)) = true := c; simp at c2 : False).elim) (fun _ => ?_)⟩
  refine ⟨_, rfl, a, C.on k, .ty "ValueError", _, true, rfl, .ty _, e9.ha, F.exc k, F.val k, true, rfl, iteF ?_⟩
  exact ⟨_, rfl, l, _, 0, _, rfl, rfl, sq_of e9.hl, at0, q H8 e9.ex⟩

/-- from what the written part says of the classes -/
theorem errF_mk {K : PySem.W.Frag} {C : Cs} (hg : ∀ k, PySem.W.findIn K (.ref (C.on k)) "__getattribute__" = some (some (.builtin "BaseException.__getattribute__"))) (hk : ∀ k, PySem.W.findIn K (.ref (C.on k)) "__getattr__" = some none)
    (hs : ∀ k, PySem.W.subIn K (.ref (C.on k)) (.type "BaseException") = some true) (hd : ∀ k, PySem.W.hasDictIn K (C.on k) = true) (ha : ∀ k, PySem.W.findIn K (.ref (C.on k)) "__class__" = some (some (.builtin "object.__class__")))
    (hn : PySem.W.specialIn K (.builtin "object.__class__") "__get__" = some (some (.builtin "getset_descriptor.__get__"))) (ht : PySem.W.takesIn K (.builtin "object.__class__") = some true) (hm : ∀ k, PySem.W.mroIn K (C.on k) (.type "object") = some true)
    (ty : ∀ k, PySem.W.typeIn K (.ref (C.on k)) = some (.type "type")) (ic : ∀ k, PySem.W.isClsIn K (C.on k) = true) (sub : ∀ k j, PySem.W.subIn K (.ref (C.on k)) (.ref (C.on j)) = some (decide (k = j)))
    (sv : ∀ k, PySem.W.subIn K (.ref (C.on k)) (.type "ValueError") = some true) (eb : PySem.W.subIn K (.ref C.err) (.type "BaseException") = some true) (ed : PySem.W.hasDictIn K C.err = true) (et : PySem.W.typeIn K (.ref C.err) = some (.type "type"))
    (es : ∀ k, PySem.W.subIn K (.ref (C.on k)) (.ref C.err) = some true) : ErrF K C where
  exc k := ⟨hg k, hk k, hs k, hd k, ha k, hn, ht, hm k⟩
  kit k j := by
    unfold PySem.W.kitOne
    by_cases e : (Value.ref (C.on k) == Value.ref (C.on j)) = true
    · rw [if_pos e]
      have e1 : C.on k = C.on j := by simpa using e
      have h1 := sub k j
      rw [← e1, sub k k] at h1
      rw [← h1, decide_eq_true rfl]
    · rw [if_neg e]
      have h1 : ((PySem.W.clsIn K (C.on j)).isSome && PySem.W.typeIn K (.ref (C.on j)) == some (.type "type")) = true := by
        have h2 : (PySem.W.clsIn K (C.on j)).isSome = true := ic j
        rw [h2, ty j]; rfl
      show (if _ then _ else none) = _
      rw [if_pos h1]
      exact sub k j
  val k := by
    unfold PySem.W.kitOne
    rw [if_neg (by intro z; cases (beq_iff_eq.mp z))]
    show (if PySem.W.kitMeta "ValueError" = true then _ else none) = _
    rw [if_pos (by decide +kernel)]
    exact sv k
  caught k := PySem.W.exm_ref eb ed et (es k)
end Cd

set_option Elab.async false
set_option linter.all false
set_option maxRecDepth 100000
set_option maxHeartbeats 4000000
namespace Cd
open PySem PySem.Spec PyProof.Rows L2 Tx Kp
open Evl (Ex sq_of ex_l sz_of sz_lt fresh_back)
/-! ### what is a ring -/
def isS : V → Bool
  | .str _ => true
  | _ => false
def txt : V → Str
  | .str x => x
  | _ => Str.empty
def ringB (xs : List V) : Bool := decide (1 ≤ xs.length) && decide (xs.length ≤ 200) && xs.all isS && decide ((met (xs.map txt) xs.length).length = xs.length)
/-- things of any kind, and whether they are rings -/
inductive IsR (K : PySem.W.Frag) (H : Hp) : V → Bool → Prop where
  | no {x : V} {T : String} (t : TyX K H x (.type T)) (hT : T ∈ ["NoneType", "bool", "int", "str", "tuple", "dict"]) : IsR K H x false
  | lst {l : Addr} {xs : List V} (h : H l = some (.lst xs)) (hz : xs.length ≤ 1000) (ht : ∀ v ∈ xs, Typ K H v ∧ (isS v = true ∨ ∃ T : String, TyX K H v (.type T) ∧ T ∈ ["NoneType", "bool", "int", "list", "tuple", "dict"])) : IsR K H (.ref l) (ringB xs)
theorem tyx_ex {K : PySem.W.Frag} {H H' : Hp} {x : V} {t : Value} (h : TyX K H x t) (e : Ex H H') : TyX K H' x t := by
  cases h with
  | base b =>
    refine .base ?_
    cases b with
    | non => exact .non
    | bl x => exact .bl x
    | int i => exact .int i
    | str x => exact .str x
    | flt x => exact .flt x
    | lst h => exact .lst (e _ _ h)
    | frz h => exact .frz (e _ _ h)
    | tup h => exact .tup (e _ _ h)
    | dK h => exact .dK (e _ _ h)
    | dT h => exact .dT (e _ _ h)
    | ins h c a n t m => exact .ins (e _ _ h) c a n t m
  | byt b => exact .byt b
  | set h => exact .set (e _ _ h)
  | kList h c => exact .kList h c
  | kTuple h c => exact .kTuple h c
  | kDict h c => exact .kDict h c
  | fTuple h => exact .fTuple (e _ _ h)
  | fDict h => exact .fDict (e _ _ h)
theorem Typ.ex {K : PySem.W.Frag} {H H' : Hp} {x : V} (h : Typ K H x) (e : Ex H H') : Typ K H' x := by
  obtain ⟨T, t, m, i⟩ := h
  exact ⟨T, tyx_ex t e, m, i⟩
theorem IsR.ex {K : PySem.W.Frag} {H H' : Hp} {x : V} {b : Bool} (h : IsR K H x b) (e : Ex H H') : IsR K H' x b := by
  cases h with
  | no t m => exact .no (tyx_ex t e) m
  | lst h hz ht =>
    refine .lst (e _ _ h) hz fun v hv => ?_
    obtain ⟨t, q⟩ := ht v hv
    exact ⟨t.ex e, q.imp id fun ⟨T, a, b⟩ => ⟨T, tyx_ex a e, b⟩⟩
theorem IsR.texts {K : PySem.W.Frag} {H : Hp} {l : Addr} {ys : List Str} (h : H l = some (.lst (ys.map V.str))) (hz : ys.length ≤ 1000) : IsR K H (.ref l) (ringB (ys.map V.str)) := by
  refine .lst h (by rw [List.length_map]; exact hz) fun v hv => ?_
  obtain ⟨y, _, rfl⟩ := List.mem_map.mp hv
  exact ⟨Typ.str, .inl rfl⟩
theorem map_txt (ys : List Str) : (ys.map V.str).map txt = ys := by
  rw [List.map_map]
  exact (List.map_congr_left fun _ _ => rfl).trans (List.map_id ys)
theorem all_isS (ys : List Str) : (ys.map V.str).all isS = true := by
  rw [List.all_eq_true]
  intro x hx
  obtain ⟨y, _, rfl⟩ := List.mem_map.mp hx
  rfl
theorem ringB_texts {ys : List Str} (h1 : 1 ≤ ys.length) (h2 : ys.length ≤ 200) (hn : ys.Nodup) : ringB (ys.map V.str) = true := by
  unfold ringB
  rw [map_txt, all_isS, List.length_map, met_nodup hn _ (Nat.le_refl _)]
  simp [h1, h2]
theorem texts_of : ∀ {xs : List V}, xs.all isS = true → xs = (xs.map txt).map V.str
  | [], _ => rfl
  | x :: xs, h => by
    rw [List.all_cons, Bool.and_eq_true] at h
    rw [List.map_cons, List.map_cons, ← texts_of h.2]
    cases x <;> first | rfl | (simp [isS] at h; done)
def t_is_ring (K : PySem.W.Frag) (P : Program) (w : World) : TS :=
(tSeq (tIfS (tOr (tNot (tB (tCB (rIsi K) (tCons (tVar 0) (tCons (tC (.ty "list")) tNil))))) (tNot (tB (tCall (sIsW K) [] E0 (tCons (tCB (rLenL K) (tCons (tVar 0) tNil)) (tCons (tC (.int 1)) (tCons (tC (.int (200))) tNil)))))))
  (tRet (tC (.bl false)))
  tNext)
  (tRet (tAndV (tCB (rAll K) (tCons (tLc (iList K (tVar 0)) (gName 1) tYes (tCB (rIsi K) (tCons (tVar 1) (tCons (tC (.ty "str")) tNil))) [1]) tNil)) (tOp rEq (tCB (rLenT P w) (tCons (tCB (rSetT K P w) (tCons (tVar 0) tNil)) tNil)) (tCB (rLenL K) (tCons (tVar 0) tNil))))))
def sIsRing (K : PySem.W.Frag) : Sp := fun vs H Q _ => ∃ x, vs = [x] ∧ ∃ b, IsR K H x b ∧ ∀ H', Ex H H' → Q (.bl b) H'
theorem pure_is_ring {K : PySem.W.Frag} {P : Program} {w : World} {vs : List V} {H : Hp} {Q : VK} {E : XK} {nx : L2.St → Hp → Prop} (h : sIsRing K vs H Q E) : t_is_ring K P w { nx := nx, rt := Q } (start ["thing", "hand"] vs) H := by
  obtain ⟨x, rfl, b, hr, q⟩ := h
  cases hr with
  | no t m =>
    rename_i T
    refine ⟨_, rfl, _, _, _, _, false, rfl, .ty "list", t, kit_ty ?_, false, rfl, iteT (iteT (q H (Evl.Ex.refl H)))⟩
    simp only [List.mem_cons, List.not_mem_nil, or_false] at m
    rcases m with rfl | rfl | rfl | rfl | rfl | rfl <;> decide +kernel
  | lst h hz ht =>
    rename_i l xs
    refine ⟨_, rfl, _, _, _, _, true, rfl, .ty "list", .base (.lst h), kit_ty (by decide +kernel), true, rfl, iteF ?_⟩
    refine ⟨_, rfl, l, xs, rfl, .inl (sq_of h), _, _, _, rfl, Typ.int, _, rfl, iteC (fun c => ?_) (fun c => ?_)⟩
    · have c1 : whB (.int (xs.length : Int)) 1 200 = false := by simpa using c
      have e : ringB xs = false := by
        unfold ringB
        unfold whB at c1
        rw [Bool.and_eq_false_iff, decide_eq_false_iff_not, decide_eq_false_iff_not] at c1
        rcases c1 with c1 | c1
        · rw [decide_eq_false (show ¬ 1 ≤ xs.length by omega)]; rfl
        · rw [decide_eq_false (show ¬ xs.length ≤ 200 by omega)]; simp
      rw [e] at q
      exact q H (Evl.Ex.refl H)
    · have c1 : whB (.int (xs.length : Int)) 1 200 = true := by simpa using c
      unfold whB at c1
      rw [Bool.and_eq_true, decide_eq_true_eq, decide_eq_true_eq] at c1
      -- are all of them texts
      refine ⟨_, rfl, l, rfl, ⟨xs, sq_of h⟩, fun A nA => ?_⟩
      refine lc_list (xs := xs) (fun i H' => Ex H H' ∧ H A = none ∧ H' A = some (.lst ((xs.take i).map fun v => V.bl (isS v)))) ⟨Evl.Ex.new nA, nA, upd_same⟩ (fun i H' _ p => sq_of (p.1 _ _ h)) (fun i v H' hi p => ?_) (fun H' p => ?_)
      · obtain ⟨p1, p2, p3⟩ := p
        have hl : i < xs.length := (List.getElem?_eq_some_iff.mp hi).1
        have hv : v ∈ xs := List.mem_of_getElem? hi
        have go : ∀ b, isS v = b → Ex H (upd H' A (.lst ((xs.take i).map (fun v => V.bl (isS v)) ++ [V.bl b]))) ∧ H A = none ∧ (upd H' A (.lst ((xs.take i).map (fun v => V.bl (isS v)) ++ [V.bl b]))) A = some (.lst ((xs.take (i + 1)).map fun v => V.bl (isS v))) := by
          intro b hb
          refine ⟨Evl.Ex.mut p1 p2, p2, ?_⟩
          rw [upd_same, List.take_add_one, hi, List.map_append, ← hb]; rfl
        refine ⟨rfl, ?_⟩
        unfold tYes
        dsimp only
        rw [if_pos rfl]
        have small : ((xs.take i).map fun v => V.bl (isS v)).length < sizeLine := by rw [List.length_map, List.length_take]; exact sz_lt (by omega)
        obtain ⟨tv, hs | ⟨T, ty, hm⟩⟩ := ht v hv
        · obtain ⟨z, rfl⟩ : ∃ z, v = .str z := by cases v <;> first | exact ⟨_, rfl⟩ | (simp [isS] at hs; done)
          exact ⟨_, rfl, _, _, _, _, true, rfl, .ty "str", .base (.str z), kit_ty (by decide +kernel), _, p3, small, go true rfl⟩
        · have hs : isS v = false := by
            cases v <;> first | rfl | skip
            exfalso
            cases ty with
            | base b => cases b; revert hm; decide
          refine ⟨_, rfl, _, _, _, _, false, rfl, .ty "str", tyx_ex ty p1, kit_ty ?_, _, p3, small, go false hs⟩
          simp only [List.mem_cons, List.not_mem_nil, or_false] at hm
          rcases hm with rfl | rfl | rfl | rfl | rfl | rfl <;> decide +kernel
      · obtain ⟨p1, p2, p3⟩ := p
        rw [List.take_length] at p3
        refine ⟨A, xs.map isS, rfl, .inl (.inl (by rw [List.map_map]; exact p3)), (xs.map isS).all id, rfl, iteC (fun c2 => ?_) (fun c2 => ?_)⟩
        · have ha : xs.all isS = true := by rw [List.all_map] at c2; exact c2
          have ex := texts_of ha
          refine ⟨_, rfl, l, xs.map txt, rfl, by rw [← ex]; exact sq_of (p1 _ _ h), by rw [List.length_map]; exact hz, fun S nS => ?_⟩
          refine ⟨S, xs.map txt, rfl, upd_same, by rw [List.length_map]; exact hz, ?_⟩
          have e2 := Evl.Ex.new (o := SetT P w S (xs.map txt)) nS
          refine ⟨_, rfl, l, xs, rfl, .inl (sq_of (e2 _ _ (p1 _ _ h))), rfl, ?_⟩
          have eb : ringB xs = decide (V.int ((met (xs.map txt) (xs.map txt).length).length : Int) = V.int (xs.length : Int)) := by
            unfold ringB
            rw [ha, List.length_map, decide_eq_true (show 1 ≤ xs.length by omega), decide_eq_true (show xs.length ≤ 200 by omega)]
            simp only [Bool.true_and, V.int.injEq]
            congr 1
            exact propext ⟨fun z => by omega, fun z => by omega⟩
          rw [eb] at q
          exact q _ (p1.trans e2)
        · have ha : xs.all isS = false := by rw [List.all_map] at c2; exact c2
          have eb : ringB xs = false := by
            unfold ringB
            rw [ha]; simp
          rw [eb] at q
          exact q _ p1
end Cd

set_option Elab.async false
set_option linter.all false
set_option maxRecDepth 100000
set_option maxHeartbeats 4000000
namespace Cd
open PySem PySem.Spec PyProof.Rows L2 Tx Kp
open Evl (Ex sq_of ex_l sz_of sz_lt fresh_back)
/-! ### a ring laid out -/
def t_goes_next : TS :=
(tRet (tOp oMod (tOp oSub (tOp oAdd (tVar 2) (tVar 1)) (tC (.int 1))) (tVar 0)))
def sGN : Sp := fun vs H Q _ => ∃ m s g : Int, vs = [.int m, .int s, .int g] ∧ 0 < m ∧ Q (.int ((g + s - 1) % m)) H
theorem pure_goes_next {vs : List V} {H : Hp} {Q : VK} {E : XK} (h : sGN vs H Q E) : t_goes_next { nx := fun _ H' => Q .non H', rt := Q } (start ["many", "step", "begin"] vs) H := by
  obtain ⟨m, s, g, rfl, hm, q⟩ := h
  exact ⟨_, rfl, _, rfl, _, _, rfl, rfl, _, _, rfl, rfl, _, rfl, _, _, rfl, rfl, hm, q⟩
def t_check_laid (K : PySem.W.Frag) (CR CS CP : Addr) (E : XK) : TS :=
(tSeq (tIfS (tNot (tB (tCall (sIsRing K) [] E0 (tCons (tVar 0) tNil))))
  (tRaise CR E)
  tNext)
  (tSeq (tDrop (tCall (sCk1 K CS) [] E (tCons (tVar 1) (tCons (tC (.int (1000000000000000000000000000000000000000000000000000000000000))) tNil))))
  (tDrop (tCall (sCkP K CP) [] E (tCons (tVar 2) (tCons (tCB (rLenL K) (tCons (tVar 0) tNil)) tNil))))))
/-- what cannot be laid out -/
@[irreducible] def sLaid (K : PySem.W.Frag) (CR CS CP : Addr) : Sp := fun vs H Q E => ∃ h d b, vs = [h, d, b] ∧ ∃ rb, IsR K H h rb ∧ Typ K H d ∧ Typ K H b ∧
  (rb = false → ∀ H', Ex H H' → E (.ref CR) none H') ∧
  (rb = true → (whB d 1 big = false → ∀ H', Ex H H' → E (.ref CS) none H') ∧ ∀ s : Int, d = .int s → 1 ≤ s → s ≤ big → ∀ l xs, h = .ref l → H l = some (.lst xs) → xs.length ≤ 1000 →
    (whB b 0 ((xs.length : Int) - 1) = false → ∀ H', Ex H H' → E (.ref CP) none H') ∧ ∀ g : Nat, b = .int (g : Int) → g < xs.length → ∀ H', Ex H H' → Q .non H')
theorem pure_check_laid {K : PySem.W.Frag} {CR CS CP : Addr} {vs : List V} {H : Hp} {Q : VK} {E : XK} (h : sLaid K CR CS CP vs H Q E) : t_check_laid K CR CS CP E { nx := fun _ H' => Q .non H', rt := Q } (start ["hands", "step", "begin"] vs) H := by
  unfold sLaid at h
  obtain ⟨h, d, b, rfl, rb, hr, td, tb, q0, q⟩ := h
  refine ⟨_, rfl, h, rfl, rb, hr, fun H1 e1 => ⟨rb, rfl, iteC (fun c => ?_) (fun c => ?_)⟩⟩
  · have c1 : rb = false := by simpa using c
    exact q0 c1 H1 e1
  · have c1 : rb = true := by simpa using c
    have q := q c1
    refine ⟨_, rfl, d, _, rfl, td.ex e1, fun w1 => ?_, fun w1 => q.1 w1 H1 e1⟩
    obtain ⟨s, rfl, s1, s2⟩ := wh_int w1
    obtain ⟨l, xs, rfl, hl, hz⟩ : ∃ l xs, h = .ref l ∧ H l = some (.lst xs) ∧ xs.length ≤ 1000 := by
      cases hr with
      | no t m => cases c1
      | lst h hz _ => exact ⟨_, _, rfl, h, hz⟩
    have q := q.2 s rfl s1 s2 l xs rfl hl hz
    refine ⟨_, rfl, _, rfl, l, xs, rfl, .inl (sq_of (e1 _ _ hl)), b, _, rfl, tb.ex e1, fun w2 => ?_, fun w2 => q.1 w2 H1 e1⟩
    obtain ⟨g', rfl, g1, g2⟩ := wh_int w2
    obtain ⟨g, rfl⟩ : ∃ g : Nat, g' = (g : Int) := ⟨g'.toNat, by omega⟩
    exact q.2 g rfl (by omega) H1 e1
def t_counted_out (K : PySem.W.Frag) : TS :=
(tSeq (tAsg (tCB (rListOf K) (tCons (tVar 0) tNil)) (gName 3))
  (tSeq (tAsg (tLst tNil) (gName 4))
  (tSeq (tAsg (tVar 2) (gName 5))
  (tSeq (tWhile (tTru K (tVar 3))
  (tSeq (tAsg (tCall sGN [] E0 (tCons (tCB (rLenL K) (tCons (tVar 3) tNil)) (tCons (tVar 1) (tCons (tVar 5) tNil)))) (gName 5))
  (tDrop (tBM K "list" rAppend (tVar 4) (tCons (tBM K "list" rPopAt (tVar 3) (tCons (tVar 5) tNil)) tNil)))))
  (tRet (tVar 4))))))
/-- whatever stands there, in the order in which it goes -/
@[irreducible] def sCtd (K : PySem.W.Frag) : Sp := fun vs H Q _ => ∃ (l : Addr) (s : Int) (g : Nat) (xs : List V), vs = [.ref l, .int s, .int (g : Int)] ∧ H l = some (.lst xs) ∧ xs.length ≤ 1000 ∧ 1 ≤ s ∧ g ≤ xs.length ∧
  ∀ q H', H q = none → Ex H H' → H' q = some (.lst (Jos.out (s - 1).toNat xs.length (Jos.rot xs g))) → Q (.ref q) H'
def t_row_out (K : PySem.W.Frag) (CR CS CP : Addr) (E : XK) : TS :=
(tSeq (tDrop (tCall (sLaid K CR CS CP) [] E (tCons (tVar 0) (tCons (tVar 1) (tCons (tVar 2) tNil)))))
  (tRet (tCall (sCtd K) [] E0 (tCons (tVar 0) (tCons (tVar 1) (tCons (tVar 2) tNil))))))
/-- the list of those that go; the first refusal that is due -/
@[irreducible] def sRow (K : PySem.W.Frag) (CR CS CP : Addr) : Sp := fun vs H Q E => ∃ h d b, vs = [h, d, b] ∧ ∃ rb, IsR K H h rb ∧ Typ K H d ∧ Typ K H b ∧
  (rb = false → ∀ H', Ex H H' → E (.ref CR) none H') ∧
  (rb = true → (whB d 1 big = false → ∀ H', Ex H H' → E (.ref CS) none H') ∧ ∀ s : Int, d = .int s → 1 ≤ s → s ≤ big → ∀ l xs, h = .ref l → H l = some (.lst xs) →
    (whB b 0 ((xs.length : Int) - 1) = false → ∀ H', Ex H H' → E (.ref CP) none H') ∧ ∀ g : Nat, b = .int (g : Int) → g < xs.length →
      ∀ q H', H q = none → Ex H H' → H' q = some (.lst (Jos.out (s - 1).toNat xs.length (Jos.rot xs g))) → Q (.ref q) H')
theorem seq_at {n k : Nat} (h : k < n) : seqIndex? (k : Int) n = some k := by
  unfold seqIndex?
  simp
  omega
theorem pure_counted_out {K : PySem.W.Frag} {vs : List V} {H : Hp} {Q : VK} {E : XK} (h : sCtd K vs H Q E) : t_counted_out K { nx := fun _ H' => Q .non H', rt := Q } (start ["hands", "step", "begin", "left", "gone", "at"] vs) H := by
  unfold sCtd at h
  obtain ⟨l, s, g, xs, rfl, hl, hz, s1, hg, q⟩ := h
  refine ⟨_, rfl, l, xs, rfl, .inl (sq_of hl), fun w nw => ?_⟩
  have e2 := Evl.Ex.new (o := .lst xs) nw
  refine ⟨Nat.zero_le _, fun f nf => ?_⟩
  have e3 := Evl.Ex.new (o := .lst []) nf
  have ne : w ≠ f := fun z => by rw [← z, upd_same] at nf; cases nf
  have o0 : OutAt H (upd (upd H w (.lst xs)) f (.lst [])) f w [] xs := ⟨e2.trans e3, fresh_back e2 nf, nw, ne, upd_same, e3 _ _ upd_same⟩
  refine ⟨_, rfl, ?_⟩
  refine ⟨fun m σ H' => ∃ done left, ∃ a : Nat, σ = [some (.ref l), some (.int s), some (.int (g : Int)), some (.ref w), some (.ref f), some (.int (a : Int))] ∧ m = left.length ∧ OutAt H H' f w done left ∧ a ≤ left.length ∧ done.length + left.length ≤ 1000 ∧
    done ++ Jos.out (s - 1).toNat left.length (Jos.rot left a) = Jos.out (s - 1).toNat xs.length (Jos.rot xs g), ⟨xs.length, [], xs, g, rfl, rfl, o0, by omega, by simpa using hz, rfl⟩, ?_⟩
  intro m σ H' hW
  obtain ⟨done, left, a, rfl, rfl, o, ha, hz2, ho⟩ := hW
  refine ⟨_, rfl, !left.isEmpty, .inl ⟨left, sq_of o.hw, rfl⟩, iteC (fun c3 => ?_) (fun c3 => ?_)⟩
  rotate_left
  · have e0 : left = [] := by simpa using c3
    subst e0
    rw [← ho, List.length_nil, Jos.out, List.append_nil] at q
    exact ⟨_, rfl, q f _ o.nf o.ex o.hf⟩
  · have hpos : 0 < left.length := by
      rw [List.length_pos_iff]
      intro z
      rw [z] at c3
      cases c3
    refine ⟨fun σ2 H2 => ∃ m', m' < left.length ∧ ∃ done left, ∃ a : Nat, σ2 = [some (.ref l), some (.int s), some (.int (g : Int)), some (.ref w), some (.ref f), some (.int (a : Int))] ∧ m' = left.length ∧ OutAt H H2 f w done left ∧ a ≤ left.length ∧ done.length + left.length ≤ 1000 ∧
      done ++ Jos.out (s - 1).toNat left.length (Jos.rot left a) = Jos.out (s - 1).toNat xs.length (Jos.rot xs g), fun _ _ z => z, ?_⟩
    refine ⟨_, rfl, w, left, rfl, .inl (sq_of o.hw), _, rfl, _, rfl, _, _, _, rfl, (by omega), ?_⟩
    obtain ⟨j, hj, hjl, hjn⟩ : ∃ j : Nat, ((a : Int) + s - 1) % (left.length : Int) = (j : Int) ∧ j < left.length ∧ j = (a + (s - 1).toNat) % left.length := by
      refine ⟨(a + (s - 1).toNat) % left.length, ?_, Nat.mod_lt _ hpos, rfl⟩
      rw [Int.natCast_emod, Int.natCast_add, Int.toNat_of_nonneg (by omega)]
      congr 1
      omega
    dsimp only
    rw [hj]
    obtain ⟨x, hx⟩ : ∃ x, left[j]? = some x := ⟨_, List.getElem?_eq_getElem hjl⟩
    refine ⟨_, rfl, ty_l o.hf, _, rfl, ty_l o.hw, _, rfl, w, left, (j : Int), j, x, rfl, rfl, o.hw, by omega, by omega, seq_at hjl, hx, ?_⟩
    have o2 : OutAt H (upd H' w (.lst (left.eraseIdx j))) f w done (left.eraseIdx j) := o.setw
    have hel : (left.eraseIdx j).length = left.length - 1 := by rw [List.length_eraseIdx, if_pos hjl]
    refine ⟨f, done, x, rfl, rfl, o2.hf, sz_lt (by omega), ?_⟩
    refine ⟨(left.eraseIdx j).length, by rw [hel]; omega, done ++ [x], left.eraseIdx j, j, rfl, rfl, o2.setf, by rw [hel]; omega, by rw [hel]; simp; omega, ?_⟩
    rw [← ho, List.append_assoc]
    congr 1
    obtain ⟨k, hk⟩ : ∃ k, left.length = k + 1 := ⟨left.length - 1, by omega⟩
    have g3 := Jos.out_at (s := (s - 1).toNat) (a := a) (n := k) (l := left) hk ha (x := x) (by rw [← hjn]; exact hx)
    rw [← hjn] at g3
    rw [hel, hk, g3, Nat.add_sub_cancel]
    rfl
theorem pure_row_out {K : PySem.W.Frag} {CR CS CP : Addr} {vs : List V} {H : Hp} {Q : VK} {E : XK} (h : sRow K CR CS CP vs H Q E) : t_row_out K CR CS CP E { nx := fun _ H' => Q .non H', rt := Q } (start ["hands", "step", "begin"] vs) H := by
  unfold sRow at h
  obtain ⟨h, d, b, rfl, rb, hr, td, tb, q0, q⟩ := h
  refine ⟨_, rfl, _, rfl, _, rfl, ?_⟩
  show sLaid K CR CS CP [h, d, b] H _ E
  unfold sLaid
  refine ⟨h, d, b, rfl, rb, hr, td, tb, q0, fun c => ⟨(q c).1, fun s es s1 s2 l xs el hl hz => ⟨((q c).2 s es s1 s2 l xs el hl).1, fun g eg hg H1 e1 => ?_⟩⟩⟩
  subst es el eg
  have q := ((q c).2 s rfl s1 s2 l xs rfl hl).2 g rfl hg
  refine ⟨_, rfl, _, rfl, _, rfl, ?_⟩
  show sCtd K [.ref l, .int s, .int (g : Int)] H1 _ E0
  unfold sCtd
  exact ⟨l, s, g, xs, rfl, e1 _ _ hl, hz, s1, by omega, fun o H2 no e2 ho => q o H2 (fresh_back e1 no) (e1.trans e2) ho⟩
end Cd

set_option Elab.async false
set_option linter.all false
set_option maxRecDepth 100000
set_option maxHeartbeats 4000000
namespace Cd
open PySem PySem.Spec PyProof.Rows L2 Tx Kp
open Evl (Ex sq_of ex_l sz_of sz_lt fresh_back)
/-! ### the law's own hands -/
def t_hands (K : PySem.W.Frag) : TS :=
(tSeq (tAsg (tOp oMod (tCall sNext [] E0 (tCons (tVar 0) tNil)) (tC (.int 3))) (gName 2))
  (tSeq (tAsg (tM1 (rJoin K) (tC (.str "")) (tLc (iRng1 (tCons (tOp oMod (tCall sNext [] E0 (tCons (tVar 0) tNil)) (tC (.int 6))) tNil)) (gName 4) tYes (tCall sOf [] E0 (tCons (tVar 0) (tCons (tC (.str "abcxyz 019")) tNil))) [4])) (gName 3))
  (tSeq (tAsg (tLst tNil) (gName 5))
  (tSeq (tFor (iRng1 (tCons (tVar 1) tNil)) (gName 4)
  (tDrop (tBM K "list" rAppend (tVar 5) (tCons (tOp (rIxL K) (tLst (tCons (tOp oAddS (tVar 3) (tCB oStrI (tCons (tVar 4) tNil))) (tCons (tOp oAddS (tCB oStrI (tCons (tVar 4) tNil)) (tVar 3)) (tCons (tOp oAddS (tOp oMulS (tC (.str "a")) (tVar 4)) (tVar 3)) tNil)))) (tVar 2)) tNil))))
  (tRet (tSlS K (tVar 5) (tOp (rIxL K) (tLst (tCons (tC (.int 1)) (tCons (tUn oNeg (tC (.int 1))) tNil))) (tOp oMod (tCall sNext [] E0 (tCons (tVar 0) tNil)) (tC (.int 2))))))))))
def sHands : Sp := fun vs H Q _ => ∃ p, ∃ m : Nat, vs = [.ref p, .int (m : Int)] ∧ StAt H p ∧ m ≤ 402 ∧
  ∀ q H' zs, H q = none → Run p H H' → H' q = some (.lst (List.map V.str zs)) → zs.length = m → zs.Nodup → (∀ z ∈ zs, PyData.strOk z = true) → (∀ z ∈ zs, noE z) → Q (.ref q) H'
theorem signs_ok : ∀ c ∈ (Str.ofString "abcxyz 019").cps.toList, c < 0x110000 ∧ c ≠ 101 := by decide +kernel
theorem Run.mut {p q : Addr} {H H' : Hp} {o : HO} (r : Run p H H') (hq : H q = none) (n : q ≠ p) : Run p H (upd H' q o) := by
  refine ⟨fun b u nb e => ?_, ?_⟩
  · have nq : b ≠ q := fun z => by rw [z, hq] at e; cases e
    rw [upd_ne nq]; exact r.1 b u nb e
  · obtain ⟨s, h1, h2⟩ := r.2
    exact ⟨s, h1, by rw [upd_ne n.symm]; exact h2⟩
theorem pure_hands {K : PySem.W.Frag} {vs : List V} {H : Hp} {Q : VK} {E : XK} {nx : L2.St → Hp → Prop} (h : sHands vs H Q E) : t_hands K { nx := nx, rt := Q } (start ["_law_state_here", "_law_many", "_law_way", "_law_base", "_law_k", "_law_found"] vs) H := by
  obtain ⟨p, m, rfl, st, hm, q⟩ := h
  refine ⟨_, rfl, p, rfl, st, fun H1 n1 r1 _ _ => ⟨_, _, rfl, rfl, pos0 (by decide), ?_⟩⟩
  obtain ⟨way, hw, hw3⟩ : ∃ way : Nat, n1 % 3 = (way : Int) ∧ way < 3 := by
    have a1 : 0 ≤ n1 % 3 := Int.emod_nonneg _ (by decide)
    have a2 : n1 % 3 < 3 := Int.emod_lt_of_pos _ (by decide)
    exact ⟨(n1 % 3).toNat, by omega, by omega⟩
  dsimp only
  rw [hw]
  -- the base
  refine ⟨⟨_, rfl⟩, _, rfl, p, rfl, r1.2, fun H2 n2 r2 _ _ => ⟨_, _, rfl, rfl, pos0 (by decide), ?_⟩⟩
  obtain ⟨k6, hk6, hk65⟩ : ∃ k : Nat, n2 % 6 = (k : Int) ∧ k ≤ 5 := by
    have a1 : 0 ≤ n2 % 6 := Int.emod_nonneg _ (by decide)
    have a2 : n2 % 6 < 6 := Int.emod_lt_of_pos _ (by decide)
    exact ⟨(n2 % 6).toNat, by omega, by omega⟩
  refine ⟨n2 % 6, rfl, by omega, by omega, fun A nA => ?_⟩
  rw [hk6, Int.toNat_natCast]
  have rr2 : Run p H H2 := r1.trans r2
  have nAp : A ≠ p := r2.2.ne nA
  refine lc_range (lo := 0) (n := k6) (fun i H' => Run p H H' ∧ ∃ cs : List Nat, cs.length = i ∧ (∀ c ∈ cs, c < 0x110000 ∧ c ≠ 101) ∧ H' A = some (.lst (cs.map fun c => V.str ⟨#[c]⟩))) ⟨rr2.new nA, [], rfl, by simp, upd_same⟩ (fun i H' hi P => ?_) (fun H' P => ?_)
  · obtain ⟨r, cs, hcl, hcs, hA⟩ := P
    refine ⟨rfl, ?_⟩
    unfold tYes
    dsimp only
    rw [if_pos rfl]
    refine ⟨_, rfl, p, _, rfl, r.2, .inr ⟨_, rfl, by decide +kernel, by decide +kernel, fun H3 c r3 hc => ?_⟩⟩
    have hA3 := r3.keep nAp hA
    refine ⟨_, hA3, by rw [List.length_map]; exact sz_lt (by omega), (r.trans r3).mut (rr2.free nA) nAp, cs ++ [c], by simp [hcl], fun x hx => ?_, ?_⟩
    · rcases List.mem_append.mp hx with hx | hx
      · exact hcs x hx
      · rw [List.mem_singleton.mp hx]; exact signs_ok c hc
    · rw [upd_same, List.map_append]; rfl
  · obtain ⟨r, cs, hcl, hcs, hA⟩ := P
    have ex : (cs.map fun c => V.str ⟨#[c]⟩) = (cs.map fun c => (⟨#[c]⟩ : Str)).map V.str := by rw [List.map_map]; rfl
    rw [ex] at hA
    refine ⟨_, A, _, rfl, rfl, .inl (sq_of hA), ?_, ?_⟩
    · rw [List.length_map, show (Str.ofString "").length = 0 by decide +kernel, Nat.mul_zero, Nat.add_zero, List.map_map]
      have : ∀ l : List Nat, (l.map ((fun x : Str => x.length) ∘ fun c => (⟨#[c]⟩ : Str))).sum = l.length := by
        intro l
        induction l with
        | nil => rfl
        | cons c l ih => rw [List.map_cons, List.sum_cons, ih, List.length_cons]; show 1 + l.length = _; omega
      rw [this]; omega
    have hb := base_of (cs := cs) (by omega) fun c hc => (hcs c hc).1
    have hbe := join_noE (cs := cs) fun c hc => (hcs c hc).2
    generalize hbase : PySem.Txt.join (Str.ofString "") (cs.map fun c => (⟨#[c]⟩ : Str)) = base at hb hbe
    -- the hands
    refine ⟨Nat.zero_le _, fun F nF => ?_⟩
    have nFp : F ≠ p := r.2.ne nF
    have hF0 : H F = none := r.free nF
    refine ⟨_, rfl, (m : Int), rfl, by omega, by omega, ?_⟩
    rw [Int.toNat_natCast]
    refine for_range (lo := 0) (n := m) (fun i σ H' => ∃ y4, σ = [some (.ref p), some (.int (m : Int)), some (.int (way : Int)), some (.str base), y4, some (.ref F)] ∧ Run p H H' ∧ H' F = some (.lst (((List.range i).map (handAt way base)).map V.str))) ⟨_, rfl, r.new nF, upd_same⟩ ?_ ?_
    · intro i σ H4 hi P
      obtain ⟨y4, rfl, r4, hF⟩ := P
      have hi2 : i < 402 := by omega
      have f := sk_facts i hi2
      have lg : ((i : Int)).natAbs.log2 < 1920 := Nat.lt_of_le_of_lt (Nat.log2_le_self _) (by omega)
      have ei : ((0 : Int) + (i : Int)) = (i : Int) := Int.zero_add _
      show tDrop _ _ [some (.ref p), some (.int (m : Int)), some (.int (way : Int)), some (.str base), some (.int ((0 : Int) + (i : Int))), some (.ref F)] H4
      rw [ei]
      have bl := hb.len
      refine ⟨_, rfl, ty_l hF, _, rfl, _, rfl, _, rfl, lg, _, _, rfl, rfl, ?_, ?_⟩
      · show base.length + (sk i).length ≤ sizeLine
        exact sz_of (by omega)
      refine ⟨_, rfl, _, rfl, lg, _, rfl, _, _, rfl, rfl, ?_, ?_⟩
      · show (sk i).length + base.length ≤ sizeLine
        exact sz_of (by omega)
      refine ⟨_, rfl, _, i, rfl, rfl, by decide +kernel, by omega, _, rfl, _, _, rfl, rfl, ?_, ?_⟩
      · show (PySem.Txt.mul sa (i : Int)).length + base.length ≤ sizeLine
        rw [mul_len]
        exact sz_of (by omega)
      refine ⟨(by decide : 3 ≤ sizeLine), fun T nT => ?_⟩
      have eT := Evl.Ex.new (o := .lst [.str (base ++ sk i), .str (sk i ++ base), .str (PySem.Txt.mul sa (i : Int) ++ base)]) nT
      refine ⟨_, rfl, T, _, _, .str (handAt way base i), rfl, rfl, sq_of upd_same, ?_, F, _, _, rfl, rfl, eT _ _ hF, ?_, ?_⟩
      · rcases (by omega : way = 0 ∨ way = 1 ∨ way = 2) with rfl | rfl | rfl <;> rfl
      · rw [List.length_map, List.length_map, List.length_range]; exact sz_lt (by omega)
      · refine ⟨_, rfl, (r4.new nT).mut hF0 nFp, ?_⟩
        rw [upd_same, List.range_succ, List.map_append, List.map_append]; rfl
    · intro σ H4 P
      obtain ⟨y4, rfl, r4, hF⟩ := P
      refine ⟨_, rfl, _, rfl, (by decide : 2 ≤ sizeLine), fun T nT => ?_⟩
      have r5 := r4.new (o := .lst [.int 1, .int (-1)]) nT
      have eT := Evl.Ex.new (o := .lst [.int 1, .int (-1)]) nT
      refine ⟨_, rfl, p, rfl, r5.2, fun H6 n6 r6 _ _ => ⟨_, _, rfl, rfl, pos0 (by decide), ?_⟩⟩
      have hT6 := r6.keep (r4.2.ne nT) (show upd H4 T (.lst [.int 1, .int (-1)]) T = some _ from upd_same)
      have hF6 := r6.keep nFp (eT _ _ hF)
      have fin : ∀ k : Int, k = 1 ∨ k = -1 → ∃ a xs, ∃ k2 : Int, V.ref F = .ref a ∧ V.int k = .int k2 ∧ (k2 = 1 ∨ k2 = -1) ∧ SqL K H6 a xs ∧ ∀ t, H6 t = none → Q (.ref t) (upd H6 t (.lst (if k2 = 1 then xs else xs.reverse))) := by
        intro k hk
        refine ⟨F, _, k, rfl, rfl, hk, sq_of hF6, fun t nt => ?_⟩
        have rr := r5.trans r6
        have e7 := Evl.Ex.new (o := .lst (if k = 1 then ((List.range m).map (handAt way base)).map V.str else (((List.range m).map (handAt way base)).map V.str).reverse)) nt
        have ok : ∀ z ∈ (List.range m).map (handAt way base), PyData.strOk z = true := fun z hz => by
          obtain ⟨k, hk, rfl⟩ := List.mem_map.mp hz
          have := List.mem_range.mp hk
          exact hand_ok hb (by omega)
        have ne : ∀ z ∈ (List.range m).map (handAt way base), noE z := fun z hz => by
          obtain ⟨k, hk, rfl⟩ := List.mem_map.mp hz
          have := List.mem_range.mp hk
          exact hand_noE hbe (by omega)
        rcases hk with rfl | rfl
        · exact q t _ ((List.range m).map (handAt way base)) (rr.free nt) (rr.trans (Run.ex rr.2 e7)) upd_same (by simp) (hands_nodup way base hm) ok ne
        · refine q t _ ((List.range m).map (handAt way base)).reverse (rr.free nt) (rr.trans (Run.ex rr.2 e7)) ?_ (by simp) ((List.reverse_perm _).nodup_iff.mpr (hands_nodup way base hm)) (fun z hz => ok z (List.mem_reverse.mp hz)) fun z hz => ne z (List.mem_reverse.mp hz)
          rw [upd_same, List.map_reverse]; rfl
      have h2 : n6 % 2 = 0 ∨ n6 % 2 = 1 := by omega
      rcases h2 with h2 | h2
      · refine ⟨T, _, _, .int 1, rfl, rfl, sq_of hT6, ?_, fin 1 (.inl rfl)⟩
        rw [h2]; rfl
      · refine ⟨T, _, _, .int (-1), rfl, rfl, sq_of hT6, ?_, fin (-1) (.inr rfl)⟩
        rw [h2]; rfl
end Cd

set_option Elab.async false
set_option linter.all false
set_option maxRecDepth 100000
set_option maxHeartbeats 4000000
namespace Cd
open PySem PySem.Spec PyProof.Rows L2 Tx Kp
open Evl (Ex sq_of ex_l sz_of sz_lt fresh_back)
/-! ### eighteen things that are no rings -/
/-- what came new stands -/
def New (H H' H'' : Hp) : Prop := ∀ b o, H b = none → H' b = some o → H'' b = some o
theorem it_s {K : PySem.W.Frag} {H : Hp} {z : Str} : Typ K H (.str z) ∧ (isS (.str z) = true ∨ ∃ T : String, TyX K H (.str z) (.type T) ∧ T ∈ ["NoneType", "bool", "int", "list", "tuple", "dict"]) := ⟨Typ.str, .inl rfl⟩
theorem it_i {K : PySem.W.Frag} {H : Hp} {i : Int} : Typ K H (.int i) ∧ (isS (.int i) = true ∨ ∃ T : String, TyX K H (.int i) (.type T) ∧ T ∈ ["NoneType", "bool", "int", "list", "tuple", "dict"]) := ⟨Typ.int, .inr ⟨"int", .base (.int i), by decide⟩⟩
theorem it_n {K : PySem.W.Frag} {H : Hp} : Typ K H .non ∧ (isS .non = true ∨ ∃ T : String, TyX K H .non (.type T) ∧ T ∈ ["NoneType", "bool", "int", "list", "tuple", "dict"]) := ⟨Typ.non, .inr ⟨"NoneType", .base .non, by decide⟩⟩
theorem it_b {K : PySem.W.Frag} {H : Hp} {b : Bool} : Typ K H (.bl b) ∧ (isS (.bl b) = true ∨ ∃ T : String, TyX K H (.bl b) (.type T) ∧ T ∈ ["NoneType", "bool", "int", "list", "tuple", "dict"]) := ⟨Typ.bl, .inr ⟨"bool", .base (.bl b), by decide⟩⟩
theorem it_l {K : PySem.W.Frag} {H : Hp} {a : Addr} {xs : List V} (h : H a = some (.lst xs)) : Typ K H (.ref a) ∧ (isS (.ref a) = true ∨ ∃ T : String, TyX K H (.ref a) (.type T) ∧ T ∈ ["NoneType", "bool", "int", "list", "tuple", "dict"]) := ⟨Typ.lst h, .inr ⟨"list", .base (.lst h), by decide⟩⟩
theorem it_t {K : PySem.W.Frag} {H : Hp} {a : Addr} {xs : List V} (h : H a = some (.tup xs)) : Typ K H (.ref a) ∧ (isS (.ref a) = true ∨ ∃ T : String, TyX K H (.ref a) (.type T) ∧ T ∈ ["NoneType", "bool", "int", "list", "tuple", "dict"]) := ⟨Typ.tup h, .inr ⟨"tuple", .base (.tup h), by decide⟩⟩
theorem no_ring {K : PySem.W.Frag} {H : Hp} {l : Addr} {xs : List V} (h : H l = some (.lst xs)) (hb : ringB xs = false) (hz : xs.length ≤ 1000) (ht : ∀ v ∈ xs, Typ K H v ∧ (isS v = true ∨ ∃ T : String, TyX K H v (.type T) ∧ T ∈ ["NoneType", "bool", "int", "list", "tuple", "dict"])) : IsR K H (.ref l) false := by
  have r := IsR.lst h hz ht
  rw [hb] at r
  exact r
def t_odd (K : PySem.W.Frag) : TS :=
(tSeq (tAsg (tLst (tCons (tC .non) (tCons (tC (.int 7)) (tCons (tC (.str "ab")) (tCons (tTup (tCons (tC (.str "a")) (tCons (tC (.str "b")) tNil))) (tCons (tLst tNil) (tCons (tLst (tCons (tC (.str "a")) (tCons (tC (.str "a")) tNil))) (tCons (tLst (tCons (tC (.str "a")) (tCons (tC (.int 1)) tNil))) (tCons (tLst (tCons (tC .non) tNil)) (tCons (tLst (tCons (tC (.str "a")) (tCons (tC (.str "b")) (tCons (tC (.str "a")) tNil)))) (tCons tDNewK (tCons (tDisp (((tC (.str "a")), (tC (.int 1))) :: [])) (tCons (tC (.bl true)) (tCons (tLst (tCons (tLst (tCons (tC (.str "a")) tNil)) tNil)) tNil)))))))))))))) (gName 1))
  (tSeq (tAsg (tLc (iRng1 (tCons (tC (.int 201)) tNil)) (gName 3) tYes (tCB oStrI (tCons (tVar 3) tNil)) [3]) (gName 2))
  (tRet (tOp (rIxL K) (tOp rCat (tVar 1) (tLst (tCons (tVar 2) (tCons (tLst (tCons (tC (.bl true)) (tCons (tC (.str "a")) tNil))) (tCons (tLst (tCons (tC (.str "")) (tCons (tC (.str "")) tNil))) (tCons (tLst (tCons (tTup (tCons (tC (.str "a")) tNil)) tNil)) (tCons (tOp rCat (tSl (rSlL K) (tVar 2) tNoPart (tPart (tC (.int 200)))) (tLst (tCons (tC (.str "7")) tNil))) tNil))))))) (tOp oMod (tVar 0) (tC (.int 18)))))))
def sOdd (K : PySem.W.Frag) : Sp := fun vs H Q _ => ∃ c : Int, vs = [.int c] ∧ ∀ v H', Ex H H' → (∀ H'', New H H' H'' → IsR K H'' v false) → Q v H'
structure OddS (H G : Hp) (so t1 l2 l3 l4 l5 l6 d7 d8 l9 l10 : Addr) : Prop where
  ex : Ex H G
  n1 : H t1 = none
  n2 : H l2 = none
  n3 : H l3 = none
  n4 : H l4 = none
  n5 : H l5 = none
  n6 : H l6 = none
  n7 : H d7 = none
  n8 : H d8 = none
  n9 : H l9 = none
  n10 : H l10 = none
  c1 : G t1 = some (.tup [.str "a", .str "b"])
  c2 : G l2 = some (.lst [])
  c3 : G l3 = some (.lst [.str "a", .str "a"])
  c4 : G l4 = some (.lst [.str "a", .int 1])
  c5 : G l5 = some (.lst [.non])
  c6 : G l6 = some (.lst [.str "a", .str "b", .str "a"])
  c7 : G d7 = some (.dK [])
  c8 : G d8 = some (.dK (mergeK [] [(Sum.inr "a", .int 1)]))
  c9 : G l9 = some (.lst [.str "a"])
  c10 : G l10 = some (.lst [.ref l9])
  cso : G so = some (.lst [.non, .int 7, .str "ab", .ref t1, .ref l2, .ref l3, .ref l4, .ref l5, .ref l6, .ref d7, .ref d8, .bl true, .ref l10])
theorem odd_rest {K : PySem.W.Frag} {H G : Hp} {so t1 l2 l3 l4 l5 l6 d7 d8 l9 l10 : Addr} (S : OddS H G so t1 l2 l3 l4 l5 l6 d7 d8 l9 l10) {c : Int} {Q : VK} {nx : L2.St → Hp → Prop} (q : ∀ v H', Ex H H' → (∀ H'', New H H' H'' → IsR K H'' v false) → Q v H') :
  (tSeq (tAsg (tLc (iRng1 (tCons (tC (.int 201)) tNil)) (gName 3) tYes (tCB oStrI (tCons (tVar 3) tNil)) [3]) (gName 2))
  (tRet (tOp (rIxL K) (tOp rCat (tVar 1) (tLst (tCons (tVar 2) (tCons (tLst (tCons (tC (.bl true)) (tCons (tC (.str "a")) tNil))) (tCons (tLst (tCons (tC (.str "")) (tCons (tC (.str "")) tNil))) (tCons (tLst (tCons (tTup (tCons (tC (.str "a")) tNil)) tNil)) (tCons (tOp rCat (tSl (rSlL K) (tVar 2) tNoPart (tPart (tC (.int 200)))) (tLst (tCons (tC (.str "7")) tNil))) tNil))))))) (tOp oMod (tVar 0) (tC (.int 18)))))) { nx := nx, rt := Q } [some (.int c), some (.ref so), none, none] G := by
  refine ⟨201, rfl, by decide, by decide, fun A nA => ?_⟩
  refine lc_range (lo := 0) (n := 201) (fun i H' => Ex G H' ∧ H' A = some (.lst (((List.range i).map sk).map V.str))) ⟨Evl.Ex.new nA, upd_same⟩ (fun i H' hi P => ?_) (fun G1 P => ?_)
  · obtain ⟨p1, p2⟩ := P
    refine ⟨rfl, ?_⟩
    unfold tYes
    dsimp only
    rw [if_pos rfl]
    have ei : ((0 : Int) + (i : Int)) = (i : Int) := Int.zero_add _
    rw [ei]
    refine ⟨_, rfl, (i : Int), rfl, Nat.lt_of_le_of_lt (Nat.log2_le_self _) (by omega), _, p2, by rw [List.length_map, List.length_map, List.length_range]; exact sz_lt (by omega), Evl.Ex.mut p1 nA, ?_⟩
    rw [upd_same, List.range_succ, List.map_append, List.map_append]; rfl
  · obtain ⟨p1, hA⟩ := P
    have xG : Ex H G1 := S.ex.trans p1
    have d2 : 2 ≤ sizeLine := by decide
    have d1 : 1 ≤ sizeLine := by decide
    refine ⟨_, rfl, _, rfl, d2, fun l11 n11 => ⟨d2, fun l12 n12 => ⟨d1, fun t13 n13 => ⟨d1, fun l14 n14 => ⟨_, rfl, 200, rfl, A, ((List.range 201).map sk).map V.str, rfl, ?_, fun s15 n15 => ⟨d1, fun l16 n16 => ?_⟩⟩⟩⟩⟩⟩
    · exact (Evl.Ex.new n11).trans ((Evl.Ex.new n12).trans ((Evl.Ex.new n13).trans (Evl.Ex.new n14))) |> fun e => sq_of (e _ _ hA)
    have e11 := Evl.Ex.new (o := .lst [.bl true, .str "a"]) n11
    have e12 := Evl.Ex.new (o := .lst [.str "", .str ""]) n12
    have e13 := Evl.Ex.new (o := .tup [.str "a"]) n13
    have e14 := Evl.Ex.new (o := .lst [.ref t13]) n14
    have e15 := Evl.Ex.new (o := .lst (cutV (((List.range 201).map sk).map V.str) none (some 200))) n15
    have e16 := Evl.Ex.new (o := .lst [.str "7"]) n16
    have hcut : cutV (((List.range 201).map sk).map V.str) none (some ((200 : Nat) : Int)) = (((List.range 201).map sk).map V.str).take 200 := cut_to (by simp)
    refine ⟨s15, l16, _, _, rfl, rfl, e16 _ _ upd_same, upd_same, ?_, fun l17 n17 => ?_⟩
    · rw [show (200 : Int) = ((200 : Nat) : Int) from rfl, hcut]
      exact sz_of (by simp)
    have e17 := Evl.Ex.new (o := .lst (cutV (((List.range 201).map sk).map V.str) none (some 200) ++ [.str "7"])) n17
    refine ⟨(by decide : 5 ≤ sizeLine), fun u nu => ?_⟩
    have eu := Evl.Ex.new (o := .lst [.ref A, .ref l11, .ref l12, .ref l14, .ref l17]) nu
    have g17 := e17.trans eu
    have g14 := e15.trans (e16.trans g17)
    have g13 := e14.trans g14
    have g12 := e13.trans g13
    have g11 := e12.trans g12
    have gA := e11.trans g11
    have xs : Ex G _ := p1.trans gA
    have mA : H A = none := fresh_back S.ex nA
    have m11 := fresh_back xG n11
    have m12 := fresh_back (xG.trans e11) n12
    have m13 := fresh_back (xG.trans (e11.trans e12)) n13
    have m14 := fresh_back (xG.trans (e11.trans (e12.trans e13))) n14
    have m17 := fresh_back (xG.trans (e11.trans (e12.trans (e13.trans (e14.trans (e15.trans e16)))))) n17
    have cA := gA _ _ hA
    have c11 := g11 _ _ (show _ = some (HO.lst [.bl true, .str "a"]) from upd_same)
    have c12 := g12 _ _ (show _ = some (HO.lst [.str "", .str ""]) from upd_same)
    have c13 := g13 _ _ (show _ = some (HO.tup [.str "a"]) from upd_same)
    have c14 := g14 _ _ (show _ = some (HO.lst [.ref t13]) from upd_same)
    have c17 := eu _ _ (show _ = some (HO.lst (cutV (((List.range 201).map sk).map V.str) none (some 200) ++ [.str "7"])) from upd_same)
    refine ⟨so, u, _, _, rfl, rfl, xs _ _ S.cso, upd_same, (by decide : 13 + 5 ≤ sizeLine), fun r nr => ?_⟩
    have er := Evl.Ex.new (o := .lst ([V.non, .int 7, .str "ab", .ref t1, .ref l2, .ref l3, .ref l4, .ref l5, .ref l6, .ref d7, .ref d8, .bl true, .ref l10] ++ [.ref A, .ref l11, .ref l12, .ref l14, .ref l17])) nr
    refine ⟨_, rfl, _, _, rfl, rfl, pos0 (by decide), ?_⟩
    obtain ⟨v, hv, ha⟩ := at_mod (n := c) (xs := [V.non, .int 7, .str "ab", .ref t1, .ref l2, .ref l3, .ref l4, .ref l5, .ref l6, .ref d7, .ref d8, .bl true, .ref l10] ++ [.ref A, .ref l11, .ref l12, .ref l14, .ref l17]) (by simp)
    refine ⟨r, _, _, v, rfl, rfl, sq_of upd_same, ha, q v _ (S.ex.trans (xs.trans er)) fun H'' nw => ?_⟩
    have up : ∀ {b : Addr} {o : HO}, H b = none → _ = some o → H'' b = some o := fun {b o} h1 h2 => nw b o h1 (er b o h2)
    have upG : ∀ {b : Addr} {o : HO}, H b = none → G b = some o → H'' b = some o := fun {b o} h1 h2 => nw b o h1 (er b o (xs b o h2))
    simp only [List.cons_append, List.nil_append, List.mem_cons, List.not_mem_nil, or_false] at hv
    have one : ∀ {b : Addr} {xs : List V}, H'' b = some (.lst xs) → ringB xs = false → xs.length ≤ 1000 → (∀ v ∈ xs, Typ K H'' v ∧ (isS v = true ∨ ∃ T : String, TyX K H'' v (.type T) ∧ T ∈ ["NoneType", "bool", "int", "list", "tuple", "dict"])) → IsR K H'' (.ref b) false := fun a b c d => no_ring a b c d
    have texts : ∀ {ys : List Str}, ∀ v ∈ ys.map V.str, Typ K H'' v ∧ (isS v = true ∨ ∃ T : String, TyX K H'' v (.type T) ∧ T ∈ ["NoneType", "bool", "int", "list", "tuple", "dict"]) := fun v hv => by
      obtain ⟨y, _, rfl⟩ := List.mem_map.mp hv
      exact it_s
    rcases hv with rfl | rfl | rfl | rfl | rfl | rfl | rfl | rfl | rfl | rfl | rfl | rfl | rfl | rfl | rfl | rfl | rfl | rfl
    · exact .no (.base .non) (by decide)
    · exact .no (.base (.int 7)) (by decide)
    · exact .no (.base (.str _)) (by decide)
    · exact .no (.base (.tup (upG S.n1 S.c1))) (by decide)
    · exact one (upG S.n2 S.c2) (by decide +kernel) (by decide) (by simp)
    · exact one (upG S.n3 S.c3) (by decide +kernel) (by decide) fun v hv => by
        simp only [List.mem_cons, List.not_mem_nil, or_false] at hv
        rcases hv with rfl | rfl <;> exact it_s
    · exact one (upG S.n4 S.c4) (by decide +kernel) (by decide) fun v hv => by
        simp only [List.mem_cons, List.not_mem_nil, or_false] at hv
        rcases hv with rfl | rfl
        · exact it_s
        · exact it_i
    · exact one (upG S.n5 S.c5) (by decide +kernel) (by decide) fun v hv => by
        rw [List.mem_singleton.mp hv]; exact it_n
    · exact one (upG S.n6 S.c6) (by decide +kernel) (by decide) fun v hv => by
        simp only [List.mem_cons, List.not_mem_nil, or_false] at hv
        rcases hv with rfl | rfl | rfl <;> exact it_s
    · exact .no (.base (.dK (upG S.n7 S.c7))) (by decide)
    · exact .no (.base (.dK (upG S.n8 S.c8))) (by decide)
    · exact .no (.base (.bl true)) (by decide)
    · refine one (upG S.n10 S.c10) rfl (by simp) fun v hv => ?_
      rw [List.mem_singleton.mp hv]
      exact it_l (upG S.n9 S.c9)
    · exact one (up mA cA) (by unfold ringB; rw [List.length_map, List.length_map, List.length_range]; rfl) (by simp) texts
    · exact one (up m11 c11) rfl (by decide) fun v hv => by
        simp only [List.mem_cons, List.not_mem_nil, or_false] at hv
        rcases hv with rfl | rfl
        · exact it_b
        · exact it_s
    · exact one (up m12 c12) (by decide +kernel) (by decide) fun v hv => by
        simp only [List.mem_cons, List.not_mem_nil, or_false] at hv
        rcases hv with rfl | rfl <;> exact it_s
    · refine one (up m14 c14) rfl (by simp) fun v hv => ?_
      rw [List.mem_singleton.mp hv]
      exact it_t (up m13 c13)
    · rw [show (200 : Int) = ((200 : Nat) : Int) from rfl, hcut] at c17
      have el : ((((List.range 201).map sk).map V.str).take 200 ++ [V.str "7"]).length = 201 := by simp
      refine one (up m17 c17) (by unfold ringB; rw [el]; rfl) (by rw [el]; decide) fun v hv => ?_
      rcases List.mem_append.mp hv with hv | hv
      · exact texts v (List.mem_of_mem_take hv)
      · rw [List.mem_singleton.mp hv]; exact it_s
theorem pure_odd {K : PySem.W.Frag} {vs : List V} {H : Hp} {Q : VK} {E : XK} {nx : L2.St → Hp → Prop} (h : sOdd K vs H Q E) : t_odd K { nx := nx, rt := Q } (start ["_law_cell", "_law_some", "_law_many", "_law_k"] vs) H := by
  obtain ⟨c, rfl, q⟩ := h
  have d2 : 2 ≤ sizeLine := by decide
  have d1 : 1 ≤ sizeLine := by decide
  refine ⟨d2, fun t1 n1 => ⟨Nat.zero_le _, fun l2 n2 => ⟨d2, fun l3 n3 => ⟨d2, fun l4 n4 => ⟨d1, fun l5 n5 => ⟨(by decide : 3 ≤ sizeLine), fun l6 n6 => fun d7 n7 => fun d8 n8 => ⟨upd_same, [(Sum.inr "a", .int 1)], rfl, by decide, ?_⟩⟩⟩⟩⟩⟩⟩
  refine ⟨d1, fun l9 n9 => ⟨d1, fun l10 n10 => ⟨(by decide : 13 ≤ sizeLine), fun so nso => ?_⟩⟩⟩
  have e1 := Evl.Ex.new (o := .tup [.str "a", .str "b"]) n1
  have e2 := Evl.Ex.new (o := .lst []) n2
  have e3 := Evl.Ex.new (o := .lst [.str "a", .str "a"]) n3
  have e4 := Evl.Ex.new (o := .lst [.str "a", .int 1]) n4
  have e5 := Evl.Ex.new (o := .lst [.non]) n5
  have e6 := Evl.Ex.new (o := .lst [.str "a", .str "b", .str "a"]) n6
  have e7 := Evl.Ex.new (o := .dK []) n7
  have e8 := Evl.Ex.mut (o := .dK (mergeK [] [(Sum.inr "a", .int 1)])) (Evl.Ex.new (o := .dK []) n8) n8
  have e9 := Evl.Ex.new (o := .lst [.str "a"]) n9
  have e10 := Evl.Ex.new (o := .lst [.ref l9]) n10
  have e11 := Evl.Ex.new (o := .lst [.non, .int 7, .str "ab", .ref t1, .ref l2, .ref l3, .ref l4, .ref l5, .ref l6, .ref d7, .ref d8, .bl true, .ref l10]) nso
  have g11 := e10.trans e11
  have g10 := e9.trans g11
  have g9 := e8.trans g10
  have g8 := e7.trans g9
  have g7 := e6.trans g8
  have g6 := e5.trans g7
  have g5 := e4.trans g6
  have g4 := e3.trans g5
  have g3 := e2.trans g4
  have g2 := e1.trans g3
  -- all of them new
  have m1 : H t1 = none := n1
  have m2 := fresh_back e1 n2
  have m3 := fresh_back (e1.trans e2) n3
  have m4 := fresh_back (e1.trans (e2.trans e3)) n4
  have m5 := fresh_back (e1.trans (e2.trans (e3.trans e4))) n5
  have m6 := fresh_back (e1.trans (e2.trans (e3.trans (e4.trans e5)))) n6
  have m7 := fresh_back (e1.trans (e2.trans (e3.trans (e4.trans (e5.trans e6))))) n7
  have m8 := fresh_back (e1.trans (e2.trans (e3.trans (e4.trans (e5.trans (e6.trans e7)))))) n8
  have m9 := fresh_back (e1.trans (e2.trans (e3.trans (e4.trans (e5.trans (e6.trans (e7.trans e8))))))) n9
  have m10 := fresh_back (e1.trans (e2.trans (e3.trans (e4.trans (e5.trans (e6.trans (e7.trans (e8.trans e9)))))))) n10
  have c1 := g3 _ _ (upd_same (H := H) (a := t1) (o := .tup [.str "a", .str "b"]))
  have c2 := g4 _ _ (show _ = some (HO.lst []) from upd_same)
  have c3 := g5 _ _ (show _ = some (HO.lst [.str "a", .str "a"]) from upd_same)
  have c4 := g6 _ _ (show _ = some (HO.lst [.str "a", .int 1]) from upd_same)
  have c5 := g7 _ _ (show _ = some (HO.lst [.non]) from upd_same)
  have c6 := g8 _ _ (show _ = some (HO.lst [.str "a", .str "b", .str "a"]) from upd_same)
  have c7 := g9 _ _ (show _ = some (HO.dK []) from upd_same)
  have c8 := g10 _ _ (show _ = some (HO.dK (mergeK [] [(Sum.inr "a", .int 1)])) from upd_same)
  have c9 := g11 _ _ (show _ = some (HO.lst [.str "a"]) from upd_same)
  have c10 := e11 _ _ (show _ = some (HO.lst [.ref l9]) from upd_same)
  exact odd_rest ⟨g2, m1, m2, m3, m4, m5, m6, m7, m8, m9, m10, c1, c2, c3, c4, c5, c6, c7, c8, c9, c10, upd_same⟩ q
end Cd

set_option Elab.async false
set_option linter.all false
set_option maxRecDepth 100000
set_option maxHeartbeats 4000000
namespace Cd
open PySem PySem.Spec PyProof.Rows L2 Tx Kp
open Evl (Ex sq_of ex_l sz_of sz_lt fresh_back)
theorem sRow.imp {K : PySem.W.Frag} {CR CS CP : Addr} {vs : List V} {H : Hp} {Q : VK} {E E' : XK} (h : sRow K CR CS CP vs H Q E) (g : ∀ cls d H', E cls d H' → E' cls d H') : sRow K CR CS CP vs H Q E' := by
  unfold sRow at *
  obtain ⟨h, d, b, e, rb, hr, td, tb, q0, q⟩ := h
  refine ⟨h, d, b, e, rb, hr, td, tb, fun a H' x => g _ _ _ (q0 a H' x), fun a => ?_⟩
  obtain ⟨q1, q2⟩ := q a
  refine ⟨fun a H' x => g _ _ _ (q1 a H' x), fun s es s1 s2 l xs el hl => ?_⟩
  obtain ⟨q3, q4⟩ := q2 s es s1 s2 l xs el hl
  exact ⟨fun a H' x => g _ _ _ (q3 a H' x), q4⟩
theorem row_right {K : PySem.W.Frag} {CR CS CP l : Addr} {zs : List Str} {s : Int} {g : Nat} {H : Hp} {Q : VK} {E : XK} (hl : H l = some (.lst (zs.map V.str))) (h1 : 1 ≤ zs.length) (h2 : zs.length ≤ 200) (hn : zs.Nodup) (s1 : 1 ≤ s) (s2 : s ≤ big) (hg : g < zs.length)
    (q : ∀ q H', H q = none → Ex H H' → H' q = some (.lst ((Jos.out (s - 1).toNat zs.length (Jos.rot zs g)).map V.str)) → Q (.ref q) H') : sRow K CR CS CP [.ref l, .int s, .int (g : Int)] H Q E := by
  unfold sRow
  refine ⟨_, _, _, rfl, _, IsR.texts hl (by omega), Typ.int, Typ.int, fun e => ?_, fun _ => ⟨fun e => ?_, fun s' es _ _ l' xs el hl' => ?_⟩⟩
  · rw [ringB_texts h1 h2 hn] at e; cases e
  · rw [wh_of s1 s2] at e; cases e
  · cases es
    cases el
    rw [hl] at hl'
    cases hl'
    refine ⟨fun e => ?_, fun g' eg hg' q1 H' nq ex hq => ?_⟩
    · rw [List.length_map, wh_of (by omega) (by omega)] at e; cases e
    · have : g' = g := by have := V.int.inj eg; omega
      subst this
      rw [List.length_map, Jos.rot_map, Jos.out_map] at hq
      exact q q1 H' nq ex hq
def t_told (K : PySem.W.Frag) (C : Cs) : TS :=
(tSeq (tTryK K C.err 3 4 (fun W => (tRet (tCallS (sRow K C.ring C.step C.place) (WE W) (tCons (tVar 0) (tCons (tVar 1) (tCons (tVar 2) tNil)))))))
  (tRet (tCall (sErr K C) [] E0 (tCons (tVar 4) tNil))))
/-- what is told, or the refusal's word -/
def sTold (K : PySem.W.Frag) (C : Cs) : Sp := fun vs H Q _ => ∃ h d b, vs = [h, d, b] ∧ sRow K C.ring C.step C.place [h, d, b] H Q fun cls dd H' => dd = none ∧ ∃ k, cls = .ref (C.on k) ∧ ∀ H'', Ex H' H'' → Q (.str k.word) H''
theorem pure_told {K : PySem.W.Frag} {C : Cs} (F : ErrF K C) {vs : List V} {H : Hp} {Q : VK} {E : XK} {nx : L2.St → Hp → Prop} (h : sTold K C vs H Q E) : t_told K C { nx := nx, rt := Q } (start ["_law_hands_here", "_law_step_here", "_law_begin", "_law_e", "_law_error_here"] vs) H := by
  obtain ⟨h, d, b, rfl, hr⟩ := h
  refine ⟨_, rfl, _, rfl, _, rfl, ?_⟩
  show sRow K C.ring C.step C.place [h, d, b] H _ _
  refine hr.imp fun cls dd H' e => ?_
  obtain ⟨ed, k, ec, qq⟩ := e
  subst ed ec
  refine ⟨rfl, F.caught k, fun a na => ?_⟩
  exact ⟨_, rfl, a, k, rfl, upd_same, fun H'' ex => qq H'' ((Evl.Ex.new na).trans ex)⟩
theorem told_ring {K : PySem.W.Frag} {C : Cs} {h d b : V} {H : Hp} {Q : VK} {E : XK} (hr : IsR K H h false) (td : Typ K H d) (tb : Typ K H b) (q : ∀ H', Ex H H' → Q (.str "ring") H') : sTold K C [h, d, b] H Q E := by
  refine ⟨_, _, _, rfl, ?_⟩
  unfold sRow
  refine ⟨_, _, _, rfl, false, hr, td, tb, fun _ H' e => ⟨rfl, .ring, rfl, fun H'' e2 => q H'' (e.trans e2)⟩, fun z => by cases z⟩
theorem told_step {K : PySem.W.Frag} {C : Cs} {l : Addr} {zs : List Str} {d b : V} {H : Hp} {Q : VK} {E : XK} (hl : H l = some (.lst (zs.map V.str))) (hz : zs.length ≤ 1000) (td : Typ K H d) (tb : Typ K H b) (hr : ringB (zs.map V.str) = true) (hd : whB d 1 big = false)
    (q : ∀ H', Ex H H' → Q (.str "step") H') : sTold K C [.ref l, d, b] H Q E := by
  refine ⟨_, _, _, rfl, ?_⟩
  unfold sRow
  refine ⟨_, _, _, rfl, _, IsR.texts hl hz, td, tb, fun z => ?_, fun _ => ⟨fun _ H' e => ⟨rfl, .step, rfl, fun H'' e2 => q H'' (e.trans e2)⟩, fun s es s1 s2 => ?_⟩⟩
  · rw [hr] at z; cases z
  · subst es
    rw [wh_of s1 s2] at hd; cases hd
theorem told_place {K : PySem.W.Frag} {C : Cs} {l : Addr} {zs : List Str} {s : Int} {b : V} {H : Hp} {Q : VK} {E : XK} (hl : H l = some (.lst (zs.map V.str))) (hz : zs.length ≤ 1000) (tb : Typ K H b) (hr : ringB (zs.map V.str) = true) (s1 : 1 ≤ s) (s2 : s ≤ big) (hb : whB b 0 ((zs.length : Int) - 1) = false)
    (q : ∀ H', Ex H H' → Q (.str "place") H') : sTold K C [.ref l, .int s, b] H Q E := by
  refine ⟨_, _, _, rfl, ?_⟩
  unfold sRow
  refine ⟨_, _, _, rfl, _, IsR.texts hl hz, Typ.int, tb, fun z => ?_, fun _ => ⟨fun z => ?_, fun s' es _ _ l' xs el hl' => ?_⟩⟩
  · rw [hr] at z; cases z
  · rw [wh_of s1 s2] at z; cases z
  · cases es
    cases el
    rw [hl] at hl'
    cases hl'
    refine ⟨fun _ H' e => ⟨rfl, .place, rfl, fun H'' e2 => q H'' (e.trans e2)⟩, fun g eg hg => ?_⟩
    subst eg
    rw [List.length_map] at hg
    rw [wh_of (by omega) (by omega)] at hb; cases hb
end Cd

set_option Elab.async false
set_option linter.all false
set_option maxRecDepth 100000
set_option maxHeartbeats 4000000
namespace Cd
open PySem PySem.Spec PyProof.Rows L2 Tx Kp
open Evl (Ex sq_of ex_l sz_of sz_lt fresh_back)
theorem str_plain {zs : List Str} (h : ∀ z ∈ zs, PyData.strOk z = true) : (zs.map V.str).all plain = true := by
  rw [List.all_eq_true]
  intro x hx
  obtain ⟨z, hz, rfl⟩ := List.mem_map.mp hx
  exact h z hz
namespace K01
def tBad : TE := (tCall sOf [] E0 (tCons (tVar 1) (tCons (tLst (tCons (tC (.int 0)) (tCons (tUn oNeg (tC (.int 1))) (tCons (tC .non) (tCons (tC (.bl true)) (tCons (tC (.str "2")) (tCons (tOp oAdd (tOp oPow (tC (.int 10)) (tC (.int 60))) (tC (.int 1))) tNil))))))) tNil)))
def tOff : TE := (tCall sOf [] E0 (tCons (tVar 1) (tCons (tLst (tCons (tVar 2) (tCons (tUn oNeg (tC (.int 1))) (tCons (tC .non) (tCons (tC (.bl true)) (tCons (tC (.str "0")) (tCons (tOp oPow (tC (.int 10)) (tC (.int 62))) tNil))))))) tNil)))
def t_last (K : PySem.W.Frag) (C : Cs) : TS :=
  (tSeq (tAsg (tCall (sOdd K) [] E0 (tCons (tCall (sCell K) [] E0 (tCons (tVar 0) (tCons (tC (.int 3)) tNil))) tNil)) (gName 9))
  (tSeq (tAsg tBad (gName 10))
  (tSeq (tAsg tOff (gName 11))
  (tSeq (tAsg (tLst (tCons (tCall (sTold K C) [] E0 (tCons (tVar 9) (tCons (tVar 10) (tCons (tVar 11) tNil)))) (tCons (tCall (sTold K C) [] E0 (tCons (tVar 9) (tCons (tC (.int 1)) (tCons (tC (.int 0)) tNil)))) (tCons (tCall (sTold K C) [] E0 (tCons (tVar 3) (tCons (tVar 10) (tCons (tVar 11) tNil)))) (tCons (tCall (sTold K C) [] E0 (tCons (tVar 3) (tCons (tVar 5) (tCons (tVar 11) tNil)))) tNil))))) (gName 12))
  (tRet (tAndV (tOp rIsB (tCall (sIsRing K) [] E0 (tCons (tVar 9) tNil)) (tC (.bl false))) (tAndV (tOp (rEqF K false) (tVar 12) (tLst (tCons (tC (.str "ring")) (tCons (tC (.str "ring")) (tCons (tC (.str "step")) (tCons (tC (.str "place")) tNil)))))) (tOp (rEqF K false) (tVar 3) (tVar 4)))))))))
theorem last_go {K : PySem.W.Frag} {C : Cs} {a p q w : Addr} {ns : List Int} {zs : List Str} {M B : Nat} {d : Int} {y7 y8 y9 y10 y11 y12 : Option V} {D : Ends} {H : Hp} (st : StAt H p) (sc : ScAt K H a p ns) (hq : H q = some (.lst (zs.map V.str))) (nq : q ≠ p) (hw : H w = some (.lst (zs.map V.str))) (nw : w ≠ p)
    (hz : zs.length = M) (m1 : 1 ≤ M) (m2 : M ≤ 200) (hn : zs.Nodup) (ok : ∀ z ∈ zs, PyData.strOk z = true) (d1 : 1 ≤ d) (d2 : d ≤ big) (k : ∀ H', D.rt (.bl true) H') :
    t_last K C D [some (.ref a), some (.ref p), some (.int (M : Int)), some (.ref q), some (.ref w), some (.int d), some (.int (B : Int)), y7, y8, y9, y10, y11, y12] H := by
  have hr : ringB (zs.map V.str) = true := ringB_texts (by omega) (by omega) hn
  -- a thing that is no ring
  refine ⟨_, rfl, a, ns, 3, rfl, sc _ (Run.refl st), fun z => ?_⟩
  refine ⟨z, rfl, fun odd H1 e1 hodd => ?_⟩
  have r1 : Run p H H1 := Run.ex st e1
  -- bad
  refine ⟨_, rfl, _, rfl, _, _, rfl, rfl, ⟨by decide, by decide, by decide⟩, _, _, rfl, rfl, (by decide : 6 ≤ sizeLine), fun l1 n1 => ?_⟩
  refine ⟨p, .ref l1, rfl, r1.2.ex (Evl.Ex.new n1), .inl ⟨l1, _, rfl, r1.2.ne n1, upd_same, by simp, fun H2 bad r2 hb => ?_⟩⟩
  have bad_t : ∀ H, Typ K H bad := by
    intro H
    simp only [List.mem_cons, List.not_mem_nil, or_false] at hb
    rcases hb with rfl | rfl | rfl | rfl | rfl | rfl <;> first | exact Typ.int | exact Typ.non | exact Typ.bl | exact Typ.str
  have bad_w : whB bad 1 big = false := by
    simp only [ten60, List.mem_cons, List.not_mem_nil, or_false] at hb
    rcases hb with rfl | rfl | rfl | rfl | rfl | rfl <;> first | rfl | decide
  have r12 := (Run.ex r1.2 (Evl.Ex.new (o := .lst _) n1)).trans r2
  clear hb
  -- off
  refine ⟨_, rfl, _, rfl, _, rfl, _, _, rfl, rfl, ⟨by decide, by decide, by decide⟩, (by decide : 6 ≤ sizeLine), fun l3 n3 => ?_⟩
  refine ⟨p, .ref l3, rfl, r2.2.ex (Evl.Ex.new n3), .inl ⟨l3, _, rfl, r2.2.ne n3, upd_same, by simp, fun H3 off r3 ho => ?_⟩⟩
  have off_t : ∀ H, Typ K H off := by
    intro H
    simp only [List.mem_cons, List.not_mem_nil, or_false] at ho
    rcases ho with rfl | rfl | rfl | rfl | rfl | rfl <;> first | exact Typ.int | exact Typ.non | exact Typ.bl | exact Typ.str
  have off_w : whB off 0 ((zs.length : Int) - 1) = false := by
    have t62 : (10 : Int) ^ (62 : Int).toNat = 100000000000000000000000000000000000000000000000000000000000000 := by decide
    rw [hz]
    simp only [t62, List.mem_cons, List.not_mem_nil, or_false] at ho
    rcases ho with rfl | rfl | rfl | rfl | rfl | rfl
    · exact wh_off (by omega)
    · rfl
    · rfl
    · rfl
    · rfl
    · exact wh_off (by omega)
  have r13 := r12.trans ((Run.ex r2.2 (Evl.Ex.new (o := .lst _) n3)).trans r3)
  clear ho
  have np : H p ≠ none := by
    obtain ⟨s, _, z⟩ := st
    rw [z]; exact fun c => by cases c
  have hodd3 : IsR K H3 odd false := hodd H3 fun b o h1 h2 => r13.1 b o (fun z => np (by rw [← z]; exact h1)) h2
  have hq3 := (r1.trans r13).keep nq hq
  have hw3 := (r1.trans r13).keep nw hw
  -- what is refused
  refine ⟨_, rfl, _, rfl, _, rfl, ?_⟩
  refine told_ring (E := E0) hodd3 (bad_t _) (off_t _) fun H4 e4 => ?_
  refine ⟨_, rfl, ?_⟩
  refine told_ring (E := E0) (hodd3.ex e4) Typ.int Typ.int fun H5 e5 => ?_
  have e45 := e4.trans e5
  refine ⟨_, rfl, _, rfl, _, rfl, ?_⟩
  refine told_step (E := E0) (e45 _ _ hq3) (by omega) (bad_t _) (off_t _) hr bad_w fun H6 e6 => ?_
  have e46 := e45.trans e6
  refine ⟨_, rfl, _, rfl, _, rfl, ?_⟩
  refine told_place (E := E0) (e46 _ _ hq3) (by omega) (off_t _) hr d1 d2 off_w fun H7 e7 => ?_
  have e47 := e46.trans e7
  refine ⟨(by decide : 4 ≤ sizeLine), fun T nT => ?_⟩
  have e8 := Evl.Ex.new (o := .lst [.str "ring", .str "ring", .str "step", .str "place"]) nT
  refine ⟨_, rfl, odd, rfl, false, hodd3.ex (e47.trans e8), fun H9 e9 => ?_⟩
  refine ⟨false, false, rfl, rfl, true, rfl, iteT ?_⟩
  refine ⟨_, rfl, (by decide : 4 ≤ sizeLine), fun U nU => ?_⟩
  have e10 := Evl.Ex.new (o := .lst [.str "ring", .str "ring", .str "step", .str "place"]) nU
  refine ⟨T, U, _, _, rfl, rfl, sq_of (e10 _ _ (e9 _ _ upd_same)), sq_of upd_same, by decide +kernel, by decide +kernel, _, rfl, iteC (fun _ => ?_) (fun c => ?_)⟩
  · have e310 := e47.trans (e8.trans (e9.trans e10))
    refine ⟨_, rfl, _, rfl, q, w, _, _, rfl, rfl, sq_of (e310 _ _ hq3), sq_of (e310 _ _ hw3), str_plain ok, str_plain ok, ?_⟩
    have et : (if false = true then !decide (zs.map V.str = zs.map V.str) else decide (zs.map V.str = zs.map V.str)) = true := by simp
    rw [et]
    exact k _
  · exfalso
    have et : (if false = true then !decide ([V.str "ring", V.str "ring", V.str "step", V.str "place"] = [V.str "ring", V.str "ring", V.str "step", V.str "place"]) else decide ([V.str "ring", V.str "ring", V.str "step", V.str "place"] = [V.str "ring", V.str "ring", V.str "step", V.str "place"])) = true := by simp
    rw [et] at c
    cases c

def t_mid (K : PySem.W.Frag) (C : Cs) : TS :=
  (tSeq (tAsg (tCall (sRow K C.ring C.step C.place) [] E0 (tCons (tVar 3) (tCons (tVar 5) (tCons (tVar 6) tNil)))) (gName 8))
  (tSeq (tIfS (tOr (tTest (tOp rNotB (tCall (sIsRing K) [] E0 (tCons (tVar 3) tNil)) (tC (.bl true)))) (tOr (tNot (tB (tCB (rIsi K) (tCons (tVar 8) (tCons (tC (.ty "list")) tNil))))) (tOr (tTest (tOp (rEqF K true) (tVar 8) (tVar 7))) (tTest (tOp (rEqF K true) (tVar 3) (tVar 4))))))
  (tRet (tC (.bl false)))
  tNext)
  (tSeq (tDrop (tBM K "list" rAppend (tVar 8) (tCons (tC (.str "")) tNil)))
  (tSeq (tIfS (tOr (tTest (tOp (rEqF K true) (tCall (sRow K C.ring C.step C.place) [] E0 (tCons (tVar 3) (tCons (tVar 5) (tCons (tVar 6) tNil)))) (tVar 7))) (tTest (tOp (rEqF K true) (tCall (sRow K C.ring C.step C.place) [.int 0] E0 (tCons (tVar 3) (tCons (tVar 5) tNil))) (tCall (sOut K) [] E0 (tCons (tVar 4) (tCons (tVar 5) tNil))))))
  (tRet (tC (.bl false)))
  tNext)
  (t_last K C)))))
theorem ne_self {xs : List V} (h : (if true = true then !decide (xs = xs) else decide (xs = xs)) = true) : False := by
  simp at h
theorem mid_go {K : PySem.W.Frag} {C : Cs} {a p q w u : Addr} {ns : List Int} {zs : List Str} {M B : Nat} {d : Int} {y8 y9 y10 y11 y12 : Option V} {D : Ends} {H : Hp} (st : StAt H p) (sc : ScAt K H a p ns) (hq : H q = some (.lst (zs.map V.str))) (nq : q ≠ p) (hw : H w = some (.lst (zs.map V.str))) (nw : w ≠ p)
    (hu : H u = some (.lst ((Jos.out (d - 1).toNat zs.length (Jos.rot zs B)).map V.str)))
    (hz : zs.length = M) (m1 : 1 ≤ M) (m2 : M ≤ 200) (hB : B < M) (hn : zs.Nodup) (ok : ∀ z ∈ zs, PyData.strOk z = true) (d1 : 1 ≤ d) (d2 : d ≤ big) (k : ∀ H', D.rt (.bl true) H') :
    t_mid K C D [some (.ref a), some (.ref p), some (.int (M : Int)), some (.ref q), some (.ref w), some (.int d), some (.int (B : Int)), some (.ref u), y8, y9, y10, y11, y12] H := by
  have hr : ringB (zs.map V.str) = true := ringB_texts (by omega) (by omega) hn
  have okd : ∀ g, g ≤ zs.length → ∀ z ∈ Jos.out (d - 1).toNat zs.length (Jos.rot zs g), PyData.strOk z = true := fun g _ z hz2 =>
    ok z ((Jos.rot_perm zs g).mem_iff.mp ((Jos.out_perm _ _ _ (Jos.rot_len zs g)).mem_iff.mp hz2))
  -- found
  refine ⟨_, rfl, _, rfl, _, rfl, ?_⟩
  refine row_right (E := E0) hq (by omega) (by omega) hn d1 d2 (by omega) fun f H1 nf e1 hf => ?_
  have nfp : f ≠ p := st.ne nf
  refine ⟨_, rfl, .ref q, rfl, true, by rw [← hr]; exact IsR.texts (e1 _ _ hq) (by omega), fun H2 e2 => ?_⟩
  refine ⟨true, true, rfl, rfl, _, rfl, iteC (fun c => by cases c) (fun _ => ?_)⟩
  refine ⟨_, rfl, _, _, _, _, true, rfl, .ty "list", .base (.lst (e2 _ _ hf)), kit_ty (by decide +kernel), true, rfl, iteF ?_⟩
  refine ⟨_, rfl, _, rfl, f, u, _, _, rfl, rfl, sq_of (e2 _ _ hf), sq_of (e2 _ _ (e1 _ _ hu)), str_plain (okd B (by omega)), str_plain (okd B (by omega)), _, rfl, iteC (fun c => (ne_self c).elim) (fun _ => ?_)⟩
  refine ⟨_, rfl, _, rfl, q, w, _, _, rfl, rfl, sq_of (e2 _ _ (e1 _ _ hq)), sq_of (e2 _ _ (e1 _ _ hw)), str_plain ok, str_plain ok, _, rfl, iteC (fun c => (ne_self c).elim) (fun _ => ?_)⟩
  -- what is told is a list of its own
  refine ⟨_, rfl, ty_l (e2 _ _ hf), f, _, _, rfl, rfl, e2 _ _ hf, ?_, ?_⟩
  · rw [List.length_map, Jos.out_len _ _ _ (Jos.rot_len zs B)]; exact sz_lt (by omega)
  have e3 : Ex H (upd H2 f (.lst ((Jos.out (d - 1).toNat zs.length (Jos.rot zs B)).map V.str ++ [.str ""]))) := Evl.Ex.mut (e1.trans e2) nf
  refine ⟨_, rfl, _, rfl, _, rfl, ?_⟩
  refine row_right (E := E0) (e3 _ _ hq) (by omega) (by omega) hn d1 d2 (by omega) fun f2 H4 nf2 e4 hf2 => ?_
  refine ⟨_, rfl, f2, u, _, _, rfl, rfl, sq_of hf2, sq_of (e4 _ _ (e3 _ _ hu)), str_plain (okd B (by omega)), str_plain (okd B (by omega)), _, rfl, iteC (fun c => (ne_self c).elim) (fun _ => ?_)⟩
  have e34 := e3.trans e4
  refine ⟨_, rfl, _, rfl, ?_⟩
  refine row_right (g := 0) (E := E0) (e34 _ _ hq) (by omega) (by omega) hn d1 d2 (by omega) fun f3 H5 nf3 e5 hf3 => ?_
  have e35 := e34.trans e5
  refine ⟨_, rfl, _, rfl, w, _, d, rfl, sq_of (e35 _ _ hw), by rw [List.length_map]; omega, str_plain ok, d1, fun o H6 no e6 ho => ?_⟩
  rw [List.length_map, Jos.out_map] at ho
  rw [Jos.rot_zero] at hf3
  refine ⟨f3, o, _, _, rfl, rfl, sq_of (e6 _ _ hf3), sq_of ho, ?_, ?_, _, rfl, iteC (fun c => (ne_self c).elim) (fun _ => ?_)⟩
  · have := okd 0 (by omega)
    rw [Jos.rot_zero] at this
    exact str_plain this
  · have := okd 0 (by omega)
    rw [Jos.rot_zero] at this
    exact str_plain this
  have e36 := e35.trans e6
  exact last_go (B := B) (st.ex e36) (sc.run (Run.ex st e36)) (e36 _ _ hq) nq (e36 _ _ hw) nw hz m1 m2 hn ok d1 d2 k
def t_law (K : PySem.W.Frag) (C : Cs) : TS :=
(tSeq (tAsg (tCall (sState K) [] E0 (tCons (tVar 0) (tCons (tC (.int 0)) tNil))) (gName 1))
  (tSeq (tAsg (tCall sOf [] E0 (tCons (tVar 1) (tCons (tLst (tCons (tC (.int 1)) (tCons (tC (.int 2)) (tCons (tOp oAdd (tC (.int 1)) (tOp oMod (tCall sNext [] E0 (tCons (tVar 1) tNil)) (tC (.int 30)))) tNil)))) tNil))) (gName 2))
  (tSeq (tIfS (tTest (tOp rEq (tOp oMod (tCall (sCell K) [] E0 (tCons (tVar 0) (tCons (tC (.int 2)) tNil))) (tC (.int 16))) (tC (.int 3))))
  (tAsg (tOp oSub (tC (.int 200)) (tOp oMod (tOp oFdiv (tCall (sCell K) [] E0 (tCons (tVar 0) (tCons (tC (.int 2)) tNil))) (tC (.int 16))) (tC (.int 3)))) (gName 2))
  tNext)
  (tSeq (tAsg (tCall sHands [] E0 (tCons (tVar 1) (tCons (tVar 2) tNil))) (gName 3))
  (tSeq (tAsg (tCB (rListOf K) (tCons (tVar 3) tNil)) (gName 4))
  (tSeq (tAsg (tCall sOf [] E0 (tCons (tVar 1) (tCons (tLst (tCons (tCall sStep [] E0 (tCons (tVar 1) (tCons (tC (.int 60)) tNil))) (tCons (tOp oPow (tC (.int 10)) (tC (.int 60))) (tCons (tOp oAdd (tC (.int 1)) (tCall sFar [] E0 (tCons (tVar 1) (tCons (tOp oPow (tC (.int 10)) (tC (.int 60))) tNil)))) tNil)))) tNil))) (gName 5))
  (tSeq (tAsg (tCall sOf [] E0 (tCons (tVar 1) (tCons (tLst (tCons (tC (.int 0)) (tCons (tOp oSub (tVar 2) (tC (.int 1))) (tCons (tOp oMod (tCall sNext [] E0 (tCons (tVar 1) tNil)) (tVar 2)) tNil)))) tNil))) (gName 6))
  (tSeq (tAsg (tCall (sOut K) [] E0 (tCons (tCall sTurned [] E0 (tCons (tVar 4) (tCons (tVar 6) tNil))) (tCons (tVar 5) tNil))) (gName 7))
  (t_mid K C)))))))))
def sLaw (K : PySem.W.Frag) : Sp := fun vs H Q _ => ∃ (a : Addr) (ns : List Int), vs = [.ref a] ∧ SqL K H a (ns.map V.int) ∧ ∀ H', Q (.bl true) H'
theorem pure_law {K : PySem.W.Frag} {C : Cs} {vs : List V} {H : Hp} {Q : VK} {E : XK} {nx : L2.St → Hp → Prop} (h : sLaw K vs H Q E) : t_law K C { nx := nx, rt := Q } (start ["_law_script", "_law_state_here", "_law_many", "_law_hands_here", "_law_held", "_law_step_here", "_law_begin", "_law_due", "_law_found", "_law_odd_here", "_law_bad", "_law_off", "_law_told_here"] vs) H := by
  obtain ⟨a, ns, rfl, hS, k⟩ := h
  refine ⟨_, rfl, a, ns, 0, rfl, hS, fun p H1 np e1 st1 => ?_⟩
  have sc1 := ScAt.of hS np e1
  -- many
  refine ⟨_, rfl, _, rfl, p, rfl, st1, fun H2 n2 r2 _ _ => ?_⟩
  refine ⟨_, _, rfl, rfl, pos0 (by decide), _, _, rfl, rfl, (by decide : 3 ≤ sizeLine), fun l2 nl2 => ?_⟩
  refine ⟨p, .ref l2, rfl, r2.2.ex (Evl.Ex.new nl2), .inl ⟨l2, _, rfl, r2.2.ne nl2, upd_same, by simp, fun H3 v r3 hv => ?_⟩⟩
  have rr3 : Run p H1 H3 := r2.trans ((Run.ex r2.2 (Evl.Ex.new nl2)).trans r3)
  obtain ⟨M0, rfl, m01, m02⟩ : ∃ M : Nat, v = .int (M : Int) ∧ 1 ≤ M ∧ M ≤ 200 := by
    have b1 : 0 ≤ n2 % 30 := Int.emod_nonneg _ (by decide)
    have b2 : n2 % 30 < 30 := Int.emod_lt_of_pos _ (by decide)
    simp only [List.mem_cons, List.not_mem_nil, or_false] at hv
    rcases hv with rfl | rfl | rfl
    · exact ⟨1, rfl, by omega, by omega⟩
    · exact ⟨2, rfl, by omega, by omega⟩
    · exact ⟨(1 + n2 % 30).toNat, by rw [Int.toNat_of_nonneg (by omega)], by omega, by omega⟩
  clear hv
  have sc3 := sc1.run rr3
  have fin : ∀ M : Nat, 1 ≤ M → M ≤ 200 → (tSeq (tAsg (tCall sHands [] E0 (tCons (tVar 1) (tCons (tVar 2) tNil))) (gName 3))
      (tSeq (tAsg (tCB (rListOf K) (tCons (tVar 3) tNil)) (gName 4))
      (tSeq (tAsg (tCall sOf [] E0 (tCons (tVar 1) (tCons (tLst (tCons (tCall sStep [] E0 (tCons (tVar 1) (tCons (tC (.int 60)) tNil))) (tCons (tOp oPow (tC (.int 10)) (tC (.int 60))) (tCons (tOp oAdd (tC (.int 1)) (tCall sFar [] E0 (tCons (tVar 1) (tCons (tOp oPow (tC (.int 10)) (tC (.int 60))) tNil)))) tNil)))) tNil))) (gName 5))
      (tSeq (tAsg (tCall sOf [] E0 (tCons (tVar 1) (tCons (tLst (tCons (tC (.int 0)) (tCons (tOp oSub (tVar 2) (tC (.int 1))) (tCons (tOp oMod (tCall sNext [] E0 (tCons (tVar 1) tNil)) (tVar 2)) tNil)))) tNil))) (gName 6))
      (tSeq (tAsg (tCall (sOut K) [] E0 (tCons (tCall sTurned [] E0 (tCons (tVar 4) (tCons (tVar 6) tNil))) (tCons (tVar 5) tNil))) (gName 7))
      (t_mid K C)))))) { nx := nx, rt := Q } [some (.ref a), some (.ref p), some (.int (M : Int)), none, none, none, none, none, none, none, none, none, none] H3 := by
    intro M m1 m2
    refine ⟨_, rfl, _, rfl, p, M, rfl, r3.2, by omega, fun q H4 zs nq r4 hq hz hn ok _ => ?_⟩
    have nqp : q ≠ p := r3.2.ne nq
    refine ⟨_, rfl, q, _, rfl, .inl (sq_of hq), fun w nw => ?_⟩
    have ew := Evl.Ex.new (o := .lst (zs.map V.str)) nw
    have nwp : w ≠ p := r4.2.ne nw
    have r5 : Run p H3 _ := r4.trans (Run.ex r4.2 ew)
    have hq5 := ew _ _ hq
    have hw5 : _ = some (HO.lst (zs.map V.str)) := upd_same (H := H4) (a := w)
    generalize (upd H4 w (.lst (zs.map V.str))) = H5 at r5 hq5 hw5
    -- step
    refine ⟨_, rfl, _, rfl, p, 60, rfl, r5.2, by decide, fun H6 d0 r6 d01 d02 => ?_⟩
    refine ⟨_, _, rfl, rfl, ⟨by decide, by decide, by decide⟩, _, rfl, _, _, rfl, rfl, ⟨by decide, by decide, by decide⟩, p, _, rfl, r6.2, by rw [ten60]; decide, fun H7 f7 r7 h7 => ?_⟩
    refine ⟨_, _, rfl, rfl, (by decide : 3 ≤ sizeLine), fun l8 nl8 => ?_⟩
    refine ⟨p, .ref l8, rfl, r7.2.ex (Evl.Ex.new nl8), .inl ⟨l8, _, rfl, r7.2.ne nl8, upd_same, by simp, fun H9 v r9 hv => ?_⟩⟩
    have r59 : Run p H5 H9 := r6.trans (r7.trans ((Run.ex r7.2 (Evl.Ex.new nl8)).trans r9))
    obtain ⟨d, rfl, d1, d2⟩ : ∃ d : Int, v = .int d ∧ 1 ≤ d ∧ d ≤ big := by
      rw [ten60] at h7
      have b60 : (60 : Int) ≤ big := by decide
      simp only [ten60, List.mem_cons, List.not_mem_nil, or_false] at hv
      rcases hv with rfl | rfl | rfl
      · exact ⟨d0, rfl, d01, by omega⟩
      · exact ⟨big, rfl, by decide, by decide⟩
      · exact ⟨1 + (f7 : Int), rfl, by omega, by omega⟩
    clear hv
    -- begin
    refine ⟨_, rfl, _, rfl, _, _, rfl, rfl, _, rfl, p, rfl, r9.2, fun H10 n10 r10 _ _ => ?_⟩
    refine ⟨_, rfl, _, _, rfl, rfl, pos0 (by omega), (by decide : 3 ≤ sizeLine), fun l10 nl10 => ?_⟩
    refine ⟨p, .ref l10, rfl, r10.2.ex (Evl.Ex.new nl10), .inl ⟨l10, _, rfl, r10.2.ne nl10, upd_same, by simp, fun H11 v r11 hv => ?_⟩⟩
    have r511 : Run p H5 H11 := r59.trans (r10.trans ((Run.ex r10.2 (Evl.Ex.new nl10)).trans r11))
    obtain ⟨B, rfl, hB⟩ : ∃ B : Nat, v = .int (B : Int) ∧ B < M := by
      have b1 : 0 ≤ n10 % (M : Int) := Int.emod_nonneg _ (by omega)
      have b2 : n10 % (M : Int) < M := Int.emod_lt_of_pos _ (by omega)
      simp only [List.mem_cons, List.not_mem_nil, or_false] at hv
      rcases hv with rfl | rfl | rfl
      · exact ⟨0, rfl, by omega⟩
      · exact ⟨M - 1, by congr 1; omega, by omega⟩
      · exact ⟨(n10 % (M : Int)).toNat, by rw [Int.toNat_of_nonneg b1], by omega⟩
    clear hv
    have hq11 := r511.keep nqp hq5
    have hw11 := r511.keep nwp hw5
    -- due
    refine ⟨_, rfl, _, rfl, w, _, _, rfl, hw11, ?_, ?_, fun c H12 nc e12 hc => ?_⟩
    · rw [List.length_map]; omega
    · rw [List.length_map]; omega
    rw [List.length_map, hz, Int.emod_eq_of_lt (by omega) (by omega), Int.toNat_natCast, Jos.rot_map] at hc
    have okr : ∀ z ∈ Jos.rot zs B, PyData.strOk z = true := fun z hz2 => ok z ((Jos.rot_perm zs B).mem_iff.mp hz2)
    refine ⟨_, rfl, c, _, d, rfl, sq_of hc, ?_, str_plain okr, d1, fun u H13 nu e13 hu => ?_⟩
    · rw [List.length_map, Jos.rot_len]; omega
    rw [List.length_map, Jos.rot_len, Jos.out_map] at hu
    have e1113 := e12.trans e13
    exact mid_go (r11.2.ex e1113) (sc3.run (r5.trans (r511.trans (Run.ex r11.2 e1113)))) (e1113 _ _ hq11) nqp (e1113 _ _ hw11) nwp hu hz m1 m2 hB hn ok d1 d2 k
  refine ⟨_, rfl, a, ns, 2, rfl, sc3 _ (Run.refl r3.2), fun z => ?_⟩
  refine ⟨_, _, rfl, rfl, pos0 (by decide), rfl, _, rfl, iteC (fun _ => ?_) (fun _ => fin M0 m01 m02)⟩
  refine ⟨_, rfl, a, ns, 2, rfl, sc3 _ (Run.refl r3.2), fun z' => ?_⟩
  refine ⟨_, _, rfl, rfl, ⟨by decide, by decide⟩, _, _, rfl, rfl, pos0 (by decide), _, _, rfl, rfl, ?_⟩
  have c1 : 0 ≤ z' / 16 % 3 := Int.emod_nonneg _ (by decide)
  have c2 : z' / 16 % 3 < 3 := Int.emod_lt_of_pos _ (by decide)
  have g := fin (200 - z' / 16 % 3).toNat (by omega) (by omega)
  rw [Int.toNat_of_nonneg (by omega)] at g
  exact g
end K01
end Cd

set_option Elab.async false
set_option linter.all false
set_option maxRecDepth 100000
namespace Mx
open PySem PySem.Spec PyProof.Rows L2 Kp
/-! ### a method, a making: refused within one's own try -/
/-- as tMeth; of what is refused the slots are told -/
def tMethX (C : Addr) (m : Str) (sp : Sp) (dvs : List V) (W : L2.St → XK) (to : TE) (t : TA) : TE := fun σ H Q =>
  to σ H fun x H1 => ∃ a dx fs, x = .ref a ∧ H1 a = some (.ins C dx fs) ∧ fs.lookup m = none ∧ t σ H1 fun ys H2 => sp (x :: (ys ++ dvs)) H2 Q (W σ)
/-- as tMake, likewise -/
def tMakeX (C : Addr) (sp : Sp) (dvs : List V) (W : L2.St → XK) (t : TA) : TE := fun σ H Q =>
  t σ H fun ys G => ∀ x dx, G x = none → G dx = none → dx ≠ x → sp (.ref x :: (ys ++ dvs)) (upd (upd G dx (.own x)) x (.ins C dx [])) (fun v H2 => v = .non ∧ Q (.ref x) H2) (W σ)
section
variable {X : Cx} {Z : CXT} {n : Nat} {g C : Addr} {df : FuncData} {names : List Str} {sp : Sp} {dvs : List V} {given : List Value} {W : L2.St → XK} {x m : Str} {p pos at_ : Pos} {e o : Expr} {es : List Expr} {to : TE} {t : TA}
theorem pe_methX {pl : Sem Bool} (po : PE X o to) (cl : Cls X.K C) (me : Meth X.K C m g) (G : FnOk X.prog X.w X.K X.mg X.base Z n g df names sp) (room : Room n X.A) (bi : Binds X.K df names given) (va : Vals dvs given)
    (pass : ∀ σ, PassesAt Z X σ (W σ)) (pa : PA X (e :: es) t) (stars : starEach (e :: es) X.env = (false, eval e X.env) :: starEach es X.env := by rfl) (plain : (backTo pos (starEach es X.env)).any (·.1) = false := by rfl)
    (tree : eval (.Call (.Attribute o m at_) (e :: es) [] pos) X.env = (do
      let me ← eval o X.env
      standAt at_.atName
      let (h, self) ← holding [me] (getMethod me m pl)
      callWith pos h self (backTo pos (starEach (e :: es) X.env)) (backToKw pos (keywordEach [] X.env))) := by rfl) : PE X (.Call (.Attribute o m at_) (e :: es) [] pos) (tMethX C m sp dvs W to t) := by
  refine ⟨fun pins st σ H Q inv hyp => PySem.W.methodCall_KW (pl := pl) (thn (po.run pins st σ H _ inv hyp) fun val st1 hv => ?_) tree⟩
  obtain ⟨y, G1, inv1, ry, a, dx, fs, rfl, ha, hl, rest⟩ := hv
  obtain rfl : val = Value.ref a := ry
  refine getmeth_ok inv1 ha cl me hl (PySem.W.callWith_K (first := [.ref a]) (h₀ := X.base) inv.ok.mod.kin me.kp (thn (pa.run pos pins st1 σ G1 _ inv1 rest) fun us st2 hu => ?_) stars plain)
  obtain ⟨vs, G2, inv2, rv, fin⟩ := hu
  exact ⟨inv2.kIn, run_fnSD (us := .ref a :: us) (vs := .ref a :: vs) G room bi va (pass σ) inv2 (.cons rfl rv) fin⟩
theorem pe_methX0 {pl : Sem Bool} (po : PE X o to) (cl : Cls X.K C) (me : Meth X.K C m g) (G : FnOk X.prog X.w X.K X.mg X.base Z n g df names sp) (room : Room n X.A) (bi : Binds X.K df names given) (va : Vals dvs given) (pass : ∀ σ, PassesAt Z X σ (W σ))
    (tree : eval (.Call (.Attribute o m at_) [] [] pos) X.env = (do
      let me ← eval o X.env
      standAt at_.atName
      let (h, self) ← holding [me] (getMethod me m pl)
      callWith pos h self (backTo pos (starEach [] X.env)) (backToKw pos (keywordEach [] X.env))) := by rfl) : PE X (.Call (.Attribute o m at_) [] [] pos) (tMethX C m sp dvs W to tNil) := by
  refine ⟨fun pins st σ H Q inv hyp => PySem.W.methodCall_KW (pl := pl) (thn (po.run pins st σ H _ inv hyp) fun val st1 hv => ?_) tree⟩
  obtain ⟨y, G1, inv1, ry, a, dx, fs, rfl, ha, hl, fin⟩ := hv
  obtain rfl : val = Value.ref a := ry
  exact getmeth_ok inv1 ha cl me hl (PySem.W.callWith_K0 (first := [.ref a]) inv1.kIn me.kp (run_fnSD (us := [.ref a]) (vs := [.ref a]) G room bi va (pass σ) inv1 (.cons rfl .nil) fin))
theorem made_at {pins : List (Addr × Obj)} {σ : L2.St} {H : Hp} {st : Shared} {Q : VK} {W : XK} {us : List Value} {vs : List V} (mk : Mk X.K C g) (G : FnOk X.prog X.w X.K X.mg X.base Z n g df names sp) (room : Room (n + 1) X.A) (bi : Binds X.K df names given) (va : Vals dvs given)
    (pass : PassesAt Z X σ W) (inv : Inv X pins σ H st) (rv : Vals vs us)
    (hyp : ∀ x dx, H x = none → H dx = none → dx ≠ x → sp (.ref x :: (vs ++ dvs)) (upd (upd H dx (.own x)) x (.ins C dx [])) (fun v H2 => v = .non ∧ Q (.ref x) H2) W) :
    wpAny (model X.prog X.w) X.A (call (.ref C) us) (EP X pins σ Q) X.xe st := by
  -- its dict stands at the heap's end, it behind it
  have top := inv.hok.fresh (Nat.le_refl st.heap.objs.size)
  have next := inv.hok.fresh (Nat.le_succ st.heap.objs.size)
  have now := hyp (st.heap.objs.size + 1) st.heap.objs.size next top (Nat.ne_of_lt (Nat.lt_succ_self _))
  have inv' := inv.made (C := C)
  have all : Vals (V.ref (st.heap.objs.size + 1) :: (vs ++ dvs)) (Value.ref (st.heap.objs.size + 1) :: (us ++ given)) := .cons rfl (rv.append va)
  have count : (Value.ref (st.heap.objs.size + 1) :: us ++ given).length = names.length := by
    rw [← G.len _ _ _ _ now]; exact all.length.symm
  have bound := bi _ (Value.ref (st.heap.objs.size + 1) :: us) inv'.kIn count
  have ran := G.run _ X.stack _ _ ⟨Value.ref (st.heap.objs.size + 1) :: us, []⟩ (Value.ref (st.heap.objs.size + 1) :: (us ++ given)) _ _ W (room.make C us []) (inv'.env0.make C us []) bound all now
  refine wpAny_call (make_map (f := g) inv.kIn mk.makes mk.init (beq_iff_eq.mp mk.fn) (codeAny_mono ran fun res st' back => ?_))
  match res, back with
  | .error err, back => exact pass pins _ _ err st' inv' back
  | .ok (.ret u), back =>
    obtain ⟨v, H', inv3, r3, rfl, fin⟩ := inv'.after back
    exact ⟨r3, V.ref (st.heap.objs.size + 1), H', inv3, rfl, fin⟩
  | .ok .next, back => exact back.elim
  | .ok .brk, back => exact back.elim
  | .ok .cont, back => exact back.elim
theorem pe_makeX (mk : Mk X.K C g) (G : FnOk X.prog X.w X.K X.mg X.base Z n g df names sp) (room : Room (n + 1) X.A) (gl : Gl X x) (named : X.mg x = some (.ref C)) (bi : Binds X.K df names given) (va : Vals dvs given) (pass : ∀ σ, PassesAt Z X σ (W σ)) (pa : PA X (e :: es) t)
    (nodbg : (x == ("__debug__" : Str)) = false := by decide) (stars : starEach (e :: es) X.env = (false, eval e X.env) :: starEach es X.env := by rfl) (plain : (backTo pos (starEach es X.env)).any (·.1) = false := by rfl) :
    PE X (.Call (.Name x p) (e :: es) [] pos) (tMakeX C sp dvs W t) := by
  refine ⟨fun pins st σ H Q inv hyp => wpAny_Call_Name_kw (ld_glob inv gl named (PySem.W.callWith_K (h₀ := X.base) inv.ok.mod.kin mk.kp (thn (pa.run pos pins st σ H _ inv hyp) fun us st1 hu => ?_) stars plain) nodbg)⟩
  obtain ⟨vs, G1, inv1, rv, fin⟩ := hu
  exact ⟨inv1.kIn, made_at mk G room bi va (pass σ) inv1 rv fin⟩
end
end Mx

set_option Elab.async false
set_option linter.all false
set_option maxRecDepth 100000
set_option maxHeartbeats 4000000
/-! ### left behind so many counts -/
namespace Jos
variable {α : Type}
def aft (s : Nat) : Nat → List α → List α
  | 0, l => l
  | k + 1, l => match rotN s l with
    | [] => []
    | _ :: t => aft s k t
theorem aft_len (s : Nat) : ∀ (k : Nat) (l : List α), (aft s k l).length = l.length - k
  | 0, l => rfl
  | k + 1, l => by
    have hl := rotN_len s l
    unfold aft
    split
    · rename_i e; rw [e] at hl; simp at hl ⊢; omega
    · rename_i x t e
      rw [e] at hl
      rw [aft_len s k t]; simp at hl; omega
/-- so many first, the rest from there -/
theorem out_split (s : Nat) : ∀ (k : Nat) (l : List α), k ≤ l.length → out s l.length l = (out s l.length l).take k ++ out s (l.length - k) (aft s k l)
  | 0, l, _ => rfl
  | k + 1, l, h => by
    have hl := rotN_len s l
    obtain ⟨n, hn⟩ : ∃ n, l.length = n + 1 := ⟨l.length - 1, by omega⟩
    unfold aft
    rw [hn]
    cases e : rotN s l with
    | nil => rw [e] at hl; simp at hl; omega
    | cons x t =>
      rw [e] at hl
      have ht : t.length = n := by simp at hl; omega
      have ih := out_split s k t (by omega)
      rw [ht] at ih
      rw [show out s (n + 1) l = x :: out s n t by rw [out, e]]
      rw [List.take_succ_cons, List.cons_append, show n + 1 - (k + 1) = n - k by omega, ← ih]
theorem aft_add (s : Nat) : ∀ (j k : Nat) (l : List α), aft s k (aft s j l) = aft s (j + k) l
  | 0, k, l => by rw [Nat.zero_add]; rfl
  | j + 1, k, l => by
    have e1 : aft s (j + 1) l = match rotN s l with | [] => [] | _ :: t => aft s j t := rfl
    have e2 : aft s (j + 1 + k) l = match rotN s l with | [] => [] | _ :: t => aft s (j + k) t := by rw [show j + 1 + k = (j + k) + 1 by omega]; rfl
    rw [e1, e2]
    cases rotN s l with
    | nil =>
      have : ∀ k, aft s k ([] : List α) = [] := by
        intro k
        cases k with
        | zero => rfl
        | succ k =>
          have hl := rotN_len s ([] : List α)
          unfold aft
          split
          · rfl
          · rename_i e; rw [e] at hl; simp at hl
      exact this k
    | cons x t => exact aft_add s j k t
theorem aft_perm (s : Nat) : ∀ (k : Nat) (l : List α), k ≤ l.length → ((out s l.length l).take k ++ aft s k l).Perm l
  | 0, l, _ => by rw [List.take_zero]; exact List.Perm.refl _
  | k + 1, l, h => by
    have hl := rotN_len s l
    have hp := rotN_perm s l
    obtain ⟨n, hn⟩ : ∃ n, l.length = n + 1 := ⟨l.length - 1, by omega⟩
    unfold aft
    rw [hn]
    cases e : rotN s l with
    | nil => rw [e] at hl; simp at hl; omega
    | cons x t =>
      rw [e] at hl hp
      have ht : t.length = n := by simp at hl; omega
      have ih := aft_perm s k t (by omega)
      rw [ht] at ih
      rw [show out s (n + 1) l = x :: out s n t by rw [out, e]]
      rw [List.take_succ_cons, List.cons_append]
      exact (List.Perm.cons x ih).trans hp
end Jos
namespace Cd
open PySem PySem.Spec PyProof.Rows L2 Tx Kp Mx
open Evl (Ex sq_of ex_l sz_of sz_lt fresh_back)
/-- how a ring lies in the heap: at a, over the cells F, left, gone, step d -/
structure Rep (K : PySem.W.Frag) where
  C : Addr
  at_ : Hp → Addr → (Addr → Prop) → List Str → List Str → Nat → Prop
  ins : ∀ {H a F l g d}, at_ H a F l g d → ∃ dx fs, H a = some (.ins C dx fs) ∧ ∀ m ∈ (["left", "gone", "count", "counts", "come", "due", "last"] : List Str), fs.lookup m = none
  frame : ∀ {H H' a F l g d}, at_ H a F l g d → (∀ b, F b → H' b = H b) → at_ H' a F l g d
  live : ∀ {H a F l g d b}, at_ H a F l g d → F b → H b ≠ none
variable {K : PySem.W.Frag}
theorem Rep.ex {R : Rep K} {H H' : Hp} {a : Addr} {F : Addr → Prop} {l g : List Str} {d : Nat} (h : R.at_ H a F l g d) (e : Ex H H') : R.at_ H' a F l g d := by
  refine R.frame h fun b hb => ?_
  cases q : H b with
  | none => exact absurd q (R.live h hb)
  | some o => exact e b o q
/-- what lies beside the ring stays -/
structure Chg (H : Hp) (F : Addr → Prop) (H' : Hp) (F' : Addr → Prop) : Prop where
  keep : ∀ b o, H b = some o → ¬ F b → H' b = some o
  own : ∀ b, F' b → F b ∨ H b = none
theorem Chg.off {H H' : Hp} {F F' : Addr → Prop} {b : Addr} (c : Chg H F H' F') (h : ¬ F b) (n : H b ≠ none) : ¬ F' b := fun z => by
  rcases c.own b z with y | y
  · exact h y
  · exact n y
/-- a mutation beside the ring -/
theorem Rep.mut {R : Rep K} {H : Hp} {a q : Addr} {F : Addr → Prop} {l g : List Str} {d : Nat} {o : HO} (h : R.at_ H a F l g d) (n : ¬ F q) : R.at_ (upd H q o) a F l g d :=
  R.frame h fun b hb => upd_ne fun z => n (by rw [← z]; exact hb)
theorem Rep.free {R : Rep K} {H : Hp} {a q : Addr} {F : Addr → Prop} {l g : List Str} {d : Nat} (h : R.at_ H a F l g d) (n : H q = none) : ¬ F q := fun z => R.live h z n
@[irreducible] def sInit (R : Rep K) (CR CS CP : Addr) : Sp := fun vs H Q E => ∃ x h d b H0, vs = [.ref x, h, d, b] ∧ (∃ dx, H0 x = none ∧ H0 dx = none ∧ dx ≠ x ∧ H = upd (upd H0 dx (.own x)) x (.ins R.C dx [])) ∧
  ∃ rb, IsR K H h rb ∧ Typ K H d ∧ Typ K H b ∧ (∀ l (zs : List Str), h = .ref l → H l = some (.lst (zs.map V.str)) → ∀ z ∈ zs, PyData.strOk z = true) ∧
  (rb = false → ∀ H', Ex H0 H' → E (.ref CR) none H') ∧
  (rb = true → (whB d 1 big = false → ∀ H', Ex H0 H' → E (.ref CS) none H') ∧ ∀ s : Nat, d = .int (s : Int) → 1 ≤ s → (s : Int) ≤ big → ∀ l (zs : List Str), h = .ref l → H l = some (.lst (zs.map V.str)) →
    (whB b 0 ((zs.length : Int) - 1) = false → ∀ H', Ex H0 H' → E (.ref CP) none H') ∧ ∀ g : Nat, b = .int (g : Int) → g < zs.length →
      ∀ F H', R.at_ H' x F (Jos.rot zs g) [] s → (∀ b, F b → H0 b = none) → Ex H0 H' → Q .non H')
@[irreducible] def sLeftM (R : Rep K) : Sp := fun vs H Q _ => ∃ a F l g d, vs = [.ref a] ∧ R.at_ H a F l g d ∧ ∀ o H', H o = none → Ex H H' → H' o = some (.lst (l.map V.str)) → Q (.ref o) H'
@[irreducible] def sGoneM (R : Rep K) : Sp := fun vs H Q _ => ∃ a F l g d, vs = [.ref a] ∧ R.at_ H a F l g d ∧ ∀ o H', H o = none → Ex H H' → H' o = some (.lst (g.map V.str)) → Q (.ref o) H'
@[irreducible] def sCountM (R : Rep K) (CH : Addr) : Sp := fun vs H Q E => ∃ a F l g d, vs = [.ref a] ∧ R.at_ H a F l g d ∧ (l = [] → ∀ H', Ex H H' → E (.ref CH) none H') ∧
  ∀ z t, Jos.rotN (d - 1) l = z :: t → ∀ F' H', R.at_ H' a F' t (g ++ [z]) d → Chg H F H' F' → Q (.str z) H'
@[irreducible] def sCountsM (R : Rep K) (CC : Addr) : Sp := fun vs H Q E => ∃ a m F l g d, vs = [.ref a, m] ∧ R.at_ H a F l g d ∧ Typ K H m ∧ (whB m 0 (l.length : Int) = false → ∀ H', Ex H H' → E (.ref CC) none H') ∧
  ∀ k : Nat, m = .int (k : Int) → k ≤ l.length → ∀ o F' H', H o = none → ¬ F' o → R.at_ H' a F' (Jos.aft (d - 1) k l) (g ++ (Jos.out (d - 1) l.length l).take k) d → Chg H F H' F' →
    H' o = some (.lst (((Jos.out (d - 1) l.length l).take k).map V.str)) → Q (.ref o) H'
/-- where a hand comes in -/
def comeAt (l : List Str) (p : V) : Option Nat := match p with
  | .non => some l.length
  | .int i => if 0 ≤ i ∧ i ≤ l.length then some i.toNat else none
  | _ => none
@[irreducible] def sComeM (R : Rep K) (C : Cs) : Sp := fun vs H Q E => ∃ a h p F l g d, vs = [.ref a, h, p] ∧ R.at_ H a F l g d ∧ Typ K H h ∧ Typ K H p ∧ (isS h = false → ∀ H', Ex H H' → E (.ref C.hand) none H') ∧
  ∀ z, h = .str z → PyData.strOk z = true ∧ (z ∈ l ++ g → ∀ H', Ex H H' → E (.ref C.twice) none H') ∧ (z ∉ l ++ g →
    (comeAt l p = none → ∀ H', Ex H H' → E (.ref C.place) none H') ∧ ∀ i, comeAt l p = some i →
      (400 ≤ l.length + g.length → ∀ H', Ex H H' → E (.ref C.much) none H') ∧ (l.length + g.length < 400 → ∀ F' H', R.at_ H' a F' (l.insertIdx i z) g d → Chg H F H' F' → Q .non H'))
@[irreducible] def sDueM (R : Rep K) (CH : Addr) : Sp := fun vs H Q E => ∃ a z F l g d, vs = [.ref a, .str z] ∧ PyData.strOk z = true ∧ R.at_ H a F l g d ∧ (z ∉ l → ∀ H', Ex H H' → E (.ref CH) none H') ∧
  ∀ c : Nat, (Jos.out (d - 1) l.length l)[c]? = some z → ∀ H', Ex H H' → Q (.int ((c : Int) + 1)) H'
@[irreducible] def sLastM (R : Rep K) (CH : Addr) : Sp := fun vs H Q E => ∃ a F l g d, vs = [.ref a] ∧ R.at_ H a F l g d ∧ (l = [] → ∀ H', Ex H H' → E (.ref CH) none H') ∧
  ∀ z, (Jos.out (d - 1) l.length l)[l.length - 1]? = some z → ∀ H', Ex H H' → Q (.str z) H'
/-! readings -/
section
variable {R : Rep K} {H : Hp} {a : Addr} {F : Addr → Prop} {l g : List Str} {d : Nat} {Q : VK} {σ : L2.St} {E : XK} {ta : TE}
theorem meth_of {m : Str} {sp : Sp} (hm : m ∈ (["left", "gone", "count", "counts", "come", "due", "last"] : List Str)) (hr : R.at_ H a F l g d) {t : TA} {dvs : List V} (q : t σ H fun vs H2 => sp (.ref a :: (vs ++ dvs)) H2 Q E) :
    ∃ b dx fs, V.ref a = .ref b ∧ H b = some (.ins R.C dx fs) ∧ fs.lookup m = none ∧ t σ H fun vs H2 => sp (.ref a :: (vs ++ dvs)) H2 Q E := by
  obtain ⟨dx, fs, h1, h2⟩ := R.ins hr
  exact ⟨a, dx, fs, rfl, h1, h2 m hm, q⟩
theorem left_go (hr : R.at_ H a F l g d) (q : ∀ o H', H o = none → Ex H H' → H' o = some (.lst (l.map V.str)) → Q (.ref o) H') : sLeftM R [.ref a] H Q E := by
  unfold sLeftM
  exact ⟨a, F, l, g, d, rfl, hr, q⟩
theorem gone_go (hr : R.at_ H a F l g d) (q : ∀ o H', H o = none → Ex H H' → H' o = some (.lst (g.map V.str)) → Q (.ref o) H') : sGoneM R [.ref a] H Q E := by
  unfold sGoneM
  exact ⟨a, F, l, g, d, rfl, hr, q⟩
end
end Cd

set_option Elab.async false
set_option linter.all false
set_option maxRecDepth 100000
set_option maxHeartbeats 4000000
namespace Jos
variable {α : Type}
/-- who goes at count i: the first one behind i counts -/
theorem out_head (s : Nat) (i : Nat) (l : List α) (h : i < l.length) : ∃ z t, rotN s (aft s i l) = z :: t ∧ (out s l.length l)[i]? = some z ∧ aft s (i + 1) l = t := by
  have hl := aft_len s i l
  have hr := rotN_len s (aft s i l)
  cases e : rotN s (aft s i l) with
  | nil => rw [e, hl] at hr; simp at hr; omega
  | cons z t =>
    refine ⟨z, t, rfl, ?_, ?_⟩
    · rw [out_split s i l (by omega)]
      have l1 : ((out s l.length l).take i).length = i := by rw [List.length_take, out_len s l.length l rfl]; omega
      rw [List.getElem?_append_right (by omega), l1, Nat.sub_self]
      obtain ⟨n, hn⟩ : ∃ n, l.length - i = n + 1 := ⟨l.length - i - 1, by omega⟩
      rw [hn, out, e]; rfl
    · rw [← aft_add s i 1 l]
      unfold aft
      rw [e]
      rfl
theorem aft_nil (s k : Nat) : aft s k ([] : List α) = [] := List.eq_nil_of_length_eq_zero (by rw [aft_len]; simp)
end Jos
namespace Cd
open PySem PySem.Spec PyProof.Rows L2 Tx Kp Mx
open Evl (Ex sq_of ex_l sz_of sz_lt fresh_back)
variable {K : PySem.W.Frag}
theorem Chg.ex {H H' : Hp} {F : Addr → Prop} (e : Ex H H') : Chg H F H' F := ⟨fun b o h _ => e b o h, fun b h => .inl h⟩
section
variable {R : Rep K} {H : Hp} {a : Addr} {F : Addr → Prop} {l g : List Str} {d : Nat} {Q : VK} {E : XK}
theorem counts_go {CC : Addr} {k : Nat} (hr : R.at_ H a F l g d) (hk : k ≤ l.length)
    (q : ∀ o F' H', H o = none → ¬ F' o → R.at_ H' a F' (Jos.aft (d - 1) k l) (g ++ (Jos.out (d - 1) l.length l).take k) d → Chg H F H' F' → H' o = some (.lst (((Jos.out (d - 1) l.length l).take k).map V.str)) → Q (.ref o) H') : sCountsM R CC [.ref a, .int (k : Int)] H Q E := by
  unfold sCountsM
  refine ⟨a, _, F, l, g, d, rfl, hr, Typ.int, fun e => ?_, fun k' ek _ => ?_⟩
  · rw [wh_of (by omega) (by omega)] at e; cases e
  · have e1 : k' = k := by have := V.int.inj ek; omega
    subst e1
    exact q
theorem come_go {C : Cs} {z : Str} {p : V} {i : Nat} (hr : R.at_ H a F l g d) (ok : PyData.strOk z = true) (new : z ∉ l ++ g) (tp : Typ K H p) (hp : comeAt l p = some i) (few : l.length + g.length < 400)
    (q : ∀ F' H', R.at_ H' a F' (l.insertIdx i z) g d → Chg H F H' F' → Q .non H') : sComeM R C [.ref a, .str z, p] H Q E := by
  unfold sComeM
  refine ⟨a, _, p, F, l, g, d, rfl, hr, Typ.str, tp, (fun e => by cases e), fun z' ez => ?_⟩
  cases ez
  refine ⟨ok, fun c => absurd c new, fun _ => ⟨fun c => ?_, fun j hj => ⟨fun c => by omega, fun _ => ?_⟩⟩⟩
  · rw [hp] at c; cases c
  · rw [hp] at hj
    cases hj
    exact q
theorem last_go {CH : Addr} {z : Str} (hr : R.at_ H a F l g d) (hz : (Jos.out (d - 1) l.length l)[l.length - 1]? = some z) (q : ∀ H', Ex H H' → Q (.str z) H') : sLastM R CH [.ref a] H Q E := by
  unfold sLastM
  refine ⟨a, F, l, g, d, rfl, hr, fun e => ?_, fun z' hz' => ?_⟩
  · subst e
    simp [Jos.out] at hz
  · rw [hz] at hz'
    cases hz'
    exact q
theorem make_go {CR CS CP o x dx : Addr} {zs : List Str} {s b : Nat} {P : Hp → Prop} (ho : H o = some (.lst (zs.map V.str))) (h1 : 1 ≤ zs.length) (h2 : zs.length ≤ 200) (hn : zs.Nodup) (ok : ∀ z ∈ zs, PyData.strOk z = true) (s1 : 1 ≤ s) (s2 : (s : Int) ≤ big) (hb : b < zs.length)
    (nx : H x = none) (ndx : H dx = none) (ne : dx ≠ x) (q : ∀ F' H', R.at_ H' x F' (Jos.rot zs b) [] s → (∀ c, F' c → H c = none) → Ex H H' → P H') :
    sInit R CR CS CP [.ref x, .ref o, .int (s : Int), .int (b : Int)] (upd (upd H dx (.own x)) x (.ins R.C dx [])) (fun v H2 => v = .non ∧ P H2) E := by
  have e1 : Ex H (upd H dx (.own x)) := Evl.Ex.new ndx
  have e2 : Ex (upd H dx (.own x)) (upd (upd H dx (.own x)) x (.ins R.C dx [])) := Evl.Ex.new (by rw [upd_ne (Ne.symm ne)]; exact nx)
  have ho2 := e2 _ _ (e1 _ _ ho)
  unfold sInit
  refine ⟨x, _, _, _, H, rfl, ⟨dx, nx, ndx, ne, rfl⟩, _, IsR.texts ho2 (by omega), Typ.int, Typ.int, fun l zs' el hl => ?_, fun e => ?_, fun _ => ⟨fun e => ?_, fun s' es _ _ l zs' el hl => ?_⟩⟩
  · cases el
    rw [ho2] at hl
    have : zs = zs' := by
      have e := HO.lst.inj (Option.some.inj hl)
      exact List.map_inj_right (fun _ _ h => V.str.inj h) |>.mp e
    subst this
    exact ok
  · rw [ringB_texts h1 h2 hn] at e; cases e
  · rw [wh_of (by omega) s2] at e; cases e
  · cases el
    rw [ho2] at hl
    have : zs = zs' := by
      have e := HO.lst.inj (Option.some.inj hl)
      exact List.map_inj_right (fun _ _ h => V.str.inj h) |>.mp e
    subst this
    refine ⟨fun e => ?_, fun g' eg hg' F' H' hr hF hE => ⟨rfl, ?_⟩⟩
    · rw [wh_of (by omega) (by omega)] at e; cases e
    · have e1 : s' = s := by have := V.int.inj es; omega
      have e2 : g' = b := by have := V.int.inj eg; omega
      subst e1 e2
      exact q F' H' hr hF hE
end
end Cd

set_option Elab.async false
set_option linter.all false
set_option maxRecDepth 100000
set_option maxHeartbeats 4000000
namespace Cd
open PySem PySem.Spec PyProof.Rows L2 Tx Kp Mx
open Evl (Ex sq_of ex_l sz_of sz_lt fresh_back)
variable {K : PySem.W.Frag}
/-! ### the ring as it landed -/
/-- what of its class is asked -/
structure RF (K : PySem.W.Frag) (C : Addr) : Prop where
  cl : Cls K C
  nL : NoAttr K C "_left"
  nG : NoAttr K C "_gone"
  nS : NoAttr K C "_step"
def rF (lo go : Addr) (d : Nat) : List (Str × V) := [("_left", V.ref lo), ("_gone", V.ref go), ("_step", V.int (d : Int))]
def rC (a dx lo go : Addr) : Addr → Prop := fun b => b = a ∨ b = dx ∨ b = lo ∨ b = go
theorem rF_left (lo go : Addr) (d : Nat) : (rF lo go d).lookup ("_left" : Str) = some (.ref lo) := by
  unfold rF
  simp only [List.lookup, show (("_left" : Str) == "_left") = true by decide +kernel]
theorem rF_gone (lo go : Addr) (d : Nat) : (rF lo go d).lookup ("_gone" : Str) = some (.ref go) := by
  unfold rF
  simp only [List.lookup, show (("_gone" : Str) == "_left") = false by decide +kernel, show (("_gone" : Str) == "_gone") = true by decide +kernel]
theorem rF_step (lo go : Addr) (d : Nat) : (rF lo go d).lookup ("_step" : Str) = some (.int (d : Int)) := by
  unfold rF
  simp only [List.lookup, show (("_step" : Str) == "_left") = false by decide +kernel, show (("_step" : Str) == "_gone") = false by decide +kernel, show (("_step" : Str) == "_step") = true by decide +kernel]
theorem rF_no (lo go : Addr) (d : Nat) {m : Str} (h1 : (m == "_left") = false) (h2 : (m == "_gone") = false) (h3 : (m == "_step") = false) : (rF lo go d).lookup m = none := by
  unfold rF
  simp only [List.lookup, h1, h2, h3]
theorem rF_put (lo go p : Addr) (d : Nat) : putF "_left" (.ref p) (rF lo go d) = rF p go d := by
  unfold rF
  show (if ("_left" : Str) = "_left" then _ else _) = _
  rw [if_pos rfl]
/-- at a, over its four cells -/
structure RAt (C : Addr) (H : Hp) (a : Addr) (F : Addr → Prop) (l g : List Str) (d : Nat) (dx lo go : Addr) : Prop where
  ha : H a = some (.ins C dx (rF lo go d))
  hd : H dx = some (.own a)
  hl : H lo = some (.lst (l.map V.str))
  hg : H go = some (.lst (g.map V.str))
  ne : lo ≠ go
  eF : F = rC a dx lo go
  d1 : 1 ≤ d
  few : l.length + g.length ≤ 400
  nd : l.Nodup
abbrev RR (K : PySem.W.Frag) (C : Addr) : Rep K where
  C := C
  at_ H a F l g d := ∃ dx lo go, RAt C H a F l g d dx lo go
  ins := fun {H a F l g d} h => by
    obtain ⟨dx, lo, go, r⟩ := h
    refine ⟨dx, _, r.ha, fun m hm => ?_⟩
    simp only [List.mem_cons, List.not_mem_nil, or_false] at hm
    rcases hm with rfl | rfl | rfl | rfl | rfl | rfl | rfl <;> exact rF_no _ _ _ (by decide +kernel) (by decide +kernel) (by decide +kernel)
  frame := fun {H H' a F l g d} h f => by
    obtain ⟨dx, lo, go, r⟩ := h
    have eF := r.eF
    subst eF
    exact ⟨dx, lo, go, (f _ (.inl rfl)).trans r.ha, (f _ (.inr (.inl rfl))).trans r.hd, (f _ (.inr (.inr (.inl rfl)))).trans r.hl, (f _ (.inr (.inr (.inr rfl)))).trans r.hg, r.ne, rfl, r.d1, r.few, r.nd⟩
  live := fun {H a F l g d b} h hb => by
    obtain ⟨dx, lo, go, r⟩ := h
    have eF := r.eF
    subst eF
    rcases hb with rfl | rfl | rfl | rfl
    · rw [r.ha]; exact fun z => by cases z
    · rw [r.hd]; exact fun z => by cases z
    · rw [r.hl]; exact fun z => by cases z
    · rw [r.hg]; exact fun z => by cases z
theorem Chg.trans {H H1 H2 : Hp} {F F1 F2 : Addr → Prop} (c : Chg H F H1 F1) (c' : Chg H1 F1 H2 F2) : Chg H F H2 F2 :=
  ⟨fun b o h n => c'.keep b o (c.keep b o h n) (c.off n fun z => by rw [h] at z; cases z), fun b hb => by
    rcases c'.own b hb with h | h
    · exact c.own b h
    · cases q : H b with
      | none => exact .inr rfl
      | some o =>
        refine .inl (Classical.byContradiction fun n => ?_)
        rw [c.keep b o q n] at h
        cases h⟩
/-! told, nothing changed -/
def t_left (K : PySem.W.Frag) : TS := (tRet (tCB (rListOf K) (tCons (tFld K (tVar 0) "_left") tNil)))
def t_gone (K : PySem.W.Frag) : TS := (tRet (tCB (rListOf K) (tCons (tFld K (tVar 0) "_gone") tNil)))
section
variable {C : Addr} {vs : List V} {H : Hp} {Q : VK} {E : XK}
theorem pure_left (T : RF K C) (h : sLeftM (RR K C) vs H Q E) : t_left K { nx := fun _ H' => Q .non H', rt := Q } (start ["self"] vs) H := by
  unfold sLeftM at h
  obtain ⟨a, F, l, g, d, rfl, ⟨dx, lo, go, r⟩, q⟩ := h
  refine ⟨_, rfl, a, C, dx, _, _, rfl, r.ha, T.cl, T.nL, rF_left _ _ _, lo, _, rfl, .inl (sq_of r.hl), fun o no => q o _ no (Evl.Ex.new no) upd_same⟩
theorem pure_gone (T : RF K C) (h : sGoneM (RR K C) vs H Q E) : t_gone K { nx := fun _ H' => Q .non H', rt := Q } (start ["self"] vs) H := by
  unfold sGoneM at h
  obtain ⟨a, F, l, g, d, rfl, ⟨dx, lo, go, r⟩, q⟩ := h
  refine ⟨_, rfl, a, C, dx, _, _, rfl, r.ha, T.cl, T.nG, rF_gone _ _ _, go, _, rfl, .inl (sq_of r.hg), fun o no => q o _ no (Evl.Ex.new no) upd_same⟩
def t_row (K : PySem.W.Frag) : TS :=
(tRet (tCall (sCtd K) [] E0 (tCons (tFld K (tVar 0) "_left") (tCons (tFld K (tVar 0) "_step") (tCons (tC (.int 0)) tNil)))))
@[irreducible] def sRowM (R : Rep K) : Sp := fun vs H Q _ => ∃ a F l g d, vs = [.ref a] ∧ R.at_ H a F l g d ∧ ∀ o H', H o = none → Ex H H' → H' o = some (.lst ((Jos.out (d - 1) l.length l).map V.str)) → Q (.ref o) H'
theorem pure_row (T : RF K C) (h : sRowM (RR K C) vs H Q E) : t_row K { nx := fun _ H' => Q .non H', rt := Q } (start ["self"] vs) H := by
  unfold sRowM at h
  obtain ⟨a, F, l, g, d, rfl, ⟨dx, lo, go, r⟩, q⟩ := h
  refine ⟨_, rfl, a, C, dx, _, _, rfl, r.ha, T.cl, T.nL, rF_left _ _ _, _, rfl, a, C, dx, _, _, rfl, r.ha, T.cl, T.nS, rF_step _ _ _, ?_⟩
  show sCtd K [.ref lo, .int (d : Int), .int ((0 : Nat) : Int)] H _ E0
  have hf := r.few
  have hd := r.d1
  unfold sCtd
  refine ⟨lo, _, 0, _, rfl, r.hl, by rw [List.length_map]; omega, by omega, Nat.zero_le _, fun o H' no e ho => q o H' no e ?_⟩
  rw [ho, List.length_map, Jos.rot_zero, Jos.out_map, show ((d : Int) - 1).toNat = d - 1 by omega]
/-! one count -/
def t_go_on (K : PySem.W.Frag) : TS :=
(tSeq (tAsg (tCall sGN [] E0 (tCons (tCB (rLenL K) (tCons (tFld K (tVar 0) "_left") tNil)) (tCons (tFld K (tVar 0) "_step") (tCons (tC (.int 0)) tNil)))) (gName 1))
  (tSeq (tAsg (tOp (rIxL K) (tFld K (tVar 0) "_left") (tVar 1)) (gName 2))
  (tSeq (sFld K (tVar 0) (tOp rCat (tSl (rSlL K) (tFld K (tVar 0) "_left") (tPart (tOp oAdd (tVar 1) (tC (.int 1)))) tNoPart) (tSl (rSlL K) (tFld K (tVar 0) "_left") tNoPart (tPart (tVar 1)))) "_left")
  (tSeq (tDrop (tBM K "list" rAppend (tFld K (tVar 0) "_gone") (tCons (tVar 2) tNil)))
  (tRet (tVar 2))))))
@[irreducible] def sGoOn (R : Rep K) : Sp := fun vs H Q _ => ∃ a F l g d z t, vs = [.ref a] ∧ R.at_ H a F l g d ∧ Jos.rotN (d - 1) l = z :: t ∧ ∀ F' H', R.at_ H' a F' t (g ++ [z]) d → Chg H F H' F' → Q (.str z) H'
theorem pure_go_on (T : RF K C) (h : sGoOn (RR K C) vs H Q E) : t_go_on K { nx := fun _ H' => Q .non H', rt := Q } (start ["self", "at", "hand"] vs) H := by
  unfold sGoOn at h
  obtain ⟨a, F, l, g, d, z, t, rfl, ⟨dx, lo, go, r⟩, hz, q⟩ := h
  have hlen : l.length = t.length + 1 := by
    have e := Jos.rotN_len (d - 1) l
    rw [hz] at e
    simpa using e.symm
  have hpos : 0 < l.length := by omega
  have hd := r.d1
  have hf := r.few
  refine ⟨_, rfl, a, C, dx, _, _, rfl, r.ha, T.cl, T.nL, rF_left _ _ _, lo, _, rfl, .inl (sq_of r.hl), _, rfl, a, C, dx, _, _, rfl, r.ha, T.cl, T.nS, rF_step _ _ _, _, _, _, rfl, (by rw [List.length_map]; omega), ?_⟩
  obtain ⟨j, hj, hjl, hjn⟩ : ∃ j : Nat, ((0 : Int) + (d : Int) - 1) % ((l.map V.str).length : Int) = (j : Int) ∧ j < l.length ∧ j = (d - 1) % l.length := by
    refine ⟨(d - 1) % l.length, ?_, Nat.mod_lt _ hpos, rfl⟩
    rw [List.length_map, Int.natCast_emod]
    congr 1
    omega
  have e := Jos.rotN_eq (d - 1) l hpos
  rw [← hjn, hz] at e
  unfold Jos.rot at e
  rw [List.drop_eq_getElem_cons hjl, List.cons_append] at e
  have ez : z = l[j] := (List.cons.inj e).1
  have et : t = l.drop (j + 1) ++ l.take j := (List.cons.inj e).2
  dsimp only
  rw [hj]
  refine ⟨_, rfl, a, C, dx, _, _, rfl, r.ha, T.cl, T.nL, rF_left _ _ _, _, rfl, lo, _, _, .str z, rfl, rfl, sq_of r.hl, atI_nat (by rw [List.getElem?_map, List.getElem?_eq_getElem hjl, ez]; rfl), ?_⟩
  refine ⟨_, rfl, a, C, dx, _, _, rfl, r.ha, T.cl, T.nL, rF_left _ _ _, _, rfl, _, _, rfl, rfl, _, rfl, lo, _, rfl, sq_of r.hl, fun p np => ?_⟩
  have e1 := Evl.Ex.new (o := .lst (cutV (l.map V.str) (some ((j : Int) + 1)) none)) np
  refine ⟨_, rfl, a, C, dx, _, _, rfl, e1 _ _ r.ha, T.cl, T.nL, rF_left _ _ _, _, rfl, _, rfl, lo, _, rfl, sq_of (e1 _ _ r.hl), fun p2 np2 => ?_⟩
  have e2 := Evl.Ex.new (o := .lst (cutV (l.map V.str) none (some (j : Int)))) np2
  refine ⟨p, p2, _, _, rfl, rfl, e2 _ _ upd_same, upd_same, ?_, fun p3 np3 => ?_⟩
  · refine sz_of ?_
    have c1 := cutV_length (l.map V.str) (some ((j : Int) + 1)) none
    have c2 := cutV_length (l.map V.str) none (some (j : Int))
    rw [List.length_map] at c1 c2
    omega
  have e3 := Evl.Ex.new (o := .lst (cutV (l.map V.str) (some ((j : Int) + 1)) none ++ cutV (l.map V.str) none (some (j : Int)))) np3
  have e123 := e1.trans (e2.trans e3)
  have hp3 : _ = some (HO.lst (cutV (l.map V.str) (some ((j : Int) + 1)) none ++ cutV (l.map V.str) none (some (j : Int)))) := upd_same (H := upd (upd H p (.lst (cutV (l.map V.str) (some ((j : Int) + 1)) none))) p2 (.lst (cutV (l.map V.str) none (some (j : Int))))) (a := p3)
  have n3 : H p3 = none := fresh_back e1 (fresh_back e2 np3)
  generalize upd (upd (upd H p (.lst (cutV (l.map V.str) (some ((j : Int) + 1)) none))) p2 (.lst (cutV (l.map V.str) none (some (j : Int))))) p3 (.lst (cutV (l.map V.str) (some ((j : Int) + 1)) none ++ cutV (l.map V.str) none (some (j : Int)))) = H3 at e123 hp3
  have hcut : cutV (l.map V.str) (some ((j : Int) + 1)) none ++ cutV (l.map V.str) none (some (j : Int)) = t.map V.str := by
    have q1 := cut_from (xs := l.map V.str) (k := j + 1) (by rw [List.length_map]; omega)
    have q2 := cut_to (xs := l.map V.str) (k := j) (by rw [List.length_map]; omega)
    rw [show (((j + 1 : Nat)) : Int) = (j : Int) + 1 from rfl] at q1
    rw [q1, q2, et, List.map_append, List.map_drop, List.map_take]
  rw [hcut] at hp3
  have ha3 := e123 _ _ r.ha
  have hd3 := e123 _ _ r.hd
  have hg3 := e123 _ _ r.hg
  have nag : go ≠ a := fun z => by rw [z, ha3] at hg3; cases hg3
  have nda : dx ≠ a := fun z => by rw [z, ha3] at hd3; cases hd3
  have ndg : dx ≠ go := fun z => by rw [z, hg3] at hd3; cases hd3
  have n3a : p3 ≠ a := fun z => by rw [z, r.ha] at n3; cases n3
  have n3g : p3 ≠ go := fun z => by rw [z, r.hg] at n3; cases n3
  refine ⟨_, rfl, a, C, dx, _, rfl, ha3, T.cl, T.nL, (by show 3 < 1000; decide), ?_⟩
  rw [rF_put]
  have hg4 : upd H3 a (.ins C dx (rF p3 go d)) go = some (.lst (g.map V.str)) := by rw [upd_ne nag]; exact hg3
  refine ⟨_, rfl, a, C, dx, _, _, rfl, upd_same, T.cl, T.nG, rF_gone _ _ _, ty_l hg4, _, rfl, go, _, _, rfl, rfl, hg4, ?_, ?_⟩
  · refine sz_lt ?_
    rw [List.length_map]; omega
  refine ⟨_, rfl, q (rC a dx p3 go) _ ⟨dx, p3, go, ?_, ?_, ?_, ?_, n3g, rfl, hd, ?_, ?_⟩ ⟨fun b o hb nb => ?_, fun b hb => ?_⟩⟩
  · rw [upd_ne nag.symm, upd_same]
  · rw [upd_ne ndg, upd_ne nda]; exact hd3
  · rw [upd_ne n3g, upd_ne n3a]; exact hp3
  · rw [upd_same, List.map_append]; rfl
  · rw [List.length_append, List.length_singleton]; omega
  · have pm := Jos.rotN_perm (d - 1) l
    rw [hz] at pm
    exact (List.nodup_cons.mp (pm.nodup_iff.mpr r.nd)).2
  · have nF : ¬ rC a dx lo go b := by rw [← r.eF]; exact nb
    rw [upd_ne fun z => nF (.inr (.inr (.inr z))), upd_ne fun z => nF (.inl z)]
    exact e123 _ _ hb
  · rw [r.eF]
    rcases hb with rfl | rfl | rfl | rfl
    · exact .inl (.inl rfl)
    · exact .inl (.inr (.inl rfl))
    · exact .inr n3
    · exact .inl (.inr (.inr (.inr rfl)))
theorem goon_go {R : Rep K} {a : Addr} {F : Addr → Prop} {l g t : List Str} {d : Nat} {z : Str} (hr : R.at_ H a F l g d) (hz : Jos.rotN (d - 1) l = z :: t) (q : ∀ F' H', R.at_ H' a F' t (g ++ [z]) d → Chg H F H' F' → Q (.str z) H') : sGoOn R [.ref a] H Q E := by
  unfold sGoOn
  exact ⟨a, F, l, g, d, z, t, rfl, hr, hz, q⟩
def t_count (K : PySem.W.Frag) (C CH : Addr) (E : XK) : TS :=
(tSeq (tIfS (tNot (tTru K (tFld K (tVar 0) "_left")))
  (tRaise CH E)
  tNext)
  (tRet (tMeth C "_go_on" (sGoOn (RR K C)) [] E0 (tVar 0) tNil)))
theorem pure_count (T : RF K C) {CH : Addr} (h : sCountM (RR K C) CH vs H Q E) : t_count K C CH E { nx := fun _ H' => Q .non H', rt := Q } (start ["self"] vs) H := by
  unfold sCountM at h
  obtain ⟨a, F, l, g, d, rfl, ⟨dx, lo, go, r⟩, q0, q⟩ := h
  refine ⟨_, rfl, a, C, dx, _, _, rfl, r.ha, T.cl, T.nL, rF_left _ _ _, !(l.map V.str).isEmpty, .inl ⟨_, sq_of r.hl, rfl⟩, iteC (fun c => ?_) (fun c => ?_)⟩
  · refine q0 ?_ H (Evl.Ex.refl H)
    cases l with
    | nil => rfl
    | cons x t => cases c
  · obtain ⟨z, t, hz⟩ : ∃ z t, Jos.rotN (d - 1) l = z :: t := by
      have e := Jos.rotN_len (d - 1) l
      cases q : Jos.rotN (d - 1) l with
      | nil =>
        rw [q] at e
        have : l = [] := List.eq_nil_of_length_eq_zero (by simpa using e.symm)
        subst this
        cases c
      | cons z t => exact ⟨z, t, rfl⟩
    refine ⟨_, rfl, a, dx, _, rfl, r.ha, rF_no _ _ _ (by decide +kernel) (by decide +kernel) (by decide +kernel), ?_⟩
    exact goon_go ⟨dx, lo, go, r⟩ hz (q z t hz)
def t_counts (K : PySem.W.Frag) (C CC : Addr) (E : XK) : TS :=
(tSeq (tDrop (tCall (sCkC K CC) [] E (tCons (tVar 1) (tCons (tC (.int 0)) (tCons (tCB (rLenL K) (tCons (tFld K (tVar 0) "_left") tNil)) tNil)))))
  (tRet (tLc (iRng1 (tCons (tVar 1) tNil)) (gName 2) tYes (tMeth C "_go_on" (sGoOn (RR K C)) [] E0 (tVar 0) tNil) [2])))
theorem pure_counts (T : RF K C) {CC : Addr} (h : sCountsM (RR K C) CC vs H Q E) : t_counts K C CC E { nx := fun _ H' => Q .non H', rt := Q } (start ["self", "many", "_"] vs) H := by
  unfold sCountsM at h
  obtain ⟨a, m, F, l, g, d, rfl, hr0, tm, q0, q⟩ := h
  obtain ⟨dx, lo, go, r⟩ := id hr0
  have hf := r.few
  refine ⟨_, rfl, _, rfl, a, C, dx, _, _, rfl, r.ha, T.cl, T.nL, rF_left _ _ _, lo, _, rfl, .inl (sq_of r.hl), ?_⟩
  rw [List.length_map]
  refine ⟨m, 0, _, rfl, tm, fun w => ?_, fun w => q0 w H (Evl.Ex.refl H)⟩
  obtain ⟨k', rfl, k1, k2⟩ := wh_int w
  obtain ⟨k, rfl⟩ : ∃ k : Nat, k' = (k : Int) := ⟨k'.toNat, by omega⟩
  have q := q k rfl (by omega)
  refine ⟨_, rfl, _, rfl, by omega, by omega, fun D nD => ?_⟩
  have eD := Evl.Ex.new (o := .lst []) nD
  have nFD : ¬ F D := Rep.free (R := RR K C) hr0 nD
  refine lc_range (lo := 0) (n := k) (fun i H' => ∃ F', (RR K C).at_ H' a F' (Jos.aft (d - 1) i l) (g ++ (Jos.out (d - 1) l.length l).take i) d ∧ Chg H F H' F' ∧ ¬ F' D ∧ H' D = some (.lst (((Jos.out (d - 1) l.length l).take i).map V.str)))
    ⟨F, ?_, Chg.ex eD, nFD, upd_same⟩ (fun i H' hi p => ?_) (fun H' p => ?_)
  · rw [List.take_zero, List.append_nil]
    exact Rep.ex (R := RR K C) hr0 eD
  · obtain ⟨F', p1, p2, p3, p4⟩ := p
    refine ⟨rfl, ?_⟩
    unfold tYes
    dsimp only
    rw [if_pos rfl]
    obtain ⟨z, t, hz, hz2, hz3⟩ := Jos.out_head (d - 1) i l (by omega)
    obtain ⟨dx', fs, ins1, ins2⟩ : ∃ dx fs, H' a = some (.ins C dx fs) ∧ fs.lookup ("_go_on" : Str) = none := by
      obtain ⟨dx, lo, go, r⟩ := id p1
      exact ⟨dx, _, r.ha, rF_no _ _ _ (by decide +kernel) (by decide +kernel) (by decide +kernel)⟩
    refine ⟨_, rfl, a, dx', fs, rfl, ins1, ins2, ?_⟩
    refine goon_go (R := RR K C) p1 hz fun F2 H2 r2 c2 => ?_
    have nF2 : ¬ F2 D := c2.off p3 (by rw [p4]; exact fun z => by cases z)
    refine ⟨_, c2.keep _ _ p4 p3, ?_, F2, ?_, ?_, nF2, ?_⟩
    · refine sz_lt ?_
      rw [List.length_map, List.length_take]; omega
    · refine Rep.mut (R := RR K C) ?_ nF2
      have e1 : List.take (i + 1) (Jos.out (d - 1) l.length l) = List.take i (Jos.out (d - 1) l.length l) ++ [z] := by
        rw [List.take_add_one, hz2]; rfl
      rw [hz3, e1, ← List.append_assoc]
      exact r2
    · have c3 := p2.trans c2
      exact ⟨fun b o hb nb => by
        rw [upd_ne fun z => by rw [z, nD] at hb; cases hb]
        exact c3.keep b o hb nb, c3.own⟩
    · rw [upd_same, List.take_add_one, hz2, List.map_append]; rfl
  · obtain ⟨F', p1, p2, p3, p4⟩ := p
    exact q D F' H' nD p3 p1 p2 p4
/-! when each goes, who stays -/
theorem in_str {z : Str} {g : List Str} : inV (.str z) (g.map V.str) = decide (z ∈ g) := by
  unfold inV
  rw [List.any_map]
  by_cases h : z ∈ g
  · rw [decide_eq_true h, List.any_eq_true]
    exact ⟨z, h, by show (z == z) = true; simp⟩
  · rw [decide_eq_false h, List.any_eq_false]
    intro x hx e
    have : x = z := by
      have e2 : (x == z) = true := e
      simpa using e2
    rw [this] at hx
    exact h hx
theorem flat_str (g : List Str) : (g.map V.str).all flatV = true := by
  rw [List.all_eq_true]
  intro x hx
  obtain ⟨y, _, rfl⟩ := List.mem_map.mp hx
  rfl
theorem row_go {R : Rep K} {a : Addr} {F : Addr → Prop} {l g : List Str} {d : Nat} (hr : R.at_ H a F l g d) (q : ∀ o H', H o = none → Ex H H' → H' o = some (.lst ((Jos.out (d - 1) l.length l).map V.str)) → Q (.ref o) H') : sRowM R [.ref a] H Q E := by
  unfold sRowM
  exact ⟨a, F, l, g, d, rfl, hr, q⟩
def t_due (K : PySem.W.Frag) (C CH : Addr) (E : XK) : TS :=
(tSeq (tIfS (tTest (tOp (rIn K true) (tVar 1) (tFld K (tVar 0) "_left")))
  (tRaise CH E)
  tNext)
  (tRet (tOp oAdd (tBM K "list" (rIndex K) (tMeth C "_row" (sRowM (RR K C)) [] E0 (tVar 0) tNil) (tCons (tVar 1) tNil)) (tC (.int 1)))))
theorem pure_due (T : RF K C) {CH : Addr} (h : sDueM (RR K C) CH vs H Q E) : t_due K C CH E { nx := fun _ H' => Q .non H', rt := Q } (start ["self", "hand"] vs) H := by
  unfold sDueM at h
  obtain ⟨a, z, F, l, g, d, rfl, ok, hr0, q0, q⟩ := h
  obtain ⟨dx, lo, go, r⟩ := id hr0
  have hf := r.few
  refine ⟨_, rfl, _, rfl, a, C, dx, _, _, rfl, r.ha, T.cl, T.nL, rF_left _ _ _, lo, _, rfl, .inl (sq_of r.hl), rfl, flat_str l, ?_⟩
  rw [in_str]
  by_cases hm : z ∈ l
  · rw [decide_eq_true hm]
    refine ⟨_, rfl, iteF ?_⟩
    refine ⟨_, rfl, a, dx, _, rfl, r.ha, rF_no _ _ _ (by decide +kernel) (by decide +kernel) (by decide +kernel), ?_⟩
    refine row_go (R := RR K C) hr0 fun o H1 no e1 ho => ?_
    have pm := Jos.out_perm (d - 1) l.length l rfl
    have nd : (Jos.out (d - 1) l.length l).Nodup := pm.nodup_iff.mpr r.nd
    obtain ⟨c, hc, ec⟩ := List.mem_iff_getElem.mp (pm.mem_iff.mpr hm)
    have ec' : (Jos.out (d - 1) l.length l)[c]? = some z := by rw [List.getElem?_eq_getElem hc, ec]
    refine ⟨ty_l ho, _, rfl, o, _, _, c, .str z, rfl, rfl, sq_of ho, rfl, flat_str _, by rw [List.getElem?_map, ec']; rfl, ?_, fun m z' hmc hz' => ?_, _, _, rfl, rfl, ?_⟩
    · show (z == z) = true
      simp
    · rw [List.getElem?_map] at hz'
      have hml : m < (Jos.out (d - 1) l.length l).length := by omega
      rw [List.getElem?_eq_getElem hml] at hz'
      have hz2 := Option.some.inj hz'
      subst hz2
      show (((Jos.out (d - 1) l.length l)[m] : Str) == z) = false
      rw [beq_eq_false_iff_ne]
      intro e
      rw [← ec] at e
      have := (List.getElem_inj nd).mp e
      omega
    · exact q c ec' H1 e1
  · rw [decide_eq_false hm]
    exact ⟨_, rfl, iteT (q0 hm H (Evl.Ex.refl H))⟩
def t_last (K : PySem.W.Frag) (C CH : Addr) (E : XK) : TS :=
(tSeq (tIfS (tNot (tTru K (tFld K (tVar 0) "_left")))
  (tRaise CH E)
  tNext)
  (tRet (tOp (rIxL K) (tMeth C "_row" (sRowM (RR K C)) [] E0 (tVar 0) tNil) (tUn oNeg (tC (.int 1))))))
theorem pure_last (T : RF K C) {CH : Addr} (h : sLastM (RR K C) CH vs H Q E) : t_last K C CH E { nx := fun _ H' => Q .non H', rt := Q } (start ["self"] vs) H := by
  unfold sLastM at h
  obtain ⟨a, F, l, g, d, rfl, hr0, q0, q⟩ := h
  obtain ⟨dx, lo, go, r⟩ := id hr0
  refine ⟨_, rfl, a, C, dx, _, _, rfl, r.ha, T.cl, T.nL, rF_left _ _ _, !(l.map V.str).isEmpty, .inl ⟨_, sq_of r.hl, rfl⟩, iteC (fun c => ?_) (fun c => ?_)⟩
  · refine q0 ?_ H (Evl.Ex.refl H)
    cases l with
    | nil => rfl
    | cons x t => cases c
  · have hpos : 0 < l.length := by
      cases l with
      | nil => cases c
      | cons x t => simp
    refine ⟨_, rfl, a, dx, _, rfl, r.ha, rF_no _ _ _ (by decide +kernel) (by decide +kernel) (by decide +kernel), ?_⟩
    refine row_go (R := RR K C) hr0 fun o H1 no e1 ho => ?_
    have hlen := Jos.out_len (d - 1) l.length l rfl
    obtain ⟨z, hz⟩ : ∃ z, (Jos.out (d - 1) l.length l)[l.length - 1]? = some z := ⟨_, List.getElem?_eq_getElem (by omega)⟩
    refine ⟨_, rfl, o, _, -1, _, rfl, rfl, sq_of ho, last_at (n := l.length) (x := V.str z) (by rw [List.getElem?_map, hz]; rfl) (by rw [List.length_map, hlen]) hpos, q z hz H1 e1⟩
end
end Cd

set_option Elab.async false
set_option linter.all false
set_option maxRecDepth 100000
set_option maxHeartbeats 4000000
namespace Cd
open PySem PySem.Spec PyProof.Rows L2 Tx Kp Mx
open Evl (Ex sq_of ex_l sz_of sz_lt fresh_back)
variable {K : PySem.W.Frag}
theorem met_any (xs : List Str) : ∀ (j i : Nat) (x : Str), i < j → xs[i]? = some x → (met xs j).any (· == x) = true
  | 0, i, x, h, _ => by omega
  | j + 1, i, x, h, hx => by
    cases e : xs[j]? with
    | none =>
      have h1 := (List.getElem?_eq_some_iff.mp hx).1
      have h2 := List.getElem?_eq_none_iff.mp e
      have e2 : met xs (j + 1) = met xs j := by
        unfold met
        rw [List.take_add_one, e]; simp
      rw [e2]
      exact met_any xs j i x (by omega) hx
    | some y =>
      rw [met_next e, add1_any, Bool.or_eq_true]
      by_cases c : i = j
      · subst c
        rw [e] at hx
        exact .inr (decide_eq_true (Option.some.inj hx).symm)
      · exact .inl (met_any xs j i x (by omega) hx)
theorem met_full {xs : List Str} (h : (met xs xs.length).length = xs.length) : xs.Nodup := by
  have all : ∀ k i, i + k = xs.length → (met xs i).length = i := by
    intro k
    induction k with
    | zero => intro i hi; rw [show i = xs.length by omega]; exact h
    | succ k ih =>
      intro i hi
      have h1 := ih (i + 1) (by omega)
      rw [met_next (List.getElem?_eq_getElem (show i < xs.length by omega)), add1_len] at h1
      have h2 := met_le xs i
      split at h1 <;> omega
  refine List.pairwise_iff_getElem.mpr fun i j hi hj hij e => ?_
  have hx : xs[i]? = some xs[j] := by rw [List.getElem?_eq_getElem hi, e]
  have h1 := all (xs.length - (j + 1)) (j + 1) (by omega)
  have h2 := all (xs.length - j) j (by omega)
  rw [met_next (List.getElem?_eq_getElem hj), add1_len, if_pos (met_any xs j i _ hij hx)] at h1
  omega
theorem ringB_true {xs : List V} (h : ringB xs = true) : ∃ zs : List Str, xs = zs.map V.str ∧ 1 ≤ zs.length ∧ zs.length ≤ 200 ∧ zs.Nodup := by
  unfold ringB at h
  rw [Bool.and_eq_true, Bool.and_eq_true, Bool.and_eq_true, decide_eq_true_eq, decide_eq_true_eq, decide_eq_true_eq] at h
  obtain ⟨⟨⟨h1, h2⟩, h3⟩, h4⟩ := h
  refine ⟨xs.map txt, texts_of h3, by rw [List.length_map]; exact h1, by rw [List.length_map]; exact h2, met_full ?_⟩
  rw [List.length_map]; exact h4
def t_init (K : PySem.W.Frag) (CR CS CP : Addr) (E : XK) : TS :=
(tSeq (tDrop (tCall (sLaid K CR CS CP) [] E (tCons (tVar 1) (tCons (tVar 2) (tCons (tVar 3) tNil)))))
  (tSeq (sFld K (tVar 0) (tOp rCat (tSl (rSlL K) (tVar 1) (tPart (tVar 3)) tNoPart) (tSl (rSlL K) (tVar 1) tNoPart (tPart (tVar 3)))) "_left")
  (tSeq (sFld K (tVar 0) (tLst tNil) "_gone")
  (sFld K (tVar 0) (tVar 2) "_step"))))
theorem put_one (v : V) : putF "_left" v [] = [(("_left" : Str), v)] := rfl
theorem put_two (v w : V) : putF "_gone" w [(("_left" : Str), v)] = [(("_left" : Str), v), (("_gone" : Str), w)] := by
  show (if ("_left" : Str) = "_gone" then (_ : List (Str × V)) else _) = _
  rw [if_neg (by decide +kernel)]
  rfl
theorem put_three (u v w : V) : putF "_step" u [(("_left" : Str), v), (("_gone" : Str), w)] = [(("_left" : Str), v), (("_gone" : Str), w), (("_step" : Str), u)] := by
  show (if ("_left" : Str) = "_step" then (_ : List (Str × V)) else (("_left" : Str), v) :: (if ("_gone" : Str) = "_step" then (_ : List (Str × V)) else _)) = _
  rw [if_neg (by decide +kernel), if_neg (by decide +kernel)]
  rfl
section
variable {C : Addr} {vs : List V} {H : Hp} {Q : VK} {E : XK}
theorem pure_init (T : RF K C) {CR CS CP : Addr} (h : sInit (RR K C) CR CS CP vs H Q E) : t_init K CR CS CP E { nx := fun _ H' => Q .non H', rt := Q } (start ["self", "hands", "step", "begin"] vs) H := by
  unfold sInit at h
  obtain ⟨x, h, d, b, H0, rfl, ⟨dx, nx, ndx, ne, rfl⟩, rb, hr, td, tb, hok, q0, q⟩ := h
  have e1 : Ex H0 (upd H0 dx (.own x)) := Evl.Ex.new ndx
  have e2 : Ex (upd H0 dx (.own x)) (upd (upd H0 dx (.own x)) x (.ins (RR K C).C dx [])) := Evl.Ex.new (by rw [upd_ne (Ne.symm ne)]; exact nx)
  have e0 := e1.trans e2
  have hx0 : _ = some (HO.ins C dx []) := upd_same (H := upd H0 dx (.own x)) (a := x)
  have hdx0 : upd (upd H0 dx (.own x)) x (.ins C dx []) dx = some (.own x) := by rw [upd_ne ne, upd_same]
  generalize upd (upd H0 dx (.own x)) x (.ins (RR K C).C dx []) = H at hr td tb hok q hx0 hdx0 e0 e2
  refine ⟨_, rfl, _, rfl, _, rfl, ?_⟩
  show sLaid K CR CS CP [h, d, b] H _ E
  unfold sLaid
  refine ⟨h, d, b, rfl, rb, hr, td, tb, fun c H' e => q0 c H' (e0.trans e), fun c => ⟨fun w H' e => (q c).1 w H' (e0.trans e), fun s' es s1 s2 l xs el hl hz => ?_⟩⟩
  obtain ⟨s, rfl⟩ : ∃ s : Nat, s' = (s : Int) := ⟨s'.toNat, by omega⟩
  have er : ringB xs = true := by
    subst el
    cases hr with
    | no t m => cases c
    | lst h' _ _ =>
      rw [hl] at h'
      cases h'
      exact c
  obtain ⟨zs, rfl, z1, z2, zn⟩ := ringB_true er
  have q2 := (q c).2 s es (by omega) s2 l zs el hl
  rw [List.length_map]
  refine ⟨fun w H' e => q2.1 w H' (e0.trans e), fun g eg hg H1 eH1 => ?_⟩
  have q3 := q2.2 g eg hg
  clear q2 q q0
  subst es el eg
  have hl1 := eH1 _ _ hl
  have hx1 := eH1 _ _ hx0
  have hdx1 := eH1 _ _ hdx0
  have e01 := e0.trans eH1
  refine ⟨_, rfl, _, rfl, _, rfl, l, _, rfl, sq_of hl1, fun p np => ?_⟩
  have f1 := Evl.Ex.new (o := .lst (cutV (zs.map V.str) (some (g : Int)) none)) np
  refine ⟨_, rfl, _, rfl, _, rfl, l, _, rfl, sq_of (f1 _ _ hl1), fun p2 np2 => ?_⟩
  have f2 := Evl.Ex.new (o := .lst (cutV (zs.map V.str) none (some (g : Int)))) np2
  refine ⟨p, p2, _, _, rfl, rfl, f2 _ _ upd_same, upd_same, ?_, fun p3 np3 => ?_⟩
  · refine sz_of ?_
    have c1 := cutV_length (zs.map V.str) (some (g : Int)) none
    have c2 := cutV_length (zs.map V.str) none (some (g : Int))
    rw [List.length_map] at c1 c2
    omega
  have hcut : cutV (zs.map V.str) (some (g : Int)) none ++ cutV (zs.map V.str) none (some (g : Int)) = (Jos.rot zs g).map V.str := by
    rw [cut_from (xs := zs.map V.str) (k := g) (by rw [List.length_map]; omega), cut_to (xs := zs.map V.str) (k := g) (by rw [List.length_map]; omega)]
    unfold Jos.rot
    rw [List.map_append, List.map_drop, List.map_take]
  rw [hcut]
  have f3 := Evl.Ex.new (o := .lst ((Jos.rot zs g).map V.str)) np3
  have n3 : H0 p3 = none := fresh_back e01 (fresh_back f1 (fresh_back f2 np3))
  have hp3 : _ = some (HO.lst ((Jos.rot zs g).map V.str)) := upd_same (H := upd (upd H1 p (.lst (cutV (zs.map V.str) (some (g : Int)) none))) p2 (.lst (cutV (zs.map V.str) none (some (g : Int))))) (a := p3)
  have f123 := f1.trans (f2.trans f3)
  have hx3 := f123 _ _ hx1
  have hdx3 := f123 _ _ hdx1
  have e03 := e01.trans f123
  generalize upd (upd (upd H1 p (.lst (cutV (zs.map V.str) (some (g : Int)) none))) p2 (.lst (cutV (zs.map V.str) none (some (g : Int))))) p3 (.lst ((Jos.rot zs g).map V.str)) = H3 at hp3 hx3 hdx3 e03
  have n3x : p3 ≠ x := fun z => by rw [z, hx3] at hp3; cases hp3
  have ndp : dx ≠ p3 := fun z => by rw [z, hp3] at hdx3; cases hdx3
  refine ⟨_, rfl, x, C, dx, _, rfl, hx3, T.cl, T.nL, (by show 0 < 1000; decide), ?_⟩
  rw [put_one]
  refine ⟨Nat.zero_le _, fun go ng => ?_⟩
  have ngx : go ≠ x := fun z => by rw [z, upd_same] at ng; cases ng
  have ng3 : H3 go = none := by rw [upd_ne ngx] at ng; exact ng
  have ngp : p3 ≠ go := fun z => by rw [← z, hp3] at ng3; cases ng3
  have ngd : dx ≠ go := fun z => by rw [← z, hdx3] at ng3; cases ng3
  refine ⟨_, rfl, x, C, dx, _, rfl, by rw [upd_ne (Ne.symm ngx), upd_same], T.cl, T.nG, (by show 1 < 1000; decide), ?_⟩
  rw [put_two]
  refine ⟨_, rfl, _, rfl, x, C, dx, _, rfl, upd_same, T.cl, T.nS, (by show 2 < 1000; decide), ?_⟩
  rw [put_three]
  refine q3 (rC x dx p3 go) _ ⟨dx, p3, go, upd_same, ?_, ?_, ?_, ngp, rfl, by omega, ?_, ?_⟩ (fun c hc => ?_) (fun c o hc => ?_)
  · rw [upd_ne ne, upd_ne ne, upd_ne ngd, upd_ne ne]; exact hdx3
  · rw [upd_ne n3x, upd_ne n3x, upd_ne ngp, upd_ne n3x]; exact hp3
  · rw [upd_ne ngx, upd_ne ngx, upd_same]; rfl
  · rw [Jos.rot_len]; show zs.length + 0 ≤ 400; omega
  · exact (Jos.rot_perm zs g).nodup_iff.mpr zn
  · rcases hc with rfl | rfl | rfl | rfl
    · exact nx
    · exact ndx
    · exact n3
    · exact fresh_back e03 ng3
  · have cx : c ≠ x := fun z => by rw [z, nx] at hc; cases hc
    have cg : c ≠ go := fun z => by rw [z, fresh_back e03 ng3] at hc; cases hc
    rw [upd_ne cx, upd_ne cx, upd_ne cg, upd_ne cx]
    exact e03 _ _ hc
def t_come (K : PySem.W.Frag) (S : Cs) (E : XK) : TS :=
(tSeq (tIfS (tNot (tB (tCB (rIsi K) (tCons (tVar 1) (tCons (tC (.ty "str")) tNil)))))
  (tRaise S.hand E)
  tNext)
  (tSeq (tIfS (tOr (tTest (tOp (rIn K false) (tVar 1) (tFld K (tVar 0) "_left"))) (tTest (tOp (rIn K false) (tVar 1) (tFld K (tVar 0) "_gone"))))
  (tRaise S.twice E)
  tNext)
  (tSeq (tAsg (tCB (rLenL K) (tCons (tFld K (tVar 0) "_left") tNil)) (gName 3))
  (tSeq (tIfS (tTest (tOp oNotN (tVar 2) (tC .non)))
  (tSeq (tDrop (tCall (sCkP K S.place) [] E (tCons (tVar 2) (tCons (tOp oAdd (tCB (rLenL K) (tCons (tFld K (tVar 0) "_left") tNil)) (tC (.int 1))) tNil))))
  (tAsg (tVar 2) (gName 3)))
  tNext)
  (tSeq (tIfS (tTest (tOp oGe (tOp oAdd (tCB (rLenL K) (tCons (tFld K (tVar 0) "_left") tNil)) (tCB (rLenL K) (tCons (tFld K (tVar 0) "_gone") tNil))) (tC (.int (400)))))
  (tRaise S.much E)
  tNext)
  (tDrop (tBM K "list" rInsert (tFld K (tVar 0) "_left") (tCons (tVar 3) (tCons (tVar 1) tNil)))))))))
theorem ins_at {α : Type} (z : α) : ∀ (i : Nat) (l : List α), i ≤ l.length → l.take i ++ [z] ++ l.drop i = l.insertIdx i z
  | 0, l, _ => by simp
  | i + 1, [], h => by simp at h
  | i + 1, x :: l, h => by
    have ih := ins_at z i l (by simpa using h)
    rw [List.insertIdx_succ_cons, ← ih]; simp
theorem nodup_ins {α : Type} (z : α) : ∀ (i : Nat) (l : List α), i ≤ l.length → z ∉ l → l.Nodup → (l.insertIdx i z).Nodup
  | i, l, h, hz, hn => by
    have p : (l.insertIdx i z).Perm (z :: l) := by
      rw [← ins_at z i l h, List.append_assoc]
      refine List.perm_append_comm_assoc _ _ _ |>.trans ?_
      rw [List.take_append_drop]; exact List.Perm.refl _
    exact p.nodup_iff.mpr (List.nodup_cons.mpr ⟨hz, hn⟩)
theorem typ_str {x : V} {t : Value} (ht : TyX K H x t) (e : t = .type "str") : isS x = true := by
  cases ht with
  | base b => cases b <;> first | rfl | (cases e; done) | (exact absurd (Value.type.inj e) (by decide +kernel))
  | _ => first | (cases e; done) | (exact absurd (Value.type.inj e) (by decide +kernel))
theorem pure_come (T : RF K C) {S : Cs} (h : sComeM (RR K C) S vs H Q E) : t_come K S E { nx := fun _ H' => Q .non H', rt := Q } (start ["self", "hand", "place", "at"] vs) H := by
  unfold sComeM at h
  obtain ⟨a, h, p, F, l, g, d, rfl, hr0, th, tp, q0, q⟩ := h
  obtain ⟨dx, lo, go, r⟩ := id hr0
  have hf := r.few
  obtain ⟨T0, t0, m0, _⟩ := id th
  cases hs : isS h with
  | false =>
    have ns : T0 ≠ "str" := fun z => by
      have := typ_str t0 (by rw [z])
      rw [this] at hs
      cases hs
    refine ⟨_, rfl, _, _, _, _, false, rfl, .ty "str", t0, kit_ty ?_, false, rfl, iteT (q0 hs H (Evl.Ex.refl H))⟩
    simp only [List.mem_cons, List.not_mem_nil, or_false] at m0
    rcases m0 with rfl | rfl | rfl | rfl | rfl | rfl | rfl <;> first | exact absurd rfl ns | decide +kernel
  | true =>
    obtain ⟨z, rfl⟩ : ∃ z, h = .str z := by
      cases h <;> first | (simp [isS] at hs; done) | exact ⟨_, rfl⟩
    obtain ⟨ok, q1, q⟩ := q z rfl
    refine ⟨_, rfl, _, _, _, _, true, rfl, .ty "str", .base (.str z), kit_ty (by decide +kernel), true, rfl, iteF ?_⟩
    refine ⟨_, rfl, _, rfl, a, C, dx, _, _, rfl, r.ha, T.cl, T.nL, rF_left _ _ _, lo, _, rfl, .inl (sq_of r.hl), rfl, flat_str l, ?_⟩
    rw [if_neg (by decide), in_str]
    refine ⟨_, rfl, iteC (fun c => ?_) (fun c => ?_)⟩
    · exact iteT (q1 (List.mem_append_left _ (of_decide_eq_true c)) H (Evl.Ex.refl H))
    refine ⟨_, rfl, _, rfl, a, C, dx, _, _, rfl, r.ha, T.cl, T.nG, rF_gone _ _ _, go, _, rfl, .inl (sq_of r.hg), rfl, flat_str g, ?_⟩
    rw [if_neg (by decide), in_str]
    refine ⟨_, rfl, iteC (fun c2 => ?_) (fun c2 => ?_)⟩
    · exact q1 (List.mem_append_right _ (of_decide_eq_true c2)) H (Evl.Ex.refl H)
    have new : z ∉ l ++ g := by
      rw [List.mem_append]
      exact fun e => e.elim (of_decide_eq_false (by simpa using c)) (of_decide_eq_false (by simpa using c2))
    obtain ⟨q2, q⟩ := q new
    -- the place
    have fin : ∀ i : Nat, comeAt l p = some i → i ≤ l.length → (tSeq (tIfS (tTest (tOp oGe (tOp oAdd (tCB (rLenL K) (tCons (tFld K (tVar 0) "_left") tNil)) (tCB (rLenL K) (tCons (tFld K (tVar 0) "_gone") tNil))) (tC (.int (400)))))
        (tRaise S.much E)
        tNext)
        (tDrop (tBM K "list" rInsert (tFld K (tVar 0) "_left") (tCons (tVar 3) (tCons (tVar 1) tNil))))) { nx := fun _ H' => Q .non H', rt := Q } [some (.ref a), some (.str z), some p, some (.int (i : Int))] H := by
      intro i hi hil
      obtain ⟨q3, q4⟩ := q i hi
      refine ⟨_, rfl, a, C, dx, _, _, rfl, r.ha, T.cl, T.nL, rF_left _ _ _, lo, _, rfl, .inl (sq_of r.hl), _, rfl, a, C, dx, _, _, rfl, r.ha, T.cl, T.nG, rF_gone _ _ _, go, _, rfl, .inl (sq_of r.hg), _, _, rfl, rfl, _, _, rfl, rfl, _, rfl, ?_⟩
      rw [List.length_map, List.length_map]
      refine iteC (fun c => ?_) (fun c => ?_)
      · have := of_decide_eq_true c
        exact q3 (by omega) H (Evl.Ex.refl H)
      · have c5 := of_decide_eq_false c
        have few : l.length + g.length < 400 := by omega
        refine ⟨_, rfl, a, C, dx, _, _, rfl, r.ha, T.cl, T.nL, rF_left _ _ _, ty_l r.hl, _, rfl, _, rfl, lo, _, (i : Int), _, rfl, rfl, r.hl, ?_, by omega, by omega, ?_⟩
        · refine sz_lt ?_
          rw [List.length_map]; omega
        rw [Int.toNat_natCast]
        have nla : lo ≠ a := fun z => by have := r.hl; rw [z, r.ha] at this; cases this
        have nld : dx ≠ lo := fun z => by have := r.hd; rw [z, r.hl] at this; cases this
        refine q4 few F _ ⟨dx, lo, go, ?_, ?_, ?_, ?_, r.ne, r.eF, r.d1, ?_, ?_⟩ ⟨fun b o hb nb => ?_, fun b hb => .inl hb⟩
        · rw [upd_ne (Ne.symm nla)]; exact r.ha
        · rw [upd_ne nld]; exact r.hd
        · rw [upd_same]
          congr 2
          rw [← ins_at z i l hil, List.map_append, List.map_append, List.map_take, List.map_drop]; rfl
        · rw [upd_ne (Ne.symm r.ne)]; exact r.hg
        · rw [List.length_insertIdx_of_le_length hil]; omega
        · exact nodup_ins z i l hil (fun e => new (List.mem_append_left _ e)) r.nd
        · rw [upd_ne fun z => nb (by rw [r.eF]; exact .inr (.inr (.inl z)))]; exact hb
    refine ⟨_, rfl, a, C, dx, _, _, rfl, r.ha, T.cl, T.nL, rF_left _ _ _, lo, _, rfl, .inl (sq_of r.hl), ?_⟩
    rw [List.length_map]
    by_cases en : p = .non
    · subst en
      refine ⟨_, rfl, rfl, _, rfl, iteF ?_⟩
      exact fin l.length rfl (Nat.le_refl _)
    · refine ⟨_, rfl, rfl, _, rfl, ?_⟩
      rw [decide_eq_false en]
      refine iteT ?_
      refine ⟨_, rfl, _, rfl, a, C, dx, _, _, rfl, r.ha, T.cl, T.nL, rF_left _ _ _, lo, _, rfl, .inl (sq_of r.hl), _, _, rfl, rfl, ?_⟩
      rw [List.length_map]
      refine ⟨p, _, rfl, tp, fun w => ?_, fun w => ?_⟩
      · obtain ⟨i', rfl, i1, i2⟩ := wh_int w
        obtain ⟨i, rfl⟩ : ∃ i : Nat, i' = (i : Int) := ⟨i'.toNat, by omega⟩
        refine ⟨_, rfl, fin i ?_ (by omega)⟩
        unfold comeAt
        dsimp only
        rw [if_pos ⟨by omega, by omega⟩]
        rfl
      · refine q2 ?_ H (Evl.Ex.refl H)
        unfold comeAt
        cases p with
        | non => exact absurd rfl en
        | int i =>
          dsimp only
          rw [if_neg]
          intro c
          rw [wh_of (by omega) (by omega)] at w
          cases w
        | _ => rfl
end
end Cd

set_option Elab.async false
set_option linter.all false
set_option maxRecDepth 100000
set_option maxHeartbeats 4000000
namespace Cd
open PySem PySem.Spec PyProof.Rows L2 Tx Kp Mx
open Evl (Ex sq_of ex_l sz_of sz_lt fresh_back)
/-- the script is read, whatever is done to the cells B -/
def Scr (K : PySem.W.Frag) (H : Hp) (a : Addr) (ns : List Int) (B : Addr → Prop) : Prop := (∀ H', SqL K H' a (ns.map V.int)) ∨ (SqL K H a (ns.map V.int) ∧ H a ≠ none ∧ ¬ B a)
theorem Scr.sq {K : PySem.W.Frag} {H : Hp} {a : Addr} {ns : List Int} {B : Addr → Prop} (h : Scr K H a ns B) : SqL K H a (ns.map V.int) := h.elim (fun g => g H) fun g => g.1
theorem Scr.of {K : PySem.W.Frag} {H : Hp} {a : Addr} {ns : List Int} {B : Addr → Prop} (h : SqL K H a (ns.map V.int)) (n : H a ≠ none → ¬ B a) : Scr K H a ns B := by
  rcases h with (g | ⟨o, g⟩) | g
  · exact .inr ⟨.inl (.inl g), by rw [g]; simp, n (by rw [g]; simp)⟩
  · exact .inr ⟨.inl (.inr ⟨o, g⟩), by rw [g]; simp, n (by rw [g]; simp)⟩
  · exact .inl fun H' => .inr g
theorem Scr.to {K : PySem.W.Frag} {H H' : Hp} {a : Addr} {ns : List Int} {B B' : Addr → Prop} (h : Scr K H a ns B) (k : ∀ o, H a = some o → ¬ B a → H' a = some o) (n : H a ≠ none → ¬ B a → ¬ B' a) : Scr K H' a ns B' := by
  rcases h with h | ⟨h, h1, h2⟩
  · exact .inl h
  · refine .inr ⟨?_, ?_, n h1 h2⟩
    · rcases h with (g | ⟨o, g⟩) | g
      · exact .inl (.inl (k _ g h2))
      · exact .inl (.inr ⟨o, k _ g h2⟩)
      · exact .inr g
    · cases e : H a with
      | none => exact absurd e h1
      | some o => rw [k o e h2]; simp
namespace K11
variable {K : PySem.W.Frag}
/-- the ring (left L, gone G), the law's own row l and gone g -/
structure S11 (K : PySem.W.Frag) (R : Rep K) (a : Addr) (ns : List Int) (h : Addr) (zs : List Str) (r : Addr) (D : Nat) (H : Hp) (F : Addr → Prop) (ro ga : Addr) (L G l g : List Str) : Prop where
  ring : R.at_ H r F L G D
  hh : H h = some (.lst (zs.map V.str))
  hr : H ro = some (.lst (l.map V.str))
  hg : H ga = some (.lst (g.map V.str))
  fh : ¬ F h
  fr : ¬ F ro
  fg : ¬ F ga
  n1 : ro ≠ ga
  n2 : ro ≠ h
  n3 : ga ≠ h
  sc : Scr K H a ns fun b => F b ∨ b = ro ∨ b = ga
section
variable {R : Rep K} {a : Addr} {ns : List Int} {h : Addr} {zs : List Str} {r : Addr} {D : Nat} {H H' : Hp} {F F' : Addr → Prop} {ro ga : Addr} {L G L' G' l g : List Str}
theorem S11.ex (s : S11 K R a ns h zs r D H F ro ga L G l g) (e : Ex H H') : S11 K R a ns h zs r D H' F ro ga L G l g :=
  ⟨Rep.ex s.ring e, e _ _ s.hh, e _ _ s.hr, e _ _ s.hg, s.fh, s.fr, s.fg, s.n1, s.n2, s.n3, s.sc.to (fun o x _ => e _ _ x) fun _ x => x⟩
theorem S11.go (s : S11 K R a ns h zs r D H F ro ga L G l g) (q : R.at_ H' r F' L' G' D) (c : Chg H F H' F') : S11 K R a ns h zs r D H' F' ro ga L' G' l g :=
  ⟨q, c.keep _ _ s.hh s.fh, c.keep _ _ s.hr s.fr, c.keep _ _ s.hg s.fg, c.off s.fh (by rw [s.hh]; simp), c.off s.fr (by rw [s.hr]; simp), c.off s.fg (by rw [s.hg]; simp), s.n1, s.n2, s.n3,
    s.sc.to (fun o x n => c.keep _ _ x fun z => n (.inl z)) fun x n z => by
      rcases z with z | z
      · exact c.off (fun y => n (.inl y)) x z
      · exact n (.inr z)⟩
theorem S11.row {ro' : Addr} {l' : List Str} (s : S11 K R a ns h zs r D H F ro ga L G l g) (e : Ex H H') (n : H ro' = none) (hr : H' ro' = some (.lst (l'.map V.str))) : S11 K R a ns h zs r D H' F ro' ga L G l' g := by
  have s2 := s.ex e
  refine ⟨s2.ring, s2.hh, hr, s2.hg, s2.fh, Rep.free s.ring n, s2.fg, fun z => ?_, fun z => ?_, s2.n3, ?_⟩
  · have := s.hg; rw [← z, n] at this; cases this
  · have := s.hh; rw [← z, n] at this; cases this
  · refine s.sc.to (fun o x _ => e _ _ x) fun x m z => ?_
    rcases z with z | z | z
    · exact m (.inl z)
    · exact x (by rw [z]; exact n)
    · exact m (.inr (.inr z))
theorem S11.app {z : Str} (s : S11 K R a ns h zs r D H F ro ga L G l g) : S11 K R a ns h zs r D (upd H ga (.lst ((g ++ [z]).map V.str))) F ro ga L G l (g ++ [z]) := by
  refine ⟨Rep.mut s.ring s.fg, ?_, ?_, upd_same, s.fh, s.fr, s.fg, s.n1, s.n2, s.n3, ?_⟩
  · rw [upd_ne (Ne.symm s.n3)]; exact s.hh
  · rw [upd_ne s.n1]; exact s.hr
  · exact s.sc.to (fun o x n => by rw [upd_ne fun y => n (.inr (.inr y))]; exact x) fun _ x => x
theorem S11.ins {l' : List Str} (s : S11 K R a ns h zs r D H F ro ga L G l g) : S11 K R a ns h zs r D (upd H ro (.lst (l'.map V.str))) F ro ga L G l' g := by
  refine ⟨Rep.mut s.ring s.fr, ?_, upd_same, ?_, s.fh, s.fr, s.fg, s.n1, s.n2, s.n3, ?_⟩
  · rw [upd_ne (Ne.symm s.n2)]; exact s.hh
  · rw [upd_ne (Ne.symm s.n1)]; exact s.hg
  · exact s.sc.to (fun o x n => by rw [upd_ne fun y => n (.inr (.inl y))]; exact x) fun _ x => x
end
/-- of those that are in, and were -/
structure Own (zs L G : List Str) (c : Nat) : Prop where
  len : L.length + G.length = zs.length + c
  nd : (L ++ G).Nodup
  mem : ∀ z ∈ L ++ G, z ∈ zs ∨ ∃ j, j < c ∧ z = cam j
theorem Own.perm {zs L G L' G' : List Str} {c : Nat} (o : Own zs L G c) (p : (L' ++ G').Perm (L ++ G)) : Own zs L' G' c where
  len := by have := p.length_eq; rw [List.length_append, List.length_append] at this; have := o.len; omega
  nd := p.nodup_iff.mpr o.nd
  mem z hz := o.mem z (p.mem_iff.mp hz)
theorem Own.counts {zs L G : List Str} {c : Nat} (s k : Nat) (o : Own zs L G c) (hk : k ≤ L.length) : Own zs (Jos.aft s k L) (G ++ (Jos.out s L.length L).take k) c := by
  refine o.perm ?_
  have p := Jos.aft_perm s k L hk
  refine List.Perm.trans (l₂ := Jos.aft s k L ++ ((Jos.out s L.length L).take k ++ G)) (List.Perm.append_left _ List.perm_append_comm) ?_
  rw [← List.append_assoc]
  exact List.Perm.append_right _ (List.perm_append_comm.trans p)
theorem Own.new {zs L G : List Str} {c : Nat} (o : Own zs L G c) (hc : c < 402) (ne : ∀ z ∈ zs, noE z) : cam c ∉ L ++ G := fun z => by
  rcases o.mem _ z with h | ⟨j, hj, e⟩
  · exact cam_e c (ne _ h)
  · have := cam_inj hc (by omega) e
    omega
theorem perm_ins {α : Type} (z : α) : ∀ (i : Nat) (l : List α), i ≤ l.length → (l.insertIdx i z).Perm (z :: l)
  | 0, l, _ => by rw [List.insertIdx_zero]
  | i + 1, [], h => by simp at h
  | i + 1, x :: l, h => by
    rw [List.insertIdx_succ_cons]
    exact (List.Perm.cons x (perm_ins z i l (by simpa using h))).trans (List.Perm.swap z x l)
theorem Own.come {zs L G : List Str} {c i : Nat} (o : Own zs L G c) (hc : c < 402) (ne : ∀ z ∈ zs, noE z) (hi : i ≤ L.length) : Own zs (L.insertIdx i (cam c)) G (c + 1) := by
  have p : (L.insertIdx i (cam c) ++ G).Perm (cam c :: (L ++ G)) := List.Perm.append_right G (perm_ins (cam c) i L hi)
  refine ⟨?_, p.nodup_iff.mpr (List.nodup_cons.mpr ⟨o.new hc ne, o.nd⟩), fun z hz => ?_⟩
  · have := p.length_eq
    rw [List.length_append, List.length_cons, List.length_append] at this
    have := o.len
    omega
  · rcases List.mem_cons.mp (p.mem_iff.mp hz) with e | e
    · exact .inr ⟨c, by omega, e⟩
    · rcases o.mem z e with h | ⟨j, hj, e⟩
      · exact .inl h
      · exact .inr ⟨j, by omega, e⟩
theorem Own.ok {zs L G : List Str} {c : Nat} (o : Own zs L G c) (hc : c ≤ 402) (ok : ∀ z ∈ zs, PyData.strOk z = true) : ∀ z ∈ L ++ G, PyData.strOk z = true := fun z hz => by
  rcases o.mem z hz with h | ⟨j, hj, e⟩
  · exact ok z h
  · rw [e]; exact cam_ok (by omega)
end K11
end Cd

set_option Elab.async false
set_option linter.all false
set_option maxRecDepth 100000
set_option maxHeartbeats 4000000
namespace Cd
open PySem PySem.Spec PyProof.Rows L2 Tx Kp Mx
open Evl (Ex sq_of ex_l sz_of sz_lt fresh_back)
theorem inV_str {z : Str} {g : List Str} : inV (.str z) (g.map V.str) = decide (z ∈ g) := by
  unfold inV
  rw [List.any_map]
  by_cases h : z ∈ g
  · rw [decide_eq_true h, List.any_eq_true]
    exact ⟨z, h, by simp [eqV]⟩
  · rw [decide_eq_false h, List.any_eq_false]
    intro y hy e
    have : y = z := by simpa [eqV] using e
    exact h (this ▸ hy)
theorem flat_strs (g : List Str) : (g.map V.str).all flatV = true := by
  rw [List.all_eq_true]
  intro x hx
  obtain ⟨z, _, rfl⟩ := List.mem_map.mp hx
  rfl
namespace K11
variable {K : PySem.W.Frag}
def t_hand (K : PySem.W.Frag) : TS :=
  (tSeq (tAsg (tOp oMod (tOp oSub (tVar 3) (tC (.int 1))) (tCB (rLenL K) (tCons (tVar 5) tNil))) (gName 12))
  (tSeq (tAsg (tOp rCat (tSl (rSlL K) (tVar 5) (tPart (tVar 12)) tNoPart) (tSl (rSlL K) (tVar 5) tNoPart (tPart (tVar 12)))) (gName 5))
  (tSeq (tIfS (tOr (tTest (tOp rNe (tOp (rIxL K) (tVar 5) (tC (.int 0))) (tVar 11))) (tTest (tOp (rIn K false) (tVar 11) (tVar 6))))
  (tRet (tC (.bl false)))
  tNext)
  (tSeq (tDrop (tBM K "list" rAppend (tVar 6) (tCons (tVar 11) tNil)))
  (tAsg (tSl (rSlL K) (tVar 5) (tPart (tC (.int 1))) tNoPart) (gName 5))))))
theorem hand_go {R : Rep K} {a p : Addr} {ns : List Int} {h : Addr} {zs : List Str} {r : Addr} {D c : Nat} {H : Hp} {F : Addr → Prop} {ro ga T : Addr} {L G l g t : List Str} {z : Str} {told : List V} {y8 y9 y12 y13 y14 : Option V} {De : Ends} (d1 : 1 ≤ D)
    (s : S11 K R a ns h zs r D H F ro ga L G l g) (hT : H T = some (.lst told)) (nT : T ≠ ga) (hz : Jos.rotN (D - 1) l = z :: t) (ng : z ∉ g) (b1 : l.length ≤ 1000) (b2 : g.length ≤ 1000)
    (k : ∀ y12 ro' H', S11 K R a ns h zs r D H' F ro' ga L G t (g ++ [z]) → H' T = some (.lst told) → De.nx [some (.ref a), some (.ref p), some (.ref h), some (.int (D : Int)), some (.ref r), some (.ref ro'), some (.ref ga), some (.int (c : Int)), y8, y9, some (.ref T), some (.str z), y12, y13, y14] H') :
    t_hand K De [some (.ref a), some (.ref p), some (.ref h), some (.int (D : Int)), some (.ref r), some (.ref ro), some (.ref ga), some (.int (c : Int)), y8, y9, some (.ref T), some (.str z), y12, y13, y14] H := by
  have hl0 : 0 < l.length := by
    have := Jos.rotN_len (D - 1) l
    rw [hz] at this; simp at this; omega
  have hlm : (l.map V.str).length = l.length := List.length_map _
  refine ⟨_, rfl, _, _, rfl, rfl, _, rfl, ro, _, rfl, .inl (sq_of s.hr), _, _, rfl, rfl, pos0 (by omega), ?_⟩
  have hk : (D - 1) % l.length < l.length := Nat.mod_lt _ hl0
  dsimp only
  rw [hlm, show ((D : Int) - 1) % (l.length : Int) = (((D - 1) % l.length : Nat) : Int) by rw [Int.natCast_emod]; congr 1; omega]
  generalize hj : (D - 1) % l.length = j at hk
  refine ⟨_, rfl, _, rfl, _, rfl, ro, _, rfl, sq_of s.hr, fun x nx => ?_⟩
  have e1 := Evl.Ex.new (o := .lst (cutV (l.map V.str) (some (j : Int)) none)) nx
  have hx := show _ = some (HO.lst (cutV (l.map V.str) (some (j : Int)) none)) from upd_same (H := H) (a := x)
  refine ⟨_, rfl, _, rfl, _, rfl, ro, _, rfl, sq_of (e1 _ _ s.hr), fun y ny => ?_⟩
  have e2 := Evl.Ex.new (o := .lst (cutV (l.map V.str) none (some (j : Int)))) ny
  have hy := show _ = some (HO.lst (cutV (l.map V.str) none (some (j : Int)))) from upd_same (H := upd H x (.lst (cutV (l.map V.str) (some (j : Int)) none))) (a := y)
  refine ⟨x, y, _, _, rfl, rfl, e2 _ _ hx, hy, ?_, fun w nw => ?_⟩
  · rw [cut_from (by omega), cut_to (by omega), List.length_drop, List.length_take]
    exact sz_of (by omega)
  have e3 := Evl.Ex.new (o := .lst (cutV (l.map V.str) (some (j : Int)) none ++ cutV (l.map V.str) none (some (j : Int)))) nw
  have hw := show _ = some (HO.lst (cutV (l.map V.str) (some (j : Int)) none ++ cutV (l.map V.str) none (some (j : Int)))) from upd_same (H := upd (upd H x (.lst (cutV (l.map V.str) (some (j : Int)) none))) y (.lst (cutV (l.map V.str) none (some (j : Int))))) (a := w)
  have hrow : cutV (l.map V.str) (some (j : Int)) none ++ cutV (l.map V.str) none (some (j : Int)) = (z :: t).map V.str := by
    rw [cut_from (by omega), cut_to (by omega), ← hz, Jos.rotN_eq _ _ hl0, hj]
    unfold Jos.rot
    rw [List.map_append, List.map_drop, List.map_take]
  have ee := e1.trans (e2.trans e3)
  rw [hrow] at hw ee
  rw [hrow]
  have s2 := s.row (ro' := w) (l' := z :: t) ee (fresh_back e1 (fresh_back e2 nw)) hw
  have hT2 := ee _ _ hT
  generalize upd (upd (upd H x (.lst (cutV (l.map V.str) (some (j : Int)) none))) y (.lst (cutV (l.map V.str) none (some (j : Int))))) w (.lst ((z :: t).map V.str)) = H2 at s2 hT2 hw
  refine ⟨_, rfl, w, _, 0, .str z, rfl, rfl, sq_of hw, (by exact at0), _, rfl, rfl, _, rfl, iteC (fun e => (dec_self e).elim) (fun _ => ?_)⟩
  refine ⟨_, rfl, _, rfl, ga, _, rfl, .inl (sq_of s2.hg), rfl, flat_strs g, ?_⟩
  rw [inV_str, decide_eq_false ng]
  refine ⟨_, rfl, iteC (fun e => by cases e) (fun _ => ?_)⟩
  refine ⟨_, rfl, ty_l s2.hg, _, rfl, ga, _, _, rfl, rfl, s2.hg, ?_, ?_⟩
  · rw [List.length_map]; exact sz_lt (by omega)
  have s3 := s2.app (z := z)
  have hT3 : upd H2 ga (.lst ((g ++ [z]).map V.str)) T = some (.lst told) := by rw [upd_ne nT]; exact hT2
  rw [List.map_append] at s3 hT3
  refine ⟨_, rfl, _, rfl, w, _, rfl, sq_of s3.hr, fun v nv => ?_⟩
  have e4 := Evl.Ex.new (o := .lst (cutV ((z :: t).map V.str) (some (1 : Int)) none)) nv
  have hcut : cutV ((z :: t).map V.str) (some (1 : Int)) none = t.map V.str := by
    have := cut_from (xs := (z :: t).map V.str) (k := 1) (by simp)
    rw [show ((1 : Nat) : Int) = 1 from rfl] at this
    rw [this]; rfl
  rw [hcut] at e4 ⊢
  exact k _ v _ (s3.row (l' := t) e4 nv upd_same) (e4 _ _ hT3)
end K11
end Cd

set_option Elab.async false
set_option linter.all false
set_option maxRecDepth 100000
set_option maxHeartbeats 4000000
namespace Cd
open PySem PySem.Spec PyProof.Rows L2 Tx Kp Mx
open Evl (Ex sq_of ex_l sz_of sz_lt fresh_back)
namespace K11
variable {K : PySem.W.Frag}
/-- the slots -/
abbrev Sl (a p h : Addr) (D : Nat) (r ro ga : Addr) (c : Nat) (y8 y9 y10 y11 y12 y13 y14 : Option V) : L2.St := [some (.ref a), some (.ref p), some (.ref h), some (.int (D : Int)), some (.ref r), some (.ref ro), some (.ref ga), some (.int (c : Int)), y8, y9, y10, y11, y12, y13, y14]
def t_counts (R : Rep K) (C : Cs) : TS :=
  (tSeq (tAsg (tMeth R.C "counts" (sCountsM R C.count) [] E0 (tVar 4) (tCons (tCB oMin2 (tCons (tOp oAdd (tC (.int 1)) (tVar 9)) (tCons (tCB (rLenL K) (tCons (tVar 5) tNil)) tNil))) tNil)) (gName 10))
  (tFor (iList K (tVar 10)) (gName 11) (t_hand K)))
theorem take_next {α : Type} {l : List α} {i : Nat} {z : α} (h : l[i]? = some z) : l.take (i + 1) = l.take i ++ [z] := by
  rw [List.take_succ, h]; rfl
theorem not_ahead {L G : List Str} {s i : Nat} {z : Str} (nd : (L ++ G).Nodup) (h : (Jos.out s L.length L)[i]? = some z) : z ∉ G ++ (Jos.out s L.length L).take i := by
  have p := Jos.out_perm s L.length L rfl
  have n1 : (Jos.out s L.length L).Nodup := p.nodup_iff.mpr (List.nodup_append.mp nd).1
  have hz : z ∈ L := p.mem_iff.mp (List.mem_of_getElem? h)
  intro m
  rcases List.mem_append.mp m with m | m
  · exact (List.nodup_append.mp nd).2.2 z hz z m rfl
  · obtain ⟨j, hj⟩ := List.mem_iff_getElem?.mp m
    have hji : j < i := by
      have := (List.getElem?_eq_some_iff.mp hj).1
      rw [List.length_take] at this; omega
    rw [List.getElem?_take_of_lt hji] at hj
    have := Jos.nodup_get n1 hj h
    omega
theorem counts_part {R : Rep K} {C : Cs} {a p h : Addr} {ns : List Int} {zs : List Str} {r : Addr} {D c w : Nat} {H : Hp} {F : Addr → Prop} {ro ga : Addr} {L G : List Str} {y8 y10 y11 y12 y13 y14 : Option V} {De : Ends} (d1 : 1 ≤ D)
    (s : S11 K R a ns h zs r D H F ro ga L G L G) (o : Own zs L G c) (hL : L.length + G.length ≤ 400)
    (k : ∀ F' ro' L' G' y10 y11 y12 H', S11 K R a ns h zs r D H' F' ro' ga L' G' L' G' → Own zs L' G' c → De.nx (Sl a p h D r ro' ga c y8 (some (.int (w : Int))) y10 y11 y12 y13 y14) H') :
    t_counts R C De (Sl a p h D r ro ga c y8 (some (.int (w : Int))) y10 y11 y12 y13 y14) H := by
  refine ⟨_, rfl, ?_⟩
  refine meth_of (m := "counts") (by simp) s.ring ?_
  refine ⟨_, rfl, _, _, rfl, rfl, _, rfl, ro, _, rfl, .inl (sq_of s.hr), _, _, rfl, ?_⟩
  obtain ⟨n, hn, hn1⟩ : ∃ n : Nat, (if ((L.map V.str).length : Int) < 1 + (w : Int) then ((L.map V.str).length : Int) else 1 + (w : Int)) = (n : Int) ∧ n ≤ L.length := by
    rw [List.length_map]
    split
    · exact ⟨L.length, rfl, Nat.le_refl _⟩
    · exact ⟨1 + w, by omega, by omega⟩
  rw [hn]
  show sCountsM R C.count [.ref r, .int (n : Int)] H _ E0
  refine counts_go (E := E0) s.ring hn1 fun T F1 H1 nT nFT q ch hT => ?_
  have s1 := s.go q ch
  have nTga : T ≠ ga := fun z => by have := s.hg; rw [← z, nT] at this; cases this
  have po := Jos.out_len (D - 1) L.length L rfl
  have o1 := o.counts (D - 1) n hn1
  refine ⟨_, rfl, T, rfl, ⟨_, sq_of hT⟩, for_list (xs := ((Jos.out (D - 1) L.length L).take n).map V.str) (fun i σ H' => ∃ ro' y11 y12, σ = Sl a p h D r ro' ga c y8 (some (.int (w : Int))) (some (.ref T)) y11 y12 y13 y14 ∧
      S11 K R a ns h zs r D H' F1 ro' ga (Jos.aft (D - 1) n L) (G ++ (Jos.out (D - 1) L.length L).take n) (Jos.aft (D - 1) i L) (G ++ (Jos.out (D - 1) L.length L).take i) ∧ H' T = some (.lst (((Jos.out (D - 1) L.length L).take n).map V.str)))
    ⟨ro, _, _, rfl, by rw [List.take_zero, List.append_nil]; exact s1, hT⟩ ?_ ?_ ?_⟩
  · intro i σ H' _ hP
    obtain ⟨_, _, _, _, _, h⟩ := hP
    exact sq_of h
  · intro i x σ H' hx hP
    obtain ⟨ro', y11', y12', rfl, s2, hT2⟩ := hP
    have hi : i < n := by
      have := (List.getElem?_eq_some_iff.mp hx).1
      rw [List.length_map, List.length_take] at this; omega
    obtain ⟨z, t, hz, hzi, ht⟩ := Jos.out_head (D - 1) i L (by omega)
    have ex : x = .str z := by
      rw [List.getElem?_map, List.getElem?_take_of_lt hi, hzi] at hx
      exact (Option.some.inj hx).symm
    subst ex
    refine hand_go (c := c) d1 s2 hT2 nTga hz (not_ahead o.nd hzi) ?_ ?_ fun y12 ro2 H3 s3 hT3 => ?_
    · rw [Jos.aft_len]; omega
    · rw [List.length_append, List.length_take]; omega
    · refine ⟨ro2, _, _, rfl, ?_, hT3⟩
      rw [ht, take_next hzi, ← List.append_assoc]
      exact s3
  · intro σ H' hP
    obtain ⟨ro', y11', y12', rfl, s2, hT2⟩ := hP
    have en : (((Jos.out (D - 1) L.length L).take n).map V.str).length = n := by rw [List.length_map, List.length_take]; omega
    rw [en] at s2
    exact k _ _ _ _ _ _ _ _ s2 o1
end K11
end Cd

set_option Elab.async false
set_option linter.all false
set_option maxRecDepth 100000
set_option maxHeartbeats 4000000
namespace Cd
open PySem PySem.Spec PyProof.Rows L2 Tx Kp Mx
open Evl (Ex sq_of ex_l sz_of sz_lt fresh_back)
theorem ins_td {α : Type} (z : α) : ∀ (i : Nat) (l : List α), i ≤ l.length → l.take i ++ [z] ++ l.drop i = l.insertIdx i z
  | 0, l, _ => by rw [List.insertIdx_zero]; rfl
  | i + 1, [], h => by simp at h
  | i + 1, x :: l, h => by
    rw [List.insertIdx_succ_cons, ← ins_td z i l (by simpa using h)]
    rfl
theorem ins_map {z : Str} {i : Nat} {l : List Str} (h : i ≤ l.length) : (l.map V.str).take i ++ [V.str z] ++ (l.map V.str).drop i = (l.insertIdx i z).map V.str := by
  rw [← ins_td z i l h, List.map_append, List.map_append, List.map_take, List.map_drop]; rfl
namespace K11
variable {K : PySem.W.Frag}
def t_come (R : Rep K) (C : Cs) : TS :=
  (tSeq (tAsg (tOp oAddS (tC (.str "came")) (tCB oStrI (tCons (tVar 7) tNil))) (gName 11))
  (tSeq (tAsg (tOp oAdd (tVar 7) (tC (.int 1))) (gName 7))
  (tSeq (tAsg (tOp oMod (tOp oFdiv (tVar 8) (tC (.int 4))) (tOp oAdd (tCB (rLenL K) (tCons (tVar 5) tNil)) (tC (.int 1)))) (gName 13))
  (tSeq (tIfS (tTest (tOp rEq (tOp oMod (tOp oFdiv (tVar 8) (tC (.int 4))) (tC (.int 3))) (tC (.int 1))))
  (tSeq (tAsg (tCB (rLenL K) (tCons (tVar 5) tNil)) (gName 13))
  (tDrop (tMeth R.C "come" (sComeM R C) [.non] E0 (tVar 4) (tCons (tVar 11) tNil))))
  (tDrop (tMeth R.C "come" (sComeM R C) [] E0 (tVar 4) (tCons (tVar 11) (tCons (tVar 13) tNil)))))
  (tDrop (tBM K "list" rInsert (tVar 5) (tCons (tVar 13) (tCons (tVar 11) tNil))))))))
theorem come_part {R : Rep K} {C : Cs} {a p h : Addr} {ns : List Int} {zs : List Str} {r : Addr} {D c : Nat} {cell : Int} {H : Hp} {F : Addr → Prop} {ro ga : Addr} {L G : List Str} {y9 y10 y11 y12 y13 y14 : Option V} {De : Ends}
    (s : S11 K R a ns h zs r D H F ro ga L G L G) (o : Own zs L G c) (ne : ∀ z ∈ zs, noE z) (hc : c < 290) (hL : L.length + G.length < 400)
    (k : ∀ F' L' y11 y13 H', S11 K R a ns h zs r D H' F' ro ga L' G L' G → Own zs L' G (c + 1) → De.nx (Sl a p h D r ro ga (c + 1) (some (.int cell)) y9 y10 y11 y12 y13 y14) H') :
    t_come R C De (Sl a p h D r ro ga c (some (.int cell)) y9 y10 y11 y12 y13 y14) H := by
  have f := sk_facts c (by omega)
  have new := o.new (by omega) ne
  have okc := cam_ok (k := c) (by omega)
  refine ⟨_, rfl, _, rfl, Nat.lt_of_le_of_lt (Nat.log2_le_self _) (by omega), _, _, rfl, rfl, ?_, ?_⟩
  · show (Str.ofString "came").length + (sk c).length ≤ sizeLine
    rw [show (Str.ofString "came").length = 4 by decide +kernel]
    exact sz_of (by omega)
  refine ⟨_, rfl, _, _, rfl, rfl, ?_⟩
  dsimp only
  rw [show (c : Int) + 1 = ((c + 1 : Nat) : Int) by omega]
  refine ⟨_, rfl, _, _, rfl, rfl, ⟨by decide, by decide⟩, _, rfl, ro, _, rfl, .inl (sq_of s.hr), _, _, rfl, rfl, _, _, rfl, rfl, pos0 (by omega), ?_⟩
  obtain ⟨i, hi, hi2⟩ : ∃ i : Nat, cell / 4 % (((L.map V.str).length : Int) + 1) = (i : Int) ∧ i ≤ L.length := by
    rw [List.length_map]
    have b1 : 0 ≤ cell / 4 % ((L.length : Int) + 1) := Int.emod_nonneg _ (by omega)
    have b2 : cell / 4 % ((L.length : Int) + 1) < (L.length : Int) + 1 := Int.emod_lt_of_pos _ (by omega)
    exact ⟨(cell / 4 % ((L.length : Int) + 1)).toNat, by omega, by omega⟩
  dsimp only
  rw [hi]
  -- behind the coming: the law's own row likewise
  have fin : ∀ (j : Nat) F' H', j ≤ L.length → R.at_ H' r F' (L.insertIdx j (cam c)) G D → Chg H F H' F' →
      (tDrop (tBM K "list" rInsert (tVar 5) (tCons (tVar 13) (tCons (tVar 11) tNil)))) De (Sl a p h D r ro ga (c + 1) (some (.int cell)) y9 y10 (some (.str (cam c))) y12 (some (.int (j : Int))) y14) H' := by
    intro j F' H' hj q ch
    have s1 := s.go q ch
    refine ⟨_, rfl, ty_l s1.hr, _, rfl, _, rfl, ro, _, _, _, rfl, rfl, s1.hr, ?_, by omega, by omega, ?_⟩
    · rw [List.length_map]; exact sz_lt (by omega)
    · rw [Int.toNat_natCast, ins_map hj]
      exact k F' _ _ _ _ s1.ins (o.come (by omega) ne hj)
  refine ⟨_, rfl, _, _, rfl, rfl, ⟨by decide, by decide⟩, _, _, rfl, rfl, pos0 (by decide), rfl, _, rfl, iteC (fun _ => ?_) (fun _ => ?_)⟩
  · refine ⟨_, rfl, ro, _, rfl, .inl (sq_of s.hr), ?_⟩
    refine ⟨_, rfl, ?_⟩
    refine meth_of (m := "come") (by simp) s.ring ?_
    refine ⟨_, rfl, ?_⟩
    show sComeM R C [.ref r, .str (cam c), .non] H _ E0
    refine come_go (i := L.length) s.ring okc new Typ.non rfl hL fun F' H' q ch => ?_
    rw [show (V.int ((L.map V.str).length : Int)) = V.int (L.length : Int) by rw [List.length_map]]
    exact fin L.length F' H' (Nat.le_refl _) q ch
  · refine ⟨_, rfl, ?_⟩
    refine meth_of (m := "come") (by simp) s.ring ?_
    refine ⟨_, rfl, _, rfl, ?_⟩
    show sComeM R C [.ref r, .str (cam c), .int (i : Int)] H _ E0
    refine come_go (i := i) s.ring okc new Typ.int ?_ hL fun F' H' q ch => fin i F' H' hi2 q ch
    unfold comeAt
    dsimp only
    rw [if_pos ⟨by omega, by omega⟩]
    rfl
end K11
end Cd

set_option Elab.async false
set_option linter.all false
set_option maxRecDepth 100000
set_option maxHeartbeats 4000000
namespace Cd
open PySem PySem.Spec PyProof.Rows L2 Tx Kp Mx
open Evl (Ex sq_of ex_l sz_of sz_lt fresh_back)
namespace K11
variable {K : PySem.W.Frag}
/-- two flat lists that are alike -/
theorem same_go {neg : Bool} {p q : Addr} {xs : List V} {H : Hp} {Q : VK} (hp : SqL K H p xs) (hq : SqL K H q xs) (pl : xs.all plain = true) (k : Q (.bl (!neg)) H) : rEqF K neg (.ref p) (.ref q) H Q := by
  refine ⟨p, q, xs, xs, rfl, rfl, hp, hq, pl, pl, ?_⟩
  cases neg
  · rw [if_neg (by decide), decide_eq_true rfl]; exact k
  · rw [if_pos rfl, decide_eq_true rfl]; exact k
/-- a list that is empty or not -/
theorem empty_go {neg : Bool} {p q : Addr} {xs : List V} {H : Hp} {Q : VK} (hp : SqL K H p xs) (hq : SqL K H q []) (pl : xs.all plain = true) (k : Q (.bl (if neg then !decide (xs = []) else decide (xs = []))) H) : rEqF K neg (.ref p) (.ref q) H Q :=
  ⟨p, q, xs, [], rfl, rfl, hp, hq, pl, rfl, k⟩
def t_shown (R : Rep K) : TS :=
  (tIfS (tAnd (tTest (tOp oLt (tCB (rLenL K) (tCons (tVar 6) tNil)) (tC (.int 40)))) (tOr (tTest (tOp (rEqF K true) (tMeth R.C "left" (sLeftM R) [] E0 (tVar 4) tNil) (tVar 5))) (tTest (tOp (rEqF K true) (tMeth R.C "gone" (sGoneM R) [] E0 (tVar 4) tNil) (tVar 6)))))
  (tRet (tC (.bl false)))
  tNext)
theorem shown_go {R : Rep K} {a p h : Addr} {ns : List Int} {zs : List Str} {r : Addr} {D c : Nat} {H : Hp} {F : Addr → Prop} {ro ga : Addr} {L G : List Str} {y8 y9 y10 y11 y12 y13 y14 : Option V} {De : Ends}
    (s : S11 K R a ns h zs r D H F ro ga L G L G) (ok : ∀ z ∈ L ++ G, PyData.strOk z = true)
    (k : ∀ H', S11 K R a ns h zs r D H' F ro ga L G L G → De.nx (Sl a p h D r ro ga c y8 y9 y10 y11 y12 y13 y14) H') :
    t_shown R De (Sl a p h D r ro ga c y8 y9 y10 y11 y12 y13 y14) H := by
  have okL : (L.map V.str).all plain = true := str_plain fun z hz => ok z (List.mem_append_left _ hz)
  have okG : (G.map V.str).all plain = true := str_plain fun z hz => ok z (List.mem_append_right _ hz)
  refine ⟨_, rfl, ga, _, rfl, .inl (sq_of s.hg), _, _, rfl, rfl, _, rfl, iteC (fun _ => ?_) (fun _ => k H s)⟩
  refine ⟨_, rfl, ?_⟩
  refine meth_of (m := "left") (by simp) s.ring ?_
  show sLeftM R [.ref r] H _ E0
  refine left_go s.ring fun x H1 nx e1 hx => ?_
  refine ⟨_, rfl, ?_⟩
  refine same_go (sq_of hx) (sq_of (e1 _ _ s.hr)) okL ⟨_, rfl, iteC (fun c => by cases c) (fun _ => ?_)⟩
  have s1 := s.ex e1
  refine ⟨_, rfl, ?_⟩
  refine meth_of (m := "gone") (by simp) s1.ring ?_
  show sGoneM R [.ref r] H1 _ E0
  refine gone_go s1.ring fun y H2 ny e2 hy => ?_
  refine ⟨_, rfl, ?_⟩
  exact same_go (sq_of hy) (sq_of (e2 _ _ s1.hg)) okG ⟨_, rfl, iteC (fun c => by cases c) (fun _ => k H2 (s1.ex e2))⟩
def t_beside (R : Rep K) (C : Cs) : TS :=
  (tIfS (tAnd (tTest (tOp rEq (tVar 9) (tC (.int 3)))) (tAnd (tTest (tOp (rEqF K true) (tVar 5) (tLst tNil))) (tTest (tOp oLt (tCB (rLenL K) (tCons (tVar 5) tNil)) (tC (.int 40))))))
  (tSeq (tAsg (tMake R.C (sInit R C.ring C.step C.place) [.int 0] E0 (tCons (tVar 5) (tCons (tVar 3) tNil))) (gName 14))
  (tIfS (tOr (tTest (tOp rNe (tMeth R.C "last" (sLastM R C.hand) [] E0 (tVar 14) tNil) (tMeth R.C "last" (sLastM R C.hand) [] E0 (tVar 4) tNil))) (tTest (tOp (rEqF K true) (tMeth R.C "left" (sLeftM R) [] E0 (tVar 14) tNil) (tMeth R.C "left" (sLeftM R) [] E0 (tVar 4) tNil))))
  (tRet (tC (.bl false)))
  tNext))
  tNext)
theorem beside_go {R : Rep K} {C : Cs} {a p h : Addr} {ns : List Int} {zs : List Str} {r : Addr} {D c : Nat} {w : Int} {H : Hp} {F : Addr → Prop} {ro ga : Addr} {L G : List Str} {y8 y10 y11 y12 y13 y14 : Option V} {De : Ends} (d1 : 1 ≤ D) (d2 : (D : Int) ≤ big)
    (s : S11 K R a ns h zs r D H F ro ga L G L G) (ok : ∀ z ∈ L ++ G, PyData.strOk z = true) (nd : (L ++ G).Nodup)
    (k : ∀ y14 H', S11 K R a ns h zs r D H' F ro ga L G L G → De.nx (Sl a p h D r ro ga c y8 (some (.int w)) y10 y11 y12 y13 y14) H') :
    t_beside R C De (Sl a p h D r ro ga c y8 (some (.int w)) y10 y11 y12 y13 y14) H := by
  have ok1 : ∀ z ∈ L, PyData.strOk z = true := fun z hz => ok z (List.mem_append_left _ hz)
  have okL : (L.map V.str).all plain = true := str_plain ok1
  refine ⟨_, rfl, rfl, _, rfl, iteC (fun _ => ?_) (fun _ => k _ H s)⟩
  refine ⟨_, rfl, Nat.zero_le _, fun x nx => ?_⟩
  have e1 := Evl.Ex.new (o := .lst []) nx
  have s1 := s.ex e1
  refine empty_go (sq_of s1.hr) (sq_of upd_same) okL ⟨_, rfl, iteC (fun c1 => ?_) (fun _ => k _ _ s1)⟩
  have hL0 : 1 ≤ L.length := by
    cases L with
    | nil => simp at c1
    | cons z t => simp
  refine ⟨_, rfl, ro, _, rfl, .inl (sq_of s1.hr), _, _, rfl, rfl, _, rfl, iteC (fun c2 => ?_) (fun _ => k _ _ s1)⟩
  have hL40 : L.length < 40 := by
    have := of_decide_eq_true c2
    rw [List.length_map] at this; omega
  generalize upd H x (.lst []) = H1 at s1
  -- a ring of those that are left, made anew
  refine ⟨_, rfl, _, rfl, ?_⟩
  intro b dx nb ndx ne
  refine make_go (E := E0) (b := 0) s1.hr hL0 (by omega) (List.nodup_append.mp nd).1 ok1 d1 d2 (by omega) nb ndx ne fun F2 H2 q2 fr2 e2 => ?_
  rw [Jos.rot_zero] at q2
  have s2 := s1.ex e2
  obtain ⟨z, hz⟩ : ∃ z, (Jos.out (D - 1) L.length L)[L.length - 1]? = some z := ⟨_, List.getElem?_eq_getElem (by rw [Jos.out_len _ _ _ rfl]; omega)⟩
  refine ⟨_, rfl, ?_⟩
  refine meth_of (m := "last") (by simp) q2 ?_
  show sLastM R C.hand [.ref b] H2 _ E0
  refine last_go q2 hz fun H3 e3 => ?_
  have q3 := Rep.ex q2 e3
  have s3 := s2.ex e3
  refine ⟨_, rfl, ?_⟩
  refine meth_of (m := "last") (by simp) s3.ring ?_
  show sLastM R C.hand [.ref r] H3 _ E0
  refine last_go s3.ring hz fun H4 e4 => ?_
  have q4 := Rep.ex q3 e4
  have s4 := s3.ex e4
  refine ⟨rfl, _, rfl, iteC (fun c => (dec_self c).elim) (fun _ => ?_)⟩
  refine ⟨_, rfl, ?_⟩
  refine meth_of (m := "left") (by simp) q4 ?_
  show sLeftM R [.ref b] H4 _ E0
  refine left_go q4 fun u H5 nu e5 hu => ?_
  have s5 := s4.ex e5
  refine ⟨_, rfl, ?_⟩
  refine meth_of (m := "left") (by simp) s5.ring ?_
  show sLeftM R [.ref r] H5 _ E0
  refine left_go s5.ring fun v H6 nv e6 hv => ?_
  exact same_go (sq_of (e6 _ _ hu)) (sq_of hv) okL ⟨_, rfl, iteC (fun c => by cases c) (fun _ => k _ _ (s5.ex e6))⟩
end K11
end Cd

set_option Elab.async false
set_option linter.all false
set_option maxRecDepth 100000
set_option maxHeartbeats 4000000
namespace Cd
open PySem PySem.Spec PyProof.Rows L2 Tx Kp Mx
open Evl (Ex sq_of ex_l sz_of sz_lt fresh_back)
namespace K11
variable {K : PySem.W.Frag}
def t_body (R : Rep K) (C : Cs) : TS :=
  (tSeq (tAsg (tOp oMod (tVar 8) (tC (.int 4))) (gName 9))
  (tSeq (tIfS (tAnd (tTest (tOp oLt (tVar 9) (tC (.int 2)))) (tTest (tOp (rEqF K true) (tVar 5) (tLst tNil))))
  (t_counts R C)
  (tIfS (tTest (tOp oLt (tVar 7) (tC (.int 290))))
  (t_come R C)
  tNext))
  (tSeq (t_beside R C)
  (t_shown R))))
theorem body_go {R : Rep K} {C : Cs} {a p h : Addr} {ns : List Int} {zs : List Str} {r : Addr} {D c : Nat} {cell : Int} {H : Hp} {F : Addr → Prop} {ro ga : Addr} {L G : List Str} {y9 y10 y11 y12 y13 y14 : Option V} {De : Ends} (d1 : 1 ≤ D) (d2 : (D : Int) ≤ big)
    (s : S11 K R a ns h zs r D H F ro ga L G L G) (o : Own zs L G c) (hc : c ≤ 290) (z8 : zs.length ≤ 8) (ok : ∀ z ∈ zs, PyData.strOk z = true) (ne : ∀ z ∈ zs, noE z)
    (k : ∀ F' ro' L' G' c' y9 y10 y11 y12 y13 y14 H', S11 K R a ns h zs r D H' F' ro' ga L' G' L' G' → Own zs L' G' c' → c' ≤ 290 → De.nx (Sl a p h D r ro' ga c' (some (.int cell)) y9 y10 y11 y12 y13 y14) H') :
    t_body R C De (Sl a p h D r ro ga c (some (.int cell)) y9 y10 y11 y12 y13 y14) H := by
  obtain ⟨w, hw, hw4⟩ : ∃ w : Nat, cell % 4 = (w : Int) ∧ w < 4 := by
    have b1 : 0 ≤ cell % 4 := Int.emod_nonneg _ (by decide)
    have b2 : cell % 4 < 4 := Int.emod_lt_of_pos _ (by decide)
    exact ⟨(cell % 4).toNat, by omega, by omega⟩
  refine ⟨_, rfl, _, _, rfl, rfl, pos0 (by decide), ?_⟩
  dsimp only
  rw [hw]
  have fin : ∀ F' ro' L' G' c' y10 y11 y12 y13 H', S11 K R a ns h zs r D H' F' ro' ga L' G' L' G' → Own zs L' G' c' → c' ≤ 290 →
      (tSeq (t_beside R C) (t_shown R)) De (Sl a p h D r ro' ga c' (some (.int cell)) (some (.int (w : Int))) y10 y11 y12 y13 y14) H' := by
    intro F' ro' L' G' c' y10 y11 y12 y13 H' s' o' hc'
    have ok' := o'.ok (by omega) ok
    refine beside_go (w := (w : Int)) d1 d2 s' ok' o'.nd fun y14' H2 s2 => ?_
    exact shown_go s2 ok' fun H3 s3 => k _ _ _ _ _ _ _ _ _ _ _ _ s3 o' hc'
  have two : ∀ H', S11 K R a ns h zs r D H' F ro ga L G L G → (tIfS (tTest (tOp oLt (tVar 7) (tC (.int 290)))) (t_come R C) tNext) { De with nx := (tSeq (t_beside R C) (t_shown R)) De } (Sl a p h D r ro ga c (some (.int cell)) (some (.int (w : Int))) y10 y11 y12 y13 y14) H' := by
    intro H' s'
    refine ⟨_, rfl, _, _, rfl, rfl, _, rfl, iteC (fun c1 => ?_) (fun _ => fin _ _ _ _ _ _ _ _ _ _ s' o hc)⟩
    have c2 : (c : Int) < 290 := of_decide_eq_true c1
    have hl := o.len
    exact come_part s' o ne (by omega) (by omega) fun F' L' y11 y13 H2 s2 o2 => fin _ _ _ _ _ _ _ _ _ _ s2 o2 (by omega)
  refine ⟨_, rfl, _, _, rfl, rfl, _, rfl, iteC (fun _ => ?_) (fun _ => two H s)⟩
  refine ⟨_, rfl, Nat.zero_le _, fun x nx => ?_⟩
  have e1 := Evl.Ex.new (o := .lst []) nx
  have s1 := s.ex e1
  have okL : (L.map V.str).all plain = true := str_plain fun z hz => o.ok (by omega) ok z (List.mem_append_left _ hz)
  refine empty_go (sq_of s1.hr) (sq_of upd_same) okL ⟨_, rfl, iteC (fun _ => ?_) (fun _ => two _ s1)⟩
  have hl := o.len
  exact counts_part d1 s1 o (by omega) fun F' ro' L' G' y10 y11 y12 H2 s2 o2 => fin _ _ _ _ _ _ _ _ _ _ s2 o2 hc
def t_law (R : Rep K) (C : Cs) : TS :=
(tSeq (tAsg (tCall (sState K) [] E0 (tCons (tVar 0) (tCons (tC (.int 0)) tNil))) (gName 1))
  (tSeq (tAsg (tCall sHands [] E0 (tCons (tVar 1) (tCons (tOp oAdd (tC (.int 1)) (tOp oMod (tCall sNext [] E0 (tCons (tVar 1) tNil)) (tC (.int 8)))) tNil))) (gName 2))
  (tSeq (tAsg (tCall sOf [] E0 (tCons (tVar 1) (tCons (tLst (tCons (tOp oAdd (tC (.int 1)) (tOp oMod (tCall sNext [] E0 (tCons (tVar 1) tNil)) (tC (.int 20)))) (tCons (tOp oAdd (tC (.int 1)) (tOp oMod (tCall sNext [] E0 (tCons (tVar 1) tNil)) (tC (.int 20)))) (tCons (tOp oSub (tOp oPow (tC (.int 10)) (tC (.int 60))) (tCall sFar [] E0 (tCons (tVar 1) (tCons (tOp oPow (tC (.int 10)) (tC (.int 9))) tNil)))) tNil)))) tNil))) (gName 3))
  (tSeq (tAsg (tMake R.C (sInit R C.ring C.step C.place) [.int 0] E0 (tCons (tVar 2) (tCons (tVar 3) tNil))) (gName 4))
  (tSeq (tAsg (tCB (rListOf K) (tCons (tVar 2) tNil)) (gName 5))
  (tSeq (tAsg (tLst tNil) (gName 6))
  (tSeq (tAsg (tC (.int 0)) (gName 7))
  (tSeq (tFor (iList K (tVar 0)) (gName 8)
  (t_body R C))
  (tRet (tAndV (tOp (rEqF K false) (tMeth R.C "left" (sLeftM R) [] E0 (tVar 4) tNil) (tVar 5)) (tAndV (tOp (rEqF K false) (tMeth R.C "gone" (sGoneM R) [] E0 (tVar 4) tNil) (tVar 6)) (tOp rEq (tOp oAdd (tCB (rLenL K) (tCons (tVar 5) tNil)) (tCB (rLenL K) (tCons (tVar 6) tNil))) (tOp oAdd (tCB (rLenL K) (tCons (tVar 2) tNil)) (tVar 7))))))))))))))
def sLaw (K : PySem.W.Frag) : Sp := fun vs H Q _ => ∃ (a : Addr) (ns : List Int), vs = [.ref a] ∧ SqL K H a (ns.map V.int) ∧ ∀ H', Q (.bl true) H'
theorem pure_law {R : Rep K} {C : Cs} {vs : List V} {H : Hp} {Q : VK} {E : XK} {nx : L2.St → Hp → Prop} (h : sLaw K vs H Q E) : t_law R C { nx := nx, rt := Q } (start ["_law_script", "_law_state_here", "_law_hands_here", "_law_step_here", "_law_ring", "_law_row", "_law_gone", "_law_came", "_law_cell", "_law_way", "_law_told", "_law_hand", "_law_passed", "_law_place", "_law_beside"] vs) H := by
  obtain ⟨a, ns, rfl, hS, k⟩ := h
  refine ⟨_, rfl, a, ns, 0, rfl, hS, fun p H1 np e1 st1 => ?_⟩
  have sc1 := ScAt.of hS np e1
  refine ⟨_, rfl, _, rfl, p, rfl, st1, fun H2 n2 r2 _ _ => ?_⟩
  refine ⟨_, _, rfl, rfl, pos0 (by decide), _, _, rfl, rfl, ?_⟩
  obtain ⟨M, hM, m1, m2⟩ : ∃ M : Nat, 1 + n2 % 8 = (M : Int) ∧ 1 ≤ M ∧ M ≤ 8 := by
    have b1 : 0 ≤ n2 % 8 := Int.emod_nonneg _ (by decide)
    have b2 : n2 % 8 < 8 := Int.emod_lt_of_pos _ (by decide)
    exact ⟨(1 + n2 % 8).toNat, by omega, by omega, by omega⟩
  dsimp only
  rw [hM]
  refine ⟨p, M, rfl, r2.2, by omega, fun h H3 zs nh r3 hh hz hn ok ne => ?_⟩
  have nhp : h ≠ p := r2.2.ne nh
  -- step
  refine ⟨_, rfl, _, rfl, p, rfl, r3.2, fun H4 n4 r4 _ _ => ?_⟩
  refine ⟨_, _, rfl, rfl, pos0 (by decide), _, _, rfl, rfl, _, rfl, p, rfl, r4.2, fun H5 n5 r5 _ _ => ?_⟩
  refine ⟨_, _, rfl, rfl, pos0 (by decide), _, _, rfl, rfl, _, _, rfl, rfl, ⟨by decide, by decide, by decide⟩, _, rfl, _, _, rfl, rfl, ⟨by decide, by decide, by decide⟩, p, _, rfl, r5.2, by rw [ten9]; decide, fun H6 f6 r6 h6 => ?_⟩
  refine ⟨_, _, rfl, rfl, (by decide : 3 ≤ sizeLine), fun l6 nl6 => ?_⟩
  refine ⟨p, .ref l6, rfl, r6.2.ex (Evl.Ex.new nl6), .inl ⟨l6, _, rfl, r6.2.ne nl6, upd_same, by simp, fun H7 v r7 hv => ?_⟩⟩
  have r37 : Run p H3 H7 := r4.trans (r5.trans (r6.trans ((Run.ex r6.2 (Evl.Ex.new nl6)).trans r7)))
  obtain ⟨D, rfl, d1, d2⟩ : ∃ D : Nat, v = .int (D : Int) ∧ 1 ≤ D ∧ (D : Int) ≤ big := by
    have a1 : 0 ≤ n4 % 20 := Int.emod_nonneg _ (by decide)
    have a2 : n4 % 20 < 20 := Int.emod_lt_of_pos _ (by decide)
    have b1 : 0 ≤ n5 % 20 := Int.emod_nonneg _ (by decide)
    have b2 : n5 % 20 < 20 := Int.emod_lt_of_pos _ (by decide)
    have b20 : (20 : Int) ≤ big := by decide
    have b9 : (1000000000 : Int) ≤ big := by decide
    rw [ten9] at h6
    simp only [ten60, List.mem_cons, List.not_mem_nil, or_false] at hv
    rcases hv with rfl | rfl | rfl
    · exact ⟨(1 + n4 % 20).toNat, by rw [Int.toNat_of_nonneg (by omega)], by omega, by omega⟩
    · exact ⟨(1 + n5 % 20).toNat, by rw [Int.toNat_of_nonneg (by omega)], by omega, by omega⟩
    · exact ⟨(big - (f6 : Int)).toNat, by rw [Int.toNat_of_nonneg (by omega)], by omega, by omega⟩
  clear hv
  have hh7 := r37.keep nhp hh
  have sc7 := sc1.run (r2.trans (r3.trans r37))
  have sq7 := sc7 _ (Run.refl r37.2)
  clear sc7 sc1 r37 r7 r6 r5 r4
  -- the ring
  refine ⟨_, rfl, _, rfl, ?_⟩
  intro r dx nr ndx ner
  refine make_go (E := E0) (b := 0) hh7 (by omega) (by omega) hn ok d1 d2 (by omega) nr ndx ner fun F H8 q8 fr8 e8 => ?_
  rw [Jos.rot_zero] at q8
  have hh8 := e8 _ _ hh7
  have nFh : ¬ F h := fun z => by have := fr8 h z; rw [hh7] at this; cases this
  have scr8 : Scr K H8 a ns F := (Scr.of (B := F) sq7 fun x z => x (fr8 a z)).to (fun o x _ => e8 _ _ x) fun _ x => x
  refine ⟨_, rfl, h, _, rfl, .inl (sq_of hh8), fun ro nro => ?_⟩
  have e9 := Evl.Ex.new (o := .lst (zs.map V.str)) nro
  refine ⟨Nat.zero_le _, fun ga nga => ?_⟩
  have e10 := Evl.Ex.new (o := .lst []) nga
  have hro := e10 _ _ (show _ = some (HO.lst (zs.map V.str)) from upd_same (H := H8) (a := ro))
  have e810 := e9.trans e10
  have nga8 : H8 ga = none := fresh_back e9 nga
  have s0 : S11 K R a ns h zs r D (upd (upd H8 ro (.lst (zs.map V.str))) ga (.lst [])) F ro ga zs [] zs [] := by
    refine ⟨Rep.ex q8 e810, e810 _ _ hh8, hro, upd_same, nFh, Rep.free q8 nro, Rep.free q8 nga8, fun z => ?_, fun z => ?_, fun z => ?_, ?_⟩
    · rw [← z, upd_same] at nga; cases nga
    · rw [← z, nro] at hh8; cases hh8
    · rw [← z, nga8] at hh8; cases hh8
    · refine scr8.to (fun o x _ => e810 _ _ x) fun x m z => ?_
      rcases z with z | z | z
      · exact m z
      · exact x (by rw [z]; exact nro)
      · exact x (by rw [z]; exact nga8)
  have o0 : Own zs zs [] 0 := ⟨by simp, by rw [List.append_nil]; exact hn, fun z hz => .inl (by rw [List.append_nil] at hz; exact hz)⟩
  refine ⟨_, rfl, a, rfl, ⟨_, s0.sc.sq⟩, for_list (xs := ns.map V.int) (fun i σ H' => ∃ F ro L G c y8 y9 y10 y11 y12 y13 y14, σ = Sl a p h D r ro ga c y8 y9 y10 y11 y12 y13 y14 ∧ S11 K R a ns h zs r D H' F ro ga L G L G ∧ Own zs L G c ∧ c ≤ 290)
    ⟨F, ro, zs, [], 0, _, _, _, _, _, _, _, rfl, s0, o0, by decide⟩ ?_ ?_ ?_⟩
  · intro i σ H' _ hP
    obtain ⟨F, ro, L, G, c, _, _, _, _, _, _, _, _, s, _, _⟩ := hP
    exact s.sc.sq
  · intro i x σ H' hx hP
    obtain ⟨F, ro, L, G, c, y8, y9, y10, y11, y12, y13, y14, rfl, s, o, hc⟩ := hP
    obtain ⟨cell, rfl⟩ : ∃ cell : Int, x = .int cell := by
      obtain ⟨z, _, rfl⟩ := List.mem_map.mp (List.mem_of_getElem? hx)
      exact ⟨z, rfl⟩
    exact body_go d1 d2 s o hc (by omega) ok ne fun F' ro' L' G' c' y9 y10 y11 y12 y13 y14 H'' s' o' hc' => ⟨_, _, _, _, _, _, _, _, _, _, _, _, rfl, s', o', hc'⟩
  · intro σ H' hP
    obtain ⟨F, ro, L, G, c, y8, y9, y10, y11, y12, y13, y14, rfl, s, o, hc⟩ := hP
    have ok' := o.ok (by omega) ok
    have okL : (L.map V.str).all plain = true := str_plain fun z hz => ok' z (List.mem_append_left _ hz)
    have okG : (G.map V.str).all plain = true := str_plain fun z hz => ok' z (List.mem_append_right _ hz)
    refine ⟨_, rfl, ?_⟩
    refine meth_of (m := "left") (by simp) s.ring ?_
    show sLeftM R [.ref r] H' _ E0
    refine left_go s.ring fun u G1 nu g1 hu => ?_
    have s1 := s.ex g1
    refine ⟨_, rfl, ?_⟩
    refine same_go (sq_of hu) (sq_of s1.hr) okL ⟨_, rfl, iteC (fun _ => ?_) (fun c => by cases c)⟩
    refine ⟨_, rfl, ?_⟩
    refine meth_of (m := "gone") (by simp) s1.ring ?_
    show sGoneM R [.ref r] G1 _ E0
    refine gone_go s1.ring fun v G2 nv g2 hv => ?_
    have s2 := s1.ex g2
    refine ⟨_, rfl, ?_⟩
    refine same_go (sq_of hv) (sq_of s2.hg) okG ⟨_, rfl, iteC (fun _ => ?_) (fun c => by cases c)⟩
    refine ⟨_, rfl, ro, _, rfl, .inl (sq_of s2.hr), _, rfl, ga, _, rfl, .inl (sq_of s2.hg), _, _, rfl, rfl, ?_⟩
    refine ⟨_, rfl, h, _, rfl, .inl (sq_of s2.hh), _, rfl, _, _, rfl, rfl, rfl, ?_⟩
    have hl := o.len
    have eq : (((L.map V.str).length : Int) + ((G.map V.str).length : Int)) = (((zs.map V.str).length : Int) + (c : Int)) := by
      rw [List.length_map, List.length_map, List.length_map]; omega
    have et := decide_eq_true (congrArg V.int eq)
    exact et ▸ k _
end K11
end Cd

set_option Elab.async false
set_option linter.all false
set_option maxRecDepth 100000
set_option maxHeartbeats 4000000
namespace R11
open PySem PySem.Spec PyProof.Rows L2 Cd Tx Kp Mx
open Cd.K11
def topS (i : Nat) : Stmt := PySem.Challenge.pw_countout_k11_whole_ring_hand_by_hand.main.body.getD i (.Pass ⟨0, 0, 0, 0⟩)
abbrev s_is_whole : Stmt := topS 12
theorem sc_is_whole : FnScope ["thing", "low", "high"] ["thing", "low", "high"] (defScope s_is_whole) := ⟨rfl, rfl, rfl, by decide +kernel, rfl, by decide +kernel, by decide +kernel⟩
abbrev s_check_step : Stmt := topS 13
theorem sc_check_step : FnScope ["step", "most"] ["step", "most"] (defScope s_check_step) := ⟨rfl, rfl, rfl, by decide +kernel, rfl, by decide +kernel, by decide +kernel⟩
abbrev s_check_place : Stmt := topS 14
theorem sc_check_place : FnScope ["place", "many"] ["place", "many"] (defScope s_check_place) := ⟨rfl, rfl, rfl, by decide +kernel, rfl, by decide +kernel, by decide +kernel⟩
abbrev s_check_count : Stmt := topS 15
theorem sc_check_count : FnScope ["count", "low", "high"] ["count", "low", "high"] (defScope s_check_count) := ⟨rfl, rfl, rfl, by decide +kernel, rfl, by decide +kernel, by decide +kernel⟩
abbrev s_is_ring : Stmt := topS 18
theorem sc_is_ring : FnScope ["thing", "hand"] ["thing"] (defScope s_is_ring) := ⟨rfl, rfl, rfl, by decide +kernel, rfl, by decide +kernel, by decide +kernel⟩
abbrev s_check_laid : Stmt := topS 19
theorem sc_check_laid : FnScope ["hands", "step", "begin"] ["hands", "step", "begin"] (defScope s_check_laid) := ⟨rfl, rfl, rfl, by decide +kernel, rfl, by decide +kernel, by decide +kernel⟩
abbrev s_counted_out : Stmt := topS 20
theorem sc_counted_out : FnScope ["hands", "step", "begin", "left", "gone", "at"] ["hands", "step", "begin"] (defScope s_counted_out) := ⟨rfl, rfl, rfl, by decide +kernel, rfl, by decide +kernel, by decide +kernel⟩
abbrev s_goes_next : Stmt := topS 21
theorem sc_goes_next : FnScope ["many", "step", "begin"] ["many", "step", "begin"] (defScope s_goes_next) := ⟨rfl, rfl, rfl, by decide +kernel, rfl, by decide +kernel, by decide +kernel⟩
abbrev s_Ring___init__ : Stmt := inClass (topS 24) 0
theorem sc_Ring___init__ : FnScope ["self", "hands", "step", "begin"] ["self", "hands", "step", "begin"] (defScope s_Ring___init__) := ⟨rfl, rfl, rfl, by decide +kernel, rfl, by decide +kernel, by decide +kernel⟩
abbrev s_Ring_left : Stmt := inClass (topS 24) 1
theorem sc_Ring_left : FnScope ["self"] ["self"] (defScope s_Ring_left) := ⟨rfl, rfl, rfl, by decide +kernel, rfl, by decide +kernel, by decide +kernel⟩
abbrev s_Ring_gone : Stmt := inClass (topS 24) 2
theorem sc_Ring_gone : FnScope ["self"] ["self"] (defScope s_Ring_gone) := ⟨rfl, rfl, rfl, by decide +kernel, rfl, by decide +kernel, by decide +kernel⟩
abbrev s_Ring_counts : Stmt := inClass (topS 24) 4
theorem sc_Ring_counts : FnScope ["self", "many", "_"] ["self", "many"] (defScope s_Ring_counts) := ⟨rfl, rfl, rfl, by decide +kernel, rfl, by decide +kernel, by decide +kernel⟩
abbrev s_Ring_come : Stmt := inClass (topS 24) 5
theorem sc_Ring_come : FnScope ["self", "hand", "place", "at"] ["self", "hand", "place"] (defScope s_Ring_come) := ⟨rfl, rfl, rfl, by decide +kernel, rfl, by decide +kernel, by decide +kernel⟩
abbrev s_Ring_last : Stmt := inClass (topS 24) 7
theorem sc_Ring_last : FnScope ["self"] ["self"] (defScope s_Ring_last) := ⟨rfl, rfl, rfl, by decide +kernel, rfl, by decide +kernel, by decide +kernel⟩
abbrev s_Ring__row : Stmt := inClass (topS 24) 8
theorem sc_Ring__row : FnScope ["self"] ["self"] (defScope s_Ring__row) := ⟨rfl, rfl, rfl, by decide +kernel, rfl, by decide +kernel, by decide +kernel⟩
abbrev s_Ring__go_on : Stmt := inClass (topS 24) 9
theorem sc_Ring__go_on : FnScope ["self", "at", "hand"] ["self"] (defScope s_Ring__go_on) := ⟨rfl, rfl, rfl, by decide +kernel, rfl, by decide +kernel, by decide +kernel⟩
abbrev s__law_cell_at : Stmt := topS 26
theorem sc__law_cell_at : FnScope ["_law_script", "_law_k"] ["_law_script", "_law_k"] (defScope s__law_cell_at) := ⟨rfl, rfl, rfl, by decide +kernel, rfl, by decide +kernel, by decide +kernel⟩
abbrev s__law_next : Stmt := topS 27
theorem sc__law_next : FnScope ["_law_state_here"] ["_law_state_here"] (defScope s__law_next) := ⟨rfl, rfl, rfl, by decide +kernel, rfl, by decide +kernel, by decide +kernel⟩
abbrev s__law_state : Stmt := topS 28
theorem sc__law_state : FnScope ["_law_script", "_law_first"] ["_law_script", "_law_first"] (defScope s__law_state) := ⟨rfl, rfl, rfl, by decide +kernel, rfl, by decide +kernel, by decide +kernel⟩
abbrev s__law_of : Stmt := topS 29
theorem sc__law_of : FnScope ["_law_state_here", "_law_some"] ["_law_state_here", "_law_some"] (defScope s__law_of) := ⟨rfl, rfl, rfl, by decide +kernel, rfl, by decide +kernel, by decide +kernel⟩
abbrev s__law_far : Stmt := topS 30
theorem sc__law_far : FnScope ["_law_state_here", "_law_many", "_law_found", "_law_k"] ["_law_state_here", "_law_many"] (defScope s__law_far) := ⟨rfl, rfl, rfl, by decide +kernel, rfl, by decide +kernel, by decide +kernel⟩
abbrev s__law_hands : Stmt := topS 31
theorem sc__law_hands : FnScope ["_law_state_here", "_law_many", "_law_way", "_law_base", "_law_k", "_law_found"] ["_law_state_here", "_law_many"] (defScope s__law_hands) := ⟨rfl, rfl, rfl, by decide +kernel, rfl, by decide +kernel, by decide +kernel⟩
abbrev s_law : Stmt := topS 33
theorem sc_law : FnScope ["_law_script", "_law_state_here", "_law_hands_here", "_law_step_here", "_law_ring", "_law_row", "_law_gone", "_law_came", "_law_cell", "_law_way", "_law_told", "_law_hand", "_law_passed", "_law_place", "_law_beside"] ["_law_script"] (defScope s_law) := ⟨rfl, rfl, rfl, by decide +kernel, rfl, by decide +kernel, by decide +kernel⟩
structure Ad where
  f_is_whole : Addr
  f_check_step : Addr
  f_check_place : Addr
  f_check_count : Addr
  f_is_ring : Addr
  f_check_laid : Addr
  f_counted_out : Addr
  f_goes_next : Addr
  f_Ring___init__ : Addr
  f_Ring_left : Addr
  f_Ring_gone : Addr
  f_Ring_counts : Addr
  f_Ring_come : Addr
  f_Ring_last : Addr
  f_Ring__row : Addr
  f_Ring__go_on : Addr
  f__law_cell_at : Addr
  f__law_next : Addr
  f__law_state : Addr
  f__law_of : Addr
  f__law_far : Addr
  f__law_hands : Addr
  f_law : Addr
  c_CountError : Addr
  c_NoCount : Addr
  c_NoHand : Addr
  c_NoPlace : Addr
  c_NoRing : Addr
  c_NoStep : Addr
  c_TooMany : Addr
  c_TwiceTold : Addr
  c_Ring : Addr
def Ad.cs (A : Ad) : Cs := ⟨A.c_NoRing, A.f_law, A.c_NoStep, A.c_NoPlace, A.c_NoCount, A.c_NoHand, A.c_TwiceTold, A.c_TooMany, A.c_CountError⟩
structure Fd where
  d_is_whole : FuncData
  d_check_step : FuncData
  d_check_place : FuncData
  d_check_count : FuncData
  d_is_ring : FuncData
  d_check_laid : FuncData
  d_counted_out : FuncData
  d_goes_next : FuncData
  d_Ring___init__ : FuncData
  d_Ring_left : FuncData
  d_Ring_gone : FuncData
  d_Ring_counts : FuncData
  d_Ring_come : FuncData
  d_Ring_last : FuncData
  d_Ring__row : FuncData
  d_Ring__go_on : FuncData
  d__law_cell_at : FuncData
  d__law_next : FuncData
  d__law_state : FuncData
  d__law_of : FuncData
  d__law_far : FuncData
  d__law_hands : FuncData
  d_law : FuncData
structure Txt (K : PySem.W.Frag) (mg : Str → Option Value) (A : Ad) : Prop where
  b_all : mg "all" = none
  b_bool : mg "bool" = none
  b_int : mg "int" = none
  b_isinstance : mg "isinstance" = none
  b_len : mg "len" = none
  b_list : mg "list" = none
  b_min : mg "min" = none
  b_range : mg "range" = none
  b_set : mg "set" = none
  b_str : mg "str" = none
  c_GREATEST : ∃ t, mg "GREATEST" = some (.int (1000000000000000000000000000000000000000000000000000000000000) t)
  c_MOST_EVER : ∃ t, mg "MOST_EVER" = some (.int (400) t)
  c_MOST_HANDS : ∃ t, mg "MOST_HANDS" = some (.int (200) t)
  g_is_whole : mg "is_whole" = some (.ref A.f_is_whole)
  k_is_whole : PySem.W.keepIn K (.ref A.f_is_whole) = true
  g_check_step : mg "check_step" = some (.ref A.f_check_step)
  k_check_step : PySem.W.keepIn K (.ref A.f_check_step) = true
  g_check_place : mg "check_place" = some (.ref A.f_check_place)
  k_check_place : PySem.W.keepIn K (.ref A.f_check_place) = true
  g_check_count : mg "check_count" = some (.ref A.f_check_count)
  k_check_count : PySem.W.keepIn K (.ref A.f_check_count) = true
  g_is_ring : mg "is_ring" = some (.ref A.f_is_ring)
  k_is_ring : PySem.W.keepIn K (.ref A.f_is_ring) = true
  g_check_laid : mg "check_laid" = some (.ref A.f_check_laid)
  k_check_laid : PySem.W.keepIn K (.ref A.f_check_laid) = true
  g_counted_out : mg "counted_out" = some (.ref A.f_counted_out)
  k_counted_out : PySem.W.keepIn K (.ref A.f_counted_out) = true
  g_goes_next : mg "goes_next" = some (.ref A.f_goes_next)
  k_goes_next : PySem.W.keepIn K (.ref A.f_goes_next) = true
  g__law_cell_at : mg "_law_cell_at" = some (.ref A.f__law_cell_at)
  k__law_cell_at : PySem.W.keepIn K (.ref A.f__law_cell_at) = true
  g__law_next : mg "_law_next" = some (.ref A.f__law_next)
  k__law_next : PySem.W.keepIn K (.ref A.f__law_next) = true
  g__law_state : mg "_law_state" = some (.ref A.f__law_state)
  k__law_state : PySem.W.keepIn K (.ref A.f__law_state) = true
  g__law_of : mg "_law_of" = some (.ref A.f__law_of)
  k__law_of : PySem.W.keepIn K (.ref A.f__law_of) = true
  g__law_far : mg "_law_far" = some (.ref A.f__law_far)
  k__law_far : PySem.W.keepIn K (.ref A.f__law_far) = true
  g__law_hands : mg "_law_hands" = some (.ref A.f__law_hands)
  k__law_hands : PySem.W.keepIn K (.ref A.f__law_hands) = true
  g_law : mg "law" = some (.ref A.f_law)
  k_law : PySem.W.keepIn K (.ref A.f_law) = true
  g_Ring : mg "Ring" = some (.ref A.c_Ring)
  cls_Ring : Cls K A.c_Ring
  mk_Ring : Mk K A.c_Ring A.f_Ring___init__
  rf_Ring : RF K A.c_Ring
  me_Ring_left : Meth K A.c_Ring "left" A.f_Ring_left
  me_Ring_gone : Meth K A.c_Ring "gone" A.f_Ring_gone
  me_Ring_counts : Meth K A.c_Ring "counts" A.f_Ring_counts
  me_Ring_come : Meth K A.c_Ring "come" A.f_Ring_come
  me_Ring_last : Meth K A.c_Ring "last" A.f_Ring_last
  me_Ring__row : Meth K A.c_Ring "_row" A.f_Ring__row
  me_Ring__go_on : Meth K A.c_Ring "_go_on" A.f_Ring__go_on
  g_CountError : mg "CountError" = some (.ref A.c_CountError)
  k_CountError : PySem.W.keepIn K (.ref A.c_CountError) = true
  x_CountError : PySem.W.excIn K A.c_CountError [.type "ValueError", .type "Exception", .type "BaseException", .type "object"] "ValueError.__new__" = true
  bb_CountError : PySem.W.subIn K (.ref A.c_CountError) (.type "BaseException") = some true
  t_CountError : PySem.W.typeIn K (.ref A.c_CountError) = some (.type "type")
  g_NoCount : mg "NoCount" = some (.ref A.c_NoCount)
  k_NoCount : PySem.W.keepIn K (.ref A.c_NoCount) = true
  x_NoCount : PySem.W.excIn K A.c_NoCount [.type "ValueError", .type "Exception", .type "BaseException", .type "object"] "ValueError.__new__" = true
  bb_NoCount : PySem.W.subIn K (.ref A.c_NoCount) (.type "BaseException") = some true
  t_NoCount : PySem.W.typeIn K (.ref A.c_NoCount) = some (.type "type")
  g_NoHand : mg "NoHand" = some (.ref A.c_NoHand)
  k_NoHand : PySem.W.keepIn K (.ref A.c_NoHand) = true
  x_NoHand : PySem.W.excIn K A.c_NoHand [.type "ValueError", .type "Exception", .type "BaseException", .type "object"] "ValueError.__new__" = true
  bb_NoHand : PySem.W.subIn K (.ref A.c_NoHand) (.type "BaseException") = some true
  t_NoHand : PySem.W.typeIn K (.ref A.c_NoHand) = some (.type "type")
  g_NoPlace : mg "NoPlace" = some (.ref A.c_NoPlace)
  k_NoPlace : PySem.W.keepIn K (.ref A.c_NoPlace) = true
  x_NoPlace : PySem.W.excIn K A.c_NoPlace [.type "ValueError", .type "Exception", .type "BaseException", .type "object"] "ValueError.__new__" = true
  bb_NoPlace : PySem.W.subIn K (.ref A.c_NoPlace) (.type "BaseException") = some true
  t_NoPlace : PySem.W.typeIn K (.ref A.c_NoPlace) = some (.type "type")
  g_NoRing : mg "NoRing" = some (.ref A.c_NoRing)
  k_NoRing : PySem.W.keepIn K (.ref A.c_NoRing) = true
  x_NoRing : PySem.W.excIn K A.c_NoRing [.type "ValueError", .type "Exception", .type "BaseException", .type "object"] "ValueError.__new__" = true
  bb_NoRing : PySem.W.subIn K (.ref A.c_NoRing) (.type "BaseException") = some true
  t_NoRing : PySem.W.typeIn K (.ref A.c_NoRing) = some (.type "type")
  g_NoStep : mg "NoStep" = some (.ref A.c_NoStep)
  k_NoStep : PySem.W.keepIn K (.ref A.c_NoStep) = true
  x_NoStep : PySem.W.excIn K A.c_NoStep [.type "ValueError", .type "Exception", .type "BaseException", .type "object"] "ValueError.__new__" = true
  bb_NoStep : PySem.W.subIn K (.ref A.c_NoStep) (.type "BaseException") = some true
  t_NoStep : PySem.W.typeIn K (.ref A.c_NoStep) = some (.type "type")
  g_TooMany : mg "TooMany" = some (.ref A.c_TooMany)
  k_TooMany : PySem.W.keepIn K (.ref A.c_TooMany) = true
  x_TooMany : PySem.W.excIn K A.c_TooMany [.type "ValueError", .type "Exception", .type "BaseException", .type "object"] "ValueError.__new__" = true
  bb_TooMany : PySem.W.subIn K (.ref A.c_TooMany) (.type "BaseException") = some true
  t_TooMany : PySem.W.typeIn K (.ref A.c_TooMany) = some (.type "type")
  g_TwiceTold : mg "TwiceTold" = some (.ref A.c_TwiceTold)
  k_TwiceTold : PySem.W.keepIn K (.ref A.c_TwiceTold) = true
  x_TwiceTold : PySem.W.excIn K A.c_TwiceTold [.type "ValueError", .type "Exception", .type "BaseException", .type "object"] "ValueError.__new__" = true
  bb_TwiceTold : PySem.W.subIn K (.ref A.c_TwiceTold) (.type "BaseException") = some true
  t_TwiceTold : PySem.W.typeIn K (.ref A.c_TwiceTold) = some (.type "type")
structure Funs (K : PySem.W.Frag) (A : Ad) (D : Fd) : Prop where
  f_is_whole : Fun K "is_whole" "is_whole" s_is_whole A.f_is_whole D.d_is_whole
  f_check_step : Fun K "check_step" "check_step" s_check_step A.f_check_step D.d_check_step
  f_check_place : Fun K "check_place" "check_place" s_check_place A.f_check_place D.d_check_place
  f_check_count : Fun K "check_count" "check_count" s_check_count A.f_check_count D.d_check_count
  f_is_ring : Fun K "is_ring" "is_ring" s_is_ring A.f_is_ring D.d_is_ring
  f_check_laid : Fun K "check_laid" "check_laid" s_check_laid A.f_check_laid D.d_check_laid
  f_counted_out : Fun K "counted_out" "counted_out" s_counted_out A.f_counted_out D.d_counted_out
  f_goes_next : Fun K "goes_next" "goes_next" s_goes_next A.f_goes_next D.d_goes_next
  f_Ring___init__ : FunD K "__init__" "Ring.__init__" (defArgs s_Ring___init__) (defBody s_Ring___init__) (defScope s_Ring___init__) [.int 0] [] A.f_Ring___init__ D.d_Ring___init__
  f_Ring_left : Fun K "left" "Ring.left" s_Ring_left A.f_Ring_left D.d_Ring_left
  f_Ring_gone : Fun K "gone" "Ring.gone" s_Ring_gone A.f_Ring_gone D.d_Ring_gone
  f_Ring_counts : Fun K "counts" "Ring.counts" s_Ring_counts A.f_Ring_counts D.d_Ring_counts
  f_Ring_come : FunD K "come" "Ring.come" (defArgs s_Ring_come) (defBody s_Ring_come) (defScope s_Ring_come) [.non] [] A.f_Ring_come D.d_Ring_come
  f_Ring_last : Fun K "last" "Ring.last" s_Ring_last A.f_Ring_last D.d_Ring_last
  f_Ring__row : Fun K "_row" "Ring._row" s_Ring__row A.f_Ring__row D.d_Ring__row
  f_Ring__go_on : Fun K "_go_on" "Ring._go_on" s_Ring__go_on A.f_Ring__go_on D.d_Ring__go_on
  f__law_cell_at : Fun K "_law_cell_at" "_law_cell_at" s__law_cell_at A.f__law_cell_at D.d__law_cell_at
  f__law_next : Fun K "_law_next" "_law_next" s__law_next A.f__law_next D.d__law_next
  f__law_state : Fun K "_law_state" "_law_state" s__law_state A.f__law_state D.d__law_state
  f__law_of : Fun K "_law_of" "_law_of" s__law_of A.f__law_of D.d__law_of
  f__law_far : Fun K "_law_far" "_law_far" s__law_far A.f__law_far D.d__law_far
  f__law_hands : Fun K "_law_hands" "_law_hands" s__law_hands A.f__law_hands D.d__law_hands
  f_law : Fun K "law" "law" s_law A.f_law D.d_law
section
variable {P : Program} {w : World} {K : PySem.W.Frag} {mg : Str → Option Value} {base : Heap} {A : Ad} {D : Fd}
theorem ok_is_whole (F : Funs K A D) (T : Txt K mg A) : FnOk P w K mg base CX0 1 A.f_is_whole D.d_is_whole ["thing", "low", "high"] (sIsW K) := by
  refine F.f_is_whole.ok sc_is_whole (fun vs H Q E h => ?_) (fun cdv Ar outer s H vs Q E hr h => ⟨t_is_whole K, ?_, pure_is_whole h⟩)
  · obtain ⟨_, _, _, rfl, _⟩ := h; rfl
  · have S := sc_is_whole
    exact (pss_one (ps_ret (pe_and (pe_callB call_isi (by rfl) T.b_isinstance (by decide +kernel) (pa_cons (pv 0) (pa_cons (pe_bltn (v := .ty "int") (by rfl) T.b_int (by decide +kernel) rfl) pa_nil))) (pe_and (pe_not (pe_callB call_isi (by rfl) T.b_isinstance (by decide +kernel) (pa_cons (pv 0) (pa_cons (pe_bltn (v := .ty "bool") (by rfl) T.b_bool (by decide +kernel) rfl) pa_nil)))) (pe_one (pe_chain op_le op_le (pv 1) (pv 0) (pv 2)))))))
theorem ok_check_step (F : Funs K A D) (T : Txt K mg A) : FnOk P w K mg base (L2.CX P w) 2 A.f_check_step D.d_check_step ["step", "most"] (sCk1 K A.c_NoStep) := by
  have G_is_whole := ok_is_whole (P := P) (w := w) (mg := mg) (base := base) F T
  have V_is_whole_3 : Vals [] [] := .nil
  have B_is_whole_3 := F.f_is_whole.binds (ps := ["thing", "low", "high"]) fun _ _ _ _ _ _ us hl => match us, hl with | [_, _, _], _ => rfl
  refine F.f_check_step.okX sc_check_step (fun vs H Q E h => ?_) (fun cdv Ar outer s H vs Q E hr h => ⟨t_check_many K A.c_NoStep E, ?_, pure_ck1 rfl h⟩)
  · obtain ⟨_, _, rfl, _⟩ := h; rfl
  · have S := sc_check_step
    exact (pss_one (ps_if (pt_not (pt_val (pe_call G_is_whole (hr.mono (by decide)) (by rfl) T.g_is_whole T.k_is_whole B_is_whole_3 V_is_whole_3 pass0 (pa_cons (pv 0) (pa_cons pe_int (pa_cons (pv 1) pa_nil))))))
      (pss_one (ps_raise rfl (takes_of rfl rfl rfl rfl) (pmk_own PySem.F.excBase_ValueError T.x_NoStep T.g_NoStep T.k_NoStep (raises_own T.bb_NoStep T.t_NoStep) (by exact rfl))))
      pss_nil))
theorem ok_check_place (F : Funs K A D) (T : Txt K mg A) : FnOk P w K mg base (L2.CX P w) 2 A.f_check_place D.d_check_place ["place", "many"] (sCkP K A.c_NoPlace) := by
  have G_is_whole := ok_is_whole (P := P) (w := w) (mg := mg) (base := base) F T
  have V_is_whole_3 : Vals [] [] := .nil
  have B_is_whole_3 := F.f_is_whole.binds (ps := ["thing", "low", "high"]) fun _ _ _ _ _ _ us hl => match us, hl with | [_, _, _], _ => rfl
  refine F.f_check_place.okX sc_check_place (fun vs H Q E h => ?_) (fun cdv Ar outer s H vs Q E hr h => ⟨t_check_place K A.c_NoPlace E, ?_, pure_check_place h⟩)
  · obtain ⟨_, _, rfl, _⟩ := h; rfl
  · have S := sc_check_place
    exact (pss_one (ps_if (pt_not (pt_val (pe_call G_is_whole (hr.mono (by decide)) (by rfl) T.g_is_whole T.k_is_whole B_is_whole_3 V_is_whole_3 pass0 (pa_cons (pv 0) (pa_cons pe_int (pa_cons (pe_op op_sub (pv 1) pe_int) pa_nil))))))
      (pss_one (ps_raise rfl (takes_of rfl rfl rfl rfl) (pmk_own PySem.F.excBase_ValueError T.x_NoPlace T.g_NoPlace T.k_NoPlace (raises_own T.bb_NoPlace T.t_NoPlace) (by exact rfl))))
      pss_nil))
theorem ok_check_count (F : Funs K A D) (T : Txt K mg A) : FnOk P w K mg base (L2.CX P w) 2 A.f_check_count D.d_check_count ["count", "low", "high"] (sCkC K A.c_NoCount) := by
  have G_is_whole := ok_is_whole (P := P) (w := w) (mg := mg) (base := base) F T
  have V_is_whole_3 : Vals [] [] := .nil
  have B_is_whole_3 := F.f_is_whole.binds (ps := ["thing", "low", "high"]) fun _ _ _ _ _ _ us hl => match us, hl with | [_, _, _], _ => rfl
  refine F.f_check_count.okX sc_check_count (fun vs H Q E h => ?_) (fun cdv Ar outer s H vs Q E hr h => ⟨t_check_count K A.c_NoCount E, ?_, pure_check_count h⟩)
  · obtain ⟨_, _, _, rfl, _⟩ := h; rfl
  · have S := sc_check_count
    exact (pss_one (ps_if (pt_not (pt_val (pe_call G_is_whole (hr.mono (by decide)) (by rfl) T.g_is_whole T.k_is_whole B_is_whole_3 V_is_whole_3 pass0 (pa_cons (pv 0) (pa_cons (pv 1) (pa_cons (pv 2) pa_nil))))))
      (pss_one (ps_raise rfl (takes_of rfl rfl rfl rfl) (pmk_own PySem.F.excBase_ValueError T.x_NoCount T.g_NoCount T.k_NoCount (raises_own T.bb_NoCount T.t_NoCount) (by exact rfl))))
      pss_nil))
theorem ok_is_ring (F : Funs K A D) (T : Txt K mg A) : FnOk P w K mg base CX0 2 A.f_is_ring D.d_is_ring ["thing"] (sIsRing K) := by
  have G_is_whole := ok_is_whole (P := P) (w := w) (mg := mg) (base := base) F T
  have V_is_whole_3 : Vals [] [] := .nil
  have B_is_whole_3 := F.f_is_whole.binds (ps := ["thing", "low", "high"]) fun _ _ _ _ _ _ us hl => match us, hl with | [_, _, _], _ => rfl
  refine F.f_is_ring.ok sc_is_ring (fun vs H Q E h => ?_) (fun cdv Ar outer s H vs Q E hr h => ⟨t_is_ring K P w, ?_, pure_is_ring h⟩)
  · obtain ⟨_, rfl, _⟩ := h; rfl
  · have S := sc_is_ring
    exact (pss_cons (ps_if (PW.pt (pw_or (pt_not (pt_val (pe_callB call_isi (by rfl) T.b_isinstance (by decide +kernel) (pa_cons (pv 0) (pa_cons (pe_bltn (v := .ty "list") (by rfl) T.b_list (by decide +kernel) rfl) pa_nil))))) (pw_or1 (pt_not (pt_val (pe_call G_is_whole (hr.mono (by decide)) (by rfl) T.g_is_whole T.k_is_whole B_is_whole_3 V_is_whole_3 pass0 (pa_cons (pe_callB call_len_seq (by rfl) T.b_len PySem.boot_len (pa_cons (pv 0) pa_nil)) (pa_cons pe_int (pa_cons (pe_glob rfl T.c_MOST_HANDS.choose_spec ⟨_, rfl⟩) pa_nil)))))))))
      (pss_one (ps_ret pe_bl))
      pss_nil)
      (pss_one (ps_ret (pe_and (pe_callB (cr_all rfl) (by rfl) T.b_all (by decide +kernel) (pa_cons (pe_lc (own := [("hand", 1)]) (g := gName 1) (tt := tYes) rfl S.nd (pi_list (pv 0)) (blkOk_by (N := ["thing", "hand"]) (sc := defScope s_is_ring) (by decide +kernel)) (fun _ _ _ _ _ => pg_name (i := 1) S.nd rfl (Or.inl rfl)) (fun _ _ _ _ _ => pts_nil) (fun _ _ _ _ _ => (pe_callB call_isi (by rfl) T.b_isinstance (by decide +kernel) (pa_cons (pv 1) (pa_cons (pe_bltn (v := .ty "str") (by rfl) T.b_str (by decide +kernel) rfl) pa_nil))))) pa_nil)) (pe_one (pe_cmpR op_eq (pe_callB cr_lenT (by rfl) T.b_len PySem.boot_len (pa_cons (pe_callTy (cr_setT rfl) (by rfl) T.b_set (by decide +kernel) (pa_cons (pv 0) pa_nil)) pa_nil)) (pe_callB call_len_seq (by rfl) T.b_len PySem.boot_len (pa_cons (pv 0) pa_nil)) (nomark _)))))))
theorem ok_check_laid (F : Funs K A D) (T : Txt K mg A) : FnOk P w K mg base (L2.CX P w) 3 A.f_check_laid D.d_check_laid ["hands", "step", "begin"] (sLaid K A.c_NoRing A.c_NoStep A.c_NoPlace) := by
  have G_is_ring := ok_is_ring (P := P) (w := w) (mg := mg) (base := base) F T
  have G_check_step := ok_check_step (P := P) (w := w) (mg := mg) (base := base) F T
  have G_check_place := ok_check_place (P := P) (w := w) (mg := mg) (base := base) F T
  have V_check_place_2 : Vals [] [] := .nil
  have B_check_place_2 := F.f_check_place.binds (ps := ["place", "many"]) fun _ _ _ _ _ _ us hl => match us, hl with | [_, _], _ => rfl
  have V_check_step_2 : Vals [] [] := .nil
  have B_check_step_2 := F.f_check_step.binds (ps := ["step", "most"]) fun _ _ _ _ _ _ us hl => match us, hl with | [_, _], _ => rfl
  have V_is_ring_1 : Vals [] [] := .nil
  have B_is_ring_1 := F.f_is_ring.binds (ps := ["thing"]) fun _ _ _ _ _ _ us hl => match us, hl with | [_], _ => rfl
  refine F.f_check_laid.okX sc_check_laid (fun vs H Q E h => ?_) (fun cdv Ar outer s H vs Q E hr h => ⟨t_check_laid K A.c_NoRing A.c_NoStep A.c_NoPlace E, ?_, pure_check_laid h⟩)
  · unfold sLaid at h; obtain ⟨_, _, _, rfl, _⟩ := h; rfl
  · have S := sc_check_laid
    exact (pss_cons (ps_if (pt_not (pt_val (pe_call G_is_ring (hr.mono (by decide)) (by rfl) T.g_is_ring T.k_is_ring B_is_ring_1 V_is_ring_1 pass0 (pa_cons (pv 0) pa_nil))))
      (pss_one (ps_raise rfl (takes_of rfl rfl rfl rfl) (pmk_own PySem.F.excBase_ValueError T.x_NoRing T.g_NoRing T.k_NoRing (raises_own T.bb_NoRing T.t_NoRing) (by exact rfl))))
      pss_nil)
      (pss_cons (ps_expr (pe_call G_check_step (hr.mono (by decide)) (by rfl) T.g_check_step T.k_check_step B_check_step_2 V_check_step_2 (passes_call (takes_of rfl rfl rfl rfl) (fun _ _ _ _ h => h)) (pa_cons (pv 1) (pa_cons (pe_glob rfl T.c_GREATEST.choose_spec ⟨_, rfl⟩) pa_nil))))
      (pss_one (ps_expr (pe_call G_check_place (hr.mono (by decide)) (by rfl) T.g_check_place T.k_check_place B_check_place_2 V_check_place_2 (passes_call (takes_of rfl rfl rfl rfl) (fun _ _ _ _ h => h)) (pa_cons (pv 2) (pa_cons (pe_callB call_len_seq (by rfl) T.b_len PySem.boot_len (pa_cons (pv 0) pa_nil)) pa_nil)))))))
theorem ok_goes_next (F : Funs K A D) (T : Txt K mg A) : FnOk P w K mg base CX0 1 A.f_goes_next D.d_goes_next ["many", "step", "begin"] sGN := by
  refine F.f_goes_next.ok sc_goes_next (fun vs H Q E h => ?_) (fun cdv Ar outer s H vs Q E hr h => ⟨t_goes_next, ?_, pure_goes_next h⟩)
  · obtain ⟨_, _, _, rfl, _⟩ := h; rfl
  · have S := sc_goes_next
    exact (pss_one (ps_ret (pe_op op_mod (pe_op op_sub (pe_op op_add (pv 2) (pv 1)) pe_int) (pv 0))))
theorem ok_counted_out (F : Funs K A D) (T : Txt K mg A) : FnOk P w K mg base CX0 2 A.f_counted_out D.d_counted_out ["hands", "step", "begin"] (sCtd K) := by
  have G_goes_next := ok_goes_next (P := P) (w := w) (mg := mg) (base := base) F T
  have V_goes_next_3 : Vals [] [] := .nil
  have B_goes_next_3 := F.f_goes_next.binds (ps := ["many", "step", "begin"]) fun _ _ _ _ _ _ us hl => match us, hl with | [_, _, _], _ => rfl
  refine F.f_counted_out.ok sc_counted_out (fun vs H Q E h => ?_) (fun cdv Ar outer s H vs Q E hr h => ⟨t_counted_out K, ?_, pure_counted_out h⟩)
  · unfold sCtd at h; obtain ⟨_, _, _, _, rfl, _⟩ := h; rfl
  · have S := sc_counted_out
    exact (pss_cons (ps_set (i := 3) S.nd rfl (Or.inl rfl) (pe_callTy call_list_of (by rfl) T.b_list (by decide +kernel) (pa_cons (pv 0) pa_nil)))
      (pss_cons (ps_set (i := 4) S.nd rfl (Or.inl rfl) (pe_lst pa_nil))
      (pss_cons (ps_set (i := 5) S.nd rfl (Or.inl rfl) (pv 2))
      (pss_cons (ps_while PassesOwn.never (pt_truth (pv 3) (by intro _; rfl))
      (pss_cons (ps_set (i := 5) S.nd rfl (Or.inl rfl) (pe_call G_goes_next (hr.mono (by decide)) (by rfl) T.g_goes_next T.k_goes_next B_goes_next_3 V_goes_next_3 pass0 (pa_cons (pe_callB call_len_seq (by rfl) T.b_len PySem.boot_len (pa_cons (pv 3) pa_nil)) (pa_cons (pv 1) (pa_cons (pv 5) pa_nil)))))
      (pss_one (ps_expr (pe_bm PySem.F.plainAttrs_list PySem.F.slot_list_append PySem.F.type_list_append mt_append (pv 4) (pa_cons (pe_bm PySem.F.plainAttrs_list PySem.F.slot_list_pop PySem.F.type_list_pop mt_popAt (pv 3) (pa_cons (pv 5) pa_nil)) pa_nil))))))
      (pss_one (ps_ret (pv 4)))))))
theorem ok_Ring___init__ (F : Funs K A D) (T : Txt K mg A) : FnOk P w K mg base (L2.CX P w) 4 A.f_Ring___init__ D.d_Ring___init__ ["self", "hands", "step", "begin"] (sInit (RR K A.c_Ring) A.c_NoRing A.c_NoStep A.c_NoPlace) := by
  have G_check_laid := ok_check_laid (P := P) (w := w) (mg := mg) (base := base) F T
  have V_check_laid_3 : Vals [] [] := .nil
  have B_check_laid_3 := F.f_check_laid.binds (ps := ["hands", "step", "begin"]) fun _ _ _ _ _ _ us hl => match us, hl with | [_, _, _], _ => rfl
  refine F.f_Ring___init__.ok (CX := L2.CX P w) sc_Ring___init__ (fun vs H Q E h => ?_) (fun cdv Ar outer s H vs Q E hr h => ⟨Cd.t_init K A.c_NoRing A.c_NoStep A.c_NoPlace E, ?_, Cd.pure_init T.rf_Ring h⟩)
  · unfold sInit at h; obtain ⟨_, _, _, _, _, rfl, _⟩ := h; rfl
  · have S := sc_Ring___init__
    exact (pss_cons (ps_expr (pe_call G_check_laid (hr.mono (by decide)) (by rfl) T.g_check_laid T.k_check_laid B_check_laid_3 V_check_laid_3 (passes_call (takes_of rfl rfl rfl rfl) (fun _ _ _ _ h => h)) (pa_cons (pv 1) (pa_cons (pv 2) (pa_cons (pv 3) pa_nil)))))
      (pss_cons (ps_fld (pv 0) (pe_op op_cat (pe_slice sl_list (pv 1) (po_some (pv 3)) po_none) (pe_slice sl_list (pv 1) po_none (po_some (pv 3)))) rfl)
      (pss_cons (ps_fld (pv 0) (pe_lst pa_nil) rfl)
      (pss_one (ps_fld (pv 0) (pv 2) rfl)))))
theorem ok_Ring_left (F : Funs K A D) (T : Txt K mg A) : FnOk P w K mg base CX0 1 A.f_Ring_left D.d_Ring_left ["self"] (sLeftM (RR K A.c_Ring)) := by
  refine F.f_Ring_left.ok sc_Ring_left (fun vs H Q E h => ?_) (fun cdv Ar outer s H vs Q E hr h => ⟨Cd.t_left K, ?_, Cd.pure_left T.rf_Ring h⟩)
  · unfold sLeftM at h; obtain ⟨_, _, _, _, _, rfl, _⟩ := h; rfl
  · have S := sc_Ring_left
    exact (pss_one (ps_ret (pe_callTy call_list_of (by rfl) T.b_list (by decide +kernel) (pa_cons (pe_fld (pv 0) rfl) pa_nil))))
theorem ok_Ring_gone (F : Funs K A D) (T : Txt K mg A) : FnOk P w K mg base CX0 1 A.f_Ring_gone D.d_Ring_gone ["self"] (sGoneM (RR K A.c_Ring)) := by
  refine F.f_Ring_gone.ok sc_Ring_gone (fun vs H Q E h => ?_) (fun cdv Ar outer s H vs Q E hr h => ⟨Cd.t_gone K, ?_, Cd.pure_gone T.rf_Ring h⟩)
  · unfold sGoneM at h; obtain ⟨_, _, _, _, _, rfl, _⟩ := h; rfl
  · have S := sc_Ring_gone
    exact (pss_one (ps_ret (pe_callTy call_list_of (by rfl) T.b_list (by decide +kernel) (pa_cons (pe_fld (pv 0) rfl) pa_nil))))
theorem ok_Ring__go_on (F : Funs K A D) (T : Txt K mg A) : FnOk P w K mg base CX0 2 A.f_Ring__go_on D.d_Ring__go_on ["self"] (sGoOn (RR K A.c_Ring)) := by
  have G_goes_next := ok_goes_next (P := P) (w := w) (mg := mg) (base := base) F T
  have V_goes_next_3 : Vals [] [] := .nil
  have B_goes_next_3 := F.f_goes_next.binds (ps := ["many", "step", "begin"]) fun _ _ _ _ _ _ us hl => match us, hl with | [_, _, _], _ => rfl
  refine F.f_Ring__go_on.ok sc_Ring__go_on (fun vs H Q E h => ?_) (fun cdv Ar outer s H vs Q E hr h => ⟨Cd.t_go_on K, ?_, Cd.pure_go_on T.rf_Ring h⟩)
  · unfold sGoOn at h; obtain ⟨_, _, _, _, _, _, _, rfl, _⟩ := h; rfl
  · have S := sc_Ring__go_on
    exact (pss_cons (ps_set (i := 1) S.nd rfl (Or.inl rfl) (pe_call G_goes_next (hr.mono (by decide)) (by rfl) T.g_goes_next T.k_goes_next B_goes_next_3 V_goes_next_3 pass0 (pa_cons (pe_callB call_len_seq (by rfl) T.b_len PySem.boot_len (pa_cons (pe_fld (pv 0) rfl) pa_nil)) (pa_cons (pe_fld (pv 0) rfl) (pa_cons pe_int pa_nil)))))
      (pss_cons (ps_set (i := 2) S.nd rfl (Or.inl rfl) (pe_ix ix_list (pe_fld (pv 0) rfl) (pv 1) (fun _ _ => rfl)))
      (pss_cons (ps_fld (pv 0) (pe_op op_cat (pe_slice sl_list (pe_fld (pv 0) rfl) (po_some (pe_op op_add (pv 1) pe_int)) po_none) (pe_slice sl_list (pe_fld (pv 0) rfl) po_none (po_some (pv 1)))) rfl)
      (pss_cons (ps_expr (pe_bm PySem.F.plainAttrs_list PySem.F.slot_list_append PySem.F.type_list_append mt_append (pe_fld (pv 0) rfl) (pa_cons (pv 2) pa_nil)))
      (pss_one (ps_ret (pv 2)))))))
theorem ok_Ring_counts (F : Funs K A D) (T : Txt K mg A) : FnOk P w K mg base (L2.CX P w) 3 A.f_Ring_counts D.d_Ring_counts ["self", "many"] (sCountsM (RR K A.c_Ring) A.c_NoCount) := by
  have G_check_count := ok_check_count (P := P) (w := w) (mg := mg) (base := base) F T
  have G_Ring__go_on := ok_Ring__go_on (P := P) (w := w) (mg := mg) (base := base) F T
  have V_Ring__go_on_0 : Vals [] [] := .nil
  have B_Ring__go_on_0 := F.f_Ring__go_on.binds (ps := ["self"]) fun _ _ _ _ _ _ us hl => match us, hl with | [_], _ => rfl
  have V_check_count_3 : Vals [] [] := .nil
  have B_check_count_3 := F.f_check_count.binds (ps := ["count", "low", "high"]) fun _ _ _ _ _ _ us hl => match us, hl with | [_, _, _], _ => rfl
  refine F.f_Ring_counts.okX sc_Ring_counts (fun vs H Q E h => ?_) (fun cdv Ar outer s H vs Q E hr h => ⟨Cd.t_counts K A.c_Ring A.c_NoCount E, ?_, Cd.pure_counts T.rf_Ring h⟩)
  · unfold sCountsM at h; obtain ⟨_, _, _, _, _, _, rfl, _⟩ := h; rfl
  · have S := sc_Ring_counts
    exact (pss_cons (ps_expr (pe_call G_check_count (hr.mono (by decide)) (by rfl) T.g_check_count T.k_check_count B_check_count_3 V_check_count_3 (passes_call (takes_of rfl rfl rfl rfl) (fun _ _ _ _ h => h)) (pa_cons (pv 1) (pa_cons pe_int (pa_cons (pe_callB call_len_seq (by rfl) T.b_len PySem.boot_len (pa_cons (pe_fld (pv 0) rfl) pa_nil)) pa_nil)))))
      (pss_one (ps_ret (pe_lc (own := [("_", 2)]) (g := gName 2) (tt := tYes) rfl S.nd (pi_range1 (by rfl) T.b_range (pa_cons (pv 1) pa_nil)) (blkOk_by (N := ["self", "many", "_"]) (sc := defScope s_Ring_counts) (by decide +kernel)) (fun _ _ _ _ _ => pg_name (i := 2) S.nd rfl (Or.inl rfl)) (fun _ _ _ _ _ => pts_nil) (fun _ _ _ _ _ => (pe_meth0 (pv 0) T.cls_Ring T.me_Ring__go_on G_Ring__go_on (hr.mono (by decide)) B_Ring__go_on_0 V_Ring__go_on_0 pass0))))))
theorem ok_Ring_come (F : Funs K A D) (T : Txt K mg A) : FnOk P w K mg base (L2.CX P w) 3 A.f_Ring_come D.d_Ring_come ["self", "hand", "place"] (sComeM (RR K A.c_Ring) A.cs) := by
  have G_check_place := ok_check_place (P := P) (w := w) (mg := mg) (base := base) F T
  have V_check_place_2 : Vals [] [] := .nil
  have B_check_place_2 := F.f_check_place.binds (ps := ["place", "many"]) fun _ _ _ _ _ _ us hl => match us, hl with | [_, _], _ => rfl
  refine F.f_Ring_come.ok (CX := L2.CX P w) sc_Ring_come (fun vs H Q E h => ?_) (fun cdv Ar outer s H vs Q E hr h => ⟨Cd.t_come K A.cs E, ?_, Cd.pure_come T.rf_Ring h⟩)
  · unfold sComeM at h; obtain ⟨_, _, _, _, _, _, _, rfl, _⟩ := h; rfl
  · have S := sc_Ring_come
    exact (pss_cons (ps_if (pt_not (pt_val (pe_callB call_isi (by rfl) T.b_isinstance (by decide +kernel) (pa_cons (pv 1) (pa_cons (pe_bltn (v := .ty "str") (by rfl) T.b_str (by decide +kernel) rfl) pa_nil)))))
      (pss_one (ps_raise rfl (takes_of rfl rfl rfl rfl) (pmk_own PySem.F.excBase_ValueError T.x_NoHand T.g_NoHand T.k_NoHand (raises_own T.bb_NoHand T.t_NoHand) (by exact rfl))))
      pss_nil)
      (pss_cons (ps_if (PW.pt (pw_or (pt_cmpR op_in_seq (pv 1) (pe_fld (pv 0) rfl) (by rfl)) (pw_or1 (pt_cmpR op_in_seq (pv 1) (pe_fld (pv 0) rfl) (by rfl)))))
      (pss_one (ps_raise rfl (takes_of rfl rfl rfl rfl) (pmk_own PySem.F.excBase_ValueError T.x_TwiceTold T.g_TwiceTold T.k_TwiceTold (raises_own T.bb_TwiceTold T.t_TwiceTold) (by exact rfl))))
      pss_nil)
      (pss_cons (ps_set (i := 3) S.nd rfl (Or.inl rfl) (pe_callB call_len_seq (by rfl) T.b_len PySem.boot_len (pa_cons (pe_fld (pv 0) rfl) pa_nil)))
      (pss_cons (ps_if (pt_cmpR op_notN (pv 2) pe_non (nomark _))
      (pss_cons (ps_expr (pe_call G_check_place (hr.mono (by decide)) (by rfl) T.g_check_place T.k_check_place B_check_place_2 V_check_place_2 (passes_call (takes_of rfl rfl rfl rfl) (fun _ _ _ _ h => h)) (pa_cons (pv 2) (pa_cons (pe_op op_add (pe_callB call_len_seq (by rfl) T.b_len PySem.boot_len (pa_cons (pe_fld (pv 0) rfl) pa_nil)) pe_int) pa_nil))))
      (pss_one (ps_set (i := 3) S.nd rfl (Or.inl rfl) (pv 2))))
      pss_nil)
      (pss_cons (ps_if (pt_cmpR op_ge (pe_op op_add (pe_callB call_len_seq (by rfl) T.b_len PySem.boot_len (pa_cons (pe_fld (pv 0) rfl) pa_nil)) (pe_callB call_len_seq (by rfl) T.b_len PySem.boot_len (pa_cons (pe_fld (pv 0) rfl) pa_nil))) (pe_glob rfl T.c_MOST_EVER.choose_spec ⟨_, rfl⟩) (nomark _))
      (pss_one (ps_raise rfl (takes_of rfl rfl rfl rfl) (pmk_own PySem.F.excBase_ValueError T.x_TooMany T.g_TooMany T.k_TooMany (raises_own T.bb_TooMany T.t_TooMany) (by exact rfl))))
      pss_nil)
      (pss_one (ps_expr (pe_bm PySem.F.plainAttrs_list PySem.F.slot_list_insert PySem.F.type_list_insert mt_insert (pe_fld (pv 0) rfl) (pa_cons (pv 3) (pa_cons (pv 1) pa_nil))))))))))
theorem ok_Ring__row (F : Funs K A D) (T : Txt K mg A) : FnOk P w K mg base CX0 3 A.f_Ring__row D.d_Ring__row ["self"] (sRowM (RR K A.c_Ring)) := by
  have G_counted_out := ok_counted_out (P := P) (w := w) (mg := mg) (base := base) F T
  have V_counted_out_3 : Vals [] [] := .nil
  have B_counted_out_3 := F.f_counted_out.binds (ps := ["hands", "step", "begin"]) fun _ _ _ _ _ _ us hl => match us, hl with | [_, _, _], _ => rfl
  refine F.f_Ring__row.ok sc_Ring__row (fun vs H Q E h => ?_) (fun cdv Ar outer s H vs Q E hr h => ⟨Cd.t_row K, ?_, Cd.pure_row T.rf_Ring h⟩)
  · unfold sRowM at h; obtain ⟨_, _, _, _, _, rfl, _⟩ := h; rfl
  · have S := sc_Ring__row
    exact (pss_one (ps_ret (pe_call G_counted_out (hr.mono (by decide)) (by rfl) T.g_counted_out T.k_counted_out B_counted_out_3 V_counted_out_3 pass0 (pa_cons (pe_fld (pv 0) rfl) (pa_cons (pe_fld (pv 0) rfl) (pa_cons pe_int pa_nil))))))
theorem ok_Ring_last (F : Funs K A D) (T : Txt K mg A) : FnOk P w K mg base (L2.CX P w) 4 A.f_Ring_last D.d_Ring_last ["self"] (sLastM (RR K A.c_Ring) A.c_NoHand) := by
  have G_Ring__row := ok_Ring__row (P := P) (w := w) (mg := mg) (base := base) F T
  have V_Ring__row_0 : Vals [] [] := .nil
  have B_Ring__row_0 := F.f_Ring__row.binds (ps := ["self"]) fun _ _ _ _ _ _ us hl => match us, hl with | [_], _ => rfl
  refine F.f_Ring_last.okX sc_Ring_last (fun vs H Q E h => ?_) (fun cdv Ar outer s H vs Q E hr h => ⟨Cd.t_last K A.c_Ring A.c_NoHand E, ?_, Cd.pure_last T.rf_Ring h⟩)
  · unfold sLastM at h; obtain ⟨_, _, _, _, _, rfl, _⟩ := h; rfl
  · have S := sc_Ring_last
    exact (pss_cons (ps_if (pt_not (pt_truth (pe_fld (pv 0) rfl) (by intro _; rfl)))
      (pss_one (ps_raise rfl (takes_of rfl rfl rfl rfl) (pmk_own PySem.F.excBase_ValueError T.x_NoHand T.g_NoHand T.k_NoHand (raises_own T.bb_NoHand T.t_NoHand) (by exact rfl))))
      pss_nil)
      (pss_one (ps_ret (pe_ix ix_list (pe_meth0 (pv 0) T.cls_Ring T.me_Ring__row G_Ring__row (hr.mono (by decide)) B_Ring__row_0 V_Ring__row_0 pass0) (pe_un un_neg pe_int) (fun _ _ => rfl)))))
theorem ok__law_cell_at (F : Funs K A D) (T : Txt K mg A) : FnOk P w K mg base CX0 1 A.f__law_cell_at D.d__law_cell_at ["_law_script", "_law_k"] (sCell K) := by
  refine F.f__law_cell_at.ok sc__law_cell_at (fun vs H Q E h => ?_) (fun cdv Ar outer s H vs Q E hr h => ⟨t_cell K, ?_, pure_cell h⟩)
  · obtain ⟨_, _, _, rfl, _⟩ := h; rfl
  · have S := sc__law_cell_at
    exact (pss_cons (ps_if (pt_cmpR op_lt (pv 1) (pe_callB call_len_seq (by rfl) T.b_len PySem.boot_len (pa_cons (pv 0) pa_nil)) (nomark _))
      (pss_one (ps_ret (pe_ix ix_list (pv 0) (pv 1) (fun _ _ => rfl))))
      pss_nil)
      (pss_one (ps_ret pe_int)))
theorem ok__law_next (F : Funs K A D) (T : Txt K mg A) : FnOk P w K mg base CX0 1 A.f__law_next D.d__law_next ["_law_state_here"] sNext := by
  refine F.f__law_next.ok sc__law_next (fun vs H Q E h => ?_) (fun cdv Ar outer s H vs Q E hr h => ⟨t_next K, ?_, pure_next h⟩)
  · obtain ⟨_, rfl, _⟩ := h; rfl
  · have S := sc__law_next
    exact (pss_cons (ps_asg (pe_op op_mod (pe_op op_add (pe_op op_mul (pe_ix ix_list (pv 0) pe_int (fun _ _ => rfl)) pe_int) pe_int) pe_int) (pg_sub (pv 0) pe_int set_list))
      (pss_one (ps_ret (pe_op op_fdiv (pe_op op_mod (pe_op op_mul (pe_ix ix_list (pv 0) pe_int (fun _ _ => rfl)) (pe_ix ix_list (pv 0) pe_int (fun _ _ => rfl))) pe_int) pe_int))))
theorem ok__law_state (F : Funs K A D) (T : Txt K mg A) : FnOk P w K mg base CX0 2 A.f__law_state D.d__law_state ["_law_script", "_law_first"] (sState K) := by
  have G__law_cell_at := ok__law_cell_at (P := P) (w := w) (mg := mg) (base := base) F T
  have V__law_cell_at_2 : Vals [] [] := .nil
  have B__law_cell_at_2 := F.f__law_cell_at.binds (ps := ["_law_script", "_law_k"]) fun _ _ _ _ _ _ us hl => match us, hl with | [_, _], _ => rfl
  refine F.f__law_state.ok sc__law_state (fun vs H Q E h => ?_) (fun cdv Ar outer s H vs Q E hr h => ⟨t_state K, ?_, pure_state h⟩)
  · obtain ⟨_, _, _, rfl, _⟩ := h; rfl
  · have S := sc__law_state
    exact (pss_one (ps_ret (pe_lst (pa_cons (pe_op op_add (pe_op op_add pe_int (pe_op op_mod (pe_call G__law_cell_at (hr.mono (by decide)) (by rfl) T.g__law_cell_at T.k__law_cell_at B__law_cell_at_2 V__law_cell_at_2 pass0 (pa_cons (pv 0) (pa_cons (pv 1) pa_nil))) pe_int)) (pe_op op_mod (pe_call G__law_cell_at (hr.mono (by decide)) (by rfl) T.g__law_cell_at T.k__law_cell_at B__law_cell_at_2 V__law_cell_at_2 pass0 (pa_cons (pv 0) (pa_cons (pe_op op_add (pv 1) pe_int) pa_nil))) pe_int)) pa_nil))))
theorem ok__law_of (F : Funs K A D) (T : Txt K mg A) : FnOk P w K mg base CX0 2 A.f__law_of D.d__law_of ["_law_state_here", "_law_some"] sOf := by
  have G__law_next := ok__law_next (P := P) (w := w) (mg := mg) (base := base) F T
  have V__law_next_1 : Vals [] [] := .nil
  have B__law_next_1 := F.f__law_next.binds (ps := ["_law_state_here"]) fun _ _ _ _ _ _ us hl => match us, hl with | [_], _ => rfl
  refine F.f__law_of.ok sc__law_of (fun vs H Q E h => ?_) (fun cdv Ar outer s H vs Q E hr h => ⟨t_of K, ?_, pure_of h⟩)
  · obtain ⟨_, _, rfl, _⟩ := h; rfl
  · have S := sc__law_of
    exact (pss_one (ps_ret (pe_ix ix_seq (pv 1) (pe_op op_mod (pe_call G__law_next (hr.mono (by decide)) (by rfl) T.g__law_next T.k__law_next B__law_next_1 V__law_next_1 pass0 (pa_cons (pv 0) pa_nil)) (pe_callB call_len (by rfl) T.b_len PySem.boot_len (pa_cons (pv 1) pa_nil))) (fun _ _ => rfl))))
theorem ok__law_far (F : Funs K A D) (T : Txt K mg A) : FnOk P w K mg base CX0 2 A.f__law_far D.d__law_far ["_law_state_here", "_law_many"] sFar := by
  have G__law_next := ok__law_next (P := P) (w := w) (mg := mg) (base := base) F T
  have V__law_next_1 : Vals [] [] := .nil
  have B__law_next_1 := F.f__law_next.binds (ps := ["_law_state_here"]) fun _ _ _ _ _ _ us hl => match us, hl with | [_], _ => rfl
  refine F.f__law_far.ok sc__law_far (fun vs H Q E h => ?_) (fun cdv Ar outer s H vs Q E hr h => ⟨t_far, ?_, pure_far h⟩)
  · obtain ⟨_, _, rfl, _⟩ := h; rfl
  · have S := sc__law_far
    exact (pss_cons (ps_set (i := 2) S.nd rfl (Or.inl rfl) pe_int)
      (pss_cons (ps_for PassesOwn.never rfl (pi_range1 (by rfl) T.b_range (pa_cons pe_int pa_nil)) (pg_name (i := 3) S.nd rfl (Or.inl rfl))
      (pss_one (ps_set (i := 2) S.nd rfl (Or.inl rfl) (pe_op op_add (pe_op op_mul (pv 2) (pe_op op_pow pe_int pe_int)) (pe_op op_mod (pe_call G__law_next (hr.mono (by decide)) (by rfl) T.g__law_next T.k__law_next B__law_next_1 V__law_next_1 pass0 (pa_cons (pv 0) pa_nil)) (pe_op op_pow pe_int pe_int))))))
      (pss_one (ps_ret (pe_op op_mod (pv 2) (pv 1))))))
theorem ok__law_hands (F : Funs K A D) (T : Txt K mg A) : FnOk P w K mg base CX0 3 A.f__law_hands D.d__law_hands ["_law_state_here", "_law_many"] sHands := by
  have G__law_next := ok__law_next (P := P) (w := w) (mg := mg) (base := base) F T
  have G__law_of := ok__law_of (P := P) (w := w) (mg := mg) (base := base) F T
  have V__law_next_1 : Vals [] [] := .nil
  have B__law_next_1 := F.f__law_next.binds (ps := ["_law_state_here"]) fun _ _ _ _ _ _ us hl => match us, hl with | [_], _ => rfl
  have V__law_of_2 : Vals [] [] := .nil
  have B__law_of_2 := F.f__law_of.binds (ps := ["_law_state_here", "_law_some"]) fun _ _ _ _ _ _ us hl => match us, hl with | [_, _], _ => rfl
  refine F.f__law_hands.ok sc__law_hands (fun vs H Q E h => ?_) (fun cdv Ar outer s H vs Q E hr h => ⟨t_hands K, ?_, pure_hands h⟩)
  · obtain ⟨_, _, rfl, _⟩ := h; rfl
  · have S := sc__law_hands
    exact (pss_cons (ps_set (i := 2) S.nd rfl (Or.inl rfl) (pe_op op_mod (pe_call G__law_next (hr.mono (by decide)) (by rfl) T.g__law_next T.k__law_next B__law_next_1 V__law_next_1 pass0 (pa_cons (pv 0) pa_nil)) pe_int))
      (pss_cons (ps_set (i := 3) S.nd rfl (Or.inl rfl) (pe_join pe_str (pe_lc (own := [("_law_k", 4)]) (g := gName 4) (tt := tYes) rfl S.nd (pi_range1 (by rfl) T.b_range (pa_cons (pe_op op_mod (pe_call G__law_next (hr.mono (by decide)) (by rfl) T.g__law_next T.k__law_next B__law_next_1 V__law_next_1 pass0 (pa_cons (pv 0) pa_nil)) pe_int) pa_nil)) (blkOk_by (N := ["_law_state_here", "_law_many", "_law_way", "_law_base", "_law_k", "_law_found"]) (sc := defScope s__law_hands) (by decide +kernel)) (fun _ _ _ _ _ => pg_name (i := 4) S.nd rfl (Or.inl rfl)) (fun _ _ _ _ _ => pts_nil) (fun _ _ _ _ _ => (pe_call G__law_of (hr.mono (by decide)) (by rfl) T.g__law_of T.k__law_of B__law_of_2 V__law_of_2 pass0 (pa_cons (pv 0) (pa_cons pe_str pa_nil)))))))
      (pss_cons (ps_set (i := 5) S.nd rfl (Or.inl rfl) (pe_lst pa_nil))
      (pss_cons (ps_for PassesOwn.never rfl (pi_range1 (by rfl) T.b_range (pa_cons (pv 1) pa_nil)) (pg_name (i := 4) S.nd rfl (Or.inl rfl))
      (pss_one (ps_expr (pe_bm PySem.F.plainAttrs_list PySem.F.slot_list_append PySem.F.type_list_append mt_append (pv 5) (pa_cons (pe_ix ix_list (pe_lst (pa_cons (pe_op op_add_str (pv 3) (pe_callTy call_str_int (by rfl) T.b_str (by decide +kernel) (pa_cons (pv 4) pa_nil))) (pa_cons (pe_op op_add_str (pe_callTy call_str_int (by rfl) T.b_str (by decide +kernel) (pa_cons (pv 4) pa_nil)) (pv 3)) (pa_cons (pe_op op_add_str (pe_op op_mulS pe_str (pv 4)) (pv 3)) pa_nil)))) (pv 2) (fun _ _ => rfl)) pa_nil)))))
      (pss_one (ps_ret (pe_sliceStep (pv 5) (pe_ix ix_list (pe_lst (pa_cons pe_int (pa_cons (pe_un un_neg pe_int) pa_nil))) (pe_op op_mod (pe_call G__law_next (hr.mono (by decide)) (by rfl) T.g__law_next T.k__law_next B__law_next_1 V__law_next_1 pass0 (pa_cons (pv 0) pa_nil)) pe_int) (fun _ _ => rfl)) (fun _ _ => ⟨_, rfl⟩))))))))
theorem ok_law (F : Funs K A D) (T : Txt K mg A) : FnOk P w K mg base CX0 6 A.f_law D.d_law ["_law_script"] (sLaw K) := by
  have G__law_state := ok__law_state (P := P) (w := w) (mg := mg) (base := base) F T
  have G__law_hands := ok__law_hands (P := P) (w := w) (mg := mg) (base := base) F T
  have G__law_next := ok__law_next (P := P) (w := w) (mg := mg) (base := base) F T
  have G__law_of := ok__law_of (P := P) (w := w) (mg := mg) (base := base) F T
  have G__law_far := ok__law_far (P := P) (w := w) (mg := mg) (base := base) F T
  have G_Ring_init := ok_Ring___init__ (P := P) (w := w) (mg := mg) (base := base) F T
  have G_Ring_counts := ok_Ring_counts (P := P) (w := w) (mg := mg) (base := base) F T
  have G_Ring_come := ok_Ring_come (P := P) (w := w) (mg := mg) (base := base) F T
  have G_Ring_left := ok_Ring_left (P := P) (w := w) (mg := mg) (base := base) F T
  have G_Ring_last := ok_Ring_last (P := P) (w := w) (mg := mg) (base := base) F T
  have G_Ring_gone := ok_Ring_gone (P := P) (w := w) (mg := mg) (base := base) F T
  obtain ⟨ds_Ring_init_2, V_Ring_init_2, B_Ring_init_2⟩ := F.f_Ring___init__.binds1 (ps := ["self", "hands", "step", "begin"]) 3 0 (by simp) rfl (fun _ _ _ _ _ _ _ us its hu hi => match us, its, hu, hi with | [_, _, _], [_], _, _ => ⟨_, rfl, rfl⟩)
  obtain ⟨ds_Ring_come_1, V_Ring_come_1, B_Ring_come_1⟩ := F.f_Ring_come.binds1 (ps := ["self", "hand", "place"]) 2 0 (by simp) rfl (fun _ _ _ _ _ _ _ us its hu hi => match us, its, hu, hi with | [_, _], [_], _, _ => ⟨_, rfl, rfl⟩)
  obtain ⟨ds_Ring_come_2, V_Ring_come_2, B_Ring_come_2⟩ := F.f_Ring_come.binds1 (ps := ["self", "hand", "place"]) 3 1 (by simp) rfl (fun _ _ _ _ _ _ _ us its hu hi => match us, its, hu, hi with | [_, _, _], [_], _, _ => ⟨_, rfl, rfl⟩)
  have V_Ring_counts_1 : Vals [] [] := .nil
  have B_Ring_counts_1 := F.f_Ring_counts.binds (ps := ["self", "many"]) fun _ _ _ _ _ _ us hl => match us, hl with | [_, _], _ => rfl
  have V_Ring_gone_0 : Vals [] [] := .nil
  have B_Ring_gone_0 := F.f_Ring_gone.binds (ps := ["self"]) fun _ _ _ _ _ _ us hl => match us, hl with | [_], _ => rfl
  have V_Ring_last_0 : Vals [] [] := .nil
  have B_Ring_last_0 := F.f_Ring_last.binds (ps := ["self"]) fun _ _ _ _ _ _ us hl => match us, hl with | [_], _ => rfl
  have V_Ring_left_0 : Vals [] [] := .nil
  have B_Ring_left_0 := F.f_Ring_left.binds (ps := ["self"]) fun _ _ _ _ _ _ us hl => match us, hl with | [_], _ => rfl
  have V__law_far_2 : Vals [] [] := .nil
  have B__law_far_2 := F.f__law_far.binds (ps := ["_law_state_here", "_law_many"]) fun _ _ _ _ _ _ us hl => match us, hl with | [_, _], _ => rfl
  have V__law_hands_2 : Vals [] [] := .nil
  have B__law_hands_2 := F.f__law_hands.binds (ps := ["_law_state_here", "_law_many"]) fun _ _ _ _ _ _ us hl => match us, hl with | [_, _], _ => rfl
  have V__law_next_1 : Vals [] [] := .nil
  have B__law_next_1 := F.f__law_next.binds (ps := ["_law_state_here"]) fun _ _ _ _ _ _ us hl => match us, hl with | [_], _ => rfl
  have V__law_of_2 : Vals [] [] := .nil
  have B__law_of_2 := F.f__law_of.binds (ps := ["_law_state_here", "_law_some"]) fun _ _ _ _ _ _ us hl => match us, hl with | [_, _], _ => rfl
  have V__law_state_2 : Vals [] [] := .nil
  have B__law_state_2 := F.f__law_state.binds (ps := ["_law_script", "_law_first"]) fun _ _ _ _ _ _ us hl => match us, hl with | [_, _], _ => rfl
  obtain rfl : ds_Ring_come_2 = [] := List.eq_nil_of_length_eq_zero (V_Ring_come_2.length).symm
  refine F.f_law.ok sc_law (fun vs H Q E h => ?_) (fun cdv Ar outer s H vs Q E hr h => ⟨t_law (RR K A.c_Ring) A.cs, ?_, pure_law h⟩)
  · obtain ⟨_, _, rfl, _⟩ := h; rfl
  · have S := sc_law
    have hu64 := hr.units
    exact (pss_cons (ps_set (i := 1) S.nd rfl (Or.inl rfl) (pe_call G__law_state (hr.mono (by decide)) (by rfl) T.g__law_state T.k__law_state B__law_state_2 V__law_state_2 pass0 (pa_cons (pv 0) (pa_cons pe_int pa_nil))))
      (pss_cons (ps_set (i := 2) S.nd rfl (Or.inl rfl) (pe_call G__law_hands (hr.mono (by decide)) (by rfl) T.g__law_hands T.k__law_hands B__law_hands_2 V__law_hands_2 pass0 (pa_cons (pv 1) (pa_cons (pe_op op_add pe_int (pe_op op_mod (pe_call G__law_next (hr.mono (by decide)) (by rfl) T.g__law_next T.k__law_next B__law_next_1 V__law_next_1 pass0 (pa_cons (pv 1) pa_nil)) pe_int)) pa_nil))))
      (pss_cons (ps_set (i := 3) S.nd rfl (Or.inl rfl) (pe_call G__law_of (hr.mono (by decide)) (by rfl) T.g__law_of T.k__law_of B__law_of_2 V__law_of_2 pass0 (pa_cons (pv 1) (pa_cons (pe_lst (pa_cons (pe_op op_add pe_int (pe_op op_mod (pe_call G__law_next (hr.mono (by decide)) (by rfl) T.g__law_next T.k__law_next B__law_next_1 V__law_next_1 pass0 (pa_cons (pv 1) pa_nil)) pe_int)) (pa_cons (pe_op op_add pe_int (pe_op op_mod (pe_call G__law_next (hr.mono (by decide)) (by rfl) T.g__law_next T.k__law_next B__law_next_1 V__law_next_1 pass0 (pa_cons (pv 1) pa_nil)) pe_int)) (pa_cons (pe_op op_sub (pe_op op_pow pe_int pe_int) (pe_call G__law_far (hr.mono (by decide)) (by rfl) T.g__law_far T.k__law_far B__law_far_2 V__law_far_2 pass0 (pa_cons (pv 1) (pa_cons (pe_op op_pow pe_int pe_int) pa_nil)))) pa_nil)))) pa_nil))))
      (pss_cons (ps_set (i := 4) S.nd rfl (Or.inl rfl) (pe_make T.mk_Ring G_Ring_init (hr.mono (by decide)) (by rfl) T.g_Ring B_Ring_init_2 V_Ring_init_2 passL (pa_cons (pv 2) (pa_cons (pv 3) pa_nil))))
      (pss_cons (ps_set (i := 5) S.nd rfl (Or.inl rfl) (pe_callTy call_list_of (by rfl) T.b_list (by decide +kernel) (pa_cons (pv 2) pa_nil)))
      (pss_cons (ps_set (i := 6) S.nd rfl (Or.inl rfl) (pe_lst pa_nil))
      (pss_cons (ps_set (i := 7) S.nd rfl (Or.inl rfl) pe_int)
      (pss_cons (ps_for PassesOwn.never rfl (pi_list (pv 0)) (pg_name (i := 8) S.nd rfl (Or.inl rfl))
      (pss_cons (ps_set (i := 9) S.nd rfl (Or.inl rfl) (pe_op op_mod (pv 8) pe_int))
      (pss_cons (ps_if (PW.pt (pw_and (pt_cmpR op_lt (pv 9) pe_int (nomark _)) (pw_and1 (pt_cmpR (op_neF hu64) (pv 5) (pe_lst pa_nil) (nomark _)))))
      (pss_cons (ps_set (i := 10) S.nd rfl (Or.inl rfl) (pe_meth (pv 4) T.cls_Ring T.me_Ring_counts G_Ring_counts (hr.mono (by decide)) B_Ring_counts_1 V_Ring_counts_1 passL (pa_cons (pe_callB (call_min2 rfl) (by rfl) T.b_min (by decide +kernel) (pa_cons (pe_op op_add pe_int (pv 9)) (pa_cons (pe_callB call_len_seq (by rfl) T.b_len PySem.boot_len (pa_cons (pv 5) pa_nil)) pa_nil))) pa_nil)))
      (pss_one (ps_for PassesOwn.never rfl (pi_list (pv 10)) (pg_name (i := 11) S.nd rfl (Or.inl rfl))
      (pss_cons (ps_set (i := 12) S.nd rfl (Or.inl rfl) (pe_op op_mod (pe_op op_sub (pv 3) pe_int) (pe_callB call_len_seq (by rfl) T.b_len PySem.boot_len (pa_cons (pv 5) pa_nil))))
      (pss_cons (ps_set (i := 5) S.nd rfl (Or.inl rfl) (pe_op op_cat (pe_slice sl_list (pv 5) (po_some (pv 12)) po_none) (pe_slice sl_list (pv 5) po_none (po_some (pv 12)))))
      (pss_cons (ps_if (PW.pt (pw_or (pt_cmpR op_ne (pe_ix ix_list (pv 5) pe_int (fun _ _ => rfl)) (pv 11) (nomark _)) (pw_or1 (pt_cmpR op_in_seq (pv 11) (pv 6) (by rfl)))))
      (pss_one (ps_ret pe_bl))
      pss_nil)
      (pss_cons (ps_expr (pe_bm PySem.F.plainAttrs_list PySem.F.slot_list_append PySem.F.type_list_append mt_append (pv 6) (pa_cons (pv 11) pa_nil)))
      (pss_one (ps_set (i := 5) S.nd rfl (Or.inl rfl) (pe_slice sl_list (pv 5) (po_some pe_int) po_none))))))))))
      (pss_one (ps_if (pt_cmpR op_lt (pv 7) pe_int (nomark _))
      (pss_cons (ps_set (i := 11) S.nd rfl (Or.inl rfl) (pe_op op_add_str pe_str (pe_callTy call_str_int (by rfl) T.b_str (by decide +kernel) (pa_cons (pv 7) pa_nil))))
      (pss_cons (ps_set (i := 7) S.nd rfl (Or.inl rfl) (pe_op op_add (pv 7) pe_int))
      (pss_cons (ps_set (i := 13) S.nd rfl (Or.inl rfl) (pe_op op_mod (pe_op op_fdiv (pv 8) pe_int) (pe_op op_add (pe_callB call_len_seq (by rfl) T.b_len PySem.boot_len (pa_cons (pv 5) pa_nil)) pe_int)))
      (pss_cons (ps_if (pt_cmpR op_eq (pe_op op_mod (pe_op op_fdiv (pv 8) pe_int) pe_int) pe_int (nomark _))
      (pss_cons (ps_set (i := 13) S.nd rfl (Or.inl rfl) (pe_callB call_len_seq (by rfl) T.b_len PySem.boot_len (pa_cons (pv 5) pa_nil)))
      (pss_one (ps_expr (pe_meth (pv 4) T.cls_Ring T.me_Ring_come G_Ring_come (hr.mono (by decide)) B_Ring_come_1 V_Ring_come_1 passL (pa_cons (pv 11) pa_nil)))))
      (pss_one (ps_expr (pe_meth (pv 4) T.cls_Ring T.me_Ring_come G_Ring_come (hr.mono (by decide)) B_Ring_come_2 V_Ring_come_2 passL (pa_cons (pv 11) (pa_cons (pv 13) pa_nil))))))
      (pss_one (ps_expr (pe_bm PySem.F.plainAttrs_list PySem.F.slot_list_insert PySem.F.type_list_insert mt_insert (pv 5) (pa_cons (pv 13) (pa_cons (pv 11) pa_nil)))))))))
      pss_nil)))
      (pss_cons (ps_if (PW.pt (pw_and (pt_cmpR op_eq (pv 9) pe_int (nomark _)) (pw_and (pt_cmpR (op_neF hu64) (pv 5) (pe_lst pa_nil) (nomark _)) (pw_and1 (pt_cmpR op_lt (pe_callB call_len_seq (by rfl) T.b_len PySem.boot_len (pa_cons (pv 5) pa_nil)) pe_int (nomark _))))))
      (pss_cons (ps_set (i := 14) S.nd rfl (Or.inl rfl) (pe_make T.mk_Ring G_Ring_init (hr.mono (by decide)) (by rfl) T.g_Ring B_Ring_init_2 V_Ring_init_2 passL (pa_cons (pv 5) (pa_cons (pv 3) pa_nil))))
      (pss_one (ps_if (PW.pt (pw_or (pt_cmpR op_ne (pe_meth0 (pv 14) T.cls_Ring T.me_Ring_last G_Ring_last (hr.mono (by decide)) B_Ring_last_0 V_Ring_last_0 passL) (pe_meth0 (pv 4) T.cls_Ring T.me_Ring_last G_Ring_last (hr.mono (by decide)) B_Ring_last_0 V_Ring_last_0 passL) (nomark _)) (pw_or1 (pt_cmpR (op_neF hu64) (pe_meth0 (pv 14) T.cls_Ring T.me_Ring_left G_Ring_left (hr.mono (by decide)) B_Ring_left_0 V_Ring_left_0 pass0) (pe_meth0 (pv 4) T.cls_Ring T.me_Ring_left G_Ring_left (hr.mono (by decide)) B_Ring_left_0 V_Ring_left_0 pass0) (nomark _)))))
      (pss_one (ps_ret pe_bl))
      pss_nil)))
      pss_nil)
      (pss_one (ps_if (PW.pt (pw_and (pt_cmpR op_lt (pe_callB call_len_seq (by rfl) T.b_len PySem.boot_len (pa_cons (pv 6) pa_nil)) pe_int (nomark _)) (pw_and1 (PW.pt (pw_or (pt_cmpR (op_neF hu64) (pe_meth0 (pv 4) T.cls_Ring T.me_Ring_left G_Ring_left (hr.mono (by decide)) B_Ring_left_0 V_Ring_left_0 pass0) (pv 5) (nomark _)) (pw_or1 (pt_cmpR (op_neF hu64) (pe_meth0 (pv 4) T.cls_Ring T.me_Ring_gone G_Ring_gone (hr.mono (by decide)) B_Ring_gone_0 V_Ring_gone_0 pass0) (pv 6) (nomark _))))))))
      (pss_one (ps_ret pe_bl))
      pss_nil))))))
      (pss_one (ps_ret (pe_and (pe_cmpR (op_eqF hu64) (pe_meth0 (pv 4) T.cls_Ring T.me_Ring_left G_Ring_left (hr.mono (by decide)) B_Ring_left_0 V_Ring_left_0 pass0) (pv 5) (nomark _)) (pe_and (pe_cmpR (op_eqF hu64) (pe_meth0 (pv 4) T.cls_Ring T.me_Ring_gone G_Ring_gone (hr.mono (by decide)) B_Ring_gone_0 V_Ring_gone_0 pass0) (pv 6) (nomark _)) (pe_one (pe_cmpR op_eq (pe_op op_add (pe_callB call_len_seq (by rfl) T.b_len PySem.boot_len (pa_cons (pv 5) pa_nil)) (pe_callB call_len_seq (by rfl) T.b_len PySem.boot_len (pa_cons (pv 6) pa_nil))) (pe_op op_add (pe_callB call_len_seq (by rfl) T.b_len PySem.boot_len (pa_cons (pv 2) pa_nil)) (pv 7)) (nomark _)))))))))))))))
end
theorem all_mk {l : PySem.W.OpenLaw} {w : World} {K : PySem.W.Frag} {h : Heap} {mg : Str → Option Value} {fa : Addr} (X : K.In h) (G : h.Ns mainGlobals mg) (hfa : mg "law" = some (.ref fa))
    {c_Ring : Addr} (a_Ring : PySem.W.nsIn K mainGlobals "Ring" = some (some (.ref c_Ring)))
    {f_is_whole : Addr} {od_is_whole an_is_whole : Option Addr} {sl_is_whole : Array (Option Value)} {oc_is_whole kV_is_whole dc_is_whole pm_is_whole cd_is_whole ct_is_whole : Value}
    (a_is_whole : PySem.W.nsIn K mainGlobals "is_whole" = some (some (.ref f_is_whole)))
    (l_is_whole : K.lookup f_is_whole = some ⟨oc_is_whole, od_is_whole, .func (PySem.W.fnOf "is_whole" "is_whole" (defArgs s_is_whole) (defBody s_is_whole) (defScope s_is_whole) .none kV_is_whole dc_is_whole pm_is_whole an_is_whole cd_is_whole ct_is_whole), sl_is_whole⟩)
    (cc_is_whole : PySem.W.codeIn K cd_is_whole "is_whole" = true) (k_is_whole : PySem.W.keepIn K (.ref f_is_whole) = true)
    {f_check_step : Addr} {od_check_step an_check_step : Option Addr} {sl_check_step : Array (Option Value)} {oc_check_step kV_check_step dc_check_step pm_check_step cd_check_step ct_check_step : Value}
    (a_check_step : PySem.W.nsIn K mainGlobals "check_step" = some (some (.ref f_check_step)))
    (l_check_step : K.lookup f_check_step = some ⟨oc_check_step, od_check_step, .func (PySem.W.fnOf "check_step" "check_step" (defArgs s_check_step) (defBody s_check_step) (defScope s_check_step) .none kV_check_step dc_check_step pm_check_step an_check_step cd_check_step ct_check_step), sl_check_step⟩)
    (cc_check_step : PySem.W.codeIn K cd_check_step "check_step" = true) (k_check_step : PySem.W.keepIn K (.ref f_check_step) = true)
    {f_check_place : Addr} {od_check_place an_check_place : Option Addr} {sl_check_place : Array (Option Value)} {oc_check_place kV_check_place dc_check_place pm_check_place cd_check_place ct_check_place : Value}
    (a_check_place : PySem.W.nsIn K mainGlobals "check_place" = some (some (.ref f_check_place)))
    (l_check_place : K.lookup f_check_place = some ⟨oc_check_place, od_check_place, .func (PySem.W.fnOf "check_place" "check_place" (defArgs s_check_place) (defBody s_check_place) (defScope s_check_place) .none kV_check_place dc_check_place pm_check_place an_check_place cd_check_place ct_check_place), sl_check_place⟩)
    (cc_check_place : PySem.W.codeIn K cd_check_place "check_place" = true) (k_check_place : PySem.W.keepIn K (.ref f_check_place) = true)
    {f_check_count : Addr} {od_check_count an_check_count : Option Addr} {sl_check_count : Array (Option Value)} {oc_check_count kV_check_count dc_check_count pm_check_count cd_check_count ct_check_count : Value}
    (a_check_count : PySem.W.nsIn K mainGlobals "check_count" = some (some (.ref f_check_count)))
    (l_check_count : K.lookup f_check_count = some ⟨oc_check_count, od_check_count, .func (PySem.W.fnOf "check_count" "check_count" (defArgs s_check_count) (defBody s_check_count) (defScope s_check_count) .none kV_check_count dc_check_count pm_check_count an_check_count cd_check_count ct_check_count), sl_check_count⟩)
    (cc_check_count : PySem.W.codeIn K cd_check_count "check_count" = true) (k_check_count : PySem.W.keepIn K (.ref f_check_count) = true)
    {f_is_ring : Addr} {od_is_ring an_is_ring : Option Addr} {sl_is_ring : Array (Option Value)} {oc_is_ring kV_is_ring dc_is_ring pm_is_ring cd_is_ring ct_is_ring : Value}
    (a_is_ring : PySem.W.nsIn K mainGlobals "is_ring" = some (some (.ref f_is_ring)))
    (l_is_ring : K.lookup f_is_ring = some ⟨oc_is_ring, od_is_ring, .func (PySem.W.fnOf "is_ring" "is_ring" (defArgs s_is_ring) (defBody s_is_ring) (defScope s_is_ring) .none kV_is_ring dc_is_ring pm_is_ring an_is_ring cd_is_ring ct_is_ring), sl_is_ring⟩)
    (cc_is_ring : PySem.W.codeIn K cd_is_ring "is_ring" = true) (k_is_ring : PySem.W.keepIn K (.ref f_is_ring) = true)
    {f_check_laid : Addr} {od_check_laid an_check_laid : Option Addr} {sl_check_laid : Array (Option Value)} {oc_check_laid kV_check_laid dc_check_laid pm_check_laid cd_check_laid ct_check_laid : Value}
    (a_check_laid : PySem.W.nsIn K mainGlobals "check_laid" = some (some (.ref f_check_laid)))
    (l_check_laid : K.lookup f_check_laid = some ⟨oc_check_laid, od_check_laid, .func (PySem.W.fnOf "check_laid" "check_laid" (defArgs s_check_laid) (defBody s_check_laid) (defScope s_check_laid) .none kV_check_laid dc_check_laid pm_check_laid an_check_laid cd_check_laid ct_check_laid), sl_check_laid⟩)
    (cc_check_laid : PySem.W.codeIn K cd_check_laid "check_laid" = true) (k_check_laid : PySem.W.keepIn K (.ref f_check_laid) = true)
    {f_counted_out : Addr} {od_counted_out an_counted_out : Option Addr} {sl_counted_out : Array (Option Value)} {oc_counted_out kV_counted_out dc_counted_out pm_counted_out cd_counted_out ct_counted_out : Value}
    (a_counted_out : PySem.W.nsIn K mainGlobals "counted_out" = some (some (.ref f_counted_out)))
    (l_counted_out : K.lookup f_counted_out = some ⟨oc_counted_out, od_counted_out, .func (PySem.W.fnOf "counted_out" "counted_out" (defArgs s_counted_out) (defBody s_counted_out) (defScope s_counted_out) .none kV_counted_out dc_counted_out pm_counted_out an_counted_out cd_counted_out ct_counted_out), sl_counted_out⟩)
    (cc_counted_out : PySem.W.codeIn K cd_counted_out "counted_out" = true) (k_counted_out : PySem.W.keepIn K (.ref f_counted_out) = true)
    {f_goes_next : Addr} {od_goes_next an_goes_next : Option Addr} {sl_goes_next : Array (Option Value)} {oc_goes_next kV_goes_next dc_goes_next pm_goes_next cd_goes_next ct_goes_next : Value}
    (a_goes_next : PySem.W.nsIn K mainGlobals "goes_next" = some (some (.ref f_goes_next)))
    (l_goes_next : K.lookup f_goes_next = some ⟨oc_goes_next, od_goes_next, .func (PySem.W.fnOf "goes_next" "goes_next" (defArgs s_goes_next) (defBody s_goes_next) (defScope s_goes_next) .none kV_goes_next dc_goes_next pm_goes_next an_goes_next cd_goes_next ct_goes_next), sl_goes_next⟩)
    (cc_goes_next : PySem.W.codeIn K cd_goes_next "goes_next" = true) (k_goes_next : PySem.W.keepIn K (.ref f_goes_next) = true)
    {f_Ring___init__ : Addr} {od_Ring___init__ an_Ring___init__ : Option Addr} {sl_Ring___init__ : Array (Option Value)} {oc_Ring___init__ kV_Ring___init__ dc_Ring___init__ pm_Ring___init__ cd_Ring___init__ ct_Ring___init__ : Value}
    {dT_Ring___init__ : Addr} {dO_Ring___init__ : Obj} {dI_Ring___init__ : List Value} {dN_Ring___init__ : Nat}
    (a_Ring___init__ : PySem.W.findIn K (.ref c_Ring) "__init__" = some (some (.ref f_Ring___init__))) (i_Ring___init__ : PySem.W.isFn K (.ref f_Ring___init__) = true)
    (l_Ring___init__ : K.lookup f_Ring___init__ = some ⟨oc_Ring___init__, od_Ring___init__, .func (PySem.W.fnOf "__init__" "Ring.__init__" (defArgs s_Ring___init__) (defBody s_Ring___init__) (defScope s_Ring___init__) (.ref dT_Ring___init__) kV_Ring___init__ dc_Ring___init__ pm_Ring___init__ an_Ring___init__ cd_Ring___init__ ct_Ring___init__), sl_Ring___init__⟩)
    (dt_Ring___init__ : K.lookup dT_Ring___init__ = some dO_Ring___init__) (dd_Ring___init__ : dO_Ring___init__.data = .seq dI_Ring___init__.toArray dN_Ring___init__) (dv_Ring___init__ : Vals [.int 0] dI_Ring___init__)
    (cc_Ring___init__ : PySem.W.codeIn K cd_Ring___init__ "Ring.__init__" = true) (k_Ring___init__ : PySem.W.keepIn K (.ref f_Ring___init__) = true)
    {f_Ring_left : Addr} {od_Ring_left an_Ring_left : Option Addr} {sl_Ring_left : Array (Option Value)} {oc_Ring_left kV_Ring_left dc_Ring_left pm_Ring_left cd_Ring_left ct_Ring_left : Value}
    (a_Ring_left : PySem.W.findIn K (.ref c_Ring) "left" = some (some (.ref f_Ring_left))) (i_Ring_left : PySem.W.isFn K (.ref f_Ring_left) = true)
    (l_Ring_left : K.lookup f_Ring_left = some ⟨oc_Ring_left, od_Ring_left, .func (PySem.W.fnOf "left" "Ring.left" (defArgs s_Ring_left) (defBody s_Ring_left) (defScope s_Ring_left) .none kV_Ring_left dc_Ring_left pm_Ring_left an_Ring_left cd_Ring_left ct_Ring_left), sl_Ring_left⟩)
    (cc_Ring_left : PySem.W.codeIn K cd_Ring_left "Ring.left" = true) (k_Ring_left : PySem.W.keepIn K (.ref f_Ring_left) = true)
    {f_Ring_gone : Addr} {od_Ring_gone an_Ring_gone : Option Addr} {sl_Ring_gone : Array (Option Value)} {oc_Ring_gone kV_Ring_gone dc_Ring_gone pm_Ring_gone cd_Ring_gone ct_Ring_gone : Value}
    (a_Ring_gone : PySem.W.findIn K (.ref c_Ring) "gone" = some (some (.ref f_Ring_gone))) (i_Ring_gone : PySem.W.isFn K (.ref f_Ring_gone) = true)
    (l_Ring_gone : K.lookup f_Ring_gone = some ⟨oc_Ring_gone, od_Ring_gone, .func (PySem.W.fnOf "gone" "Ring.gone" (defArgs s_Ring_gone) (defBody s_Ring_gone) (defScope s_Ring_gone) .none kV_Ring_gone dc_Ring_gone pm_Ring_gone an_Ring_gone cd_Ring_gone ct_Ring_gone), sl_Ring_gone⟩)
    (cc_Ring_gone : PySem.W.codeIn K cd_Ring_gone "Ring.gone" = true) (k_Ring_gone : PySem.W.keepIn K (.ref f_Ring_gone) = true)
    {f_Ring_counts : Addr} {od_Ring_counts an_Ring_counts : Option Addr} {sl_Ring_counts : Array (Option Value)} {oc_Ring_counts kV_Ring_counts dc_Ring_counts pm_Ring_counts cd_Ring_counts ct_Ring_counts : Value}
    (a_Ring_counts : PySem.W.findIn K (.ref c_Ring) "counts" = some (some (.ref f_Ring_counts))) (i_Ring_counts : PySem.W.isFn K (.ref f_Ring_counts) = true)
    (l_Ring_counts : K.lookup f_Ring_counts = some ⟨oc_Ring_counts, od_Ring_counts, .func (PySem.W.fnOf "counts" "Ring.counts" (defArgs s_Ring_counts) (defBody s_Ring_counts) (defScope s_Ring_counts) .none kV_Ring_counts dc_Ring_counts pm_Ring_counts an_Ring_counts cd_Ring_counts ct_Ring_counts), sl_Ring_counts⟩)
    (cc_Ring_counts : PySem.W.codeIn K cd_Ring_counts "Ring.counts" = true) (k_Ring_counts : PySem.W.keepIn K (.ref f_Ring_counts) = true)
    {f_Ring_come : Addr} {od_Ring_come an_Ring_come : Option Addr} {sl_Ring_come : Array (Option Value)} {oc_Ring_come kV_Ring_come dc_Ring_come pm_Ring_come cd_Ring_come ct_Ring_come : Value}
    {dT_Ring_come : Addr} {dO_Ring_come : Obj} {dI_Ring_come : List Value} {dN_Ring_come : Nat}
    (a_Ring_come : PySem.W.findIn K (.ref c_Ring) "come" = some (some (.ref f_Ring_come))) (i_Ring_come : PySem.W.isFn K (.ref f_Ring_come) = true)
    (l_Ring_come : K.lookup f_Ring_come = some ⟨oc_Ring_come, od_Ring_come, .func (PySem.W.fnOf "come" "Ring.come" (defArgs s_Ring_come) (defBody s_Ring_come) (defScope s_Ring_come) (.ref dT_Ring_come) kV_Ring_come dc_Ring_come pm_Ring_come an_Ring_come cd_Ring_come ct_Ring_come), sl_Ring_come⟩)
    (dt_Ring_come : K.lookup dT_Ring_come = some dO_Ring_come) (dd_Ring_come : dO_Ring_come.data = .seq dI_Ring_come.toArray dN_Ring_come) (dv_Ring_come : Vals [.non] dI_Ring_come)
    (cc_Ring_come : PySem.W.codeIn K cd_Ring_come "Ring.come" = true) (k_Ring_come : PySem.W.keepIn K (.ref f_Ring_come) = true)
    {f_Ring_last : Addr} {od_Ring_last an_Ring_last : Option Addr} {sl_Ring_last : Array (Option Value)} {oc_Ring_last kV_Ring_last dc_Ring_last pm_Ring_last cd_Ring_last ct_Ring_last : Value}
    (a_Ring_last : PySem.W.findIn K (.ref c_Ring) "last" = some (some (.ref f_Ring_last))) (i_Ring_last : PySem.W.isFn K (.ref f_Ring_last) = true)
    (l_Ring_last : K.lookup f_Ring_last = some ⟨oc_Ring_last, od_Ring_last, .func (PySem.W.fnOf "last" "Ring.last" (defArgs s_Ring_last) (defBody s_Ring_last) (defScope s_Ring_last) .none kV_Ring_last dc_Ring_last pm_Ring_last an_Ring_last cd_Ring_last ct_Ring_last), sl_Ring_last⟩)
    (cc_Ring_last : PySem.W.codeIn K cd_Ring_last "Ring.last" = true) (k_Ring_last : PySem.W.keepIn K (.ref f_Ring_last) = true)
    {f_Ring__row : Addr} {od_Ring__row an_Ring__row : Option Addr} {sl_Ring__row : Array (Option Value)} {oc_Ring__row kV_Ring__row dc_Ring__row pm_Ring__row cd_Ring__row ct_Ring__row : Value}
    (a_Ring__row : PySem.W.findIn K (.ref c_Ring) "_row" = some (some (.ref f_Ring__row))) (i_Ring__row : PySem.W.isFn K (.ref f_Ring__row) = true)
    (l_Ring__row : K.lookup f_Ring__row = some ⟨oc_Ring__row, od_Ring__row, .func (PySem.W.fnOf "_row" "Ring._row" (defArgs s_Ring__row) (defBody s_Ring__row) (defScope s_Ring__row) .none kV_Ring__row dc_Ring__row pm_Ring__row an_Ring__row cd_Ring__row ct_Ring__row), sl_Ring__row⟩)
    (cc_Ring__row : PySem.W.codeIn K cd_Ring__row "Ring._row" = true) (k_Ring__row : PySem.W.keepIn K (.ref f_Ring__row) = true)
    {f_Ring__go_on : Addr} {od_Ring__go_on an_Ring__go_on : Option Addr} {sl_Ring__go_on : Array (Option Value)} {oc_Ring__go_on kV_Ring__go_on dc_Ring__go_on pm_Ring__go_on cd_Ring__go_on ct_Ring__go_on : Value}
    (a_Ring__go_on : PySem.W.findIn K (.ref c_Ring) "_go_on" = some (some (.ref f_Ring__go_on))) (i_Ring__go_on : PySem.W.isFn K (.ref f_Ring__go_on) = true)
    (l_Ring__go_on : K.lookup f_Ring__go_on = some ⟨oc_Ring__go_on, od_Ring__go_on, .func (PySem.W.fnOf "_go_on" "Ring._go_on" (defArgs s_Ring__go_on) (defBody s_Ring__go_on) (defScope s_Ring__go_on) .none kV_Ring__go_on dc_Ring__go_on pm_Ring__go_on an_Ring__go_on cd_Ring__go_on ct_Ring__go_on), sl_Ring__go_on⟩)
    (cc_Ring__go_on : PySem.W.codeIn K cd_Ring__go_on "Ring._go_on" = true) (k_Ring__go_on : PySem.W.keepIn K (.ref f_Ring__go_on) = true)
    {f__law_cell_at : Addr} {od__law_cell_at an__law_cell_at : Option Addr} {sl__law_cell_at : Array (Option Value)} {oc__law_cell_at kV__law_cell_at dc__law_cell_at pm__law_cell_at cd__law_cell_at ct__law_cell_at : Value}
    (a__law_cell_at : PySem.W.nsIn K mainGlobals "_law_cell_at" = some (some (.ref f__law_cell_at)))
    (l__law_cell_at : K.lookup f__law_cell_at = some ⟨oc__law_cell_at, od__law_cell_at, .func (PySem.W.fnOf "_law_cell_at" "_law_cell_at" (defArgs s__law_cell_at) (defBody s__law_cell_at) (defScope s__law_cell_at) .none kV__law_cell_at dc__law_cell_at pm__law_cell_at an__law_cell_at cd__law_cell_at ct__law_cell_at), sl__law_cell_at⟩)
    (cc__law_cell_at : PySem.W.codeIn K cd__law_cell_at "_law_cell_at" = true) (k__law_cell_at : PySem.W.keepIn K (.ref f__law_cell_at) = true)
    {f__law_next : Addr} {od__law_next an__law_next : Option Addr} {sl__law_next : Array (Option Value)} {oc__law_next kV__law_next dc__law_next pm__law_next cd__law_next ct__law_next : Value}
    (a__law_next : PySem.W.nsIn K mainGlobals "_law_next" = some (some (.ref f__law_next)))
    (l__law_next : K.lookup f__law_next = some ⟨oc__law_next, od__law_next, .func (PySem.W.fnOf "_law_next" "_law_next" (defArgs s__law_next) (defBody s__law_next) (defScope s__law_next) .none kV__law_next dc__law_next pm__law_next an__law_next cd__law_next ct__law_next), sl__law_next⟩)
    (cc__law_next : PySem.W.codeIn K cd__law_next "_law_next" = true) (k__law_next : PySem.W.keepIn K (.ref f__law_next) = true)
    {f__law_state : Addr} {od__law_state an__law_state : Option Addr} {sl__law_state : Array (Option Value)} {oc__law_state kV__law_state dc__law_state pm__law_state cd__law_state ct__law_state : Value}
    (a__law_state : PySem.W.nsIn K mainGlobals "_law_state" = some (some (.ref f__law_state)))
    (l__law_state : K.lookup f__law_state = some ⟨oc__law_state, od__law_state, .func (PySem.W.fnOf "_law_state" "_law_state" (defArgs s__law_state) (defBody s__law_state) (defScope s__law_state) .none kV__law_state dc__law_state pm__law_state an__law_state cd__law_state ct__law_state), sl__law_state⟩)
    (cc__law_state : PySem.W.codeIn K cd__law_state "_law_state" = true) (k__law_state : PySem.W.keepIn K (.ref f__law_state) = true)
    {f__law_of : Addr} {od__law_of an__law_of : Option Addr} {sl__law_of : Array (Option Value)} {oc__law_of kV__law_of dc__law_of pm__law_of cd__law_of ct__law_of : Value}
    (a__law_of : PySem.W.nsIn K mainGlobals "_law_of" = some (some (.ref f__law_of)))
    (l__law_of : K.lookup f__law_of = some ⟨oc__law_of, od__law_of, .func (PySem.W.fnOf "_law_of" "_law_of" (defArgs s__law_of) (defBody s__law_of) (defScope s__law_of) .none kV__law_of dc__law_of pm__law_of an__law_of cd__law_of ct__law_of), sl__law_of⟩)
    (cc__law_of : PySem.W.codeIn K cd__law_of "_law_of" = true) (k__law_of : PySem.W.keepIn K (.ref f__law_of) = true)
    {f__law_far : Addr} {od__law_far an__law_far : Option Addr} {sl__law_far : Array (Option Value)} {oc__law_far kV__law_far dc__law_far pm__law_far cd__law_far ct__law_far : Value}
    (a__law_far : PySem.W.nsIn K mainGlobals "_law_far" = some (some (.ref f__law_far)))
    (l__law_far : K.lookup f__law_far = some ⟨oc__law_far, od__law_far, .func (PySem.W.fnOf "_law_far" "_law_far" (defArgs s__law_far) (defBody s__law_far) (defScope s__law_far) .none kV__law_far dc__law_far pm__law_far an__law_far cd__law_far ct__law_far), sl__law_far⟩)
    (cc__law_far : PySem.W.codeIn K cd__law_far "_law_far" = true) (k__law_far : PySem.W.keepIn K (.ref f__law_far) = true)
    {f__law_hands : Addr} {od__law_hands an__law_hands : Option Addr} {sl__law_hands : Array (Option Value)} {oc__law_hands kV__law_hands dc__law_hands pm__law_hands cd__law_hands ct__law_hands : Value}
    (a__law_hands : PySem.W.nsIn K mainGlobals "_law_hands" = some (some (.ref f__law_hands)))
    (l__law_hands : K.lookup f__law_hands = some ⟨oc__law_hands, od__law_hands, .func (PySem.W.fnOf "_law_hands" "_law_hands" (defArgs s__law_hands) (defBody s__law_hands) (defScope s__law_hands) .none kV__law_hands dc__law_hands pm__law_hands an__law_hands cd__law_hands ct__law_hands), sl__law_hands⟩)
    (cc__law_hands : PySem.W.codeIn K cd__law_hands "_law_hands" = true) (k__law_hands : PySem.W.keepIn K (.ref f__law_hands) = true)
    {f_law : Addr} {od_law an_law : Option Addr} {sl_law : Array (Option Value)} {oc_law kV_law dc_law pm_law cd_law ct_law : Value}
    (a_law : PySem.W.nsIn K mainGlobals "law" = some (some (.ref f_law)))
    (l_law : K.lookup f_law = some ⟨oc_law, od_law, .func (PySem.W.fnOf "law" "law" (defArgs s_law) (defBody s_law) (defScope s_law) .none kV_law dc_law pm_law an_law cd_law ct_law), sl_law⟩)
    (cc_law : PySem.W.codeIn K cd_law "law" = true) (k_law : PySem.W.keepIn K (.ref f_law) = true)
    (pg_Ring : PySem.W.plainGet K c_Ring Str.empty = true) (hd_Ring : PySem.W.hasDictIn K c_Ring = true) (po_Ring : PySem.W.plainOver K c_Ring = true) (sa_Ring : PySem.W.findIn K (.ref c_Ring) "__setattr__" = some (some (.builtin "object.__setattr__"))) (mk_Ring : PySem.W.makesIn K c_Ring = true) (kc_Ring : PySem.W.keepIn K (.ref c_Ring) = true)
    (n_Ring_gone : PySem.W.findIn K (.ref c_Ring) "_gone" = some none)
    (n_Ring_left : PySem.W.findIn K (.ref c_Ring) "_left" = some none)
    (n_Ring_step : PySem.W.findIn K (.ref c_Ring) "_step" = some none)
    {t_GREATEST : Tok} (a_GREATEST : PySem.W.nsIn K mainGlobals "GREATEST" = some (some (.int (1000000000000000000000000000000000000000000000000000000000000) t_GREATEST)))
    {t_MOST_EVER : Tok} (a_MOST_EVER : PySem.W.nsIn K mainGlobals "MOST_EVER" = some (some (.int (400) t_MOST_EVER)))
    {t_MOST_HANDS : Tok} (a_MOST_HANDS : PySem.W.nsIn K mainGlobals "MOST_HANDS" = some (some (.int (200) t_MOST_HANDS)))
    (z_all : PySem.W.nsIn K mainGlobals "all" = some none)
    (z_bool : PySem.W.nsIn K mainGlobals "bool" = some none)
    (z_int : PySem.W.nsIn K mainGlobals "int" = some none)
    (z_isinstance : PySem.W.nsIn K mainGlobals "isinstance" = some none)
    (z_len : PySem.W.nsIn K mainGlobals "len" = some none)
    (z_list : PySem.W.nsIn K mainGlobals "list" = some none)
    (z_min : PySem.W.nsIn K mainGlobals "min" = some none)
    (z_range : PySem.W.nsIn K mainGlobals "range" = some none)
    (z_set : PySem.W.nsIn K mainGlobals "set" = some none)
    (z_str : PySem.W.nsIn K mainGlobals "str" = some none)
    {c_CountError : Addr} (a_CountError : PySem.W.nsIn K mainGlobals "CountError" = some (some (.ref c_CountError))) (k_CountError : PySem.W.keepIn K (.ref c_CountError) = true) (x_CountError : PySem.W.excIn K c_CountError [.type "ValueError", .type "Exception", .type "BaseException", .type "object"] "ValueError.__new__" = true) (bb_CountError : PySem.W.subIn K (.ref c_CountError) (.type "BaseException") = some true) (t_CountError : PySem.W.typeIn K (.ref c_CountError) = some (.type "type"))
    {c_NoCount : Addr} (a_NoCount : PySem.W.nsIn K mainGlobals "NoCount" = some (some (.ref c_NoCount))) (k_NoCount : PySem.W.keepIn K (.ref c_NoCount) = true) (x_NoCount : PySem.W.excIn K c_NoCount [.type "ValueError", .type "Exception", .type "BaseException", .type "object"] "ValueError.__new__" = true) (bb_NoCount : PySem.W.subIn K (.ref c_NoCount) (.type "BaseException") = some true) (t_NoCount : PySem.W.typeIn K (.ref c_NoCount) = some (.type "type"))
    {c_NoHand : Addr} (a_NoHand : PySem.W.nsIn K mainGlobals "NoHand" = some (some (.ref c_NoHand))) (k_NoHand : PySem.W.keepIn K (.ref c_NoHand) = true) (x_NoHand : PySem.W.excIn K c_NoHand [.type "ValueError", .type "Exception", .type "BaseException", .type "object"] "ValueError.__new__" = true) (bb_NoHand : PySem.W.subIn K (.ref c_NoHand) (.type "BaseException") = some true) (t_NoHand : PySem.W.typeIn K (.ref c_NoHand) = some (.type "type"))
    {c_NoPlace : Addr} (a_NoPlace : PySem.W.nsIn K mainGlobals "NoPlace" = some (some (.ref c_NoPlace))) (k_NoPlace : PySem.W.keepIn K (.ref c_NoPlace) = true) (x_NoPlace : PySem.W.excIn K c_NoPlace [.type "ValueError", .type "Exception", .type "BaseException", .type "object"] "ValueError.__new__" = true) (bb_NoPlace : PySem.W.subIn K (.ref c_NoPlace) (.type "BaseException") = some true) (t_NoPlace : PySem.W.typeIn K (.ref c_NoPlace) = some (.type "type"))
    {c_NoRing : Addr} (a_NoRing : PySem.W.nsIn K mainGlobals "NoRing" = some (some (.ref c_NoRing))) (k_NoRing : PySem.W.keepIn K (.ref c_NoRing) = true) (x_NoRing : PySem.W.excIn K c_NoRing [.type "ValueError", .type "Exception", .type "BaseException", .type "object"] "ValueError.__new__" = true) (bb_NoRing : PySem.W.subIn K (.ref c_NoRing) (.type "BaseException") = some true) (t_NoRing : PySem.W.typeIn K (.ref c_NoRing) = some (.type "type"))
    {c_NoStep : Addr} (a_NoStep : PySem.W.nsIn K mainGlobals "NoStep" = some (some (.ref c_NoStep))) (k_NoStep : PySem.W.keepIn K (.ref c_NoStep) = true) (x_NoStep : PySem.W.excIn K c_NoStep [.type "ValueError", .type "Exception", .type "BaseException", .type "object"] "ValueError.__new__" = true) (bb_NoStep : PySem.W.subIn K (.ref c_NoStep) (.type "BaseException") = some true) (t_NoStep : PySem.W.typeIn K (.ref c_NoStep) = some (.type "type"))
    {c_TooMany : Addr} (a_TooMany : PySem.W.nsIn K mainGlobals "TooMany" = some (some (.ref c_TooMany))) (k_TooMany : PySem.W.keepIn K (.ref c_TooMany) = true) (x_TooMany : PySem.W.excIn K c_TooMany [.type "ValueError", .type "Exception", .type "BaseException", .type "object"] "ValueError.__new__" = true) (bb_TooMany : PySem.W.subIn K (.ref c_TooMany) (.type "BaseException") = some true) (t_TooMany : PySem.W.typeIn K (.ref c_TooMany) = some (.type "type"))
    {c_TwiceTold : Addr} (a_TwiceTold : PySem.W.nsIn K mainGlobals "TwiceTold" = some (some (.ref c_TwiceTold))) (k_TwiceTold : PySem.W.keepIn K (.ref c_TwiceTold) = true) (x_TwiceTold : PySem.W.excIn K c_TwiceTold [.type "ValueError", .type "Exception", .type "BaseException", .type "object"] "ValueError.__new__" = true) (bb_TwiceTold : PySem.W.subIn K (.ref c_TwiceTold) (.type "BaseException") = some true) (t_TwiceTold : PySem.W.typeIn K (.ref c_TwiceTold) = some (.type "type"))
    : ∃ fd : FuncData, (∀ (s : Shared) (v : Value), BindsTo s fd ⟨[v], []⟩ [("_law_script", v)]) ∧ ∀ base : Heap, K.In base → base.Ns mainGlobals mg → FnOk l.prog w K mg base CX0 6 fa fd ["_law_script"] (sLaw K) := by
  have e := hfa.symm.trans (PySem.W.mg_of X G a_law)
  cases e
  have T : Txt K mg ⟨f_is_whole, f_check_step, f_check_place, f_check_count, f_is_ring, f_check_laid, f_counted_out, f_goes_next, f_Ring___init__, f_Ring_left, f_Ring_gone, f_Ring_counts, f_Ring_come, f_Ring_last, f_Ring__row, f_Ring__go_on, f__law_cell_at, f__law_next, f__law_state, f__law_of, f__law_far, f__law_hands, fa, c_CountError, c_NoCount, c_NoHand, c_NoPlace, c_NoRing, c_NoStep, c_TooMany, c_TwiceTold, c_Ring⟩ := {
    b_all := PySem.W.mg_none_of X G z_all
    b_bool := PySem.W.mg_none_of X G z_bool
    b_int := PySem.W.mg_none_of X G z_int
    b_isinstance := PySem.W.mg_none_of X G z_isinstance
    b_len := PySem.W.mg_none_of X G z_len
    b_list := PySem.W.mg_none_of X G z_list
    b_min := PySem.W.mg_none_of X G z_min
    b_range := PySem.W.mg_none_of X G z_range
    b_set := PySem.W.mg_none_of X G z_set
    b_str := PySem.W.mg_none_of X G z_str
    c_GREATEST := ⟨_, PySem.W.mg_of X G a_GREATEST⟩
    c_MOST_EVER := ⟨_, PySem.W.mg_of X G a_MOST_EVER⟩
    c_MOST_HANDS := ⟨_, PySem.W.mg_of X G a_MOST_HANDS⟩
    g_is_whole := PySem.W.mg_of X G a_is_whole
    k_is_whole := k_is_whole
    g_check_step := PySem.W.mg_of X G a_check_step
    k_check_step := k_check_step
    g_check_place := PySem.W.mg_of X G a_check_place
    k_check_place := k_check_place
    g_check_count := PySem.W.mg_of X G a_check_count
    k_check_count := k_check_count
    g_is_ring := PySem.W.mg_of X G a_is_ring
    k_is_ring := k_is_ring
    g_check_laid := PySem.W.mg_of X G a_check_laid
    k_check_laid := k_check_laid
    g_counted_out := PySem.W.mg_of X G a_counted_out
    k_counted_out := k_counted_out
    g_goes_next := PySem.W.mg_of X G a_goes_next
    k_goes_next := k_goes_next
    g__law_cell_at := PySem.W.mg_of X G a__law_cell_at
    k__law_cell_at := k__law_cell_at
    g__law_next := PySem.W.mg_of X G a__law_next
    k__law_next := k__law_next
    g__law_state := PySem.W.mg_of X G a__law_state
    k__law_state := k__law_state
    g__law_of := PySem.W.mg_of X G a__law_of
    k__law_of := k__law_of
    g__law_far := PySem.W.mg_of X G a__law_far
    k__law_far := k__law_far
    g__law_hands := PySem.W.mg_of X G a__law_hands
    k__law_hands := k__law_hands
    g_law := PySem.W.mg_of X G a_law
    k_law := k_law
    g_Ring := PySem.W.mg_of X G a_Ring
    cls_Ring := ⟨pg_Ring, hd_Ring, po_Ring, sa_Ring⟩
    mk_Ring := ⟨mk_Ring, a_Ring___init__, i_Ring___init__, kc_Ring⟩
    rf_Ring := ⟨⟨pg_Ring, hd_Ring, po_Ring, sa_Ring⟩, n_Ring_left, n_Ring_gone, n_Ring_step⟩
    me_Ring_left := ⟨a_Ring_left, i_Ring_left, k_Ring_left⟩
    me_Ring_gone := ⟨a_Ring_gone, i_Ring_gone, k_Ring_gone⟩
    me_Ring_counts := ⟨a_Ring_counts, i_Ring_counts, k_Ring_counts⟩
    me_Ring_come := ⟨a_Ring_come, i_Ring_come, k_Ring_come⟩
    me_Ring_last := ⟨a_Ring_last, i_Ring_last, k_Ring_last⟩
    me_Ring__row := ⟨a_Ring__row, i_Ring__row, k_Ring__row⟩
    me_Ring__go_on := ⟨a_Ring__go_on, i_Ring__go_on, k_Ring__go_on⟩
    g_CountError := PySem.W.mg_of X G a_CountError
    k_CountError := k_CountError
    x_CountError := x_CountError
    bb_CountError := bb_CountError
    t_CountError := t_CountError
    g_NoCount := PySem.W.mg_of X G a_NoCount
    k_NoCount := k_NoCount
    x_NoCount := x_NoCount
    bb_NoCount := bb_NoCount
    t_NoCount := t_NoCount
    g_NoHand := PySem.W.mg_of X G a_NoHand
    k_NoHand := k_NoHand
    x_NoHand := x_NoHand
    bb_NoHand := bb_NoHand
    t_NoHand := t_NoHand
    g_NoPlace := PySem.W.mg_of X G a_NoPlace
    k_NoPlace := k_NoPlace
    x_NoPlace := x_NoPlace
    bb_NoPlace := bb_NoPlace
    t_NoPlace := t_NoPlace
    g_NoRing := PySem.W.mg_of X G a_NoRing
    k_NoRing := k_NoRing
    x_NoRing := x_NoRing
    bb_NoRing := bb_NoRing
    t_NoRing := t_NoRing
    g_NoStep := PySem.W.mg_of X G a_NoStep
    k_NoStep := k_NoStep
    x_NoStep := x_NoStep
    bb_NoStep := bb_NoStep
    t_NoStep := t_NoStep
    g_TooMany := PySem.W.mg_of X G a_TooMany
    k_TooMany := k_TooMany
    x_TooMany := x_TooMany
    bb_TooMany := bb_TooMany
    t_TooMany := t_TooMany
    g_TwiceTold := PySem.W.mg_of X G a_TwiceTold
    k_TwiceTold := k_TwiceTold
    x_TwiceTold := x_TwiceTold
    bb_TwiceTold := bb_TwiceTold
    t_TwiceTold := t_TwiceTold }
  have F : Funs K ⟨f_is_whole, f_check_step, f_check_place, f_check_count, f_is_ring, f_check_laid, f_counted_out, f_goes_next, f_Ring___init__, f_Ring_left, f_Ring_gone, f_Ring_counts, f_Ring_come, f_Ring_last, f_Ring__row, f_Ring__go_on, f__law_cell_at, f__law_next, f__law_state, f__law_of, f__law_far, f__law_hands, fa, c_CountError, c_NoCount, c_NoHand, c_NoPlace, c_NoRing, c_NoStep, c_TooMany, c_TwiceTold, c_Ring⟩ ⟨PySem.W.fnOf "is_whole" "is_whole" (defArgs s_is_whole) (defBody s_is_whole) (defScope s_is_whole) .none kV_is_whole dc_is_whole pm_is_whole an_is_whole cd_is_whole ct_is_whole,
    PySem.W.fnOf "check_step" "check_step" (defArgs s_check_step) (defBody s_check_step) (defScope s_check_step) .none kV_check_step dc_check_step pm_check_step an_check_step cd_check_step ct_check_step,
    PySem.W.fnOf "check_place" "check_place" (defArgs s_check_place) (defBody s_check_place) (defScope s_check_place) .none kV_check_place dc_check_place pm_check_place an_check_place cd_check_place ct_check_place,
    PySem.W.fnOf "check_count" "check_count" (defArgs s_check_count) (defBody s_check_count) (defScope s_check_count) .none kV_check_count dc_check_count pm_check_count an_check_count cd_check_count ct_check_count,
    PySem.W.fnOf "is_ring" "is_ring" (defArgs s_is_ring) (defBody s_is_ring) (defScope s_is_ring) .none kV_is_ring dc_is_ring pm_is_ring an_is_ring cd_is_ring ct_is_ring,
    PySem.W.fnOf "check_laid" "check_laid" (defArgs s_check_laid) (defBody s_check_laid) (defScope s_check_laid) .none kV_check_laid dc_check_laid pm_check_laid an_check_laid cd_check_laid ct_check_laid,
    PySem.W.fnOf "counted_out" "counted_out" (defArgs s_counted_out) (defBody s_counted_out) (defScope s_counted_out) .none kV_counted_out dc_counted_out pm_counted_out an_counted_out cd_counted_out ct_counted_out,
    PySem.W.fnOf "goes_next" "goes_next" (defArgs s_goes_next) (defBody s_goes_next) (defScope s_goes_next) .none kV_goes_next dc_goes_next pm_goes_next an_goes_next cd_goes_next ct_goes_next,
    PySem.W.fnOf "__init__" "Ring.__init__" (defArgs s_Ring___init__) (defBody s_Ring___init__) (defScope s_Ring___init__) (.ref dT_Ring___init__) kV_Ring___init__ dc_Ring___init__ pm_Ring___init__ an_Ring___init__ cd_Ring___init__ ct_Ring___init__,
    PySem.W.fnOf "left" "Ring.left" (defArgs s_Ring_left) (defBody s_Ring_left) (defScope s_Ring_left) .none kV_Ring_left dc_Ring_left pm_Ring_left an_Ring_left cd_Ring_left ct_Ring_left,
    PySem.W.fnOf "gone" "Ring.gone" (defArgs s_Ring_gone) (defBody s_Ring_gone) (defScope s_Ring_gone) .none kV_Ring_gone dc_Ring_gone pm_Ring_gone an_Ring_gone cd_Ring_gone ct_Ring_gone,
    PySem.W.fnOf "counts" "Ring.counts" (defArgs s_Ring_counts) (defBody s_Ring_counts) (defScope s_Ring_counts) .none kV_Ring_counts dc_Ring_counts pm_Ring_counts an_Ring_counts cd_Ring_counts ct_Ring_counts,
    PySem.W.fnOf "come" "Ring.come" (defArgs s_Ring_come) (defBody s_Ring_come) (defScope s_Ring_come) (.ref dT_Ring_come) kV_Ring_come dc_Ring_come pm_Ring_come an_Ring_come cd_Ring_come ct_Ring_come,
    PySem.W.fnOf "last" "Ring.last" (defArgs s_Ring_last) (defBody s_Ring_last) (defScope s_Ring_last) .none kV_Ring_last dc_Ring_last pm_Ring_last an_Ring_last cd_Ring_last ct_Ring_last,
    PySem.W.fnOf "_row" "Ring._row" (defArgs s_Ring__row) (defBody s_Ring__row) (defScope s_Ring__row) .none kV_Ring__row dc_Ring__row pm_Ring__row an_Ring__row cd_Ring__row ct_Ring__row,
    PySem.W.fnOf "_go_on" "Ring._go_on" (defArgs s_Ring__go_on) (defBody s_Ring__go_on) (defScope s_Ring__go_on) .none kV_Ring__go_on dc_Ring__go_on pm_Ring__go_on an_Ring__go_on cd_Ring__go_on ct_Ring__go_on,
    PySem.W.fnOf "_law_cell_at" "_law_cell_at" (defArgs s__law_cell_at) (defBody s__law_cell_at) (defScope s__law_cell_at) .none kV__law_cell_at dc__law_cell_at pm__law_cell_at an__law_cell_at cd__law_cell_at ct__law_cell_at,
    PySem.W.fnOf "_law_next" "_law_next" (defArgs s__law_next) (defBody s__law_next) (defScope s__law_next) .none kV__law_next dc__law_next pm__law_next an__law_next cd__law_next ct__law_next,
    PySem.W.fnOf "_law_state" "_law_state" (defArgs s__law_state) (defBody s__law_state) (defScope s__law_state) .none kV__law_state dc__law_state pm__law_state an__law_state cd__law_state ct__law_state,
    PySem.W.fnOf "_law_of" "_law_of" (defArgs s__law_of) (defBody s__law_of) (defScope s__law_of) .none kV__law_of dc__law_of pm__law_of an__law_of cd__law_of ct__law_of,
    PySem.W.fnOf "_law_far" "_law_far" (defArgs s__law_far) (defBody s__law_far) (defScope s__law_far) .none kV__law_far dc__law_far pm__law_far an__law_far cd__law_far ct__law_far,
    PySem.W.fnOf "_law_hands" "_law_hands" (defArgs s__law_hands) (defBody s__law_hands) (defScope s__law_hands) .none kV__law_hands dc__law_hands pm__law_hands an__law_hands cd__law_hands ct__law_hands,
    PySem.W.fnOf "law" "law" (defArgs s_law) (defBody s_law) (defScope s_law) .none kV_law dc_law pm_law an_law cd_law ct_law⟩ := {
    f_is_whole := fun_mk (st := s_is_whole) l_is_whole cc_is_whole k_is_whole
    f_check_step := fun_mk (st := s_check_step) l_check_step cc_check_step k_check_step
    f_check_place := fun_mk (st := s_check_place) l_check_place cc_check_place k_check_place
    f_check_count := fun_mk (st := s_check_count) l_check_count cc_check_count k_check_count
    f_is_ring := fun_mk (st := s_is_ring) l_is_ring cc_is_ring k_is_ring
    f_check_laid := fun_mk (st := s_check_laid) l_check_laid cc_check_laid k_check_laid
    f_counted_out := fun_mk (st := s_counted_out) l_counted_out cc_counted_out k_counted_out
    f_goes_next := fun_mk (st := s_goes_next) l_goes_next cc_goes_next k_goes_next
    f_Ring___init__ := ⟨⟨_, _, _, _, _, _, _, _, _, _, rfl, l_Ring___init__, cc_Ring___init__, .inr ⟨by simp, _, _, _, _, rfl, dt_Ring___init__, dd_Ring___init__, dv_Ring___init__⟩, .inl rfl⟩, k_Ring___init__⟩
    f_Ring_left := fun_mk (st := s_Ring_left) l_Ring_left cc_Ring_left k_Ring_left
    f_Ring_gone := fun_mk (st := s_Ring_gone) l_Ring_gone cc_Ring_gone k_Ring_gone
    f_Ring_counts := fun_mk (st := s_Ring_counts) l_Ring_counts cc_Ring_counts k_Ring_counts
    f_Ring_come := ⟨⟨_, _, _, _, _, _, _, _, _, _, rfl, l_Ring_come, cc_Ring_come, .inr ⟨by simp, _, _, _, _, rfl, dt_Ring_come, dd_Ring_come, dv_Ring_come⟩, .inl rfl⟩, k_Ring_come⟩
    f_Ring_last := fun_mk (st := s_Ring_last) l_Ring_last cc_Ring_last k_Ring_last
    f_Ring__row := fun_mk (st := s_Ring__row) l_Ring__row cc_Ring__row k_Ring__row
    f_Ring__go_on := fun_mk (st := s_Ring__go_on) l_Ring__go_on cc_Ring__go_on k_Ring__go_on
    f__law_cell_at := fun_mk (st := s__law_cell_at) l__law_cell_at cc__law_cell_at k__law_cell_at
    f__law_next := fun_mk (st := s__law_next) l__law_next cc__law_next k__law_next
    f__law_state := fun_mk (st := s__law_state) l__law_state cc__law_state k__law_state
    f__law_of := fun_mk (st := s__law_of) l__law_of cc__law_of k__law_of
    f__law_far := fun_mk (st := s__law_far) l__law_far cc__law_far k__law_far
    f__law_hands := fun_mk (st := s__law_hands) l__law_hands cc__law_hands k__law_hands
    f_law := fun_mk (st := s_law) l_law cc_law k_law }
  exact ⟨PySem.W.fnOf "law" "law" (defArgs s_law) (defBody s_law) (defScope s_law) .none kV_law dc_law pm_law an_law cd_law ct_law, fun s v => .of_eq rfl, fun base _ _ => ok_law F T⟩
end R11
open PySem PySem.W PyProof.Rows
set_option maxHeartbeats 0 in
theorem PySem.Challenge.cw_countout_k11_whole_ring_hand_by_hand_holds : PySem.Challenge.rw_countout_k11_whole_ring_hand_by_hand.Holds := by
  w_on; o_law; k_head; (case hw => w_witness2)
  k_fill
  refine L2.walk_of (l := PySem.Challenge.rw_countout_k11_whole_ring_hand_by_hand) (n := 63) (k := 6) (x := "_law_script") (CX := fun _ => L2.CX0) (sp := fun w => Cd.K11.sLaw _) rfl (by decide) rfl ⟨rfl, by decide, by decide⟩ (fun w h Y => PySem.W.kIn_of Y) ?F (fun _ _ a ns hl _ hS => ⟨a, ns, rfl, hS, fun _ => rfl⟩) (fun _ _ _ _ _ h => h)
  case F =>
    intro w mg fa h KX G hmg
    refine' R11.all_mk KX G hmg ?a_Ring ?a_is_whole ?l_is_whole ?cc_is_whole ?k_is_whole ?a_check_step ?l_check_step ?cc_check_step ?k_check_step ?a_check_place ?l_check_place ?cc_check_place ?k_check_place ?a_check_count ?l_check_count ?cc_check_count ?k_check_count ?a_is_ring ?l_is_ring ?cc_is_ring ?k_is_ring ?a_check_laid ?l_check_laid ?cc_check_laid ?k_check_laid ?a_counted_out ?l_counted_out ?cc_counted_out ?k_counted_out ?a_goes_next ?l_goes_next ?cc_goes_next ?k_goes_next ?a_Ring___init__ ?i_Ring___init__ ?l_Ring___init__ ?dt_Ring___init__ ?dd_Ring___init__ ?dv_Ring___init__ ?cc_Ring___init__ ?k_Ring___init__ ?a_Ring_left ?i_Ring_left ?l_Ring_left ?cc_Ring_left ?k_Ring_left ?a_Ring_gone ?i_Ring_gone ?l_Ring_gone ?cc_Ring_gone ?k_Ring_gone ?a_Ring_counts ?i_Ring_counts ?l_Ring_counts ?cc_Ring_counts ?k_Ring_counts ?a_Ring_come ?i_Ring_come ?l_Ring_come ?dt_Ring_come ?dd_Ring_come ?dv_Ring_come ?cc_Ring_come ?k_Ring_come ?a_Ring_last ?i_Ring_last ?l_Ring_last ?cc_Ring_last ?k_Ring_last ?a_Ring__row ?i_Ring__row ?l_Ring__row ?cc_Ring__row ?k_Ring__row ?a_Ring__go_on ?i_Ring__go_on ?l_Ring__go_on ?cc_Ring__go_on ?k_Ring__go_on ?a__law_cell_at ?l__law_cell_at ?cc__law_cell_at ?k__law_cell_at ?a__law_next ?l__law_next ?cc__law_next ?k__law_next ?a__law_state ?l__law_state ?cc__law_state ?k__law_state ?a__law_of ?l__law_of ?cc__law_of ?k__law_of ?a__law_far ?l__law_far ?cc__law_far ?k__law_far ?a__law_hands ?l__law_hands ?cc__law_hands ?k__law_hands ?a_law ?l_law ?cc_law ?k_law ?pg_Ring ?hd_Ring ?po_Ring ?sa_Ring ?mk_Ring ?kc_Ring ?n_Ring_gone ?n_Ring_left ?n_Ring_step ?a_GREATEST ?a_MOST_EVER ?a_MOST_HANDS ?z_all ?z_bool ?z_int ?z_isinstance ?z_len ?z_list ?z_min ?z_range ?z_set ?z_str ?a_CountError ?k_CountError ?x_CountError ?bb_CountError ?t_CountError ?a_NoCount ?k_NoCount ?x_NoCount ?bb_NoCount ?t_NoCount ?a_NoHand ?k_NoHand ?x_NoHand ?bb_NoHand ?t_NoHand ?a_NoPlace ?k_NoPlace ?x_NoPlace ?bb_NoPlace ?t_NoPlace ?a_NoRing ?k_NoRing ?x_NoRing ?bb_NoRing ?t_NoRing ?a_NoStep ?k_NoStep ?x_NoStep ?bb_NoStep ?t_NoStep ?a_TooMany ?k_TooMany ?x_TooMany ?bb_TooMany ?t_TooMany ?a_TwiceTold ?k_TwiceTold ?x_TwiceTold ?bb_TwiceTold ?t_TwiceTold
    (case a_Ring => k_is)
    (case a_is_whole => k_is)
    (case l_is_whole => k_is)
    (case cc_is_whole => k_is)
    (case k_is_whole => k_is)
    (case a_check_step => k_is)
    (case l_check_step => k_is)
    (case cc_check_step => k_is)
    (case k_check_step => k_is)
    (case a_check_place => k_is)
    (case l_check_place => k_is)
    (case cc_check_place => k_is)
    (case k_check_place => k_is)
    (case a_check_count => k_is)
    (case l_check_count => k_is)
    (case cc_check_count => k_is)
    (case k_check_count => k_is)
    (case a_is_ring => k_is)
    (case l_is_ring => k_is)
    (case cc_is_ring => k_is)
    (case k_is_ring => k_is)
    (case a_check_laid => k_is)
    (case l_check_laid => k_is)
    (case cc_check_laid => k_is)
    (case k_check_laid => k_is)
    (case a_counted_out => k_is)
    (case l_counted_out => k_is)
    (case cc_counted_out => k_is)
    (case k_counted_out => k_is)
    (case a_goes_next => k_is)
    (case l_goes_next => k_is)
    (case cc_goes_next => k_is)
    (case k_goes_next => k_is)
    (case a_Ring___init__ => k_is)
    (case i_Ring___init__ => k_is)
    (case l_Ring___init__ => k_is)
    (case dt_Ring___init__ => k_is)
    (case dd_Ring___init__ => rfl)
    (case dv_Ring___init__ => exact .cons ⟨_, rfl⟩ .nil)
    (case cc_Ring___init__ => k_is)
    (case k_Ring___init__ => k_is)
    (case a_Ring_left => k_is)
    (case i_Ring_left => k_is)
    (case l_Ring_left => k_is)
    (case cc_Ring_left => k_is)
    (case k_Ring_left => k_is)
    (case a_Ring_gone => k_is)
    (case i_Ring_gone => k_is)
    (case l_Ring_gone => k_is)
    (case cc_Ring_gone => k_is)
    (case k_Ring_gone => k_is)
    (case a_Ring_counts => k_is)
    (case i_Ring_counts => k_is)
    (case l_Ring_counts => k_is)
    (case cc_Ring_counts => k_is)
    (case k_Ring_counts => k_is)
    (case a_Ring_come => k_is)
    (case i_Ring_come => k_is)
    (case l_Ring_come => k_is)
    (case dt_Ring_come => k_is)
    (case dd_Ring_come => rfl)
    (case dv_Ring_come => exact .cons rfl .nil)
    (case cc_Ring_come => k_is)
    (case k_Ring_come => k_is)
    (case a_Ring_last => k_is)
    (case i_Ring_last => k_is)
    (case l_Ring_last => k_is)
    (case cc_Ring_last => k_is)
    (case k_Ring_last => k_is)
    (case a_Ring__row => k_is)
    (case i_Ring__row => k_is)
    (case l_Ring__row => k_is)
    (case cc_Ring__row => k_is)
    (case k_Ring__row => k_is)
    (case a_Ring__go_on => k_is)
    (case i_Ring__go_on => k_is)
    (case l_Ring__go_on => k_is)
    (case cc_Ring__go_on => k_is)
    (case k_Ring__go_on => k_is)
    (case a__law_cell_at => k_is)
    (case l__law_cell_at => k_is)
    (case cc__law_cell_at => k_is)
    (case k__law_cell_at => k_is)
    (case a__law_next => k_is)
    (case l__law_next => k_is)
    (case cc__law_next => k_is)
    (case k__law_next => k_is)
    (case a__law_state => k_is)
    (case l__law_state => k_is)
    (case cc__law_state => k_is)
    (case k__law_state => k_is)
    (case a__law_of => k_is)
    (case l__law_of => k_is)
    (case cc__law_of => k_is)
    (case k__law_of => k_is)
    (case a__law_far => k_is)
    (case l__law_far => k_is)
    (case cc__law_far => k_is)
    (case k__law_far => k_is)
    (case a__law_hands => k_is)
    (case l__law_hands => k_is)
    (case cc__law_hands => k_is)
    (case k__law_hands => k_is)
    (case a_law => k_is)
    (case l_law => k_is)
    (case cc_law => k_is)
    (case k_law => k_is)
    (case pg_Ring => k_is)
    (case hd_Ring => k_is)
    (case po_Ring => k_is)
    (case sa_Ring => k_is)
    (case mk_Ring => k_is)
    (case kc_Ring => k_is)
    (case n_Ring_gone => k_is)
    (case n_Ring_left => k_is)
    (case n_Ring_step => k_is)
    (case a_GREATEST => k_is)
    (case a_MOST_EVER => k_is)
    (case a_MOST_HANDS => k_is)
    (case z_all => k_is)
    (case z_bool => k_is)
    (case z_int => k_is)
    (case z_isinstance => k_is)
    (case z_len => k_is)
    (case z_list => k_is)
    (case z_min => k_is)
    (case z_range => k_is)
    (case z_set => k_is)
    (case z_str => k_is)
    (case a_CountError => k_is)
    (case k_CountError => k_is)
    (case x_CountError => k_exc)
    (case bb_CountError => k_is)
    (case t_CountError => k_is)
    (case a_NoCount => k_is)
    (case k_NoCount => k_is)
    (case x_NoCount => k_exc)
    (case bb_NoCount => k_is)
    (case t_NoCount => k_is)
    (case a_NoHand => k_is)
    (case k_NoHand => k_is)
    (case x_NoHand => k_exc)
    (case bb_NoHand => k_is)
    (case t_NoHand => k_is)
    (case a_NoPlace => k_is)
    (case k_NoPlace => k_is)
    (case x_NoPlace => k_exc)
    (case bb_NoPlace => k_is)
    (case t_NoPlace => k_is)
    (case a_NoRing => k_is)
    (case k_NoRing => k_is)
    (case x_NoRing => k_exc)
    (case bb_NoRing => k_is)
    (case t_NoRing => k_is)
    (case a_NoStep => k_is)
    (case k_NoStep => k_is)
    (case x_NoStep => k_exc)
    (case bb_NoStep => k_is)
    (case t_NoStep => k_is)
    (case a_TooMany => k_is)
    (case k_TooMany => k_is)
    (case x_TooMany => k_exc)
    (case bb_TooMany => k_is)
    (case t_TooMany => k_is)
    (case a_TwiceTold => k_is)
    (case k_TwiceTold => k_is)
    (case x_TwiceTold => k_exc)
    (case bb_TwiceTold => k_is)
    (case t_TwiceTold => k_is)
