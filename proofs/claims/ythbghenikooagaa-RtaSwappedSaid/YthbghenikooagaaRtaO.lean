/- Layer 16: in whatever order they stand. Plain theorems. -/
import Derived.Test.YthbghenikooagaaRtaN
namespace Go.Proofs.Ythbghenikooagaa
open Go.RowKit
set_option linter.unusedVariables false
set_option maxRecDepth 100000
set_option maxHeartbeats 1000000
def sumN (f : Nat → Nat) : Nat → Nat
  | 0 => 0
  | k + 1 => sumN f k + f k
theorem sumN_like {f g : Nat → Nat} : ∀ n, (∀ j, j < n → f j = g j) → sumN f n = sumN g n
  | 0, _ => rfl
  | n + 1, h => by simp only [sumN]; rw [sumN_like n fun j hj => h j (by omega), h n (by omega)]
theorem sumN_add (f : Nat → Nat) (a : Nat) : ∀ b, sumN f (a + b) = sumN f a + sumN (fun j => f (a + j)) b
  | 0 => by simp [sumN]
  | b + 1 => by
    show sumN f (a + b) + f (a + b) = _
    rw [sumN_add f a b]; simp only [sumN]; omega
theorem sumN_front (f : Nat → Nat) (n : Nat) : sumN f (n + 1) = f 0 + sumN (fun j => f (j + 1)) n := by
  rw [show n + 1 = 1 + n by omega, sumN_add]
  simp only [sumN, Nat.zero_add]
  rw [sumN_like (f := fun j => f (1 + j)) (g := fun j => f (j + 1)) n fun j _ => by rw [Nat.add_comm]]
theorem sumN_back (f : Nat → Nat) : ∀ n, sumN (fun j => f (n - 1 - j)) n = sumN f n
  | 0 => rfl
  | n + 1 => by
    rw [sumN_front]
    show f (n + 1 - 1 - 0) + sumN (fun j => f (n + 1 - 1 - (j + 1))) n = sumN f n + f n
    rw [sumN_like (f := fun j => f (n + 1 - 1 - (j + 1))) (g := fun j => f (n - 1 - j)) n fun j hj => by rw [show n + 1 - 1 - (j + 1) = n - 1 - j by omega], sumN_back f n]
    simp; omega
theorem sumN_turn (f : Nat → Nat) {n k : Nat} (hk : k < n) : sumN (fun j => f ((j + k) % n)) n = sumN f n := by
  have e1 : sumN (fun j => f ((j + k) % n)) n = sumN (fun j => f ((j + k) % n)) (n - k) + sumN (fun j => f ((n - k + j + k) % n)) k := by
    have h := sumN_add (fun j => f ((j + k) % n)) (n - k) k
    rw [show n - k + k = n by omega] at h
    exact h
  have e2 : sumN f n = sumN f k + sumN (fun j => f (k + j)) (n - k) := by
    have h := sumN_add f k (n - k)
    rw [show k + (n - k) = n by omega] at h
    exact h
  rw [e1, e2]
  rw [sumN_like (f := fun j => f ((j + k) % n)) (g := fun j => f (k + j)) (n - k) fun j hj => by rw [Nat.mod_eq_of_lt (by omega), Nat.add_comm],
    sumN_like (f := fun j => f ((n - k + j + k) % n)) (g := f) k fun j hj => by rw [show n - k + j + k = j + n by omega, Nat.add_mod_right, Nat.mod_eq_of_lt (by omega)]]
  omega
theorem rot_inj {n k i j : Nat} (hk : k < n) (hi : i < n) (hj : j < n) (h : (i + k) % n = (j + k) % n) : i = j := by
  have e : ∀ x, x < n → (x + k) % n = if x + k < n then x + k else x + k - n := fun x hx => by
    by_cases c : x + k < n
    · rw [if_pos c, Nat.mod_eq_of_lt c]
    · rw [if_neg c, show x + k = (x + k - n) + n by omega, Nat.add_mod_right, Nat.mod_eq_of_lt (by omega)]; omega
  rw [e i hi, e j hj] at h
  split at h <;> split at h <;> omega
theorem rot_sur {n k i : Nat} (hk : k < n) (hi : i < n) : ∃ j, j < n ∧ (j + k) % n = i := by
  by_cases c : k ≤ i
  · exact ⟨i - k, by omega, by rw [show i - k + k = i by omega, Nat.mod_eq_of_lt hi]⟩
  · exact ⟨i + n - k, by omega, by rw [show i + n - k + k = i + n by omega, Nat.add_mod_right, Nat.mod_eq_of_lt hi]⟩
theorem tkn_ldl (S : Nat → Ld) (s : Nat) : ∀ m, tkn (ldl S m) s = sumN (fun j => tkn [ldt (S j)] s) m
  | 0 => rfl
  | m + 1 => by simp only [ldl, sumN]; rw [tkn_app, tkn_ldl S s m]
theorem tkn_aht (T : Nat → Wk) (i s : Nat) : ∀ n, tkn (aht T i n) s = sumN (fun j => if j ≠ i ∧ (T j).prio ≤ (T i).prio then tkn [wkt (T j)] s else 0) n
  | 0 => rfl
  | n + 1 => by
    simp only [aht, sumN]
    rw [tkn_app, tkn_aht T i s n]
    congr 1
    split <;> rfl
def rotT (T : Nat → Wk) (n k : Nat) : Nat → Wk := fun j => T ((j + k) % n)
def revS (S : Nat → Ld) (m : Nat) : Nat → Ld := fun j => S (m - 1 - j)
section
variable {n m k : Nat} {T : Nat → Wk} {S : Nat → Ld}
theorem rot_tok (hk : k < n) : TOK n (rotT T n k) ↔ TOK n T := by
  refine and_congr Iff.rfl ⟨fun h j hj => ?_, fun h j hj => h _ (Nat.mod_lt _ (by omega))⟩
  obtain ⟨i, hi, e⟩ := rot_sur hk hj
  have := h i hi
  unfold rotT at this
  rwa [e] at this
theorem rev_sok : SOK m (revS S m) ↔ SOK m S := by
  refine and_congr Iff.rfl ⟨fun h j hj => ?_, fun h j hj => h _ (by omega)⟩
  have := h (m - 1 - j) (by omega)
  unfold revS at this
  rwa [show m - 1 - (m - 1 - j) = j by omega] at this
theorem who_same (hk : k < n) {i : Nat} (hi : i < n) (s : Nat) : tkn (whoL (rotT T n k) (revS S m) n m i) s = tkn (whoL T S n m ((i + k) % n)) s := by
  unfold whoL
  rw [tkn_app, tkn_app, tkn_ldl, tkn_ldl, tkn_aht, tkn_aht]
  have e1 := sumN_back (fun j => tkn [ldt (S j)] s) m
  have e2 := sumN_turn (fun j => if j ≠ (i + k) % n ∧ (T j).prio ≤ (T ((i + k) % n)).prio then tkn [wkt (T j)] s else 0) hk
  have e3 : sumN (fun j => tkn [ldt (revS S m j)] s) m = sumN (fun j => tkn [ldt (S j)] s) m := e1
  have e4 : sumN (fun j => if j ≠ i ∧ (rotT T n k j).prio ≤ (rotT T n k i).prio then tkn [wkt (rotT T n k j)] s else 0) n = sumN (fun j => if j ≠ (i + k) % n ∧ (T j).prio ≤ (T ((i + k) % n)).prio then tkn [wkt (T j)] s else 0) n := by
    rw [← e2]
    refine sumN_like n fun j hj => ?_
    unfold rotT
    have hne : j ≠ i ↔ (j + k) % n ≠ (i + k) % n := not_congr ⟨fun h => by rw [h], fun h => rot_inj hk hj hi h⟩
    by_cases c : (j + k) % n ≠ (i + k) % n ∧ (T ((j + k) % n)).prio ≤ (T ((i + k) % n)).prio
    · rw [if_pos c, if_pos ⟨hne.2 c.1, c.2⟩]
    · rw [if_neg c, if_neg fun h => c ⟨hne.1 h.1, h.2⟩]
  rw [e3, e4]
theorem lfp_same {c d : Nat} {l l' : List Tk} (h : ∀ s, tkn l s = tkn l' s) : lfp c d l = lfp c d l' := by
  have e : Fx c l = Fx c l' := by funext s; unfold Fx; rw [h s]
  unfold lfp
  rw [e]
theorem time_rot (hk : k < n) {i : Nat} (hi : i < n) : timeO n (rotT T n k) m (revS S m) i = timeO n T m S (((i + k) % n : Nat) : Int) := by
  have hj := Nat.mod_lt (i + k) (show 0 < n by omega)
  unfold timeO
  by_cases c : TOK n T ∧ SOK m S
  · rw [if_pos ⟨⟨by omega, by omega⟩, (rot_tok hk).2 c.1, rev_sok.2 c.2⟩, if_pos ⟨⟨by omega, by omega⟩, c.1, c.2⟩, Int.toNat_natCast, Int.toNat_natCast]
    exact lfp_same fun s => who_same hk hi s
  · rw [if_neg fun h => c ⟨(rot_tok hk).1 h.2.1, rev_sok.1 h.2.2⟩, if_neg fun h => c h.2]
theorem all_rot (hk : k < n) : allO n (rotT T n k) m (revS S m) ↔ allO n T m S := by
  constructor
  · intro h i hi
    obtain ⟨j, hj, e⟩ := rot_sur hk hi
    have := h j hj
    rw [time_rot hk hj, e] at this
    exact this
  · intro h i hi
    rw [time_rot hk hi]
    exact h _ (Nat.mod_lt _ (by omega))
end
end Go.Proofs.Ythbghenikooagaa
