/- RiA: DescM DescP RingM RingC RingD RingE RingF RingG RingH RingI RingN in a namespace of their own. Printed by bin/nsgen.py. -/
import Derived.Test.YtdjhpdacglojaaaGreatRows
import Derived.Test.YtdjhpdacglojaaaGreatRd
import Derived.WalkKit
import Derived.Lib.Hide
import Derived.Test.YtdjhpdacglojaaaGreatSep
import Derived.Test.YtdjhpdacglojaaaGreatLis
import Derived.LoopTactic
import Derived.IntWalk
import Derived.Test.YtdjhpdacglojaaaGreatGrid
import Derived.Test.YtdjhpdacglojaaaGreatCopy
import Derived.Test.YtdjhpdacglojaaaGreatFam
import Derived.StillTailTactics
import Derived.WalkMore
import Derived.Deep.DeepCutAuto
import Derived.Test.YtdjhpdacglojaaaGreatMore
namespace Go.Proofs.YtdjhpdacglojaaaGreat
open Go.RowKit
namespace ri
section
set_option linter.unusedVariables false
def chk (f : Nat → Int) : Nat → Int
  | 0 => 0
  | k + 1 => (chk f k + f k * ((k : Int) + 1)) % 16777216
/-- A descriptor. -/
structure Dsc where
  op : Int
  req : Int
  slot : Int
  gen : Int
  frm : Int
  len : Int
  dv : Bool
  dn : Bool
  st : Int
@[ext] theorem Dsc.ext' {a b : Dsc} (h1 : a.op = b.op) (h2 : a.req = b.req) (h3 : a.slot = b.slot) (h4 : a.gen = b.gen) (h5 : a.frm = b.frm) (h6 : a.len = b.len) (h7 : a.dv = b.dv) (h8 : a.dn = b.dn) (h9 : a.st = b.st) : a = b := by
  cases a; cases b; simp_all
def Dsc.may (d : Dsc) : Prop := (0 ≤ d.op ∧ d.op ≤ 15) ∧ (0 ≤ d.req ∧ d.req ≤ 65535) ∧ (0 ≤ d.slot ∧ d.slot ≤ 65535) ∧ (0 ≤ d.gen ∧ d.gen < 4294967296) ∧ (0 ≤ d.frm ∧ d.frm ≤ 65535) ∧ (0 ≤ d.len ∧ d.len ≤ 65536) ∧ (0 ≤ d.st ∧ d.st ≤ 255) ∧ (d.dn = true ∨ d.st = 0)
instance (d : Dsc) : Decidable d.may := by unfold Dsc.may; infer_instance
def Dsc.marks (d : Dsc) : Int := d.op + (if d.dv then 16 else 0) + (if d.dn then 32 else 0)
/-- Its seventeen bytes ahead of the check. -/
def Dsc.pre (d : Dsc) : Nat → Int
  | 0 => d.marks
  | 1 => d.st
  | 2 => d.req / 256
  | 3 => d.req % 256
  | 4 => d.slot / 256
  | 5 => d.slot % 256
  | 6 => d.gen / 16777216
  | 7 => d.gen / 65536 % 256
  | 8 => d.gen / 256 % 256
  | 9 => d.gen % 256
  | 10 => d.frm / 256
  | 11 => d.frm % 256
  | 12 => 0
  | 13 => d.len / 65536
  | 14 => d.len / 256 % 256
  | 15 => d.len % 256
  | _ => 0
def Dsc.sum (d : Dsc) : Int := chk d.pre 17
def Dsc.full (d : Dsc) : Nat → Int
  | 17 => d.sum / 65536
  | 18 => d.sum / 256 % 256
  | 19 => d.sum % 256
  | j => d.pre j
theorem chk_bd (f : Nat → Int) : ∀ k, 0 ≤ chk f k ∧ chk f k < 16777216
  | 0 => by simp [chk]
  | k + 1 => by unfold chk; omega
theorem chk_like {f g : Nat → Int} : ∀ {n : Nat}, (∀ j, j < n → f j = g j) → chk f n = chk g n
  | 0, _ => rfl
  | n + 1, h => by unfold chk; rw [chk_like (n := n) fun j hj => h j (by omega), h n (by omega)]
theorem full_pre (d : Dsc) : ∀ j, j < 17 → d.full j = d.pre j := by
  intro j hj
  unfold Dsc.full
  split <;> first | omega | rfl
theorem full_chk (d : Dsc) : chk d.full 17 = d.sum := chk_like (full_pre d)
theorem marks_bd {d : Dsc} (h : d.may) : 0 ≤ d.marks ∧ d.marks ≤ 63 := by
  obtain ⟨h, _⟩ := h
  unfold Dsc.marks
  split <;> split <;> omega
theorem pre_bd {d : Dsc} (h : d.may) (j : Nat) : 0 ≤ d.pre j ∧ d.pre j < 256 := by
  have hm := marks_bd h
  obtain ⟨h1, h2, h3, h4, h5, h6, h7, _⟩ := h
  unfold Dsc.pre
  split <;> omega
theorem full_bd {d : Dsc} (h : d.may) (j : Nat) : 0 ≤ d.full j ∧ d.full j < 256 := by
  have hc := chk_bd d.pre 17
  have hs : d.sum = chk d.pre 17 := rfl
  unfold Dsc.full
  split
  · omega
  · omega
  · omega
  · exact pre_bd h j
/-- The descriptor that twenty bytes would be. -/
def dec (f : Nat → Int) : Dsc where
  op := f 0 % 16
  dv := decide (f 0 / 16 % 2 = 1)
  dn := decide (f 0 / 32 % 2 = 1)
  st := f 1
  req := f 2 * 256 + f 3
  slot := f 4 * 256 + f 5
  gen := ((f 6 * 256 + f 7) * 256 + f 8) * 256 + f 9
  frm := f 10 * 256 + f 11
  len := ((f 12 * 256 + f 13) * 256 + f 14) * 256 + f 15
theorem dec_like {f g : Nat → Int} (h : ∀ j, j < 20 → f j = g j) : dec f = dec g := by
  unfold dec
  rw [h 0, h 1, h 2, h 3, h 4, h 5, h 6, h 7, h 8, h 9, h 10, h 11, h 12, h 13, h 14, h 15] <;> omega
theorem dec_full {d : Dsc} (h : d.may) : dec d.full = d := by
  obtain ⟨h1, h2, h3, h4, h5, h6, h7, h8⟩ := h
  have hm : d.full 0 = d.marks := rfl
  unfold Dsc.marks at hm
  refine Dsc.ext' ?_ ?_ ?_ ?_ ?_ ?_ ?_ ?_ ?_
  · show d.full 0 % 16 = d.op
    rw [hm]; split <;> split <;> omega
  · show d.req / 256 * 256 + d.req % 256 = _; omega
  · show d.slot / 256 * 256 + d.slot % 256 = _; omega
  · show ((d.gen / 16777216 * 256 + d.gen / 65536 % 256) * 256 + d.gen / 256 % 256) * 256 + d.gen % 256 = _; omega
  · show d.frm / 256 * 256 + d.frm % 256 = _; omega
  · show ((0 * 256 + d.len / 65536) * 256 + d.len / 256 % 256) * 256 + d.len % 256 = _; omega
  · show decide (d.full 0 / 16 % 2 = 1) = d.dv
    rw [hm]
    cases d.dv <;> cases d.dn <;> simp <;> omega
  · show decide (d.full 0 / 32 % 2 = 1) = d.dn
    rw [hm]
    cases d.dv <;> cases d.dn <;> simp <;> omega
  · rfl
/-- Are these rows' bytes a descriptor's? -/
def isD (f : Nat → Int) (n : Nat) : Prop := n = 20 ∧ (dec f).may ∧ ∀ j, j < 20 → f j = (dec f).full j
instance (f : Nat → Int) (n : Nat) : Decidable (isD f n) := by unfold isD; infer_instance
theorem isD_full {d : Dsc} (h : d.may) : isD d.full 20 := ⟨rfl, by rw [dec_full h]; exact h, fun j hj => by rw [dec_full h]⟩
theorem isD_like {f g : Nat → Int} {n : Nat} (h : ∀ j, j < 20 → f j = g j) : isD f n ↔ isD g n := by
  unfold isD
  rw [dec_like h]
  constructor
  · rintro ⟨a, b, c⟩; exact ⟨a, b, fun j hj => by rw [← h j hj]; exact c j hj⟩
  · rintro ⟨a, b, c⟩; exact ⟨a, b, fun j hj => by rw [h j hj]; exact c j hj⟩
theorem full_inj {d o : Dsc} (hd : d.may) (ho : o.may) (h : ∀ j, j < 20 → d.full j = o.full j) : d = o := by
  rw [← dec_full hd, ← dec_full ho, dec_like h]
/-- The plain sum. -/
def raw (f : Nat → Int) : Nat → Int
  | 0 => 0
  | k + 1 => raw f k + f k * ((k : Int) + 1)
theorem chk_raw (f : Nat → Int) : ∀ n, chk f n = raw f n % 16777216
  | 0 => rfl
  | n + 1 => by unfold chk raw; rw [chk_raw f n]; omega
theorem raw_one {f g : Nat → Int} {i : Nat} (h : ∀ j, j ≠ i → f j = g j) : ∀ n, raw f n = raw g n + (if i < n then (f i - g i) * ((i : Int) + 1) else 0)
  | 0 => by simp [raw]
  | n + 1 => by
    unfold raw
    rw [raw_one h n]
    by_cases e : n = i
    · subst e
      rw [if_neg (by omega), if_pos (by omega), Int.sub_mul]; omega
    · rw [h n e]
      by_cases e2 : i < n
      · rw [if_pos e2, if_pos (by omega)]; omega
      · rw [if_neg e2, if_neg (by omega)]; omega
theorem chk_one {f g : Nat → Int} {i n : Nat} (h : ∀ j, j ≠ i → f j = g j) (hi : i < n) (hn : n ≤ 4000) (hf : 0 ≤ f i ∧ f i < 256) (hg : 0 ≤ g i ∧ g i < 256) : chk f n = chk g n ↔ f i = g i := by
  rw [chk_raw, chk_raw, raw_one h n, if_pos hi]
  constructor
  · intro he
    generalize f i = x at *
    generalize g i = y at *
    by_cases hxy : x = y
    · exact hxy
    · exfalso
      have b : (x - y) * ((i : Int) + 1) % 16777216 = 0 := by omega
      rcases Int.lt_or_gt_of_ne hxy with hl | hl
      · have b1 : (y - x) * ((i : Int) + 1) ≤ 256 * ((i : Int) + 1) := Int.mul_le_mul_of_nonneg_right (by omega) (by omega)
        have b2 : 1 * ((i : Int) + 1) ≤ (y - x) * ((i : Int) + 1) := Int.mul_le_mul_of_nonneg_right (by omega) (by omega)
        have b3 : (x - y) * ((i : Int) + 1) = -((y - x) * ((i : Int) + 1)) := by rw [← Int.neg_mul]; congr 1; omega
        generalize (y - x) * ((i : Int) + 1) = z at *
        omega
      · have b1 : (x - y) * ((i : Int) + 1) ≤ 256 * ((i : Int) + 1) := Int.mul_le_mul_of_nonneg_right (by omega) (by omega)
        have b2 : 1 * ((i : Int) + 1) ≤ (x - y) * ((i : Int) + 1) := Int.mul_le_mul_of_nonneg_right (by omega) (by omega)
        generalize (x - y) * ((i : Int) + 1) = z at *
        omega
  · intro he; rw [he]; simp
theorem raw_two {f g : Nat → Int} {i : Nat} (h : ∀ j, j ≠ i → j ≠ i + 1 → f j = g j) (h1 : f i = g (i + 1)) (h2 : f (i + 1) = g i) : ∀ n, i + 1 < n → raw f n = raw g n + (g i - g (i + 1))
  | 0, hn => by omega
  | n + 1, hn => by
    by_cases e : n = i + 1
    · subst e
      have hb : raw f i = raw g i := by
        have : ∀ m, m ≤ i → raw f m = raw g m := by
          intro m
          induction m with
          | zero => intro; rfl
          | succ m ih => intro hm; unfold raw; rw [ih (by omega), h m (by omega) (by omega)]
        exact this i (Nat.le_refl _)
      unfold raw
      unfold raw
      rw [hb, h1, h2]
      generalize g i = x
      generalize g (i + 1) = y
      generalize raw g i = r
      have e1 : y * ((i : Int) + 1) = y * i + y := by rw [Int.mul_add, Int.mul_one]
      have e2 : x * (((i + 1 : Nat) : Int) + 1) = x * i + 2 * x := by rw [Int.natCast_add, Int.mul_add, Int.mul_add]; omega
      have e3 : x * ((i : Int) + 1) = x * i + x := by rw [Int.mul_add, Int.mul_one]
      have e4 : y * (((i + 1 : Nat) : Int) + 1) = y * i + 2 * y := by rw [Int.natCast_add, Int.mul_add, Int.mul_add]; omega
      rw [e1, e2, e3, e4]
      omega
    · unfold raw
      rw [raw_two h h1 h2 n (by omega), h n (by omega) e]
      omega
theorem chk_two {f g : Nat → Int} {i n : Nat} (h : ∀ j, j ≠ i → j ≠ i + 1 → f j = g j) (h1 : f i = g (i + 1)) (h2 : f (i + 1) = g i) (hi : i + 1 < n) (hf : 0 ≤ g i ∧ g i < 256) (hg : 0 ≤ g (i + 1) ∧ g (i + 1) < 256) : chk f n = chk g n ↔ g i = g (i + 1) := by
  rw [chk_raw, chk_raw, raw_two h h1 h2 n hi]
  omega
theorem isD_sum {f : Nat → Int} (h : isD f 20) : chk f 17 = (f 17 * 256 + f 18) * 256 + f 19 := by
  obtain ⟨_, hm, hf⟩ := h
  have hb := chk_bd (dec f).pre 17
  have h1 : chk f 17 = (dec f).sum := by rw [← full_chk]; exact chk_like fun j hj => hf j (by omega)
  have e17 : f 17 = (dec f).sum / 65536 := hf 17 (by omega)
  have e18 : f 18 = (dec f).sum / 256 % 256 := hf 18 (by omega)
  have e19 : f 19 = (dec f).sum % 256 := hf 19 (by omega)
  unfold Dsc.sum at *
  omega
/-- A byte turned: none's. -/
theorem isD_turned {d : Dsc} (hd : d.may) {f : Nat → Int} {i : Nat} (hi : i < 20) (h : ∀ j, j ≠ i → f j = d.full j) (hb : 0 ≤ f i ∧ f i < 256) : isD f 20 ↔ f i = d.full i := by
  constructor
  · intro hf
    have h1 := isD_sum hf
    have h2 := isD_sum (isD_full hd)
    have hdb := full_bd hd
    by_cases h17 : i < 17
    · rw [h 17 (by omega), h 18 (by omega), h 19 (by omega)] at h1
      exact (chk_one h h17 (by omega) hb (hdb i)).1 (h1.trans h2.symm)
    · have h3 : chk f 17 = chk d.full 17 := chk_like fun j hj => h j (by omega)
      rw [h3, h2] at h1
      have b17 := hdb 17
      have b18 := hdb 18
      have b19 := hdb 19
      rcases (show i = 17 ∨ i = 18 ∨ i = 19 by omega) with rfl | rfl | rfl
      · rw [h 18 (by omega), h 19 (by omega)] at h1; omega
      · rw [h 17 (by omega), h 19 (by omega)] at h1; omega
      · rw [h 17 (by omega), h 18 (by omega)] at h1; omega
  · intro he
    have : ∀ j, j < 20 → f j = d.full j := fun j hj => by
      by_cases e : j = i
      · rw [e, he]
      · exact h j e
    exact (isD_like this).2 (isD_full hd)
/-- A descriptor's value, and its cells. -/
def Dsc.cells (d : Dsc) : Array Value := #[.int .i64 d.op, .int .i64 d.req, .int .i64 d.slot, .int .u64 d.gen, .int .i64 d.frm, .int .i64 d.len, .bool d.dv, .bool d.dn, .int .i64 d.st]
def Dsc.v (d : Dsc) : Value := .agg #[.int .i64 d.op, .int .i64 d.req, .int .i64 d.slot, .int .u64 d.gen, .int .i64 d.frm, .int .i64 d.len, .bool d.dv, .bool d.dn, .int .i64 d.st]
/-- Whatever fits the fields. -/
def Dsc.fits (d : Dsc) : Prop := (-9223372036854775808 ≤ d.op ∧ d.op ≤ 9223372036854775807) ∧ (-9223372036854775808 ≤ d.req ∧ d.req ≤ 9223372036854775807) ∧ (-9223372036854775808 ≤ d.slot ∧ d.slot ≤ 9223372036854775807) ∧ (0 ≤ d.gen ∧ d.gen ≤ 18446744073709551615) ∧ (-9223372036854775808 ≤ d.frm ∧ d.frm ≤ 9223372036854775807) ∧ (-9223372036854775808 ≤ d.len ∧ d.len ≤ 9223372036854775807) ∧ (-9223372036854775808 ≤ d.st ∧ d.st ≤ 9223372036854775807)
theorem Dsc.may.fits {d : Dsc} (h : d.may) : d.fits := by
  unfold Dsc.may at h
  unfold Dsc.fits
  omega
/-- A number's last bytes, the greatest first. -/
def be (n : Int) : Nat → List Int
  | 0 => []
  | z + 1 => (n / 256 ^ z % 256) :: be n z
def beAll : List (Int × Nat) → List Int
  | [] => []
  | p :: l => be p.1 p.2 ++ beAll l
theorem be_len (n : Int) : ∀ z, (be n z).length = z
  | 0 => rfl
  | z + 1 => by simp [be, be_len n z]
/-- Numbers as bytes in memory. -/
def bys (xs : List Int) : List Value := xs.map (Value.int .u8)
theorem bys_len (xs : List Int) : (bys xs).length = xs.length := by simp [bys]
theorem bys_snoc (xs : List Int) (x : Int) : bys (xs ++ [x]) = bys xs ++ [.int .u8 x] := by simp [bys]
theorem bys_one (xs : List Int) : ∀ u ∈ bys xs, u.oneCell' = true := by
  intro u hu
  obtain ⟨x, _, rfl⟩ := List.mem_map.1 hu
  rfl
def Dsc.preL (d : Dsc) : List Int := (List.range 17).map d.pre
def Dsc.fullL (d : Dsc) : List Int := (List.range 20).map d.full
end
section
set_option linter.unusedVariables false
set_option maxRecDepth 100000
set_option maxHeartbeats 400000
theorem within_yes (n g : Int) (w : World) (h : 0 ≤ n ∧ n ≤ g) : Calls Tryz.prog 150 #[.int .i64 n, .int .i64 g] w fun e w' => e = .returned (.bool true) ∧ w = w' := by
  have d1 : decide (0 ≤ n) = true := decide_eq_true h.1
  have d2 : decide (n ≤ g) = true := decide_eq_true h.2
  go_enter Tryz.func150, Tryz.ntmps150
  go_wp2
  go_ret
  exact ⟨rfl, rfl⟩
theorem within_no (n g : Int) (w : World) (h : ¬ (0 ≤ n ∧ n ≤ g)) : Calls Tryz.prog 150 #[.int .i64 n, .int .i64 g] w fun e w' => e = .returned (.bool false) ∧ w = w' := by
  by_cases q : 0 ≤ n
  · have d1 : decide (0 ≤ n) = true := decide_eq_true q
    have d2 : decide (n ≤ g) = false := decide_eq_false (by omega)
    go_enter Tryz.func150, Tryz.ntmps150
    go_wp2
    go_ret
    exact ⟨rfl, rfl⟩
  · have d1 : decide (0 ≤ n) = false := decide_eq_false q
    go_enter Tryz.func150, Tryz.ntmps150
    go_wp2
    go_ret
    exact ⟨rfl, rfl⟩
theorem may_c (d : Dsc) (w : World) (hf : d.fits) (b : Bool) (hb : b = decide d.may) : Calls Tryz.prog 115 #[d.v] w fun e w' => e = .returned (.bool b) ∧ Below w.heap.size w w' := by
  obtain ⟨op, req, slot, gen, frm, len, dv, dn, st⟩ := d
  unfold Dsc.fits at hf
  unfold Dsc.v
  dsimp only at hf ⊢
  by_cases h1 : 0 ≤ op ∧ op ≤ 15
  · by_cases h2 : 0 ≤ req ∧ req ≤ 65535
    · by_cases h3 : 0 ≤ slot ∧ slot ≤ 65535
      · by_cases h4 : 0 ≤ gen ∧ gen < 4294967296
        · by_cases h5 : 0 ≤ frm ∧ frm ≤ 65535
          · by_cases h6 : 0 ≤ len ∧ len ≤ 65536
            · by_cases h7 : 0 ≤ st ∧ st ≤ 255
              · by_cases h8 : dn = true ∨ st = 0
                · obtain rfl : b = true := by rw [hb]; exact decide_eq_true ⟨h1, h2, h3, h4, h5, h6, h7, h8⟩
                  clear hb
                  cases dn with
                  | true =>
                    have d4 : decide (gen < 4294967296) = true := decide_eq_true (by omega)
                    go_enter Tryz.func115, Tryz.ntmps115
                    go_wp2_with (go_at_call 150; first | (refine (within_yes _ _ _ (by omega)).mono ?_; rintro e w1 ⟨rfl, rfl⟩) | (refine (within_no _ _ _ (by omega)).mono ?_; rintro e w1 ⟨rfl, rfl⟩))
                    go_ret
                    exact ⟨rfl, (Below.refl _ _).alloc (Nat.le_refl _) _⟩
                  | false =>
                    obtain rfl : st = 0 := by simpa using h8
                    have d4 : decide (gen < 4294967296) = true := decide_eq_true (by omega)
                    go_enter Tryz.func115, Tryz.ntmps115
                    go_wp2_with (go_at_call 150; first | (refine (within_yes _ _ _ (by omega)).mono ?_; rintro e w1 ⟨rfl, rfl⟩) | (refine (within_no _ _ _ (by omega)).mono ?_; rintro e w1 ⟨rfl, rfl⟩))
                    go_ret
                    exact ⟨rfl, (Below.refl _ _).alloc (Nat.le_refl _) _⟩
                · obtain rfl : b = false := by rw [hb]; exact decide_eq_false fun h => h8 h.2.2.2.2.2.2.2
                  clear hb
                  obtain ⟨rfl, h9⟩ : dn = false ∧ st ≠ 0 := by simpa using h8
                  have d9 : (st == 0) = false := beq_eq_false_iff_ne.2 h9
                  have d4 : decide (gen < 4294967296) = true := decide_eq_true (by omega)
                  go_enter Tryz.func115, Tryz.ntmps115
                  go_wp2_with (go_at_call 150; first | (refine (within_yes _ _ _ (by omega)).mono ?_; rintro e w1 ⟨rfl, rfl⟩) | (refine (within_no _ _ _ (by omega)).mono ?_; rintro e w1 ⟨rfl, rfl⟩))
                  go_ret
                  exact ⟨rfl, (Below.refl _ _).alloc (Nat.le_refl _) _⟩
              · obtain rfl : b = false := by rw [hb]; exact decide_eq_false fun h => h7 h.2.2.2.2.2.2.1
                clear hb
                have d4 : decide (gen < 4294967296) = true := decide_eq_true (by omega)
                go_enter Tryz.func115, Tryz.ntmps115
                go_wp2_with (go_at_call 150; first | (refine (within_yes _ _ _ (by omega)).mono ?_; rintro e w1 ⟨rfl, rfl⟩) | (refine (within_no _ _ _ (by omega)).mono ?_; rintro e w1 ⟨rfl, rfl⟩))
                go_ret
                exact ⟨rfl, (Below.refl _ _).alloc (Nat.le_refl _) _⟩
            · obtain rfl : b = false := by rw [hb]; exact decide_eq_false fun h => h6 h.2.2.2.2.2.1
              clear hb
              have d4 : decide (gen < 4294967296) = true := decide_eq_true (by omega)
              go_enter Tryz.func115, Tryz.ntmps115
              go_wp2_with (go_at_call 150; first | (refine (within_yes _ _ _ (by omega)).mono ?_; rintro e w1 ⟨rfl, rfl⟩) | (refine (within_no _ _ _ (by omega)).mono ?_; rintro e w1 ⟨rfl, rfl⟩))
              go_ret
              exact ⟨rfl, (Below.refl _ _).alloc (Nat.le_refl _) _⟩
          · obtain rfl : b = false := by rw [hb]; exact decide_eq_false fun h => h5 h.2.2.2.2.1
            clear hb
            have d4 : decide (gen < 4294967296) = true := decide_eq_true (by omega)
            go_enter Tryz.func115, Tryz.ntmps115
            go_wp2_with (go_at_call 150; first | (refine (within_yes _ _ _ (by omega)).mono ?_; rintro e w1 ⟨rfl, rfl⟩) | (refine (within_no _ _ _ (by omega)).mono ?_; rintro e w1 ⟨rfl, rfl⟩))
            go_ret
            exact ⟨rfl, (Below.refl _ _).alloc (Nat.le_refl _) _⟩
        · obtain rfl : b = false := by rw [hb]; exact decide_eq_false fun h => h4 h.2.2.2.1
          clear hb
          have d4 : decide (gen < 4294967296) = false := decide_eq_false (by omega)
          go_enter Tryz.func115, Tryz.ntmps115
          go_wp2_with (go_at_call 150; first | (refine (within_yes _ _ _ (by omega)).mono ?_; rintro e w1 ⟨rfl, rfl⟩) | (refine (within_no _ _ _ (by omega)).mono ?_; rintro e w1 ⟨rfl, rfl⟩))
          go_ret
          exact ⟨rfl, (Below.refl _ _).alloc (Nat.le_refl _) _⟩
      · obtain rfl : b = false := by rw [hb]; exact decide_eq_false fun h => h3 h.2.2.1
        clear hb
        go_enter Tryz.func115, Tryz.ntmps115
        go_wp2_with (go_at_call 150; first | (refine (within_yes _ _ _ (by omega)).mono ?_; rintro e w1 ⟨rfl, rfl⟩) | (refine (within_no _ _ _ (by omega)).mono ?_; rintro e w1 ⟨rfl, rfl⟩))
        go_ret
        exact ⟨rfl, (Below.refl _ _).alloc (Nat.le_refl _) _⟩
    · obtain rfl : b = false := by rw [hb]; exact decide_eq_false fun h => h2 h.2.1
      clear hb
      go_enter Tryz.func115, Tryz.ntmps115
      go_wp2_with (go_at_call 150; first | (refine (within_yes _ _ _ (by omega)).mono ?_; rintro e w1 ⟨rfl, rfl⟩) | (refine (within_no _ _ _ (by omega)).mono ?_; rintro e w1 ⟨rfl, rfl⟩))
      go_ret
      exact ⟨rfl, (Below.refl _ _).alloc (Nat.le_refl _) _⟩
  · obtain rfl : b = false := by rw [hb]; exact decide_eq_false fun h => h1 h.1
    clear hb
    go_enter Tryz.func115, Tryz.ntmps115
    go_wp2_with (go_at_call 150; first | (refine (within_yes _ _ _ (by omega)).mono ?_; rintro e w1 ⟨rfl, rfl⟩) | (refine (within_no _ _ _ (by omega)).mono ?_; rintro e w1 ⟨rfl, rfl⟩))
    go_ret
    exact ⟨rfl, (Below.refl _ _).alloc (Nat.le_refl _) _⟩
theorem rmay_c (d : Dsc) (w : World) (hf : d.fits) (b : Bool) (hb : b = decide d.may) : Calls Tryz.prog 119 #[d.v] w fun e w' => e = .returned (.bool b) ∧ Below w.heap.size w w' := by
  obtain ⟨op, req, slot, gen, frm, len, dv, dn, st⟩ := d
  unfold Dsc.fits at hf
  unfold Dsc.v
  dsimp only at hf ⊢
  by_cases h1 : 0 ≤ op ∧ op ≤ 15
  · by_cases h2 : 0 ≤ req ∧ req ≤ 65535
    · by_cases h3 : 0 ≤ slot ∧ slot ≤ 65535
      · by_cases h4 : 0 ≤ gen ∧ gen < 4294967296
        · by_cases h5 : 0 ≤ frm ∧ frm ≤ 65535
          · by_cases h6 : 0 ≤ len ∧ len ≤ 65536
            · by_cases h7 : 0 ≤ st ∧ st ≤ 255
              · by_cases h8 : dn = true ∨ st = 0
                · obtain rfl : b = true := by rw [hb]; exact decide_eq_true ⟨h1, h2, h3, h4, h5, h6, h7, h8⟩
                  clear hb
                  cases dn with
                  | true =>
                    have a1 : decide (op < 0) = false := by simp; omega
                    have b1 : decide (15 < op) = false := by simp; omega
                    have a2 : decide (req < 0) = false := by simp; omega
                    have b2 : decide (65535 < req) = false := by simp; omega
                    have a3 : decide (slot < 0) = false := by simp; omega
                    have b3 : decide (65535 < slot) = false := by simp; omega
                    have a4 : decide (4294967295 < gen) = false := by simp; omega
                    have a5 : decide (frm < 0) = false := by simp; omega
                    have b5 : decide (65535 < frm) = false := by simp; omega
                    have a6 : decide (len < 0) = false := by simp; omega
                    have b6 : decide (65536 < len) = false := by simp; omega
                    have a7 : decide (st < 0) = false := by simp; omega
                    have b7 : decide (255 < st) = false := by simp; omega
                    go_enter Tryz.func119, Tryz.ntmps119
                    go_wp2_with fail
                    all_goals
                      go_ret
                      exact ⟨rfl, (Below.refl _ _).alloc (Nat.le_refl _) _⟩
                  | false =>
                    obtain rfl : st = 0 := by simpa using h8
                    have a1 : decide (op < 0) = false := by simp; omega
                    have b1 : decide (15 < op) = false := by simp; omega
                    have a2 : decide (req < 0) = false := by simp; omega
                    have b2 : decide (65535 < req) = false := by simp; omega
                    have a3 : decide (slot < 0) = false := by simp; omega
                    have b3 : decide (65535 < slot) = false := by simp; omega
                    have a4 : decide (4294967295 < gen) = false := by simp; omega
                    have a5 : decide (frm < 0) = false := by simp; omega
                    have b5 : decide (65535 < frm) = false := by simp; omega
                    have a6 : decide (len < 0) = false := by simp; omega
                    have b6 : decide (65536 < len) = false := by simp; omega
                    go_enter Tryz.func119, Tryz.ntmps119
                    go_wp2_with fail
                    go_ret
                    exact ⟨rfl, (Below.refl _ _).alloc (Nat.le_refl _) _⟩
                · obtain rfl : b = false := by rw [hb]; exact decide_eq_false fun h => h8 h.2.2.2.2.2.2.2
                  clear hb
                  obtain ⟨rfl, h9⟩ : dn = false ∧ st ≠ 0 := by simpa using h8
                  have d9 : (st == 0) = false := beq_eq_false_iff_ne.2 h9
                  have a1 : decide (op < 0) = false := by simp; omega
                  have b1 : decide (15 < op) = false := by simp; omega
                  have a2 : decide (req < 0) = false := by simp; omega
                  have b2 : decide (65535 < req) = false := by simp; omega
                  have a3 : decide (slot < 0) = false := by simp; omega
                  have b3 : decide (65535 < slot) = false := by simp; omega
                  have a4 : decide (4294967295 < gen) = false := by simp; omega
                  have a5 : decide (frm < 0) = false := by simp; omega
                  have b5 : decide (65535 < frm) = false := by simp; omega
                  have a6 : decide (len < 0) = false := by simp; omega
                  have b6 : decide (65536 < len) = false := by simp; omega
                  have a7 : decide (st < 0) = false := by simp; omega
                  have b7 : decide (255 < st) = false := by simp; omega
                  go_enter Tryz.func119, Tryz.ntmps119
                  go_wp2_with fail
                  go_ret
                  exact ⟨rfl, (Below.refl _ _).alloc (Nat.le_refl _) _⟩
              · obtain rfl : b = false := by rw [hb]; exact decide_eq_false fun h => h7 h.2.2.2.2.2.2.1
                clear hb
                have a1 : decide (op < 0) = false := by simp; omega
                have b1 : decide (15 < op) = false := by simp; omega
                have a2 : decide (req < 0) = false := by simp; omega
                have b2 : decide (65535 < req) = false := by simp; omega
                have a3 : decide (slot < 0) = false := by simp; omega
                have b3 : decide (65535 < slot) = false := by simp; omega
                have a4 : decide (4294967295 < gen) = false := by simp; omega
                have a5 : decide (frm < 0) = false := by simp; omega
                have b5 : decide (65535 < frm) = false := by simp; omega
                have a6 : decide (len < 0) = false := by simp; omega
                have b6 : decide (65536 < len) = false := by simp; omega
                by_cases q : st < 0
                · have qa : decide (st < 0) = true := decide_eq_true q
                  go_enter Tryz.func119, Tryz.ntmps119
                  go_wp2_with fail
                  go_ret
                  exact ⟨rfl, (Below.refl _ _).alloc (Nat.le_refl _) _⟩
                · have qa : decide (st < 0) = false := decide_eq_false q
                  have qb : decide (255 < st) = true := by simp; omega
                  go_enter Tryz.func119, Tryz.ntmps119
                  go_wp2_with fail
                  go_ret
                  exact ⟨rfl, (Below.refl _ _).alloc (Nat.le_refl _) _⟩
            · obtain rfl : b = false := by rw [hb]; exact decide_eq_false fun h => h6 h.2.2.2.2.2.1
              clear hb
              have a1 : decide (op < 0) = false := by simp; omega
              have b1 : decide (15 < op) = false := by simp; omega
              have a2 : decide (req < 0) = false := by simp; omega
              have b2 : decide (65535 < req) = false := by simp; omega
              have a3 : decide (slot < 0) = false := by simp; omega
              have b3 : decide (65535 < slot) = false := by simp; omega
              have a4 : decide (4294967295 < gen) = false := by simp; omega
              have a5 : decide (frm < 0) = false := by simp; omega
              have b5 : decide (65535 < frm) = false := by simp; omega
              by_cases q : len < 0
              · have qa : decide (len < 0) = true := decide_eq_true q
                go_enter Tryz.func119, Tryz.ntmps119
                go_wp2_with fail
                go_ret
                exact ⟨rfl, (Below.refl _ _).alloc (Nat.le_refl _) _⟩
              · have qa : decide (len < 0) = false := decide_eq_false q
                have qb : decide (65536 < len) = true := by simp; omega
                go_enter Tryz.func119, Tryz.ntmps119
                go_wp2_with fail
                go_ret
                exact ⟨rfl, (Below.refl _ _).alloc (Nat.le_refl _) _⟩
          · obtain rfl : b = false := by rw [hb]; exact decide_eq_false fun h => h5 h.2.2.2.2.1
            clear hb
            have a1 : decide (op < 0) = false := by simp; omega
            have b1 : decide (15 < op) = false := by simp; omega
            have a2 : decide (req < 0) = false := by simp; omega
            have b2 : decide (65535 < req) = false := by simp; omega
            have a3 : decide (slot < 0) = false := by simp; omega
            have b3 : decide (65535 < slot) = false := by simp; omega
            have a4 : decide (4294967295 < gen) = false := by simp; omega
            by_cases q : frm < 0
            · have qa : decide (frm < 0) = true := decide_eq_true q
              go_enter Tryz.func119, Tryz.ntmps119
              go_wp2_with fail
              go_ret
              exact ⟨rfl, (Below.refl _ _).alloc (Nat.le_refl _) _⟩
            · have qa : decide (frm < 0) = false := decide_eq_false q
              have qb : decide (65535 < frm) = true := by simp; omega
              go_enter Tryz.func119, Tryz.ntmps119
              go_wp2_with fail
              go_ret
              exact ⟨rfl, (Below.refl _ _).alloc (Nat.le_refl _) _⟩
        · obtain rfl : b = false := by rw [hb]; exact decide_eq_false fun h => h4 h.2.2.2.1
          clear hb
          have a1 : decide (op < 0) = false := by simp; omega
          have b1 : decide (15 < op) = false := by simp; omega
          have a2 : decide (req < 0) = false := by simp; omega
          have b2 : decide (65535 < req) = false := by simp; omega
          have a3 : decide (slot < 0) = false := by simp; omega
          have b3 : decide (65535 < slot) = false := by simp; omega
          have a4 : decide (4294967295 < gen) = true := by simp; omega
          go_enter Tryz.func119, Tryz.ntmps119
          go_wp2_with fail
          go_ret
          exact ⟨rfl, (Below.refl _ _).alloc (Nat.le_refl _) _⟩
      · obtain rfl : b = false := by rw [hb]; exact decide_eq_false fun h => h3 h.2.2.1
        clear hb
        have a1 : decide (op < 0) = false := by simp; omega
        have b1 : decide (15 < op) = false := by simp; omega
        have a2 : decide (req < 0) = false := by simp; omega
        have b2 : decide (65535 < req) = false := by simp; omega
        by_cases q : slot < 0
        · have qa : decide (slot < 0) = true := decide_eq_true q
          go_enter Tryz.func119, Tryz.ntmps119
          go_wp2_with fail
          go_ret
          exact ⟨rfl, (Below.refl _ _).alloc (Nat.le_refl _) _⟩
        · have qa : decide (slot < 0) = false := decide_eq_false q
          have qb : decide (65535 < slot) = true := by simp; omega
          go_enter Tryz.func119, Tryz.ntmps119
          go_wp2_with fail
          go_ret
          exact ⟨rfl, (Below.refl _ _).alloc (Nat.le_refl _) _⟩
    · obtain rfl : b = false := by rw [hb]; exact decide_eq_false fun h => h2 h.2.1
      clear hb
      have a1 : decide (op < 0) = false := by simp; omega
      have b1 : decide (15 < op) = false := by simp; omega
      by_cases q : req < 0
      · have qa : decide (req < 0) = true := decide_eq_true q
        go_enter Tryz.func119, Tryz.ntmps119
        go_wp2_with fail
        go_ret
        exact ⟨rfl, (Below.refl _ _).alloc (Nat.le_refl _) _⟩
      · have qa : decide (req < 0) = false := decide_eq_false q
        have qb : decide (65535 < req) = true := by simp; omega
        go_enter Tryz.func119, Tryz.ntmps119
        go_wp2_with fail
        go_ret
        exact ⟨rfl, (Below.refl _ _).alloc (Nat.le_refl _) _⟩
  · obtain rfl : b = false := by rw [hb]; exact decide_eq_false fun h => h1 h.1
    clear hb
    by_cases q : op < 0
    · have qa : decide (op < 0) = true := decide_eq_true q
      go_enter Tryz.func119, Tryz.ntmps119
      go_wp2_with fail
      go_ret
      exact ⟨rfl, (Below.refl _ _).alloc (Nat.le_refl _) _⟩
    · have qa : decide (op < 0) = false := decide_eq_false q
      have qb : decide (15 < op) = true := by simp; omega
      go_enter Tryz.func119, Tryz.ntmps119
      go_wp2_with fail
      go_ret
      exact ⟨rfl, (Below.refl _ _).alloc (Nat.le_refl _) _⟩
end
section
set_option linter.unusedVariables false
def dZ : Dsc := ⟨0, 0, 0, 0, 0, 0, false, false, 0⟩
def Dsc.inR (d : Dsc) : Dsc := ⟨d.op, d.req, d.slot, d.gen, d.frm, d.len, true, false, 0⟩
def Dsc.fin (d : Dsc) (s : Int) : Dsc := ⟨d.op, d.req, d.slot, d.gen, d.frm, d.len, false, true, s⟩
theorem inR_fits {d : Dsc} (h : d.fits) : d.inR.fits := by
  obtain ⟨h1, h2, h3, h4, h5, h6, h7⟩ := h
  exact ⟨h1, h2, h3, h4, h5, h6, by simp [Dsc.inR]⟩
def setD (D : Nat → Dsc) (k : Nat) (d : Dsc) : Nat → Dsc := fun j => if j = k then d else D j
/-- What a ring holds: how many were put, taken, reaped since the last reset, and what was put. -/
structure RSt where
  put : Nat
  taken : Nat
  reaped : Nat
  D : Nat → Dsc
def RSt.new : RSt := ⟨0, 0, 0, fun _ => dZ⟩
structure RSt.ok (n : Nat) (s : RSt) : Prop where
  r : s.reaped ≤ s.taken
  t : s.taken ≤ s.put
  p : s.put ≤ s.reaped + n
  m : s.put ≤ 1000000
  n0 : 1 ≤ n
  n1 : n ≤ 64
theorem RSt.new_ok {n : Nat} (h0 : 1 ≤ n) (h1 : n ≤ 64) : RSt.new.ok n := ⟨Nat.le_refl _, Nat.le_refl _, by show 0 ≤ 0 + n; omega, by show 0 ≤ 1000000; omega, h0, h1⟩
/-- Of a place: which number from r on lies there. -/
def noAt (n r i : Nat) : Nat := r + (i + n - r % n) % n
theorem mod_in {n a x : Nat} (h : x < n) : (n * a + x) % n = x := by rw [Nat.mul_add_mod]; exact Nat.mod_eq_of_lt h
theorem noAt_of {n r no : Nat} (h0 : r ≤ no) (h1 : no < r + n) : noAt n r (no % n) = no := by
  have hn : 0 < n := by omega
  have e := Nat.div_add_mod r n
  have hb := Nat.mod_lt r hn
  unfold noAt
  generalize r % n = b at *
  generalize r / n = a at *
  obtain ⟨q, rfl⟩ : ∃ q, no = r + q := ⟨no - r, by omega⟩
  subst e
  by_cases hc : b + q < n
  · have e1 : (n * a + b + q) % n = b + q := by rw [Nat.add_assoc]; exact mod_in hc
    rw [e1, show b + q + n - b = n * 1 + q by omega, mod_in (by omega)]
  · have e1 : (n * a + b + q) % n = b + q - n := by
      rw [show n * a + b + q = n * (a + 1) + (b + q - n) by rw [Nat.mul_add]; omega]; exact mod_in (by omega)
    rw [e1, show b + q - n + n - b = q by omega, Nat.mod_eq_of_lt (by omega)]
theorem noAt_is {n r i : Nat} (h : i < n) : noAt n r i % n = i ∧ r ≤ noAt n r i ∧ noAt n r i < r + n := by
  have hn : 0 < n := by omega
  have e := Nat.div_add_mod r n
  have hb := Nat.mod_lt r hn
  have hl := Nat.mod_lt (i + n - r % n) hn
  refine ⟨?_, by unfold noAt; omega, by unfold noAt; omega⟩
  unfold noAt
  generalize r % n = b at *
  generalize r / n = a at *
  subst e
  by_cases hc : b ≤ i
  · rw [show i + n - b = n * 1 + (i - b) by omega, mod_in (by omega), show n * a + b + (i - b) = n * a + i by omega, mod_in h]
  · rw [Nat.mod_eq_of_lt (show i + n - b < n by omega), show n * a + b + (i + n - b) = n * (a + 1) + i by rw [Nat.mul_add]; omega, mod_in h]
/-- What lies in a place. -/
def plc (n : Nat) (s : RSt) (i : Nat) : Value := if noAt n s.reaped i < s.put then .iface 135 (s.D (noAt n s.reaped i)).v else .nilIface
def plcs (n : Nat) (s : RSt) : List Value := (List.range n).map (plc n s)
theorem plcs_len (n : Nat) (s : RSt) : (plcs n s).length = n * 1 := by simp [plcs]
theorem plcs_get {n i : Nat} (s : RSt) (h : i < n) : (plcs n s)[i]? = some (plc n s i) := by simp [plcs, h]
theorem plcs_like {n : Nat} {s s' : RSt} (h : ∀ i, i < n → plc n s i = plc n s' i) : plcs n s = plcs n s' := List.map_congr_left fun i hi => h i (by simpa using hi)
theorem plcs_set {n k : Nat} {s s' : RSt} {u : Value} (hk : k < n) (h : ∀ i, i < n → plc n s' i = if i = k then u else plc n s i) : (plcs n s).set k u = plcs n s' := by
  apply List.ext_getElem?
  intro j
  by_cases hj : j < n
  · rw [plcs_get s' hj, h j hj]
    by_cases e : j = k
    · subst e; rw [List.getElem?_set_self (by rw [plcs_len]; omega), if_pos rfl]
    · rw [List.getElem?_set_ne (Ne.symm e), plcs_get s hj, if_neg e]
  · rw [List.getElem?_eq_none (by rw [List.length_set, plcs_len]; omega), List.getElem?_eq_none (by rw [plcs_len]; omega)]
theorem plc_at {n no : Nat} {s : RSt} (h : s.ok n) (h0 : s.reaped ≤ no) (h1 : no < s.put) : plc n s (no % n) = .iface 135 (s.D no).v := by
  have := h.p
  unfold plc
  rw [noAt_of h0 (by omega), if_pos h1]
theorem plc_no {n i : Nat} {s : RSt} (hi : i < n) (h : ∀ no, s.reaped ≤ no → no < s.put → no % n ≠ i) : plc n s i = .nilIface := by
  obtain ⟨h1, h2, h3⟩ := noAt_is (r := s.reaped) hi
  unfold plc
  rw [if_neg fun hc => h _ h2 hc h1]
theorem plcs_new (n : Nat) (z : RSt) (h : z.put ≤ z.reaped) : plcs n z = List.replicate n .nilIface := by
  apply List.ext_getElem?
  intro j
  by_cases hj : j < n
  · rw [plcs_get z hj, plc_no hj (fun no h1 h2 => by omega)]; simp [hj]
  · rw [List.getElem?_eq_none (by rw [plcs_len]; omega), List.getElem?_eq_none (by simp; omega)]
theorem made_rep (z : Value) (n : Nat) : (madeCells #[z] n).toList = List.replicate n z := by
  apply List.ext_getElem?
  intro j
  by_cases hj : j < n
  · simp [madeCells, hj, Nat.mod_one]
  · rw [List.getElem?_eq_none (by simp [madeCells]; omega), List.getElem?_eq_none (by simp; omega)]
/-! ### What each call tells and does -/
def PutP (n : Nat) (s : RSt) (d : Dsc) (a f : Int) (s' : RSt) : Prop :=
  (¬ d.inR.may ∧ a = 0 ∧ f = 1 ∧ s' = s) ∨ (d.inR.may ∧ s.put = s.reaped + n ∧ a = 0 ∧ f = 4 ∧ s' = s) ∨
  (d.inR.may ∧ s.put < s.reaped + n ∧ a = s.put ∧ f = 0 ∧ s' = ⟨s.put + 1, s.taken, s.reaped, setD s.D s.put d.inR⟩)
theorem putP_ex {n : Nat} {s : RSt} (h : s.ok n) (d : Dsc) : ∃ a f s', PutP n s d a f s' := by
  have := h.p
  by_cases h1 : d.inR.may
  · by_cases h2 : s.put = s.reaped + n
    · exact ⟨_, _, _, Or.inr (Or.inl ⟨h1, h2, rfl, rfl, rfl⟩)⟩
    · exact ⟨_, _, _, Or.inr (Or.inr ⟨h1, by omega, rfl, rfl, rfl⟩)⟩
  · exact ⟨_, _, _, Or.inl ⟨h1, rfl, rfl, rfl⟩⟩
def TakeP (s : RSt) (a : Int) (d : Dsc) (f : Int) (s' : RSt) : Prop :=
  (s.taken = s.put ∧ a = 0 ∧ d = dZ ∧ f = 5 ∧ s' = s) ∨ (s.taken < s.put ∧ a = s.taken ∧ d = s.D s.taken ∧ f = 0 ∧ s' = ⟨s.put, s.taken + 1, s.reaped, s.D⟩)
theorem takeP_ex {n : Nat} {s : RSt} (h : s.ok n) : ∃ a d f s', TakeP s a d f s' := by
  have := h.t
  by_cases h1 : s.taken = s.put
  · exact ⟨_, _, _, _, Or.inl ⟨h1, rfl, rfl, rfl, rfl⟩⟩
  · exact ⟨_, _, _, _, Or.inr ⟨by omega, rfl, rfl, rfl, rfl⟩⟩
def FinP (s : RSt) (no st : Int) (f : Int) (s' : RSt) : Prop :=
  ((st < 0 ∨ 255 < st) ∧ f = 1 ∧ s' = s) ∨ ((0 ≤ st ∧ st ≤ 255) ∧ (no < s.reaped ∨ (s.taken : Int) ≤ no ∨ (s.D no.toNat).dn = true) ∧ f = 12 ∧ s' = s) ∨
  ((0 ≤ st ∧ st ≤ 255) ∧ (s.reaped : Int) ≤ no ∧ no < s.taken ∧ (s.D no.toNat).dn = false ∧ f = 0 ∧ s' = ⟨s.put, s.taken, s.reaped, setD s.D no.toNat ((s.D no.toNat).fin st)⟩)
theorem finP_ex (s : RSt) (no st : Int) : ∃ f s', FinP s no st f s' := by
  by_cases h1 : st < 0 ∨ 255 < st
  · exact ⟨_, _, Or.inl ⟨h1, rfl, rfl⟩⟩
  · by_cases h2 : no < s.reaped ∨ (s.taken : Int) ≤ no ∨ (s.D no.toNat).dn = true
    · exact ⟨_, _, Or.inr (Or.inl ⟨by omega, h2, rfl, rfl⟩)⟩
    · refine ⟨_, _, Or.inr (Or.inr ⟨by omega, ?_, ?_, ?_, rfl, rfl⟩)⟩
      · exact Int.not_lt.1 fun h => h2 (Or.inl h)
      · exact Int.not_le.1 fun h => h2 (Or.inr (Or.inl h))
      · cases hd : (s.D no.toNat).dn with
        | false => rfl
        | true => exact absurd (Or.inr (Or.inr hd)) h2
def ReapP (s : RSt) (d : Dsc) (f : Int) (s' : RSt) : Prop :=
  (s.reaped = s.put ∧ d = dZ ∧ f = 5 ∧ s' = s) ∨ (s.reaped < s.put ∧ (s.D s.reaped).dn = false ∧ d = dZ ∧ f = 10 ∧ s' = s) ∨
  (s.reaped < s.put ∧ (s.D s.reaped).dn = true ∧ d = s.D s.reaped ∧ f = 0 ∧ s' = ⟨s.put, s.taken, s.reaped + 1, s.D⟩)
theorem reapP_ex {n : Nat} {s : RSt} (h : s.ok n) : ∃ d f s', ReapP s d f s' := by
  have := h.t
  have := h.r
  by_cases h1 : s.reaped = s.put
  · exact ⟨_, _, _, Or.inl ⟨h1, rfl, rfl, rfl⟩⟩
  · cases hd : (s.D s.reaped).dn with
    | false => exact ⟨_, _, _, Or.inr (Or.inl ⟨by omega, hd, rfl, rfl, rfl⟩)⟩
    | true => exact ⟨_, _, _, Or.inr (Or.inr ⟨by omega, hd, rfl, rfl, rfl⟩)⟩
def AtP (n : Nat) (s : RSt) (i : Int) (d : Dsc) (f : Int) : Prop :=
  (∃ no : Nat, s.reaped ≤ no ∧ no < s.put ∧ ((no % n : Nat) : Int) = i ∧ d = s.D no ∧ f = 0) ∨ ((∀ no : Nat, s.reaped ≤ no → no < s.put → ((no % n : Nat) : Int) ≠ i) ∧ d = dZ ∧ f = 6)
theorem atP_ex {n : Nat} {s : RSt} (h : s.ok n) (i : Int) : ∃ d f, AtP n s i d f := by
  have hn := h.n0
  by_cases hi : 0 ≤ i ∧ i < n
  · obtain ⟨h1, h2, h3⟩ := noAt_is (r := s.reaped) (show i.toNat < n by omega)
    by_cases hc : noAt n s.reaped i.toNat < s.put
    · exact ⟨_, _, Or.inl ⟨_, h2, hc, by omega, rfl, rfl⟩⟩
    · refine ⟨_, _, Or.inr ⟨fun no g1 g2 g3 => ?_, rfl, rfl⟩⟩
      have := noAt_of g1 (show no < s.reaped + n by have := h.p; omega)
      rw [show no % n = i.toNat by omega] at this
      omega
  · refine ⟨_, _, Or.inr ⟨fun no g1 g2 g3 => ?_, rfl, rfl⟩⟩
    have := Nat.mod_lt no (show 0 < n by omega)
    omega
/-! ### The state stays right -/
theorem PutP.ok {n : Nat} {s s' : RSt} {d : Dsc} {a f : Int} (h : PutP n s d a f s') (hs : s.ok n) (hm : s.put + 1 ≤ 1000000) : s'.ok n ∧ s'.put ≤ s.put + 1 := by
  obtain ⟨h1, h2, h3, h4, h5, h6⟩ := hs
  rcases h with ⟨_, _, _, rfl⟩ | ⟨_, _, _, _, rfl⟩ | ⟨_, _, _, _, rfl⟩
  · exact ⟨⟨h1, h2, h3, h4, h5, h6⟩, by omega⟩
  · exact ⟨⟨h1, h2, h3, h4, h5, h6⟩, by omega⟩
  · exact ⟨⟨h1, by show s.taken ≤ s.put + 1; omega, by show s.put + 1 ≤ s.reaped + n; omega, hm, h5, h6⟩, Nat.le_refl _⟩
theorem TakeP.ok {n : Nat} {s s' : RSt} {d : Dsc} {a f : Int} (h : TakeP s a d f s') (hs : s.ok n) : s'.ok n ∧ s'.put = s.put := by
  obtain ⟨h1, h2, h3, h4, h5, h6⟩ := hs
  rcases h with ⟨_, _, _, _, rfl⟩ | ⟨_, _, _, _, rfl⟩
  · exact ⟨⟨h1, h2, h3, h4, h5, h6⟩, rfl⟩
  · exact ⟨⟨by show s.reaped ≤ s.taken + 1; omega, by show s.taken + 1 ≤ s.put; omega, h3, h4, h5, h6⟩, rfl⟩
theorem FinP.ok {n : Nat} {s s' : RSt} {no st f : Int} (h : FinP s no st f s') (hs : s.ok n) : s'.ok n ∧ s'.put = s.put := by
  obtain ⟨h1, h2, h3, h4, h5, h6⟩ := hs
  rcases h with ⟨_, _, rfl⟩ | ⟨_, _, _, rfl⟩ | ⟨_, _, _, _, _, rfl⟩ <;> exact ⟨⟨h1, h2, h3, h4, h5, h6⟩, rfl⟩
/-- What is reaped was done, so it was taken. -/
def RSt.fine (s : RSt) : Prop := ∀ k, s.taken ≤ k → k < s.put → (s.D k).dn = false
theorem ReapP.ok {n : Nat} {s s' : RSt} {d : Dsc} {f : Int} (h : ReapP s d f s') (hs : s.ok n) (hf : s.fine) : s'.ok n ∧ s'.put = s.put := by
  obtain ⟨h1, h2, h3, h4, h5, h6⟩ := hs
  rcases h with ⟨_, _, _, rfl⟩ | ⟨_, _, _, _, rfl⟩ | ⟨g1, g2, _, _, rfl⟩
  · exact ⟨⟨h1, h2, h3, h4, h5, h6⟩, rfl⟩
  · exact ⟨⟨h1, h2, h3, h4, h5, h6⟩, rfl⟩
  · refine ⟨⟨?_, h2, by show s.put ≤ s.reaped + 1 + n; omega, h4, h5, h6⟩, rfl⟩
    show s.reaped + 1 ≤ s.taken
    rcases Nat.lt_or_ge s.reaped s.taken with hl | hl
    · exact hl
    · have := hf s.reaped hl g1
      rw [g2] at this; cases this
theorem PutP.fine {n : Nat} {s s' : RSt} {d : Dsc} {a f : Int} (h : PutP n s d a f s') (hs : s.fine) : s'.fine := by
  rcases h with ⟨_, _, _, rfl⟩ | ⟨_, _, _, _, rfl⟩ | ⟨_, _, _, _, rfl⟩
  · exact hs
  · exact hs
  · intro k h1 h2
    have h2 : k < s.put + 1 := h2
    show (setD s.D s.put d.inR k).dn = false
    unfold setD
    by_cases e : k = s.put
    · rw [if_pos e]; rfl
    · rw [if_neg e]; exact hs k h1 (by omega)
theorem TakeP.fine {s s' : RSt} {d : Dsc} {a f : Int} (h : TakeP s a d f s') (hs : s.fine) : s'.fine := by
  rcases h with ⟨_, _, _, _, rfl⟩ | ⟨_, _, _, _, rfl⟩
  · exact hs
  · intro k h1 h2
    have h1 : s.taken + 1 ≤ k := h1
    exact hs k (by omega) h2
theorem FinP.fine {s s' : RSt} {no st f : Int} (h : FinP s no st f s') (hs : s.fine) : s'.fine := by
  rcases h with ⟨_, _, rfl⟩ | ⟨_, _, _, rfl⟩ | ⟨_, _, g2, _, _, rfl⟩
  · exact hs
  · exact hs
  · intro k h1 h2
    have h1 : s.taken ≤ k := h1
    show (setD s.D no.toNat _ k).dn = false
    unfold setD
    rw [if_neg (by omega)]
    exact hs k h1 h2
theorem ReapP.fine {s s' : RSt} {d : Dsc} {f : Int} (h : ReapP s d f s') (hs : s.fine) : s'.fine := by
  rcases h with ⟨_, _, _, rfl⟩ | ⟨_, _, _, _, rfl⟩ | ⟨_, _, _, _, rfl⟩ <;> exact hs
theorem RSt.new_fine : RSt.new.fine := fun k h1 h2 => absurd h2 (by show ¬ k < 0; omega)
/-! ### The places -/
theorem put_plcs {n : Nat} {s : RSt} (h : s.ok n) (hl : s.put < s.reaped + n) (d : Dsc) : (plcs n s).set (s.put % n) (.iface 135 d.v) = plcs n ⟨s.put + 1, s.taken, s.reaped, setD s.D s.put d⟩ := by
  have hn := h.n0
  have hr := h.r
  have ht := h.t
  refine plcs_set (Nat.mod_lt _ (by omega)) fun i hi => ?_
  obtain ⟨h1, h2, h3⟩ := noAt_is (r := s.reaped) hi
  unfold plc
  dsimp only
  by_cases e : i = s.put % n
  · rw [if_pos e]
    have e2 := noAt_of (show s.reaped ≤ s.put by omega) hl
    rw [← e] at e2
    rw [e2, if_pos (by omega)]
    unfold setD; rw [if_pos rfl]
  · rw [if_neg e]
    have e2 : noAt n s.reaped i ≠ s.put := fun hc => e (by rw [← h1, hc])
    by_cases hc : noAt n s.reaped i < s.put
    · rw [if_pos hc, if_pos (by omega)]
      unfold setD; rw [if_neg e2]
    · rw [if_neg hc, if_neg (by omega)]
theorem fin_plcs {n no : Nat} {s : RSt} (h : s.ok n) (h0 : s.reaped ≤ no) (h1' : no < s.put) (d : Dsc) : (plcs n s).set (no % n) (.iface 135 d.v) = plcs n ⟨s.put, s.taken, s.reaped, setD s.D no d⟩ := by
  have hn := h.n0
  have hp := h.p
  refine plcs_set (Nat.mod_lt _ (by omega)) fun i hi => ?_
  obtain ⟨h1, h2, h3⟩ := noAt_is (r := s.reaped) hi
  unfold plc
  dsimp only
  by_cases e : i = no % n
  · rw [if_pos e]
    have e2 := noAt_of h0 (show no < s.reaped + n by omega)
    rw [← e] at e2
    rw [e2, if_pos h1']
    unfold setD; rw [if_pos rfl]
  · rw [if_neg e]
    have e2 : noAt n s.reaped i ≠ no := fun hc => e (by rw [← h1, hc])
    unfold setD; rw [if_neg e2]
theorem reap_plcs {n : Nat} {s : RSt} (h : s.ok n) (hl : s.reaped < s.put) : (plcs n s).set (s.reaped % n) .nilIface = plcs n ⟨s.put, s.taken, s.reaped + 1, s.D⟩ := by
  have hn := h.n0
  have hp := h.p
  refine plcs_set (Nat.mod_lt _ (by omega)) fun i hi => ?_
  obtain ⟨h1, h2, h3⟩ := noAt_is (r := s.reaped) hi
  by_cases e : i = s.reaped % n
  · rw [if_pos e]
    refine plc_no hi fun no g1 g2 g3 => ?_
    have g1 : s.reaped + 1 ≤ no := g1
    have g2 : no < s.put := g2
    have a1 := noAt_of (n := n) (r := s.reaped) (no := no) (by omega) (by omega)
    have a2 := noAt_of (n := n) (r := s.reaped) (no := s.reaped) (by omega) (by omega)
    rw [g3, e] at a1
    omega
  · rw [if_neg e]
    have e2 : noAt n s.reaped i ≠ s.reaped := fun hc => e (by rw [← h1, hc])
    have e3 := noAt_of (n := n) (r := s.reaped + 1) (no := noAt n s.reaped i) (by omega) (by omega)
    rw [h1] at e3
    unfold plc
    dsimp only
    rw [e3]
/-- A ring in memory. -/
def RingL (p g n : Nat) (s : RSt) : List Res := [BlkR p 228 #[.slice (some ⟨g, 0, none⟩) n n, .int .i64 s.put, .int .i64 s.taken, .int .i64 s.reaped], LisR 20 1 (.slice (some ⟨g, 0, none⟩) n n) n (plcs n s)]
def RingR (p n : Nat) (s : RSt) : Res := fun w S => ∃ g, Star (RingL p g n s) w S
theorem RingR.ok (p n : Nat) (s : RSt) : Ok (RingR p n s) :=
  ⟨fun ⟨g, h⟩ b hb => (Star.ok _).lt h b hb, fun ⟨g, h⟩ hk => ⟨g, (Star.ok _).frame h hk⟩⟩
end
section
set_option linter.unusedVariables false
set_option maxRecDepth 100000
set_option maxHeartbeats 1000000
theorem Tryz.infoAny : (Tryz.prog.info? 20).map (fun i => (i.zero, i.size, i.bytes)) = some (some .nilIface, 1, 16) := by kernel_rfl
theorem any_parts {P : Program} {t : TypeId} {z : Value} {s b : Nat} (h : (P.info? t).map (fun i => (i.zero, i.size, i.bytes)) = some (some z, s, b)) : ∃ i, P.info? t = some i ∧ i.zero = some z ∧ i.size = s ∧ i.bytes = b := by
  cases hi : P.info? t with
  | none => rw [hi] at h; cases h
  | some i =>
    rw [hi] at h
    simp at h
    exact ⟨i, rfl, h.1, h.2.1, h.2.2⟩
@[go_sem] theorem asD_some (v : Value) (xT : TypeId) (w : World) : (Instr.typeAssert (.iface 135 v) xT 135 true).run Tryz.prog w = .ok (.tuple #[v, .bool true]) w := by kernel_rfl
@[go_sem] theorem asD_none (xT : TypeId) (w : World) : (Instr.typeAssert .nilIface xT 135 true).run Tryz.prog w = .ok (.tuple #[.agg #[.int .i64 0, .int .i64 0, .int .i64 0, .int .u64 0, .int .i64 0, .int .i64 0, .bool false, .bool false, .int .i64 0], .bool false]) w := by kernel_rfl
@[go_sem] theorem asD_must (v : Value) (xT : TypeId) (w : World) : (Instr.typeAssert (.iface 135 v) xT 135 false).run Tryz.prog w = .ok v w := by kernel_rfl
theorem dsc9 (d : Dsc) (W : World) (G : Nat) (h : Blk W G 135 d.cells) : W.cell? ⟨G, 0, none⟩ = some (.int .i64 d.op) ∧ W.cell? ⟨G, 1, none⟩ = some (.int .i64 d.req) ∧ W.cell? ⟨G, 2, none⟩ = some (.int .i64 d.slot) ∧ W.cell? ⟨G, 3, none⟩ = some (.int .u64 d.gen) ∧ W.cell? ⟨G, 4, none⟩ = some (.int .i64 d.frm) ∧ W.cell? ⟨G, 5, none⟩ = some (.int .i64 d.len) ∧ W.cell? ⟨G, 6, none⟩ = some (.bool d.dv) ∧ W.cell? ⟨G, 7, none⟩ = some (.bool d.dn) ∧ W.cell? ⟨G, 8, none⟩ = some (.int .i64 d.st) := by
  refine ⟨?_, ?_, ?_, ?_, ?_, ?_, ?_, ?_, ?_⟩ <;> rw [h.cell] <;> rfl
theorem frz9 {W : World} {G : Nat} {t : TypeId} {cs : Array Value} (h : Blk W G t cs) : W.frozen? ⟨G, 0, none⟩ = false ∧ W.frozen? ⟨G, 1, none⟩ = false ∧ W.frozen? ⟨G, 2, none⟩ = false ∧ W.frozen? ⟨G, 3, none⟩ = false ∧ W.frozen? ⟨G, 4, none⟩ = false ∧ W.frozen? ⟨G, 5, none⟩ = false ∧ W.frozen? ⟨G, 6, none⟩ = false ∧ W.frozen? ⟨G, 7, none⟩ = false ∧ W.frozen? ⟨G, 8, none⟩ = false :=
  ⟨h.frozen 0, h.frozen 1, h.frozen 2, h.frozen 3, h.frozen 4, h.frozen 5, h.frozen 6, h.frozen 7, h.frozen 8⟩
theorem lis_cell0 {w : World} {e : TypeId} {size n g cap : Nat} {xs : List Value} (h : Lis w e size (.slice (some ⟨g, 0, none⟩) n cap) n xs) {j : Nat} {u : Value} (hu : xs[j]? = some u) : w.cell? ⟨g, j, none⟩ = some u := by
  rcases h.2 with ⟨h, _⟩ | ⟨g', off, cp, arr, hv, hh, hn, hm, hs, hx⟩
  · cases h
  · injection hv with hA
    injection hA with hA
    injection hA with hA ho
    subst hA ho
    have := hx j u hu
    simpa [World.cell?, hh] using this
section
variable {w0 w : World} {S0 S : Nat → Prop} {L : List Res} {p g n : Nat} {s s' : RSt}
theorem ring4 {w : World} (h : Blk w p 228 #[.slice (some ⟨g, 0, none⟩) n n, .int .i64 s.put, .int .i64 s.taken, .int .i64 s.reaped]) : w.cell? ⟨p, 0, none⟩ = some (.slice (some ⟨g, 0, none⟩) n n) ∧ w.cell? ⟨p, 1, none⟩ = some (.int .i64 s.put) ∧ w.cell? ⟨p, 2, none⟩ = some (.int .i64 s.taken) ∧ w.cell? ⟨p, 3, none⟩ = some (.int .i64 s.reaped) := h.four
theorem place_c (h : w.cell? ⟨p, 0, none⟩ = some (.slice (some ⟨g, 0, none⟩) n n)) (h0 : 1 ≤ n) (h1 : n ≤ 64) (no : Nat) (hm : no ≤ 1000000) :
    Calls Tryz.prog 116 #[.pointer (some ⟨p, 0, none⟩), .int .i64 no] w fun e w' => e = .returned (.int .i64 ((no % n : Nat) : Int)) ∧ w' = w := by
  have hr : Int.tmod (no : Int) (n : Int) = ((no % n : Nat) : Int) := by
    rw [Int.tmod_eq_emod_of_nonneg (by omega)]; exact (Int.natCast_emod no n).symm
  have hl := Nat.mod_lt no (show 0 < n by omega)
  obtain ⟨j, hj⟩ : ∃ j, no % n = j := ⟨_, rfl⟩
  rw [hj] at hr hl ⊢
  have HJ := Lib.hid hj
  clear hj
  have hz : ((n : Int) == 0) = false := beq_eq_false_iff_ne.2 (by omega)
  go_enter Tryz.func116, Tryz.ntmps116
  go_wp2_with fail
  go_ret
  exact ⟨rfl, rfl⟩
end
end
section
set_option linter.unusedVariables false
set_option maxRecDepth 100000
set_option maxHeartbeats 1000000
section
variable {w0 w : World} {S0 S : Nat → Prop} {L : List Res} {p g n : Nat} {s s' : RSt}
theorem sure_c (h : RingR p n s w S) (hs : s.ok n) (no : Nat) (h0 : s.reaped ≤ no) (h1 : no < s.put) :
    Calls Tryz.prog 134 #[.pointer (some ⟨p, 0, none⟩), .int .i64 no] w fun e w' => e = .returned (s.D no).v ∧ Below w.heap.size w w' := by
  obtain ⟨g, hr⟩ := h
  have sb : St w S (w.alloc (.cells #[.int .i64 0, .int .i64 0, .int .i64 0, .int .u64 0, .int .i64 0, .int .i64 0, .bool false, .bool false, .int .i64 0] 135)) [_, _] := (St.start hr).alloc _
  have sN : St w None (w.alloc (.cells #[.int .i64 0, .int .i64 0, .int .i64 0, .int .u64 0, .int .i64 0, .int .i64 0, .bool false, .bool false, .int .i64 0] 135)) [BlkR w.heap.size 135 dZ.cells] := (St.begin w).box 135 dZ.cells
  obtain ⟨w1, hw1⟩ : ∃ x, w.alloc (.cells #[.int .i64 0, .int .i64 0, .int .i64 0, .int .u64 0, .int .i64 0, .int .i64 0, .bool false, .bool false, .int .i64 0] 135) = x := ⟨_, rfl⟩
  rw [hw1] at sb sN
  have HW1 := Lib.hid hw1
  replace sb := sb.drew
  replace sN := sN.drew
  obtain ⟨w2, hw2⟩ : ∃ x, w1.drew = x := ⟨_, rfl⟩
  rw [hw2] at sb sN
  have HW2 := Lib.hid (show ({ heap := w1.heap, tape := w1.tape, drawn := w1.drawn + 1, os := w1.os, output := w1.output } : World) = w2 from hw2)
  clear hw1 hw2
  have hm := hs.m
  have n0 := hs.n0
  have n1 := hs.n1
  have hk := Nat.mod_lt no (show 0 < n by omega)
  have c2 := lis_cell0 (sb.lis 1 rfl) (plcs_get s hk)
  rw [plc_at hs h0 h1] at c2
  obtain ⟨k0, k1, k2, k3⟩ := ring4 (sb.blk 0 rfl)
  have PL := Lib.hid (place_c k0 n0 n1 no (by omega))
  obtain ⟨j, hj⟩ : ∃ j, no % n = j := ⟨_, rfl⟩
  rw [hj] at PL c2 hk
  obtain ⟨d, hd⟩ : ∃ d, s.D no = d := ⟨_, rfl⟩
  rw [hd] at c2 ⊢
  obtain ⟨c0, c1, c3, c4, c5, c6, c7, c8, c9⟩ := dsc9 dZ _ w.heap.size (sN.blk 0 rfl)
  obtain ⟨z0, z1, z2, z3, z4, z5, z6, z7, z8⟩ := frz9 (sN.blk 0 rfl)
  have SN := Lib.hid sN
  unfold Dsc.v at c2
  clear hr sb sN hj hd hm h0 h1
  go_enter Tryz.func134, Tryz.ntmps134
  go_wp2_with fail
  rw [HW1.out]
  refine wp_region_still_tail 10 (by kernel_rfl) (by kernel_rfl) ?_
  rw [HW2.out]
  simp only [List.take_succ_cons, List.take_zero, List.drop_succ_cons, List.drop_zero]
  repeat (first | still_step | still_call PL.out)
  refine wpStill_nil ?_
  go_wp2_with fail
  refine bodyPost_ret (v := d.v) ?_ rfl ⟨rfl, ?_⟩
  · simp [results, go_sem, Dsc.v, c0, c1, c3, c4, c5, c6, c7, c8, c9]
  · exact (((((((((SN.out.set_ 0 rfl 0 _).set_ 0 rfl 1 _).set_ 0 rfl 2 _).set_ 0 rfl 3 _).set_ 0 rfl 4 _).set_ 0 rfl 5 _).set_ 0 rfl 6 _).set_ 0 rfl 7 _).set_ 0 rfl 8 _).below
theorem New_o (H : St w0 S0 w L) (h0 : 1 ≤ n) (h1 : n ≤ 64) :
    Calls Tryz.prog 90 #[.int .i64 n] w fun e w' => ∃ p, e = .returned (.tuple #[.pointer (some ⟨p, 0, none⟩), .int .i64 0]) ∧ St w0 S0 w' (L ++ [RingR p n RSt.new]) := by
  have d1 : decide ((n : Int) < 1) = false := decide_eq_false (by omega)
  have d2 : decide (64 < (n : Int)) = false := decide_eq_false (by omega)
  have d2' : decide (64 < n) = false := decide_eq_false (by omega)
  obtain ⟨iA, hiA, hzA, hsA, hbA⟩ := any_parts Tryz.infoAny
  have mk := fun W => run_make_rowN (P := Tryz.prog) 226 20 iA .nilIface Tryz.underlying226 hiA hzA rfl hsA .i64 .i64 n (by rw [hbA]; omega) (by omega) W
  have sm := (H.lis_new 20 1 n (madeCells #[.nilIface] n) (by simp [madeCells]) (by unfold maxLen; omega)).box 228 #[.slice (some ⟨w.heap.size, 0, none⟩) n n, .int .i64 0, .int .i64 0, .int .i64 0]
  rw [made_rep, ← plcs_new n RSt.new (Nat.le_refl _), List.append_assoc] at sm
  have s2 := sm.fold (R := RingR (w.heap.size + 1) n RSt.new) (RingR.ok _ _ _) fun S h => ⟨w.heap.size, by
    have h2 := Star.comm (A := [LisR _ _ _ _ _]) (B := [BlkR _ _ _]) h
    simpa [RingL, RSt.new] using h2⟩
  have SM := Lib.hid s2
  clear sm s2 H
  go_enter Tryz.func90, Tryz.ntmps90
  go_wp2_with fail
  go_ret2
  exact ⟨_, rfl, SM.out⟩
theorem New_no (z : Int) (hz : z < 1 ∨ 64 < z) (w : World) :
    Calls Tryz.prog 90 #[.int .i64 z] w fun e w' => e = .returned (.tuple #[.pointer none, .int .i64 1]) ∧ w = w' := by
  by_cases h1 : z < 1
  · have d1 : decide (z < 1) = true := decide_eq_true h1
    clear hz
    go_enter Tryz.func90, Tryz.ntmps90
    go_wp2_with fail
    go_ret2
    exact ⟨rfl, rfl⟩
  · have d1 : decide (z < 1) = false := decide_eq_false h1
    have d2 : decide (64 < z) = true := decide_eq_true (by omega)
    clear hz
    go_enter Tryz.func90, Tryz.ntmps90
    go_wp2_with fail
    go_ret2
    exact ⟨rfl, rfl⟩
theorem Put_c (h : RingR p n s w S) (hs : s.ok n) (d : Dsc) (hf : d.fits) (a f : Int) (hP : PutP n s d a f s') (hm : s.put + 1 ≤ 1000000) :
    Calls Tryz.prog 56 #[.pointer (some ⟨p, 0, none⟩), d.v] w fun e w' => e = .returned (.tuple #[.int .i64 a, .int .i64 f]) ∧ ∃ S', RingR p n s' w' S' ∧ Did S S' w w' := by
  obtain ⟨g, hr⟩ := h
  have HP := Lib.hid hP
  have HS := Lib.hid hs
  have MY := Lib.hid (fun w b hb => may_c d.inR w (inR_fits hf) b hb)
  have sb : St w S (w.alloc (.cells #[.int .i64 d.op, .int .i64 d.req, .int .i64 d.slot, .int .u64 d.gen, .int .i64 d.frm, .int .i64 d.len, .bool true, .bool false, .int .i64 0] 135)) [BlkR p 228 #[.slice (some ⟨g, 0, none⟩) n n, .int .i64 s.put, .int .i64 s.taken, .int .i64 s.reaped], LisR 20 1 (.slice (some ⟨g, 0, none⟩) n n) n (plcs n s), BlkR w.heap.size 135 d.inR.cells] := (St.start hr).box 135 d.inR.cells
  have SB := Lib.hid sb
  have n0 := hs.n0
  have n1 := hs.n1
  have hp := hs.p
  have hrp : s.reaped ≤ s.put := Nat.le_trans hs.r hs.t
  clear hP hs hf hr sb
  unfold Dsc.v
  go_enter Tryz.func56, Tryz.ntmps56
  go_wp2_with fail
  by_cases hy : d.inR.may
  case neg =>
    refine (MY.out _ false (decide_eq_false hy).symm).mono ?_
    rintro e w1 ⟨rfl, hb1⟩
    obtain ⟨rfl, rfl, rfl⟩ : a = 0 ∧ f = 1 ∧ s' = s := by
      rcases HP.out with ⟨_, h⟩ | ⟨h, _⟩ | ⟨h, _⟩
      · exact h
      · exact absurd h hy
      · exact absurd h hy
    have S2 := Lib.hid ((SB.out.stay hb1).take 2)
    clear hb1 hy
    go_wp2_with fail
    go_ret2
    exact ⟨rfl, S2.out.fin fun S' h => ⟨g, h⟩⟩
  refine (MY.out _ true (decide_eq_true hy).symm).mono ?_
  rintro e w1 ⟨rfl, hb1⟩
  have s2 := SB.out.stay hb1
  obtain ⟨k0, k1, k2, k3⟩ := ring4 (s2.blk 0 rfl)
  have S2 := Lib.hid s2
  have HY := Lib.hid hy
  clear hb1 hy s2 SB
  obtain ⟨P, hP⟩ : ∃ P : Int, (s.put : Int) = P := ⟨_, rfl⟩
  obtain ⟨R, hR⟩ : ∃ P : Int, (s.reaped : Int) = P := ⟨_, rfl⟩
  rw [hP] at k1
  rw [hR] at k3
  by_cases hfull : s.put = s.reaped + n
  case pos =>
    obtain ⟨rfl, rfl, rfl⟩ : a = 0 ∧ f = 4 ∧ s' = s := by
      rcases HP.out with ⟨h, _⟩ | ⟨_, _, h⟩ | ⟨_, h, _⟩
      · exact absurd HY.out h
      · exact h
      · omega
    have z1 : (P - R == (n : Int)) = true := beq_iff_eq.2 (by omega)
    have b0 : 0 ≤ P ∧ P ≤ 1000000 := by omega
    have b1 : 0 ≤ R ∧ R ≤ P := by omega
    have hw : IntKind.i64.wrap (P - R) = P - R := IntWalk.i64_in _ ⟨by omega, by omega⟩
    clear hP hR
    go_wp2_with fail
    go_quiet (fail)
    go_wp2_with fail
    go_ret2
    exact ⟨rfl, ((S2.out.drewN _).take 2).fin fun S' h => ⟨g, h⟩⟩
  have z1 : (P - R == (n : Int)) = false := beq_eq_false_iff_ne.2 (by omega)
  have b0 : 0 ≤ P ∧ P ≤ 1000000 := by omega
  have b1 : 0 ≤ R ∧ R ≤ P := by omega
  have hw : IntKind.i64.wrap (P - R) = P - R := IntWalk.i64_in _ ⟨by omega, by omega⟩
  obtain ⟨rfl, rfl, rfl⟩ : a = s.put ∧ f = 0 ∧ s' = ⟨s.put + 1, s.taken, s.reaped, setD s.D s.put d.inR⟩ := by
    rcases HP.out with ⟨h, _⟩ | ⟨_, h, _⟩ | ⟨_, _, h⟩
    · exact absurd HY.out h
    · exact absurd h hfull
    · exact h
  go_wp2_with fail
  go_quiet (fail)
  have s3 := S2.out.drewN nq
  generalize w1.drewN nq = w3 at *
  have s4 := s3.drew
  obtain ⟨w4, hw4⟩ : ∃ x, w3.drew = x := ⟨_, rfl⟩
  rw [hw4] at s4
  have HW4 := Lib.hid (show ({ heap := w3.heap, tape := w3.tape, drawn := w3.drawn + 1, os := w3.os, output := w3.output } : World) = w4 from hw4)
  have hk := Nat.mod_lt s.put (show 0 < n by omega)
  clear k0 k1 k2 k3
  obtain ⟨j0, j1, j2, j3⟩ := ring4 (s3.blk 0 rfl)
  obtain ⟨k0, k1, k2, k3⟩ := ring4 (s4.blk 0 rfl)
  have PL := Lib.hid (place_c k0 n0 n1 s.put (by omega))
  have c2 := lis_cell0 (s4.lis 1 rfl) (plcs_get s hk)
  have f2 := (s4.lis 1 rfl).frozen (s.put % n)
  have e := put_plcs HS.out (show s.put < s.reaped + n by omega) d.inR
  obtain ⟨c0, c1, c3, c4, c5, c6, c7, c8, c9⟩ := dsc9 d.inR _ w.heap.size (s4.blk 2 rfl)
  have s5 := s4.lis_set 1 rfl (show s.put % n < n * 1 by omega) (.iface 135 d.inR.v)
  rw [Nat.zero_add] at s5
  rw [e] at s5
  obtain ⟨j, hj⟩ : ∃ j, s.put % n = j := ⟨_, rfl⟩
  rw [hj] at PL c2 f2 s5 hk
  obtain ⟨v, hv⟩ : ∃ v, plc n s j = v := ⟨_, rfl⟩
  rw [hv] at c2
  have s5' : St w S _ [BlkR p 228 #[.slice (some ⟨g, 0, none⟩) n n, .int .i64 s.put, .int .i64 s.taken, .int .i64 s.reaped], _, _] := s5
  obtain ⟨m0, m1, m2, m3⟩ := ring4 (s5'.blk 0 rfl)
  have f3 := (s5'.blk 0 rfl).frozen 1
  have s6 := s5'.set_ 0 rfl 1 (.int .i64 (P + 1))
  rw [hP] at j1 k1 m1 PL
  have S7 : St w S ((w4.setCell ⟨g, j, none⟩ (.iface 135 d.inR.v)).setCell ⟨p, 1, none⟩ (.int .i64 (P + 1))) (RingL p g n ⟨s.put + 1, s.taken, s.reaped, setD s.D s.put d.inR⟩) := by
    unfold RingL
    dsimp only
    rw [show ((s.put + 1 : Nat) : Int) = P + 1 by omega]
    exact s6.take 2
  have S8 := Lib.hid S7
  unfold Dsc.v at S8 m0 m1 m2 m3 f3
  dsimp only [Dsc.inR] at c0 c1 c3 c4 c5 c6 c7 c8 c9 S8 m0 m1 m2 m3 f3
  clear s3 s4 s5 s5' s6 S7 hw4 hj hv e S2 HP MY HS HY hfull hp hrp
  have HPP := Lib.hid hP
  clear hP hR
  go_wp2_with fail
  refine wp_region_still_tail 10 (by kernel_rfl) (by kernel_rfl) ?_
  rw [HW4.out]
  simp only [List.take_succ_cons, List.take_zero, List.drop_succ_cons, List.drop_zero]
  repeat (first | still_step | still_call PL.out)
  refine wpStill_nil ?_
  go_wp2_with fail
  go_ret2
  exact ⟨by rw [HPP.out]; rfl, S8.out.fin fun S' h => ⟨g, h⟩⟩
end
end
section
set_option linter.unusedVariables false
set_option maxRecDepth 100000
set_option maxHeartbeats 1000000
section
variable {w0 w : World} {S0 S : Nat → Prop} {L : List Res} {p g n : Nat} {s s' : RSt}
theorem ring_open (h : RingR p n s w S) : ∃ g, Star (RingL p g n s) w S := h
theorem Counts_c (h : RingR p n s w S) :
    Calls Tryz.prog 69 #[.pointer (some ⟨p, 0, none⟩)] w fun e w' => e = .returned (.tuple #[.int .i64 s.put, .int .i64 s.taken, .int .i64 s.reaped]) ∧ Below w.heap.size w w' := by
  obtain ⟨g, hr⟩ := h
  obtain ⟨k0, k1, k2, k3⟩ := ring4 ((St.start hr).blk 0 rfl)
  go_enter Tryz.func69, Tryz.ntmps69
  go_wp2_with fail
  first
    | (refine bodyPost_ret (v := .tuple #[.int .i64 s.put, .int .i64 s.taken, .int .i64 s.reaped]) ?_ rfl ⟨rfl, Below.refl _ _⟩
       simp [results, go_sem])
    | (go_quiet (fail)
       go_wp2_with fail
       refine bodyPost_ret (v := .tuple #[.int .i64 s.put, .int .i64 s.taken, .int .i64 s.reaped]) ?_ rfl ⟨rfl, below_drewN (Below.refl _ _) _⟩
       simp [results, go_sem])
theorem Take_c (h : RingR p n s w S) (hs : s.ok n) (a f : Int) (d : Dsc) (hP : TakeP s a d f s') :
    Calls Tryz.prog 152 #[.pointer (some ⟨p, 0, none⟩)] w fun e w' => e = .returned (.tuple #[.int .i64 a, d.v, .int .i64 f]) ∧ ∃ S', RingR p n s' w' S' ∧ Did S S' w w' := by
  have SU := Lib.hid (fun (w : World) S (s : RSt) (h : RingR p n s w S) (hs : s.ok n) no h0 h1 => sure_c h hs no h0 h1)
  obtain ⟨g, hr⟩ := h
  have sb : St w S (w.alloc (.cells #[.int .i64 0, .int .i64 0, .int .i64 0, .int .u64 0, .int .i64 0, .int .i64 0, .bool false, .bool false, .int .i64 0] 135)) [BlkR p 228 #[.slice (some ⟨g, 0, none⟩) n n, .int .i64 s.put, .int .i64 s.taken, .int .i64 s.reaped], LisR 20 1 (.slice (some ⟨g, 0, none⟩) n n) n (plcs n s), BlkR w.heap.size 135 dZ.cells] := (St.start hr).box 135 dZ.cells
  have HS := Lib.hid hs
  have hm := hs.m
  have ht := hs.t
  obtain ⟨k0, k1, k2, k3⟩ := ring4 (sb.blk 0 rfl)
  obtain ⟨P, hP1⟩ : ∃ P : Int, (s.put : Int) = P := ⟨_, rfl⟩
  obtain ⟨T, hT⟩ : ∃ P : Int, (s.taken : Int) = P := ⟨_, rfl⟩
  rw [hP1] at k1
  rw [hT] at k2
  have SB := Lib.hid sb
  clear hr hs sb
  rcases hP with ⟨hx, rfl, rfl, rfl, rfl⟩ | ⟨hx, rfl, rfl, rfl, rfl⟩
  · have z1 : (T == P) = true := beq_iff_eq.2 (by omega)
    clear hP1 hT hx
    go_enter Tryz.func152, Tryz.ntmps152
    go_wp2_with fail
    go_quiet (fail)
    have s2 := SB.out.drewN nq
    generalize (w.alloc (.cells #[.int .i64 0, .int .i64 0, .int .i64 0, .int .u64 0, .int .i64 0, .int .i64 0, .bool false, .bool false, .int .i64 0] 135)).drewN nq = w2 at *
    obtain ⟨c0, c1, c2, c3, c4, c5, c6, c7, c8⟩ := dsc9 dZ _ w.heap.size (s2.blk 2 rfl)
    obtain ⟨z0, z1, z2, z3, z4, z5, z6, z7, z8⟩ := frz9 (s2.blk 2 rfl)
    have S2 := Lib.hid s2
    clear s2
    go_wp2_with fail
    refine bodyPost_ret (v := .tuple #[.int .i64 0, dZ.v, .int .i64 5]) ?_ rfl ⟨rfl, ?_⟩
    · simp [results, go_sem, Dsc.v, dZ, c0, c1, c2, c3, c4, c5, c6, c7, c8]
    · exact ((((((((((S2.out.set_ 2 rfl 0 _).set_ 2 rfl 1 _).set_ 2 rfl 2 _).set_ 2 rfl 3 _).set_ 2 rfl 4 _).set_ 2 rfl 5 _).set_ 2 rfl 6 _).set_ 2 rfl 7 _).set_ 2 rfl 8 _).take 2).fin fun S' h => ⟨g, h⟩
  · have z1 : (T == P) = false := beq_eq_false_iff_ne.2 (by omega)
    have b0 : 0 ≤ T ∧ T ≤ 1000000 := by omega
    have hl : s.reaped ≤ s.taken := HS.out.r
    have HT := Lib.hid hT
    clear hP1
    go_enter Tryz.func152, Tryz.ntmps152
    go_wp2_with fail
    go_quiet (fail)
    have s2 := SB.out.drewN nq
    generalize (w.alloc (.cells #[.int .i64 0, .int .i64 0, .int .i64 0, .int .u64 0, .int .i64 0, .int .i64 0, .bool false, .bool false, .int .i64 0] 135)).drewN nq = w2 at *
    clear k0 k1 k2 k3
    obtain ⟨k0, k1, k2, k3⟩ := ring4 (s2.blk 0 rfl)
    rw [hT] at k2
    have f2 := (s2.blk 0 rfl).frozen 2
    have s3 := s2.set_ 0 rfl 2 (.int .i64 (T + 1))
    have s4 : St w S (w2.setCell ⟨p, 2, none⟩ (.int .i64 (T + 1))) [RingR p n ⟨s.put, s.taken + 1, s.reaped, s.D⟩, BlkR w.heap.size 135 dZ.cells] := by
      have s5 : St w S (w2.setCell ⟨p, 2, none⟩ (.int .i64 (T + 1))) ([BlkR w.heap.size 135 dZ.cells] ++ RingL p g n ⟨s.put, s.taken + 1, s.reaped, s.D⟩) := by
        have s6 := St.comm (A := [BlkR p 228 _, LisR _ _ _ _ _]) (B := [BlkR w.heap.size 135 dZ.cells]) s3
        unfold RingL
        dsimp only
        rw [show ((s.taken + 1 : Nat) : Int) = T + 1 by omega]
        exact s6
      exact (s5.fold (R := RingR p n ⟨s.put, s.taken + 1, s.reaped, s.D⟩) (RingR.ok _ _ _) fun S h => ⟨g, h⟩).swap01
    obtain ⟨Q, hQ⟩ := s4.get 0 rfl
    have SC := Lib.hid (SU.out _ _ _ hQ ⟨by show s.reaped ≤ s.taken + 1; omega, by show s.taken + 1 ≤ s.put; omega, HS.out.p, HS.out.m, HS.out.n0, HS.out.n1⟩ s.taken hl hx)
    have S4 := Lib.hid s4
    rw [hT] at SC
    dsimp only at SC
    obtain ⟨d, hd⟩ : ∃ d, s.D s.taken = d := ⟨_, rfl⟩
    rw [hd] at SC
    have HD := Lib.hid hd
    clear s2 s3 s4 hQ hT hx hl hd
    go_wp2_with fail
    refine SC.out.mono ?_
    rintro e w5 ⟨rfl, hb5⟩
    have s5 := S4.out.stay hb5
    obtain ⟨c0, c1, c2, c3, c4, c5, c6, c7, c8⟩ := dsc9 dZ _ w.heap.size (s5.blk 1 rfl)
    obtain ⟨z0, z1, z2, z3, z4, z5, z6, z7, z8⟩ := frz9 (s5.blk 1 rfl)
    have S5 := Lib.hid s5
    clear s5 hb5
    unfold Dsc.v
    go_wp2_with fail
    refine bodyPost_ret (v := .tuple #[.int .i64 T, d.v, .int .i64 0]) ?_ rfl ⟨by rw [HT.out, HD.out], ?_⟩
    · simp [results, go_sem, Dsc.v, c0, c1, c2, c3, c4, c5, c6, c7, c8]
    · exact ((((((((((S5.out.set_ 1 rfl 0 _).set_ 1 rfl 1 _).set_ 1 rfl 2 _).set_ 1 rfl 3 _).set_ 1 rfl 4 _).set_ 1 rfl 5 _).set_ 1 rfl 6 _).set_ 1 rfl 7 _).set_ 1 rfl 8 _).take 1).fin fun S' h => star_one h
end
end
section
set_option linter.unusedVariables false
set_option maxRecDepth 100000
set_option maxHeartbeats 1000000
section
variable {w0 w : World} {S0 S : Nat → Prop} {L : List Res} {p g n : Nat} {s s' : RSt}
theorem Finish_c (h : RingR p n s w S) (hs : s.ok n) (no st f : Int) (hP : FinP s no st f s') :
    Calls Tryz.prog 166 #[.pointer (some ⟨p, 0, none⟩), .int .i64 no, .int .i64 st] w fun e w' => e = .returned (.int .i64 f) ∧ ∃ S', RingR p n s' w' S' ∧ Did S S' w w' := by
  have HP := Lib.hid hP
  clear hP
  have SU := Lib.hid (fun no h0 h1 => sure_c h hs no h0 h1)
  have HS := Lib.hid hs
  obtain ⟨g, hr⟩ := h
  have s0 := St.start hr
  obtain ⟨k0, k1, k2, k3⟩ := ring4 (s0.blk 0 rfl)
  have SB := Lib.hid s0
  have hm := hs.m
  have hrt := hs.r
  have htp := hs.t
  have n0 := hs.n0
  have n1 := hs.n1
  clear hs hr s0
  by_cases q1 : st < 0
  · have d1 : decide (st < 0) = true := decide_eq_true q1
    obtain ⟨rfl, rfl⟩ : f = 1 ∧ s' = s := by
      rcases HP.out with ⟨_, h⟩ | ⟨h, _⟩ | ⟨h, _⟩
      · exact h
      · omega
      · omega
    go_enter Tryz.func166, Tryz.ntmps166
    go_wp2_with fail
    go_ret
    exact ⟨rfl, SB.out.fin fun S' h => ⟨g, h⟩⟩
  have d1 : decide (st < 0) = false := decide_eq_false q1
  by_cases q2 : 255 < st
  · have d2 : decide (255 < st) = true := decide_eq_true q2
    obtain ⟨rfl, rfl⟩ : f = 1 ∧ s' = s := by
      rcases HP.out with ⟨_, h⟩ | ⟨h, _⟩ | ⟨h, _⟩
      · exact h
      · omega
      · omega
    go_enter Tryz.func166, Tryz.ntmps166
    go_wp2_with fail
    go_ret
    exact ⟨rfl, SB.out.fin fun S' h => ⟨g, h⟩⟩
  have d2 : decide (255 < st) = false := decide_eq_false q2
  by_cases q3 : no < s.reaped
  · have d3 : decide (no < (s.reaped : Int)) = true := decide_eq_true q3
    obtain ⟨rfl, rfl⟩ : f = 12 ∧ s' = s := by
      rcases HP.out with ⟨h, _⟩ | ⟨_, _, h⟩ | ⟨_, h, _⟩
      · omega
      · exact h
      · omega
    go_enter Tryz.func166, Tryz.ntmps166
    go_wp2_with fail
    go_ret
    exact ⟨rfl, SB.out.fin fun S' h => ⟨g, h⟩⟩
  have d3 : decide (no < (s.reaped : Int)) = false := decide_eq_false q3
  by_cases q4 : (s.taken : Int) ≤ no
  · have d4 : decide ((s.taken : Int) ≤ no) = true := decide_eq_true q4
    obtain ⟨rfl, rfl⟩ : f = 12 ∧ s' = s := by
      rcases HP.out with ⟨h, _⟩ | ⟨_, _, h⟩ | ⟨_, _, h, _⟩
      · omega
      · exact h
      · omega
    go_enter Tryz.func166, Tryz.ntmps166
    go_wp2_with fail
    go_ret
    exact ⟨rfl, SB.out.fin fun S' h => ⟨g, h⟩⟩
  have d4 : decide ((s.taken : Int) ≤ no) = false := decide_eq_false q4
  obtain ⟨k, rfl⟩ : ∃ k : Nat, (k : Int) = no := ⟨no.toNat, by omega⟩
  have h1 : s.reaped ≤ k := by omega
  have h2 : k < s.taken := by omega
  have d3' : decide (k < s.reaped) = false := decide_eq_false (by omega)
  have d4' : decide (s.taken ≤ k) = false := decide_eq_false (by omega)
  have SC := Lib.hid (SU.out k h1 (by omega))
  have hk := Nat.mod_lt k (show 0 < n by omega)
  have FI := Lib.hid (fin_plcs HS.out h1 (show k < s.put by omega) ((s.D k).fin st))
  have hfn : ((s.D k).dn = true ∧ f = 12 ∧ s' = s) ∨ ((s.D k).dn = false ∧ f = 0 ∧ s' = ⟨s.put, s.taken, s.reaped, setD s.D k ((s.D k).fin st)⟩) := by
    rcases HP.out with ⟨h, _⟩ | ⟨_, h, hh⟩ | ⟨_, _, _, h, hh⟩
    · omega
    · rcases h with h | h | h
      · omega
      · omega
      · rw [Int.toNat_natCast] at h; exact Or.inl ⟨h, hh⟩
    · rw [Int.toNat_natCast] at h hh; exact Or.inr ⟨h, hh⟩
  have hm' : k ≤ 1000000 := by omega
  clear hm hrt htp h1 h2 HP SU q1 q2 q3 q4
  obtain ⟨d, hd⟩ : ∃ d, s.D k = d := ⟨_, rfl⟩
  rw [hd] at SC FI hfn
  unfold Dsc.v at SC
  clear hd
  go_enter Tryz.func166, Tryz.ntmps166
  go_wp2_with fail
  refine SC.out.mono ?_
  rintro e w1 ⟨rfl, hb1⟩
  have s1 : St w S w1 [BlkR p 228 #[.slice (some ⟨g, 0, none⟩) n n, .int .i64 s.put, .int .i64 s.taken, .int .i64 s.reaped], LisR 20 1 (.slice (some ⟨g, 0, none⟩) n n) n (plcs n s)] := SB.out.stay hb1
  clear hb1 SC SB k0 k1 k2 k3
  rcases hfn with ⟨hdn, rfl, rfl⟩ | ⟨hdn, rfl, rfl⟩
  · have S2 := Lib.hid (s1.alloc (.cells #[.int .i64 d.op, .int .i64 d.req, .int .i64 d.slot, .int .u64 d.gen, .int .i64 d.frm, .int .i64 d.len, .bool d.dv, .bool true, .int .i64 d.st] 135))
    rw [hdn]
    clear s1 hdn FI HS
    go_wp2_with fail
    go_ret
    exact ⟨rfl, S2.out.fin fun S' h => ⟨g, h⟩⟩
  · have s2 : St w S (w1.alloc (.cells #[.int .i64 d.op, .int .i64 d.req, .int .i64 d.slot, .int .u64 d.gen, .int .i64 d.frm, .int .i64 d.len, .bool false, .bool true, .int .i64 st] 135)) [BlkR p 228 #[.slice (some ⟨g, 0, none⟩) n n, .int .i64 s.put, .int .i64 s.taken, .int .i64 s.reaped], LisR 20 1 (.slice (some ⟨g, 0, none⟩) n n) n (plcs n s), BlkR w1.heap.size 135 (d.fin st).cells] := s1.box 135 (d.fin st).cells
    obtain ⟨w2, hw2⟩ : ∃ x, w1.alloc (.cells #[.int .i64 d.op, .int .i64 d.req, .int .i64 d.slot, .int .u64 d.gen, .int .i64 d.frm, .int .i64 d.len, .bool false, .bool true, .int .i64 st] 135) = x := ⟨_, rfl⟩
    rw [hw2] at s2
    have HW2 := Lib.hid hw2
    have s3 := s2.drew
    obtain ⟨w3, hw3⟩ : ∃ x, w2.drew = x := ⟨_, rfl⟩
    rw [hw3] at s3
    have HW3 := Lib.hid (show ({ heap := w2.heap, tape := w2.tape, drawn := w2.drawn + 1, os := w2.os, output := w2.output } : World) = w3 from hw3)
    obtain ⟨k0, k1, k2, k3⟩ := ring4 (s3.blk 0 rfl)
    have PL := Lib.hid (place_c k0 n0 n1 k hm')
    have c2 := lis_cell0 (s3.lis 1 rfl) (plcs_get s hk)
    have f2 := (s3.lis 1 rfl).frozen (k % n)
    obtain ⟨c0, c1, c3, c4, c5, c6, c7, c8, c9⟩ := dsc9 (d.fin st) _ w1.heap.size (s3.blk 2 rfl)
    dsimp only [Dsc.fin] at c0 c1 c3 c4 c5 c6 c7 c8 c9
    have s5 := s3.lis_set 1 rfl (show k % n < n * 1 by omega) (.iface 135 (d.fin st).v)
    rw [Nat.zero_add, FI.out] at s5
    have S5 := Lib.hid (s5.take 2)
    obtain ⟨j, hj⟩ : ∃ j, k % n = j := ⟨_, rfl⟩
    rw [hj] at PL c2 f2 S5 hk
    obtain ⟨v, hv⟩ : ∃ v, plc n s j = v := ⟨_, rfl⟩
    rw [hv] at c2
    clear hw2 hw3 s1 s2 s3 s5 hj hv FI HS
    rw [hdn]
    clear hdn
    go_wp2_with fail
    rw [HW2.out]
    go_wp2_with fail
    refine wp_region_still_tail 10 (by kernel_rfl) (by kernel_rfl) ?_
    rw [HW3.out]
    simp only [List.take_succ_cons, List.take_zero, List.drop_succ_cons, List.drop_zero]
    repeat (first | still_step | still_call PL.out)
    refine wpStill_nil ?_
    go_wp2_with fail

    go_ret
    exact ⟨rfl, S5.out.fin fun S' h => ⟨g, h⟩⟩
end
end
section
set_option linter.unusedVariables false
set_option maxRecDepth 100000
set_option maxHeartbeats 1000000
section
variable {w0 w : World} {S0 S : Nat → Prop} {L : List Res} {p g n : Nat} {s s' : RSt}
theorem Reap_c (h : RingR p n s w S) (hs : s.ok n) (d : Dsc) (f : Int) (hP : ReapP s d f s') :
    Calls Tryz.prog 70 #[.pointer (some ⟨p, 0, none⟩)] w fun e w' => e = .returned (.tuple #[d.v, .int .i64 f]) ∧ ∃ S', RingR p n s' w' S' ∧ Did S S' w w' := by
  have SU := Lib.hid (fun (w : World) S (h : RingR p n s w S) h1 => sure_c h hs s.reaped (Nat.le_refl _) h1)
  obtain ⟨g, hr⟩ := h
  have sb : St w S (w.alloc (.cells #[.int .i64 0, .int .i64 0, .int .i64 0, .int .u64 0, .int .i64 0, .int .i64 0, .bool false, .bool false, .int .i64 0] 135)) [BlkR p 228 #[.slice (some ⟨g, 0, none⟩) n n, .int .i64 s.put, .int .i64 s.taken, .int .i64 s.reaped], LisR 20 1 (.slice (some ⟨g, 0, none⟩) n n) n (plcs n s), BlkR w.heap.size 135 dZ.cells] := (St.start hr).box 135 dZ.cells
  have HS := Lib.hid hs
  have hm := hs.m
  have hrp : s.reaped ≤ s.put := Nat.le_trans hs.r hs.t
  have n0 := hs.n0
  have n1 := hs.n1
  obtain ⟨w1, hw1⟩ : ∃ x, w.alloc (.cells #[.int .i64 0, .int .i64 0, .int .i64 0, .int .u64 0, .int .i64 0, .int .i64 0, .bool false, .bool false, .int .i64 0] 135) = x := ⟨_, rfl⟩
  rw [hw1] at sb
  have HW1 := Lib.hid hw1
  obtain ⟨k0, k1, k2, k3⟩ := ring4 (sb.blk 0 rfl)
  obtain ⟨P, hP1⟩ : ∃ P : Int, (s.put : Int) = P := ⟨_, rfl⟩
  obtain ⟨R, hR⟩ : ∃ P : Int, (s.reaped : Int) = P := ⟨_, rfl⟩
  rw [hP1] at k1
  rw [hR] at k3
  have SB := Lib.hid sb
  clear hr hs sb hw1
  go_enter Tryz.func70, Tryz.ntmps70
  go_wp2_with fail
  rw [HW1.out]
  by_cases hx : s.reaped = s.put
  · obtain ⟨rfl, rfl, rfl⟩ : d = dZ ∧ f = 5 ∧ s' = s := by
      rcases hP with ⟨_, h⟩ | ⟨h, _⟩ | ⟨h, _⟩
      · exact h
      · omega
      · omega
    have z1 : (R == P) = true := beq_iff_eq.2 (by omega)
    clear hP hP1 hR hx
    go_quiet (fail)
    have s2 := SB.out.drewN nq
    generalize w1.drewN nq = w2 at *
    obtain ⟨c0, c1, c2, c3, c4, c5, c6, c7, c8⟩ := dsc9 dZ _ w.heap.size (s2.blk 2 rfl)
    obtain ⟨z0, z1, z2, z3, z4, z5, z6, z7, z8⟩ := frz9 (s2.blk 2 rfl)
    have S2 := Lib.hid s2
    clear s2
    go_wp2_with fail
    refine bodyPost_ret (v := .tuple #[dZ.v, .int .i64 5]) ?_ rfl ⟨rfl, ?_⟩
    · simp [results, go_sem, Dsc.v, dZ, c0, c1, c2, c3, c4, c5, c6, c7, c8]
    · exact ((((((((((S2.out.set_ 2 rfl 0 _).set_ 2 rfl 1 _).set_ 2 rfl 2 _).set_ 2 rfl 3 _).set_ 2 rfl 4 _).set_ 2 rfl 5 _).set_ 2 rfl 6 _).set_ 2 rfl 7 _).set_ 2 rfl 8 _).take 2).fin fun S' h => ⟨g, h⟩
  have hlt : s.reaped < s.put := by omega
  have z1 : (R == P) = false := beq_eq_false_iff_ne.2 (by omega)
  have b0 : 0 ≤ R ∧ R ≤ 1000000 := by omega
  have hcase : ((s.D s.reaped).dn = false ∧ d = dZ ∧ f = 10 ∧ s' = s) ∨ ((s.D s.reaped).dn = true ∧ d = s.D s.reaped ∧ f = 0 ∧ s' = ⟨s.put, s.taken, s.reaped + 1, s.D⟩) := by
    rcases hP with ⟨h, _⟩ | ⟨_, h⟩ | ⟨_, h⟩
    · omega
    · exact Or.inl h
    · exact Or.inr h
  clear hP
  go_quiet (fail)
  have s2 := SB.out.drewN nq
  generalize w1.drewN nq = w2 at *
  have s2' : St w S w2 [RingR p n s, BlkR w.heap.size 135 dZ.cells] := by
    have h1 := St.comm (A := [BlkR p 228 #[.slice (some ⟨g, 0, none⟩) n n, .int .i64 s.put, .int .i64 s.taken, .int .i64 s.reaped], LisR 20 1 (.slice (some ⟨g, 0, none⟩) n n) n (plcs n s)]) (B := [BlkR w.heap.size 135 dZ.cells]) s2
    exact (h1.fold (A := [BlkR w.heap.size 135 dZ.cells]) (R := RingR p n s) (RingR.ok _ _ _) fun S h => ⟨g, h⟩).swap01
  obtain ⟨Q, hQ⟩ := s2'.get 0 rfl
  have SC := Lib.hid (SU.out _ _ hQ hlt)
  have S2 := Lib.hid s2
  clear k0 k1 k2 k3
  obtain ⟨k0, k1, k2, k3⟩ := ring4 (s2.blk 0 rfl)
  rw [hR] at k3 SC
  obtain ⟨o, ho⟩ : ∃ o, s.D s.reaped = o := ⟨_, rfl⟩
  rw [ho] at SC hcase
  unfold Dsc.v at SC
  clear s2 s2' hQ SU hP1
  go_wp2_with fail
  refine SC.out.mono ?_
  rintro e w3 ⟨rfl, hb3⟩
  have s3 : St w S w3 [BlkR p 228 #[.slice (some ⟨g, 0, none⟩) n n, .int .i64 s.put, .int .i64 s.taken, .int .i64 s.reaped], LisR 20 1 (.slice (some ⟨g, 0, none⟩) n n) n (plcs n s), BlkR w.heap.size 135 dZ.cells] := S2.out.stay hb3
  have s4 : St w S (w3.alloc (.cells #[.int .i64 o.op, .int .i64 o.req, .int .i64 o.slot, .int .u64 o.gen, .int .i64 o.frm, .int .i64 o.len, .bool o.dv, .bool o.dn, .int .i64 o.st] 135)) [BlkR p 228 #[.slice (some ⟨g, 0, none⟩) n n, .int .i64 s.put, .int .i64 s.taken, .int .i64 s.reaped], LisR 20 1 (.slice (some ⟨g, 0, none⟩) n n) n (plcs n s), BlkR w.heap.size 135 dZ.cells, BlkR w3.heap.size 135 o.cells] := s3.box 135 o.cells
  obtain ⟨w4, hw4⟩ : ∃ x, w3.alloc (.cells #[.int .i64 o.op, .int .i64 o.req, .int .i64 o.slot, .int .u64 o.gen, .int .i64 o.frm, .int .i64 o.len, .bool o.dv, .bool o.dn, .int .i64 o.st] 135) = x := ⟨_, rfl⟩
  rw [hw4] at s4
  have HW4 := Lib.hid hw4
  clear hb3 S2 SC k0 k1 k2 k3 s3 hw4
  rcases hcase with ⟨hdn, rfl, rfl, rfl⟩ | ⟨hdn, rfl, rfl, rfl⟩
  · obtain ⟨c0, c1, c2, c3, c4, c5, c6, c7, c8⟩ := dsc9 dZ _ w.heap.size (s4.blk 2 rfl)
    obtain ⟨z0, z1, z2, z3, z4, z5, z6, z7, z8⟩ := frz9 (s4.blk 2 rfl)
    obtain ⟨_, _, _, _, _, _, _, e7, _⟩ := dsc9 o _ w3.heap.size (s4.blk 3 rfl)
    rw [hdn] at e7
    have S4 := Lib.hid s4
    clear s4 hdn
    go_upto_region 4 with (fail)
    rw [HW4.out]
    go_wp2_with fail
    refine bodyPost_ret (v := .tuple #[dZ.v, .int .i64 10]) ?_ rfl ⟨rfl, ?_⟩
    · simp [results, go_sem, Dsc.v, dZ, c0, c1, c2, c3, c4, c5, c6, c7, c8]
    · exact ((((((((((S4.out.set_ 2 rfl 0 _).set_ 2 rfl 1 _).set_ 2 rfl 2 _).set_ 2 rfl 3 _).set_ 2 rfl 4 _).set_ 2 rfl 5 _).set_ 2 rfl 6 _).set_ 2 rfl 7 _).set_ 2 rfl 8 _).take 2).fin fun S' h => ⟨g, h⟩
  · obtain ⟨_, _, _, _, _, _, _, e7, _⟩ := dsc9 d _ w3.heap.size (s4.blk 3 rfl)
    rw [hdn] at e7
    have s5 := s4.drew
    obtain ⟨w5, hw5⟩ : ∃ x, w4.drew = x := ⟨_, rfl⟩
    rw [hw5] at s5
    have HW5 := Lib.hid (show ({ heap := w4.heap, tape := w4.tape, drawn := w4.drawn + 1, os := w4.os, output := w4.output } : World) = w5 from hw5)
    obtain ⟨k0, k1, k2, k3⟩ := ring4 (s5.blk 0 rfl)
    have hk := Nat.mod_lt s.reaped (show 0 < n by omega)
    have PL := Lib.hid (place_c k0 n0 n1 s.reaped (by omega))
    have c2 := lis_cell0 (s5.lis 1 rfl) (plcs_get s hk)
    have f2 := (s5.lis 1 rfl).frozen (s.reaped % n)
    have s6 := s5.lis_set 1 rfl (show s.reaped % n < n * 1 by omega) .nilIface
    rw [Nat.zero_add, reap_plcs HS.out hlt] at s6
    obtain ⟨j, hj⟩ : ∃ j, s.reaped % n = j := ⟨_, rfl⟩
    rw [hj] at PL c2 f2 s6 hk
    obtain ⟨v, hv⟩ : ∃ v, plc n s j = v := ⟨_, rfl⟩
    rw [hv] at c2
    have s6' : St w S _ [BlkR p 228 #[.slice (some ⟨g, 0, none⟩) n n, .int .i64 s.put, .int .i64 s.taken, .int .i64 s.reaped], _, _, _] := s6
    obtain ⟨m0, m1, m2, m3⟩ := ring4 (s6'.blk 0 rfl)
    have f3 := (s6'.blk 0 rfl).frozen 3
    rw [hR] at m3 k3 PL
    have s7 := s6'.set_ 0 rfl 3 (.int .i64 (R + 1))
    have e9 := dsc9 d _ w3.heap.size (s7.blk 3 rfl)
    have r9 := dsc9 dZ _ w.heap.size (s7.blk 2 rfl)
    have z9 := frz9 (s7.blk 2 rfl)
    have S7 : St w S ((w5.setCell ⟨g, j, none⟩ .nilIface).setCell ⟨p, 3, none⟩ (.int .i64 (R + 1))) (RingL p g n ⟨s.put, s.taken, s.reaped + 1, s.D⟩ ++ [BlkR w.heap.size 135 dZ.cells]) := by
      unfold RingL
      dsimp only
      rw [show ((s.reaped + 1 : Nat) : Int) = R + 1 by omega]
      exact s7.take 3
    have S8 := Lib.hid S7
    clear s4 s5 s6 s6' s7 S7 hj hv HS hw5 hdn
    go_upto_region 4 with (fail)
    rw [HW4.out]
    go_wp2_with fail
    refine wp_region_still_tail 11 (by kernel_rfl) (by kernel_rfl) ?_
    rw [HW5.out]
    simp only [List.take_succ_cons, List.take_zero, List.drop_succ_cons, List.drop_zero]
    repeat (first | still_step | still_call PL.out)
    refine wpStill_nil ?_
    go_upto_region 8 with (fail)
    obtain ⟨e0, e1, e2, e3, e4, e5, e6, e7', e8⟩ := e9
    obtain ⟨r0, r1, r2, r3, r4, r5, r6, r7, r8⟩ := r9
    obtain ⟨z0, z1, z2, z3, z4, z5, z6, z7, z8⟩ := z9
    clear k0 k1 k2 k3 m0 m1 m2 m3 c2 f2 f3 e7
    generalize (w5.setCell ⟨g, j, none⟩ .nilIface).setCell ⟨p, 3, none⟩ (.int .i64 (R + 1)) = w7 at *
    go_wp2_with fail
    refine bodyPost_ret (v := .tuple #[d.v, .int .i64 0]) ?_ rfl ⟨rfl, ?_⟩
    · simp [results, go_sem, Dsc.v, r0, r1, r2, r3, r4, r5, r6, r7, r8]
    · exact ((((((((((S8.out.set_ 2 rfl 0 _).set_ 2 rfl 1 _).set_ 2 rfl 2 _).set_ 2 rfl 3 _).set_ 2 rfl 4 _).set_ 2 rfl 5 _).set_ 2 rfl 6 _).set_ 2 rfl 7 _).set_ 2 rfl 8 _).take 2).fin fun S' h => ⟨g, h⟩
end
end
section
set_option linter.unusedVariables false
set_option maxRecDepth 100000
set_option maxHeartbeats 1000000
section
variable {w0 w : World} {S0 S : Nat → Prop} {L : List Res} {p g n : Nat} {s s' : RSt}
end
end
section
set_option linter.unusedVariables false
set_option maxRecDepth 100000
set_option maxHeartbeats 1000000
def Dsc.c (d : Dsc) : Nat → Value
  | 0 => .int .i64 d.op
  | 1 => .int .i64 d.req
  | 2 => .int .i64 d.slot
  | 3 => .int .u64 d.gen
  | 4 => .int .i64 d.frm
  | 5 => .int .i64 d.len
  | 6 => .bool d.dv
  | 7 => .bool d.dn
  | _ => .int .i64 d.st
/-- Descriptors, one behind the other. -/
def dsl (D : Nat → Dsc) (m : Nat) : List Value := grid m 9 (fun j k => (D j).c k)
theorem dsl_snoc (D : Nat → Dsc) (m : Nat) : dsl D (m + 1) = dsl D m ++ [.int .i64 (D m).op, .int .i64 (D m).req, .int .i64 (D m).slot, .int .u64 (D m).gen, .int .i64 (D m).frm, .int .i64 (D m).len, .bool (D m).dv, .bool (D m).dn, .int .i64 (D m).st] := by
  unfold dsl
  rw [grid_snoc _ _ _ (by omega)]; rfl
theorem dsl_like {D D' : Nat → Dsc} {m : Nat} (h : ∀ j, j < m → D j = D' j) : dsl D m = dsl D' m := grid_like fun j k hj _ => by rw [h j hj]
theorem dsl_one (D : Nat → Dsc) (m : Nat) : ∀ u ∈ dsl D m, u.oneCell' = true := by
  intro u hu
  unfold dsl grid at hu
  obtain ⟨q, hq, rfl⟩ := List.mem_map.1 hu
  generalize q / 9 = a
  generalize q % 9 = b
  dsimp only
  match b with
  | 0 | 1 | 2 | 3 | 4 | 5 | 6 | 7 => rfl
  | b + 8 => rfl
theorem dsl_at (D : Nat → Dsc) {m j k : Nat} (hj : j < m) (hk : k < 9) : (dsl D m)[j * 9 + k]? = some ((D j).c k) := grid_at _ hj hk
theorem dsl_len (D : Nat → Dsc) (m : Nat) : (dsl D m).length = m * 9 := grid_len _ _ _
theorem Tryz.infoDesc : (Tryz.prog.info? 135).map (fun i => (i.zero, i.size, i.bytes)) = some (some (.agg #[.int .i64 0, .int .i64 0, .int .i64 0, .int .u64 0, .int .i64 0, .int .i64 0, .bool false, .bool false, .int .i64 0]), 9, 64) := by kernel_rfl
theorem zero_any (w : World) : (zeroValue 20).run Tryz.prog w = .ok .nilIface w := by kernel_rfl
theorem rds_dsc {w : World} {B : Nat} {d : Dsc} (h : Blk w B 135 d.cells) : Rds w (some ⟨B, 0, none⟩) 1 9 [.int .i64 d.op, .int .i64 d.req, .int .i64 d.slot, .int .u64 d.gen, .int .i64 d.frm, .int .i64 d.len, .bool d.dv, .bool d.dn, .int .i64 d.st] :=
  ⟨rfl, Or.inr ⟨B, 0, rfl, fun j u hu => by rw [Nat.zero_add, h.cell]; simpa [Dsc.cells] using hu⟩⟩
section
variable {w0 w : World} {S0 S : Nat → Prop} {L : List Res} {p g n : Nat} {s s' : RSt}
end
end
section
set_option linter.unusedVariables false
section
variable {w0 w : World} {S0 S : Nat → Prop} {L : List Res} {p n : Nat} {s s' : RSt}
theorem Put_o (H : St w0 S0 w L) (i : Nat) (hi : L[i]? = some (RingR p n s)) (hs : s.ok n) (d : Dsc) (hf : d.fits) (a f : Int) (hP : PutP n s d a f s') (hm : s.put + 1 ≤ 1000000) :
    Calls Tryz.prog 56 #[.pointer (some ⟨p, 0, none⟩), d.v] w fun e w' => e = .returned (.tuple #[.int .i64 a, .int .i64 f]) ∧ St w0 S0 w' (L.set i (RingR p n s')) :=
  St.call (fun w S h => Put_c h hs d hf a f hP hm) (RingR.ok _ _ _) H i hi
theorem Take_o (H : St w0 S0 w L) (i : Nat) (hi : L[i]? = some (RingR p n s)) (hs : s.ok n) (a f : Int) (d : Dsc) (hP : TakeP s a d f s') :
    Calls Tryz.prog 152 #[.pointer (some ⟨p, 0, none⟩)] w fun e w' => e = .returned (.tuple #[.int .i64 a, d.v, .int .i64 f]) ∧ St w0 S0 w' (L.set i (RingR p n s')) :=
  St.call (fun w S h => Take_c h hs a f d hP) (RingR.ok _ _ _) H i hi
theorem Finish_o (H : St w0 S0 w L) (i : Nat) (hi : L[i]? = some (RingR p n s)) (hs : s.ok n) (no st f : Int) (hP : FinP s no st f s') :
    Calls Tryz.prog 166 #[.pointer (some ⟨p, 0, none⟩), .int .i64 no, .int .i64 st] w fun e w' => e = .returned (.int .i64 f) ∧ St w0 S0 w' (L.set i (RingR p n s')) :=
  St.call (fun w S h => Finish_c h hs no st f hP) (RingR.ok _ _ _) H i hi
theorem Reap_o (H : St w0 S0 w L) (i : Nat) (hi : L[i]? = some (RingR p n s)) (hs : s.ok n) (d : Dsc) (f : Int) (hP : ReapP s d f s') :
    Calls Tryz.prog 70 #[.pointer (some ⟨p, 0, none⟩)] w fun e w' => e = .returned (.tuple #[d.v, .int .i64 f]) ∧ St w0 S0 w' (L.set i (RingR p n s')) :=
  St.call (fun w S h => Reap_c h hs d f hP) (RingR.ok _ _ _) H i hi
theorem Counts_o (H : St w0 S0 w L) (i : Nat) (hi : L[i]? = some (RingR p n s)) :
    Calls Tryz.prog 69 #[.pointer (some ⟨p, 0, none⟩)] w fun e w' => e = .returned (.tuple #[.int .i64 s.put, .int .i64 s.taken, .int .i64 s.reaped]) ∧ St w0 S0 w' L := by
  obtain ⟨S, h⟩ := H.get i hi
  exact looks (Counts_c h) H
end
end
end ri
end Go.Proofs.YtdjhpdacglojaaaGreat
