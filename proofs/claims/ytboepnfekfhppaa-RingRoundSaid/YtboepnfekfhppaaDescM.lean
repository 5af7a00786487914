/- Layer 9: descriptors and their bytes, by themselves. -/
import Derived.Test.YtboepnfekfhppaaRows
import Derived.Test.YtboepnfekfhppaaRd
import Derived.WalkKit
import Derived.Lib.Hide
import Derived.Test.YtboepnfekfhppaaSep
import Derived.Test.YtboepnfekfhppaaLis
namespace Go.Proofs.Ytboepnfekfhppaa
open Go.RowKit
set_option linter.unusedVariables false
def chk (f : Nat → Int) : Nat → Int
  | 0 => 0
  | k + 1 => (chk f k + f k * ((k : Int) + 1)) % 16777216
/-- A descriptor. -/
structure Dsc where
  op : Int
  req : Int
  slot : Int
  gen : Int
  frm : Int
  len : Int
  dv : Bool
  dn : Bool
  st : Int
@[ext] theorem Dsc.ext' {a b : Dsc} (h1 : a.op = b.op) (h2 : a.req = b.req) (h3 : a.slot = b.slot) (h4 : a.gen = b.gen) (h5 : a.frm = b.frm) (h6 : a.len = b.len) (h7 : a.dv = b.dv) (h8 : a.dn = b.dn) (h9 : a.st = b.st) : a = b := by
  cases a; cases b; simp_all
def Dsc.may (d : Dsc) : Prop := (0 ≤ d.op ∧ d.op ≤ 15) ∧ (0 ≤ d.req ∧ d.req ≤ 65535) ∧ (0 ≤ d.slot ∧ d.slot ≤ 65535) ∧ (0 ≤ d.gen ∧ d.gen < 4294967296) ∧ (0 ≤ d.frm ∧ d.frm ≤ 65535) ∧ (0 ≤ d.len ∧ d.len ≤ 65536) ∧ (0 ≤ d.st ∧ d.st ≤ 255) ∧ (d.dn = true ∨ d.st = 0)
instance (d : Dsc) : Decidable d.may := by unfold Dsc.may; infer_instance
def Dsc.marks (d : Dsc) : Int := d.op + (if d.dv then 16 else 0) + (if d.dn then 32 else 0)
/-- Its seventeen bytes ahead of the check. -/
def Dsc.pre (d : Dsc) : Nat → Int
  | 0 => d.marks
  | 1 => d.st
  | 2 => d.req / 256
  | 3 => d.req % 256
  | 4 => d.slot / 256
  | 5 => d.slot % 256
  | 6 => d.gen / 16777216
  | 7 => d.gen / 65536 % 256
  | 8 => d.gen / 256 % 256
  | 9 => d.gen % 256
  | 10 => d.frm / 256
  | 11 => d.frm % 256
  | 12 => 0
  | 13 => d.len / 65536
  | 14 => d.len / 256 % 256
  | 15 => d.len % 256
  | _ => 0
def Dsc.sum (d : Dsc) : Int := chk d.pre 17
def Dsc.full (d : Dsc) : Nat → Int
  | 17 => d.sum / 65536
  | 18 => d.sum / 256 % 256
  | 19 => d.sum % 256
  | j => d.pre j
theorem chk_bd (f : Nat → Int) : ∀ k, 0 ≤ chk f k ∧ chk f k < 16777216
  | 0 => by simp [chk]
  | k + 1 => by unfold chk; omega
theorem chk_like {f g : Nat → Int} : ∀ {n : Nat}, (∀ j, j < n → f j = g j) → chk f n = chk g n
  | 0, _ => rfl
  | n + 1, h => by unfold chk; rw [chk_like (n := n) fun j hj => h j (by omega), h n (by omega)]
theorem full_pre (d : Dsc) : ∀ j, j < 17 → d.full j = d.pre j := by
  intro j hj
  unfold Dsc.full
  split <;> first | omega | rfl
theorem full_chk (d : Dsc) : chk d.full 17 = d.sum := chk_like (full_pre d)
theorem marks_bd {d : Dsc} (h : d.may) : 0 ≤ d.marks ∧ d.marks ≤ 63 := by
  obtain ⟨h, _⟩ := h
  unfold Dsc.marks
  split <;> split <;> omega
theorem pre_bd {d : Dsc} (h : d.may) (j : Nat) : 0 ≤ d.pre j ∧ d.pre j < 256 := by
  have hm := marks_bd h
  obtain ⟨h1, h2, h3, h4, h5, h6, h7, _⟩ := h
  unfold Dsc.pre
  split <;> omega
theorem full_bd {d : Dsc} (h : d.may) (j : Nat) : 0 ≤ d.full j ∧ d.full j < 256 := by
  have hc := chk_bd d.pre 17
  have hs : d.sum = chk d.pre 17 := rfl
  unfold Dsc.full
  split
  · omega
  · omega
  · omega
  · exact pre_bd h j
/-- The descriptor that twenty bytes would be. -/
def dec (f : Nat → Int) : Dsc where
  op := f 0 % 16
  dv := decide (f 0 / 16 % 2 = 1)
  dn := decide (f 0 / 32 % 2 = 1)
  st := f 1
  req := f 2 * 256 + f 3
  slot := f 4 * 256 + f 5
  gen := ((f 6 * 256 + f 7) * 256 + f 8) * 256 + f 9
  frm := f 10 * 256 + f 11
  len := ((f 12 * 256 + f 13) * 256 + f 14) * 256 + f 15
theorem dec_like {f g : Nat → Int} (h : ∀ j, j < 20 → f j = g j) : dec f = dec g := by
  unfold dec
  rw [h 0, h 1, h 2, h 3, h 4, h 5, h 6, h 7, h 8, h 9, h 10, h 11, h 12, h 13, h 14, h 15] <;> omega
theorem dec_full {d : Dsc} (h : d.may) : dec d.full = d := by
  obtain ⟨h1, h2, h3, h4, h5, h6, h7, h8⟩ := h
  have hm : d.full 0 = d.marks := rfl
  unfold Dsc.marks at hm
  refine Dsc.ext' ?_ ?_ ?_ ?_ ?_ ?_ ?_ ?_ ?_
  · show d.full 0 % 16 = d.op
    rw [hm]; split <;> split <;> omega
  · show d.req / 256 * 256 + d.req % 256 = _; omega
  · show d.slot / 256 * 256 + d.slot % 256 = _; omega
  · show ((d.gen / 16777216 * 256 + d.gen / 65536 % 256) * 256 + d.gen / 256 % 256) * 256 + d.gen % 256 = _; omega
  · show d.frm / 256 * 256 + d.frm % 256 = _; omega
  · show ((0 * 256 + d.len / 65536) * 256 + d.len / 256 % 256) * 256 + d.len % 256 = _; omega
  · show decide (d.full 0 / 16 % 2 = 1) = d.dv
    rw [hm]
    cases d.dv <;> cases d.dn <;> simp <;> omega
  · show decide (d.full 0 / 32 % 2 = 1) = d.dn
    rw [hm]
    cases d.dv <;> cases d.dn <;> simp <;> omega
  · rfl
/-- Are these rows' bytes a descriptor's? -/
def isD (f : Nat → Int) (n : Nat) : Prop := n = 20 ∧ (dec f).may ∧ ∀ j, j < 20 → f j = (dec f).full j
instance (f : Nat → Int) (n : Nat) : Decidable (isD f n) := by unfold isD; infer_instance
theorem isD_full {d : Dsc} (h : d.may) : isD d.full 20 := ⟨rfl, by rw [dec_full h]; exact h, fun j hj => by rw [dec_full h]⟩
theorem isD_like {f g : Nat → Int} {n : Nat} (h : ∀ j, j < 20 → f j = g j) : isD f n ↔ isD g n := by
  unfold isD
  rw [dec_like h]
  constructor
  · rintro ⟨a, b, c⟩; exact ⟨a, b, fun j hj => by rw [← h j hj]; exact c j hj⟩
  · rintro ⟨a, b, c⟩; exact ⟨a, b, fun j hj => by rw [h j hj]; exact c j hj⟩
theorem full_inj {d o : Dsc} (hd : d.may) (ho : o.may) (h : ∀ j, j < 20 → d.full j = o.full j) : d = o := by
  rw [← dec_full hd, ← dec_full ho, dec_like h]
/-- The plain sum. -/
def raw (f : Nat → Int) : Nat → Int
  | 0 => 0
  | k + 1 => raw f k + f k * ((k : Int) + 1)
theorem chk_raw (f : Nat → Int) : ∀ n, chk f n = raw f n % 16777216
  | 0 => rfl
  | n + 1 => by unfold chk raw; rw [chk_raw f n]; omega
theorem raw_one {f g : Nat → Int} {i : Nat} (h : ∀ j, j ≠ i → f j = g j) : ∀ n, raw f n = raw g n + (if i < n then (f i - g i) * ((i : Int) + 1) else 0)
  | 0 => by simp [raw]
  | n + 1 => by
    unfold raw
    rw [raw_one h n]
    by_cases e : n = i
    · subst e
      rw [if_neg (by omega), if_pos (by omega), Int.sub_mul]; omega
    · rw [h n e]
      by_cases e2 : i < n
      · rw [if_pos e2, if_pos (by omega)]; omega
      · rw [if_neg e2, if_neg (by omega)]; omega
theorem chk_one {f g : Nat → Int} {i n : Nat} (h : ∀ j, j ≠ i → f j = g j) (hi : i < n) (hn : n ≤ 4000) (hf : 0 ≤ f i ∧ f i < 256) (hg : 0 ≤ g i ∧ g i < 256) : chk f n = chk g n ↔ f i = g i := by
  rw [chk_raw, chk_raw, raw_one h n, if_pos hi]
  constructor
  · intro he
    generalize f i = x at *
    generalize g i = y at *
    by_cases hxy : x = y
    · exact hxy
    · exfalso
      have b : (x - y) * ((i : Int) + 1) % 16777216 = 0 := by omega
      rcases Int.lt_or_gt_of_ne hxy with hl | hl
      · have b1 : (y - x) * ((i : Int) + 1) ≤ 256 * ((i : Int) + 1) := Int.mul_le_mul_of_nonneg_right (by omega) (by omega)
        have b2 : 1 * ((i : Int) + 1) ≤ (y - x) * ((i : Int) + 1) := Int.mul_le_mul_of_nonneg_right (by omega) (by omega)
        have b3 : (x - y) * ((i : Int) + 1) = -((y - x) * ((i : Int) + 1)) := by rw [← Int.neg_mul]; congr 1; omega
        generalize (y - x) * ((i : Int) + 1) = z at *
        omega
      · have b1 : (x - y) * ((i : Int) + 1) ≤ 256 * ((i : Int) + 1) := Int.mul_le_mul_of_nonneg_right (by omega) (by omega)
        have b2 : 1 * ((i : Int) + 1) ≤ (x - y) * ((i : Int) + 1) := Int.mul_le_mul_of_nonneg_right (by omega) (by omega)
        generalize (x - y) * ((i : Int) + 1) = z at *
        omega
  · intro he; rw [he]; simp
theorem raw_two {f g : Nat → Int} {i : Nat} (h : ∀ j, j ≠ i → j ≠ i + 1 → f j = g j) (h1 : f i = g (i + 1)) (h2 : f (i + 1) = g i) : ∀ n, i + 1 < n → raw f n = raw g n + (g i - g (i + 1))
  | 0, hn => by omega
  | n + 1, hn => by
    by_cases e : n = i + 1
    · subst e
      have hb : raw f i = raw g i := by
        have : ∀ m, m ≤ i → raw f m = raw g m := by
          intro m
          induction m with
          | zero => intro; rfl
          | succ m ih => intro hm; unfold raw; rw [ih (by omega), h m (by omega) (by omega)]
        exact this i (Nat.le_refl _)
      unfold raw
      unfold raw
      rw [hb, h1, h2]
      generalize g i = x
      generalize g (i + 1) = y
      generalize raw g i = r
      have e1 : y * ((i : Int) + 1) = y * i + y := by rw [Int.mul_add, Int.mul_one]
      have e2 : x * (((i + 1 : Nat) : Int) + 1) = x * i + 2 * x := by rw [Int.natCast_add, Int.mul_add, Int.mul_add]; omega
      have e3 : x * ((i : Int) + 1) = x * i + x := by rw [Int.mul_add, Int.mul_one]
      have e4 : y * (((i + 1 : Nat) : Int) + 1) = y * i + 2 * y := by rw [Int.natCast_add, Int.mul_add, Int.mul_add]; omega
      rw [e1, e2, e3, e4]
      omega
    · unfold raw
      rw [raw_two h h1 h2 n (by omega), h n (by omega) e]
      omega
theorem chk_two {f g : Nat → Int} {i n : Nat} (h : ∀ j, j ≠ i → j ≠ i + 1 → f j = g j) (h1 : f i = g (i + 1)) (h2 : f (i + 1) = g i) (hi : i + 1 < n) (hf : 0 ≤ g i ∧ g i < 256) (hg : 0 ≤ g (i + 1) ∧ g (i + 1) < 256) : chk f n = chk g n ↔ g i = g (i + 1) := by
  rw [chk_raw, chk_raw, raw_two h h1 h2 n hi]
  omega
theorem isD_sum {f : Nat → Int} (h : isD f 20) : chk f 17 = (f 17 * 256 + f 18) * 256 + f 19 := by
  obtain ⟨_, hm, hf⟩ := h
  have hb := chk_bd (dec f).pre 17
  have h1 : chk f 17 = (dec f).sum := by rw [← full_chk]; exact chk_like fun j hj => hf j (by omega)
  have e17 : f 17 = (dec f).sum / 65536 := hf 17 (by omega)
  have e18 : f 18 = (dec f).sum / 256 % 256 := hf 18 (by omega)
  have e19 : f 19 = (dec f).sum % 256 := hf 19 (by omega)
  unfold Dsc.sum at *
  omega
/-- A byte turned: none's. -/
theorem isD_turned {d : Dsc} (hd : d.may) {f : Nat → Int} {i : Nat} (hi : i < 20) (h : ∀ j, j ≠ i → f j = d.full j) (hb : 0 ≤ f i ∧ f i < 256) : isD f 20 ↔ f i = d.full i := by
  constructor
  · intro hf
    have h1 := isD_sum hf
    have h2 := isD_sum (isD_full hd)
    have hdb := full_bd hd
    by_cases h17 : i < 17
    · rw [h 17 (by omega), h 18 (by omega), h 19 (by omega)] at h1
      exact (chk_one h h17 (by omega) hb (hdb i)).1 (h1.trans h2.symm)
    · have h3 : chk f 17 = chk d.full 17 := chk_like fun j hj => h j (by omega)
      rw [h3, h2] at h1
      have b17 := hdb 17
      have b18 := hdb 18
      have b19 := hdb 19
      rcases (show i = 17 ∨ i = 18 ∨ i = 19 by omega) with rfl | rfl | rfl
      · rw [h 18 (by omega), h 19 (by omega)] at h1; omega
      · rw [h 17 (by omega), h 19 (by omega)] at h1; omega
      · rw [h 17 (by omega), h 18 (by omega)] at h1; omega
  · intro he
    have : ∀ j, j < 20 → f j = d.full j := fun j hj => by
      by_cases e : j = i
      · rw [e, he]
      · exact h j e
    exact (isD_like this).2 (isD_full hd)
/-- A descriptor's value, and its cells. -/
def Dsc.cells (d : Dsc) : Array Value := #[.int .i64 d.op, .int .i64 d.req, .int .i64 d.slot, .int .u64 d.gen, .int .i64 d.frm, .int .i64 d.len, .bool d.dv, .bool d.dn, .int .i64 d.st]
def Dsc.v (d : Dsc) : Value := .agg #[.int .i64 d.op, .int .i64 d.req, .int .i64 d.slot, .int .u64 d.gen, .int .i64 d.frm, .int .i64 d.len, .bool d.dv, .bool d.dn, .int .i64 d.st]
/-- Whatever fits the fields. -/
def Dsc.fits (d : Dsc) : Prop := (-9223372036854775808 ≤ d.op ∧ d.op ≤ 9223372036854775807) ∧ (-9223372036854775808 ≤ d.req ∧ d.req ≤ 9223372036854775807) ∧ (-9223372036854775808 ≤ d.slot ∧ d.slot ≤ 9223372036854775807) ∧ (0 ≤ d.gen ∧ d.gen ≤ 18446744073709551615) ∧ (-9223372036854775808 ≤ d.frm ∧ d.frm ≤ 9223372036854775807) ∧ (-9223372036854775808 ≤ d.len ∧ d.len ≤ 9223372036854775807) ∧ (-9223372036854775808 ≤ d.st ∧ d.st ≤ 9223372036854775807)
theorem Dsc.may.fits {d : Dsc} (h : d.may) : d.fits := by
  unfold Dsc.may at h
  unfold Dsc.fits
  omega
/-- A number's last bytes, the greatest first. -/
def be (n : Int) : Nat → List Int
  | 0 => []
  | z + 1 => (n / 256 ^ z % 256) :: be n z
def beAll : List (Int × Nat) → List Int
  | [] => []
  | p :: l => be p.1 p.2 ++ beAll l
theorem be_len (n : Int) : ∀ z, (be n z).length = z
  | 0 => rfl
  | z + 1 => by simp [be, be_len n z]
/-- Numbers as bytes in memory. -/
def bys (xs : List Int) : List Value := xs.map (Value.int .u8)
theorem bys_len (xs : List Int) : (bys xs).length = xs.length := by simp [bys]
theorem bys_snoc (xs : List Int) (x : Int) : bys (xs ++ [x]) = bys xs ++ [.int .u8 x] := by simp [bys]
theorem bys_one (xs : List Int) : ∀ u ∈ bys xs, u.oneCell' = true := by
  intro u hu
  obtain ⟨x, _, rfl⟩ := List.mem_map.1 hu
  rfl
def Dsc.preL (d : Dsc) : List Int := (List.range 17).map d.pre
def Dsc.fullL (d : Dsc) : List Int := (List.range 20).map d.full
end Go.Proofs.Ytboepnfekfhppaa
