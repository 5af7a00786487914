/- Layer 3: a heap of these members; what is told of it; a new one. -/
import Derived.Test.YtncoeoccdimgoaaHeapF
namespace Go.Proofs.Ytncoeoccdimgoaa
open Go.RowKit
set_option linter.unusedVariables false
set_option maxRecDepth 100000
set_option maxHeartbeats 1000000
def HLA (h : Nat) (A : Option Addr) (c pb n k : Nat) (a : Nat → Mem) (pl : Nat → Int) : List Res :=
  [BlkR h 55 #[.slice A k c, .slice (some ⟨pb, 0, none⟩) n n], LisR 58 2 (.slice A k c) k (grid k 2 (hv a)), ArrR pb 3 n (fun i => .int .i64 (pl i))]
structure HOk (n k : Nat) (a : Nat → Mem) (pl : Nat → Int) (M : HM) : Prop where
  n1 : 1 ≤ n
  n2 : n ≤ 1000
  hp : Hp a k
  of : Of a k M
  cnt : k = M.cnt n
  pl : PL n a k pl
theorem HOk.kn {n k : Nat} {a : Nat → Mem} {pl : Nat → Int} {M : HM} (h : HOk n k a pl M) : k ≤ n := by rw [h.cnt]; exact M.cnt_le n
theorem HOk.sup {n k : Nat} {a : Nat → Mem} {pl : Nat → Int} {M : HM} (h : HOk n k a pl M) {id : Nat} {x : Int} (hm : M id = some x) : id < n := by
  obtain ⟨i, hi, e⟩ := (h.of id x).1 hm
  have := (h.pl.at' i hi).1
  rw [e] at this; exact this
theorem HOk.noneI {n k : Nat} {a : Nat → Mem} {pl : Nat → Int} {M : HM} (h : HOk n k a pl M) {id : Nat} (hi : id < n) : M id = none ↔ pl id = -1 := by
  constructor
  · intro hm
    rcases h.pl.no id hi with h1 | ⟨i, hi, h1, h2⟩
    · exact h1
    · have := (h.of id (a i).2).2 ⟨i, hi, by rw [← h2]⟩
      rw [hm] at this; cases this
  · intro hp
    cases hm : M id with
    | none => rfl
    | some x =>
      obtain ⟨i, hi, e⟩ := (h.of id x).1 hm
      have := (h.pl.at' i hi).2
      rw [e] at this
      simp only at this
      omega
theorem HOk.someI {n k : Nat} {a : Nat → Mem} {pl : Nat → Int} {M : HM} (h : HOk n k a pl M) {id : Nat} {x : Int} (hm : M id = some x) : ∃ i, i < k ∧ pl id = (i : Int) ∧ a i = (id, x) := by
  obtain ⟨i, hi, e⟩ := (h.of id x).1 hm
  have := (h.pl.at' i hi).2
  rw [e] at this
  exact ⟨i, hi, this, e⟩
/-- A heap. -/
def HeapR (h n : Nat) (M : HM) : Res := fun w S => ∃ A c pb k a pl, HOk n k a pl M ∧ Star (HLA h A c pb n k a pl) w S
theorem HeapR.ok (h n : Nat) (M : HM) : Ok (HeapR h n M) :=
  ⟨fun ⟨A, c, pb, k, a, pl, _, hs⟩ b hb => (Star.ok _).lt hs b hb, fun ⟨A, c, pb, k, a, pl, ho, hs⟩ hk => ⟨A, c, pb, k, a, pl, ho, (Star.ok _).frame hs hk⟩⟩
section
variable {w0 w : World} {S S0 : Nat → Prop} {N L : List Res} {h c pb n k : Nat} {A : Option Addr} {a : Nat → Mem} {pl : Nat → Int} {M : HM}
theorem hla_h (s : St w0 S0 w (HLA h A c pb n k a pl ++ N)) : w.cell? ⟨h, 0, none⟩ = some (.slice A k c) ∧ w.cell? ⟨h, 1, none⟩ = some (.slice (some ⟨pb, 0, none⟩) n n) := (s.blk 0 rfl).two
theorem hla_lis (s : St w0 S0 w (HLA h A c pb n k a pl ++ N)) : Lis w 58 2 (.slice A k c) k (grid k 2 (hv a)) := s.lis 1 rfl
theorem hla_cap (s : St w0 S0 w (HLA h A c pb n k a pl ++ N)) : k ≤ c ∧ c ≤ maxLen := by
  obtain ⟨A', c', hv, h1, h2⟩ := (hla_lis s).shape
  injection hv with _ _ hv
  subst hv; exact ⟨h1, h2⟩
theorem hla_pl (s : St w0 S0 w (HLA h A c pb n k a pl ++ N)) {i : Nat} (hi : i < n) : w.cell? ⟨pb, i, none⟩ = some (.int .i64 (pl i)) := s.arr_cell 2 rfl hi
theorem hla_some (s : St w0 S0 w (HLA h A c pb n k a pl ++ N)) (hk : 0 < k) : ∃ b off, A = some ⟨b, off, none⟩ := by
  rcases (hla_lis s).reads.2 with h | ⟨g, o, ha, hc⟩
  · omega
  · exact ⟨g, o, ha⟩
theorem Len_c (s : HeapR h n M w S) :
    Calls Try.prog 20 #[.pointer (some ⟨h, 0, none⟩)] w fun e w' => e = .returned (.int .i64 (M.cnt n : Nat)) ∧ w' = w := by
  obtain ⟨A, c, pb, k, a, pl, ho, hs⟩ := s
  have s0 : St w S w (HLA h A c pb n k a pl ++ []) := St.start (by rw [List.append_nil]; exact hs)
  have c0 := (hla_h s0).1
  rw [← ho.cnt]
  clear s0 hs ho
  go_enter Try.func20, Try.ntmps20
  go_wp2_with fail
  go_ret
  exact ⟨rfl, rfl⟩
theorem First_c (s : HeapR h n M w S) {id x f : Int} (hf : FstP M id x f) :
    Calls Try.prog 18 #[.pointer (some ⟨h, 0, none⟩)] w fun e w' => e = .returned (.tuple #[.int .i64 id, .int .u64 x, .int .i64 f]) ∧ Below w.heap.size w w' := by
  obtain ⟨A, c, pb, k, a, pl, ho, hs⟩ := s
  have s0 : St w S w (HLA h A c pb n k a pl ++ []) := St.start (by rw [List.append_nil]; exact hs)
  have c0 := (hla_h s0).1
  have hcap := hla_cap s0
  unfold maxLen at hcap
  by_cases hk : k = 0
  · subst hk
    obtain ⟨rfl, rfl, rfl⟩ : id = 0 ∧ x = 0 ∧ f = 5 := by
      rcases hf with ⟨_, h1, h2, h3⟩ | ⟨i, h1, _⟩
      · exact ⟨h1, h2, h3⟩
      · rw [ho.of.none i] at h1; cases h1
    clear hf s0 hs ho
    go_enter Try.func18, Try.ntmps18
    go_wp2_with fail
    refine bodyPost_ret (v := .tuple #[.int .i64 0, .int .u64 0, .int .i64 5]) ?_ rfl ⟨rfl, Below.refl _ _⟩
    simp [results, Try.results18, go_sem]
  · obtain ⟨b, off, rfl⟩ := hla_some s0 (by omega)
    have hq := heap_at (b := b) (off := off) s0 (show 0 < k by omega)
    obtain ⟨q0, q1⟩ := hq
    rw [Nat.zero_mul, Nat.add_zero] at q0 q1
    obtain ⟨rfl, rfl, rfl⟩ := hf.uniq (ho.of.first ho.hp (by omega))
    have z0 : ((k : Int) == 0) = false := beq_eq_false_iff_ne.2 (by omega)
    have k0 : (0 : Int) < (k : Int) := by omega
    have k1 : 0 < k := by omega
    generalize a 0 = m at *
    clear hf s0 hs ho hk
    go_enter Try.func18, Try.ntmps18
    go_wp2_with fail
    go_quiet (fail)
    go_wp2_with fail
    refine bodyPost_ret (v := .tuple #[.int .i64 (m.1 : Nat), .int .u64 m.2, .int .i64 0]) ?_ rfl ⟨rfl, below_drewN (Below.refl _ _) _⟩
    simp [results, Try.results18, go_sem]
theorem place_c (s : Star (HLA h A c pb n k a pl) w S) (hn : n ≤ 1000) (id : Int) (p : Int) (hp : p = if 0 ≤ id ∧ id < n then pl id.toNat else -1) :
    Calls Try.prog 23 #[.pointer (some ⟨h, 0, none⟩), .int .i64 id] w fun e w' => e = .returned (.int .i64 p) ∧ w = w' := by
  have s0 : St w S w (HLA h A c pb n k a pl ++ []) := St.start (by rw [List.append_nil]; exact s)
  have c0 := (hla_h s0).2
  by_cases h0 : 0 ≤ id
  · have d0 : decide (id < 0) = false := decide_eq_false (by omega)
    by_cases h1 : id < n
    · have d1 : decide ((n : Int) ≤ id) = false := decide_eq_false (by omega)
      obtain ⟨i, rfl⟩ := Int.eq_ofNat_of_zero_le h0
      have c1 := hla_pl s0 (show i < n by omega)
      obtain rfl : p = pl i := by rw [hp, if_pos ⟨h0, h1⟩]; rfl
      generalize pl i = q at *
      clear s0 s hp
      go_enter Try.func23, Try.ntmps23
      go_wp2_with fail
      go_ret
      exact ⟨rfl, rfl⟩
    · have d1 : decide ((n : Int) ≤ id) = true := decide_eq_true (by omega)
      obtain rfl : p = -1 := by rw [hp, if_neg (fun h => h1 h.2)]
      clear s0 s hp
      go_enter Try.func23, Try.ntmps23
      go_wp2_with fail
      go_ret
      exact ⟨rfl, rfl⟩
  · have d0 : decide (id < 0) = true := decide_eq_true (by omega)
    obtain rfl : p = -1 := by rw [hp, if_neg (fun h => h0 h.1)]
    clear s0 s hp
    go_enter Try.func23, Try.ntmps23
    go_wp2_with fail
    go_ret
    exact ⟨rfl, rfl⟩
/-- A member's key, as it is told. -/
def KeyP (n : Nat) (M : HM) (id x f : Int) : Prop := (∃ i : Nat, id = (i : Int) ∧ M i = some x ∧ f = 0) ∨ ((∀ i : Nat, id = (i : Int) → M i = none) ∧ x = 0 ∧ f = 6)
theorem keyP_ex (n : Nat) (M : HM) (id : Int) : ∃ x f, KeyP n M id x f := by
  by_cases h0 : 0 ≤ id
  · obtain ⟨i, rfl⟩ := Int.eq_ofNat_of_zero_le h0
    cases hm : M i with
    | none => exact ⟨0, 6, Or.inr ⟨fun j hj => by
        have : i = j := by omega
        rw [← this]; exact hm, rfl, rfl⟩⟩
    | some x => exact ⟨x, 0, Or.inl ⟨i, rfl, hm, rfl⟩⟩
  · exact ⟨0, 6, Or.inr ⟨fun j hj => by omega, rfl, rfl⟩⟩
theorem place_no (ho : HOk n k a pl M) {id : Int} (h : ∀ i : Nat, id = (i : Int) → M i = none) : (-1 : Int) = if 0 ≤ id ∧ id < n then pl id.toNat else -1 := by
  by_cases h1 : 0 ≤ id ∧ id < n
  · rw [if_pos h1]
    exact ((ho.noneI (by omega)).1 (h id.toNat (by omega))).symm
  · rw [if_neg h1]
theorem place_yes (ho : HOk n k a pl M) {i : Nat} (hi : i < n) {j : Nat} (hj : pl i = (j : Int)) : (j : Int) = if 0 ≤ (i : Int) ∧ (i : Int) < n then pl (i : Int).toNat else -1 := by
  rw [if_pos ⟨by omega, by omega⟩, Int.toNat_natCast, hj]
theorem Key_c (s : HeapR h n M w S) {id x f : Int} (hf : KeyP n M id x f) :
    Calls Try.prog 19 #[.pointer (some ⟨h, 0, none⟩), .int .i64 id] w fun e w' => e = .returned (.tuple #[.int .u64 x, .int .i64 f]) ∧ w = w' := by
  obtain ⟨A, c, pb, k, a, pl, ho, hs⟩ := s
  have s0 : St w S w (HLA h A c pb n k a pl ++ []) := St.start (by rw [List.append_nil]; exact hs)
  have c0 := (hla_h s0).1
  have hcap := hla_cap s0
  unfold maxLen at hcap
  rcases hf with ⟨i, rfl, hm, rfl⟩ | ⟨hm, rfl, rfl⟩
  · obtain ⟨j, hj, hpl, e⟩ := ho.someI hm
    have PC := Lib.hid (place_c hs ho.n2 (i : Int) (j : Int) (place_yes ho (ho.sup hm) hpl))
    obtain ⟨b, off, rfl⟩ := hla_some s0 (by omega)
    have hq := (heap_at (b := b) (off := off) s0 hj).2
    rw [e] at hq
    have z : ((j : Int) == -1) = false := beq_eq_false_iff_ne.2 (by omega)
    have bj : (j : Int) < (k : Int) := by omega
    clear s0 hs ho hm hpl e
    go_enter Try.func19, Try.ntmps19
    go_wp2_with fail
    refine PC.out.mono ?_
    rintro e w1 ⟨rfl, rfl⟩
    go_wp2_with fail
    go_ret2
    exact ⟨rfl, rfl⟩
  · have PC := Lib.hid (place_c hs ho.n2 id (-1) (place_no ho hm))
    clear s0 hs ho hm
    go_enter Try.func19, Try.ntmps19
    go_wp2_with fail
    refine PC.out.mono ?_
    rintro e w1 ⟨rfl, rfl⟩
    go_wp2_with fail
    go_ret2
    exact ⟨rfl, rfl⟩
end
end Go.Proofs.Ytncoeoccdimgoaa
