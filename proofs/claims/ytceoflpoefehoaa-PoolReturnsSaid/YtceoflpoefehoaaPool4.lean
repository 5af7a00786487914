/- Layer 7: what the statement asks first; what stays true of a pool, whatever is done. -/
import Derived.Test.YtceoflpoefehoaaPool3
import Derived.Test.YtceoflpoefehoaaRd
namespace Go.Proofs.Ytceoflpoefehoaa
open Go.RowKit
set_option linter.unusedVariables false
set_option maxRecDepth 100000
set_option maxHeartbeats 1000000
section
variable {w0 w : World} {S S0 : Nat → Prop} {N L : List Res} {A : Option Addr} {n cap : Nat} {V : Nat → Nat → Value} {Z C : Nat → Int}
theorem rmay_c (rd : RdM w A n 2 V) (hV : Cls V n Z C) (hn : n ≤ maxLen) :
    Calls Try.prog 11 #[.slice A n cap] w fun e w' => ∃ b, e = .returned (.bool b) ∧ (b = true → mayC n Z C) ∧ Below w.heap.size w w' := by
  unfold maxLen at hn
  by_cases h1 : 1 ≤ n
  · have d1 : decide ((n : Int) < 1) = false := decide_eq_false (by omega)
    by_cases h8 : n ≤ 8
    · have d8 : decide (8 < (n : Int)) = false := decide_eq_false (by omega)
      go_enter Try.func11, Try.ntmps11
      go_wp2_with fail
      go_loopw [3] (fun i wr => ∃ k : Nat, k ≤ n ∧ i = .int .i64 k ∧ (∀ j, j < k → okC Z C j) ∧ Below w.heap.size w wr) (fun i _ => n - (intOf i).toNat)
      case atStart => exact ⟨0, by omega, rfl, fun j hj => absurd hj (by omega), Below.refl _ _⟩
      case round =>
        obtain ⟨k, hk, rfl, hok, hbl⟩ := hrel
        by_cases hlt : k < n
        · obtain ⟨v0, v1, bz, bc⟩ := hV k hlt
          obtain ⟨ib, off, rfl, e0, e1⟩ := rd.at2 hbl hlt
          rw [v0] at e0
          rw [v1] at e1
          have BL := Lib.hid hbl
          have HOK := Lib.hid hok
          have prevC : ∀ j, k = j + 1 → wr.cell? ⟨ib, off + j * 2, none⟩ = some (.int .i64 (Z j)) ∧ prevZ Z k = Z j := fun j hj => by
            obtain ⟨u0, u1, -, -⟩ := hV j (by omega)
            obtain ⟨ib', off', he, f0, f1⟩ := rd.at2 hbl (show j < n by omega)
            injection he with he
            injection he with he1 he2
            subst he1 he2
            rw [u0] at f0
            exact ⟨f0, by rw [hj]; rfl⟩
          have PC := Lib.hid prevC
          obtain ⟨z, hz⟩ : ∃ x, Z k = x := ⟨_, rfl⟩
          obtain ⟨cc, hc⟩ : ∃ x, C k = x := ⟨_, rfl⟩
          have HD : okC Z C k ↔ (prevZ Z k < z ∧ z ≤ 65536 ∧ 1 ≤ cc ∧ cc ≤ 100) := by unfold okC; rw [hz, hc]
          have HDD := Lib.hid HD
          have P0 := Lib.hid (fun h : k = 0 => show prevZ Z k = 0 by rw [h]; rfl)
          rw [hz] at e0 bz
          rw [hc] at e1 bc
          clear hok hbl hz hc HD rd hV v0 v1 prevC
          by_cases q1 : 1 ≤ z
          · have z1 : decide (z < 1) = false := decide_eq_false (by omega)
            by_cases q2 : z ≤ 65536
            · have z2 : decide (65536 < z) = false := decide_eq_false (by omega)
              by_cases q3 : 1 ≤ cc
              · have z3 : decide (cc < 1) = false := decide_eq_false (by omega)
                by_cases q4 : cc ≤ 100
                · have z4 : decide (100 < cc) = false := decide_eq_false (by omega)
                  by_cases q5 : k = 0
                  · have z5 : decide (0 < (k : Int)) = false := decide_eq_false (by omega)
                    have z5' : decide (0 < k) = false := decide_eq_false (by omega)
                    have HO2 := Lib.hid (show ∀ j, j < k + 1 → okC Z C j from fun j hj => by
                      by_cases e : j = k
                      · rw [e]; exact HDD.out.2 ⟨by rw [P0.out q5]; omega, q2, q3, q4⟩
                      · exact HOK.out j (by omega))
                    clear q5
                    go_wp2_with fail
                    go_quiet (fail)
                    go_wp2_with fail
                    go_roundw
                    case rel => exact ⟨k + 1, by omega, by go_num, HO2.out, below_drewN BL.out _⟩
                    case measure => simp [intOf]; omega
                  · obtain ⟨j, hj⟩ : ∃ j, k = j + 1 := ⟨k - 1, by omega⟩
                    have z5 : decide (0 < (k : Int)) = true := decide_eq_true (by omega)
                    have z5' : decide (0 < k) = true := decide_eq_true (by omega)
                    obtain ⟨f0, hp⟩ := PC.out j hj
                    have z7 : (k : Int) - 1 = (j : Int) := by omega
                    by_cases q6 : z ≤ Z j
                    · have z6 : decide (z ≤ Z j) = true := decide_eq_true q6
                      generalize Z j = y at *
                      have hjn : (j : Int) < (n : Int) := by omega
                      have hj0 : (0 : Int) ≤ (j : Int) := by omega
                      clear q6 hp hj q5
                      go_wp2_with fail
                      go_quiet (fail)
                      go_wp2_with fail
                      go_ret
                      exact ⟨false, rfl, (fun h => by cases h), below_drewN BL.out _⟩
                    · have z6 : decide (z ≤ Z j) = false := decide_eq_false q6
                      have HO2 := Lib.hid (show ∀ j, j < k + 1 → okC Z C j from fun j' hj' => by
                        by_cases e : j' = k
                        · rw [e]; exact HDD.out.2 ⟨by rw [hp]; omega, q2, q3, q4⟩
                        · exact HOK.out j' (by omega))
                      have HJ := Lib.hid hj
                      generalize Z j = y at *
                      have hjn : (j : Int) < (n : Int) := by omega
                      have hj0 : (0 : Int) ≤ (j : Int) := by omega
                      clear q6 hp hj q5
                      go_wp2_with fail
                      go_quiet (fail)
                      go_wp2_with fail
                      go_roundw
                      case rel => exact ⟨k + 1, by omega, by go_num, HO2.out, below_drewN BL.out _⟩
                      case measure => simp [intOf]; omega
                · have z4 : decide (100 < cc) = true := decide_eq_true (by omega)
                  go_wp2_with fail
                  go_quiet (fail)
                  go_wp2_with fail
                  go_ret
                  exact ⟨false, rfl, (fun h => by cases h), below_drewN BL.out _⟩
              · have z3 : decide (cc < 1) = true := decide_eq_true (by omega)
                go_wp2_with fail
                go_quiet (fail)
                go_wp2_with fail
                go_ret
                exact ⟨false, rfl, (fun h => by cases h), below_drewN BL.out _⟩
            · have z2 : decide (65536 < z) = true := decide_eq_true (by omega)
              go_wp2_with fail
              go_quiet (fail)
              go_wp2_with fail
              go_ret
              exact ⟨false, rfl, (fun h => by cases h), below_drewN BL.out _⟩
          · have z1 : decide (z < 1) = true := decide_eq_true (by omega)
            go_wp2_with fail
            go_quiet (fail)
            go_wp2_with fail
            go_ret
            exact ⟨false, rfl, (fun h => by cases h), below_drewN BL.out _⟩
        · obtain rfl : k = n := by omega
          have HOK := Lib.hid hok
          clear hok
          go_wp2
          go_ret
          exact ⟨true, rfl, fun _ => ⟨⟨h1, h8⟩, HOK.out⟩, hbl⟩
    · have d8 : decide (8 < (n : Int)) = true := decide_eq_true (by omega)
      go_enter Try.func11, Try.ntmps11
      go_wp2
      go_ret
      exact ⟨false, rfl, (fun h => by cases h), Below.refl _ _⟩
  · have d1 : decide ((n : Int) < 1) = true := decide_eq_true (by omega)
    go_enter Try.func11, Try.ntmps11
    go_wp2
    go_ret
    exact ⟨false, rfl, (fun h => by cases h), Below.refl _ _⟩
theorem rsmall_c (rd : RdM w A n 2 V) (hV : Cls V n Z C) (hn : n ≤ maxLen) :
    Calls Try.prog 9 #[.slice A n cap] w fun e w' => ∃ b, e = .returned (.bool b) ∧ Below w.heap.size w w' := by
  unfold maxLen at hn
  go_enter Try.func9, Try.ntmps9
  go_wp2_with fail
  go_loopw [3, 4] (fun nn i wr => ∃ (k : Nat) (x : Int), k ≤ n ∧ nn = .int .i64 x ∧ i = .int .i64 k ∧ Below w.heap.size w wr) (fun _ i _ => n - (intOf i).toNat)
  case atStart => exact ⟨0, 0, by omega, rfl, rfl, Below.refl _ _⟩
  case round =>
    obtain ⟨k, x, hk, rfl, rfl, hbl⟩ := hrel
    by_cases hlt : k < n
    · obtain ⟨v0, v1, bz, bc⟩ := hV k hlt
      obtain ⟨ib, off, rfl, e0, e1⟩ := rd.at2 hbl hlt
      rw [v0] at e0
      rw [v1] at e1
      have BL := Lib.hid hbl
      have RN := Lib.hid (fun (y : Int) => show ∃ (k' : Nat) (x' : Int), k' ≤ n ∧ Value.int IntKind.i64 y = .int .i64 x' ∧ Value.int IntKind.i64 ((k : Int) + 1) = .int .i64 k' ∧ Below w.heap.size w wr from ⟨k + 1, y, by omega, rfl, by go_num, hbl⟩)
      generalize Z k = z at *
      generalize C k = c at *
      clear rd hV v0 v1 bz bc hbl
      obtain ⟨b1, z1⟩ : ∃ b, decide (2000 < z) = b := ⟨_, rfl⟩
      obtain ⟨b2, z2⟩ : ∃ b, decide (z ≤ 65536) = b := ⟨_, rfl⟩
      obtain ⟨b3, z3⟩ : ∃ b, decide (20 < c) = b := ⟨_, rfl⟩
      obtain ⟨b4, z4⟩ : ∃ b, decide (c ≤ 100) = b := ⟨_, rfl⟩
      obtain ⟨b5, z5⟩ : ∃ b, decide (20 < (k : Int)) = b := ⟨_, rfl⟩
      obtain ⟨ok, hok⟩ : ∃ b, ((b1 && b2) || (b3 && b4) || b5) = b := ⟨_, rfl⟩
      cases ok with
      | true =>
        cases b1 <;> cases b2 <;> cases b3 <;> cases b4 <;> cases b5 <;> first
          | (exact absurd hok (by decide))
          | (go_wp2_with fail
             go_ret
             exact ⟨_, rfl, BL.out⟩)
      | false =>
        cases b1 <;> cases b2 <;> cases b3 <;> cases b4 <;> cases b5 <;> first
          | (exact absurd hok (by decide))
          | (go_wp2_with fail
             go_roundw
             case rel => exact RN.out _
             case measure => simp [intOf]; omega)
    · obtain rfl : k = n := by omega
      go_wp2
      go_ret
      exact ⟨_, rfl, hbl⟩
end
section
variable {w0 w : World} {S S0 : Nat → Prop} {N L : List Res} {A : Option Addr} {n cap : Nat} {V : Nat → Nat → Value}
theorem small_c (rd : RdM w A n 6 V) (hV : ∀ j, j < n → ∃ B m c, V j 5 = .slice B m c) (hn : n ≤ maxLen) :
    Calls Try.prog 10 #[.slice A n cap] w fun e w' => ∃ b, e = .returned (.bool b) ∧ Below w.heap.size w w' := by
  unfold maxLen at hn
  go_enter Try.func10, Try.ntmps10
  go_wp2_with fail
  go_loopw [3] (fun i wr => ∃ k : Nat, k ≤ n ∧ k ≤ 120 ∧ i = .int .i64 k ∧ Below w.heap.size w wr) (fun i _ => 120 - (intOf i).toNat)
  case atStart => exact ⟨0, by omega, by omega, rfl, Below.refl _ _⟩
  case round =>
    obtain ⟨k, hk, hk2, rfl, hbl⟩ := hrel
    by_cases hlt : k < n
    · have d0 : decide ((k : Int) < (n : Int)) = true := decide_eq_true (by omega)
      by_cases h120 : k < 120
      · have d1 : decide ((k : Int) < 120) = true := decide_eq_true (by omega)
        obtain ⟨B, m, c, hv⟩ := hV k hlt
        obtain ⟨ib, off, rfl, -, hc⟩ := rd (by omega)
        have e5 : wr.cell? ⟨ib, off + k * 6 + 5, none⟩ = some (.slice B m c) := by
          have h := hc k hlt 5 (by omega)
          rw [hv] at h
          rw [Nat.add_assoc]
          exact (hbl.cell (p := ⟨ib, off + (k * 6 + 5), none⟩) (block_lt h)).trans h
        by_cases q : 2000 < (m : Int)
        · have z1 : decide (2000 < (m : Int)) = true := decide_eq_true q
          go_wp2_with fail
          go_ret
          exact ⟨_, rfl, hbl⟩
        · have z1 : decide (2000 < (m : Int)) = false := decide_eq_false q
          go_wp2_with fail
          go_roundw
          case rel => exact ⟨k + 1, by omega, by omega, by go_num, hbl⟩
          case measure => simp [intOf]; omega
      · have d1 : decide ((k : Int) < 120) = false := decide_eq_false (by omega)
        go_wp2_with fail
        go_ret
        exact ⟨_, rfl, hbl⟩
    · have d0 : decide ((k : Int) < (n : Int)) = false := decide_eq_false (by omega)
      go_wp2_with fail
      go_ret
      exact ⟨_, rfl, hbl⟩
end
/-! ### What stays true -/
/-- Who isn't free has references, and was got as one of these. -/
def Held (n : Nat) (st : Nat → Buf) (all : List (Int × Int)) : Prop := ∀ j, j < n → (st j).owner ≠ 0 → 1 ≤ (st j).refs ∧ ((j : Int), (st j).gen) ∈ all
def LenB (n : Nat) (st : Nat → Buf) (zs : List Nat) : Prop := ∀ j, j < n → (st j).bs.length = zs.getD j 0
structure Good (n : Nat) (st : Nat → Buf) (all : List (Int × Int)) (zs : List Nat) (G : Int) : Prop where
  ok : POK n st G
  held : Held n st all
  len : LenB n st zs
def Tame (B : Buf → Int → Buf → Prop) : Prop := ∀ G b c b', b.ok G → b.owner ≠ 0 → 1 ≤ b.refs → B b c b' → b'.ok (G + 1) ∧ b'.bs.length = b.bs.length ∧ (b'.owner ≠ 0 → 1 ≤ b'.refs ∧ b'.gen = b.gen)
theorem share_t : Tame ShareB := by
  rintro G b c b' ⟨⟨g1, g2⟩, o, r, l⟩ h0 h1 (⟨h, -, rfl⟩ | ⟨h, h2, -, rfl⟩ | ⟨h, h2, -, rfl⟩)
  · exact ⟨⟨⟨g1, by omega⟩, o, r, l⟩, rfl, fun _ => ⟨h1, rfl⟩⟩
  · exact ⟨⟨⟨g1, by omega⟩, o, r, l⟩, rfl, fun _ => ⟨h1, rfl⟩⟩
  · exact ⟨⟨⟨g1, by dsimp only; omega⟩, o, by dsimp only; omega, l⟩, rfl, fun _ => ⟨by dsimp only; omega, rfl⟩⟩
theorem drop_t : Tame DropB := by
  rintro G b c b' ⟨⟨g1, g2⟩, o, r, l⟩ h0 h1 (⟨h, -, rfl⟩ | ⟨h, h2, -, rfl⟩ | ⟨h, h2, -, rfl⟩)
  · exact ⟨⟨⟨g1, by omega⟩, o, r, l⟩, rfl, fun _ => ⟨h1, rfl⟩⟩
  · exact ⟨⟨⟨g1, by dsimp only; omega⟩, o, by dsimp only; omega, l⟩, rfl, fun _ => ⟨by dsimp only; omega, rfl⟩⟩
  · exact ⟨⟨⟨by dsimp only; omega, by dsimp only; omega⟩, by dsimp only; omega, by dsimp only; omega, l⟩, rfl, fun h => absurd rfl h⟩
theorem give_t (a z : Int) : Tame (GiveB a z) := by
  rintro G b c b' ⟨⟨g1, g2⟩, o, r, l⟩ h0 h1 (⟨h, -, rfl⟩ | ⟨h, h2, -, rfl⟩ | ⟨h, h2, -, rfl⟩)
  · exact ⟨⟨⟨g1, by omega⟩, o, r, l⟩, rfl, fun _ => ⟨h1, rfl⟩⟩
  · exact ⟨⟨⟨g1, by omega⟩, o, r, l⟩, rfl, fun _ => ⟨h1, rfl⟩⟩
  · obtain ⟨-, hz, -⟩ := h
    unfold who at hz
    exact ⟨⟨⟨g1, by dsimp only; omega⟩, by dsimp only; omega, r, l⟩, rfl, fun _ => ⟨h1, rfl⟩⟩
theorem Good.more {n : Nat} {st : Nat → Buf} {all all' : List (Int × Int)} {zs : List Nat} {G G' : Int} (h : Good n st all zs G) (ha : ∀ x ∈ all, x ∈ all') (hg : G ≤ G') (hG : G' < 9223372036854775807) : Good n st all' zs G' :=
  ⟨⟨h.ok.n1, h.ok.n2, hG, fun i hi => by obtain ⟨⟨a1, a2⟩, a3⟩ := h.ok.b i hi; exact ⟨⟨a1, by omega⟩, a3⟩⟩, fun j hj ho => ⟨(h.held j hj ho).1, ha _ (h.held j hj ho).2⟩, h.len⟩
theorem Via.good {n : Nat} {st st' : Nat → Buf} {x g c : Int} {B : Buf → Int → Buf → Prop} {all : List (Int × Int)} {zs : List Nat} {G : Int} (h : Via n st x g B c st') (ht : Tame B) (hg : Good n st all zs G) (hG : G + 1 < 9223372036854775807) : Good n st' all zs (G + 1) := by
  rcases h with ⟨-, -, rfl⟩ | ⟨j, b', hj, -, ho, -, hb, rfl⟩
  · exact hg.more (fun _ h => h) (by omega) hG
  · obtain ⟨h1, h2⟩ := hg.held j hj ho
    obtain ⟨t1, t2, t3⟩ := ht G _ _ _ (hg.ok.b j hj) ho h1 hb
    have hm := hg.more (G' := G + 1) (fun _ h => h) (by omega) hG
    refine ⟨⟨hm.ok.n1, hm.ok.n2, hG, fun i hi => ?_⟩, fun i hi hoi => ?_, fun i hi => ?_⟩
    · by_cases e : i = j
      · rw [e, updB_self]; exact t1
      · rw [updB_ne _ _ e]; exact hm.ok.b i hi
    · by_cases e : i = j
      · subst e
        rw [updB_self] at hoi ⊢
        obtain ⟨u1, u2⟩ := t3 hoi
        exact ⟨u1, by rw [u2]; exact h2⟩
      · rw [updB_ne _ _ e] at hoi ⊢; exact hg.held i hi hoi
    · by_cases e : i = j
      · subst e; rw [updB_self, t2]; exact hg.len i hi
      · rw [updB_ne _ _ e]; exact hg.len i hi
theorem GetP.good {n : Nat} {st st' : Nat → Buf} {z x g c : Int} {all : List (Int × Int)} {zs : List Nat} {G : Int} (h : GetP n st z x g c st') (hg : Good n st all zs G) (hG : G + 1 < 9223372036854775807) :
    (c ≠ 0 ∧ Good n st' all zs (G + 1)) ∨ (c = 0 ∧ Good n st' (all ++ [(x, g)]) zs (G + 1)) := by
  rcases h with ⟨-, -, -, rfl, rfl⟩ | ⟨-, -, -, -, rfl, rfl⟩ | ⟨-, i, hi, -, hf, rfl, rfl, rfl, rfl⟩
  · exact Or.inl ⟨by omega, hg.more (fun _ h => h) (by omega) hG⟩
  · exact Or.inl ⟨by omega, hg.more (fun _ h => h) (by omega) hG⟩
  · refine Or.inr ⟨rfl, ?_⟩
    have hm := hg.more (G' := G + 1) (all' := all ++ [((i : Int), (st i).gen)]) (fun x h => by simp [h]) (by omega) hG
    refine ⟨⟨hm.ok.n1, hm.ok.n2, hG, fun j hj => ?_⟩, fun j hj hoj => ?_, fun j hj => ?_⟩
    · by_cases e : j = i
      · rw [e, updB_self]
        obtain ⟨a1, a2, a3, a4⟩ := hm.ok.b i hi
        exact ⟨a1, by show (0 : Int) ≤ 1 ∧ (1 : Int) ≤ 3; omega, by show (0 : Int) ≤ 1 ∧ (1 : Int) ≤ 100; omega, by simpa [got] using a4⟩
      · rw [updB_ne _ _ e]; exact hm.ok.b j hj
    · by_cases e : j = i
      · subst e
        rw [updB_self]
        exact ⟨Int.le_refl _, by simp [got]⟩
      · rw [updB_ne _ _ e] at hoj ⊢; exact hm.held j hj hoj
    · by_cases e : j = i
      · subst e; rw [updB_self]; simpa [got] using hg.len j hj
      · rw [updB_ne _ _ e]; exact hg.len j hj
theorem write_t (by' at' : Int) (xs : List Int) : Tame (WriteB by' at' xs) := by
  intro G b c b' hb h0 h1 h
  obtain ⟨⟨g1, g2⟩, o, r, l⟩ := hb
  rcases h with ⟨h, -, rfl⟩ | ⟨h, h2, -, rfl⟩ | ⟨h, h2, h3, -, rfl⟩ | ⟨h, h2, h3, -, rfl⟩
  · exact ⟨⟨⟨g1, by omega⟩, o, r, l⟩, rfl, fun _ => ⟨h1, rfl⟩⟩
  · exact ⟨⟨⟨g1, by omega⟩, o, r, l⟩, rfl, fun _ => ⟨h1, rfl⟩⟩
  · exact ⟨⟨⟨g1, by omega⟩, o, r, l⟩, rfl, fun _ => ⟨h1, rfl⟩⟩
  · unfold fits at h3
    have e : (b.bs.take at'.toNat ++ (xs ++ b.bs.drop (at'.toNat + xs.length))).length = b.bs.length := by
      simp only [List.length_append, List.length_take, List.length_drop]
      omega
    exact ⟨⟨⟨g1, by dsimp only; omega⟩, o, r, by dsimp only; omega⟩, e, fun _ => ⟨h1, rfl⟩⟩
end Go.Proofs.Ytceoflpoefehoaa
