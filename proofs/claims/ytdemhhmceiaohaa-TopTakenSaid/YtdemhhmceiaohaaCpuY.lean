/- Layer 17: a processor's calls, with what was done up to now. Layer 17: the answers that the document fixes. Layer 17: whether tasks and loads may be, as the document says; more of the answers. Layer 17: servers that run: how often, how long work lasts. Plain theorems. Layer 17: a processor all of whose tasks have answer times: no tick tells of a job that missed its time. -/
import Derived.Test.YtdemhhmceiaohaaCpuR
import Derived.Test.YtdemhhmceiaohaaSchZ
import Derived.Test.YtdemhhmceiaohaaRtaZ
namespace Go.Proofs.Ytdemhhmceiaohaa
open Go.RowKit
section
set_option linter.unusedVariables false
set_option maxRecDepth 100000
set_option maxHeartbeats 2000000
theorem St.left {w0 w : World} {S0 : Nat → Prop} {A B : List Res} (h : St w0 S0 w (A ++ B)) : St w0 S0 w A := by
  have k := h.take A.length
  rwa [List.take_left'] at k
  rfl
/-- What Release leaves. -/
structure RelG (p : Pl) (W : Nat → Wk) (S : Nat → Ld) (t : Nat) (T : Nat → CTk) (V : Nat → Sv) (s : QS) (h : Nat → Int) (r b : Nat → Nat → Bool) (id dem f : Int) (T' : Nat → CTk) (s' : QS) (r' : Nat → Nat → Bool) : Prop where
  fe : f = relA p.n T t id dem
  G : Gh p.n p.m W S t T' V s' h r' b
  no : f ≠ 0 → T' = T ∧ s' = s ∧ r' = r
  yes : f = 0 → 0 < dem ∧ 0 ≤ id ∧ id.toNat < p.n ∧ (T id.toNat).there = false ∧ ((T id.toNat).began = true → (T id.toNat).per ≤ (t : Int) - (T id.toNat).rel) ∧ T' = updK T id.toNat (relT (T id.toNat) t dem) ∧ s' = s.come id.toNat (T id.toNat).prio.toNat ∧ r' = fun i => if i = id.toNat then also (r id.toNat) t true else r i
section
variable {w0 w : World} {S0 : Nat → Prop} {X : List Res} {p : Pl} {T T' : Nat → CTk} {V V' : Nat → Sv} {t : Nat} {id dem : Int} {s s' : QS} {W : Nat → Wk} {S : Nat → Ld} {h : Nat → Int} {r b : Nat → Nat → Bool}
theorem gTick (G : Gh p.n p.m W S t T V s h r b) (H : St w0 S0 w (CpuL p T V t s ++ X)) (h1 : t < 4611686018427387903) :
    Calls Try.prog 12 #[.pointer (some ⟨p.c, 0, none⟩)] w fun e w' => ∃ who ld lc T' V' s' D cd C cc M cm nd nc nm, TickP p.n p.m T V t s who ld lc T' V' s' ∧ Gh p.n p.m W S (t + 1) T' V' s' (putH h t who) r (putP T' b (t + 1)) ∧ ld.length = nd ∧ lc.length = nc ∧ (misL T' ((t + 1 : Nat) : Int) p.n).length = nm ∧
      e = .returned (.tuple #[.agg #[.int .i64 who, .slice D nd cd, .slice C nc cc, .slice M nm cm], .int .i64 0]) ∧ St w0 S0 w' (CpuL p T' V' ((t + 1 : Nat) : Int) s' ++ X) := by
  refine (cTick_c H (by have := G.n1; omega) (by have := G.m1; omega) (by omega) (by omega) G.so G.q G.linked).mono ?_
  rintro e w' ⟨who, ld, lc, T', V', s', hP, D, cd, C, cc, M, cm, he, hs⟩
  exact ⟨who, ld, lc, T', V', s', D, cd, C, cc, M, cm, _, _, _, hP, G.tick hP, rfl, rfl, rfl, he, hs.comm.left⟩
theorem relA_cases (n : Nat) (T : Nat → CTk) (now id dem : Int) : relA n T now id dem = 0 ∨ relA n T now id dem = 1 ∨ relA n T now id dem = 2 ∨ relA n T now id dem = 11 ∨ relA n T now id dem = 12 := by
  unfold relA
  split
  · exact Or.inr (Or.inl rfl)
  · split
    · exact Or.inr (Or.inr (Or.inr (Or.inr rfl)))
    · split
      · exact Or.inr (Or.inr (Or.inr (Or.inl rfl)))
      · split
        · exact Or.inr (Or.inr (Or.inl rfl))
        · exact Or.inl rfl
theorem gRelease (G : Gh p.n p.m W S t T V s h r b) (H : St w0 S0 w (CpuL p T V t s ++ X)) (hd : 0 ≤ dem) (h1 : t < 4611686018427387904) :
    Calls Try.prog 9 #[.pointer (some ⟨p.c, 0, none⟩), .int .i64 id, .int .u64 dem] w fun e w' => ∃ f T' s' r', RelG p W S t T V s h r b id dem f T' s' r' ∧ e = .returned (.int .i64 f) ∧ St w0 S0 w' (CpuL p T' V t s' ++ X) := by
  by_cases hf : relA p.n T t id dem = 0
  · have hf0 := hf
    unfold relA at hf
    split at hf
    · exact absurd hf (by decide)
    · rename_i c1
      split at hf
      · exact absurd hf (by decide)
      · rename_i c2
        split at hf
        · exact absurd hf (by decide)
        · rename_i c3
          split at hf
          · exact absurd hf (by decide)
          · rename_i c4
            obtain ⟨j, rfl⟩ : ∃ j : Nat, id = (j : Int) := ⟨id.toNat, by omega⟩
            rw [Int.toNat_natCast] at c2 c3 c4
            have hj : j < p.n := by omega
            have c2 : (T j).there = false := by cases hc : (T j).there with
              | false => rfl
              | true => exact absurd hc c2
            have c3 : (T j).began = true → (T j).per ≤ (t : Int) - (T j).rel := fun hb => by
              rcases Int.lt_or_le ((t : Int) - (T j).rel) (T j).per with hl | hl
              · exact absurd ⟨hb, hl⟩ c3
              · exact hl
            have hno : s.pr j = none := by
              cases hc : s.pr j with
              | none => rfl
              | some a => have := ((G.link j a).1 hc).2.1; rw [c2] at this; cases this
            have hw := (G.ws j hj).1
            have hok := (G.wok j hj).1
            have n1 := G.n1
            have hC : ComeP s (j : Int) (T j).prio 0 (s.come j (T j).prio.toNat) := Or.inr (Or.inr ⟨⟨by omega, by omega⟩, by rw [Int.toNat_natCast]; exact hno, rfl, by rw [Int.toNat_natCast]⟩)
            refine (cRelease_ok H hj (by omega) c2 c3 (by omega) (G.tkok hj) (by omega) (by omega) G.q hC).mono ?_
            rintro e w' ⟨he, hs⟩
            refine ⟨0, _, _, _, ⟨hf0.symm, G.release hj dem c2 c3, fun hne => absurd rfl hne, fun _ => ?_⟩, he, hs⟩
            simp only [Int.toNat_natCast]
            exact ⟨by omega, by omega, hj, c2, c3, by first | rfl | trivial, by first | rfl | trivial, by first | rfl | trivial⟩
  · refine (cRelease_no H rfl hf (fun j hj => G.tkok hj) (by omega) (by omega) hd).mono ?_
    rintro e w' ⟨he, hs⟩
    exact ⟨_, T, s, r, ⟨rfl, G, fun _ => ⟨rfl, rfl, rfl⟩, fun h0 => absurd h0 hf⟩, he, hs⟩
theorem gWake (G : Gh p.n p.m W S t T V s h r b) (H : St w0 S0 w (CpuL p T V t s ++ X)) (hd : 0 ≤ dem) :
    Calls Try.prog 10 #[.pointer (some ⟨p.c, 0, none⟩), .int .i64 id, .int .u64 dem] w fun e w' => Gh p.n p.m W S t T (wakeV p.m V id dem) s h r b ∧ e = .returned (.int .i64 (wakeA p.m id)) ∧ St w0 S0 w' (CpuL p T (wakeV p.m V id dem) t s ++ X) :=
  (cWake_c H (fun j hj => ⟨(G.so j hj).w0, (G.so j hj).w1⟩) hd).mono fun e w' hh => ⟨G.wakeV id dem hd, hh.1, hh.2⟩
end
end
section
set_option linter.unusedVariables false
set_option maxRecDepth 100000
set_option maxHeartbeats 2000000
theorem blk_ts1 {w : World} {g : Nat} {t : TypeId} {a : Wk} {T : Nat → Wk} (h : Blk w g t #[.int .i64 a.prio, .int .u64 a.cost, .int .u64 a.per, .int .u64 a.dead]) (h0 : T 0 = a) : Ts w (some ⟨g, 0, none⟩) 1 T :=
  fun _ => ⟨g, 0, rfl, h.lt, fun j hj i hi => by
    rw [Nat.zero_add, h.cell]
    match j, hj, i, hi with
    | 0, _, 0, _ | 0, _, 1, _ | 0, _, 2, _ | 0, _, 3, _ => subst h0; rfl⟩
theorem blk_ls1 {w : World} {g : Nat} {t : TypeId} {a : Ld} {S : Nat → Ld} (h : Blk w g t #[.int .i64 a.b, .int .u64 a.per]) (h0 : S 0 = a) : Ls w (some ⟨g, 0, none⟩) 1 S :=
  fun _ => ⟨g, 0, rfl, h.lt, fun j hj i hi => by
    rw [Nat.zero_add, h.cell]
    match j, hj, i, hi with
    | 0, _, 0, _ | 0, _, 1, _ => subst h0; rfl⟩
theorem ls_none (w : World) (S : Nat → Ld) : Ls w none 0 S := fun h => absurd h (by omega)
theorem ts_none (w : World) (T : Nat → Wk) : Ts w none 0 T := fun h => absurd h (by omega)
theorem lok_none (S : Nat → Ld) : LOK 0 S := ⟨by omega, fun j hj => absurd hj (by omega)⟩
theorem tok_none (T : Nat → Wk) : TOK 0 T := ⟨by omega, fun j hj => absurd hj (by omega)⟩
theorem ltyped_none (S : Nat → Ld) : LTyped 0 S := fun j hj => absurd hj (by omega)
theorem LOK.typed {m : Nat} {S : Nat → Ld} (h : LOK m S) : LTyped m S := fun j hj => by
  obtain ⟨o1, o2, o3, o4⟩ := h.2 j hj
  exact ⟨⟨by omega, by omega⟩, by omega, by omega⟩
theorem Gh.anew {n m : Nat} {W : Nat → Wk} {S : Nat → Ld} {V : Nat → Sv} (hT : TOK n W) (hS : LOK m S) (hV : ∀ k, k < m → asS (V k) (S k) ∧ (V k).work = 0 ∧ (V k).xs = [] ∧ (V k).N = 0) :
    Gh n m W S 0 (fun j => tk0 (W j)) V QS.new (fun _ => -1) (fun _ _ => false) (fun _ _ => false) :=
  Gh.new hT.1 hS.1 hT.2 hS.2 (fun j hj => ⟨⟨rfl, rfl, rfl, rfl⟩, rfl, rfl, rfl⟩) hV
section
variable {n m : Nat} {T T' : Nat → CTk} {V V' : Nat → Sv} {now who : Int} {s s' : QS} {ld lc : List Nat}
/-- The first server can run: it does. -/
theorem tick_serve (h : TickP n m T V now s who ld lc T' V' s') (hm : 0 < m) (hc : canS (V 0) now) :
    who = 100 ∧ ld = [] ∧ lc = [] ∧ T' = T ∧ s' = s ∧ (V' 0).work = (V 0).work - 1 ∧ (V' 0).B = (V 0).B ∧ (V' 0).P = (V 0).P ∧ (V' 0).xs = notBack now (V 0).xs ++ [now + (V 0).P] := by
  rcases h with ⟨k, hk, hcan, hno, rfl, rfl, rfl, rfl, rfl, hV⟩ | ⟨hno, _⟩
  · obtain rfl : k = 0 := by
      rcases Nat.eq_zero_or_pos k with h | h
      · exact h
      · exact absurd hc (hno 0 h)
    have e : seenV V now (0 + 1) 0 = seenS (V 0) now := if_pos ⟨by omega, hc.1⟩
    rw [hV, updK_self, e]
    refine ⟨rfl, rfl, rfl, rfl, rfl, rfl, rfl, rfl, ?_⟩
    show useL (V 0).B (V 0).P now (notBack now (V 0).xs) = _
    unfold useL
    rw [notBack_twice, if_pos hc.2]
  · exact absurd hc (hno 0 hm)
/-- No server can run: the first task, if there is one. -/
theorem tick_task (h : TickP n m T V now s who ld lc T' V' s') (hno : ∀ j, j < m → ¬ canS (V j) now) :
    V' = seenV V now m ∧ ((∃ x t, s.all = x :: t ∧ x.1 < n ∧ (T x.1).there = true ∧ who = (x.1 : Int) ∧ T' = updK T x.1 (runT (T x.1)) ∧ s' = (if overT (T x.1) = true then s.go x.1 else s) ∧ ld = doneL (T x.1) x.1 ∧ lc = cutL (T x.1) x.1) ∨
     (s.all = [] ∧ who = -1 ∧ ld = [] ∧ lc = [] ∧ T' = T ∧ s' = s)) := by
  rcases h with ⟨k, hk, hcan, _⟩ | ⟨_, h2, h3⟩
  · exact absurd hcan (hno k hk)
  · exact ⟨h2, h3⟩
/-- One task alone, that is there, runs. -/
theorem tick_one {W : Nat → Wk} {S : Nat → Ld} {t : Nat} {h : Nat → Int} {r b : Nat → Nat → Bool} (G : Gh 1 m W S t T V s h r b) (hP : TickP 1 m T V t s who ld lc T' V' s') (hno : ∀ j, j < m → ¬ canS (V j) t) (hth : (T 0).there = true) :
    V' = seenV V t m ∧ who = 0 ∧ T' = updK T 0 (runT (T 0)) ∧ ld = doneL (T 0) 0 ∧ lc = cutL (T 0) 0 := by
  obtain ⟨h2, h3⟩ := tick_task hP hno
  rcases h3 with ⟨x, l, hall, hx, _, rfl, rfl, _, rfl, rfl⟩ | ⟨hall, _⟩
  · obtain ⟨x1, x2⟩ := x
    obtain rfl : x1 = 0 := by dsimp only at hx; omega
    exact ⟨h2, rfl, rfl, rfl, rfl⟩
  · have hw := (G.ws 0 (by omega)).1
    have hok := (G.wok 0 (by omega)).1
    have hp : s.pr 0 = some (T 0).prio.toNat := (G.link 0 _).2 ⟨by omega, hth, by omega⟩
    have := (G.q.all_mem (x := (0, (T 0).prio.toNat))).2 hp
    rw [hall] at this; cases this
/-- One task alone, that isn't there: nobody runs. -/
theorem tick_none {W : Nat → Wk} {S : Nat → Ld} {t : Nat} {h : Nat → Int} {r b : Nat → Nat → Bool} (G : Gh n m W S t T V s h r b) (hP : TickP n m T V t s who ld lc T' V' s') (hno : ∀ j, j < m → ¬ canS (V j) t) (hth : ∀ j, j < n → (T j).there = false) :
    V' = seenV V t m ∧ who = -1 ∧ ld = [] ∧ lc = [] ∧ T' = T ∧ s' = s := by
  obtain ⟨h2, h3⟩ := tick_task hP hno
  rcases h3 with ⟨x, l, hall, hx, h4, _⟩ | h3
  · rw [hth x.1 hx] at h4; cases h4
  · exact ⟨h2, h3.2⟩
end
end
section
set_option linter.unusedVariables false
set_option maxRecDepth 100000
set_option maxHeartbeats 2000000
section
variable {w0 w : World} {A B : Option Addr} {n m cap capB : Nat} {T : Nat → Wk} {S : Nat → Ld}
end
/-- Released for the first time. -/
theorem relA_first {n : Nat} {T : Nat → CTk} {t dem : Int} {j : Nat} (hj : j < n) (h0 : (T j).there = false) (h1 : (T j).began = true → (T j).per ≤ t - (T j).rel) (h2 : t + (T j).dead < 4611686018427387904) (hd : dem ≠ 0) : relA n T t (j : Int) dem = 0 := by
  unfold relA
  rw [Int.toNat_natCast, if_neg (by omega), if_neg (by rw [h0]; decide), if_neg (fun h => by have := h1 h.1; omega), if_neg (by omega)]
theorem relA_there {n : Nat} {T : Nat → CTk} {t dem : Int} {j : Nat} (hj : j < n) (h0 : (T j).there = true) (hd : dem ≠ 0) : relA n T t (j : Int) dem = 12 := by
  unfold relA
  rw [Int.toNat_natCast, if_neg (by omega), if_pos h0]
theorem relA_soon {n : Nat} {T : Nat → CTk} {t dem : Int} {j : Nat} (hj : j < n) (h0 : (T j).there = false) (h1 : (T j).began = true) (h2 : t - (T j).rel < (T j).per) (hd : dem ≠ 0) : relA n T t (j : Int) dem = 11 := by
  unfold relA
  rw [Int.toNat_natCast, if_neg (by omega), if_neg (by rw [h0]; decide), if_pos ⟨h1, h2⟩]
theorem jobA_no {n : Nat} {T : Nat → CTk} {j : Nat} (h : (T j).there = false) : jobA n T (j : Int) = (0, 0, false) := by
  unfold jobA; rw [Int.toNat_natCast, if_neg (by rw [h]; simp)]
theorem jobA_yes {n : Nat} {T : Nat → CTk} {j : Nat} (hj : j < n) (h : (T j).there = true) : jobA n T (j : Int) = ((T j).ran, (T j).unt, true) := by
  unfold jobA; rw [Int.toNat_natCast, if_pos ⟨by omega, by omega, h⟩]
/-- A processor in memory beside what was there. -/
theorem St.cpu {w0 w w' : World} {S0 : Nat → Prop} {L : List Res} {C : List Res} (H : St w0 S0 w L) (K : St w None w' (C ++ [])) : St w0 S0 w' (C ++ L) := by
  have h := (H.join K).comm
  rwa [List.append_nil] at h
theorem misL_one (T : Nat → CTk) (now : Int) (h : (T 0).there = true → (T 0).unt ≠ now) : misL T now 1 = [] := by
  unfold misL
  refine List.filter_eq_nil_iff.2 fun i hi hb => ?_
  obtain rfl : i = 0 := by simpa using hi
  unfold misB at hb
  rw [Bool.and_eq_true] at hb
  exact h hb.1 (beq_iff_eq.1 hb.2)
end
section
set_option linter.unusedVariables false
theorem cntL_tUp {f : Nat → Bool} {P B : Int} (hP : 1 ≤ P) (hB : 0 ≤ B) (h : ∀ s, cntL f s P.toNat ≤ B.toNat) (a L : Nat) : (cntL f a L : Int) ≤ (upN L P.toNat : Int) * B := by
  have h1 := cntL_span (P := P.toNat) (B := B.toNat) (by omega) h a L
  have h2 : ((upN L P.toNat * B.toNat : Nat) : Int) = (upN L P.toNat : Int) * B := by rw [Int.natCast_mul, Int.toNat_of_nonneg hB]
  omega
section
variable {n m : Nat} {W : Nat → Wk} {S : Nat → Ld} {t : Nat} {T T' : Nat → CTk} {V V' : Nat → Sv} {s s' : QS} {h : Nat → Int} {r b : Nat → Nat → Bool} {who : Int} {ld lc : List Nat}
/-- Of servers alone: one that can run does; else nobody. -/
theorem tick_servers (hP : TickP 0 m T V t s who ld lc T' V' s') (hq : s.all = []) :
    ld = [] ∧ lc = [] ∧ T' = T ∧ s' = s ∧ ((∃ k, k < m ∧ canS (V k) t ∧ who = 100 + (k : Int) ∧ V' = updK (seenV V t (k + 1)) k (serveS (seenV V t (k + 1) k) t)) ∨ ((∀ j, j < m → ¬ canS (V j) t) ∧ who = -1 ∧ V' = seenV V t m)) := by
  rcases hP with ⟨k, hk, hcan, hno, rfl, rfl, rfl, rfl, rfl, hV⟩ | ⟨hno, hV, ⟨x, l, hall, hx, _⟩ | ⟨hall, rfl, rfl, rfl, rfl, rfl⟩⟩
  · exact ⟨rfl, rfl, rfl, rfl, Or.inl ⟨k, hk, hcan, rfl, hV⟩⟩
  · rw [hq] at hall; cases hall
  · exact ⟨rfl, rfl, rfl, rfl, Or.inr ⟨hno, rfl, hV⟩⟩
theorem serve_work {k : Nat} (hV : V' = updK (seenV V t (k + 1)) k (serveS (seenV V t (k + 1) k) t)) (j : Nat) : (V' j).work = (V j).work - (if j = k then 1 else 0) := by
  rw [hV]
  by_cases e : j = k
  · subst e
    rw [updK_self, if_pos rfl]
    rcases seenV_cases V t (j + 1) j with e | e <;> rw [e] <;> rfl
  · rw [updK_ne _ _ e, if_neg e]
    rcases seenV_cases V t (k + 1) j with e | e <;> rw [e] <;> simp [seenS]
theorem seen_work {k : Nat} (hV : V' = seenV V t k) (j : Nat) : (V' j).work = (V j).work := by
  rw [hV]; rcases seenV_cases V t k j with e | e <;> rw [e] <;> rfl
end
end
section
set_option linter.unusedVariables false
set_option maxRecDepth 100000
set_option maxHeartbeats 1000000
theorem ldl_load (S : Nat → Ld) (R : Nat) : ∀ m, tkn (ldl S m) R = loadN S m R
  | 0 => rfl
  | m + 1 => by rw [ldl_one, ldl_load S R m]; rfl
theorem aht_sum (T : Nat → Wk) (i R : Nat) : ∀ n, tkn (aht T i n) R = sumN (fun j => if j ≠ i ∧ lev T i j then upN R (T j).per.toNat * (T j).cost.toNat else 0) n
  | 0 => rfl
  | n + 1 => by
    simp only [aht, tkn_app, sumN]
    rw [aht_sum T i R n]
    congr 1
    unfold lev
    split
    · simp [tkn, wkt]
    · rfl
theorem fx_want (T : Nat → Wk) (S : Nat → Ld) (n m i R : Nat) : Fx (T i).cost.toNat (whoL T S n m i) R = wantN T S n m i R := by
  unfold Fx whoL wantN
  rw [tkn_app, ldl_load, aht_sum]; omega
/-- Each has an answer time. -/
def Timely (n m : Nat) (W : Nat → Wk) (S : Nat → Ld) (Rf : Nat → Nat) : Prop := ∀ i, i < n → 1 ≤ Rf i ∧ (Rf i : Int) ≤ (W i).dead ∧ wantN W S n m i (Rf i) = Rf i
theorem timely_of {n m : Nat} {W : Nat → Wk} {S : Nat → Ld} (h : allO n W m S) (hT : TOK n W) (hS : LOK m S) : ∃ Rf, Timely n m W S Rf := by
  obtain ⟨Rf, hR⟩ := Go.Deep.choose_lt (n := n) (p := fun i (R : Nat) => 1 ≤ R ∧ (R : Int) ≤ (W i).dead ∧ Fx (W i).cost.toNat (whoL W S n m i) R = R) (fun i hi => allO_time h hT hS hi)
  exact ⟨Rf, fun i hi => ⟨(hR i hi).1, (hR i hi).2.1, by rw [← fx_want]; exact (hR i hi).2.2⟩⟩
/-- A processor whose tasks are in time. -/
def CG (w0 : World) (S0 : Nat → Prop) (X : List Res) (p : Pl) (W : Nat → Wk) (S : Nat → Ld) (Rf : Nat → Nat) (t : Nat) (w : World) : Prop :=
  ∃ T V s h r b, Gh p.n p.m W S t T V s h r b ∧ (∀ i, i < p.n → Busy p.n p.m W t h b i (Rf i)) ∧ St w0 S0 w (CpuL p T V (t : Int) s ++ X)
section
variable {w0 w : World} {S0 : Nat → Prop} {X : List Res} {p : Pl} {W : Nat → Wk} {S : Nat → Ld} {Rf : Nat → Nat} {t : Nat} {id dem : Int}
theorem cg_tick (hR : Timely p.n p.m W S Rf) (h : CG w0 S0 X p W S Rf t w) (h1 : t < 4611686018427387903) :
    Calls Try.prog 12 #[.pointer (some ⟨p.c, 0, none⟩)] w fun e w' => ∃ who D cd C cc M cm nd nc, e = .returned (.tuple #[.agg #[.int .i64 who, .slice D nd cd, .slice C nc cc, .slice M 0 cm], .int .i64 0]) ∧ CG w0 S0 X p W S Rf (t + 1) w' := by
  obtain ⟨T, V, s, h, r, b, G, B, H⟩ := h
  refine (gTick G H h1).mono ?_
  rintro e w' ⟨who, ld, lc, T', V', s', D, cd, C, cc, M, cm, nd, nc, nm, hP, hG2, -, -, hnm, rfl, hK2⟩
  have B2 : ∀ i, i < p.n → Busy p.n p.m W (t + 1) (putH h t who) (putP T' b (t + 1)) i (Rf i) := fun i hi => (B i hi).tick G hP hi (hR i hi).1 (hR i hi).2.1 (hR i hi).2.2
  obtain rfl : nm = 0 := by rw [← hnm, misL_none hG2 (fun i hi => (hR i hi).2.1) B2]; rfl
  exact ⟨who, D, cd, C, cc, M, cm, nd, nc, rfl, T', V', s', _, _, _, hG2, B2, hK2⟩
theorem relA_12 {n : Nat} {T : Nat → CTk} {now id dem : Int} (h : relA n T now id dem = 12) : ∃ j : Nat, id = (j : Int) ∧ j < n ∧ (T j).there = true := by
  unfold relA at h
  split at h
  · exact absurd h (by decide)
  · split at h
    · rename_i h1 h2
      exact ⟨id.toNat, by omega, by omega, h2⟩
    · split at h
      · exact absurd h (by decide)
      · split at h <;> exact absurd h (by decide)
/-- Release: if its job is said to be there, it is. -/
def RelQ (w0 : World) (S0 : Nat → Prop) (X : List Res) (p : Pl) (W : Nat → Wk) (S : Nat → Ld) (Rf : Nat → Nat) (t : Nat) (id : Int) (f : Int) (w : World) : Prop :=
  f ≠ 12 ∧ CG w0 S0 X p W S Rf t w ∨ f = 12 ∧ CG w0 S0 X p W S Rf t w ∧ Calls Try.prog 11 #[.pointer (some ⟨p.c, 0, none⟩), .int .i64 id] w fun e w' => ∃ a c, e = .returned (.tuple #[.int .u64 a, .int .u64 c, .bool true]) ∧ CG w0 S0 X p W S Rf t w'
theorem cg_release (h : CG w0 S0 X p W S Rf t w) (hd : 0 ≤ dem) (h1 : t < 4611686018427387904) :
    Calls Try.prog 9 #[.pointer (some ⟨p.c, 0, none⟩), .int .i64 id, .int .u64 dem] w fun e w' => ∃ f, e = .returned (.int .i64 f) ∧ RelQ w0 S0 X p W S Rf t id f w' := by
  obtain ⟨T, V, s, h, r, b, G, B, H⟩ := h
  refine (gRelease G H hd h1).mono ?_
  rintro e w' ⟨f, T', s', r', hR, rfl, hK⟩
  refine ⟨f, rfl, ?_⟩
  by_cases hf : f = 12
  · have G' := hR.G
    refine Or.inr ⟨hf, ⟨T', V, s', h, r', b, G', B, hK⟩, ?_⟩
    have hr := hR.fe
    rw [hf] at hr
    obtain ⟨j, hj, hjn, hth⟩ := relA_12 hr.symm
    obtain ⟨hT, hs, hr'⟩ := hR.no (by omega)
    have G' := hR.G
    rw [hj]
    refine (cJob_c (id := (j : Int)) hK).mono ?_
    rintro e w2 ⟨he, hK2⟩
    rw [jobA_yes hjn (by rw [hT]; exact hth)] at he
    exact ⟨_, _, he, T', V, s', h, r', b, G', B, hK2⟩
  · exact Or.inl ⟨hf, T', V, s', h, r', b, hR.G, B, hK⟩
theorem cg_wake (h : CG w0 S0 X p W S Rf t w) (hd : 0 ≤ dem) :
    Calls Try.prog 10 #[.pointer (some ⟨p.c, 0, none⟩), .int .i64 id, .int .u64 dem] w fun e w' => e = .returned (.int .i64 (wakeA p.m id)) ∧ CG w0 S0 X p W S Rf t w' := by
  obtain ⟨T, V, s, h, r, b, G, B, H⟩ := h
  refine (gWake G H hd).mono ?_
  rintro e w' ⟨hG, he, hK⟩
  exact ⟨he, T, _, s, h, r, b, hG, B, hK⟩
theorem CG.below (h : CG w0 None X p W S Rf t w) : Below w0.heap.size w0 w := by
  obtain ⟨T, V, s, h, r, b, G, B, H⟩ := h
  exact H.below
theorem CG.stay {w' : World} (h : CG w0 S0 X p W S Rf t w) (hb : Below w.heap.size w w') : CG w0 S0 X p W S Rf t w' := by
  obtain ⟨T, V, s, h, r, b, G, B, H⟩ := h
  exact ⟨T, V, s, h, r, b, G, B, H.stay hb⟩
theorem CG.box (h : CG w0 S0 X p W S Rf t w) (ty : TypeId) (cs : Array Value) : CG w0 S0 (X ++ [BlkR w.heap.size ty cs]) p W S Rf t (w.alloc (.cells cs ty)) := by
  obtain ⟨T, V, s, h, r, b, G, B, H⟩ := h
  have H2 := H.box ty cs
  rw [List.append_assoc] at H2
  exact ⟨T, V, s, h, r, b, G, B, H2⟩
theorem CG.less {Y : List Res} (h : CG w0 S0 (X ++ Y) p W S Rf t w) : CG w0 S0 X p W S Rf t w := by
  obtain ⟨T, V, s, h, r, b, G, B, H⟩ := h
  rw [← List.append_assoc] at H
  exact ⟨T, V, s, h, r, b, G, B, H.left⟩
theorem CG.blk {g : Nat} {ty : TypeId} {cs : Array Value} (h : CG w0 S0 X p W S Rf t w) (i : Nat) (hi : X[i]? = some (BlkR g ty cs)) : Blk w g ty cs := by
  obtain ⟨T, V, s, h, r, b, G, B, H⟩ := h
  refine H.blk ((CpuL p T V (t : Int) s).length + i) ?_
  rw [List.getElem?_append_right (by omega), Nat.add_sub_cancel_left]
  exact hi
end
end
end Go.Proofs.Ytdemhhmceiaohaa
