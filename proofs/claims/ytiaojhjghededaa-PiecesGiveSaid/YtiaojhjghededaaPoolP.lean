/- Layer 7: a pool's calls among other things; what the document fixes. -/
import Derived.Test.YtiaojhjghededaaPoolO
namespace Go.Proofs.Ytiaojhjghededaa
open Go.RowKit
set_option linter.unusedVariables false
set_option maxRecDepth 100000
set_option maxHeartbeats 1000000
theorem Via.le {G : Int} {n : Nat} {st st' : Nat → Buf} {x g c : Int} {B : Buf → Int → Buf → Prop} (h : Via n st x g B c st') (ok : POK n st G) {G' : Int} (hg : G ≤ G') (hG : G' < 9223372036854775807) (hB : ∀ b c b', b.ok G → b.owner ≠ 0 → B b c b' → b'.ok G') : POK n st' G' := by
  refine ⟨ok.n1, ok.n2, hG, fun i hi => ?_⟩
  have up : ∀ j, j < n → (st j).ok G' := fun j hj => by
    obtain ⟨⟨a1, a2⟩, a3⟩ := ok.b j hj
    exact ⟨⟨a1, by omega⟩, a3⟩
  rcases h with ⟨-, -, rfl⟩ | ⟨j, b', hj, -, ho, -, hb, rfl⟩
  · exact up i hi
  · by_cases e : i = j
    · rw [e, updB_self]; exact hB _ _ _ (ok.b j hj) ho hb
    · rw [updB_ne _ _ e]; exact up i hi
section
variable {w0 w : World} {S S0 : Nat → Prop} {N L : List Res} {p n : Nat} {st st' : Nat → Buf} {G x g c : Int}
theorem St.call1 {P : Program} {f : FuncId} {args : Array Value} {R R' : Res} {Post : Ending → Prop} (ho : Ok R') (h : St w0 S0 w L) (i : Nat) (hi : L[i]? = some R) (c : ∀ S, R w S → Calls P f args w fun e w' => Post e ∧ ∃ S', R' w' S' ∧ Did S S' w w') :
    Calls P f args w fun e w' => Post e ∧ St w0 S0 w' (L.set i R') := by
  obtain ⟨S, hs, hd⟩ := h
  have hl := (Star.ok L).lt hs
  obtain ⟨T, hT, hok, hTS, hput⟩ := hs.split hi
  refine (c T hT).mono fun e w' ⟨he, T', hT', hdid⟩ => ⟨he, ?_⟩
  refine ⟨_, hput w' R' T' ho hT' (fun b hb hn => hdid.block b (hl b hb) hn) (fun b hb => (hdid.own b hb).imp id fun h => fun h2 => by have := hl b h2; omega), ?_⟩
  exact ⟨hdid.os.trans hd.os, hdid.tape.trans hd.tape, hdid.output.trans hd.output, Nat.le_trans hd.size hdid.size,
    fun k hk hn => (hdid.block k (Nat.lt_of_lt_of_le hk hd.size) fun hkT => by rcases hd.own k (hTS k hkT) with h | h; exact hn h; omega).trans (hd.block k hk hn),
    fun b hb => by
      rcases hb with ⟨h1, _⟩ | h1
      · exact hd.own b h1
      · rcases hdid.own b h1 with h2 | h2
        · exact hd.own b (hTS b h2)
        · exact Or.inr (Nat.le_trans hd.size h2)⟩
theorem get_o (H : St w0 S0 w L) (i : Nat) (hi : L[i]? = some (PoolR p n st)) (ok : POK n st G) {z : Int} (h : GetP n st z x g c st') :
    Calls Try.prog 18 #[.pointer (some ⟨p, 0, none⟩), .int .i64 z] w fun e w' => e = .returned (.tuple #[.agg #[.int .i64 x, .int .u64 g], .int .i64 c]) ∧ St w0 S0 w' (L.set i (PoolR p n st')) :=
  H.call1 (PoolR.ok _ _ _) i hi fun S hp => get_c ok h w S hp
theorem give_o (H : St w0 S0 w L) (i : Nat) (hi : L[i]? = some (PoolR p n st)) (ok : POK n st G) {a z : Int} (h : Via n st x g (GiveB a z) c st') :
    Calls Try.prog 30 #[.pointer (some ⟨p, 0, none⟩), .agg #[.int .i64 x, .int .u64 g], .int .i64 a, .int .i64 z] w fun e w' => e = .returned (.int .i64 c) ∧ St w0 S0 w' (L.set i (PoolR p n st')) :=
  H.call1 (PoolR.ok _ _ _) i hi fun S hp => give_c ok h w S hp
theorem write_o (H : St w0 S0 w L) (i : Nat) (hi : L[i]? = some (PoolR p n st)) (ok : POK n st G) {by' at' : Int} {xs : List Int} (h : Via n st x g (WriteB by' at' xs) c st') {A : Option Addr} {cp : Nat} (hx : xs.length ≤ maxLen) (hr : Rds w A xs.length 1 (bys xs)) :
    Calls Try.prog 27 #[.pointer (some ⟨p, 0, none⟩), .agg #[.int .i64 x, .int .u64 g], .int .i64 by', .int .i64 at', .slice A xs.length cp] w fun e w' => e = .returned (.int .i64 c) ∧ St w0 S0 w' (L.set i (PoolR p n st')) :=
  H.call1 (PoolR.ok _ _ _) i hi fun S hp => write_c ok h hx w S hp hr
theorem owner_o (H : St w0 S0 w L) (i : Nat) (hi : L[i]? = some (PoolR p n st)) (ok : POK n st G) {o r : Int} (h : OwnerP n st x g o r c) :
    Calls Try.prog 17 #[.pointer (some ⟨p, 0, none⟩), .agg #[.int .i64 x, .int .u64 g]] w fun e w' => e = .returned (.tuple #[.int .i64 o, .int .i64 r, .int .i64 c]) ∧ St w0 S0 w' (L.set i (PoolR p n st)) :=
  H.call1 (PoolR.ok _ _ _) i hi fun S hp => owner_c ok h w S hp
theorem size_o (H : St w0 S0 w L) (i : Nat) (hi : L[i]? = some (PoolR p n st)) (ok : POK n st G) {z : Int} (h : SizeP n st x g z c) :
    Calls Try.prog 36 #[.pointer (some ⟨p, 0, none⟩), .agg #[.int .i64 x, .int .u64 g]] w fun e w' => e = .returned (.tuple #[.int .i64 z, .int .i64 c]) ∧ St w0 S0 w' (L.set i (PoolR p n st)) :=
  H.call1 (PoolR.ok _ _ _) i hi fun S hp => size_c ok h w S hp
theorem read_o (H : St w0 S0 w L) (i : Nat) (hi : L[i]? = some (PoolR p n st)) (ok : POK n st G) {at' m : Int} {xs : List Int} (h : ReadP n st x g at' m xs c) :
    Calls Try.prog 19 #[.pointer (some ⟨p, 0, none⟩), .agg #[.int .i64 x, .int .u64 g], .int .i64 at', .int .i64 m] w fun e w' => ∃ B cp, e = .returned (.tuple #[.slice B xs.length cp, .int .i64 c]) ∧ St w0 S0 w' (L.set i (PoolR p n st) ++ [LisR 5 1 (.slice B xs.length cp) xs.length (bys xs)]) :=
  ((read_m ok h).on H i hi).mono fun e w' ⟨R', N, hp, hs⟩ => by
    obtain ⟨hR, B, cp, he, hN⟩ := hp
    subst hR hN
    exact ⟨B, cp, he, hs⟩
theorem rdm_blk {t : TypeId} {q : Nat} {cs : Array Value} {k m : Nat} (h : Blk w q t cs) (hs : cs.size = k * m) : RdM w (some ⟨q, 0, none⟩) k m (fun j i => cs.getD (j * m + i) (.bool false)) := by
  intro _
  refine ⟨q, 0, rfl, h.lt, fun j hj i hi => ?_⟩
  rw [Nat.zero_add, h.cell]
  have : j * m + i < k * m := by
    have := Nat.mul_le_mul_right m (show j + 1 ≤ k by omega)
    rw [Nat.add_mul] at this
    omega
  simp [Array.getD, hs, this]
end
end Go.Proofs.Ytiaojhjghededaa
