/- Layer 6: the document's own bus: its public calls. -/
import Derived.Test.YtabocojmobbpaaaBusT
import Derived.Deep.RegionLaw
import Derived.BigRegion
import Derived.IntWalk
import Derived.Deep.DeepCutAuto
namespace Go.Proofs.Ytabocojmobbpaaa
open Go.RowKit
set_option linter.unusedVariables false
set_option maxRecDepth 100000
set_option maxHeartbeats 800000
section
variable {w0 w w' : World} {N : List Res} {C : BC} {cap r sb : Nat} {rp : Nat → Nat} {A Am : Option Addr} {cm : Nat} {Ah : Option Addr} {ch : Nat} {now : Int} {hr : List (Int × Int)} {s : BS} {V : Nat → Nat → Value}
theorem left_pos {i : Nat} {S0 : Nat → Prop} (H : St w0 S0 w (RL [] N C A cap r sb rp Am cm Ah ch now hr s)) (hi : i < C.n) : 0 ≤ C.left s.ws i now := by
  obtain ⟨S, M, hN, ho, _⟩ := H.get _ (fam_at2 _ _ _ hi)
  have := ho.most (C.K i now)
  unfold BC.left; omega
theorem RSlot_o {A2 : Option Addr} {nw cap2 kk q : Nat} {f : Nat → Int} (H : St w0 None w (RBusR C A cap r sb rp q s :: N)) (hC : C.OK) (rdm : RdM w0 A C.n 4 V) (hV : MV C V) (hbs : s.OK C kk) (hkk : kk ≤ 150) (hq : q ≤ 150) (hn0 : 0 ≤ now) (hm : nw ≤ maxLen) (rd : Rd w A2 nw (fun j => .int .i64 (f j)))
    {v e0 : Int} {s' : BS} (hR : SlotR C s now (okB nw f C.n) (wantB nw f) v e0 s') :
    Calls Try.prog 16 #[.pointer (some ⟨r, 0, none⟩), .int .u64 now, .slice A2 nw cap2] w fun e w' => e = .returned (.tuple #[.int .i64 v, .int .i64 e0]) ∧ St w0 None w' (RBusR C A cap r sb rp (q + 1) s' :: N) := by
  obtain ⟨hr, Am, cm, Ah, ch, ho, hlen, s1⟩ := rb_open H
  have hB := s1.blk 0 rfl
  have grow : ∀ w', St w0 None w' (RBusR C A cap r sb rp q s :: N) → St w0 None w' (RBusR C A cap r sb rp (q + 1) s :: N) := fun w' h => h.weak 0 rfl (RBusR.ok _ _ _ _ _ _ _ _) fun S ⟨hr, Am, cm, Ah, ch, h1, h2, h3⟩ => ⟨hr, Am, cm, Ah, ch, h1, by omega, h3⟩
  by_cases hl : now < 4611686018427387904
  · by_cases hf : ∀ j, j < nw → 0 ≤ f j ∧ f j < C.n
    · have e1 : okB nw f C.n = true := decide_eq_true hf
      rw [e1] at hR
      by_cases hx : s.next ≤ now
      · have h1 := hC.n1
        have s2 := rb_later s1 hx
        obtain ⟨ib, io, rfl, _⟩ := rdm (by omega)
        obtain ⟨A', cap', hv, _, _, _, hcell⟩ := s2.lis_cells 1 rfl
        injection hv with e2 _ e3
        obtain ⟨mg, mo, e4, _⟩ := hcell.resolve_left (by omega)
        rw [e4] at e2
        subst e2
        obtain ⟨hr', g1, g2, g3, g4⟩ := hok_next ho hn0 hR
        refine (rslot_main s2 hC rdm hV hbs (by omega) ho (by omega) (fun j hj => left_pos s2 hj) hn0 hl hx hm rd hf hR).mono ?_
        rintro e w' ⟨he, Ah', ch', hs⟩
        refine ⟨he, rb_close hs ?_ ?_ ?_⟩
        · rcases hR with ⟨h, _⟩ | ⟨_, h, _⟩ | ⟨_, _, _, _, _, _, rfl⟩ | ⟨_, _, _, b, _, _, _, _, rfl⟩
          · exact absurd hl h
          · exact absurd ⟨rfl, hx⟩ h
          · show now ≤ now + 1; omega
          · show now ≤ now + 1; omega
        · rw [← g3 (by
            rcases hR with ⟨h, _⟩ | ⟨_, h, _⟩ | ⟨_, _, _, _, _, rfl, _⟩ | ⟨_, _, _, b, _, _, _, rfl, _⟩
            · exact absurd hl h
            · exact absurd ⟨rfl, hx⟩ h
            · omega
            · omega)]
          exact g1
        · simp; omega
      · obtain ⟨rfl, rfl, rfl⟩ : v = 0 ∧ e0 = 1 ∧ s' = s := by
          rcases hR with ⟨h, _⟩ | ⟨_, _, h⟩ | ⟨_, _, h, _⟩ | ⟨_, _, h, _⟩
          · exact absurd hl h
          · exact h
          · exact absurd h hx
          · exact absurd h hx
        exact (rslot_late hl hB (s1.lis 3 rfl) ho (by omega) hC.n16 hm rd hf (by omega)).mono fun e w' ⟨he, hb⟩ => ⟨he, grow _ (H.stay hb)⟩
    · have e1 : okB nw f C.n = false := decide_eq_false hf
      rw [e1] at hR
      obtain ⟨rfl, rfl, rfl⟩ : v = 0 ∧ e0 = 1 ∧ s' = s := by
        rcases hR with ⟨h, _⟩ | ⟨_, _, h⟩ | ⟨_, h, _⟩ | ⟨_, h, _⟩
        · exact absurd hl h
        · exact h
        · cases h
        · cases h
      exact (rslot_bad hl hB.five.1 hC.n16 hm rd hf).mono fun e w' ⟨he, hb⟩ => ⟨he, grow _ (H.stay hb)⟩
  · obtain ⟨rfl, rfl, rfl⟩ : v = 0 ∧ e0 = 2 ∧ s' = s := by
      rcases hR with ⟨_, h⟩ | ⟨h, _⟩ | ⟨h, _⟩ | ⟨h, _⟩
      · exact h
      all_goals exact absurd h hl
    exact (rslot_hor hl).mono fun e w' ⟨he, hb⟩ => ⟨he, grow _ (hb ▸ H)⟩
theorem rrow_o {q : Nat} (hq : q ≤ 200) (H : St w0 None w (RBusR C A cap r sb rp q s :: N)) (hC : C.OK) (hs : s.next ≤ 4611686018427387904 ∧ C.ph ≤ s.next ∧ -1 ≤ s.who) :
    Calls Try.prog 18 #[.pointer (some ⟨r, 0, none⟩)] w fun e w' => e = .returned (.tuple #[.int .i64 s.who, .int .i64 s.row]) ∧ St w0 None w' (RBusR C A cap r sb rp q s :: N) := by
  obtain ⟨hr, Am, cm, Ah, ch, ho, hlen, s1⟩ := rb_open H
  have HH := Lib.hid H
  have HB := s1.blk 0 rfl
  have c4 := HB.five.2.2.2.2
  have HL := s1.lis 3 rfl
  have hnb := ho.nob
  cases hr with
  | nil =>
    have h1 := (ho.emp rfl).2
    have h2 := hnb h1
    have HE := Lib.hid (And.intro h1 h2)
    clear H ho s1 hnb h1 h2 HB
    go_enter Try.func18, Try.ntmps18
    go_wp2_with fail
    go_quiet (fail)
    go_wp2_with fail
    go_ret2
    exact ⟨by rw [HE.out.1, HE.out.2]; rfl, HH.out.drewN _⟩
  | cons p t =>
    have htop := ho.top p t rfl
    have hrow := ho.row
    have hbd := ho.bd p (by simp)
    obtain ⟨g, off, rfl, hcc⟩ := HL.reads.2.resolve_left (by simp)
    have x0 := hcc _ _ (hc_at (l := p :: t) (d := 0) rfl).1
    have x1 := hcc _ _ (hc_at (l := p :: t) (d := 0) rfl).2
    have e0 : (p :: t).length - 1 - 0 = t.length := by simp
    rw [e0] at x0 x1
    rw [← Nat.add_assoc] at x1
    have el : (p :: t).length = t.length + 1 := by simp
    have c4' := c4
    rw [el] at c4
    have hlen' : t.length + 1 ≤ 200 := by rw [← el]; omega
    have d4 : (((t.length + 1 : Nat) : Int) == 0) = false := beq_eq_false_iff_ne.2 (by omega)
    have d5 : (((t.length : Int) + 1) == 0) = false := beq_eq_false_iff_ne.2 (by omega)
    obtain ⟨q2, hq2⟩ : ∃ q2, t.length = q2 := ⟨_, rfl⟩
    rw [hq2] at c4 x0 x1 d4 d5 hlen'
    have i0' : (0 : Int) ≤ (q2 : Int) := by omega
    by_cases hw : p.2 < 0
    · have d6 : decide (p.2 < 0) = true := decide_eq_true hw
      have hw1 : s.who = -1 := by omega
      have HE := Lib.hid (And.intro hw1 (hnb hw1))
      clear hw1
      obtain ⟨p1, p2⟩ := p
      dsimp only at x0 x1 d6
      clear H ho s1 hnb htop hrow hcc hbd e0 el c4' hq2 hw HB HL
      go_enter Try.func18, Try.ntmps18
      go_wp2_with fail
      go_quiet (fail)
      go_wp2_with fail
      go_ret2
      exact ⟨by rw [HE.out.1, HE.out.2]; rfl, HH.out.drewN _⟩
    · have d6 : decide (p.2 < 0) = false := decide_eq_false hw
      obtain ⟨id, hid⟩ : ∃ id : Nat, p.2 = id := ⟨p.2.toNat, by omega⟩
      have hrw := hrow id (by omega)
      have HE := Lib.hid (show s.who = p.2 ∧ s.row = run p.2 (p.1 + 1) (p :: t) by
        refine ⟨htop.2.symm, ?_⟩
        rw [hrw, htop.1, hid])
      have RR := Lib.hid (fun (wz : World) (h : St w0 None wz (RL [] N C A cap r sb rp Am cm (some ⟨g, off, none⟩) ch s.next (p :: t) s)) => rrow (r := r) p.2 (p.1 + 1) wz (h.blk 0 rfl).five.2.2.2.2 (h.lis 3 rfl) (by omega) ho.bd ⟨by omega, by omega⟩)
      have S1 := Lib.hid s1
      have HO2 := Lib.hid ho
      have FF := Lib.hid (fun (wz : World) (h : St w0 None wz (RL [] N C A cap r sb rp Am cm (some ⟨g, off, none⟩) ch s.next (p :: t) s)) => show wz.cell? ⟨r, 4, none⟩ = some (.slice (some ⟨g, off, none⟩) (q2 + 1) ch) ∧ wz.cell? ⟨g, off + q2 * 2, none⟩ = some (.int .u64 p.1) ∧ wz.cell? ⟨g, off + q2 * 2 + 1, none⟩ = some (.int .i64 p.2) by
        obtain ⟨A', cap', hv, _, _, _, hcell⟩ := h.lis_cells 3 rfl
        injection hv with e1 _ e2
        obtain ⟨g', off', e3, hcc'⟩ := hcell.resolve_left (by simp)
        rw [← e1] at e3
        injection e3 with e3; injection e3 with e4 e5; subst e4; subst e5
        have y0 := hcc' _ _ (hc_at (l := p :: t) (d := 0) rfl).1
        have y1 := hcc' _ _ (hc_at (l := p :: t) (d := 0) rfl).2
        rw [e0, hq2] at y0 y1
        rw [← Nat.add_assoc] at y1
        have c := (h.blk 0 rfl).five.2.2.2.2
        rw [el, hq2] at c
        exact ⟨c, y0, y1⟩)
      obtain ⟨p1, p2⟩ := p
      dsimp only at x0 x1 d6
      clear H ho s1 hnb htop hrow hcc e0 el c4' hq2 hw hrw hid HB HL
      go_enter Try.func18, Try.ntmps18
      go_wp2_with fail
      go_quiet (fail)
      go_wp2_with fail
      have s2 := S1.out.drewN nq
      clear S1 x0 x1 c4
      generalize World.drewN w nq = w2 at *
      obtain ⟨c4, x0, x1⟩ := FF.out _ s2
      have s3 := s2.alloc (.cells #[.int .u64 0, .int .i64 0] 84)
      obtain ⟨c4a, x0a, x1a⟩ := FF.out _ s3
      have wq2 : IntKind.i64.wrap (q2 : Int) = q2 := IntWalk.i64_in _ ⟨by omega, by omega⟩
      have S2 := Lib.hid s2
      clear s2 s3
      go_cut [4] (fun y wx => y = .pointer (some ⟨w2.heap.size, 0, none⟩) ∧ ∃ n : Nat, wx = (w2.alloc (.cells #[.int .u64 p1, .int .i64 p2] 84)).drewN n)
      case first =>
        go_region
        all_goals go_wp2_with fail
        all_goals go_meet
        all_goals first | exact ⟨rfl, 1, rfl⟩ | exact ⟨rfl, 0, rfl⟩
      case rest =>
      obtain ⟨rfl, n, rfl⟩ := hcut
      have s4 := (S2.out.alloc (.cells #[.int .u64 p1, .int .i64 p2] 84)).drewN n
      have hb1 := ((Blk.new w2 84 #[.int .u64 p1, .int .i64 p2]).drewN n).two
      obtain ⟨z0, z1⟩ := hb1
      have S4 := Lib.hid s4
      generalize World.drewN _ n = w4 at *
      clear s4 c4 x0 x1 c4a x0a x1a wq2
      have wp1 : IntKind.u64.wrap (p1 + 1) = p1 + 1 := IntWalk.u64_in _ ⟨by have := hbd; omega, by have := hbd; omega⟩
      go_wp2_with fail
      go_quiet ((go_at_call 33; exact q_left (RR.out _ (S4.out.drewN _))))
      go_wp2_with fail
      go_ret2
      exact ⟨by rw [HE.out.1, HE.out.2]; rfl, rb_close (S4.out.drewN _) (Int.le_refl _) HO2.out (by omega)⟩
end
end Go.Proofs.Ytabocojmobbpaaa
