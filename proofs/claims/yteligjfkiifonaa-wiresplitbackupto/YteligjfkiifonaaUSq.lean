/- wire.Split. -/
import Derived.Test.YteligjfkiifonaaUSp
namespace Go.Proofs.Yteligjfkiifonaa
open Go.RowKit
variable {w w' w2 : World} {g ev rv lv n0 : Nat} {ro so lo : Option Addr} {rn rc sn sc ln lc : Nat} {gave : Int} {over : Bool} {Z Z' : List Int}

theorem GB.mono {m0 : Nat} {L : List (List Int)} (h : GB n0 w lo ln lc L) (hm : m0 ≤ n0) : GB m0 w lo ln lc L := by
  obtain ⟨V, r, hr⟩ := h.row
  refine ⟨h.len, fun k e => Nat.le_trans hm (h.ge k e), V, r, fun i hi => ?_⟩
  obtain ⟨bo, n, c, hv, B, hb⟩ := hr i hi
  exact ⟨bo, n, c, hv, B, fun k e => ⟨Nat.le_trans hm (hb k e).1, (hb k e).2⟩⟩
/-- the world in which a reader's f begins, over w -/
structure Beg (w W1 : World) (ro : Option Addr) (rn rc n0 : Nat) : Prop where
  e : Var W1 w.heap.size (.int .i64 0) 27
  r : Rdr W1 (w.heap.size + 1) ro rn rc 0 false
  v : Var W1 (w.heap.size + 2) (ptr (w.heap.size + 1)) 40
  n : n0 = w.heap.size + 3 ∧ W1.heap.size = n0
  b : Below w.heap.size w W1
theorem beg (w : World) (ro : Option Addr) (rn rc : Nat) : Beg w (W0 w ro rn rc) ro rn rc (w.heap.size + 3) := by
  have b1 := below_new w (.cells #[.int .i64 0] 27)
  have h1 := heap_alloc_new w (.cells #[.int .i64 0] 27)
  have s1 := World.size_alloc w (.cells #[.int .i64 0] 27)
  generalize hw1 : w.alloc (.cells #[.int .i64 0] 27) = w1 at b1 h1 s1
  have b2 := below_new w1 (.cells #[.slice ro rn rc, .int .i64 0, .bool false] 59)
  have h2 := heap_alloc_new w1 (.cells #[.slice ro rn rc, .int .i64 0, .bool false] 59)
  have s2 := World.size_alloc w1 (.cells #[.slice ro rn rc, .int .i64 0, .bool false] 59)
  generalize hw2 : w1.alloc (.cells #[.slice ro rn rc, .int .i64 0, .bool false] 59) = w2 at b2 h2 s2
  have b3 := below_new w2 (.cells #[ptr (w.heap.size + 1)] 40)
  have h3 := heap_alloc_new w2 (.cells #[ptr (w.heap.size + 1)] 40)
  have s3 := World.size_alloc w2 (.cells #[ptr (w.heap.size + 1)] 40)
  have e0 : W0 w ro rn rc = w2.alloc (.cells #[ptr (w.heap.size + 1)] 40) := by unfold W0; rw [hw1, hw2]
  rw [e0]
  rw [s1] at h2 s2
  rw [s2] at h3 s3
  refine ⟨?_, ?_, h3, ⟨rfl, by omega⟩, b1.trans ((b2.trans (b3.mono b2.size)).mono b1.size)⟩
  · exact (b3.block _ (by omega)).trans ((b2.block _ (by omega)).trans h1)
  · exact (b3.block _ (by omega)).trans h2
theorem rdr_inj {so so' : Option Addr} {sn sn' sc sc' : Nat} {e e' : Int} {o o' : Bool} (h : Rdr w g so sn sc e o) (k : Rdr w g so' sn' sc' e' o') : sn = sn' ∧ e = e' := by
  unfold Rdr at h k
  rw [h] at k
  simp at k
  exact ⟨k.1.2.1, k.2.1⟩
set_option maxRecDepth 100000 in
theorem split1_nil {w0 : World} (R : Rdr w0 g ro 0 rc 0 false) (V : Var w0 lv (.slice none 0 0) 22) : Calls Try.prog 22 #[ptr g, ptr lv] w0 fun r w' => SpP n0 w0 g lv [] r w' := by
  have HL := hide (left_any R)
  have HE : Hid (SpP n0 w0 g lv [] (.returned (.tuple #[])) w0) := ⟨⟨rfl, rfl, rfl, Nat.le_refl _, fun _ _ _ _ => rfl⟩, Or.inl ⟨rfl, rfl, ⟨_, _, R⟩, none, 0, 0, V, GB.nil _ _⟩⟩
  clear R V
  go_enter Try.func22, Try.ntmps22
  go_wp2_with fail
  go_loopw [] (fun wr => wr = w0) (fun _ => 0)
  case atStart => rfl
  case round =>
    subst hrel
    go_wp2_with fail
    refine HL.out.mono ?_
    rintro e wx ⟨rfl, rfl⟩
    go_wp2_with fail
    go_end0
    exact HE.out
/-- what Split answers -/
def SpA (w w' : World) (Z : List Int) (r : Ending) : Prop := ∃ lo ln lc, r = .returned (.tuple #[.slice lo ln lc, .int .i64 (splA Z).2]) ∧ Below w.heap.size w w' ∧ ((splA Z).2 = 0 → GB w.heap.size w' lo ln lc (splA Z).1) ∧ ((splA Z).2 ≠ 0 → lo = none ∧ ln = 0 ∧ lc = 0)
set_option maxRecDepth 100000 in
theorem split_any (ro : Option Addr) (rn rc : Nat) (Z : List Int) (w : World) (S : Src w ro rn rc Z) (hcap : rn ≤ rc) (hz : rn < 4000000000000) : Calls Try.prog 9 #[.slice ro rn rc] w fun r w' => SpA w w' Z r := by
  have hmf : ∀ (fn : Fn) (first cap : Array Value) (w : World), (Instr.makeFunc fn first cap).run Try.prog w = .ok (.func fn first cap) w := fun _ _ _ _ => rfl
  have hcf : ∀ (args : Array Value) (w : World), (callFunc 22 args).run Try.prog w = .ok (.enter 22 args) w := fun _ _ => rfl
  obtain ⟨w1, hw1⟩ : ∃ w1, w.alloc (.cells #[.slice none 0 0] 22) = w1 := ⟨_, rfl⟩
  have b1 := below_new w (.cells #[.slice none 0 0] 22)
  have V1 : Var (w.alloc (.cells #[.slice none 0 0] 22)) w.heap.size (.slice none 0 0) 22 := heap_alloc_new w _
  have s1 := World.size_alloc w (.cells #[.slice none 0 0] 22)
  rw [hw1] at b1 V1 s1
  have G1 := beg w1 ro rn rc
  obtain ⟨W1, hW1⟩ : ∃ W1, W0 w1 ro rn rc = W1 := ⟨_, rfl⟩
  rw [hW1] at G1
  have hb : Below w.heap.size w W1 := b1.trans (G1.b.mono b1.size)
  have hsz := G1.n.2
  have hlen := S.1
  have hf : Calls Try.prog 22 #[ptr (w1.heap.size + 1), ptr w.heap.size] W1 fun r w' => SpP (w1.heap.size + 3) W1 (w1.heap.size + 1) w.heap.size Z r w' := by
    have V2 : Var W1 w.heap.size (.slice none 0 0) 22 := (G1.b.block _ (by omega)).trans V1
    by_cases h0 : rn = 0
    · subst h0
      obtain rfl := List.eq_nil_of_length_eq_zero hlen
      exact split1_nil G1.r V2
    have hlt : ∀ k, blk ro = some k → k < w.heap.size := fun k e => by
      obtain ⟨ad, ha, hc⟩ := cell_at S 0 (by omega)
      have := World.block_lt_of_cell? _ _ hc
      rw [block_of_add] at this
      rw [ha] at e
      have : ad.block = k := Option.some.inj e
      omega
    have hne : blk ro ≠ some (w1.heap.size + 1) := fun e => by have := hlt _ e; omega
    refine split1_any (bz := blk ro) (ro := ro) (rn := rn) (rc := rc) ?_ (by omega)
    exact ⟨⟨G1.r, S.below hb, hcap, by omega, hne⟩, V2, GB.nil _ _, ⟨rfl, rfl, rfl, Nat.le_refl _, fun _ _ _ _ => rfl⟩, rfl, by omega, by omega, by omega, by omega, by omega, fun k e => by have := hlt k e; exact ⟨by omega, by omega, by omega⟩⟩
  have hR := read_any ro rn rc 22 #[ptr w.heap.size] (SpP (w1.heap.size + 3) W1 (w1.heap.size + 1) w.heap.size Z) w1 hcf (by rw [hW1]; exact hf) (by
    rintro e w2 ⟨K, h⟩
    refine ⟨?_, (K.block _ (by omega) (by omega) (by omega)).trans G1.v, (K.block _ (by omega) (by omega) (by omega)).trans G1.e⟩
    rcases h with ⟨rfl, _, ⟨so, sc, R⟩, _⟩ | ⟨rfl, he, R⟩
    · exact ⟨_, _, .calm R⟩
    · exact ⟨_, _, .up R he⟩)
  have HR : Hid (Calls Try.prog 15 #[.slice ro rn rc, .func (.func 22) #[] #[ptr w.heap.size]] w1 fun r w' => r = .returned (.int .i64 (splA Z).2) ∧ Below w.heap.size w w' ∧ ((splA Z).2 = 0 → ∃ lo ln lc, Var w' w.heap.size (.slice lo ln lc) 22 ∧ GB w.heap.size w' lo ln lc (splA Z).1)) := by
    refine hR.mono ?_
    rintro r w' ⟨e2, w2, gave, err, ⟨K, h⟩, hE, rfl, F⟩
    have hbel : Below w.heap.size w w' := ⟨F.os.trans (K.os.trans hb.os), F.tape.trans (K.tape.trans hb.tape), F.output.trans (K.output.trans hb.output), Nat.le_trans hb.size (Nat.le_trans K.size F.size), fun k hk => (F.block k (by have := K.size; omega) (by omega) (by omega)).trans ((K.block k (by omega) (by omega) (by omega)).trans (hb.block k hk))⟩
    rcases h with ⟨rfl, h0, ⟨so, sc, R⟩, lo, ln, lc, V, G⟩ | ⟨rfl, he, R⟩
    · cases hE with
      | calm R' =>
        obtain ⟨rfl, -⟩ := rdr_inj R R'
        refine ⟨by rw [h0]; rfl, hbel, fun _ => ⟨lo, ln, lc, (F.block _ V.lt (by omega) (by omega)).trans V, (G.keep F.size fun k h1 h2 => F.block k h2 (by omega) (by omega)).mono (by omega)⟩⟩
    · cases hE with
      | up R' he' =>
        obtain ⟨-, rfl⟩ := rdr_inj R R'
        exact ⟨rfl, hbel, fun h => absurd h he⟩
  obtain ⟨er, her⟩ : ∃ er, (splA Z).2 = er := ⟨_, rfl⟩
  have HP : Hid (∀ lo ln lc w', Below w.heap.size w w' → (er = 0 → GB w.heap.size w' lo ln lc (splA Z).1) → (er ≠ 0 → lo = none ∧ ln = 0 ∧ lc = 0) → SpA w w' Z (.returned (.tuple #[.slice lo ln lc, .int .i64 er]))) := by
    intro lo ln lc w' h1 h2 h3
    exact ⟨lo, ln, lc, by rw [her], h1, by rw [her]; exact h2, by rw [her]; exact h3⟩
  rw [her] at HR
  clear hR hf G1 hW1 hsz hb hlen b1 V1 s1 S her hz hcap
  go_enter Try.func9, Try.ntmps9
  go_wp2_with fail
  refine HR.out.mono ?_
  rintro e w2 ⟨rfl, b2, hG⟩
  by_cases h0 : er = 0
  · subst h0
    obtain ⟨lo, ln, lc, V2, G2⟩ := hG rfl
    have x0 := V2.c
    have HE := hide (HP.out lo ln lc w2 b2 (fun _ => G2) (fun h => absurd rfl h))
    clear V2 G2 hG b2 HR
    go_wp2_with fail
    go_ret2
    exact HE.out
  · have h1 : (er != 0) = true := by simpa using h0
    have HE := hide (HP.out none 0 0 w2 b2 (fun h => absurd h h0) (fun _ => ⟨rfl, rfl, rfl⟩))
    clear hG b2 HR
    go_wp2_with fail
    go_ret2
    exact HE.out
end Go.Proofs.Yteligjfkiifonaa
