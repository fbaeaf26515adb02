/- URe URf URj -/
import Derived.Test.YtbmjiedpaffifaaDg21
import Derived.WalkLawsBesides
namespace Go.Proofs.Ytbmjiedpaffifaa.U
open Go.RowKit
variable {w w' w2 : World} {g : Nat}

abbrev ptr (g : Nat) : Value := .pointer (some ⟨g, 0, none⟩)
/-- a reader: what is left, by which error it gave up, is it over? -/
def Rdr (w : World) (g : Nat) (ro : Option Addr) (rn rc : Nat) (gave : Int) (over : Bool) : Prop := w.heap[g]? = some (.cells #[.slice ro rn rc, .int .i64 gave, .bool over] 103 (0, 0))
variable {ro so : Option Addr} {rn rc sn sc : Nat} {gave : Int} {over : Bool} {Z : List Int}
theorem Rdr.c0 (h : Rdr w g ro rn rc gave over) : w.cell? ⟨g, 0, none⟩ = some (.slice ro rn rc) := by unfold Rdr at h; simp [World.cell?, h]
theorem Rdr.c1 (h : Rdr w g ro rn rc gave over) : w.cell? ⟨g, 1, none⟩ = some (.int .i64 gave) := by unfold Rdr at h; simp [World.cell?, h]
theorem Rdr.c2 (h : Rdr w g ro rn rc gave over) : w.cell? ⟨g, 2, none⟩ = some (.bool over) := by unfold Rdr at h; simp [World.cell?, h]
theorem Rdr.z (h : Rdr w g ro rn rc gave over) (j : Nat) : w.frozen? ⟨g, j, none⟩ = false := by unfold Rdr at h; simp [World.frozen?, h]
theorem Rdr.lt (h : Rdr w g ro rn rc gave over) : g < w.heap.size := (Array.getElem?_eq_some_iff.1 h).1
theorem set_heap (w : World) (g : Nat) (cs : Array Value) (t : TypeId) (f : Nat × Nat) (j : Nat) (v : Value) (h : w.heap[g]? = some (.cells cs t f)) : (w.setCell ⟨g, j, none⟩ v).heap[g]? = some (.cells (cs.setIfInBounds j v) t f) := by
  simp [World.setCell, h, Array.getElem?_modify, Array.setIfInBounds]
theorem set_other (w : World) (g j k : Nat) (v : Value) (hk : k ≠ g) : (w.setCell ⟨g, j, none⟩ v).heap[k]? = w.heap[k]? := by
  unfold World.setCell
  simp only
  split <;> simp [Array.getElem?_modify, Ne.symm hk]
theorem set_size (w : World) (g j : Nat) (v : Value) : (w.setCell ⟨g, j, none⟩ v).heap.size = w.heap.size := by
  unfold World.setCell
  simp only
  split <;> simp
theorem Rdr.set0 (h : Rdr w g ro rn rc gave over) (so : Option Addr) (sn sc : Nat) : Rdr (w.setCell ⟨g, 0, none⟩ (.slice so sn sc)) g so sn sc gave over := set_heap w g _ _ _ 0 _ h
theorem Rdr.set1 (h : Rdr w g ro rn rc gave over) (e : Int) : Rdr (w.setCell ⟨g, 1, none⟩ (.int .i64 e)) g ro rn rc e over := set_heap w g _ _ _ 1 _ h
theorem Rdr.set2 (h : Rdr w g ro rn rc gave over) (b : Bool) : Rdr (w.setCell ⟨g, 2, none⟩ (.bool b)) g ro rn rc gave b := set_heap w g _ _ _ 2 _ h
/-- its block alone may have been written -/
structure Kg (w w' : World) (g : Nat) : Prop where
  os : w'.os = w.os
  tape : w'.tape = w.tape
  output : w'.output = w.output
  size : w.heap.size ≤ w'.heap.size
  block : ∀ k, k < w.heap.size → k ≠ g → w'.heap[k]? = w.heap[k]?
theorem Kg.refl (w : World) (g : Nat) : Kg w w g := ⟨rfl, rfl, rfl, Nat.le_refl _, fun _ _ _ => rfl⟩
theorem Kg.of_below (h : Below w.heap.size w w') : Kg w w' g := ⟨h.os, h.tape, h.output, h.size, fun k hk _ => h.block k hk⟩
theorem Kg.trans (h : Kg w w' g) (k : Kg w' w2 g) : Kg w w2 g := ⟨k.os.trans h.os, k.tape.trans h.tape, k.output.trans h.output, Nat.le_trans h.size k.size, fun i hi hn => (k.block i (Nat.lt_of_lt_of_le hi h.size) hn).trans (h.block i hi hn)⟩
theorem setCell_os (w : World) (a : Addr) (v : Value) : (w.setCell a v).os = w.os := by
  unfold World.setCell
  split <;> rfl
theorem setCell_tape (w : World) (a : Addr) (v : Value) : (w.setCell a v).tape = w.tape := by
  unfold World.setCell
  split <;> rfl
theorem setCell_output (w : World) (a : Addr) (v : Value) : (w.setCell a v).output = w.output := by
  unfold World.setCell
  split <;> rfl
theorem Kg.set (h : Kg w w' g) (j : Nat) (v : Value) : Kg w (w'.setCell ⟨g, j, none⟩ v) g :=
  ⟨(setCell_os _ _ _).trans h.os, (setCell_tape _ _ _).trans h.tape, (setCell_output _ _ _).trans h.output, by rw [set_size]; exact h.size, fun k hk hn => (set_other w' g j k v hn).trans (h.block k hk hn)⟩
theorem Src.kg {m c : Nat} (S : Src w so m c Z) (h : Kg w w' g) (hne : m ≠ 0 → blk so ≠ some g) : Src w' so m c Z :=
  ⟨S.1, S.2.1, fun ad ha t ht => by
    have hc := S.2.2.1 ad ha t ht
    have hl := World.block_lt_of_cell? w _ hc
    rw [World.cell?_of_block (h.block _ hl (fun e => hne (by omega) (by rw [ha, ← e, block_of_add]; rfl)))]
    exact hc, S.2.2.2⟩
/-- a reader that reads on -/
structure RL (w : World) (g : Nat) (ro : Option Addr) (rn rc : Nat) (Z : List Int) : Prop where
  r : Rdr w g ro rn rc 0 false
  s : Src w ro rn rc Z
  cap : rn ≤ rc
  big : rn ≤ 140737488355328
  ne : rn ≠ 0 → blk ro ≠ some g
theorem RL.len (R : RL w g ro rn rc Z) : Z.length = rn := R.s.1
theorem RL.kg_below (R : RL w g ro rn rc Z) (hb : Below w.heap.size w w') : RL w' g ro rn rc Z := ⟨(hb.block g R.r.lt).trans R.r, R.s.below hb, R.cap, R.big, R.ne⟩
/-- the panic by which it gives up -/
abbrev upV (g : Nat) : Value := .iface 128 (.agg #[ptr g])
abbrev ups (g : Nat) : List PanicEntry := [{ v := upV g, recovered := false }]
/-- what is left behind where it gave up -/
def Gave (w w' : World) (g : Nat) (e : Int) : Prop := Rdr w' g none 0 0 e false ∧ Kg w w' g
theorem giveUp_any (R : Rdr w g ro rn rc gave over) (e : Int) : Calls Try.prog 95 #[ptr g, .int .i64 e] w fun r w' => r = .panicked (ups g) ∧ Rdr w' g none 0 0 e over ∧ Kg w w' g := by
  have z0 := R.z 0
  have z1 := (R.set0 none 0 0).z 1
  have x0 := R.c0
  have x1 := (R.set0 none 0 0).c1
  have HE := hide ((R.set0 none 0 0).set1 e)
  have HK := hide (((Kg.refl w g).set 0 (.slice none 0 0)).set 1 (.int .i64 e))
  clear R
  go_enter Try.func95, Try.ntmps95
  go_wp2_with fail
  exact ⟨rfl, rfl, HE.out, HK.out⟩
theorem mayRead_live (R : Rdr w g ro rn rc 0 false) : Calls Try.prog 94 #[ptr g] w fun r w' => r = .returned (.bool true) ∧ w' = w := by
  have x1 := R.c1
  have x2 := R.c2
  go_enter Try.func94, Try.ntmps94
  go_wp2_with fail
  go_ret
  exact ⟨rfl, rfl⟩
theorem mayRead_over (R : Rdr w g ro rn rc gave true) : Calls Try.prog 94 #[ptr g] w fun r w' => r = .returned (.bool false) ∧ w' = w := by
  have x1 := R.c1
  have x2 := R.c2
  go_enter Try.func94, Try.ntmps94
  go_wp2_with fail
  go_ret
  exact ⟨rfl, rfl⟩
end Go.Proofs.Ytbmjiedpaffifaa.U
namespace Go.Proofs.Ytbmjiedpaffifaa.U
open Go.RowKit
variable {w w' w2 : World} {g : Nat} {ro so : Option Addr} {rn rc sn sc : Nat} {gave : Int} {over : Bool} {Z : List Int}

theorem blk_add (ad : Addr) (k : Nat) : blk (some (ad.add k)) = blk (some ad) := congrArg some (block_of_add ad k)
theorem scan_pos (Z : List Int) (a f k : Nat) : 0 ≤ (scan Z a f k).1 := by
  induction f generalizing k with
  | zero => exact Int.le_refl _
  | succ f ih =>
    unfold scan
    split
    · exact Int.le_refl _
    · split
      · split
        · exact Int.le_refl _
        · exact (val_bd Z a (k + 1)).1
      · exact ih _
theorem firstC (R : RL w g ro rn rc Z) {v k e : Int} (h : rdN Z 0 = (v, k, e)) : Calls Try.prog 122 #[.slice ro rn rc] w fun r w' => r = .returned (.tuple #[.int .i64 v, .int .i64 k, .int .i64 e]) ∧ w' = w := by
  have := first_any ro rn rc Z w R.s R.cap (Nat.le_trans R.big (by decide))
  rw [h] at this
  exact this
/-- what is behind the first k bytes -/
theorem RL.set (R : RL w g ro rn rc Z) (k : Nat) (_ : k ≤ rn) {ao' : Option Addr} {c' : Nat} (S : Src w ao' (rn - k) c' (Z.drop k)) (hc : rn - k ≤ c') (hb : blk ao' = blk ro) : RL (w.setCell ⟨g, 0, none⟩ (.slice ao' (rn - k) c')) g ao' (rn - k) c' (Z.drop k) ∧ Kg w (w.setCell ⟨g, 0, none⟩ (.slice ao' (rn - k) c')) g := by
  have hK := (Kg.refl w g).set 0 (.slice ao' (rn - k) c')
  exact ⟨⟨R.r.set0 _ _ _, S.kg hK (fun h => by rw [hb]; exact R.ne (by omega)), hc, by have := R.big; omega, fun h => by rw [hb]; exact R.ne (by omega)⟩, hK⟩
theorem rdN_ok {Z : List Int} {v k : Int} (h : rdN Z 0 = (v, k, 0)) : 0 < k ∧ k ≤ Z.length := by
  have := scan_size Z 0 9 0 (by unfold rdN at h; rw [h])
  unfold rdN at h
  rw [h] at this
  simp only at this
  omega
set_option maxRecDepth 100000 in
theorem num_ok (R : RL w g ro rn rc Z) {v most : Int} {k : Nat} (h : rdN Z 0 = (v, (k : Int), 0)) (hv : v ≤ most) : Calls Try.prog 107 #[ptr g, .int .i64 most] w fun r w' =>
    r = .returned (.int .i64 v) ∧ ∃ so sc, RL w' g so (rn - k) sc (Z.drop k) ∧ blk so = blk ro ∧ Kg w w' g := by
  have hk := rdN_ok h
  rw [R.len] at hk
  have hkn : k ≤ rn := by omega
  have hk0 : 0 < k := by omega
  have HM := hide (mayRead_live R.r)
  have HF := hide (firstC R h)
  have x0 := R.r.c0
  have z0 := R.r.z 0
  have h1 : (k : Int) ≤ (rn : Int) := by omega
  have h2 : ¬ most < v := by omega
  obtain ⟨ao', cap', hcs, S', hc'⟩ := R.s.sub k hkn R.cap
  cases ro with
  | none => have := (R.s.2.1 rfl).1; omega
  | some ad =>
    by_cases hc : rc = k
    · obtain ⟨rfl, rfl⟩ : ao' = some ad ∧ cap' = 0 := by
        rcases hcs with ⟨x, _⟩ | ⟨ad, x, _, y, z⟩ | ⟨ad, x, y, _⟩
        · cases x
        · exact ⟨y.trans x.symm, z⟩
        · exact absurd hc y
      have HE := hide (R.set k hkn S' hc' rfl)
      have HCap := hide R.cap
      clear R S' hcs hc' hk hv h
      subst hc
      go_enter Try.func107, Try.ntmps107
      go_wp2_with fail
      refine HM.out.mono ?_
      rintro e w2 ⟨rfl, rfl⟩
      go_wp2_with fail
      refine HF.out.mono ?_
      rintro e w2 ⟨rfl, rfl⟩
      go_wp2_with fail
      go_ret
      exact ⟨rfl, _, _, HE.out.1, rfl, HE.out.2⟩
    · obtain ⟨rfl, rfl⟩ : ao' = some (ad.add k) ∧ cap' = rc - k := by
        rcases hcs with ⟨x, _⟩ | ⟨ad, x, y, _⟩ | ⟨ad', x, _, y, z⟩
        · cases x
        · exact absurd y hc
        · obtain rfl := Option.some.inj x
          exact ⟨y, z⟩
      have HE := hide (R.set k hkn S' hc' (blk_add ad k))
      have h3 : (k : Int) ≤ (rc : Int) := by have := R.cap; omega
      clear R S' hcs hc' hk hv h
      go_enter Try.func107, Try.ntmps107
      go_wp2_with fail
      refine HM.out.mono ?_
      rintro e w2 ⟨rfl, rfl⟩
      go_wp2_with fail
      refine HF.out.mono ?_
      rintro e w2 ⟨rfl, rfl⟩
      go_wp2_with fail
      go_ret
      exact ⟨rfl, _, _, HE.out.1, blk_add ad k, HE.out.2⟩
/-- the error of a number that may not be above most -/
def nmE (Z : List Int) (most : Int) : Int := if (rdN Z 0).2.2 ≠ 0 then (rdN Z 0).2.2 else if most < (rdN Z 0).1 then 51 else 0
theorem nmE_ok {Z : List Int} {most : Int} (h : nmE Z most = 0) : ∃ (v : Int) (k : Nat), rdN Z 0 = (v, (k : Int), 0) ∧ v ≤ most ∧ k ≤ Z.length ∧ 0 < k ∧ 0 ≤ v := by
  obtain ⟨v, k, e, he⟩ : ∃ v k e, rdN Z 0 = (v, k, e) := ⟨_, _, _, rfl⟩
  unfold nmE at h
  rw [he] at h
  simp only at h
  split at h
  · rename_i hn
    exact absurd h hn
  · rename_i hn
    split at h
    · cases h
    · rename_i hm
      obtain rfl : e = 0 := by simpa using hn
      have := rdN_ok he
      refine ⟨v, k.toNat, by rw [he]; simp; omega, by omega, by omega, by omega, ?_⟩
      have hp := scan_pos Z 0 9 0
      unfold rdN at he
      rw [he] at hp
      exact hp
set_option maxRecDepth 100000 in
theorem num_bad (R : RL w g ro rn rc Z) {most e : Int} (h : nmE Z most = e) (he : e ≠ 0) : Calls Try.prog 107 #[ptr g, .int .i64 most] w fun r w' =>
    r = .panicked (ups g) ∧ Gave w w' g e := by
  obtain ⟨v, k, x, hr⟩ : ∃ v k x, rdN Z 0 = (v, k, x) := ⟨_, _, _, rfl⟩
  have HM := hide (mayRead_live R.r)
  have HF := hide (firstC R hr)
  have HU := hide (giveUp_any R.r e)
  have x0 := R.r.c0
  unfold nmE at h
  rw [hr] at h
  simp only at h
  by_cases hx : x = 0
  · rw [if_neg (by simpa using hx)] at h
    have hm : most < v := by
      by_cases hm : most < v
      · exact hm
      · rw [if_neg hm] at h; exact absurd h.symm he
    rw [if_pos hm] at h
    subst hx
    subst h
    clear R hr he
    go_enter Try.func107, Try.ntmps107
    go_wp2_with fail
    refine HM.out.mono ?_
    rintro e w2 ⟨rfl, rfl⟩
    go_wp2_with fail
    refine HF.out.mono ?_
    rintro e w2 ⟨rfl, rfl⟩
    go_wp2_with fail
    refine HU.out.mono ?_
    rintro e w3 ⟨rfl, R3, K3⟩
    have HE : Hid (Gave w2 w3 g 51) := ⟨R3, K3⟩
    clear R3 K3
    go_wp2_with fail
    exact ⟨rfl, rfl, HE.out⟩
  · rw [if_pos (by simpa using hx)] at h
    subst h
    have h0 : (x != 0) = true := by simpa using hx
    clear R hr he hx
    go_enter Try.func107, Try.ntmps107
    go_wp2_with fail
    refine HM.out.mono ?_
    rintro e w2 ⟨rfl, rfl⟩
    go_wp2_with fail
    refine HF.out.mono ?_
    rintro e w2 ⟨rfl, rfl⟩
    go_wp2_with fail
    refine HU.out.mono ?_
    rintro e w3 ⟨rfl, R3, K3⟩
    have HE : Hid (Gave w2 w3 g x) := ⟨R3, K3⟩
    clear R3 K3
    go_wp2_with fail
    exact ⟨rfl, rfl, HE.out⟩
theorem left_any (R : Rdr w g ro rn rc gave over) : Calls Try.prog 72 #[ptr g] w fun r w' => r = .returned (.int .i64 (rn : Int)) ∧ w' = w := by
  have x0 := R.c0
  go_enter Try.func72, Try.ntmps72
  go_wp2_with fail
  go_ret
  exact ⟨rfl, rfl⟩
end Go.Proofs.Ytbmjiedpaffifaa.U
namespace Go.Proofs.Ytbmjiedpaffifaa.U
open Go.RowKit
variable {w w' w2 : World} {g ev rv : Nat} {ro so : Option Addr} {rn rc sn sc : Nat} {gave : Int} {over : Bool} {Z : List Int}

theorem Src.bs {m c : Nat} (S : Src w so m c Z) : BS w so m c Z := ⟨S.1, S.2.1, S.2.2.1⟩
theorem Src.take {ad : Addr} {m c : Nat} (S : Src w (some ad) m c Z) (v : Nat) (hv : v ≤ m) : Src w (some ad) v c (Z.take v) := by
  refine ⟨by rw [List.length_take, S.1]; omega, fun h => (by cases h), fun a ha t ht => ?_, fun t => ?_⟩
  · rw [S.2.2.1 a ha t (by omega)]
    simp [List.getD, ht]
  · by_cases ht : t < v
    · have := S.2.2.2 t
      simp only [List.getD, List.getElem?_take, if_pos ht] at this ⊢
      exact this
    · simp [List.getD, List.getElem?_take, ht]
/-- the number at the beginning, and how many bytes it takes -/
def nmV (Z : List Int) : Nat := (rdN Z 0).1.toNat
def nmK (Z : List Int) : Nat := (rdN Z 0).2.1.toNat
/-- the error of a piece of at most so many bytes -/
def pcE (Z : List Int) (most : Int) : Int := if nmE Z most ≠ 0 then nmE Z most else if Z.length < nmK Z + nmV Z then 50 else 0
theorem nm_ok {Z : List Int} {most : Int} (h : nmE Z most = 0) : rdN Z 0 = ((nmV Z : Int), (nmK Z : Int), 0) ∧ (nmV Z : Int) ≤ most ∧ nmK Z ≤ Z.length ∧ 0 < nmK Z := by
  obtain ⟨v, k, e, h1, h2, h3, h4⟩ := nmE_ok h
  have a : nmK Z = k := by unfold nmK; rw [e]; simp
  have b : (nmV Z : Int) = v := by unfold nmV; rw [e]; simp only; omega
  rw [a, b]
  exact ⟨e, h1, h2, h3⟩
/-- what a reader leaves that read on: the place alone has moved -/
def Mv (w w' : World) (g : Nat) (ro : Option Addr) (rn k : Nat) (Z : List Int) : Prop := ∃ so sc, RL w' g so (rn - k) sc (Z.drop k) ∧ blk so = blk ro ∧ Kg w w' g
theorem Num_ok (R : RL w g ro rn rc Z) {most : Int} (h : nmE Z most = 0) : Calls Try.prog 107 #[ptr g, .int .i64 most] w fun r w' =>
    r = .returned (.int .i64 (nmV Z)) ∧ Mv w w' g ro rn (nmK Z) Z := num_ok R (nm_ok h).1 (nm_ok h).2.1
theorem mv_two {w3 : World} {k v : Nat} (K2 : Kg w w2 g) (RS : RL w3 g so (rn - k - v) sc ((Z.drop k).drop v)) (hb : blk so = blk ro) (K3 : Kg w2 w3 g) : Mv w w3 g ro rn (k + v) Z := ⟨so, sc, by rw [Nat.sub_sub, List.drop_drop] at RS; exact RS, hb, K2.trans K3⟩
/-- piece answers this row, which lies in what is read -/
def PcR (w w' : World) (g : Nat) (ro : Option Addr) (rn : Nat) (Z : List Int) (r : Ending) : Prop := ∃ po pc, r = .returned (.slice po (nmV Z) pc) ∧ Src w' po (nmV Z) pc ((Z.drop (nmK Z)).take (nmV Z)) ∧ blk po = blk ro ∧ Mv w w' g ro rn (nmK Z + nmV Z) Z
theorem pcE_ok {Z : List Int} {most : Int} (h : pcE Z most = 0) : nmE Z most = 0 ∧ nmK Z + nmV Z ≤ Z.length := by
  unfold pcE at h
  split at h
  · rename_i hn; exact absurd h hn
  · rename_i hn
    split at h
    · cases h
    · exact ⟨by simpa using hn, by omega⟩
set_option maxRecDepth 100000 in
set_option maxHeartbeats 1000000 in
theorem piece_ok (R : RL w g ro rn rc Z) {most : Int} (h : pcE Z most = 0) : Calls Try.prog 93 #[ptr g, .int .i64 most] w fun r w' => PcR w w' g ro rn Z r := by
  obtain ⟨hn, hl⟩ := pcE_ok h
  have HC := hide (Num_ok R hn)
  have hk := (nm_ok hn).2.2.2
  have hlen := R.len
  cases ro with
  | none => have := (R.s.2.1 rfl).1; omega
  | some ad0 =>
    obtain ⟨v, hv⟩ : ∃ v, nmV Z = v := ⟨_, rfl⟩
    obtain ⟨k, hkk⟩ : ∃ k, nmK Z = k := ⟨_, rfl⟩
    rw [hv, hkk] at HC
    rw [hkk, hv] at hl
    rw [hkk] at hk
    have HP : Hid (∀ w' r, (∃ po pc, r = .returned (.slice po v pc) ∧ Src w' po v pc ((Z.drop k).take v) ∧ blk po = blk (some ad0) ∧ Mv w w' g (some ad0) rn (k + v) Z) → PcR w w' g (some ad0) rn Z r) := by
      intro w' r hh
      unfold PcR
      rw [hv, hkk]
      exact hh
    have HL : Hid (k + v ≤ rn ∧ 0 < k) := ⟨by omega, hk⟩
    clear hn h R hk hl hlen hv hkk
    go_enter Try.func93, Try.ntmps93
    go_wp2_with fail
    refine HC.out.mono ?_
    rintro e w2 ⟨rfl, so, sc, R2, hb, K2⟩
    cases so with
    | none => cases hb
    | some ad =>
      have x0 := R2.r.c0
      have z0 := R2.r.z 0
      have h1 : ¬ ((rn - k : Nat) : Int) < (v : Int) := by have := HL.out; omega
      have h2 : (v : Int) ≤ ((rn - k : Nat) : Int) := by have := HL.out; omega
      have h3 : (v : Int) ≤ (sc : Int) := by have := HL.out; have := R2.cap; omega
      obtain ⟨ao', cap', hcs, S', hc'⟩ := R2.s.sub v (by have := HL.out; omega) R2.cap
      have ST := R2.s.take v (by have := HL.out; omega)
      by_cases hc : sc = v
      · obtain ⟨rfl, rfl⟩ : ao' = some ad ∧ cap' = 0 := by
          rcases hcs with ⟨x, _⟩ | ⟨ad, x, _, y, z⟩ | ⟨ad, x, y, _⟩
          · cases x
          · exact ⟨y.trans x.symm, z⟩
          · exact absurd hc y
        have HE := hide (R2.set v (by have := HL.out; omega) S' hc' rfl)
        have HS := hide (And.intro ST (And.intro K2 hb))
        have HSn : Hid (v ≠ 0 → blk (some ad) ≠ some g) := fun h => R2.ne (by have := HL.out; omega)
        clear R2 S' hcs hc' ST K2 hb HC
        subst hc
        go_wp2_with fail
        go_ret
        exact HP.out _ _ ⟨_, _, rfl, HS.out.1.kg HE.out.2 HSn.out, HS.out.2.2, mv_two HS.out.2.1 HE.out.1 HS.out.2.2 HE.out.2⟩
      · obtain ⟨rfl, rfl⟩ : ao' = some (ad.add v) ∧ cap' = sc - v := by
          rcases hcs with ⟨x, _⟩ | ⟨ad, x, y, _⟩ | ⟨ad', x, _, y, z⟩
          · cases x
          · exact absurd y hc
          · obtain rfl := Option.some.inj x
            exact ⟨y, z⟩
        have HE := hide (R2.set v (by have := HL.out; omega) S' hc' (blk_add ad v))
        have HS := hide (And.intro ST (And.intro K2 hb))
        have HSn : Hid (v ≠ 0 → blk (some ad) ≠ some g) := fun h => R2.ne (by have := HL.out; omega)
        clear R2 S' hcs hc' ST K2 hb HC
        go_wp2_with fail
        go_ret
        exact HP.out _ _ ⟨_, _, rfl, HS.out.1.kg HE.out.2 HSn.out, HS.out.2.2, mv_two HS.out.2.1 HE.out.1 ((blk_add ad v).trans HS.out.2.2) HE.out.2⟩
set_option maxRecDepth 100000 in
theorem piece_bad (R : RL w g ro rn rc Z) {most e : Int} (h : pcE Z most = e) (he : e ≠ 0) : Calls Try.prog 93 #[ptr g, .int .i64 most] w fun r w' => r = .panicked (ups g) ∧ Gave w w' g e := by
  by_cases hn : nmE Z most = 0
  · have HC := hide (Num_ok R hn)
    have hl : Z.length < nmK Z + nmV Z ∧ e = 50 := by
      unfold pcE at h
      rw [if_neg (by simpa using hn)] at h
      split at h
      · rename_i hl; exact ⟨hl, h.symm⟩
      · exact absurd h.symm he
    obtain ⟨hl, rfl⟩ := hl
    have hlen := R.len
    obtain ⟨v, hv⟩ : ∃ v, nmV Z = v := ⟨_, rfl⟩
    obtain ⟨k, hkk⟩ : ∃ k, nmK Z = k := ⟨_, rfl⟩
    have hkl := (nm_ok hn).2.2.1
    rw [hkk] at hkl
    rw [hv, hkk] at HC hl
    have HL : Hid (rn < k + v ∧ k ≤ rn) := ⟨by omega, by omega⟩
    clear h he hn R hl hlen hv hkk hkl
    go_enter Try.func93, Try.ntmps93
    go_wp2_with fail
    refine HC.out.mono ?_
    rintro e w2 ⟨rfl, so, sc, R2, hb, K2⟩
    have x0 := R2.r.c0
    have h1 : ((rn - k : Nat) : Int) < (v : Int) := by have := HL.out; omega
    have HU := hide (giveUp_any R2.r 50)
    have HK := hide K2
    clear R2 hb K2 HC
    go_wp2_with fail
    refine HU.out.mono ?_
    rintro e w3 ⟨rfl, R3, K3⟩
    have HE : Hid (Gave w w3 g 50) := ⟨R3, HK.out.trans K3⟩
    clear R3 K3
    go_wp2_with fail
    exact ⟨rfl, rfl, HE.out⟩
  · have e1 : nmE Z most = e := by
      unfold pcE at h
      rw [if_pos (by simpa using hn)] at h
      exact h
    have HC := hide (num_bad R e1 he)
    clear h hn R
    go_enter Try.func93, Try.ntmps93
    go_wp2_with fail
    refine HC.out.mono ?_
    rintro r w2 ⟨rfl, hG⟩
    have HE := hide hG
    clear hG
    go_wp2_with fail
    exact ⟨rfl, rfl, HE.out⟩
/-- Frame answers this row, in new memory -/
def FrR (w w' : World) (g : Nat) (ro : Option Addr) (rn : Nat) (Z : List Int) (r : Ending) : Prop := ∃ po pc, r = .returned (.slice po (nmV Z) pc) ∧ BR w' po (nmV Z) pc ((Z.drop (nmK Z)).take (nmV Z)) ∧ (∀ k, blk po = some k → w.heap.size ≤ k) ∧ Mv w w' g ro rn (nmK Z + nmV Z) Z
theorem Mv.below {k : Nat} (h : Mv w w' g ro rn k Z) (b : Below w'.heap.size w' w2) : Mv w w2 g ro rn k Z := by
  obtain ⟨so, sc, R, hb, K⟩ := h
  exact ⟨so, sc, R.kg_below b, hb, K.trans (Kg.of_below b)⟩
set_option maxRecDepth 100000 in
theorem frame_ok (R : RL w g ro rn rc Z) {most : Int} (h : pcE Z most = 0) : Calls Try.prog 71 #[ptr g, .int .i64 most] w fun r w' => FrR w w' g ro rn Z r := by
  have HC := hide (piece_ok R h)
  have HL : Hid (nmV Z ≤ 140737488355328) := by show _ ≤ _; have := (pcE_ok h).2; have := R.len; have := R.big; omega
  clear R h
  go_enter Try.func71, Try.ntmps71
  go_wp2_with fail
  refine HC.out.mono ?_
  rintro e w2 ⟨po, pc, rfl, S2, hb, M2⟩
  have HD := hide (clone_any po (nmV Z) pc _ w2 S2.bs HL.out)
  have HM := hide M2
  clear S2 hb M2 HC
  go_wp2_with fail
  refine HD.out.mono ?_
  rintro e w3 ⟨bo, bc, rfl, B3, N3⟩
  have HE : Hid (FrR w w3 g ro rn Z (.returned (.slice bo (nmV Z) bc))) := ⟨bo, bc, rfl, B3, fun k e => Nat.le_trans (by obtain ⟨_, _, _, _, K⟩ := HM.out; exact K.size) (N3.2 k e), HM.out.below N3.1⟩
  clear B3 N3 HD
  go_wp2_with fail
  go_ret
  exact HE.out
set_option maxRecDepth 100000 in
theorem frame_bad (R : RL w g ro rn rc Z) {most e : Int} (h : pcE Z most = e) (he : e ≠ 0) : Calls Try.prog 71 #[ptr g, .int .i64 most] w fun r w' => r = .panicked (ups g) ∧ Gave w w' g e := by
  have HC := hide (piece_bad R h he)
  clear R h
  go_enter Try.func71, Try.ntmps71
  go_wp2_with fail
  refine HC.out.mono ?_
  rintro r w2 ⟨rfl, hG⟩
  have HE := hide hG
  clear hG
  go_wp2_with fail
  exact ⟨rfl, rfl, HE.out⟩
end Go.Proofs.Ytbmjiedpaffifaa.U
