/- Lit BKe PLp BFp RMt -/
import Derived.Shelf.SlIter.Nil
import Derived.Shelf.SortM.Plain
import Derived.Shelf.SortM.SortNone
import Derived.Test.YtfpmijfcemopoaaGreatProg
import Derived.Test.YtfpmijfcemopoaaGreatKb14
import Derived.Test.YtfpmijfcemopoaaGreatKb10
import Derived.Test.YtfpmijfcemopoaaGreatKb15
import Derived.Test.YtfpmijfcemopoaaGreatKb07
import Derived.Test.YtfpmijfcemopoaaGreatKb18
import Derived.Test.YtfpmijfcemopoaaGreatKb06
namespace Go.Proofs
open Go.Shelf
def Tryz.keysM_ren : Go.Shelf.Ren := ⟨fun | 7 => 68 | 10 => 116 | n => n, fun | 23 => 85 | 26 => 9 | 3 => 78 | 28 => 89 | 0 => 0 | 27 => 88 | 33 => 63 | 4 => 4 | n => n, fun | n => n⟩
theorem Tryz.keysM : Go.Proofs.SlLaysZ.n7 Tryz.prog Tryz.keysM_ren := {
 mixed := by kernel_rfl
 f7 := ⟨Tryz.f68.name, by decide, Tryz.func68.trans (congrArg some (by kernel_rfl))⟩
 f10 := ⟨Tryz.f116.name, by decide, Tryz.func116.trans (congrArg some (by kernel_rfl))⟩
 t0 := Tryz.underlying0
 a0 := Tryz.isAgg0
 z0 := Tryz.sizeOf0
 v0 := Tryz.zeroValue0
 t4 := Tryz.underlying4
 a4 := Tryz.isAgg4
 z4 := Tryz.sizeOf4
 v4 := Tryz.zeroValue4
 t23 := Tryz.underlying85
 a23 := Tryz.isAgg85
 z23 := Tryz.sizeOf85
 v23 := Tryz.zeroValue85
 t26 := Tryz.underlying9
 a26 := Tryz.isAgg9
 z26 := Tryz.sizeOf9
 v26 := Tryz.zeroValue9
 t27 := Tryz.underlying88
 a27 := Tryz.isAgg88
 z27 := Tryz.sizeOf88
 v27 := Tryz.zeroValue88
 t28 := Tryz.underlying89
 a28 := Tryz.isAgg89
 z28 := Tryz.sizeOf89
 v28 := Tryz.zeroValue89
 t33 := Tryz.underlying63
 a33 := Tryz.isAgg63
 z33 := Tryz.sizeOf63
 v33 := Tryz.zeroValue63 }
def Tryz.sortedM_ren : Go.Shelf.Ren := ⟨fun | 6 => 67 | 8 => 114 | 9 => 115 | 11 => 153 | 13 => 86 | 12 => 154 | 23 => 137 | 24 => 138 | 14 => 188 | 15 => 189 | 16 => 190 | 17 => 191 | 18 => 192 | 19 => 193 | 20 => 194 | 21 => 195 | 22 => 196 | 25 => 205 | 26 => 164 | 27 => 165 | 28 => 206 | 29 => 207 | 30 => 208 | 31 => 229 | n => n, fun | 26 => 9 | 28 => 89 | 24 => 86 | 0 => 0 | 3 => 3 | 37 => 108 | 48 => 157 | 50 => 159 | 4 => 4 | 40 => 150 | 39 => 149 | 45 => 154 | 5 => 5 | 9 => 9 | 51 => 180 | 55 => 184 | 57 => 207 | 58 => 109 | 33 => 63 | n => n, fun | n => n⟩
theorem Tryz.sortedM : Go.Proofs.SlLaysZ.n6 Tryz.prog Tryz.sortedM_ren := {
 mixed := by kernel_rfl
 f6 := ⟨Tryz.f67.name, by decide, Tryz.func67.trans (congrArg some (by kernel_rfl))⟩
 f8 := ⟨Tryz.f114.name, by decide, Tryz.func114.trans (congrArg some (by kernel_rfl))⟩
 f11 := ⟨Tryz.f153.name, by decide, Tryz.func153.trans (congrArg some (by kernel_rfl))⟩
 t0 := Tryz.underlying0
 a0 := Tryz.isAgg0
 z0 := Tryz.sizeOf0
 v0 := Tryz.zeroValue0
 t24 := Tryz.underlying86
 a24 := Tryz.isAgg86
 z24 := Tryz.sizeOf86
 v24 := Tryz.zeroValue86
 t26 := Tryz.underlying9
 a26 := Tryz.isAgg9
 z26 := Tryz.sizeOf9
 v26 := Tryz.zeroValue9
 t28 := Tryz.underlying89
 a28 := Tryz.isAgg89
 z28 := Tryz.sizeOf89
 v28 := Tryz.zeroValue89
 i26 := by kernel_rfl }
def Tryz.sortM_ren : Go.Shelf.Ren := ⟨fun | 6 => 115 | 8 => 86 | 9 => 154 | 19 => 137 | 20 => 138 | 21 => 188 | 22 => 189 | 23 => 190 | 24 => 191 | 25 => 192 | 26 => 193 | 27 => 194 | 28 => 195 | 29 => 196 | 36 => 205 | 31 => 164 | 32 => 165 | 37 => 206 | 38 => 207 | 39 => 208 | 41 => 229 | n => n, fun | 27 => 86 | 29 => 9 | 3 => 3 | 32 => 108 | 26 => 86 | 0 => 0 | 44 => 157 | 46 => 159 | 4 => 4 | 36 => 150 | 35 => 149 | 41 => 154 | 5 => 5 | 9 => 9 | 53 => 180 | 57 => 184 | 63 => 207 | 64 => 109 | n => n, fun | n => n⟩
theorem Tryz.sortM : Go.Proofs.SlLaysM.n6 Tryz.prog Tryz.sortM_ren := {
 mixed := by kernel_rfl
 f6 := ⟨Tryz.f115.name, by decide, Tryz.func115.trans (congrArg some (by kernel_rfl))⟩
 f8 := Tryz.func86.trans (congrArg some (by kernel_rfl))
 f9 := ⟨Tryz.f154.name, by decide, Tryz.func154.trans (congrArg some (by kernel_rfl))⟩
 f19 := Tryz.func137.trans (congrArg some (by kernel_rfl))
 f20 := Tryz.func138.trans (congrArg some (by kernel_rfl))
 f21 := ⟨Tryz.f188.name, by decide, Tryz.func188.trans (congrArg some (by kernel_rfl))⟩
 f22 := ⟨Tryz.f189.name, by decide, Tryz.func189.trans (congrArg some (by kernel_rfl))⟩
 f23 := ⟨Tryz.f190.name, by decide, Tryz.func190.trans (congrArg some (by kernel_rfl))⟩
 f24 := ⟨Tryz.f191.name, by decide, Tryz.func191.trans (congrArg some (by kernel_rfl))⟩
 f25 := ⟨Tryz.f192.name, by decide, Tryz.func192.trans (congrArg some (by kernel_rfl))⟩
 f26 := ⟨Tryz.f193.name, by decide, Tryz.func193.trans (congrArg some (by kernel_rfl))⟩
 f27 := ⟨Tryz.f194.name, by decide, Tryz.func194.trans (congrArg some (by kernel_rfl))⟩
 f28 := ⟨Tryz.f195.name, by decide, Tryz.func195.trans (congrArg some (by kernel_rfl))⟩
 f29 := ⟨Tryz.f196.name, by decide, Tryz.func196.trans (congrArg some (by kernel_rfl))⟩
 f31 := Tryz.func164.trans (congrArg some (by kernel_rfl))
 f32 := Tryz.func165.trans (congrArg some (by kernel_rfl))
 f36 := ⟨Tryz.f205.name, by decide, Tryz.func205.trans (congrArg some (by kernel_rfl))⟩
 f37 := ⟨Tryz.f206.name, by decide, Tryz.func206.trans (congrArg some (by kernel_rfl))⟩
 f38 := ⟨Tryz.f207.name, by decide, Tryz.func207.trans (congrArg some (by kernel_rfl))⟩
 f39 := ⟨Tryz.f208.name, by decide, Tryz.func208.trans (congrArg some (by kernel_rfl))⟩
 f41 := ⟨Tryz.f229.name, by decide, Tryz.func229.trans (congrArg some (by kernel_rfl))⟩
 t0 := Tryz.underlying0
 a0 := Tryz.isAgg0
 z0 := Tryz.sizeOf0
 v0 := Tryz.zeroValue0
 t3 := Tryz.underlying3
 a3 := Tryz.isAgg3
 z3 := Tryz.sizeOf3
 v3 := Tryz.zeroValue3
 t4 := Tryz.underlying4
 a4 := Tryz.isAgg4
 z4 := Tryz.sizeOf4
 v4 := Tryz.zeroValue4
 t5 := Tryz.underlying5
 a5 := Tryz.isAgg5
 z5 := Tryz.sizeOf5
 v5 := Tryz.zeroValue5
 t9 := Tryz.underlying9
 a9 := Tryz.isAgg9
 z9 := Tryz.sizeOf9
 v9 := Tryz.zeroValue9
 t26 := Tryz.underlying86
 a26 := Tryz.isAgg86
 z26 := Tryz.sizeOf86
 v26 := Tryz.zeroValue86
 t27 := Tryz.underlying86
 a27 := Tryz.isAgg86
 z27 := Tryz.sizeOf86
 v27 := Tryz.zeroValue86
 t29 := Tryz.underlying9
 a29 := Tryz.isAgg9
 z29 := Tryz.sizeOf9
 v29 := Tryz.zeroValue9
 t32 := Tryz.underlying108
 a32 := Tryz.isAgg108
 z32 := Tryz.sizeOf108
 v32 := Tryz.zeroValue108
 t35 := Tryz.underlying149
 a35 := Tryz.isAgg149
 z35 := Tryz.sizeOf149
 v35 := Tryz.zeroValue149
 t36 := Tryz.underlying150
 a36 := Tryz.isAgg150
 z36 := Tryz.sizeOf150
 v36 := Tryz.zeroValue150
 t41 := Tryz.underlying154
 a41 := Tryz.isAgg154
 z41 := Tryz.sizeOf154
 v41 := Tryz.zeroValue154
 t44 := Tryz.underlying157
 a44 := Tryz.isAgg157
 z44 := Tryz.sizeOf157
 v44 := Tryz.zeroValue157
 t46 := Tryz.underlying159
 a46 := Tryz.isAgg159
 z46 := Tryz.sizeOf159
 v46 := Tryz.zeroValue159
 t53 := Tryz.underlying180
 a53 := Tryz.isAgg180
 z53 := Tryz.sizeOf180
 v53 := Tryz.zeroValue180
 t57 := Tryz.underlying184
 a57 := Tryz.isAgg184
 z57 := Tryz.sizeOf184
 v57 := Tryz.zeroValue184
 t63 := Tryz.underlying207
 a63 := Tryz.isAgg207
 z63 := Tryz.sizeOf207
 v63 := Tryz.zeroValue207
 t64 := Tryz.underlying109
 a64 := Tryz.isAgg109
 z64 := Tryz.sizeOf109
 v64 := Tryz.zeroValue109 }
end Go.Proofs
namespace Go.Proofs.YtfpmijfcemopoaaGreat
open Go.RowKit Go.Maps Go.Sort Go.Shelf

theorem sorts_in (m : Nat) : AnyZ.SortsIn Tryz.prog Tryz.sortedM_ren Fence.wide m :=
 ⟨fun blk off cap ss W hH hblk hsz => callsIn_wide.2 (AnyM.slices_Sort_string Tryz.sortM blk off cap ss W hH hblk hsz),
 fun p cap W => callsIn_wide.2 (AnyM.slices_Sort_string_none Tryz.sortM p cap W)⟩
theorem keys_any (mb : Option Nat) (W : World) : Calls Tryz.prog 68 #[.map mb] W fun e w' => e = .returned (.func (.func 116) #[] #[.pointer (some ⟨W.heap.size, 0, none⟩)]) ∧ w' = W.alloc (.cells #[.map mb] 85) :=
 (callsIn_wide (n := 5)).1 (AnyZ.keys_in Tryz.keysM Fence.wide 5 trivial rfl mb W)
def GivesSs (w w' : World) (e : Ending) (T : List (List UInt8)) : Prop := ∃ v, e = .returned v ∧ w'.ownsRow w.heap.size 9 1 v T.length (T.map encStr) ∧ Below w.heap.size w w'
set_option maxHeartbeats 1000000 in
theorem sortedKeys_any {H : Type} (b nn : Nat) (D0 : DataW H) (R : Value → Option (DataW H × List MemPlace)) (w : World) (hown : w.ownsMap Tryz.prog 9 R b nn D0) (hmax : Maps.size D0 ≤ maxLen) (hbytes : Maps.size D0 * 16 ≤ 140737488355328) :
  Calls Tryz.prog 67 #[.func (.func 116) #[] #[.pointer (some ⟨w.heap.size, 0, none⟩)]] (w.alloc (.cells #[.map (some b)] 85)) fun e w' => ∃ ss : List (List UInt8), ss.Perm (strKeys D0) ∧ GivesSs (w.alloc (.cells #[.map (some b)] 85)) w' e (ss.mergeSort leB) := by
 have hbl := hown.lt
 have hseq : SeqGives Fence.wide 2 Tryz.prog 116 #[.pointer (some ⟨w.heap.size, 0, none⟩)] encStr (fun ss => ss.Perm (strKeys D0)) (Maps.size D0) (w.alloc (.cells #[.map (some b)] 85)) :=
  AnyZ.keys_gives (ρ := Tryz.keysM_ren) { Tryz.keysM with } Fence.wide _ trivial rfl (by omega) w.heap.size b nn D0 _ (by simp) (by simp) (by
   obtain ⟨es, clock, hb, Ft, hs, hD⟩ := hown
   exact ⟨es, clock, (Below.heap_alloc _ _ b hbl).trans hb, Ft, hs, hD⟩)
 have h := AnyZ.sorted_in Tryz.sortedM Fence.wide 5 trivial trivial trivial trivial rfl (by omega) (sorts_in _) (enters_of Tryz.func115 (by kernel_rfl) rfl) 116 #[.pointer (some ⟨w.heap.size, 0, none⟩)] trivial (enters_of Tryz.func116 (by kernel_rfl) rfl) _ _ hmax hbytes _ hseq
 refine ((callsIn_wide (n := 5)).1 h).mono ?_
 rintro e w' ⟨v, ss, rfl, hS, hrow, _, hb⟩
 refine ⟨ss, hS, v, rfl, ?_, hb⟩
 have e1 : (ss.mergeSort leB).length = ss.length := (List.mergeSort_perm ss leB).length_eq
 rw [e1]
 exact hrow
end Go.Proofs.YtfpmijfcemopoaaGreat
namespace Go.Proofs.YtfpmijfcemopoaaGreat
open Go.RowKit

def mP (P : Pst) : Nat → Int → Prop := fun r n => mem (runsAt P r) n
def mOr (M M' : Nat → Int → Prop) : Nat → Int → Prop := fun r n => M r n ∨ M' r n
def mAnd (M M' : Nat → Int → Prop) : Nat → Int → Prop := fun r n => M r n ∧ M' r n
def mNot (M M' : Nat → Int → Prop) : Nat → Int → Prop := fun r n => M r n ∧ ¬ M' r n
def IsP (M : Nat → Int → Prop) (P : Pst) : Prop := ∃ C, CanonOf C P ∧ ∀ r, r < 16 → ∀ n, mem (C r) n ↔ M r n
def Eqv (M M' : Nat → Int → Prop) : Prop := ∀ r, r < 16 → ∀ n, M r n ↔ M' r n
theorem IsP.unique {M M' : Nat → Int → Prop} {P P' : Pst} (h : IsP M P) (h' : IsP M' P') (e : Eqv M M') : P = P' := by
 obtain ⟨C, hC, hm⟩ := h
 obtain ⟨C', hC', hm'⟩ := h'
 exact hC.unique hC' (fun r hr n => (hm r hr n).trans ((e r hr n).trans (hm' r hr n).symm))
theorem IsP.mem {M : Nat → Int → Prop} {P : Pst} (h : IsP M P) : Eqv (mP P) M := by
 obtain ⟨C, hC, hm⟩ := h
 exact fun r hr n => (canon_mem hC r hr n).trans (hm r hr n)
theorem IsP.len {M : Nat → Int → Prop} {P : Pst} (h : IsP M P) : P.cloud.length ≤ 8000000016 := by
 obtain ⟨C, hC, _⟩ := h
 exact (canon_len hC).1
theorem isP_minus {a b : Pst} {P : Pst} (h : ∃ C : Nat → List Rn, (∀ r, r < 16 → MinusOf (runsAt a r) (runsAt b r) (C r)) ∧ CanonOf C P) : IsP (mNot (mP a) (mP b)) P := by
 obtain ⟨C, hM, hC⟩ := h
 exact ⟨C, hC, fun r hr n => (hM r hr).2 n⟩
def SzP (M : Nat → Int → Prop) (z : Int) : Prop := ∃ N, (∀ r, r < 16 → form 1 (N r) ∧ ∀ n, Go.Proofs.YtfpmijfcemopoaaGreat.mem (N r) n ↔ M r n) ∧ z = sumZ N 16
theorem SzP.unique {M M' : Nat → Int → Prop} {z z' : Int} (h : SzP M z) (h' : SzP M' z') (e : Eqv M M') : z = z' := by
 obtain ⟨N, hN, rfl⟩ := h
 obtain ⟨N', hN', rfl⟩ := h'
 exact sumZ_congr 16 fun r hr => form_unique (Int.le_refl _) (hN r hr).1 (hN' r hr).1 (fun n => ((hN r hr).2 n).trans ((e r hr n).trans ((hN' r hr).2 n).symm))
theorem SzP.bd {M : Nat → Int → Prop} {z : Int} (h : SzP M z) : 0 ≤ z ∧ z ≤ 16000000000 := by
 obtain ⟨N, hN, rfl⟩ := h
 have := sumZ_bd (N := N) 16 (fun r hr => (hN r hr).1)
 omega
theorem SzP.none : SzP (fun _ _ => False) 0 := ⟨fun _ => [], fun _ _ => ⟨trivial, fun n => ⟨fun h => mem_nil n h, fun h => h.elim⟩⟩, by decide⟩
theorem SzP.congr {M M' : Nat → Int → Prop} {z : Int} (h : SzP M z) (e : Eqv M M') : SzP M' z := by
 obtain ⟨N, hN, rfl⟩ := h
 exact ⟨N, fun r hr => ⟨(hN r hr).1, fun n => ((hN r hr).2 n).trans (e r hr n)⟩, rfl⟩
theorem IsP.congr {M M' : Nat → Int → Prop} {P : Pst} (h : IsP M P) (e : Eqv M M') : IsP M' P := by
 obtain ⟨C, hC, hm⟩ := h
 exact ⟨C, hC, fun r hr n => (hm r hr n).trans (e r hr n)⟩
end Go.Proofs.YtfpmijfcemopoaaGreat
namespace Go.Proofs.YtfpmijfcemopoaaGreat
open Go.RowKit Go.Maps Go.Sort
theorem OwnRc.setOther {B : Nat} {w W : World} {h : Hs} {L : List Rc} (O : OwnRc B w W h L) (g : Nat) (cs : Array Value) (hg : w.heap.size ≤ g) (hne : (HsV h).ownBlock ≠ some g) (hf : ∀ r ∈ L, PFar r.p g) : OwnRc B w (W.setRow g cs) h L := by
 have hs : (W.setRow g cs).heap.size = W.heap.size := by simp [World.setRow]
 have hk : ∀ q, q < W.heap.size → some q ≠ some g → (W.setRow g cs).heap[q]? = W.heap[q]? := fun q _ hq => setRow_other _ _ _ _ (fun e => hq (by rw [e]))
 have hG : W.grownBy (W.setRow g cs) (some g) := ⟨rfl, rfl, rfl, by omega, hk⟩
 exact ⟨O.own.kept hG (.inr hne), fun r hr => ⟨⟨psrc_keep (O.ok r hr).1.1 (fun k e => by obtain rfl := Option.some.inj e; exact hf r hr) hk, (O.ok r hr).1.2⟩, (O.ok r hr).2⟩, below_setRow O.below hg, O.hB.1, by have := O.hB.2; omega⟩
def ofS (R : List Rc) (s : ByteArray) : List Pv := (R.filter (fun r => decide (r.s = s))).map (fun r => r.p)
theorem ofS_len (R : List Rc) (s : ByteArray) : (ofS R s).length ≤ R.length := by unfold ofS; rw [List.length_map]; exact List.length_filter_le _ _
theorem ofS_snoc (R : List Rc) (r : Rc) (s : ByteArray) : pvs (ofS (R ++ [r]) s) = if s = r.s then pvs (ofS R s) ++ (PC r.p).toList else pvs (ofS R s) := by
 unfold ofS
 rw [List.filter_append, List.map_append, pvs_append]
 by_cases h : s = r.s
 ·subst h; simp [pvs_one]
 ·have h' : ¬ r.s = s := fun e => h e.symm
  simp [h, h', pvs]
theorem ofS_mem {R : List Rc} {s : ByteArray} {p : Pv} : p ∈ ofS R s ↔ ∃ r ∈ R, r.s = s ∧ r.p = p := by
 unfold ofS
 rw [List.mem_map]
 constructor
 ·rintro ⟨r, hr, rfl⟩
  have := List.mem_filter.1 hr
  exact ⟨r, this.1, by simpa using this.2, rfl⟩
 ·rintro ⟨r, hr, hs, rfl⟩
  exact ⟨r, List.mem_filter.2 ⟨hr, by simpa using hs⟩, rfl⟩
theorem runsOf_mem (X : List Pv) (r : Nat) (n : Int) : mem (runsOf X r) n ↔ ∃ p ∈ X, mem (runsAt p.P r) n := by
 induction X with
 | nil => simp [runsOf, mem]
 | cons p X ih =>
  have e : runsOf (p :: X) r = runsAt p.P r ++ runsOf X r := rfl
  rw [e, mem_append, ih]
  simp
def nilF : ByteArray := ⟨#[]⟩
def FoldM (R : List Rc) (s : ByteArray) (r : Nat) (n : Int) : Prop := (∃ x ∈ R, x.s = s ∧ mem (runsAt x.p.P r) n) ∧ (s ≠ nilF → ¬ ∃ x ∈ R, x.s = nilF ∧ mem (runsAt x.p.P r) n)
theorem join_all {R : List Rc} {s : ByteArray} {P : Pst} (h : CanonOf (runsOf (ofS R s)) P) (r : Nat) (hr : r < 16) (n : Int) : mem (runsAt P r) n ↔ ∃ x ∈ R, x.s = s ∧ mem (runsAt x.p.P r) n := by
 rw [canon_mem h r hr n, runsOf_mem]
 constructor
 ·rintro ⟨p, hp, hm⟩
  obtain ⟨x, hx, hs, rfl⟩ := ofS_mem.1 hp
  exact ⟨x, hx, hs, hm⟩
 ·rintro ⟨x, hx, hs, hm⟩
  exact ⟨x.p, ofS_mem.2 ⟨x, hx, hs, rfl⟩, hm⟩
theorem fold_nil {R : List Rc} {P : Pst} (h : CanonOf (runsOf (ofS R nilF)) P) : IsP (FoldM R nilF) P :=
 ⟨_, h, fun r hr n => by
  rw [← canon_mem h r hr n, join_all h r hr n]
  exact ⟨fun h => ⟨h, fun e => absurd rfl e⟩, fun h => h.1⟩⟩
theorem fold_sku {R : List Rc} {s : ByteArray} {P A M : Pst} (hs : s ≠ nilF) (h : CanonOf (runsOf (ofS R s)) P) (ha : CanonOf (runsOf (ofS R nilF)) A) (hm : ∃ C : Nat → List Rn, (∀ r, r < 16 → MinusOf (runsAt P r) (runsAt A r) (C r)) ∧ CanonOf C M) : IsP (FoldM R s) M := by
 obtain ⟨C, hC, hI⟩ := isP_minus hm
 refine ⟨C, hC, fun r hr n => (hI r hr n).trans ?_⟩
 show mem (runsAt P r) n ∧ ¬ mem (runsAt A r) n ↔ _
 rw [join_all h r hr n, join_all ha r hr n]
 exact ⟨fun h => ⟨h.1, fun _ => h.2⟩, fun h => ⟨h.1, h.2 hs⟩⟩
def FoldOf (R F : List Rc) : Prop := F.Pairwise (fun a b => cmpS a.s b.s < 0) ∧ (∀ x ∈ F, (∃ r ∈ R, r.s = x.s) ∧ IsP (FoldM R x.s) x.p.P ∧ ¬ EmptyP x.p.P) ∧ ∀ s, (∃ r ∈ R, r.s = s) → (∀ x ∈ F, x.s ≠ s) → ∀ r, r < 16 → ∀ n, ¬ FoldM R s r n
def FPre (R : List Rc) (T : List (List UInt8)) (F : List Rc) : Prop := (F.map (fun x => x.s.data.toList)).Sublist T ∧ (∀ x ∈ F, IsP (FoldM R x.s) x.p.P ∧ ¬ EmptyP x.p.P) ∧ ∀ t ∈ T, (∀ x ∈ F, x.s ≠ ⟨t.toArray⟩) → ∀ r, r < 16 → ∀ n, ¬ FoldM R ⟨t.toArray⟩ r n
theorem FPre.start (R : List Rc) : FPre R [] [] := ⟨List.Sublist.refl _, fun x h => (by cases h), fun t h => (by cases h)⟩
theorem FPre.skip {R F : List Rc} {T : List (List UInt8)} (h : FPre R T F) (t : List UInt8) (he : ∀ r, r < 16 → ∀ n, ¬ FoldM R ⟨t.toArray⟩ r n) : FPre R (T ++ [t]) F := by
 refine ⟨h.1.trans (List.sublist_append_left _ _), h.2.1, fun u hu hn => ?_⟩
 rcases List.mem_append.1 hu with hu | hu
 ·exact h.2.2 u hu hn
 ·obtain rfl : u = t := by simpa using hu
  exact he
theorem FPre.add {R F : List Rc} {T : List (List UInt8)} (h : FPre R T F) (t : List UInt8) (x : Rc) (hx : x.s = ⟨t.toArray⟩) (hI : IsP (FoldM R x.s) x.p.P) (hE : ¬ EmptyP x.p.P) : FPre R (T ++ [t]) (F ++ [x]) := by
 refine ⟨?_, fun y hy => ?_, fun u hu hn => ?_⟩
 ·rw [List.map_append]
  refine h.1.append ?_
  simp [hx]
 ·rcases List.mem_append.1 hy with hy | hy
  ·exact h.2.1 y hy
  ·obtain rfl : y = x := by simpa using hy
   exact ⟨hI, hE⟩
 ·rcases List.mem_append.1 hu with hu | hu
  ·exact h.2.2 u hu (fun y hy => hn y (List.mem_append_left _ hy))
  ·obtain rfl : u = t := by simpa using hu
   exact absurd hx (hn x (by simp))
theorem FPre.done {R F : List Rc} {T : List (List UInt8)} (h : FPre R T F) (hT : T.Pairwise (fun a b => Lib.compareBytes a b < 0)) (hK : ∀ t, t ∈ T ↔ ∃ r ∈ R, r.s = ⟨t.toArray⟩) : FoldOf R F := by
 refine ⟨List.pairwise_map.1 (hT.sublist h.1), fun x hx => ⟨?_, h.2.1 x hx⟩, fun s hs hn => ?_⟩
 ·have := (hK x.s.data.toList).1 (h.1.subset (List.mem_map.2 ⟨x, hx, rfl⟩))
  simpa using this
 ·have hm : s.data.toList ∈ T := (hK _).2 (by simpa using hs)
  have := h.2.2 _ hm (by simpa using hn)
  simpa using this
end Go.Proofs.YtfpmijfcemopoaaGreat
namespace Go.Proofs.YtfpmijfcemopoaaGreat
open Go.RowKit
attribute [local go_sem ↓] ldR_eq stR_eq
attribute [local go_sem] zero_RC cells_RV RC_size fold_RC
theorem build_RC (x y : Int) : ((RC rn0).setIfInBounds 0 (.int .i64 x)).setIfInBounds 1 (.int .i64 y) = RC ⟨x, y⟩ := rfl
attribute [local go_sem] build_RC
def lenOfS : Value → Nat
 | .slice _ n _ => n
 | _ => 0
set_option maxRecDepth 100000 in
set_option maxHeartbeats 8000000 in
theorem meet_new (ao bo : Option Addr) (n cap m cap' : Nat) (A B : List Rn) (w : World) (hS : RSrc w ao n cap A) (hR : RSrc w bo m cap' B) :
  Calls Tryz.prog 102 #[.slice ao n cap, .slice bo m cap'] w fun e w' => GivesRN w w' e (MeetOf A B) := by
 have HS := hide hS
 have HR := hide hR
 clear hS hR
 go_enter Tryz.func102, Tryz.ntmps102
 go_wp2_with fail
 refine (norm_any ao n cap A _ HS.out).mono ?_
 rintro e w1 ⟨a1, n1, c1, X, rfl, S1, b1, p1⟩
 have HS1 := hide S1
 have HP1 := hide p1
 have HB1 := hide b1
 clear S1 b1 p1
 go_wp2_with fail
 refine (norm_any bo m cap' B _ (HR.out.below HB1.out)).mono ?_
 rintro e w2 ⟨a2, n2, c2, Y, rfl, S2, b2, p2⟩
 have HS2 := hide S2
 have HP2 := hide p2
 have HS1' := hide (HS1.out.below b2)
 have HB2 := hide (HB1.out.trans (b2.mono HB1.out.size))
 clear S2 b2 p2 HS1 HB1
 go_wp2_with fail
 go_loopw [5, 6, 7, 8, 9] (fun u v o _ _ wr => ∃ (ax : Option Addr) (nx cx : Nat) (x' : List Rn) (ay : Option Addr) (ny cy : Nat) (y' : List Rn) (ap : Option Addr) (c : Nat) (acc : List Rn), u = .slice ax nx cx ∧ v = .slice ay ny cy ∧ o = .slice ap acc.length c ∧ RSrc w2 ax nx cx x' ∧ RSrc w2 ay ny cy y' ∧ OwnR w2.heap.size w2.heap.size w2 wr ap c acc ∧ MtInv X Y x' y' acc) (fun u v _ _ _ _ => lenOfS u + lenOfS v)
 case atStart => exact ⟨a1, n1, c1, X, a2, n2, c2, Y, none, 0, [], rfl, rfl, rfl, HS1'.out, HS2.out, OwnR.nil (Below.refl _ _) (Nat.le_refl _) (Nat.le_refl _), MtInv.start HP1.out.1 HP2.out.1⟩
 case round =>
  obtain ⟨ax, nx, cx, x', ay, ny, cy, y', ap, c, acc, rfl, rfl, rfl, SX, SY, O, I⟩ := hrel
  rename World => w4
  have H : Hid (OwnR w2.heap.size w2.heap.size w2 w4 ap c acc ∧ MtInv X Y x' y' acc) := ⟨O, I⟩
  have HSX := hide SX
  have HSY := hide SY
  have hal := form_small (Int.le_refl _) I.frm
  have hcx := SX.cap
  have hcy := SY.cap
  have hrx := SX.room
  have hry := SY.room
  unfold maxLen at hrx hry
  clear SX SY O I
  by_cases h1 : 0 < nx
  ·by_cases h2 : 0 < ny
   ·obtain ⟨adx, rfl, _⟩ := HSX.out.at 0 h1
    obtain ⟨ady, rfl, _⟩ := HSY.out.at 0 h2
    obtain ⟨bx, ox, rfl⟩ := HSX.out.spot h1
    obtain ⟨by_, oy, rfl⟩ := HSY.out.spot h2
    obtain ⟨a, xs, rfl⟩ : ∃ a xs, x' = a :: xs := by
     have := HSX.out.len
     cases x' with
     | nil => simp at this; omega
     | cons a xs => exact ⟨a, xs, rfl⟩
    obtain ⟨b, ys, rfl⟩ : ∃ b ys, y' = b :: ys := by
     have := HSY.out.len
     cases y' with
     | nil => simp at this; omega
     | cons b ys => exact ⟨b, ys, rfl⟩
    obtain ⟨q0, q1⟩ := HSX.out.nums 0 h1
    obtain ⟨q2, q3⟩ := HSY.out.nums 0 h2
    simp [List.getD] at q0 q1 q2 q3
    have HQ1 := hide q1
    have HQ3 := hide q3
    have k0 := cell_regrown ((H.out.1.below.cell (World.block_lt_of_cell? _ _ q0)).trans q0)
    have k1 := cell_regrown ((H.out.1.below.cell (World.block_lt_of_cell? _ _ q1)).trans q1)
    have k2 := cell_regrown ((H.out.1.below.cell (World.block_lt_of_cell? _ _ q2)).trans q2)
    have k3 := cell_regrown ((H.out.1.below.cell (World.block_lt_of_cell? _ _ q3)).trans q3)
    clear q0 q1 q2 q3
    by_cases hle : max a.lo b.lo ≤ min a.hi b.hi
    ·by_cases hlt : a.hi < b.hi
     ·go_wp2_with fail
      refine wp_region_quiet_below (by kernel_rfl) (by kernel_rfl) ?_
      repeat (with_reducible (refine wpQuiet_step ?_); intro K hK; go_simp; (try rw [if_neg (by unfold undef; simp)]); first | (with_reducible (refine hK _ ?_); clear hK K) | (apply Exists.intro; refine ⟨fun _ => ?_, hK _ ?_⟩; (fail); clear hK K))
      with_reducible (refine wpQuiet_nil ?_)
      intro w5 hw'
      obtain ⟨⟨dq, osq⟩, hw''⟩ := hw'
      have b5 : Below w4.heap.size w4 w5 := by rw [hw'']; exact below_regrown w4 dq osq
      clear hw'' dq osq
      have HO5 := hide (H.out.1.later b5)
      clear b5 k0 k1 k2 k3
      go_wp2_with (at_builtin; refine HO5.out.append ⟨max a.lo b.lo, min a.hi b.hi⟩ _ rfl (by omega) rfl (.tmp 43) (.tmp 47) rfl acc.length rfl rfl rfl ?_; intro g6 c6 w6 O6)
      have HO6 := hide O6
      clear O6
      have hl6 : (acc ++ [(⟨max a.lo b.lo, min a.hi b.hi⟩ : Rn)]).length = acc.length + 1 := by simp
      have k1 := cell_regrown ((HO6.out.below.cell (World.block_lt_of_cell? _ _ HQ1.out)).trans HQ1.out)
      have k3 := cell_regrown ((HO6.out.below.cell (World.block_lt_of_cell? _ _ HQ3.out)).trans HQ3.out)
      refine wp_region_quiet_below (by kernel_rfl) (by kernel_rfl) ?_
      repeat (with_reducible (refine wpQuiet_step ?_); intro K hK; go_simp; (try rw [if_neg (by unfold undef; simp)]); first | (with_reducible (refine hK _ ?_); clear hK K) | (apply Exists.intro; refine ⟨fun _ => ?_, hK _ ?_⟩; (fail); clear hK K))
      with_reducible (refine wpQuiet_nil ?_)
      intro w8 hw'
      obtain ⟨⟨dq, osq⟩, hw''⟩ := hw'
      have b8 : Below w6.heap.size w6 w8 := by rw [hw'']; exact below_regrown w6 dq osq
      clear hw'' dq osq
      have HO8 := hide (HO6.out.later b8)
      clear b8 k1 k3
      have HM : Hid (met acc a b = acc ++ [⟨max a.lo b.lo, min a.hi b.hi⟩]) := by show _ = _; unfold met; rw [if_pos (by omega)]
      have HN := hide (H.out.2.left (by omega))
      rw [HM.out] at HN
      go_wp2_with fail
      go_roundw
      case rel => exact ⟨if cx = 1 then some ⟨bx, ox, none⟩ else some ⟨bx, ox + 2, none⟩, nx - 1, cx - 1, xs, some ⟨by_, oy, none⟩, ny, cy, b :: ys, some ⟨g6, 0, none⟩, c6, acc ++ [⟨max a.lo b.lo, min a.hi b.hi⟩], rfl, rfl, by simp, HSX.out.tail', HSY.out, HO8.out, HN.out⟩
      case measure => simp [lenOfS]; omega
     ·go_wp2_with fail
      refine wp_region_quiet_below (by kernel_rfl) (by kernel_rfl) ?_
      repeat (with_reducible (refine wpQuiet_step ?_); intro K hK; go_simp; (try rw [if_neg (by unfold undef; simp)]); first | (with_reducible (refine hK _ ?_); clear hK K) | (apply Exists.intro; refine ⟨fun _ => ?_, hK _ ?_⟩; (fail); clear hK K))
      with_reducible (refine wpQuiet_nil ?_)
      intro w5 hw'
      obtain ⟨⟨dq, osq⟩, hw''⟩ := hw'
      have b5 : Below w4.heap.size w4 w5 := by rw [hw'']; exact below_regrown w4 dq osq
      clear hw'' dq osq
      have HO5 := hide (H.out.1.later b5)
      clear b5 k0 k1 k2 k3
      go_wp2_with (at_builtin; refine HO5.out.append ⟨max a.lo b.lo, min a.hi b.hi⟩ _ rfl (by omega) rfl (.tmp 43) (.tmp 47) rfl acc.length rfl rfl rfl ?_; intro g6 c6 w6 O6)
      have HO6 := hide O6
      clear O6
      have hl6 : (acc ++ [(⟨max a.lo b.lo, min a.hi b.hi⟩ : Rn)]).length = acc.length + 1 := by simp
      have k1 := cell_regrown ((HO6.out.below.cell (World.block_lt_of_cell? _ _ HQ1.out)).trans HQ1.out)
      have k3 := cell_regrown ((HO6.out.below.cell (World.block_lt_of_cell? _ _ HQ3.out)).trans HQ3.out)
      refine wp_region_quiet_below (by kernel_rfl) (by kernel_rfl) ?_
      repeat (with_reducible (refine wpQuiet_step ?_); intro K hK; go_simp; (try rw [if_neg (by unfold undef; simp)]); first | (with_reducible (refine hK _ ?_); clear hK K) | (apply Exists.intro; refine ⟨fun _ => ?_, hK _ ?_⟩; (fail); clear hK K))
      with_reducible (refine wpQuiet_nil ?_)
      intro w8 hw'
      obtain ⟨⟨dq, osq⟩, hw''⟩ := hw'
      have b8 : Below w6.heap.size w6 w8 := by rw [hw'']; exact below_regrown w6 dq osq
      clear hw'' dq osq
      have HO8 := hide (HO6.out.later b8)
      clear b8 k1 k3
      have HM : Hid (met acc a b = acc ++ [⟨max a.lo b.lo, min a.hi b.hi⟩]) := by show _ = _; unfold met; rw [if_pos (by omega)]
      have HN := hide (H.out.2.right (by omega))
      rw [HM.out] at HN
      go_wp2_with fail
      go_roundw
      case rel => exact ⟨some ⟨bx, ox, none⟩, nx, cx, a :: xs, if cy = 1 then some ⟨by_, oy, none⟩ else some ⟨by_, oy + 2, none⟩, ny - 1, cy - 1, ys, some ⟨g6, 0, none⟩, c6, acc ++ [⟨max a.lo b.lo, min a.hi b.hi⟩], rfl, rfl, by simp, HSX.out, HSY.out.tail', HO8.out, HN.out⟩
      case measure => simp [lenOfS]; omega
    ·by_cases hlt : a.hi < b.hi
     ·go_wp2_with fail
      refine wp_region_quiet_below (by kernel_rfl) (by kernel_rfl) ?_
      repeat (with_reducible (refine wpQuiet_step ?_); intro K hK; go_simp; (try rw [if_neg (by unfold undef; simp)]); first | (with_reducible (refine hK _ ?_); clear hK K) | (apply Exists.intro; refine ⟨fun _ => ?_, hK _ ?_⟩; (fail); clear hK K))
      with_reducible (refine wpQuiet_nil ?_)
      intro w5 hw'
      obtain ⟨⟨dq, osq⟩, hw''⟩ := hw'
      have b5 : Below w4.heap.size w4 w5 := by rw [hw'']; exact below_regrown w4 dq osq
      clear hw'' dq osq
      have HO5 := hide (H.out.1.later b5)
      clear b5 k0 k1 k2 k3
      go_wp2_with fail
      have k1 := cell_regrown ((HO5.out.below.cell (World.block_lt_of_cell? _ _ HQ1.out)).trans HQ1.out)
      have k3 := cell_regrown ((HO5.out.below.cell (World.block_lt_of_cell? _ _ HQ3.out)).trans HQ3.out)
      refine wp_region_quiet_below (by kernel_rfl) (by kernel_rfl) ?_
      repeat (with_reducible (refine wpQuiet_step ?_); intro K hK; go_simp; (try rw [if_neg (by unfold undef; simp)]); first | (with_reducible (refine hK _ ?_); clear hK K) | (apply Exists.intro; refine ⟨fun _ => ?_, hK _ ?_⟩; (fail); clear hK K))
      with_reducible (refine wpQuiet_nil ?_)
      intro w8 hw'
      obtain ⟨⟨dq, osq⟩, hw''⟩ := hw'
      have b8 : Below w5.heap.size w5 w8 := by rw [hw'']; exact below_regrown w5 dq osq
      clear hw'' dq osq
      have HO8 := hide (HO5.out.later b8)
      clear b8 k1 k3
      have HM : Hid (met acc a b = acc) := by show _ = _; unfold met; rw [if_neg (by omega)]
      have HN := hide (H.out.2.left (by omega))
      rw [HM.out] at HN
      go_wp2_with fail
      go_roundw
      case rel => exact ⟨if cx = 1 then some ⟨bx, ox, none⟩ else some ⟨bx, ox + 2, none⟩, nx - 1, cx - 1, xs, some ⟨by_, oy, none⟩, ny, cy, b :: ys, ap, c, acc, rfl, rfl, rfl, HSX.out.tail', HSY.out, HO8.out, HN.out⟩
      case measure => simp [lenOfS]; omega
     ·go_wp2_with fail
      refine wp_region_quiet_below (by kernel_rfl) (by kernel_rfl) ?_
      repeat (with_reducible (refine wpQuiet_step ?_); intro K hK; go_simp; (try rw [if_neg (by unfold undef; simp)]); first | (with_reducible (refine hK _ ?_); clear hK K) | (apply Exists.intro; refine ⟨fun _ => ?_, hK _ ?_⟩; (fail); clear hK K))
      with_reducible (refine wpQuiet_nil ?_)
      intro w5 hw'
      obtain ⟨⟨dq, osq⟩, hw''⟩ := hw'
      have b5 : Below w4.heap.size w4 w5 := by rw [hw'']; exact below_regrown w4 dq osq
      clear hw'' dq osq
      have HO5 := hide (H.out.1.later b5)
      clear b5 k0 k1 k2 k3
      go_wp2_with fail
      have k1 := cell_regrown ((HO5.out.below.cell (World.block_lt_of_cell? _ _ HQ1.out)).trans HQ1.out)
      have k3 := cell_regrown ((HO5.out.below.cell (World.block_lt_of_cell? _ _ HQ3.out)).trans HQ3.out)
      refine wp_region_quiet_below (by kernel_rfl) (by kernel_rfl) ?_
      repeat (with_reducible (refine wpQuiet_step ?_); intro K hK; go_simp; (try rw [if_neg (by unfold undef; simp)]); first | (with_reducible (refine hK _ ?_); clear hK K) | (apply Exists.intro; refine ⟨fun _ => ?_, hK _ ?_⟩; (fail); clear hK K))
      with_reducible (refine wpQuiet_nil ?_)
      intro w8 hw'
      obtain ⟨⟨dq, osq⟩, hw''⟩ := hw'
      have b8 : Below w5.heap.size w5 w8 := by rw [hw'']; exact below_regrown w5 dq osq
      clear hw'' dq osq
      have HO8 := hide (HO5.out.later b8)
      clear b8 k1 k3
      have HM : Hid (met acc a b = acc) := by show _ = _; unfold met; rw [if_neg (by omega)]
      have HN := hide (H.out.2.right (by omega))
      rw [HM.out] at HN
      go_wp2_with fail
      go_roundw
      case rel => exact ⟨some ⟨bx, ox, none⟩, nx, cx, a :: xs, if cy = 1 then some ⟨by_, oy, none⟩ else some ⟨by_, oy + 2, none⟩, ny - 1, cy - 1, ys, ap, c, acc, rfl, rfl, rfl, HSX.out, HSY.out.tail', HO8.out, HN.out⟩
      case measure => simp [lenOfS]; omega
   ·obtain rfl : ny = 0 := by omega
    have hy : y' = [] := List.eq_nil_of_length_eq_zero HSY.out.len
    have HD := hide (H.out.2.done (Or.inr hy) HP1.out HP2.out)
    obtain ⟨S4, F4⟩ := H.out.1.src (by omega)
    have HN : Hid (GivesRN w w4 (.returned (.slice ap acc.length c)) (MeetOf A B)) := ⟨ap, acc.length, c, acc, rfl, S4, HB2.out.trans (H.out.1.below.mono HB2.out.size), (fun ad h => Nat.le_trans HB2.out.size (F4 ad h)), HD.out⟩
    clear S4 F4
    go_wp2_with fail
    go_ret
    exact HN.out
  ·obtain rfl : nx = 0 := by omega
   have hx : x' = [] := List.eq_nil_of_length_eq_zero HSX.out.len
   have HD := hide (H.out.2.done (Or.inl hx) HP1.out HP2.out)
   obtain ⟨S4, F4⟩ := H.out.1.src (by omega)
   have HN : Hid (GivesRN w w4 (.returned (.slice ap acc.length c)) (MeetOf A B)) := ⟨ap, acc.length, c, acc, rfl, S4, HB2.out.trans (H.out.1.below.mono HB2.out.size), (fun ad h => Nat.le_trans HB2.out.size (F4 ad h)), HD.out⟩
   clear S4 F4
   go_wp2_with fail
   go_ret
   exact HN.out
end Go.Proofs.YtfpmijfcemopoaaGreat
