/- LRis LSor LSo2 LShg LCct LUp LUn TFg TJn BCn BAo Lit BKe PLp BFp -/
import Derived.Test.YtalpnhfoaohhhaaGreatTd29
import Derived.Shelf.SlSortCmp.NoneTotal
import Derived.Lib.SliceRun
import Derived.Shelf.Spec.SlicesGrow
import Derived.Test.YtalpnhfoaohhhaaGreatProg
import Derived.Laws.AppendOwnNone
import Derived.Deep.LoopGhost
import Derived.Test.YtalpnhfoaohhhaaGreatTd16
import Derived.Test.YtalpnhfoaohhhaaGreatTd18
import Derived.Test.YtalpnhfoaohhhaaGreatTd27
import Derived.Test.YtalpnhfoaohhhaaGreatTd21
import Derived.Deep.CutRange
import Derived.Test.YtalpnhfoaohhhaaGreatTd06
import Derived.Test.YtalpnhfoaohhhaaGreatTd20
import Derived.Test.YtalpnhfoaohhhaaGreatTd19
import Derived.Shelf.SlIter.Nil
import Derived.Shelf.SortM.Plain
import Derived.Shelf.SortM.SortNone
import Derived.Test.YtalpnhfoaohhhaaGreatTd09
import Derived.Test.YtalpnhfoaohhhaaGreatTd14
import Derived.Test.YtalpnhfoaohhhaaGreatTd05
namespace Go.Proofs.YtalpnhfoaohhhaaGreat.K
section
open Go.RowKit Go.Lib
attribute [local go_sem ↓] ld28_eq st28_eq ld26_eq run_eqD
attribute [local go_sem] zero_EC cells_EV EC_size
def GivesTB (B : Nat) (w w' : World) (e : Ending) (L : List En) : Prop := ∃ ao n c R er, e = .returned (.tuple #[.slice ao n c, .int .i64 er]) /\ ESrc w' ao n c R /\ Below B w w' /\ (∀ ad, ao = some ad -> B <= ad.block) /\ Settled L R er
end
section
open Go.RowKit Go.Lib
attribute [local go_sem ↓] ld28_eq st28_eq
attribute [local go_sem] zero_EC cells_EV EC_size
def firstE : List En -> Int
 | [] => 0
 | e :: r => if ceE e = 0 then firstE r else ceE e
def okTo (L : List En) (k : Nat) : Prop := ∀ i, i < k -> ceE (L.getD i en0) = 0
def Sorted (L R : List En) (er : Int) : Prop := (firstE L ≠ 0 /\ R = [] /\ er = firstE L) ∨ (firstE L = 0 /\ Settled L R er)
def GivesQ (w w' : World) (e : Ending) (L : List En) : Prop := ∃ ao n c R er, e = .returned (.tuple #[.slice ao n c, .int .i64 er]) /\ ESrc w' ao n c R /\ Below w.heap.size w w' /\ (∀ ad, ao = some ad -> w.heap.size <= ad.block) /\ Sorted L R er
theorem ESrc.cells {w : World} {ad : Addr} {n cap : Nat} {L : List En} (hS : ESrc w (some ad) n cap L) (j : Nat) (u : Value) (hj : (ecs L)[j]? = some u) : w.cell? (ad.add j) = some u := by
 have hjl : j < L.length * 4 := by have := (List.getElem?_eq_some_iff.1 hj).1; rwa [ecs_length] at this
 have e4 := ecs_at L (j / 4) (j % 4) (by omega) (by omega)
 rw [show j / 4 * 4 + j % 4 = j by omega, hj] at e4
 have A := hS.2.2.1 ad rfl (j / 4) (by rw [<- hS.1]; omega)
 have : j % 4 = 0 ∨ j % 4 = 1 ∨ j % 4 = 2 ∨ j % 4 = 3 := by omega
 rcases this with h | h | h | h
 ·rw [h] at e4; rw [show j = j / 4 * 4 by omega, A.c0]; exact e4.symm
 ·rw [h] at e4; have := A.c1; rw [add_add] at this; rw [show j = j / 4 * 4 + 1 by omega, this]; exact e4.symm
 ·rw [h] at e4; have := A.c2; rw [add_add] at this; rw [show j = j / 4 * 4 + 2 by omega, this]; exact e4.symm
 ·rw [h] at e4; have := A.c3; rw [add_add] at this; rw [show j = j / 4 * 4 + 3 by omega, this]; exact e4.symm
theorem ecs_onecell (L : List En) : ∀ u ∈ ecs L, u.oneCell' = true := by
 intro u hu
 obtain ⟨l, hl, hv⟩ := List.mem_flatten.1 hu
 obtain ⟨e, _, rfl⟩ := List.mem_map.1 hl
 exact EC_one e u hv
end
section
open Go.RowKit Go.Lib
attribute [local go_sem ↓] ld28_eq st28_eq
attribute [local go_sem] zero_EC cells_EV EC_size
end
end Go.Proofs.YtalpnhfoaohhhaaGreat.K
namespace Go.Proofs
open Go.Shelf
def Tryz.growEn_ren : Go.Shelf.Ren := ⟨fun | 4 => 101 | n => n, fun | 22 => 22 | 25 => 36 | 3 => 3 | 4 => 4 | 9 => 9 | 20 => 20 | 0 => 0 | n => n, fun | n => n⟩
end Go.Proofs
namespace Go.Proofs.YtalpnhfoaohhhaaGreat.K
section
open Go.RowKit Go.Lib

end
section
open Go.RowKit

def code (e : En) : Int := e.rep * 1000000000 + e.num
theorem okN_at (L : List En) (n : Nat) (h : okN L n = true) (k : Nat) (hk : k < n) : okAt L k = true := by
 unfold okN at h
 exact List.all_eq_true.1 h k (List.mem_range.2 hk)
theorem chk_zero {L : List En} (h : chk L = 0) : okN L L.length = true := by
 unfold chk at h
 by_cases e : okN L L.length = true
 ·exact e
 ·rw [if_neg e] at h; omega
end
section
open Go.RowKit Go.Lib
attribute [local go_sem ↓] ld28_eq st28_eq
attribute [local go_sem] zero_EC cells_EV EC_size fold_EC
def UnionOf (A B R : List En) (er : Int) : Prop := (¬ (chk A = 0 /\ chk B = 0) /\ R = [] /\ er = 1) ∨ ((chk A = 0 /\ chk B = 0) /\ Settled (A ++ B) R er)
def GivesU (w w' : World) (e : Ending) (A B : List En) : Prop := ∃ ao n c R er, e = .returned (.tuple #[.slice ao n c, .int .i64 er]) /\ ESrc w' ao n c R /\ Below w.heap.size w w' /\ UnionOf A B R er
def GivesUN (w w' : World) (e : Ending) (A B : List En) : Prop := ∃ ao n c R er, e = .returned (.tuple #[.slice ao n c, .int .i64 er]) /\ ESrc w' ao n c R /\ Below w.heap.size w w' /\ (∀ ad, ao = some ad -> w.heap.size <= ad.block) /\ UnionOf A B R er
end
end Go.Proofs.YtalpnhfoaohhhaaGreat.K
namespace Go.Proofs.YtalpnhfoaohhhaaGreat
section
open Go.RowKit
structure FcN (N : Nat) (f : Fc) : Prop where
 a : ∀ ad, f.ao = some ad -> N <= ad.block
 p : PNew N f.p
 r : ∀ ad, f.ro = some ad -> N <= ad.block
 q : ∀ c ∈ f.rs, PNew N c.p
theorem FcN.mono {N M : Nat} {f : Fc} (h : FcN N f) (hm : M <= N) : FcN M f := ⟨fun ad e => Nat.le_trans hm (h.a ad e), h.p.mono hm, fun ad e => Nat.le_trans hm (h.r ad e), fun c hc => (h.q c hc).mono hm⟩
def FcR (f : Fc) : Prop := f.rn <= f.rc /\ (f.ro = none -> f.rc = 0)
theorem FcOk.row {w : World} {f : Fc} (h : FcOk w f) (hr : FcR f) : RcT w f.ro f.rn f.rc f.rs := ⟨h.rs, hr.1, hr.2⟩
theorem FcOk.off2 {w w' : World} {f : Fc} {N : Nat} (h : FcOk w f) (hn : FcN N f) (hk : ∀ k, N <= k -> w'.heap[k]? = w.heap[k]?) : FcOk w' f :=
 ⟨h.es.kept (fun ad e => hk _ (hn.a ad e)), psrc_off h.p (fun ad e => hk _ (hn.p.1 ad e)) (fun ad e => hk _ (hn.p.2 ad e)), rcs_mv h.rs (fun ad e => hk _ (hn.r ad e)) (fun r hr => ⟨psrc_off (h.rs.ok r hr).1 (fun ad e => hk _ ((hn.q r hr).1 ad e)) (fun ad e => hk _ ((hn.q r hr).2 ad e)), (h.rs.ok r hr).2⟩)⟩
theorem res2Fb {w : World} {g : Nat} {fn : Func} {p q : Tmp} {m : FacV} {v : Value} (h : fn.results = #[.cell p 29, .tmp q]) {tmps : Array Value} (hp : tmps.getD p undef = .pointer (some ⟨g, 0, none⟩)) (hq : tmps.getD q undef = v) (A : FaBox w g m) :
  (results fn tmps).run Tryz.prog w = .ok (.tuple #[FaV m, v]) w := by
 have hl := run_lvFa A
 simp only [results, h]
 rw [Array.getD_eq_getD_getElem?] at hp hq
 simp [hp, hq, asAddr, hl]
def fz0 : Fc := ⟨none, 0, 0, [], pv0, none, 0, 0, []⟩
theorem fz0_ok (w : World) : FcOk w fz0 := ⟨⟨rfl, fun _ => ⟨rfl, rfl⟩, fun ad h => (by cases h), fun e he => (by cases he), Nat.zero_le _⟩, PSrc.zero w, RcS.empty w⟩
theorem fz0_new (N : Nat) : FcN N fz0 := ⟨fun ad h => (by cases h), ⟨fun ad h => (by cases h), fun ad h => (by cases h)⟩, fun ad h => (by cases h), fun c hc => (by cases hc)⟩
theorem fz0_row : FcR fz0 := ⟨Nat.le_refl _, fun _ => rfl⟩
theorem zero_FaZ : (#[.slice none 0 0, .slice none 0 0, .slice none 0 0, .slice none 0 0] : Array Value) = FaC (mkF fz0) := rfl
def bldF (a : Array (Nat × Value)) : Sem Value := Instr.build 29 a
theorem bldF_eq (a : Array (Nat × Value)) : Instr.build 29 a = bldF a := rfl
theorem run_bldF0 (w : World) : (bldF #[]).run Tryz.prog w = .ok (.agg (FaC (mkF fz0))) w := by kernel_rfl
theorem run_bldF12 (a b : Option Addr) (n c m d : Nat) (p : Pv) (w : World) : (bldF #[(0, .slice a n c), (1, .agg (PC p)), (2, .slice b m d)]).run Tryz.prog w = .ok (.agg #[.slice a n c, .slice p.vo p.vn p.vc, .slice p.co p.cn p.cc, .slice b m d]) w := by kernel_rfl
def FcD (w w' : World) (e : Ending) (D : Fc -> Int -> Prop) : Prop := ∃ f er, e = .returned (.tuple #[FaV (mkF f), .int .i64 er]) /\ FcOk w' f /\ FcR f /\ FcN w.heap.size f /\ Below w.heap.size w w' /\ D f er
theorem give_fc {w W : World} {g : Nat} {m0 : FacV} {f : Fc} {er : Int} (D : Fc -> Int -> Prop) (hX : FaBox W g m0) (hF : FcOk W f) (hr : FcR f) (hn : FcN (g + 1) f) (hb : Below w.heap.size w W) (hg : w.heap.size <= g) (hD : D f er) :
  FaBox (W.setRow g (FaC (mkF f))) g (mkF f) /\ FcD w (W.setRow g (FaC (mkF f))) (.returned (.tuple #[FaV (mkF f), .int .i64 er])) D :=
 ⟨hX.setRow, f, er, rfl, hF.off2 hn (fun k hk => setRow_other _ _ _ _ (by omega)), hr, hn.mono (by omega), below_setRow hb hg, hD⟩
def JnOf (c : Int) (f g h : Fc) (er : Int) : Prop := (¬ (FormF f /\ FormF g) /\ er = 1 /\ h = fz0) ∨ (FormF f /\ FormF g /\ ∃ R e, K.UnionOf f.es g.es R e /\ ((e ≠ 0 /\ er = (if c = 0 then e else c) /\ h = fz0) ∨ (e = 0 /\ er = 0 /\ h.es = R /\ CanonOf (runsOf [f.p, g.p]) h.p.P /\ UnOf f.rs g.rs h.rs /\ h.rn <= f.rn + g.rn)))
def bsPs (a : Array (Nat × Value)) : Sem Value := Instr.buildSlice 59 2 a
theorem bsPs_eq (a : Array (Nat × Value)) : Instr.buildSlice 59 2 a = bsPs a := rfl
theorem run_bsPs (p q : Pv) (w : World) : (bsPs #[(0, .agg (PC p)), (1, .agg (PC q))]).run Tryz.prog w = .ok (.slice (some ⟨w.heap.size, 0, none⟩) 2 2) (w.alloc (.cells #[.slice p.vo p.vn p.vc, .slice p.co p.cn p.cc, .slice q.vo q.vn q.vc, .slice q.co q.cn q.cc] 26)) := by kernel_rfl
end
section
open Go.RowKit
attribute [local go_sem ↓] ldP_eq stP_eq ldFa_eq stFa_eq bldF_eq bsPs_eq
attribute [local go_sem] cells_PV PC_size cells_FaV FaC_size zero_FaZ run_bldF0 run_bldF12 run_bsPs
end
section
open Go.RowKit
end
section
open Go.RowKit
def freeB (R : List Rc) (e : K.En) : Bool := !R.any (fun r => covB r e)
def ApA (w w' : World) (x : Ending) (L : List K.En) (R : List Rc) (n : Nat) : Prop := (K.chk L = 0 /\ OkR R n /\ K.GivesEE w w' x (L.filter (freeB R)) 0) ∨ (¬ (K.chk L = 0 /\ OkR R n) /\ K.GivesEE w w' x [] 1)
end
end Go.Proofs.YtalpnhfoaohhhaaGreat
namespace Go.Proofs
open Go.Shelf
def Tryz.keysM_ren : Go.Shelf.Ren := ⟨fun | 7 => 124 | 10 => 155 | n => n, fun | 23 => 143 | 26 => 9 | 3 => 59 | 28 => 147 | 0 => 0 | 27 => 146 | 33 => 138 | 4 => 4 | n => n, fun | n => n⟩
def Tryz.sortedM_ren : Go.Shelf.Ren := ⟨fun | 6 => 123 | 8 => 153 | 9 => 154 | 11 => 177 | 13 => 133 | 12 => 178 | 23 => 165 | 24 => 166 | 14 => 199 | 15 => 200 | 16 => 201 | 17 => 202 | 18 => 203 | 19 => 204 | 20 => 205 | 21 => 206 | 22 => 207 | 25 => 220 | 26 => 188 | 27 => 189 | 28 => 221 | 29 => 222 | 30 => 223 | 31 => 228 | n => n, fun | 26 => 9 | 28 => 147 | 24 => 144 | 0 => 0 | 3 => 3 | 37 => 119 | 48 => 182 | 50 => 184 | 4 => 4 | 40 => 176 | 39 => 175 | 45 => 76 | 5 => 5 | 9 => 9 | 51 => 198 | 55 => 202 | 57 => 214 | 58 => 165 | 33 => 138 | n => n, fun | n => n⟩
def Tryz.sortM_ren : Go.Shelf.Ren := ⟨fun | 6 => 154 | 8 => 133 | 9 => 178 | 19 => 165 | 20 => 166 | 21 => 199 | 22 => 200 | 23 => 201 | 24 => 202 | 25 => 203 | 26 => 204 | 27 => 205 | 28 => 206 | 29 => 207 | 36 => 220 | 31 => 188 | 32 => 189 | 37 => 221 | 38 => 222 | 39 => 223 | 41 => 228 | n => n, fun | 27 => 144 | 29 => 9 | 3 => 3 | 32 => 119 | 26 => 144 | 0 => 0 | 44 => 182 | 46 => 184 | 4 => 4 | 36 => 176 | 35 => 175 | 41 => 76 | 5 => 5 | 9 => 9 | 53 => 198 | 57 => 202 | 63 => 214 | 64 => 165 | n => n, fun | n => n⟩
end Go.Proofs
namespace Go.Proofs.YtalpnhfoaohhhaaGreat
section
open Go.RowKit Go.Maps Go.Sort Go.Shelf

def GivesSs (w w' : World) (e : Ending) (T : List (List UInt8)) : Prop := ∃ v, e = .returned v /\ w'.ownsRow w.heap.size 9 1 v T.length (T.map encStr) /\ Below w.heap.size w w'
end
section
open Go.RowKit

def mP (P : Pst) : Nat -> Int -> Prop := fun r n => mem (runsAt P r) n
def mOr (M M' : Nat -> Int -> Prop) : Nat -> Int -> Prop := fun r n => M r n ∨ M' r n
def mAnd (M M' : Nat -> Int -> Prop) : Nat -> Int -> Prop := fun r n => M r n /\ M' r n
def mNot (M M' : Nat -> Int -> Prop) : Nat -> Int -> Prop := fun r n => M r n /\ ¬ M' r n
def IsP (M : Nat -> Int -> Prop) (P : Pst) : Prop := ∃ C, CanonOf C P /\ ∀ r, r < 16 -> ∀ n, mem (C r) n ↔ M r n
def Eqv (M M' : Nat -> Int -> Prop) : Prop := ∀ r, r < 16 -> ∀ n, M r n ↔ M' r n
theorem IsP.len {M : Nat -> Int -> Prop} {P : Pst} (h : IsP M P) : P.cloud.length <= 8000000016 := by
 obtain ⟨C, hC, _⟩ := h
 exact (canon_len hC).1
def SzP (M : Nat -> Int -> Prop) (z : Int) : Prop := ∃ N, (∀ r, r < 16 -> form 1 (N r) /\ ∀ n, Go.Proofs.YtalpnhfoaohhhaaGreat.mem (N r) n ↔ M r n) /\ z = sumZ N 16
theorem SzP.none : SzP (fun _ _ => False) 0 := ⟨fun _ => [], fun _ _ => ⟨trivial, fun n => ⟨fun h => mem_nil n h, fun h => h.elim⟩⟩, by decide⟩
end
section
open Go.RowKit Go.Maps Go.Sort
theorem OwnRc.setOther {B : Nat} {w W : World} {h : Hs} {L : List Rc} (O : OwnRc B w W h L) (g : Nat) (cs : Array Value) (hg : w.heap.size <= g) (hne : (HsV h).ownBlock ≠ some g) (hf : ∀ r ∈ L, PFar r.p g) : OwnRc B w (W.setRow g cs) h L := by
 have hs : (W.setRow g cs).heap.size = W.heap.size := by simp [World.setRow]
 have hk : ∀ q, q < W.heap.size -> some q ≠ some g -> (W.setRow g cs).heap[q]? = W.heap[q]? := fun q _ hq => setRow_other _ _ _ _ (fun e => hq (by rw [e]))
 have hG : W.grownBy (W.setRow g cs) (some g) := ⟨rfl, rfl, rfl, by omega, hk⟩
 exact ⟨O.own.kept hG (.inr hne), fun r hr => ⟨⟨psrc_keep (O.ok r hr).1.1 (fun k e => by obtain rfl := Option.some.inj e; exact hf r hr) hk, (O.ok r hr).1.2⟩, (O.ok r hr).2⟩, below_setRow O.below hg, O.hB.1, by have := O.hB.2; omega⟩
def ofS (R : List Rc) (s : ByteArray) : List Pv := (R.filter (fun r => decide (r.s = s))).map (fun r => r.p)
def nilF : ByteArray := ⟨#[]⟩
def FoldM (R : List Rc) (s : ByteArray) (r : Nat) (n : Int) : Prop := (∃ x ∈ R, x.s = s /\ mem (runsAt x.p.P r) n) /\ (s ≠ nilF -> ¬ ∃ x ∈ R, x.s = nilF /\ mem (runsAt x.p.P r) n)
def FoldOf (R F : List Rc) : Prop := F.Pairwise (fun a b => cmpS a.s b.s < 0) /\ (∀ x ∈ F, (∃ r ∈ R, r.s = x.s) /\ IsP (FoldM R x.s) x.p.P /\ ¬ EmptyP x.p.P) /\ ∀ s, (∃ r ∈ R, r.s = s) -> (∀ x ∈ F, x.s ≠ s) -> ∀ r, r < 16 -> ∀ n, ¬ FoldM R s r n
def FPre (R : List Rc) (T : List (List UInt8)) (F : List Rc) : Prop := (F.map (fun x => x.s.data.toList)).Sublist T /\ (∀ x ∈ F, IsP (FoldM R x.s) x.p.P /\ ¬ EmptyP x.p.P) /\ ∀ t ∈ T, (∀ x ∈ F, x.s ≠ ⟨t.toArray⟩) -> ∀ r, r < 16 -> ∀ n, ¬ FoldM R ⟨t.toArray⟩ r n
theorem FPre.add {R F : List Rc} {T : List (List UInt8)} (h : FPre R T F) (t : List UInt8) (x : Rc) (hx : x.s = ⟨t.toArray⟩) (hI : IsP (FoldM R x.s) x.p.P) (hE : ¬ EmptyP x.p.P) : FPre R (T ++ [t]) (F ++ [x]) := by
 refine ⟨?_, fun y hy => ?_, fun u hu hn => ?_⟩
 ·rw [List.map_append]
  refine h.1.append ?_
  simp [hx]
 ·rcases List.mem_append.1 hy with hy | hy
  ·exact h.2.1 y hy
  ·obtain rfl : y = x := by simpa using hy
   exact ⟨hI, hE⟩
 ·rcases List.mem_append.1 hu with hu | hu
  ·exact h.2.2 u hu (fun y hy => hn y (List.mem_append_left _ hy))
  ·obtain rfl : u = t := by simpa using hu
   exact absurd hx (hn x (by simp))
end
end Go.Proofs.YtalpnhfoaohhhaaGreat
