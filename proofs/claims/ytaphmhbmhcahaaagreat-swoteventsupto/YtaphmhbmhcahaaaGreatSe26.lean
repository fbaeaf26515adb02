/- TUb -/
import Derived.Test.YtaphmhbmhcahaaaGreatSe24
import Derived.Test.YtaphmhbmhcahaaaGreatSe25
import Derived.Test.YtaphmhbmhcahaaaGreatSe13
import Derived.Deep.CutRange
namespace Go.Proofs.YtaphmhbmhcahaaaGreat
open Go.RowKit Go.Maps Go.Sort
def sl1 (v : Value) : Sem Value := Instr.slice 27 v (some (.int .i64 1)) none none
theorem sl1_eq (v : Value) : Instr.slice 27 v (some (.int .i64 1)) none none = sl1 v := rfl
def tl1 (b o c : Nat) : Option Addr := if c = 1 then some ⟨b, o, none⟩ else some ⟨b, o + 3, none⟩
attribute [local go_sem ↓] ldP_eq stP_eq ldRe_eq stRe_eq sl1_eq
attribute [local go_sem] cells_ReV ReC_size zero_ReC
def sln : Value -> Nat
 | .slice _ n _ => n
 | _ => 0
structure RcT (w : World) (ao : Option Addr) (n cap : Nat) (L : List Rc) : Prop where
 src : RcS w ao n cap L
 room : n <= cap
 nil : ao = none -> cap = 0
theorem RcT.below {w w' : World} {ao : Option Addr} {n cap : Nat} {L : List Rc} (h : RcT w ao n cap L) (hb : Below w.heap.size w w') : RcT w' ao n cap L := ⟨h.src.below hb, h.room, h.nil⟩
structure UI (w0 wr : World) (L M : List Rc) (N : Nat) (ao : Option Addr) (n ca : Nat) (X : List Rc) (bo : Option Addr) (m cb : Nat) (Y : List Rc) (h : Hs) (D : List Rc) : Prop where
 xa : RcT w0 ao n ca X
 yb : RcT w0 bo m cb Y
 own : OwnRc w0.heap.size w0 wr h D
 fr : ∀ r ∈ D, PNew w0.heap.size r.p
 okx : ∀ r ∈ X, RecOk r
 oky : ∀ r ∈ Y, RecOk r
 okd : ∀ r ∈ D, RecOk r
 mg : Mg ck (plR L) (plR M) (plR D) (plR X) (plR Y)
 num : h.n + n + m <= N
theorem plR_sn (L : List Rc) (x : Rc) : plR (L ++ [x]) = plR L ++ [rck x] := by simp [plR, rck]
theorem copy_rck {r c : Rc} (h : RecOk r) (hs : c.s = r.s) (hC : CanonOf (runsAt r.p.P) c.p.P) : rck c = rck r := by
 have e := (canon_self hC).2 h.2.1
 unfold rck
 rw [hs, e]
theorem mem_snoc {α : Type} {L : List α} {x : α} {P : α -> Prop} (h : ∀ r ∈ L, P r) (hx : P x) : ∀ r ∈ L ++ [x], P r := fun r hr => by
 rcases List.mem_append.1 hr with q | q
 ·exact h r q
 ·obtain rfl := List.mem_singleton.1 q
  exact hx
def UIv (w0 : World) (L M : List Rc) (N : Nat) (a b v : Value) (wr : World) : Prop := ∃ (ao : Option Addr) (n ca : Nat) (X : List Rc) (bo : Option Addr) (m cb : Nat) (Y : List Rc) (h : Hs) (D : List Rc), a = .slice ao n ca /\ b = .slice bo m cb /\ v = .slice h.o h.n h.c /\ Hid (UI w0 wr L M N ao n ca X bo m cb Y h D)
structure GvR (w w' : World) (h : Hs) (F : List Rc) : Prop where
 src : RcS w' h.o h.n h.c F
 room : h.n <= h.c
 nil : h.o = none -> h.c = 0
 new : ∀ ad, h.o = some ad -> w.heap.size <= ad.block
 fresh : ∀ r ∈ F, PNew w.heap.size r.p
 below : Below w.heap.size w w'
theorem ownRc_row {B : Nat} {w W : World} {h : Hs} {L : List Rc} (O : OwnRc B w W h L) (hn : h.n <= 2199023255552) : RcT W h.o h.n h.c L /\ (∀ ad, h.o = some ad -> B <= ad.block) /\ Below w.heap.size w W := by
 refine ⟨⟨O.src hn, ?_, ?_⟩, ?_, O.below⟩
 all_goals
  have hr := O.own
  obtain ⟨ao, n, c⟩ := h
  rcases hr.2 with ⟨h0, h00⟩ | ⟨g, cap, cur, hv, hbg, hgg, hnc, hcm, hcsz, htake⟩
  ·simp only [HsV, Value.slice.injEq] at h0
   obtain ⟨rfl, rfl, rfl⟩ := h0
   simp
  ·simp only [HsV, Value.slice.injEq] at hv
   obtain ⟨rfl, -, rfl⟩ := hv
   first
    | exact hnc
    | exact fun ad e => (by cases e; exact hbg)
    | exact fun e => (by cases e)
theorem OwnRc.give {w w0 W : World} {h : Hs} {L : List Rc} (O : OwnRc w0.heap.size w0 W h L) (hb : Below w.heap.size w w0) (hf : ∀ r ∈ L, PNew w0.heap.size r.p) (hn : h.n <= 2199023255552) : GvR w W h L := by
 have hsz := hb.size
 obtain ⟨⟨q1, q2, q3⟩, q4, q5⟩ := ownRc_row O hn
 exact ⟨q1, q2, q3, fun ad e => Nat.le_trans hsz (q4 ad e), fun r hr => ⟨fun ad e => Nat.le_trans hsz ((hf r hr).1 ad e), fun ad e => Nat.le_trans hsz ((hf r hr).2 ad e)⟩, hb.trans (q5.mono hsz)⟩
def UnA (w w' : World) (x : Ending) (L : List Rc) (n : Nat) (M : List Rc) (m : Nat) : Prop := (OkR L n /\ OkR M m /\ ∃ (h : Hs) (F : List Rc), x = .returned (.tuple #[HsV h, .int .i64 0]) /\ GvR w w' h F /\ h.n <= n + m /\ UnOf L M F) ∨ (¬ (OkR L n /\ OkR M m) /\ x = .returned (.tuple #[.slice none 0 0, .int .i64 1]) /\ Below w.heap.size w w')
end Go.Proofs.YtaphmhbmhcahaaaGreat
