/- ICs -/
import Derived.Test.YtphohmoibnoeaaaGreatPb39
namespace Go.Proofs.YtphohmoibnoeaaaGreat
open Go.RowKit
attribute [local go_sem ↓] ldP_eq stP_eq
attribute [local go_sem] zero_PC cells_PV PC_size
variable {w w' w2 W W' : World} {g gv gr : Nat} {Z : List Int}

structure Cs where
 p : Pv
 q : Pv
 eo : Option Addr
 en : Nat
 ec : Nat
 fo : Option Addr
 fn : Nat
 fc : Nat
 ro : Option Addr
 rn : Nat
 rc : Nat
 uo : Option Addr
 un : Nat
 uc : Nat
 ao : Option Addr
 an : Nat
 ac : Nat
 bo : Option Addr
 bn : Nat
 bc : Nat
 co : Option Addr
 cn : Nat
 cc : Nat
def CsC (m : Cs) : Array Value := #[.slice m.p.vo m.p.vn m.p.vc, .slice m.p.co m.p.cn m.p.cc, .slice m.q.vo m.q.vn m.q.vc, .slice m.q.co m.q.cn m.q.cc, .slice m.eo m.en m.ec, .slice m.fo m.fn m.fc, .slice m.ro m.rn m.rc, .slice m.uo m.un m.uc, .slice m.ao m.an m.ac, .slice m.bo m.bn m.bc, .slice m.co m.cn m.cc]
abbrev CsV (m : Cs) : Value := .agg (CsC m)
theorem CsC_size (m : Cs) : (CsC m).size = 11 := rfl
theorem cells_CsV (m : Cs) : (CsV m).cells = CsC m := by simp [Value.cells]
attribute [local go_sem] cells_CsV CsC_size
def CsBox (w : World) (g : Nat) (m : Cs) : Prop := w.heap[g]? = some (.cells (CsC m) 30 (0, 0))
theorem CsBox.lt {m : Cs} (h : CsBox w g m) : g < w.heap.size := (Array.getElem?_eq_some_iff.1 h).1
theorem CsBox.below {m : Cs} (h : CsBox w g m) (hb : Below w.heap.size w w') : CsBox w' g m := (hb.block g h.lt).trans h
theorem CsBox.p {m : Cs} (h : CsBox w g m) : PAt w ⟨g, 0, none⟩ m.p := ⟨by unfold CsBox at h; simp [World.cell?, h, CsC], by rw [Addr.add_lit]; unfold CsBox at h; simp [World.cell?, h, CsC]⟩
theorem CsBox.q {m : Cs} (h : CsBox w g m) : PAt w ⟨g, 2, none⟩ m.q := ⟨by unfold CsBox at h; simp [World.cell?, h, CsC], by rw [Addr.add_lit]; unfold CsBox at h; simp [World.cell?, h, CsC]⟩
theorem CsBox.e {m : Cs} (h : CsBox w g m) : w.cell? ⟨g, 4, none⟩ = some (.slice m.eo m.en m.ec) := by unfold CsBox at h; simp [World.cell?, h, CsC]
theorem CsBox.f {m : Cs} (h : CsBox w g m) : w.cell? ⟨g, 5, none⟩ = some (.slice m.fo m.fn m.fc) := by unfold CsBox at h; simp [World.cell?, h, CsC]
theorem CsBox.r {m : Cs} (h : CsBox w g m) : w.cell? ⟨g, 6, none⟩ = some (.slice m.ro m.rn m.rc) := by unfold CsBox at h; simp [World.cell?, h, CsC]
theorem CsBox.t {m : Cs} (h : CsBox w g m) : w.cell? ⟨g, 7, none⟩ = some (.slice m.uo m.un m.uc) := by unfold CsBox at h; simp [World.cell?, h, CsC]
theorem CsBox.a {m : Cs} (h : CsBox w g m) : w.cell? ⟨g, 8, none⟩ = some (.slice m.ao m.an m.ac) := by unfold CsBox at h; simp [World.cell?, h, CsC]
theorem CsBox.b {m : Cs} (h : CsBox w g m) : w.cell? ⟨g, 9, none⟩ = some (.slice m.bo m.bn m.bc) := by unfold CsBox at h; simp [World.cell?, h, CsC]
theorem CsBox.c {m : Cs} (h : CsBox w g m) : w.cell? ⟨g, 10, none⟩ = some (.slice m.co m.cn m.cc) := by unfold CsBox at h; simp [World.cell?, h, CsC]
theorem CsBox_new (w : World) (m : Cs) : CsBox (w.alloc (.cells (CsC m) 30)) w.heap.size m := by unfold CsBox; rw [heap_alloc_new]
structure CsS (w : World) (m : Cs) (E F : List K.En) (R T : List Rc) (A B C : List Int) : Prop where
 p : PSrc w m.p
 q : PSrc w m.q
 e : K.ESrc w m.eo m.en m.ec E
 f : K.ESrc w m.fo m.fn m.fc F
 r : RcS w m.ro m.rn m.rc R
 t : RcS w m.uo m.un m.uc T
 a : U.Src w m.ao m.an m.ac A ∧ m.an ≤ m.ac ∧ m.an ≤ 8000000000000
 b : U.Src w m.bo m.bn m.bc B ∧ m.bn ≤ m.bc ∧ m.bn ≤ 8000000000000
 c : U.Src w m.co m.cn m.cc C ∧ m.cn ≤ m.cc ∧ m.cn ≤ 8000000000000
 rl : OkR R R.length → (recsB (plR R)).length ≤ 8000000000000
 tl : OkR T T.length → (recsB (plR T)).length ≤ 8000000000000
theorem CsS.below {m : Cs} {E F : List K.En} {R T : List Rc} {A B C : List Int} (h : CsS w m E F R T A B C) (b : Below w.heap.size w w') : CsS w' m E F R T A B C :=
 ⟨h.p.below b, h.q.below b, h.e.below b, h.f.below b, h.r.below b, h.t.below b, ⟨h.a.1.below b, h.a.2⟩, ⟨h.b.1.below b, h.b.2⟩, ⟨h.c.1.below b, h.c.2⟩, h.rl, h.tl⟩
def Ob (Z : List Int) : Prop := ∀ x ∈ Z, 0 ≤ x ∧ x ≤ 255
theorem Ob.oc (h : Ob Z) : U.Oc Z := oc_ob h
theorem Ob.app {X Y : List Int} (h : Ob X) (h' : Ob Y) : Ob (X ++ Y) := fun x hx => by
 rcases List.mem_append.1 hx with h1 | h1
 ·exact h x h1
 ·exact h' x h1
theorem ob_num (n : Nat) : Ob (U.numB n) := fun x hx => by
 obtain ⟨k, hk, rfl⟩ := List.getElem_of_mem hx
 have := U.numB_oct n k
 rwa [List.getD_eq_getElem?_getD, List.getElem?_eq_getElem hk] at this
theorem ob_nB (x : Int) : Ob (nB x) := ob_num _
theorem ob_nil : Ob [] := fun x hx => by cases hx
theorem ob_flat {α : Type} (f : α → List Int) (h : ∀ a, Ob (f a)) (L : List α) : Ob (L.flatMap f) := fun x hx => by
 obtain ⟨a, -, ha⟩ := List.mem_flatMap.1 hx
 exact h a x ha
theorem ob_cloud : ∀ (L : List Sn) (T : Nat → Int) (r : Int), Ob (cloudB T r L)
 | [], _, _ => ob_nil
 | _ :: t, _, _ => (ob_nB _).app ((ob_nB _).app ((ob_nB _).app (ob_cloud t _ _)))
theorem ob_past (P : Pst) : Ob (pastB P) := (ob_num _).app ((ob_flat nB ob_nB _).app ((ob_num _).app (ob_cloud _ _ _)))
theorem ob_tx (s : ByteArray) : Ob (txB s) := (ob_num _).app (strB_ob s)
theorem ob_ent : ∀ (L : List K.En) (T : Nat → Int) (r : Int), Ob (entB T r L)
 | [], _, _ => ob_nil
 | s :: t, T, r => by
  unfold entB
  exact (ob_nB _).app ((ob_nB _).app ((ob_tx _).app ((ob_nB _).app (ob_ent t _ _))))
theorem ob_ents (L : List K.En) : Ob (entsB L) := (ob_num _).app (ob_ent _ _ _)
end Go.Proofs.YtphohmoibnoeaaaGreat
