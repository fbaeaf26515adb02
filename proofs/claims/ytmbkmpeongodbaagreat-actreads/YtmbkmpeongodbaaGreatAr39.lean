/- EIp EIq GOa GAe -/
import Derived.Test.YtmbkmpeongodbaaGreatTk
import Derived.Test.YtmbkmpeongodbaaGreatAr33
import Derived.Test.YtmbkmpeongodbaaGreatAr31
import Derived.Test.YtmbkmpeongodbaaGreatAr38
namespace Go.Proofs.YtmbkmpeongodbaaGreat
open Go.RowKit
theorem inB_dotsE {L : List K.En} {P : Pst} (h : CanonOf (dotsG (L.map dotOf)) P) (e : K.En) : inB P e = true ↔ okD (dotOf e) = true ∧ ∃ x ∈ L, dotOf x = dotOf e := by
 rw [inB_iff]
 unfold dotIn
 constructor
 ·rintro ⟨h1, h2⟩
  have h3 : 0 ≤ e.rep ∧ e.rep < 16 := by simpa [V.isR] using h1
  rw [canon_mem h _ (by show e.rep.toNat < 16; omega), dotsG_mem] at h2
  obtain ⟨d, hd, k1, k2, k3⟩ := h2
  obtain ⟨x, hx, rfl⟩ := List.mem_map.1 hd
  have ed : dotOf x = dotOf e := by
   unfold dotOf at k2 k3 ⊢
   simp only at k2 k3
   congr 1
   omega
  exact ⟨ed ▸ k1, x, hx, ed⟩
 ·rintro ⟨h1, x, hx, h2⟩
  have h3 := h1
  unfold okD dotOf at h3
  simp only [Bool.and_eq_true, decide_eq_true_eq] at h3
  have h4 : 0 ≤ e.rep ∧ e.rep < 16 := by simpa [V.isR] using h3.1
  refine ⟨h3.1, ?_⟩
  rw [canon_mem h _ (by show e.rep.toNat < 16; omega), dotsG_mem]
  exact ⟨dotOf x, List.mem_map.2 ⟨x, hx, rfl⟩, h2 ▸ h1, by rw [h2]; unfold dotOf; simp only; omega, by rw [h2]; rfl⟩
theorem asc_nodupE {R : List K.En} (h : K.Asc R) : R.Nodup := h.imp (fun {a b} hab e => by subst e; rw [K.ahead_irr] at hab; cases hab)
theorem asc_one (e : K.En) : K.Asc [e] := List.pairwise_singleton _ _
theorem gone_mem {L O : List K.En} {P : Pst} (hL : K.chk L = 0) (hO : ∀ x ∈ O, x ∈ L) (hC : CanonOf (dotsG (O.map dotOf)) P) {x : K.En} (hx : x ∈ L) : inB P x = true ↔ x ∈ O := by
 rw [inB_dotsE hC]
 constructor
 ·rintro ⟨-, y, hy, e⟩
  rw [← dot_one hL (hO y hy) hx e]; exact hy
 ·intro h
  exact ⟨ce_dot (chk_ce hL x hx), x, h, rfl⟩
theorem most_ex (A : List Rn) : ∀ b : Nat, (∀ n, mem A n → 1 ≤ n ∧ n ≤ (b : Int)) → ∃ k, Most A k
 | 0, h => ⟨0, .inl ⟨rfl, fun n hn => by have := h n hn; omega⟩⟩
 | b + 1, h => by
  by_cases hb : mem A ((b : Int) + 1)
  ·exact ⟨(b : Int) + 1, .inr ⟨hb, fun n hn => by have := h n hn; omega⟩⟩
  ·refine most_ex A b fun n hn => ?_
   have h1 := h n hn
   by_cases e : n = (b : Int) + 1
   ·rw [e] at hn; exact absurd hn hb
   ·omega
theorem last_ex (P : Pst) (r : Int) (hr : RepOk r) : ∃ k, LastOf P r k := by
 have h16 : r.toNat < 16 := by have := hr.1; have := hr.2; omega
 obtain ⟨k, hk⟩ := most_ex (runsAt P r.toNat) 1000000000 fun n hn => by
  have := (mem_runs P r.toNat h16 n).1 hn
  exact ⟨this.1, by simpa using this.2.1⟩
 exact ⟨k, .inl ⟨by unfold V.isR; have := hr.1; have := hr.2; simp; omega, hk⟩⟩
theorem nx_new {P : Pst} {r ct : Int} {d : Rn} (h : NxF P r ct d 0) : RepOk r ∧ d.lo = r ∧ 1 ≤ d.hi ∧ d.hi ≤ 1000000000 ∧ ∀ e : K.En, e.rep = r → inB P e = true → e.num < d.hi := by
 rcases h with ⟨-, -, h⟩ | ⟨-, ⟨-, -, h⟩ | ⟨hr, k, hk, ⟨-, -, h⟩ | ⟨hlt, rfl, -⟩⟩⟩
 ·exact absurd h (by decide)
 ·exact absurd h (by decide)
 ·exact absurd h (by decide)
 have hr2 : 0 ≤ r ∧ r < 16 := by simpa [V.isR] using hr
 rcases hk with ⟨-, hm⟩ | ⟨hf, -⟩
 rotate_left
 ·rw [hr] at hf; cases hf
 have hb := hm.bd
 refine ⟨hr2, rfl, by show 1 ≤ k + 1; omega, by show k + 1 ≤ _; omega, fun e he hin => ?_⟩
 rw [inB_iff] at hin
 have h2 := hin.2
 show e.num < k + 1
 have h3 : mem (runsAt P r.toNat) e.num := by rw [← he]; exact h2
 rcases hm with ⟨-, hn⟩ | ⟨-, hn⟩
 ·exact absurd h3 (hn _)
 ·have := hn _ h3; omega
theorem ce_of {e : K.En} (h1 : RepOk e.rep) (h2 : 1 ≤ e.num ∧ e.num ≤ 1000000000) (h3 : K.good e.sku.data.toList = true) (h4 : 1 ≤ e.qty ∧ e.qty ≤ 1000000) : K.ceE e = 0 := by
 have hr : K.isR e.rep = true := by unfold K.isR; have := h1.1; have := h1.2; simp; omega
 unfold K.ceE
 rw [hr, h3, if_neg (by decide), if_neg (by omega), if_neg (by decide), if_neg (by omega)]
theorem ev_add {L O : List K.En} {P : Pst} {f : Fc} {e1 : K.En} {r ct : Int} {d : Rn} (hS : SeenAll L P) (hO : ∀ x ∈ O, x ∈ L) (hn : NxF P r ct d 0) (he : f.es = [e1]) (hd : e1.rep = d.lo ∧ e1.num = d.hi) (hc : K.ceE e1 = 0) (hC : CanonOf (dotsG (O.map dotOf)) f.p.P) (hr : f.rs = []) (hl : f.es.length = f.an) (hm : f.rs.length = f.rn) : EvOf f 0 ∧ ¬ EfC L f := by
 obtain ⟨hr2, h1, h2, h3, h4⟩ := nx_new hn
 have han : f.an = 1 := by rw [← hl, he]; rfl
 have hrn : f.rn = 0 := by rw [← hm, hr]; rfl
 have hck : K.chk f.es = 0 := by rw [he]; exact K.chk_asc (asc_one e1) (fun e h => by rw [List.mem_singleton.1 h]; exact hc)
 refine ⟨.inr (.inr ⟨⟨(ok_chk hl).1 hck, chain_of_canon hC, ?_⟩, .inr (.inl ⟨han, hrn, ?_⟩), rfl⟩), ?_⟩
 ·rw [hrn]; exact okR_zero _
 ·have e0 : f.es.getD 0 K.en0 = e1 := by rw [he]; rfl
  rw [e0]
  obtain ⟨k, hk⟩ := last_ex f.p.P e1.rep (by rw [hd.1, h1]; exact hr2)
  refine ⟨k, hk, ?_⟩
  rcases hk with ⟨hr3, hk | ⟨hk, -⟩⟩ | ⟨-, hk⟩
  ·rw [hk.1, hd.2]; omega
  ·have hin : inB f.p.P ⟨e1.rep, k, ⟨#[]⟩, 0⟩ = true := by rw [inB_iff]; exact ⟨hr3, hk⟩
   rw [inB_dotsE hC] at hin
   obtain ⟨-, y, hy, ey⟩ := hin
   have ey1 : y.rep = e1.rep := congrArg Rn.lo ey
   have ey2 : y.num = k := congrArg Rn.hi ey
   have := h4 y (by rw [ey1, hd.1, h1]) (hS.2.2 y (hO y hy))
   rw [hd.2]; omega
  ·rw [hk, hd.2]; omega
 ·rintro ⟨a, ha, y, hy, hs⟩
  rw [he, List.mem_singleton] at ha
  subst ha
  unfold K.sameDot at hs
  simp only [Bool.and_eq_true, beq_iff_eq] at hs
  have := h4 y (by rw [hs.1, hd.1, h1]) (hS.2.2 y hy)
  rw [hs.2, hd.2] at this
  omega
theorem ev_none {L : List K.En} {f : Fc} (he : f.es = []) (hl : f.es.length = f.an) (hI : InForm f.p.P) (hR : OkR f.rs f.rn) (h1 : f.rn = 0 ∨ (f.rn = 1 ∧ EmptyP f.p.P)) : EvOf f 0 ∧ ¬ EfC L f := by
 have han : f.an = 0 := by rw [← hl, he]; rfl
 refine ⟨.inr (.inr ⟨⟨(ok_chk hl).1 (by rw [he]; decide), hI, hR⟩, ?_, rfl⟩), ?_⟩
 ·rcases h1 with h | ⟨h, h2⟩
  ·exact .inl ⟨han, h⟩
  ·exact .inr (.inr ⟨han, h, h2⟩)
 ·rintro ⟨a, ha, -⟩
  rw [he] at ha
  cases ha
theorem efd_ok {L Z : List K.En} {f : Fc} {er : Int} (h : EfD L f Z er) (hL : K.chk L = 0) (hE : EvOf f 0 ∧ ¬ EfC L f) : er = 0 ∧ K.Asc Z ∧ ∀ x, x ∈ Z ↔ EfK L f x := by
 rcases h with ⟨h, -⟩ | ⟨-, h, h0, -⟩ | ⟨-, -, h, -⟩ | ⟨-, -, -, h1, h2, h3⟩
 ·exact absurd hL h
 ·exact absurd (h.unique hE.1) h0
 ·exact absurd h hE.2
 ·exact ⟨h1, h2, h3⟩
theorem ttl_fold (M : List K.En) : ∀ l : K.Ln, (M.foldl K.addL l).qty = l.qty + K.ttl M := by
 induction M with
 | nil => intro l; simp [K.ttl]
 | cons a M ih => intro l; rw [List.foldl_cons, ih]; simp only [K.addL, K.ttl]; omega
theorem line_qty (L : List K.En) (s : ByteArray) : (K.lineOf L s).qty = K.ttl (flS L s) := by
 have := ttl_fold (flS L s) K.ln0
 have e : K.lineOf L s = (flS L s).foldl K.addL K.ln0 := rfl
 rw [e, this]
 simp [K.ln0]
theorem ttl_perm {A B : List K.En} (h : A.Perm B) : K.ttl A = K.ttl B := by
 induction h with
 | nil => rfl
 | cons x _ ih => simp only [K.ttl, ih]
 | swap x y l => simp only [K.ttl]; omega
 | trans _ _ ih1 ih2 => exact ih1.trans ih2
theorem ttl_part (L : List K.En) (p q : K.En → Bool) : K.ttl (L.filter p) = K.ttl (L.filter (fun e => q e && p e)) + K.ttl (L.filter (fun e => !q e && p e)) := by
 induction L with
 | nil => rfl
 | cons a L ih =>
  rw [List.filter_cons, List.filter_cons, List.filter_cons]
  cases hp : p a <;> cases hq : q a <;> simp only [Bool.and_true, Bool.and_false, Bool.not_true, Bool.not_false, if_true, if_false, Bool.false_eq_true, K.ttl] <;> omega
theorem flS_mem {L : List K.En} {s : ByteArray} {x : K.En} : x ∈ flS L s ↔ x ∈ L ∧ K.eqS x.sku s = true := List.mem_filter
theorem flO_mem {L : List K.En} {r : Int} {s : ByteArray} {x : K.En} : x ∈ flO L r s ↔ x ∈ L ∧ (x.rep == r && K.eqS x.sku s) = true := List.mem_filter
theorem noS_mem {L : List K.En} {s : ByteArray} {x : K.En} : x ∈ noS L s ↔ x ∈ L ∧ K.eqS x.sku s = false := by
 unfold noS
 rw [List.mem_filter, Bool.not_eq_true']
theorem eqS_self (s : ByteArray) : K.eqS s s = true := (K.eqS_iff s s).2 rfl
end Go.Proofs.YtmbkmpeongodbaaGreat
namespace Go.Proofs.YtmbkmpeongodbaaGreat
open Go.RowKit
theorem z_mem {L O Z : List K.En} {f : Fc} (hL : K.chk L = 0) (hO : ∀ x ∈ O, x ∈ L) (hC : CanonOf (dotsG (O.map dotOf)) f.p.P) (hr : f.rs = []) (hm : ∀ x, x ∈ Z ↔ EfK L f x) (x : K.En) : x ∈ Z ↔ (x ∈ L ∧ x ∉ O) ∨ x ∈ f.es := by
 rw [hm]
 unfold EfK
 constructor
 ·rintro (⟨h1, h2, -⟩ | h)
  ·exact .inl ⟨h1, fun h => by rw [(gone_mem hL hO hC h1).2 h] at h2; cases h2⟩
  ·exact .inr h
 ·rintro (⟨h1, h2⟩ | h)
  ·refine .inl ⟨h1, ?_, by rw [hr]; rfl⟩
   cases hb : inB f.p.P x
   ·rfl
   ·exact absurd ((gone_mem hL hO hC h1).1 hb) h2
  ·exact .inr h
theorem z_chk {L Z : List K.En} {f : Fc} (hL : K.chk L = 0) (hf : ∀ e ∈ f.es, K.ceE e = 0) (hA : K.Asc Z) (hm : ∀ x, x ∈ Z ↔ EfK L f x) : K.chk Z = 0 :=
 K.chk_asc hA (fun e he => by
  rcases (hm e).1 he with ⟨h, -⟩ | h
  ·exact chk_ce hL e h
  ·exact hf e h)
theorem z_others {L O Z E : List K.En} {s : ByteArray} (hL : K.Asc L) (hZ : K.Asc Z) (hm : ∀ x, x ∈ Z ↔ (x ∈ L ∧ x ∉ O) ∨ x ∈ E) (hO : ∀ x ∈ O, K.eqS x.sku s = true) (hE : ∀ x ∈ E, K.eqS x.sku s = true) : noS L s = noS Z s := by
 refine K.asc_unique (hL.filter _) (hZ.filter _) fun x => ?_
 show x ∈ noS L s ↔ x ∈ noS Z s
 rw [noS_mem, noS_mem, hm]
 constructor
 ·rintro ⟨h1, h2⟩
  exact ⟨.inl ⟨h1, fun h => by rw [hO x h] at h2; cases h2⟩, h2⟩
 ·rintro ⟨⟨h1, -⟩ | h1, h2⟩
  ·exact ⟨h1, h2⟩
  ·rw [hE x h1] at h2; cases h2
theorem re_ok {P : Pst} {r ct : Int} {O : List K.En} {s : ByteArray} {q : Int} {f : Fc} (h : ReD P r ct O s q f 0) : ∃ d, NxF P r ct d 0 ∧ f.es = [⟨d.lo, d.hi, s, q⟩] ∧ CanonOf (dotsG (O.map dotOf)) f.p.P ∧ f.rs = [] := by
 obtain ⟨d, x, hd, ⟨h1, -, h2⟩ | ⟨rfl, -, h1, h2, h3⟩⟩ := h
 ·exact absurd h2.symm h1
 ·exact ⟨d, hd, h1, h2, h3⟩
theorem fl_one {Z : List K.En} (hZ : K.Asc Z) {p : K.En → Bool} {e1 : K.En} (h : ∀ x, x ∈ Z ∧ p x = true ↔ x = e1) : Z.filter p = [e1] :=
 K.asc_unique (hZ.filter _) (asc_one e1) fun x => by rw [List.mem_filter, List.mem_singleton]; exact h x
theorem rd_set {L Z : List K.En} {P : Pst} {r ct : Int} {s : ByteArray} {q er : Int} {f : Fc} (hS : SeenAll L P) (hg : K.good s.data.toList = true) (hq : 1 ≤ q ∧ q ≤ 1000000) (h : ReD P r ct (flS L s) s q f 0) (hl : f.es.length = f.an) (hm : f.rs.length = f.rn) (hZ : EfD L f Z er) :
  er = 0 ∧ K.chk Z = 0 ∧ (K.lineOf Z s).qty = q ∧ (K.lineOf Z s).parts = 1 ∧ (flO Z r s).length = 1 ∧ noS L s = noS Z s := by
 obtain ⟨d, hd, he, hC, hr⟩ := re_ok h
 obtain ⟨h1, h2, h3, h4, -⟩ := nx_new hd
 have hc : K.ceE ⟨d.lo, d.hi, s, q⟩ = 0 := ce_of (by rw [← h2] at h1; exact h1) ⟨h3, h4⟩ hg hq
 have hO : ∀ x ∈ flS L s, x ∈ L := fun x hx => (flS_mem.1 hx).1
 obtain ⟨h0, hA, hmm⟩ := efd_ok hZ hS.1 (ev_add hS hO hd he ⟨rfl, rfl⟩ hc hC hr hl hm)
 have hz := z_mem hS.1 hO hC hr hmm
 rw [he] at hz
 have hck : K.chk Z = 0 := z_chk hS.1 (fun e h => by rw [he, List.mem_singleton] at h; rw [h]; exact hc) hA hmm
 have hf : flS Z s = [⟨d.lo, d.hi, s, q⟩] := fl_one hA fun x => by
  rw [hz, List.mem_singleton]
  constructor
  ·rintro ⟨⟨h5, h6⟩ | h5, h7⟩
   ·exact absurd (flS_mem.2 ⟨h5, h7⟩) h6
   ·exact h5
  ·rintro rfl
   exact ⟨.inr rfl, eqS_self s⟩
 have ho : flO Z r s = [⟨d.lo, d.hi, s, q⟩] := fl_one hA fun x => by
  rw [hz, List.mem_singleton]
  constructor
  ·rintro ⟨⟨h5, h6⟩ | h5, h7⟩
   ·rw [Bool.and_eq_true] at h7
    exact absurd (flS_mem.2 ⟨h5, h7.2⟩) h6
   ·exact h5
  ·rintro rfl
   refine ⟨.inr rfl, ?_⟩
   show (d.lo == r && K.eqS s s) = true
   rw [h2, eqS_self, beq_self_eq_true]
   rfl
 refine ⟨h0, hck, ?_, ?_, by rw [ho]; rfl, z_others (K.chk_asc' hS.1) hA hz (fun x hx => (flS_mem.1 hx).2) (fun x hx => by rw [List.mem_singleton.1 hx]; exact eqS_self s)⟩
 ·rw [line_qty, hf]; simp [K.ttl]
 ·rw [K.line_parts Z (K.chk_all hck) s, show K.ofS Z s = flS Z s from rfl, hf]; rfl
theorem rd_add {L Z : List K.En} {P : Pst} {r ct : Int} {s : ByteArray} {q er : Int} {f : Fc} (hS : SeenAll L P) (hg : K.good s.data.toList = true) (hq : 1 ≤ q ∧ q ≤ 1000000) (hov : ¬ 1000000 < K.ttl (flS L s) + q) (h : ReD P r ct (flO L r s) s (q + K.ttl (flO L r s)) f 0) (hl : f.es.length = f.an) (hm : f.rs.length = f.rn) (hZ : EfD L f Z er) :
  er = 0 ∧ K.chk Z = 0 ∧ (K.lineOf Z s).qty = (K.lineOf L s).qty + q ∧ (flO Z r s).length = 1 ∧ noS L s = noS Z s := by
 obtain ⟨d, hd, he, hC, hr⟩ := re_ok h
 obtain ⟨h1, h2, h3, h4, -⟩ := nx_new hd
 have hLa := K.chk_asc' hS.1
 have hok := K.chk_all hS.1
 have hpt : K.ttl (flS L s) = K.ttl (flO L r s) + K.ttl (L.filter (fun e => !(e.rep == r) && K.eqS e.sku s)) := ttl_part L (fun e => K.eqS e.sku s) (fun e => e.rep == r)
 have hb1 := (K.ttl_bd (flO L r s) (fun e he => hok e (flO_mem.1 he).1)).1
 have hb2 := (K.ttl_bd (L.filter (fun e => !(e.rep == r) && K.eqS e.sku s)) (fun e he => hok e (List.mem_filter.1 he).1)).1
 have hc : K.ceE ⟨d.lo, d.hi, s, q + K.ttl (flO L r s)⟩ = 0 := ce_of (by rw [← h2] at h1; exact h1) ⟨h3, h4⟩ hg ⟨by show 1 ≤ q + _; omega, by show q + _ ≤ 1000000; omega⟩
 have hO : ∀ x ∈ flO L r s, x ∈ L := fun x hx => (flO_mem.1 hx).1
 obtain ⟨h0, hA, hmm⟩ := efd_ok hZ hS.1 (ev_add hS hO hd he ⟨rfl, rfl⟩ hc hC hr hl hm)
 have hz := z_mem hS.1 hO hC hr hmm
 rw [he] at hz
 have hck : K.chk Z = 0 := z_chk hS.1 (fun e h => by rw [he, List.mem_singleton] at h; rw [h]; exact hc) hA hmm
 have ho : flO Z r s = [⟨d.lo, d.hi, s, q + K.ttl (flO L r s)⟩] := fl_one hA fun x => by
  rw [hz, List.mem_singleton]
  constructor
  ·rintro ⟨⟨h5, h6⟩ | h5, h7⟩
   ·exact absurd (flO_mem.2 ⟨h5, h7⟩) h6
   ·exact h5
  ·rintro rfl
   refine ⟨.inr rfl, ?_⟩
   show (d.lo == r && K.eqS s s) = true
   rw [h2, eqS_self, beq_self_eq_true]
   rfl
 have hp : (flS Z s).Perm (⟨d.lo, d.hi, s, q + K.ttl (flO L r s)⟩ :: L.filter (fun e => !(e.rep == r) && K.eqS e.sku s)) := by
  refine (List.perm_ext_iff_of_nodup (asc_nodupE (hA.filter _)) (List.nodup_cons.2 ⟨fun h => ?_, asc_nodupE (hLa.filter _)⟩)).2 fun x => ?_
  ·have h5 := (List.mem_filter.1 h).2
   simp only [h2, beq_self_eq_true, Bool.not_true, Bool.false_and] at h5
   cases h5
  ·rw [List.mem_filter, hz, List.mem_singleton, List.mem_cons, List.mem_filter]
   constructor
   ·rintro ⟨⟨h5, h6⟩ | h5, h7⟩
    ·refine .inr ⟨h5, ?_⟩
     cases hb : (x.rep == r)
     ·rw [h7]; rfl
     ·exact absurd (flO_mem.2 ⟨h5, by rw [hb, h7]; rfl⟩) h6
    ·exact .inl h5
   ·rintro (rfl | ⟨h5, h6⟩)
    ·exact ⟨.inr rfl, eqS_self s⟩
    ·rw [Bool.and_eq_true] at h6
     refine ⟨.inl ⟨h5, fun h => ?_⟩, h6.2⟩
     have h7 := (flO_mem.1 h).2
     rw [Bool.and_eq_true] at h7
     have h8 := h6.1
     rw [h7.1] at h8
     cases h8
 refine ⟨h0, hck, ?_, by rw [ho]; rfl, z_others hLa hA hz (fun x hx => ?_) (fun x hx => by rw [List.mem_singleton.1 hx]; exact eqS_self s)⟩
 ·rw [line_qty, line_qty, ttl_perm hp]
  simp only [K.ttl]
  omega
 ·have h5 := (flO_mem.1 hx).2
  rw [Bool.and_eq_true] at h5
  exact h5.2
theorem rd_gone {L O Z : List K.En} {er : Int} {f : Fc} (hL : K.chk L = 0) (hO : ∀ x ∈ O, x ∈ L) (h : GoneD O f 0) (hl : f.es.length = f.an) (hm : f.rs.length = f.rn) (hZ : EfD L f Z er) :
  er = 0 ∧ K.chk Z = 0 ∧ K.Asc Z ∧ ∀ x, x ∈ Z ↔ (x ∈ L ∧ x ∉ O) ∨ x ∈ f.es := by
 obtain ⟨he, hr, hC, -⟩ := h
 have hrn : f.rn = 0 := by rw [← hm, hr]; rfl
 obtain ⟨h0, hA, hmm⟩ := efd_ok hZ hL (ev_none he hl (chain_of_canon hC) (by rw [hrn]; exact okR_zero _) (.inl hrn))
 exact ⟨h0, z_chk hL (fun e h => by rw [he] at h; cases h) hA hmm, hA, z_mem hL hO hC hr hmm⟩
theorem rd_rem {L Z : List K.En} {s : ByteArray} {er : Int} {f : Fc} (hL : K.chk L = 0) (hne : flS L s ≠ []) (h : GoneD (flS L s) f 0) (hl : f.es.length = f.an) (hm : f.rs.length = f.rn) (hZ : EfD L f Z er) :
  er = 0 ∧ K.chk Z = 0 ∧ 0 < (K.lineOf L s).parts ∧ (K.lineOf Z s).parts = 0 ∧ noS L s = noS Z s := by
 have he := h.1
 obtain ⟨h0, hck, hA, hz⟩ := rd_gone hL (fun x hx => (flS_mem.1 hx).1) h hl hm hZ
 refine ⟨h0, hck, ?_, ?_, z_others (K.chk_asc' hL) hA hz (fun x hx => (flS_mem.1 hx).2) (fun x hx => by rw [he] at hx; cases hx)⟩
 ·rw [K.line_parts L (K.chk_all hL) s, show K.ofS L s = flS L s from rfl]
  have := List.length_pos_iff.2 hne
  omega
 ·rw [K.line_parts Z (K.chk_all hck) s, show K.ofS Z s = flS Z s from rfl]
  have hn : flS Z s = [] := List.eq_nil_iff_forall_not_mem.2 fun x hx => by
   obtain ⟨h1, h2⟩ := flS_mem.1 hx
   rcases (hz x).1 h1 with ⟨h3, h4⟩ | h3
   ·exact h4 (flS_mem.2 ⟨h3, h2⟩)
   ·rw [he] at h3; cases h3
  rw [hn]; rfl
theorem rd_clear {L Z : List K.En} {er : Int} {f : Fc} (hL : K.chk L = 0) (h : GoneD L f 0) (hl : f.es.length = f.an) (hm : f.rs.length = f.rn) (hZ : EfD L f Z er) : er = 0 ∧ K.chk Z = 0 ∧ Z = [] := by
 have he := h.1
 obtain ⟨h0, hck, hA, hz⟩ := rd_gone hL (fun x hx => hx) h hl hm hZ
 refine ⟨h0, hck, List.eq_nil_iff_forall_not_mem.2 fun x hx => ?_⟩
 rcases (hz x).1 hx with ⟨h1, h2⟩ | h1
 ·exact h2 h1
 ·rw [he] at h1; cases h1
theorem zero_in (e : K.En) : inB pv0.P e = false := by
 cases hb : inB pv0.P e
 ·rfl
 ·rw [inB_iff] at hb
  unfold dotIn at hb
  obtain ⟨h1, h2⟩ := hb
  exact absurd h2 (by unfold runsAt pv0; simp [vecPart, cloudPart, V.at', mem, V.clamp])
theorem zero_empty : EmptyP pv0.P := fun r hr n h => by
 have := (mem_runs pv0.P r hr n).1 h
 rcases this with ⟨h1, -, h2 | ⟨c, hc, -⟩⟩
 ·have : (pv0.P.vec.getD r 0) = 0 := by simp [pv0]
  omega
 ·cases hc
theorem zero_form : InForm pv0.P := ⟨by decide, trivial⟩
theorem rd_rec {L Z : List K.En} {s : ByteArray} {A : Pst} {er : Int} {f : Fc} (hL : K.chk L = 0) (hs : skuR s = true) (h : RecD s A f 0) (hl : f.es.length = f.an) (hm : f.rs.length = f.rn) (hZ : EfD L f Z er) :
  er = 0 ∧ K.chk Z = 0 ∧ Z = ktL L s A := by
 have hLa := K.chk_asc' hL
 obtain ⟨-, ⟨hE, he, hp, hr⟩ | ⟨hE, he, hp, rc, hr, hrs, hC⟩⟩ := h
 ·have hrn : f.rn = 0 := by rw [← hm, hr]; rfl
  obtain ⟨h0, hA, hmm⟩ := efd_ok hZ hL (ev_none he hl (by rw [hp]; exact zero_form) (by rw [hrn]; exact okR_zero _) (.inl hrn))
  refine ⟨h0, z_chk hL (fun e h => by rw [he] at h; cases h) hA hmm, K.asc_unique hA (hLa.filter _) fun x => ?_⟩
  have hA0 : inB A x = false := by
   cases hb : inB A x
   ·rfl
   ·rw [inB_iff] at hb
    have h1 : 0 ≤ x.rep ∧ x.rep < 16 := by simpa [V.isR] using hb.1
    exact absurd hb.2 (hE _ (by show x.rep.toNat < 16; omega) _)
  show x ∈ Z ↔ x ∈ ktL L s A
  unfold ktL kpB
  rw [hmm, List.mem_filter, hA0]
  unfold EfK
  rw [hp, hr, he, zero_in]
  simp [freeB]
 ·have hrn : f.rn = 1 := by rw [← hm, hr]; rfl
  have hform : OkR f.rs f.rn := by
   rw [hrn, hr]
   intro j hj
   obtain rfl : j = 0 := by omega
   refine ⟨⟨by show skuR rc.s = true; rw [hrs]; exact hs, chain_of_canon hC, fun h => hE fun r hr n hn => h r hr n ((canon_mem hC r hr n).2 hn)⟩, fun h => absurd h (by decide)⟩
  obtain ⟨h0, hA, hmm⟩ := efd_ok hZ hL (ev_none he hl (by rw [hp]; exact zero_form) hform (.inr ⟨hrn, by rw [hp]; exact zero_empty⟩))
  refine ⟨h0, z_chk hL (fun e h => by rw [he] at h; cases h) hA hmm, K.asc_unique hA (hLa.filter _) fun x => ?_⟩
  have hin : inB rc.p.P x = inB A x := by
   have key : inB rc.p.P x = true ↔ inB A x = true := by
    rw [inB_iff, inB_iff]
    unfold dotIn
    constructor
    ·rintro ⟨h1, h2⟩
     have h3 : 0 ≤ x.rep ∧ x.rep < 16 := by simpa [V.isR] using h1
     exact ⟨h1, (canon_mem hC _ (by show x.rep.toNat < 16; omega) _).1 h2⟩
    ·rintro ⟨h1, h2⟩
     have h3 : 0 ≤ x.rep ∧ x.rep < 16 := by simpa [V.isR] using h1
     exact ⟨h1, (canon_mem hC _ (by show x.rep.toNat < 16; omega) _).2 h2⟩
   cases h1 : inB rc.p.P x <;> cases h2 : inB A x
   ·rfl
   ·rw [h1, h2] at key; exact absurd (key.2 rfl) (by decide)
   ·rw [h1, h2] at key; exact absurd (key.1 rfl) (by decide)
   ·rfl
  have hcv : covB rc x = kpB s A x := by
   unfold covB kpB
   rw [hin, hrs]
   congr 2
   cases h1 : (s.toList == x.sku.toList) <;> cases h2 : (x.sku.toList == s.toList)
   ·rfl
   ·rw [beq_iff_eq] at h2; rw [h2] at h1; simp at h1
   ·rw [beq_iff_eq] at h1; rw [h1] at h2; simp at h2
   ·rfl
  show x ∈ Z ↔ x ∈ ktL L s A
  unfold ktL
  rw [hmm, List.mem_filter]
  unfold EfK
  rw [hp, hr, he, zero_in]
  simp [freeB, hcv]
end Go.Proofs.YtmbkmpeongodbaaGreat
namespace Go.Proofs.YtmbkmpeongodbaaGreat
open Go.RowKit
attribute [local go_sem ↓] ldP_eq stP_eq ldFa_eq stFa_eq ldD_eq stD_eq
attribute [local go_sem] cells_PV PC_size cells_FaV FaC_size cells_RV RC_size zero_RC fold_RC
set_option maxRecDepth 100000 in
set_option maxHeartbeats 1600000 in
theorem isOneActs_a (f : Fc) (w : World) (hF : FcOk w f) (han : f.an = 0) (hrn : f.rn = 0) : Calls Tryz.prog 39 #[FaV (mkF f)] w fun e w' => GivB w w' e (OneA f) := by
 have HX := hide (FaBox_new w (mkF f))
 have HBK := hide (below_new w (.cells (FaC (mkF f)) 36))
 have HS := hide (hF.below HBK.out)
 clear hF
 obtain ⟨wk, hwk⟩ : ∃ wk, w.alloc (.cells (FaC (mkF f)) 36) = wk := ⟨_, rfl⟩
 obtain ⟨G, hG⟩ : ∃ G, w.heap.size = G := ⟨_, rfl⟩
 rw [hwk] at HX HBK HS
 rw [hG] at HX
 obtain ⟨c0, c3⟩ := HX.out.cs
 have lp := run_ldP HX.out.past
 have lf := run_ldFa HX.out
 have Han := hide han
 rw [han] at c0
 have Hrn := hide hrn
 rw [hrn] at c3
 clear han hrn
 have HY : Hid (OneA f) := .inl ⟨Han.out, Hrn.out⟩
 go_enter Tryz.func39, Tryz.ntmps39
 go_wp2_with fail
 go_ret
 exact ⟨_, rfl, BIf.yes HY.out, HBK.out⟩
set_option maxRecDepth 100000 in
set_option maxHeartbeats 1600000 in
theorem isOneActs_b (f : Fc) (w : World) (hF : FcOk w f) (han : f.an = 0) (hrn : 2 ≤ f.rn) : Calls Tryz.prog 39 #[FaV (mkF f)] w fun e w' => GivB w w' e (OneA f) := by
 have HX := hide (FaBox_new w (mkF f))
 have HBK := hide (below_new w (.cells (FaC (mkF f)) 36))
 have HS := hide (hF.below HBK.out)
 clear hF
 obtain ⟨wk, hwk⟩ : ∃ wk, w.alloc (.cells (FaC (mkF f)) 36) = wk := ⟨_, rfl⟩
 obtain ⟨G, hG⟩ : ∃ G, w.heap.size = G := ⟨_, rfl⟩
 rw [hwk] at HX HBK HS
 rw [hG] at HX
 obtain ⟨c0, c3⟩ := HX.out.cs
 have lp := run_ldP HX.out.past
 have lf := run_ldFa HX.out
 have Han := hide han
 rw [han] at c0
 have Hrn := hide hrn
 have zrn1 : ((f.rn : Int) == 0) = false := by have := Hrn.out; simp; omega
 have zrn2 : (f.rn == 0) = false := by have := Hrn.out; simp; omega
 have zrn3 : ((f.rn : Int) == 1) = false := by have := Hrn.out; simp; omega
 have zrn4 : (f.rn == 1) = false := by have := Hrn.out; simp; omega
 clear han hrn
 have HN : Hid (¬ OneA f) := fun h => by rcases h with ⟨h1, h2⟩ | ⟨h1, h2, _⟩ | ⟨h1, h2, _⟩ <;> (have := Hrn.out; omega)
 go_enter Tryz.func39, Tryz.ntmps39
 go_wp2_with fail
 go_ret
 exact ⟨_, rfl, BIf.no HN.out, HBK.out⟩
set_option maxRecDepth 100000 in
set_option maxHeartbeats 1600000 in
theorem isOneActs_c (f : Fc) (w : World) (hF : FcOk w f) (han : f.an = 1) (hrn : 1 ≤ f.rn) : Calls Tryz.prog 39 #[FaV (mkF f)] w fun e w' => GivB w w' e (OneA f) := by
 have HX := hide (FaBox_new w (mkF f))
 have HBK := hide (below_new w (.cells (FaC (mkF f)) 36))
 have HS := hide (hF.below HBK.out)
 clear hF
 obtain ⟨wk, hwk⟩ : ∃ wk, w.alloc (.cells (FaC (mkF f)) 36) = wk := ⟨_, rfl⟩
 obtain ⟨G, hG⟩ : ∃ G, w.heap.size = G := ⟨_, rfl⟩
 rw [hwk] at HX HBK HS
 rw [hG] at HX
 obtain ⟨c0, c3⟩ := HX.out.cs
 have lp := run_ldP HX.out.past
 have lf := run_ldFa HX.out
 have Han := hide han
 rw [han] at c0
 have Hrn := hide hrn
 have zrn1 : ((f.rn : Int) == 0) = false := by have := Hrn.out; simp; omega
 have zrn2 : (f.rn == 0) = false := by have := Hrn.out; simp; omega
 clear han hrn
 have HN : Hid (¬ OneA f) := fun h => by rcases h with ⟨h1, h2⟩ | ⟨h1, h2, _⟩ | ⟨h1, h2, _⟩ <;> (have := Hrn.out; have := Han.out; omega)
 go_enter Tryz.func39, Tryz.ntmps39
 go_wp2_with fail
 go_ret
 exact ⟨_, rfl, BIf.no HN.out, HBK.out⟩
set_option maxRecDepth 100000 in
set_option maxHeartbeats 1600000 in
theorem isOneActs_d (f : Fc) (w : World) (hF : FcOk w f) (han : 2 ≤ f.an) : Calls Tryz.prog 39 #[FaV (mkF f)] w fun e w' => GivB w w' e (OneA f) := by
 have HX := hide (FaBox_new w (mkF f))
 have HBK := hide (below_new w (.cells (FaC (mkF f)) 36))
 have HS := hide (hF.below HBK.out)
 clear hF
 obtain ⟨wk, hwk⟩ : ∃ wk, w.alloc (.cells (FaC (mkF f)) 36) = wk := ⟨_, rfl⟩
 obtain ⟨G, hG⟩ : ∃ G, w.heap.size = G := ⟨_, rfl⟩
 rw [hwk] at HX HBK HS
 rw [hG] at HX
 obtain ⟨c0, c3⟩ := HX.out.cs
 have lp := run_ldP HX.out.past
 have lf := run_ldFa HX.out
 have Han := hide han
 have zan1 : ((f.an : Int) == 0) = false := by have := Han.out; simp; omega
 have zan2 : (f.an == 0) = false := by have := Han.out; simp; omega
 have zan3 : ((f.an : Int) == 1) = false := by have := Han.out; simp; omega
 have zan4 : (f.an == 1) = false := by have := Han.out; simp; omega
 clear han
 have HN : Hid (¬ OneA f) := fun h => by rcases h with ⟨h1, h2⟩ | ⟨h1, h2, _⟩ | ⟨h1, h2, _⟩ <;> (have := Han.out; omega)
 go_enter Tryz.func39, Tryz.ntmps39
 go_wp2_with fail
 go_ret
 exact ⟨_, rfl, BIf.no HN.out, HBK.out⟩
set_option maxRecDepth 100000 in
set_option maxHeartbeats 1600000 in
theorem isOneActs_e (f : Fc) (w : World) (hF : FcOk w f) (han : f.an = 0) (hrn : f.rn = 1) : Calls Tryz.prog 39 #[FaV (mkF f)] w fun e w' => GivB w w' e (OneA f) := by
 have HX := hide (FaBox_new w (mkF f))
 have HBK := hide (below_new w (.cells (FaC (mkF f)) 36))
 have HS := hide (hF.below HBK.out)
 clear hF
 obtain ⟨wk, hwk⟩ : ∃ wk, w.alloc (.cells (FaC (mkF f)) 36) = wk := ⟨_, rfl⟩
 obtain ⟨G, hG⟩ : ∃ G, w.heap.size = G := ⟨_, rfl⟩
 rw [hwk] at HX HBK HS
 rw [hG] at HX
 obtain ⟨c0, c3⟩ := HX.out.cs
 have lp := run_ldP HX.out.past
 have lf := run_ldFa HX.out
 have Han := hide han
 rw [han] at c0
 have Hrn := hide hrn
 rw [hrn] at c3
 clear han hrn
 go_enter Tryz.func39, Tryz.ntmps39
 go_wp2_with fail
 clear hwk hG
 refine (pastEmpty_any f.p _ HS.out.p).mono ?_
 rintro e w2 ⟨b, rfl, hb, b2⟩
 have HF : Hid (BIf b (OneA f) ∧ Below w.heap.size w w2) := ⟨⟨fun h => .inr (.inr ⟨Han.out, Hrn.out, hb.1 h⟩), fun h => by
  have h5 := Han.out
  have h6 := Hrn.out
  rcases h with ⟨h1, h2⟩ | ⟨h1, h2, _⟩ | ⟨h1, h2, h3⟩
  ·omega
  ·omega
  ·exact hb.2 h3⟩, HBK.out.trans (b2.mono HBK.out.size)⟩
 clear hb b2 c0 c3 lp lf
 cases b with
 | true =>
  go_wp2_with fail
  go_ret
  exact ⟨_, rfl, HF.out.1, HF.out.2⟩
 | false =>
  go_wp2_with fail
  go_ret
  exact ⟨_, rfl, HF.out.1, HF.out.2⟩
set_option maxRecDepth 100000 in
set_option maxHeartbeats 1600000 in
theorem isOneActs_f (f : Fc) (w : World) (hF : FcOk w f) (han : f.an = 1) (hrn : f.rn = 0) : Calls Tryz.prog 39 #[FaV (mkF f)] w fun e w' => GivB w w' e (OneA f) := by
 have HX := hide (FaBox_new w (mkF f))
 have HBK := hide (below_new w (.cells (FaC (mkF f)) 36))
 have HS := hide (hF.below HBK.out)
 clear hF
 obtain ⟨wk, hwk⟩ : ∃ wk, w.alloc (.cells (FaC (mkF f)) 36) = wk := ⟨_, rfl⟩
 obtain ⟨G, hG⟩ : ∃ G, w.heap.size = G := ⟨_, rfl⟩
 rw [hwk] at HX HBK HS
 rw [hG] at HX
 obtain ⟨c0, c3⟩ := HX.out.cs
 have lp := run_ldP HX.out.past
 have lf := run_ldFa HX.out
 have Han := hide han
 rw [han] at c0
 have Hrn := hide hrn
 rw [hrn] at c3
 clear han hrn
 obtain ⟨ad, e1, A0⟩ := HS.out.es.at 0 (by have := Han.out; omega)
 obtain ⟨x, Hx⟩ : ∃ x, Hid (f.es.getD 0 K.en0 = x) := ⟨_, rfl⟩
 rw [Hx.out, Nat.zero_mul, K.add_zero] at A0
 have R0 : RnAt wk ad ⟨x.rep, x.num⟩ := ⟨A0.c0, A0.c1⟩
 have ld := run_ldD R0
 rw [e1] at c0
 obtain ⟨gd, hgd⟩ : ∃ g, wk.heap.size = g := ⟨_, rfl⟩
 obtain ⟨w1, hst, X1, B1, -⟩ := madeD wk ⟨x.rep, x.num⟩ gd hgd
 have HX1 := hide X1
 have HB1 := hide (HBK.out.trans (B1.mono HBK.out.size))
 have HP1 := hide (HS.out.p.below B1)
 have HF1 := hide (HX.out.below B1)
 clear X1 B1 A0 R0
 go_enter Tryz.func39, Tryz.ntmps39
 go_wp2_with fail
 clear hwk hG hst ld c0 c3 lp lf hgd
 refine wp_region_held_drew (S := fun v => (ldP (.pointer (some ⟨G, 1, none⟩))).run Tryz.prog v = .ok (PV f.p) v ∧ v.cell? ⟨gd, 0, none⟩ = some (.int .i64 x.rep) ∧ v.cell? ⟨gd, 1, none⟩ = some (.int .i64 x.num)) (by kernel_rfl) (⟨run_ldP (HF1.out.below (below_drew1 w1)).past, (HX1.out.below (below_drew1 w1)).at.c0, (HX1.out.below (below_drew1 w1)).at.c1⟩) (fun hHeld => ?_)
 refine wTk 0 ⟨some 31, .fieldAddr 36 (.tmp 1) 1, 0, "event.go:34", #[], none⟩ rfl ?_
 refine wTk 1 ⟨some 32, .load 26 (.tmp 31), 26, "event.go:34", #[⟨0, .data⟩], none⟩ rfl ?_
 refine wTk 2 ⟨some 33, .fieldAddr 44 (.tmp 3) 0, 0, "event.go:34", #[], none⟩ rfl ?_
 refine wTk 3 ⟨some 34, .load 3 (.tmp 33), 3, "event.go:34", #[⟨2, .data⟩], none⟩ rfl ?_
 refine wTk 5 ⟨some 36, .fieldAddr 44 (.tmp 3) 1, 0, "event.go:34", #[], none⟩ rfl ?_
 refine wTk 6 ⟨some 37, .load 3 (.tmp 36), 3, "event.go:34", #[⟨5, .data⟩], none⟩ rfl ?_
 refine wpAnyH_ready (rs := [4]) (by kernel_rfl) (by simp) (.cons rfl (fun K hK => ?_) .nil)
 go_simp
 go_wp2_with fail
 refine (pastLast_any f.p x.rep _ (HP1.out.below (below_drew1 w1))).mono ?_
 rintro e w2 ⟨k, rfl, hk, b2⟩
 have hB2 : Below w1.heap.size w1 w2 := (below_drew1 w1).trans b2
 have HF : Hid (BIf (decide (k < x.num)) (OneA f) ∧ Below w.heap.size w w2) := by
  refine ⟨⟨fun h => .inr (.inl ⟨Han.out, Hrn.out, k, ?_, ?_⟩), fun h => ?_⟩, HB1.out.trans (hB2.mono HB1.out.size)⟩
  ·rw [Hx.out]; exact hk
  ·rw [Hx.out]; exact of_decide_eq_true h
  ·have h5 := Han.out
   have h6 := Hrn.out
   rcases h with ⟨h1, h2⟩ | ⟨h1, h2, k2, h3, h4⟩ | ⟨h1, h2, h3⟩
   ·omega
   ·rw [Hx.out] at h3 h4
    rw [show k = k2 from LastOf.unique hk h3]
    exact decide_eq_true h4
   ·omega
 refine hK.out _ _ (⟨run_ldP (HF1.out.below (hB2)).past, (HX1.out.below (hB2)).at.c0, (HX1.out.below (hB2)).at.c1⟩) (fun hHeld => ?_)
 clear hK K b2 hk hB2
 refine wTk 7 ⟨some 38, .binOp .lss 3 (.tmp 35) (.tmp 37) 3, 4, "event.go:34", #[⟨4, .data⟩, ⟨6, .data⟩], none⟩ rfl ?_
 refine wTk 8 ⟨some 2, .assign (.tmp 38), 4, "event.go:34", #[⟨7, .data⟩, ⟨4, .chain⟩, ⟨0, .phase⟩, ⟨1, .phase⟩, ⟨2, .phase⟩, ⟨3, .phase⟩, ⟨4, .phase⟩, ⟨5, .phase⟩, ⟨6, .phase⟩, ⟨7, .phase⟩], none⟩ rfl ?_
 refine wpAnyH_done (by kernel_rfl) ?_ _
 clear hHeld
 go_wp2_with fail
 go_ret
 exact ⟨_, rfl, HF.out.1, HF.out.2⟩
theorem isOneActs_any (f : Fc) (w : World) (hF : FcOk w f) : Calls Tryz.prog 39 #[FaV (mkF f)] w fun e w' => GivB w w' e (OneA f) := by
 by_cases h0 : f.an = 0
 ·by_cases k0 : f.rn = 0
  ·exact isOneActs_a f w hF h0 k0
  ·by_cases k1 : f.rn = 1
   ·exact isOneActs_e f w hF h0 k1
   ·exact isOneActs_b f w hF h0 (by omega)
 ·by_cases h1 : f.an = 1
  ·by_cases k0 : f.rn = 0
   ·exact isOneActs_f f w hF h1 k0
   ·exact isOneActs_c f w hF h1 (by omega)
  ·exact isOneActs_d f w hF (by omega)
end Go.Proofs.YtmbkmpeongodbaaGreat
namespace Go.Proofs.YtmbkmpeongodbaaGreat
open Go.RowKit
attribute [local go_sem ↓] ldP_eq stP_eq ldFa_eq stFa_eq ldD_eq stD_eq
attribute [local go_sem] cells_PV PC_size cells_FaV FaC_size cells_RV RC_size zero_RC fold_RC
theorem chk_no {L : List K.En} {n : Nat} (hl : L.length = n) (h : K.okN L n = false) : K.chk L = 1 := by unfold K.chk; rw [hl, h]; rfl
theorem chk_yes {L : List K.En} {n : Nat} (hl : L.length = n) (h : K.okN L n = true) : K.chk L = 0 := by unfold K.chk; rw [hl, h]; rfl
set_option maxRecDepth 100000 in
set_option maxHeartbeats 1600000 in
theorem actEvent_any (f : Fc) (w : World) (hF : FcOk w f) : Calls Tryz.prog 10 #[FaV (mkF f)] w fun e w' => GivesK w w' e (EvOf f) := by
 have HX := hide (FaBox_new w (mkF f))
 have HBK := hide (below_new w (.cells (FaC (mkF f)) 36))
 have HS := hide (hF.below HBK.out)
 clear hF
 obtain ⟨wk, hwk⟩ : ∃ wk, w.alloc (.cells (FaC (mkF f)) 36) = wk := ⟨_, rfl⟩
 obtain ⟨G, hG⟩ : ∃ G, w.heap.size = G := ⟨_, rfl⟩
 rw [hwk] at HX HBK HS
 rw [hG] at HX
 obtain ⟨c0, c3⟩ := HX.out.cs
 have lp := run_ldP HX.out.past
 have lf := run_ldFa HX.out
 go_enter Tryz.func10, Tryz.ntmps10
 go_wp2_with fail
 clear hwk hG
 refine (K.lcheck_any f.ao f.an f.ac f.es _ HS.out.es).mono ?_
 rintro e w2 ⟨rfl, b2⟩
 have HB2 := hide (HBK.out.trans (b2.mono HBK.out.size))
 have HX2 := hide (HX.out.below b2)
 have HS2 := hide (HS.out.below b2)
 clear b2 c0 c3 lp lf HX HS HBK
 cases hc : K.okN f.es f.an with
 | false =>
  rw [chk_no HS2.out.es.1 hc]
  have HE : Hid (EvOf f 1) := .inl ⟨(fun h => by have h1 := h.1; rw [hc] at h1; cases h1), rfl⟩
  clear hc
  go_wp2_with fail
  go_ret
  exact ⟨_, rfl, HE.out, HB2.out⟩
 | true =>
  rw [chk_yes HS2.out.es.1 hc]
  have HC := hide hc
  have lp := run_ldP HX2.out.past
  clear hc
  go_wp2_with fail
  refine (isNormP_any f.p _ HS2.out.p).mono ?_
  rintro e w3 ⟨b, rfl, hb, b3⟩
  have HB3 := hide (HB2.out.trans (b3.mono HB2.out.size))
  have HX3 := hide (HX2.out.below b3)
  have HS3 := hide (HS2.out.below b3)
  clear b3 lp HX2 HS2 HB2
  cases b with
  | false =>
   have HE : Hid (EvOf f 1) := .inl ⟨fun h => (by have := hb.out.2 h.2.1; cases this), rfl⟩
   clear hb
   go_wp2_with fail
   go_ret
   exact ⟨_, rfl, HE.out, HB3.out⟩
  | true =>
   have HI : Hid (InForm f.p.P) := hb.out.1 rfl
   have c3 := HX3.out.cs.2
   clear hb
   go_wp2_with fail
   refine (keepCheck_any f.ro f.rn f.rc f.rs _ HS3.out.rs).mono ?_
   rintro e w4 ⟨x, rfl, hx, b4⟩
   have HB4 := hide (HB3.out.trans (b4.mono HB3.out.size))
   have HX4 := hide (HX3.out.below b4)
   have HS4 := hide (HS3.out.below b4)
   clear b4 c3 HX3 HS3 HB3
   rcases hx with ⟨rfl, hr⟩ | ⟨rfl, hr⟩
   ·have HFo : Hid (FormF f) := ⟨HC.out, HI.out, hr⟩
    have lf := run_ldFa HX4.out
    clear hr
    go_wp2_with fail
    refine (isOneActs_any f _ HS4.out).mono ?_
    rintro e w5 ⟨b, rfl, hb, b5⟩
    have HB5 := hide (HB4.out.trans (b5.mono HB4.out.size))
    clear b5 lf
    cases b with
    | true =>
     have HE : Hid (EvOf f 0) := .inr (.inr ⟨HFo.out, hb.out.1 rfl, rfl⟩)
     clear hb
     go_wp2_with fail
     go_ret
     exact ⟨_, rfl, HE.out, HB5.out⟩
    | false =>
     have HE : Hid (EvOf f 2) := .inr (.inl ⟨HFo.out, fun h => (by have := hb.out.2 h; cases this), rfl⟩)
     clear hb
     go_wp2_with fail
     go_ret
     exact ⟨_, rfl, HE.out, HB5.out⟩
   ·have HE : Hid (EvOf f 1) := .inl ⟨fun h => hr h.2.2, rfl⟩
    clear hr
    go_wp2_with fail
    go_ret
    exact ⟨_, rfl, HE.out, HB4.out⟩
end Go.Proofs.YtmbkmpeongodbaaGreat

