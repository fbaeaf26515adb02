/- TUa BMp BMr BPr BPg TShg TUc BS1 BLi BSo -/
import Derived.Test.YtjeilkenjdnafaaGreatTk
import Derived.Test.YtjeilkenjdnafaaGreatDk16
import Derived.Test.YtjeilkenjdnafaaGreatDk20
import Derived.Sort.KeysCollected
import Derived.Maps.Ext
import Derived.Maps.OwnOps
import Derived.StringKeys
import Derived.Below
import Derived.Maps.AppendAt
import Derived.Laws.OwnMore
import Derived.Test.YtjeilkenjdnafaaGreatDk06
import Derived.Shelf.Spec.SlicesGrow
import Derived.Test.YtjeilkenjdnafaaGreatProg
import Derived.Test.YtjeilkenjdnafaaGreatDk18
import Derived.Laws.AppendOwnNone
import Derived.Deep.LoopGhost
import Derived.Test.YtjeilkenjdnafaaGreatDk00
import Derived.Test.YtjeilkenjdnafaaGreatDk09
import Derived.Deep.CutRange
set_option maxRecDepth 100000
set_option maxHeartbeats 1600000
namespace Go.Proofs.YtjeilkenjdnafaaGreat
section
open Go.RowKit
/-! ### any total order -/
section
variable {α : Type} {c : α -> α -> Int}
def Srt (c : α -> α -> Int) (L:List α):Prop:=L.Pairwise fun x y=>c x y < 0
structure Mg (c : α -> α -> Int) (X Y:List α) (D A B:List α):Prop where
 sd:Srt c D
 sa:Srt c A
 sb:Srt c B
 da:∀ d∈D,∀ x∈A,c d x < 0
 db:∀ d∈D,∀ x∈B,c d x < 0
 all:∀ x,(x∈D∨x∈A∨x∈B)↔(x∈X∨x∈Y)
theorem Mg.symm {X Y D A B:List α} (h:Mg c X Y D A B):Mg c X Y D B A:=
 ⟨h.sd,h.sb,h.sa,h.db,h.da,fun x=>by rw [<- h.all x];constructor <;> (rintro (q | q | q) <;> simp [q])⟩
theorem Mg.left {X Y D A B:List α} {x : α} (h:Mg c X Y D (x :: A) B) (hx:∀ y∈B,c x y < 0):Mg c X Y (D++[x]) A B:=by
 obtain ⟨a1,a2⟩:=List.pairwise_cons.1 h.sa;refine ⟨List.pairwise_append.2 ⟨h.sd,List.pairwise_singleton _ _,fun d hd y hy=>?_⟩,a2,h.sb,fun d hd y hy=>?_,fun d hd y hy=>?_,fun y=>?_⟩
 ·obtain rfl:=List.mem_singleton.1 hy;exact h.da d hd _ List.mem_cons_self
 ·rcases List.mem_append.1 hd with q | q
  ·exact h.da d q y (List.mem_cons_of_mem _ hy)
  ·obtain rfl:=List.mem_singleton.1 q;exact a1 y hy
 ·rcases List.mem_append.1 hd with q | q
  ·exact h.db d q y hy
  ·obtain rfl:=List.mem_singleton.1 q;exact hx y hy
 ·rw [<- h.all y];simp only [List.mem_append,List.mem_cons];constructor
  ·rintro ((q | q) | q | q)
   ·exact .inl q
   ·exact .inr (.inl (.inl (by simpa using q)))
   ·exact .inr (.inl (.inr q))
   ·exact .inr (.inr q)
  ·rintro (q | (q | q) | q)
   ·exact .inl (.inl q)
   ·exact .inl (.inr (by simp [q]))
   ·exact .inr (.inl q)
   ·exact .inr (.inr q)
theorem Mg.drop {X Y D A B:List α} {x : α} (h:Mg c X Y D (x :: A) B) (hx:x∈B):Mg c X Y D A B:=
 ⟨h.sd,(List.pairwise_cons.1 h.sa).2,h.sb,fun d hd y hy=>h.da d hd y (List.mem_cons_of_mem _ hy),h.db,fun y=>by
  rw [<- h.all y];constructor
  ·rintro (q | q | q)
   ·exact .inl q
   ·exact .inr (.inl (List.mem_cons_of_mem _ q))
   ·exact .inr (.inr q)
  ·rintro (q | q | q)
   ·exact .inl q
   ·rcases List.mem_cons.1 q with rfl | q
    ·exact .inr (.inr hx)
    ·exact .inr (.inl q)
   ·exact .inr (.inr q)⟩
theorem srt_head (h:Tot c) {x y : α} {B:List α} (hB:Srt c (y :: B)) (hxy:c x y < 0):∀ z∈y :: B,c x z < 0:=fun z hz=>by
 rcases List.mem_cons.1 hz with rfl | q
 ·exact hxy
 ·exact h.lt hxy (by have:=(List.pairwise_cons.1 hB).1 z q;omega)
theorem Mg.lt (t:Tot c) {X Y D A B:List α} {x y : α} (h:Mg c X Y D (x :: A) (y :: B)) (hxy:c x y < 0):Mg c X Y (D++[x]) A (y :: B):=h.left (srt_head t h.sb hxy)
def UnK (c : α -> α -> Int) (X Y Z:List α):Prop:=Srt c Z/\∀ x,x∈Z↔(x∈X∨x∈Y)
end
/-! ### records -/
def cmpU (x y:UInt8):Int:=if x < y then -1 else if y < x then 1 else 0
theorem cmpU_tot:Tot cmpU:=by
 refine ⟨fun x y=>?_,fun x y=>?_,fun x y=>?_,fun x y z=>?_⟩ <;> simp only [cmpU,UInt8.lt_iff_toNat_lt]
 ·split
  ·simp
  ·split <;> simp
 ·split <;> split <;> (first | omega | rfl)
 ·constructor
  ·intro h
   split at h
   ·omega
   ·split at h
    ·omega
    ·exact UInt8.toNat_inj.1 (by omega)
  ·rintro rfl;simp
 ·intro h1 h2
  split at h1 <;> split at h2 <;> split <;> (try split) <;> (try split at h1) <;> (try split at h2) <;> omega
theorem cb_lex:∀ a b:List UInt8,Lib.compareBytes a b=lex cmpU a b
 | [],[]=>rfl
 | [],_ :: _=>rfl
 | _ :: _,[]=>rfl
 | a :: x,b :: y=>by
  have ih:=cb_lex x y;simp only [Lib.compareBytes,lex,cmpU];by_cases h:a < b
  ·simp [h]
  ·by_cases h2:b < a
   ·simp [h,h2]
   ·simp [h,h2,ih]
theorem cmpS_lex (a b:ByteArray):cmpS a b=lex cmpU a.data.toList b.data.toList:=cb_lex _ _
theorem bytes_ext {a b:ByteArray} (h:a.data.toList=b.data.toList):a=b:=by
 obtain ⟨⟨x⟩⟩:=a;obtain ⟨⟨y⟩⟩:=b;simp at h;rw [h]
theorem cmpS_tot:Tot cmpS:=by
 have t:=cmpU_tot.lex;refine ⟨fun x y=>?_,fun x y=>?_,fun x y=>?_,fun x y z=>?_⟩ <;> simp only [cmpS_lex]
 ·exact t.rng _ _
 ·exact t.neg _ _
 ·exact ⟨fun h=>bytes_ext ((t.eq _ _).1 h),fun h=>by rw [h];exact (t.eq _ _).2 rfl⟩
 ·exact t.tr _ _ _
def rck (r:Rc):Rp:=(r.s,r.p.P)
theorem plR_rck (L:List Rc):plR L=L.map rck:=rfl
def ck (x y:Rp):Int:=if cmpS x.1 y.1=0 then cmpP x.2 y.2 else cmpS x.1 y.1
theorem ck_tot:Tot ck:=Tot.both (f:=Prod.fst) (g:=Prod.snd) cmpS_tot cmpP_tot (fun _ _ h1 h2=>Prod.ext h1 h2)
theorem cmpR_ck {a b:Rc} {z:Int} (ha:InForm a.p.P) (hb:InForm b.p.P) (h:CmpR a b z):z=ck (rck a) (rck b):=by
 have e:CmpOf a.p.P b.p.P (cmpP a.p.P b.p.P):=⟨_,_,canon_iff.2 ha,canon_iff.2 hb,rfl⟩;unfold ck;rcases h with ⟨h1,h2⟩ | ⟨h1,h2⟩
 ·rw [if_neg (show ¬ cmpS (rck a).1 (rck b).1=0 from h1)];exact h2
 ·rw [if_pos (show cmpS (rck a).1 (rck b).1=0 from h1)];exact h2.unique e
theorem ck_cmpR {a b:Rc} (ha:InForm a.p.P) (hb:InForm b.p.P):CmpR a b (ck (rck a) (rck b)):=by
 by_cases h:cmpS a.s b.s=0
 ·refine .inr ⟨h,?_⟩;unfold ck;rw [if_pos (show cmpS (rck a).1 (rck b).1=0 from h)];exact ⟨_,_,canon_iff.2 ha,canon_iff.2 hb,rfl⟩
 ·refine .inl ⟨h,?_⟩;unfold ck;rw [if_neg (show ¬ cmpS (rck a).1 (rck b).1=0 from h)];rfl
theorem rcD_mem {L:List Rc} {j:Nat} (h:j < L.length):L.getD j rc0∈L:=by
 rw [List.getD_eq_getElem?_getD,List.getElem?_eq_getElem h];exact List.getElem_mem h
theorem rcD_at {L:List Rc} {j:Nat} (h:j < L.length):L.getD j rc0=L[j]:=by
 rw [List.getD_eq_getElem?_getD,List.getElem?_eq_getElem h];rfl
theorem okR_iff {L:List Rc}:OkR L L.length↔(∀ r∈L,RecOk r)/\Srt ck (plR L):=by
 constructor
 ·intro h
  have hr:∀ r∈L,RecOk r:=fun r hr=>by
   obtain ⟨j,hj,rfl⟩:=List.getElem_of_mem hr;rw [<- rcD_at hj];exact (h j hj).1
  refine ⟨hr,?_⟩
  have step:∀ k,∀ i,(hk:i+k+1 < L.length) -> ck (rck L[i]) (rck L[i+k+1]) < 0:=by
   intro k
   have one:∀ i,(hi:i+1 < L.length) -> ck (rck L[i]) (rck L[i+1]) < 0:=fun i hi=>by
    obtain ⟨z,hz,hlt⟩:=(h (i+1) hi).2 (by omega);rw [rcD_at hi,show i+1 - 1=i from rfl,rcD_at (by omega)] at hz;rw [<- cmpR_ck (hr _ (List.getElem_mem _)).2.1 (hr _ (List.getElem_mem _)).2.1 hz];exact hlt
   induction k with
   | zero=>intro i hk;exact one i (by omega)
   | succ k ih =>
    intro i hk;have h1:=ih i (by omega);have h2:=one (i+k+1) (by omega);exact ck_tot.lt h1 (Int.le_of_lt h2)
  unfold Srt;rw [plR_rck,List.pairwise_map,List.pairwise_iff_getElem];intro i j hi hj hij;obtain ⟨k,rfl⟩:∃ k,j=i+k+1:=⟨j - i - 1,by omega⟩;exact step k i hj
 ·rintro ⟨hr,hs⟩ j hj;unfold Srt at hs;rw [plR_rck,List.pairwise_map,List.pairwise_iff_getElem] at hs;refine ⟨hr _ (rcD_mem hj),fun h0=>?_⟩;rw [rcD_at hj,rcD_at (by omega)];exact ⟨_,ck_cmpR (hr _ (List.getElem_mem _)).2.1 (hr _ (List.getElem_mem _)).2.1,hs (j - 1) j (by omega) hj (by omega)⟩
def UnOf (L M F:List Rc):Prop:=UnK ck (plR L) (plR M) (plR F)/\∀ r∈F,RecOk r
theorem UnOf.ok {L M F:List Rc} (h:UnOf L M F):OkR F F.length:=okR_iff.2 ⟨h.2,h.1.1⟩
theorem recOk_rck {r r':Rc} (h:RecOk r) (e:rck r'=rck r):RecOk r':=by
 have e1:r'.s=r.s:=congrArg Prod.fst e;have e2:r'.p.P=r.p.P:=congrArg Prod.snd e;exact ⟨by rw [e1];exact h.1,by rw [e2];exact h.2⟩
end
section
open Go.RowKit Go.Maps Go.Sort
structure Hs where
 o:Option Addr
 n:Nat
 c:Nat
def hs0:Hs:=⟨none,0,0⟩
abbrev HsV (s:Hs):Value:=.slice s.o s.n s.c
def RSl (v:Value):Option (DataW Hs × List MemPlace):=
 match v with
 | .slice o n c=>some (.held ⟨o,n,c⟩,[])
 | _=>none
theorem RSl_of (s:Hs):RSl (HsV s)=some (.held s,[]):=rfl
theorem RSl_inv {v:Value} {s:Hs} {ps:List MemPlace} (h:RSl v=some (.held s,ps)):v=HsV s:=by
 unfold RSl at h
 split at h
 ·simp at h;obtain ⟨rfl,_⟩:=h;rfl
 ·simp at h
def MpS (D:DataW Hs) (K:ByteArray -> Prop) (f:ByteArray -> Hs):Prop:=(∀ s:ByteArray,has D (.string s.data.toList)=true↔K s)/\∀ s:ByteArray,D.atKey (.string s.data.toList) (.held hs0) = .held (f s)
theorem mpS_start:MpS (.map []) (fun _=>False) (fun _=>hs0):=⟨fun s=>by simp [has],fun s=>rfl⟩
theorem strS_inj {a b:ByteArray} (h:(Lit.string a.data.toList) = .string b.data.toList):a=b:=by
 cases a;cases b;simp at h;simp [h]
theorem mpS_step {D:DataW Hs} {K:ByteArray -> Prop} {f:ByteArray -> Hs} (h:MpS D K f) (hm:IsMap D) (k:ByteArray) (x:Hs) (g:ByteArray -> Hs) (hg:g k=x) (hf:∀ s,s≠k -> g s=f s) :
  MpS (D.put (.string k.data.toList) (.held x)) (fun s=>s=k∨K s) g:=by
 refine ⟨fun s=>?_,fun s=>?_⟩
 ·by_cases hs:k=s
  ·subst hs;rw [has_put_same hm (k:=.string k.data.toList) (show WideAt.IsKeyLit (.string k.data.toList) from trivial)];exact ⟨fun _=>.inl rfl,fun _=>rfl⟩
  ·rw [has_put_other (fun he=>hs (strS_inj he).symm),h.1 s];exact ⟨fun h=>.inr h,fun h=>h.resolve_left (fun e=>hs e.symm)⟩
 ·by_cases hs:k=s
  ·subst hs;rw [atKey_put_same hm (k:=.string k.data.toList) (show WideAt.IsKeyLit (.string k.data.toList) from trivial),hg]
  ·rw [atKey_put_other (fun he=>hs (strS_inj he).symm),h.2 s,hf s (fun e=>hs e.symm)]
theorem keysS {P:Program} {k:TypeId} {R:Value -> Option (DataW Hs × List MemPlace)} {w:World} {b n:Nat} {D:DataW Hs} {S:ByteArray -> Prop} {f:ByteArray -> Hs} (hown:w.ownsMap P k R b n D) (K:Keyed P k) (hk:P.underlying k=some .string) (hm:MpS D S f)
  {ss:List (List UInt8)} (hp:ss.Perm (strKeys D)):ss.Nodup/\∀ x:List UInt8,x∈ss↔S ⟨x.toArray⟩:=by
 obtain ⟨es,hD,hpw,_⟩:=hown.entries K;obtain ⟨es',hD',hko⟩:=hown.keysOf
 obtain rfl:es=es':=by rw [hD] at hD';simpa using hD'
 subst hD
 have hks:∀ p∈es,∃ x,p.1 = .string x:=fun p hp=>by obtain ⟨v,hv⟩:=hko p hp;obtain ⟨x,_,hx,_⟩:=Maps.keyOf_str hk hv;exact ⟨x,hx⟩
 have hnd:(strKeys (.map es)).Nodup:=by
  show (es.map fun p=>strOf p.1).Nodup
  refine List.pairwise_map.2 (hpw.imp_of_mem fun {p q} hp' hq' hne e=>hne ?_);obtain ⟨a,ha⟩:=hks p hp';obtain ⟨b,hb⟩:=hks q hq';rw [ha,hb] at e ⊢;exact congrArg _ e
 have hmem:∀ x,x∈strKeys (.map es)↔has (.map es) (.string x)=true:=fun x=>by
  rw [has_eq,List.any_eq_true]
  show x∈es.map (fun p=>strOf p.1)↔_
  rw [List.mem_map];constructor
  ·rintro ⟨p,hp',rfl⟩;obtain ⟨a,ha⟩:=hks p hp';exact ⟨p,hp',by rw [ha];simp [Lit.sameKey,strOf]⟩
  ·rintro ⟨p,hp',hs⟩;obtain ⟨a,ha⟩:=hks p hp';rw [ha] at hs;exact ⟨p,hp',by rw [ha];simpa [Lit.sameKey,strOf] using hs⟩
 refine ⟨hp.nodup_iff.2 hnd,fun x=>?_⟩;rw [hp.mem_iff,hmem x];exact hm.1 ⟨x.toArray⟩
end
section
open Go.RowKit Go.Maps Go.Sort
variable {P : Program} {kt et : TypeId} {size B : Nat} {w W W2 : World} {b k : Nat} {K : ByteArray -> Prop} {f : ByteArray -> Hs} {X : ByteArray -> List Value}
structure MRo (P:Program) (kt et:TypeId) (size B:Nat) (w W:World) (b k:Nat) (K:ByteArray -> Prop) (f:ByteArray -> Hs) (X:ByteArray -> List Value):Prop where
 map:∃ D,W.ownsMap P kt RSl b k D/\MpS D K f
 rows:∀ s,W.ownsRow B et size (HsV (f s)) (f s).n (X s)
 apart:∀ s t,s≠t -> ∀ g,(HsV (f s)).ownBlock=some g -> (HsV (f t)).ownBlock≠some g
 below:Below w.heap.size w W
 hb:w.heap.size <= b/\b < B/\B <= W.heap.size
theorem MRo.start (w:World):MRo P kt et size (w.heap.size+1) w (w.alloc (.map #[] 0)) w.heap.size 0 (fun _=>False) (fun _=>hs0) (fun _=>[]):=
 ⟨⟨_,World.ownsMap_made _ _ _ _,mpS_start⟩,fun _=>World.ownsRow_nil _ _ _ _,fun _ _ _ g h=>(by cases h),(Below.refl _ _).alloc (Nat.le_refl _) _,Nat.le_refl _,Nat.lt_succ_self _,by simp⟩
theorem grown_of_below (h:Below W.heap.size W W2):W.grownBy W2 none:=⟨h.os,h.tape,h.output,h.size,fun k hk _=>h.block k hk⟩
theorem MRo.later (M:MRo P kt et size B w W b k K f X) (h:Below W.heap.size W W2):MRo P kt et size B w W2 b k K f X:=by
 obtain ⟨D,hD,hM⟩:=M.map
 have hlt:b < W.heap.size:=by have:=M.hb;omega
 refine ⟨⟨D,?_,hM⟩,fun s=>(M.rows s).kept (grown_of_below h) ?_,M.apart,M.below.trans (h.mono M.below.size),M.hb.1,M.hb.2.1,Nat.le_trans M.hb.2.2 h.size⟩
 ·obtain ⟨es,c,h1,h2⟩:=hD;exact ⟨es,c,(h.block b hlt).trans h1,h2⟩
 ·cases (HsV (f s)).ownBlock with
  | none=>exact .inl rfl
  | some g=>exact .inr (by simp)
theorem MRo.look (M:MRo P kt et size B w W b k K f X) (hK:Keyed P kt) (hk:P.underlying kt=some .string) {t st:TypeId} (ht:P.underlying t=some (.map kt st)) (hz:(zeroValue st).run P W = .ok (HsV hs0) W) (s:ByteArray) (hs:s.size <= maxLen) :
  (Instr.lookup t (.map (some b)) (.string s) false).run P W = .ok (HsV (f s)) W:=by
 obtain ⟨D,hD,hM⟩:=M.map;obtain ⟨v,ps,hr,hv⟩:=hD.lookup hK ht hz (RSl_of hs0) (Go.WideMaps.keyOf_string_mk hk hs);rw [hM.2 s] at hv;rw [hr,RSl_inv hv]
structure MRm (P:Program) (kt et:TypeId) (size B:Nat) (w W:World) (b k:Nat) (K:ByteArray -> Prop) (f:ByteArray -> Hs) (X:ByteArray -> List Value) (s:ByteArray) (x:Hs) (Y:List Value):Prop where
 map:∃ D,W.ownsMap P kt RSl b k D/\MpS D K f
 row:W.ownsRow B et size (HsV x) x.n Y
 rows:∀ t,t≠s -> W.ownsRow B et size (HsV (f t)) (f t).n (X t)
 apart:∀ t u,t≠u -> ∀ g,(HsV (f t)).ownBlock=some g -> (HsV (f u)).ownBlock≠some g
 apartS:∀ t,t≠s -> ∀ g,(HsV (f t)).ownBlock=some g -> (HsV x).ownBlock≠some g
 below:Below w.heap.size w W
 hb:w.heap.size <= b/\b < B/\B <= W.heap.size
theorem MRo.app (M:MRo P kt et size B w W b k K f X) (s:ByteArray) {st ty:TypeId} {i:TypeInfo} {z:Value} {bytes:Nat} (hst:P.underlying st=some (.slice et)) (hi:P.info? et=some i) (hz:i.zero=some z) (hsize:i.size=size) (hby:i.bytes=bytes) (hzs:z.cells.size=size) (hsz:0 < size)
  (a:Addr) (c:Nat) (news:List Value) (hl:news.length=size) (hnews:∀ j u,news[j]? = some u -> W.cell? (a.add j)=some u) (h1:∀ u∈news,u.oneCell'=true) (h63:(f s).n+1 <= maxLen) (hbytes:((f s).n+1) * bytes <= 140737488355328) :
  ∃ g c2 W2,(Builtin.append_ #[st,st] ty #[HsV (f s),.slice (some a) 1 c]).run P W = .ok (.slice (some ⟨g,0,none⟩) ((f s).n+1) c2) W2/\MRm P kt et size B w W2 b k K f X s ⟨some ⟨g,0,none⟩,(f s).n+1,c2⟩ (X s++news)/\∀ q,q < W.heap.size -> (HsV (f s)).ownBlock≠some q -> W2.heap[q]? = W.heap[q]?:=by
 obtain ⟨v',W2,hrun,hown,hgrow,_,hat⟩:=run_append_own_at (P:=P) W B st ty et i z size bytes hst hi hz hsize hby hzs hsz (HsV (f s)) (f s).n (X s) (M.rows s) a 1 c news (by omega) hnews h1 h63 hbytes M.hb.2.2;rcases hown.2 with ⟨h0,h00⟩ | ⟨g,cap2,cur,hv,hbg,hgg,hnc,hcm,hcsz,htake⟩
 ·omega
 ·subst hv;obtain ⟨D,hD,hM⟩:=M.map
  have hlt:b < W.heap.size:=by have:=M.hb;omega
  have hrow:∀ k,(HsV (f s)).ownBlock=some k -> B <= k:=fun k hk=>((M.rows s).lt k hk).1;refine ⟨g,cap2,W2,hrun,⟨⟨D,?_,hM⟩,hown,fun t ht=>(M.rows t).kept hgrow ?_,M.apart,fun t ht q hq e=>?_,M.below.grown hgrow M.below.size (fun k hk=>by have:=hrow k hk;have:=M.hb;omega),M.hb.1,M.hb.2.1,Nat.le_trans M.hb.2.2 hgrow.size⟩,fun q hq hn=>hgrow.block q hq (fun e=>hn e.symm)⟩
  ·obtain ⟨es,c,h1,h2⟩:=hD;exact ⟨es,c,(hgrow.block b hlt (fun e=>by have:=hrow b e.symm;have:=M.hb;omega)).trans h1,h2⟩
  ·cases ho:(HsV (f t)).ownBlock with
   | none=>exact .inl rfl
   | some q=>exact .inr (fun e=>M.apart t s ht q ho e.symm)
  ·have hq2:=((M.rows t).lt q hq).2;rcases hat with h | h
   ·rw [h] at e;exact M.apart t s ht q hq e
   ·rw [h] at e;have:=Option.some.inj e;omega
theorem MRm.put {s:ByteArray} {x:Hs} {Y:List Value} (M:MRm P kt et size B w W b k K f X s x Y) (hK:Keyed P kt) (hk:P.underlying kt=some .string) {t st:TypeId} (ht:P.underlying t=some (.map kt st)) (hs:s.size <= maxLen) (hn:k < maxLen) :
  ∃ W2,(Instr.mapUpdate t (.map (some b)) (.string s) (HsV x)).run P W = .ok () W2/\MRo P kt et size B w W2 b (k+1) (fun u=>u=s∨K u) (fun u=>if u=s then x else f u) (fun u=>if u=s then Y else X u)/\∀ q,q < W.heap.size -> q≠b -> W2.heap[q]? = W.heap[q]?:=by
 obtain ⟨D,hD,hM⟩:=M.map;have hmap:=hD.isMap;obtain ⟨W2,hr,ho,hg⟩:=hD.update hK ht hn (Go.WideMaps.keyOf_string_mk hk hs) (RSl_of x)
 have hne:∀ (v:Value) (n:Nat) (xs:List Value),W.ownsRow B et size v n xs -> v.ownBlock=none∨v.ownBlock≠some b:=fun v n xs h=>by
  cases hv:v.ownBlock with
  | none=>exact .inl rfl
  | some q=>exact .inr (fun e=>by have:=(h.lt q hv).1;have:=M.hb;have:=Option.some.inj e;omega)
 refine ⟨W2,hr,⟨⟨_,ho,mpS_step hM hmap s x _ (if_pos rfl) (fun u hu=>if_neg hu)⟩,fun u=>?_,fun u v huv g hg1=>?_,M.below.grown hg M.below.size (fun j hj=>by cases hj;exact M.hb.1),M.hb.1,M.hb.2.1,Nat.le_trans M.hb.2.2 hg.size⟩,fun q hq hn=>hg.block q hq (fun e=>hn (Option.some.inj e))⟩
 ·by_cases hu:u=s
  ·simp only [if_pos hu];exact M.row.kept hg (hne _ _ _ M.row)
  ·simp only [if_neg hu];exact (M.rows u hu).kept hg (hne _ _ _ (M.rows u hu))
 ·by_cases hu:u=s
  ·have hv:¬ v=s:=fun e=>huv (hu.trans e.symm);simp only [if_pos hu,if_neg hv] at hg1 ⊢;exact fun e=>M.apartS v hv g e hg1
  ·by_cases hv:v=s
   ·simp only [if_neg hu,if_pos hv] at hg1 ⊢;exact M.apartS u hu g hg1
   ·simp only [if_neg hu,if_neg hv] at hg1 ⊢;exact M.apart u v huv g hg1
theorem step_appM {W W2:World} {ops:Array Oper} {o:Oper} {a:Act} {K:Act -> World -> Prop} {Q:Exit -> Act -> World -> Prop} {E:Prop} {v1 v2 v':Value} {st:TypeId} (hgd:o.guard=none) (s x:Operand) (ho:o.op = .call { callee:=.builtin .append,args:=#[s,x],argTypes:=#[st,st] })
  (hs:a.eval s=v1) (hx:a.eval x=v2) (hrun:(Builtin.append_ #[st,st] o.type #[v1,v2]).run P W = .ok v' W2) (hK:K (a.put o.dst v') W2) :
  if Region.wanted o (yielded ops a.tmps)=true then Oper.wp P o a W K Q else E:=by
 have hw:Region.wanted o (yielded ops a.tmps)=true:=by simp [Region.wanted,hgd]
 rw [if_pos hw];unfold Oper.wp;simp [execOp,ho,resolve,invoke,builtin,hs,hx,hrun,Result.andThen];exact hK
theorem seq_appM {W W2:World} {ops:Array Oper} {rest:List Oper} {o:Oper} {a:Act} {Q:Exit -> Act -> World -> Prop} {v1 v2 v':Value} {st:TypeId} (hgd:o.guard=none) (s x:Operand) (ho:o.op = .call { callee:=.builtin .append,args:=#[s,x],argTypes:=#[st,st] })
  (hs:a.eval s=v1) (hx:a.eval x=v2) (hrun:(Builtin.append_ #[st,st] o.type #[v1,v2]).run P W = .ok v' W2) (hK:wpList P ops Q rest (a.put o.dst v') W2):wpList P ops Q (o :: rest) a W:=
 wpList_plain hgd fun K hKK=>by
  unfold Oper.wp;simp [execOp,ho,resolve,invoke,builtin,hs,hx,hrun,Result.andThen];exact hKK _ _ hK
end
section
open Go.RowKit Go.Maps Go.Sort
def pvs (L:List Pv):List Value:=(L.map (fun p=>(PC p).toList)).flatten
theorem pvs_append (L R:List Pv):pvs (L++R)=pvs L++pvs R:=by simp [pvs]
theorem pvs_one (p:Pv):pvs [p]=(PC p).toList:=by simp [pvs]
theorem pvs_length (L:List Pv):(pvs L).length=L.length * 2:=by
 induction L with
 | nil=>rfl
 | cons a L ih=>have:pvs (a :: L)=(PC a).toList++pvs L:=rfl;rw [this,List.length_append,ih];simp [PC];omega
theorem pvs_at (L:List Pv) (t j:Nat) (ht:t < L.length) (hj:j < 2):(pvs L)[t * 2+j]? = (PC L[t]).toList[j]?:=by
 induction L generalizing t with
 | nil=>simp at ht
 | cons a L ih =>
  have e:pvs (a :: L)=(PC a).toList++pvs L:=rfl
  cases t with
  | zero=>rw [e,List.getElem?_append_left (by simp [PC];omega)];simp
  | succ t =>
   rw [e,List.getElem?_append_right (by simp [PC];omega)];have h:=ih t (by simpa using ht)
   have e4:(t+1) * 2+j - (PC a).toList.length=t * 2+j:=by simp [PC];omega
   rw [e4,h];simp
theorem pvs_cell (p:Pv):∀ v∈(PC p).toList,v.oneCell'=true:=by
 intro v hv;simp [PC] at hv;rcases hv with rfl | rfl <;> rfl
theorem infoPast:(Tryz.prog.info? 26).map (fun i=>(i.zero,i.size,i.bytes))=some (some (.agg #[.slice none 0 0,.slice none 0 0]),2,48):=by kernel_rfl
theorem prow_of {W:World} {B:Nat} {h:Hs} {L:List Pv} (hr:W.ownsRow B 26 2 (HsV h) h.n (pvs L)) (hs:∀ p∈L,PSrc W p):PRow W h.o h.n L:=by
 have hl:L.length=h.n:=by have:=hr.1;rw [pvs_length] at this;omega
 obtain ⟨o,n,c⟩:=h;rcases hr.2 with ⟨h0,h00⟩ | ⟨g,cap,cur,hv,hbg,hgg,hnc,hcm,hcsz,htake⟩
 ·refine ⟨hl,fun _=>h00,fun ad e t p hp=>?_,hs⟩;have:=(List.getElem?_eq_some_iff.1 hp).1;omega
 ·simp only [Value.slice.injEq] at hv;obtain ⟨rfl,-,rfl⟩:=hv;refine ⟨hl,fun e=>(by cases e),fun ad e t p hp=>?_,hs⟩;obtain rfl:(⟨g,0,none⟩:Addr)=ad:=Option.some.inj e;obtain ⟨ht,hpt⟩:=List.getElem?_eq_some_iff.1 hp
  have hc:∀ j,j < 2 -> W.cell? ⟨g,t * 2+j,none⟩=(PC p).toList[j]?:=fun j hj=>by
   have h1:=World.ownsRow.cellAt hr (t * 2+j) (by dsimp only at hl ⊢;omega);rw [h1,pvs_at L t j ht hj,hpt]
  refine ⟨?_,?_⟩
  ·rw [Addr.add_lit,Nat.zero_add];exact hc 0 (by omega)
  ·rw [Addr.add_lit,Addr.add_lit,Nat.zero_add];exact hc 1 (by omega)
theorem mp_app {w W:World} {b B k:Nat} {K:ByteArray -> Prop} {f:ByteArray -> Hs} {X:ByteArray -> List Value} (M:MRo Tryz.prog 9 26 2 B w W b k K f X) (s:ByteArray) (p:Pv) (hn:(f s).n <= 2900000000000) :
  ∃ g c2 W2,(Builtin.append_ #[118,118] 118 #[HsV (f s),.slice (some ⟨W.heap.size,0,none⟩) 1 1]).run Tryz.prog (W.alloc (.cells (PC p) 26)) = .ok (.slice (some ⟨g,0,none⟩) ((f s).n+1) c2) W2/\MRm Tryz.prog 9 26 2 B w W2 b k K f X s ⟨some ⟨g,0,none⟩,(f s).n+1,c2⟩ (X s++(PC p).toList)/\∀ q,q < W.heap.size -> (HsV (f s)).ownBlock≠some q -> W2.heap[q]? = W.heap[q]?:=by
 obtain ⟨i0,hi,hz0,hz1,hz2⟩:=info_parts infoPast
 obtain ⟨g,c2,W2,h1,h2,h3⟩:=(M.later (below_new W (.cells (PC p) 26))).app s (ty:=118) Tryz.underlying118 hi hz0 hz1 hz2 (by simp [Value.cells]) (by decide) ⟨W.heap.size,0,none⟩ 1 (PC p).toList rfl (fun j u hj=>by
  rw [Addr.add_lit,Nat.zero_add,World.cell?_alloc_new]
  simpa using hj) (pvs_cell p) (by unfold maxLen;omega) (by omega)
 exact ⟨g,c2,W2,h1,h2,fun q hq hn=>(h3 q (by simp;omega) hn).trans (Below.heap_alloc W _ q hq)⟩
structure OwnP (B:Nat) (w W:World) (h:Hs) (L:List Pv):Prop where
 own:W.ownsRow B 26 2 (HsV h) h.n (pvs L)
 src:∀ p∈L,PSrc W p
 below:Below w.heap.size w W
 hB:w.heap.size <= B/\B <= W.heap.size
theorem OwnP.nil (w:World):OwnP w.heap.size w w hs0 []:=⟨World.ownsRow_nil _ _ _ _,fun p h=>(by cases h),Below.refl _ _,Nat.le_refl _,Nat.le_refl _⟩
theorem OwnP.later {B:Nat} {w W W2:World} {h:Hs} {L:List Pv} (O:OwnP B w W h L) (hb:Below W.heap.size W W2):OwnP B w W2 h L:=by
 refine ⟨O.own.kept (grown_of_below hb) ?_,fun p hp=>(O.src p hp).below hb,O.below.trans (hb.mono O.below.size),O.hB.1,Nat.le_trans O.hB.2 hb.size⟩
 cases (HsV h).ownBlock with
 | none=>exact .inl rfl
 | some g=>exact .inr (by simp)
theorem OwnP.row {B:Nat} {w W:World} {h:Hs} {L:List Pv} (O:OwnP B w W h L):PRow W h.o h.n L:=prow_of O.own O.src
end
section
open Go.RowKit Go.Maps Go.Sort
theorem psrc_keep {W W':World} {p:Pv} {g:Option Nat} (h:PSrc W p) (hf:∀ k,g=some k -> PFar p k) (hk:∀ q,q < W.heap.size -> some q≠g -> W'.heap[q]? = W.heap[q]?):PSrc W' p:=by
 have ev:∀ ad,p.vo=some ad -> ∀ t,t < p.vn -> W'.cell? (ad.add t)=W.cell? (ad.add t):=fun ad e t ht=>by
  have hc:=h.vec.2.2 ad e t ht;have hl:=World.block_lt_of_cell? _ _ hc;rw [block_add] at hl;unfold World.cell?;rw [block_add,hk _ hl (fun eg=>(hf _ eg.symm).1 (by omega) ad e rfl)]
 have ec:∀ ad,p.co=some ad -> ∀ t,t < p.cn -> ∀ j,W'.cell? (ad.add j)=W.cell? (ad.add j):=fun ad e t ht j=>by
  have hl:=World.block_lt_of_cell? _ _ (h.cloud.cell ad e t ht).c0;rw [block_add] at hl;unfold World.cell?;rw [block_add,hk _ hl (fun eg=>(hf _ eg.symm).2 (by omega) ad e rfl)]
 refine ⟨⟨h.vec.1,h.vec.2.1,fun ad e t ht=>by rw [ev ad e t ht];exact h.vec.2.2 ad e t ht⟩,⟨h.cloud.len,h.cloud.nil,fun ad e t ht=>?_,h.cloud.big,h.cloud.cap⟩,h.big⟩;have A:=h.cloud.cell ad e t ht;have e':=ec ad e t ht;exact ⟨by rw [e'];exact A.c0,by have:=A.c1;rw [add_add] at this ⊢;rw [e'];exact this,by have:=A.c2;rw [add_add] at this ⊢;rw [e'];exact this⟩
def FarH (h:Hs) (p:Pv):Prop:=∀ k,(HsV h).ownBlock=some k -> PFar p k
theorem OwnP.app {B:Nat} {w W:World} {h:Hs} {L:List Pv} (O:OwnP B w W h L) (hF:∀ p∈L,FarH h p) (p:Pv) (hp:PSrc W p) (hf:FarH h p) (hn:h.n <= 2900000000000) :
  ∃ g c2 W2,(Builtin.append_ #[118,118] 118 #[HsV h,.slice (some ⟨W.heap.size,0,none⟩) 1 1]).run Tryz.prog (W.alloc (.cells (PC p) 26)) = .ok (.slice (some ⟨g,0,none⟩) (h.n+1) c2) W2/\OwnP B w W2 ⟨some ⟨g,0,none⟩,h.n+1,c2⟩ (L++[p])/\(∀ q∈L++[p],FarH ⟨some ⟨g,0,none⟩,h.n+1,c2⟩ q)/\(∀ q,q < W.heap.size -> (HsV h).ownBlock≠some q -> W2.heap[q]? = W.heap[q]?):=by
 obtain ⟨i0,hi,hz0,hz1,hz2⟩:=info_parts infoPast;have b1:=below_new W (.cells (PC p) 26);have O1:=O.later b1
 obtain ⟨v',W2,hrun,hown,hgrow,_,hat⟩:=run_append_own_at (P:=Tryz.prog) (W.alloc (.cells (PC p) 26)) B 118 118 26 i0 (.agg #[.slice none 0 0,.slice none 0 0]) 2 48 Tryz.underlying118 hi hz0 hz1 hz2 (by simp [Value.cells]) (by decide) (HsV h) h.n (pvs L) O1.own ⟨W.heap.size,0,none⟩ 1 1 (PC p).toList rfl (fun j u hj=>by
  rw [Addr.add_lit,Nat.zero_add,World.cell?_alloc_new]
  simpa using hj) (pvs_cell p) (by unfold maxLen;omega) (by omega) O1.hB.2
 rcases hown.2 with ⟨h0,h00⟩ | ⟨g,cap2,cur,hv,hbg,hgg,hnc,hcm,hcsz,htake⟩
 ·omega
 ·subst hv
  have hall:∀ q∈L++[p],PSrc (W.alloc (.cells (PC p) 26)) q/\FarH h q:=fun q hq=>by
   rcases List.mem_append.1 hq with hq | hq
   ·exact ⟨O1.src q hq,hF q hq⟩
   ·obtain rfl:q=p:=by simpa using hq
    exact ⟨hp.below b1,hf⟩
  have hrow:∀ k,(HsV h).ownBlock=some k -> B <= k:=fun k hk=>(O1.own.lt k hk).1;refine ⟨g,cap2,W2,hrun,⟨by rw [pvs_append,pvs_one];exact hown,fun q hq=>psrc_keep (hall q hq).1 (fun k hk=>(hall q hq).2 k hk) (fun k hk hn=>hgrow.block k hk hn),O1.below.grown hgrow O1.below.size (fun k hk=>by have:=hrow k hk;have:=O.hB;omega),O.hB.1,Nat.le_trans O1.hB.2 hgrow.size⟩,fun q hq k hk=>?_,fun q hq hn=>(hgrow.block q (by simp;omega) (fun e=>hn e.symm)).trans (Below.heap_alloc W _ q hq)⟩;rcases hat with e | e
  ·exact (hall q hq).2 k (by rw [<- e];exact hk)
  ·rw [e] at hk;have:=Option.some.inj hk;exact PFar.old (hall q hq).1 (by omega)
/-! ### records -/
def rvs (L:List Rc):List Value:=(L.map (fun r=>(ReC (mkR r)).toList)).flatten
theorem rvs_append (L R:List Rc):rvs (L++R)=rvs L++rvs R:=by simp [rvs]
theorem rvs_one (r:Rc):rvs [r]=(ReC (mkR r)).toList:=by simp [rvs]
theorem rvs_length (L:List Rc):(rvs L).length=L.length * 3:=by
 induction L with
 | nil=>rfl
 | cons a L ih=>have:rvs (a :: L)=(ReC (mkR a)).toList++rvs L:=rfl;rw [this,List.length_append,ih];simp [ReC];omega
theorem rvs_at (L:List Rc) (t j:Nat) (ht:t < L.length) (hj:j < 3):(rvs L)[t * 3+j]? = (ReC (mkR (L.getD t rc0))).toList[j]?:=by
 induction L generalizing t with
 | nil=>simp at ht
 | cons a L ih =>
  have e:rvs (a :: L)=(ReC (mkR a)).toList++rvs L:=rfl
  cases t with
  | zero=>rw [e,List.getElem?_append_left (by simp [ReC];omega)];simp [List.getD]
  | succ t =>
   rw [e,List.getElem?_append_right (by simp [ReC];omega)];have h:=ih t (by simpa using ht)
   have e4:(t+1) * 3+j - (ReC (mkR a)).toList.length=t * 3+j:=by simp [ReC];omega
   rw [e4,h];simp [List.getD]
theorem rvs_cell (r:Rc):∀ v∈(ReC (mkR r)).toList,v.oneCell'=true:=by
 intro v hv;simp [ReC] at hv;rcases hv with rfl | rfl | rfl <;> rfl
theorem infoRec:(Tryz.prog.info? 83).map (fun i=>(i.zero,i.size,i.bytes))=some (some (.agg #[.string ⟨#[]⟩,.slice none 0 0,.slice none 0 0]),3,64):=by kernel_rfl
structure OwnRc (B:Nat) (w W:World) (h:Hs) (L:List Rc):Prop where
 own:W.ownsRow B 83 3 (HsV h) h.n (rvs L)
 ok:∀ r∈L,RcOk W r/\FarH h r.p
 below:Below w.heap.size w W
 hB:w.heap.size <= B/\B <= W.heap.size
theorem OwnRc.nil (w:World):OwnRc w.heap.size w w hs0 []:=⟨World.ownsRow_nil _ _ _ _,fun p h=>(by cases h),Below.refl _ _,Nat.le_refl _,Nat.le_refl _⟩
theorem OwnRc.later {B:Nat} {w W W2:World} {h:Hs} {L:List Rc} (O:OwnRc B w W h L) (hb:Below W.heap.size W W2):OwnRc B w W2 h L:=by
 refine ⟨O.own.kept (grown_of_below hb) ?_,fun p hp=>⟨(O.ok p hp).1.below hb,(O.ok p hp).2⟩,O.below.trans (hb.mono O.below.size),O.hB.1,Nat.le_trans O.hB.2 hb.size⟩
 cases (HsV h).ownBlock with
 | none=>exact .inl rfl
 | some g=>exact .inr (by simp)
theorem OwnRc.app {B:Nat} {w W:World} {h:Hs} {L:List Rc} (O:OwnRc B w W h L) (r:Rc) (hp:RcOk W r) (hf:FarH h r.p) (hn:h.n <= 2199023255551) :
  ∃ g c2 W2,(Builtin.append_ #[27,27] 27 #[HsV h,.slice (some ⟨W.heap.size,0,none⟩) 1 1]).run Tryz.prog (W.alloc (.cells (ReC (mkR r)) 83)) = .ok (.slice (some ⟨g,0,none⟩) (h.n+1) c2) W2/\OwnRc B w W2 ⟨some ⟨g,0,none⟩,h.n+1,c2⟩ (L++[r])/\(∀ q,q < W.heap.size -> (HsV h).ownBlock≠some q -> W2.heap[q]? = W.heap[q]?):=by
 obtain ⟨i0,hi,hz0,hz1,hz2⟩:=info_parts infoRec;have b1:=below_new W (.cells (ReC (mkR r)) 83);have O1:=O.later b1
 obtain ⟨v',W2,hrun,hown,hgrow,_,hat⟩:=run_append_own_at (P:=Tryz.prog) (W.alloc (.cells (ReC (mkR r)) 83)) B 27 27 83 i0 (.agg #[.string ⟨#[]⟩,.slice none 0 0,.slice none 0 0]) 3 64 Tryz.underlying27 hi hz0 hz1 hz2 (by simp [Value.cells]) (by decide) (HsV h) h.n (rvs L) O1.own ⟨W.heap.size,0,none⟩ 1 1 (ReC (mkR r)).toList rfl (fun j u hj=>by
  rw [Addr.add_lit,Nat.zero_add,World.cell?_alloc_new]
  simpa using hj) (rvs_cell r) (by unfold maxLen;omega) (by omega) O1.hB.2
 rcases hown.2 with ⟨h0,h00⟩ | ⟨g,cap2,cur,hv,hbg,hgg,hnc,hcm,hcsz,htake⟩
 ·omega
 ·subst hv
  have hall:∀ q∈L++[r],RcOk (W.alloc (.cells (ReC (mkR r)) 83)) q/\FarH h q.p:=fun q hq=>by
   rcases List.mem_append.1 hq with hq | hq
   ·exact O1.ok q hq
   ·obtain rfl:q=r:=by simpa using hq
    exact ⟨hp.below b1,hf⟩
  have hrow:∀ k,(HsV h).ownBlock=some k -> B <= k:=fun k hk=>(O1.own.lt k hk).1;refine ⟨g,cap2,W2,hrun,⟨by rw [rvs_append,rvs_one];exact hown,fun q hq=>⟨⟨psrc_keep (hall q hq).1.1 (fun k hk=>(hall q hq).2 k hk) (fun k hk hn=>hgrow.block k hk hn),(hall q hq).1.2⟩,fun k hk=>?_⟩,O1.below.grown hgrow O1.below.size (fun k hk=>by have:=hrow k hk;have:=O.hB;omega),O.hB.1,Nat.le_trans O1.hB.2 hgrow.size⟩,fun q hq hn=>(hgrow.block q (by simp;omega) (fun e=>hn e.symm)).trans (Below.heap_alloc W _ q hq)⟩;rcases hat with e | e
  ·exact (hall q hq).2 k (by rw [<- e];exact hk)
  ·rw [e] at hk;have:=Option.some.inj hk;exact PFar.old (hall q hq).1.1 (by omega)
theorem OwnRc.src {B:Nat} {w W:World} {h:Hs} {L:List Rc} (O:OwnRc B w W h L) (hn:h.n <= 2199023255552):RcS W h.o h.n h.c L:=by
 have hl:L.length=h.n:=by have:=O.own.1;rw [rvs_length] at this;omega
 have hok:∀ r∈L,RcOk W r:=fun r hr=>(O.ok r hr).1;have hr:=O.own;obtain ⟨o,n,c⟩:=h;rcases hr.2 with ⟨h0,h00⟩ | ⟨g,cap,cur,hv,hbg,hgg,hnc,hcm,hcsz,htake⟩
 ·refine ⟨hl,fun _=>h00,fun ad e t ht=>?_,hok,hn⟩;omega
 ·simp only [Value.slice.injEq] at hv;obtain ⟨rfl,-,rfl⟩:=hv;refine ⟨hl,fun e=>(by cases e),fun ad e t ht=>?_,hok,hn⟩;obtain rfl:(⟨g,0,none⟩:Addr)=ad:=Option.some.inj e
  have hc:∀ j,j < 3 -> W.cell? ⟨g,t * 3+j,none⟩=(ReC (mkR (L.getD t rc0))).toList[j]?:=fun j hj=>by
   have h1:=World.ownsRow.cellAt hr (t * 3+j) (by dsimp only at ht ⊢;omega);rw [h1,rvs_at L t j (by omega) hj]
  refine ⟨?_,?_,?_⟩
  ·rw [Addr.add_lit,Nat.zero_add];exact hc 0 (by omega)
  ·rw [Addr.add_lit,Addr.add_lit,Nat.zero_add];exact hc 1 (by omega)
  ·rw [Addr.add_lit,Addr.add_lit,Nat.zero_add];exact hc 2 (by omega)
end
end Go.Proofs.YtjeilkenjdnafaaGreat
namespace Go.Proofs
open Go.Shelf
def Tryz.growRe_ren:Go.Shelf.Ren:=⟨fun | 4=>123 | n=>n,fun | 22=>27 | 25=>83 | 3=>3 | 4=>4 | 9=>9 | 20=>20 | 0=>0 | n=>n,fun | n=>n⟩
end Go.Proofs
namespace Go.Proofs.YtjeilkenjdnafaaGreat
section
open Go.RowKit Go.Lib Go.Maps Go.Sort
theorem RcS.cells {w:World} {ad:Addr} {n cap:Nat} {L:List Rc} (h:RcS w (some ad) n cap L):∀ j u,(rvs L)[j]? = some u -> w.cell? (ad.add j)=some u:=fun j u hj=>by
 have hlt:j < L.length * 3:=by
  have:=(List.getElem?_eq_some_iff.1 hj).1;rwa [rvs_length] at this
 have hn:=h.len
 have ht:j / 3 < n:=by omega
 have A:=h.at_ ad rfl (j / 3) ht
 have e:j=j / 3 * 3+j % 3:=by omega
 have hm:j % 3 < 3:=Nat.mod_lt _ (by decide);rw [e,rvs_at L (j / 3) (j % 3) (by omega) hm] at hj
 have hc:∀ i,i < 3 -> w.cell? ((ad.add (j / 3 * 3)).add i)=(ReC (mkR (L.getD (j / 3) rc0))).toList[i]?:=by
  intro i hi
  match i,hi with
  | 0,_=>rw [add_zero];exact A.c0
  | 1,_=>exact A.c1
  | 2,_=>exact A.c2
 rw [e,<- add_add,hc _ hm,hj]
theorem OwnRc.appAt {B:Nat} {w W:World} {h:Hs} {L:List Rc} (O:OwnRc B w W h L) (r:Rc) (hp:RcOk W r) (hf:FarH h r.p) (hn:h.n <= 2199023255551) :
  ∃ g c2 W2,(Builtin.append_ #[27,27] 27 #[HsV h,.slice (some ⟨W.heap.size,0,none⟩) 1 1]).run Tryz.prog (W.alloc (.cells (ReC (mkR r)) 83)) = .ok (.slice (some ⟨g,0,none⟩) (h.n+1) c2) W2/\OwnRc B w W2 ⟨some ⟨g,0,none⟩,h.n+1,c2⟩ (L++[r])/\(∀ q,q < W.heap.size -> (HsV h).ownBlock≠some q -> W2.heap[q]? = W.heap[q]?)/\((HsV h).ownBlock=some g∨W.heap.size <= g)/\W.heap.size <= W2.heap.size:=by
 obtain ⟨i0,hi,hz0,hz1,hz2⟩:=info_parts infoRec;have b1:=below_new W (.cells (ReC (mkR r)) 83);have O1:=O.later b1
 obtain ⟨v',W2,hrun,hown,hgrow,_,hat⟩:=run_append_own_at (P:=Tryz.prog) (W.alloc (.cells (ReC (mkR r)) 83)) B 27 27 83 i0 (.agg #[.string ⟨#[]⟩,.slice none 0 0,.slice none 0 0]) 3 64 Tryz.underlying27 hi hz0 hz1 hz2 (by simp [Value.cells]) (by decide) (HsV h) h.n (rvs L) O1.own ⟨W.heap.size,0,none⟩ 1 1 (ReC (mkR r)).toList rfl (fun j u hj=>by
  rw [Addr.add_lit,Nat.zero_add,World.cell?_alloc_new]
  simpa using hj) (rvs_cell r) (by unfold maxLen;omega) (by omega) O1.hB.2
 obtain ⟨g,cap2,W3,hrun3,O3,hk3⟩:=O.app r hp hf hn;rw [hrun] at hrun3
 have e1:v' = .slice (some ⟨g,0,none⟩) (h.n+1) cap2:=by cases hrun3;rfl
 have e2:W2=W3:=by cases hrun3;rfl
 subst e1 e2;refine ⟨g,cap2,W2,hrun,O3,hk3,?_,by have h1:=hgrow.size;rw [World.size_alloc] at h1;omega⟩;rcases hat with e | e
 ·exact .inl e.symm
 ·refine .inr ?_;have h1:=Option.some.inj (e.symm.trans (rfl:(Value.slice (some ⟨g,0,none⟩) (h.n+1) cap2).ownBlock=some g));simp at h1;omega
theorem farH_of {w W:World} {B:Nat} {h:Hs} {L:List Rc} (O:OwnRc B w W h L) {p:Pv} (hp:PSrc w p):FarH h p:=fun k hk=>PFar.old hp (Nat.le_trans O.hB.1 (O.own.lt k hk).1)
end
section
open Go.RowKit
end
section
open Go.RowKit
theorem vsrc_lit (w:World) (T:TypeId) (C:Array Value) (Z:List Int) (hC:C=(Z.map fun x=>Value.int .i64 x).toArray) (g n:Nat) (hg:w.heap.size=g) (hn:Z.length=n):V.Src (w.alloc (.cells C T)) (some ⟨g,0,none⟩) n n Z:=by
 subst hg hn hC;refine ⟨rfl,(fun h=>by cases h),fun ad h t ht=>?_⟩;obtain rfl:=Option.some.inj h;have h1:=heap_alloc_new w (.cells (Z.map fun x=>Value.int .i64 x).toArray T);rw [Addr.add_lit,Nat.zero_add];simp only [World.cell?,h1];simp [ht]
def bldP (a:Array (Nat × Value)):Sem Value:=Instr.build 26 a
theorem bldP_eq (a:Array (Nat × Value)):Instr.build 26 a=bldP a:=rfl
theorem run_bldP1 (a:Option Addr) (n c:Nat) (w:World):(bldP #[(0,.slice a n c)]).run Tryz.prog w = .ok (.agg #[.slice a n c,.slice none 0 0]) w:=by kernel_rfl
theorem run_bldP0 (w:World):(bldP #[]).run Tryz.prog w = .ok (.agg #[.slice none 0 0,.slice none 0 0]) w:=by kernel_rfl
def bldR (a:Array (Nat × Value)):Sem Value:=Instr.build 83 a
theorem bldR_eq (a:Array (Nat × Value)):Instr.build 83 a=bldR a:=rfl
theorem run_bldRp (s:ByteArray) (p:Pv) (w:World):(bldR #[(0,.string s),(1,.agg (PC p))]).run Tryz.prog w = .ok (.agg (ReC (mkR ⟨s,p⟩))) w:=by kernel_rfl
def bldE (a:Array (Nat × Value)):Sem Value:=Instr.build 57 a
theorem bldE_eq (a:Array (Nat × Value)):Instr.build 57 a=bldE a:=rfl
theorem run_bldE (a b q:Int) (s:ByteArray) (w:World):(bldE #[(0,.agg #[.int .i64 a,.int .i64 b]),(1,.string s),(2,.int .i64 q)]).run Tryz.prog w = .ok (.agg #[.int .i64 a,.int .i64 b,.string s,.int .i64 q]) w:=by kernel_rfl
def bldD (a:Array (Nat × Value)):Sem Value:=Instr.build 55 a
theorem bldD_eq (a:Array (Nat × Value)):Instr.build 55 a=bldD a:=rfl
theorem run_bldD (a b:Int) (w:World):(bldD #[(0,.int .i64 a),(1,.int .i64 b)]).run Tryz.prog w = .ok (.agg #[.int .i64 a,.int .i64 b]) w:=by kernel_rfl
def bldSp (a:Array (Nat × Value)):Sem Value:=Instr.build 65 a
theorem bldSp_eq (a:Array (Nat × Value)):Instr.build 65 a=bldSp a:=rfl
theorem run_bldSp (a b c:Int) (w:World):(bldSp #[(0,.int .i64 a),(1,.int .i64 b),(2,.int .i64 c)]).run Tryz.prog w = .ok (.agg #[.int .i64 a,.int .i64 b,.int .i64 c]) w:=by kernel_rfl
end
section
open Go.RowKit Go.Maps Go.Sort
attribute [local go_sem ↓] ldP_eq stP_eq ldRe_eq stRe_eq bldR_eq run_bldRp
attribute [local go_sem] cells_PV PC_size cells_ReV ReC_size zero_ReC
def CpA (w w':World) (x:Ending) (r:Rc):Prop:=∃ c:Rc,x = .returned (ReV (mkR c))/\c.s=r.s/\RcOk w' c/\PNew w.heap.size c.p/\Below w.heap.size w w'/\CanonOf (runsAt r.p.P) c.p.P
theorem copied_any (r:Rc) (w:World) (hR:RcOk w r):Calls Tryz.prog 82 #[ReV (mkR r)] w fun x w'=>CpA w w' x r:=by
 have b1:=below_new w (.cells (ReC (mkR r)) 83);have b2:=below_new (w.alloc (.cells (ReC (mkR r)) 83)) (.cells (ReC re0) 83);have HXA:=hide ((ReBox_new w (mkR r)).below b2);have X2:=ReBox_new (w.alloc (.cells (ReC (mkR r)) 83)) re0;rw [World.size_alloc] at X2;have HXB:=hide X2;have HBK:=hide (b1.trans (b2.mono b1.size));have HS:=hide (hR.1.below HBK.out);have HZ:Hid (r.s.size <= maxLen):=hR.2;clear b1 b2 X2 hR;obtain ⟨wk,hwk⟩:∃ wk,(w.alloc (.cells (ReC (mkR r)) 83)).alloc (.cells (ReC re0) 83)=wk:=⟨_,rfl⟩;obtain ⟨G,HG⟩:∃ G,Hid (w.heap.size=G):=⟨_,rfl⟩;have hG:=HG.out;rw [hwk] at HXA HXB HBK HS;rw [hG] at HXA HXB
 have HSt:Hid (∀ W:World,W.heap[G]? = wk.heap[G]? -> W.cell? ⟨G,0,none⟩=some (.string r.s)/\(ldP (.pointer (some ⟨G,1,none⟩))).run Tryz.prog W = .ok (.agg #[.slice r.p.vo r.p.vn r.p.vc,.slice r.p.co r.p.cn r.p.cc]) W):=fun W h=>by
  have X:ReBox W G (mkR r):=h.trans HXA.out;exact ⟨X.sk,run_ldP X.past⟩
 go_enter Tryz.func82,Tryz.ntmps82;go_upto_region 1 with fail;clear hwk;refine wp_region_held_drew (S:=fun W=>W.cell? ⟨G,0,none⟩=some (.string r.s)/\(ldP (.pointer (some ⟨G,1,none⟩))).run Tryz.prog W = .ok (.agg #[.slice r.p.vo r.p.vn r.p.vc,.slice r.p.co r.p.cn r.p.cc]) W) (by kernel_rfl) (HSt.out _ rfl) (fun hHeld=>?_);refine wU 0 ?_;refine wU 1 ?_;refine wU 2 ?_;refine wU 3 ?_;refine wpAnyH_ready (rs:=[4]) (by kernel_rfl) (by simp) (.cons rfl (fun K hK=>?_) .nil);go_simp;go_wp2_with fail;refine (pastNorm_any r.p _ (HS.out.below (below_drew1 wk))).mono ?_;rintro x w3 ⟨c,rfl,Sc,Nc,b3,Cc⟩;have b03:Below wk.heap.size wk w3:=(below_drew1 wk).trans b3;have z3:w3.heap[G]? = wk.heap[G]?:=b03.block G HXA.out.lt;refine hK.out _ _ (HSt.out _ z3) (fun hHeld=>?_);clear hK K;have X3:ReBox w3 (G+1) re0:=HXB.out.below b03;have t3:=run_stRe (m':=mkR ⟨r.s,c⟩) X3
 have X4:ReBox (w3.setRow (G+1) (ReC (mkR ⟨r.s,c⟩))) (G+1) (mkR ⟨r.s,c⟩):=setRow_heap _ _ _ _ _ _ X3;have z4:(w3.setRow (G+1) (ReC (mkR ⟨r.s,c⟩))).heap[G]? = wk.heap[G]?:=(setRow_other _ _ _ _ (by omega)).trans z3;have hlt:G+1 < wk.heap.size:=HXB.out.lt;have S4:PSrc (w3.setRow (G+1) (ReC (mkR ⟨r.s,c⟩))) c:=psrc_keep (g:=some (G+1)) Sc (fun k e=>by obtain rfl:=Option.some.inj e;exact PFar.new Nc hlt) (fun q _ hq=>setRow_other _ _ _ _ (fun e=>hq (by rw [e])));have HE:Hid (CpA w (w3.setRow (G+1) (ReC (mkR ⟨r.s,c⟩))) (.returned (ReV (mkR ⟨r.s,c⟩))) r):=⟨⟨r.s,c⟩,rfl,rfl,⟨S4,HZ.out⟩,Nc.mono (by have:=HBK.out.size;exact this),below_setRow (HBK.out.trans (b03.mono HBK.out.size)) (by omega),Cc⟩;have HX4:=hide X4;clear Sc Nc b3 b03 Cc X3 X4 S4 hlt;refine wU 5 ?_;refine wpAnyH_ready (rs:=[6]) (by kernel_rfl) (by simp) (.cons rfl (fun K hK=>?_) .nil)
 go_simp;refine hK.out _ _ (HSt.out _ z4) (fun hHeld=>?_);clear hK K;refine wpAnyH_done (by kernel_rfl) ?_ _;clear hHeld;clear t3 z3 z4;go_wp2_with fail;refine bodyPost_ret (res1Re rfl rfl HX4.out) rfl ?_;exact HE.out
def SoA (w w':World) (x:Ending) (r:Rc):Prop:=∃ (h:Hs) (c:Rc),x = .returned (.tuple #[HsV h,.int .i64 0])/\RcS w' h.o 1 h.c [c]/\h.n=1/\c.s=r.s/\Below w.heap.size w w'/\CanonOf (runsAt r.p.P) c.p.P
def SoI (w W:World) (k:Nat) (x:Hs) (r:Rc):Prop:=∃ C,OwnRc w.heap.size w W x C/\((k=0/\C=[]/\x.n=0)∨(1 <= k/\x.n=1/\∃ c,C=[c]/\c.s=r.s/\CanonOf (runsAt r.p.P) c.p.P))
end
end Go.Proofs.YtjeilkenjdnafaaGreat
