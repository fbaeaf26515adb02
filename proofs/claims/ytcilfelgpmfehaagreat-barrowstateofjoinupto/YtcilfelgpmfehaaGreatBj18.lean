/- OOf ORh BCv BSm TUa BMp BMr BPr BPg TShg -/
import Derived.Test.YtcilfelgpmfehaaGreatBj17
import Derived.Deep.RegionHeldLaw
import Derived.Deep.CutRange
import Derived.Sort.KeysCollected
import Derived.Maps.Ext
import Derived.Maps.OwnOps
import Derived.StringKeys
import Derived.Below
import Derived.Maps.AppendAt
import Derived.Laws.OwnMore
import Derived.Shelf.Spec.SlicesGrow
set_option maxRecDepth 100000
set_option maxHeartbeats 8000000
namespace Go.Proofs.YtcilfelgpmfehaaGreat
section
open Go.RowKit Go.Lib
attribute [local go_sem ↓] zl zk kP kN qg qf
attribute [local go_sem] xO q7 zw zf zW zh
def okD (d:Rn):Bool:=V.isR d.lo && (decide (1 <= d.hi) && decide (d.hi <= 1000000000))
def cv (C:List Rn) (r:Nat):List Rn:=(C.filter (fun d=>okD d && decide (d.lo=(r:Int)))).map (fun d=>⟨d.hi,d.hi⟩)
theorem yj (C:List Rn) (d:Rn) (r:Nat):cv (C++[d]) r=if (okD d && decide (d.lo=(r:Int)))=true then cv C r++[⟨d.hi,d.hi⟩] else cv C r:=by
 unfold cv;rw [List.filter_append];by_cases h:(okD d && decide (d.lo=(r:Int)))=true
 ·rw [if_pos h,List.filter_cons_of_pos (p:=fun d:Rn=>okD d && decide (d.lo=(r:Int))) h];simp
 ·rw [if_neg h,List.filter_cons_of_neg (p:=fun d:Rn=>okD d && decide (d.lo=(r:Int))) h];simp
theorem zaj (C:List Rn) (r:Nat):(cv C r).length <= C.length:=by unfold cv;rw [List.length_map];exact List.length_filter_le _ _
theorem xL (C:List Rn) (r:Nat) (n:Int):mem (cv C r) n↔∃ d∈C,okD d=true/\d.lo=(r:Int)/\d.hi=n:=by
 unfold mem cv;constructor
 ·rintro ⟨h1,h2,x,hx,h3,h4⟩;obtain ⟨d,hd,rfl⟩:=List.mem_map.1 hx;obtain ⟨Bq,Ar⟩:=List.mem_filter.1 hd;simp only [Bool.and_eq_true,decide_eq_true_eq] at Ar;simp only at h3 h4;exact ⟨d,Bq,Ar.1,Ar.2,by omega⟩
 ·rintro ⟨d,hd,h1,h2,rfl⟩;have h3:=h1;unfold okD at h3;simp only [Bool.and_eq_true,decide_eq_true_eq] at h3;exact ⟨h3.2.1,h3.2.2,⟨d.hi,d.hi⟩,List.mem_map.2 ⟨d,List.mem_filter.2 ⟨hd,by simp [h1,h2]⟩,rfl⟩,Int.le_refl _,Int.le_refl _⟩
theorem zaZ {G G':Nat -> List Rn} {P:Pst} (h:ae G P) (e:∀ r,r < 16 -> ∀ n,mem (G r) n↔mem (G' r) n):ae G' P:=by
 obtain ⟨N,hN,hP⟩:=h;exact ⟨N,fun r hr=>⟨(hN r hr).1,fun n=>((hN r hr).2 n).trans (e r hr n)⟩,hP⟩
theorem zeV (d:Array Rn):(compactUpTo d d.size).Sublist d.toList:=by
 have h:(compactUpTo d d.size).Sublist ((List.range d.size).map (d[·]!)):=List.filter_sublist.map _;rwa [range_map_get] at h
theorem zfg (d:Array Rn) (i:Nat) (h:i < d.size):d[i]! = d[i]:=getElem!_pos d i h
theorem zeW (d:Array Rn) (m:Nat):m <= d.size -> ∀ j,j < m -> d[j]! ∈ compactUpTo d m:=by
 induction m with
 | zero=>intro _ j hj;omega
 | succ m ih =>
  intro hm j hj;rw [compactUpTo_succ];by_cases e:j=m
  ·subst e;by_cases hk:keeps d j=true
   ·rw [if_pos hk];simp
   ·rw [if_neg hk,List.append_nil]
    have iQ:¬ (j=0∨d[j]! ≠ d[j - 1]!):=by simpa [keeps] using hk
    have h0:¬ j=0:=fun h=>iQ (Or.inl h);have h1:d[j]! = d[j - 1]! := Classical.byContradiction fun h=>iQ (Or.inr h);rw [h1];exact ih (by omega) (j - 1) (by omega)
  ·exact List.mem_append_left _ (ih (by omega) j (by omega))
theorem zeX (d:Array Rn) (x:Rn):x∈compactUpTo d d.size↔x∈d.toList:=by
 constructor
 ·exact fun h=>(zeV d).mem h
 ·intro h;obtain ⟨i,hi,rfl⟩:=List.mem_iff_getElem.1 h
  have iJ:i < d.size:=by simpa using hi
  have:=zeW d d.size (Nat.le_refl _) i iJ;rw [zfg d i iJ] at this;simpa using this
structure SI3 (B:Nat) (wb W:World) (F:Nat -> Sl) (G:Nat -> List Rn):Prop where
 s:cw W B F
 o:cR (B+1) W F
 l:∀ r,r < 16 -> (F r).L=G r
 b:Below B wb W
 h:B+1 <= W.heap.size
theorem SI3.on {B:Nat} {wb W W':World} {F:Nat -> Sl} {G:Nat -> List Rn} (I:SI3 B wb W F G) (hb:Below W.heap.size W W'):SI3 B wb W' F G:=
 ⟨I.s.below hb,I.o.below hb,I.l,I.b.trans (hb.mono (by have:=I.h;omega)),Nat.le_trans I.h hb.size⟩
theorem SI3.congr {B:Nat} {wb W:World} {F:Nat -> Sl} {G G':Nat -> List Rn} (I:SI3 B wb W F G) (h:∀ r,r < 16 -> G r=G' r):SI3 B wb W F G':=
 ⟨I.s,I.o,fun r hr=>(I.l r hr).trans (h r hr),I.b,I.h⟩
theorem SI3.mid {B:Nat} {wb W w2:World} {F F':Nat -> Sl} {G:Nat -> List Rn} (I:SI3 B wb W F G) (h2:∀ q,q < W.heap.size -> Off F q -> w2.heap[q]? = W.heap[q]? /\ Off F' q):cw w2 B F:=
 ((h2 _ (by have:=I.h;omega) (I.o.off _ (Or.inl (by omega)))).1).trans I.s
theorem SI3.push {B:Nat} {wb W w2:World} {F:Nat -> Sl} {G:Nat -> List Rn} (I:SI3 B wb W F G) (k:Nat) (_:k < 16) (e:Rn) (n cap2 g:Nat)
  (O2:cR (B+1) w2 (dX F k ⟨some ⟨g,0,none⟩,n+1,cap2,(F k).L++[e]⟩)) (h2:∀ q,q < W.heap.size -> Off F q -> w2.heap[q]? = W.heap[q]? /\ Off (dX F k ⟨some ⟨g,0,none⟩,n+1,cap2,(F k).L++[e]⟩) q) (h3:W.heap.size < w2.heap.size) (h4:∀ n0 w0,n0 <= B+1 -> Below n0 w0 W -> Below n0 w0 w2) (v:Value) (hv:v = .slice (some ⟨g,0,none⟩) (n+1) cap2) :
  SI3 B wb (w2.setCell ⟨B,k,none⟩ v) (dX F k ⟨some ⟨g,0,none⟩,n+1,cap2,(F k).L++[e]⟩) (fun r=>if r=k then G r++[e] else G r):=by
 have hh:=I.h
 have other:∀ q,q≠B -> (w2.setCell ⟨B,k,none⟩ v).heap[q]? = w2.heap[q]?:=fun q hq=>by
  simp [World.setCell,Array.getElem?_modify,show ¬ B=q by omega]
 refine ⟨(I.mid h2).set k _ v hv,O2.kept (fun q hq hno=>other q (fun e=>hno ?_)),fun r hr=>?_,?_,?_⟩
 ·rw [e];exact O2.off _ (Or.inl (by omega))
 ·by_cases h:r=k
  ·subst h;rw [xt,if_pos rfl,<- I.l r hr]
  ·rw [qv _ _ _ _ h,if_neg h,<- I.l r hr]
 ·exact V.xe (h4 _ _ (by omega) I.b) (by simp)
 ·have:(w2.setCell ⟨B,k,none⟩ v).heap.size=w2.heap.size:=by simp [World.setCell]
  omega
theorem zck (w:World):Calls Tryz.prog 103 #[.slice none 0 0] w fun e w'=>e = .returned (.slice none 0 0)/\w'=w:=by
 have ej:(binOp .eql 123 (.slice none 0 0) (.slice none 0 0)).run Tryz.prog w = .ok (.bool true) w:=Lib.run_eql_slice_nil_nil w 0 0 Tryz.underlying123;go_enter Tryz.func103,Tryz.ntmps103;go_wp2_with fail;go_ret;exact ⟨rfl,rfl⟩
theorem uW (ao:Option Addr) (cap:Nat) (w:World):Calls Tryz.prog 104 #[.slice ao 0 cap,.func (.func 105) #[] #[]] w fun e w'=>e = .returned (.tuple #[])/\w'=w:=AnyF.slices_SortFunc_none Tryz.sortD ao cap _ w
theorem zcm (ao:Option Addr) (n c:Nat) (D:List Rn) (w:World) (hS:aU w ao n c D) :
  Calls Tryz.prog 103 #[.slice ao n c] w fun e w'=>∃ ao c',e = .returned (.slice ao n c')/\ez w.heap.size w.heap.size w w' ao c' D:=by
 cases ao with
 | some ad=>exact zcl ad n c D w hS
 | none =>
  obtain ⟨rfl,rfl⟩:=hS.nil rfl;obtain rfl:D=[]:=List.eq_nil_of_length_eq_zero hS.len;refine (zck w).mono ?_;rintro e w' ⟨rfl,rfl⟩;exact ⟨none,0,rfl,World.ownsRow_nil _ _ _ _,Below.refl _ _,Nat.le_refl _,Nat.le_refl _⟩
theorem vS (ao:Option Addr) (n c:Nat) (D:List Rn) (w:World) (hS:aU w ao n c D) :
  Calls Tryz.prog 73 #[.slice ao n c] w fun e w'=>cW w w' e (ae (cv D)):=by
 have gN:=hide (ze w (.cells (PC pv0) 26));have sV:=hide (zq w pv0);have HS:=hide (hS.below gN.out);have HD:Hid (D.length=n/\n <= 8796093022207):=⟨hS.len,hS.big⟩;clear hS;go_enter Tryz.func73,Tryz.ntmps73;go_wp2_with fail;refine (zcm ao n c D _ HS.out).mono ?_;rintro e w2 ⟨ao2,c2,rfl,O2⟩;have mq:=hide O2.below;have Df:=O2.below.size
 have EA:Hid (w.heap.size+1 <= w2.heap.size):=by show _ <= _;simpa using Df
 clear HS Df;by_cases Aw:n=0
 ·subst Aw;obtain rfl:D=[]:=List.eq_nil_of_length_eq_zero HD.out.1;have cd:=wTr gN mq.out;have gP:=hide (sV.out.below mq.out);clear O2;go_wp2_with fail;refine (uW ao2 c2 _).mono ?_;rintro e w3 ⟨rfl,rfl⟩
  rename World=>w3
  obtain ⟨B,hB⟩:∃ B,w3.heap.size=B:=⟨_,rfl⟩;have Fz:SI3 w3.heap.size w3 (w3.alloc (.cells (SA fun _=>sl0) 113)) (fun _=>sl0) (cv []):=⟨jc w3 _,cR.nil _ _,fun r _=>rfl,ze w3 _,by simp⟩;obtain ⟨w4,nW⟩:∃ w4,w3.alloc (.cells (SA fun _=>sl0) 113)=w4:=⟨_,rfl⟩;rw [nW,hB] at Fz;have HI:=hide Fz;have eK:Hid (w3.heap.size=B):=hB;clear Fz;go_wp2_with (go_at_call 106;refine (zal _ 0 c2 _ (by omega)).mono ?_;rintro e w5 ⟨rfl,rfl⟩);clear nW hB;go_loopw [14] (fun i wr=>i = .int .i64 0/\wr=w5) (fun _ _=>0)
  case atStart=>exact ⟨rfl,rfl⟩
  case round =>
   obtain ⟨rfl,Lv⟩:=hrel;subst Lv
   rename World=>w4
   have l9:=vI HI.out.s;have Bb:Hid (∀ r,r < 16 -> aU w4 ((fun _=>sl0) r:Sl).ao ((fun _=>sl0) r:Sl).n ((fun _=>sl0) r:Sl).cap ((fun _=>sl0) r:Sl).L):=fun r hr=>HI.out.o.src HI.out.h hr (by simp [sl0]);have b36:=hide HI.out.b;go_wp2_with fail;refine (qI (fun _=>sl0) _ Bb.out).mono ?_;rintro e w8 ⟨p,rfl,S2,n2,b2,c2'⟩
   have b38:Below w3.heap.size w3 w8:=by rw [eK.out];exact b36.out.trans (b2.mono (by have:=HI.out.h;omega))
   obtain ⟨s1,e1,e2,e3,e4⟩:=xq (w:=w) (gP.out.below b38) S2 (n2.mono (by have:=HI.out.h;have:=eK.out;have:=EA.out;omega)) (cd.out.trans (b38.mono cd.out.size)) (Nat.le_refl _);have dO:=hide e1;have eV:Hid (cW w (w8.setRow w.heap.size (PC p)) (.returned (PV p)) (ae (cv []))):=⟨p,rfl,e2,e3,e4,c2'⟩;clear S2 n2 b2 c2' e1 e2 e3 e4 l9 b38;go_wp2_with fail;exact bodyPost_ret (v:=PV p) (eQ Tryz.results73 rfl dO.out) rfl eV.out
 ·obtain ⟨ad2,rfl⟩:∃ ad2,ao2=some ad2:=by
   cases ao2 with
   | some x=>exact ⟨x,rfl⟩
   | none=>have h1:=(O2.src (by have:=HD.out;omega)).1.nil rfl;have h2:=HD.out;omega
  obtain ⟨M2,mp,oF,oE⟩:=O2.mr;have CA:=hide M2;have gZ:=hide mp;have i5:Hid (n <= c2/\c2 <= maxLen):=⟨by have:=HD.out;omega,oE⟩;clear O2 M2 mp oF oE;go_wp2_with fail;refine (zcE ad2 c2 n D.toArray _ CA.out (by simpa using HD.out.1) HD.out.2).mono ?_;rintro e w3 ⟨rfl,d',hp,hs,M3,b3⟩
  have Ez:w.heap.size+1 <= ad2.block:=by have:=gZ.out;simpa using this
  have aN:=hide (gN.out.trans ((mq.out.trans (b3.mono gZ.out)).mono gN.out.size));have Dc:=hide (sV.out.below (mq.out.trans (b3.mono gZ.out)));have JJ:=hide M3;have Cw:=hide Ez
  have lO:Hid (∀ x,x∈compactUpTo d' d'.size↔x∈D):=fun x=>by rw [zeX];have:=hp.mem_iff (a:=x);simpa using this
  obtain ⟨B,hB⟩:∃ B,w3.heap.size=B:=⟨_,rfl⟩;have Gn:=jc w3 (fun _=>sl0);have b34:=ze w3 (.cells (SA fun _=>sl0) 113);have s4:=World.size_alloc w3 (.cells (SA fun _=>sl0) 113);obtain ⟨w4,nW⟩:∃ w4,w3.alloc (.cells (SA fun _=>sl0) 113)=w4:=⟨_,rfl⟩;rw [nW] at Gn b34 s4;have M4:=M3.on b34;have HC:=hide (j5 ad2 c2 n d' w4 M4 hs HD.out.2 i5.out.1 (by have:=i5.out.2;unfold maxLen at this;omega));have H4:Hid (cw w4 B (fun _=>sl0)/\Below w3.heap.size w3 w4/\w4.heap.size=B+1/\ad2.block < B/\w3.heap.size=B):=⟨hB ▸ Gn,b34,by rw [s4,hB],by have:=M3.lt;omega,hB⟩;clear hp M3 b3 CA gZ mq sV gN Ez Gn b34 s4 M4;go_wp2_with fail;clear nW hB;refine HC.out.mono ?_;rintro e w5 ⟨m,d5,rfl,M5,LS,K8,Kf,K5⟩;obtain ⟨C,EB⟩:∃ C,d5.toList.take m=C:=⟨_,rfl⟩
  have Ex:Hid (C.length=m/\m <= 8796093022207/\∀ x,x∈C↔x∈D):=by
   refine ⟨?_,by have:=HD.out.2;omega,fun x=>?_⟩
   ·rw [<- EB,List.length_take];simp;omega
   ·rw [<- EB,Kf];exact lO.out x
  have Lu:Hid (∀ t,t < m -> fR w5 (ad2.add (t * 2)) (C.getD t rn0)):=fun t ht=>by
   have A:=M5.at t (by omega)
   have e:C.getD t rn0=d5[t]! := by
    rw [<- EB,List.getD_eq_getElem?_getD,List.getElem?_take,if_pos ht,Array.getElem?_toList,Array.getElem?_eq_getElem (by omega),getElem!_pos d5 t (by omega)];rfl
   rw [e];exact A
  have p7:Hid (SI3 B w5 w5 (fun _=>sl0) (cv (C.take 0))):=by
   have h1:=H4.out;have hk:=K5.size;exact ⟨(K5.block B (by omega) (by omega)).trans h1.1,cR.nil _ _,fun r _=>rfl,Below.refl _ _,by omega⟩
  have My:=hide K5;have NB:m <= 8796093022207:=Ex.out.2.1;clear M5 LS K8 Kf EB K5 HC;go_wp2_with fail;go_loopw [14] (fun i wr=>∃ (k:Nat) (F:Nat -> Sl),k <= m/\i = .int .i64 (k:Int)/\Hid (SI3 B w5 wr F (cv (C.take k)))) (fun i _=>m - (intOf i).toNat)
  case atStart=>exact ⟨0,_,Nat.zero_le _,rfl,p7⟩
  case round =>
   obtain ⟨k,F,hk,rfl,HI⟩:=hrel
   rename World=>w6
   clear p7;by_cases aq:k < m
   ·have dl:(k:Int) < (m:Int):=by omega
    obtain ⟨dd,FT⟩:∃ dd,C.getD k rn0=dd:=⟨_,rfl⟩;have A5:=Lu.out k aq;rw [FT] at A5
    have Dp:(ad2.add (k * 2)).block < B:=by rw [zp];exact H4.out.2.2.2.1
    have A0:fR w6 (ad2.add (k * 2)) dd:=⟨(HI.out.b.cell Dp).trans A5.c0,(HI.out.b.cell (by rw [zp];exact Dp)).trans A5.c1⟩;have dz:=qw A0
    have HT:Hid (C.take (k+1)=C.take k++[dd]):=by
     show _=_
     rw [List.take_add_one,<- FT,List.getD_eq_getElem?_getD,List.getElem?_eq_getElem (by have:=Ex.out.1;omega)];rfl
    obtain ⟨g7,fT⟩:∃ g7,w6.heap.size=g7:=⟨_,rfl⟩;obtain ⟨w7,cr,XD,b7,z7⟩:=DT w6 dd g7 fT;replace cr:(stD (.pointer (some ⟨g7,0,none⟩)) (RV dd)).run Tryz.prog (w6.alloc (.cells #[.int .i64 0,.int .i64 0] 64)) = .ok () w7:=cr
    have l7:=qw XD.at
    have mn:=hide XD;have IC:=hide (HI.out.on b7)
    have rH:Hid (Off F g7):=by rw [<- fT];exact HI.out.o.off w6.heap.size (Or.inr (Nat.le_refl _))
    have om:Hid (B+1 <= g7):=by rw [<- fT];exact HI.out.h
    have uj:Hid (k+1 <= m):=aq;clear A5 A0 XD b7 z7 HI aq hk Dp FT;go_wp2_with fail;clear cr fT dz;refine (yh dd _).mono ?_;rintro e w8 ⟨rfl,b8⟩;have gq:=hide (IC.out.on b8);have iF:=hide (mn.out.below b8);obtain ⟨bb,mC⟩:∃ bb,(V.isR dd.lo && (decide (1 <= dd.hi) && decide (dd.hi <= 1000000000)))=bb:=⟨_,rfl⟩;have m6:Hid (okD dd=bb):=mC;rw [mC];clear b8 IC mn l7 mC
    cases bb with
    | false =>
     have HG:Hid (SI3 B w5 w8 F (cv (C.take (k+1)))):=gq.out.congr (fun r _=>by rw [HT.out,yj,m6.out];simp);go_wp2_with fail;go_roundw
     case rel=>exact ⟨k+1,F,uj.out,by simp,HG.out⟩
     case measure=>simp [intOf];have:=uj.out;omega
    | true =>
     obtain ⟨y,num,rfl,hy,se⟩:∃ (y:Nat) (num:Int),dd=⟨(y:Int),num⟩/\y < 16/\True:=by
      have h:=m6.out;unfold okD at h;simp only [Bool.and_eq_true,V.isR,decide_eq_true_eq] at h;obtain ⟨lo,hi⟩:=dd;exact ⟨lo.toNat,hi,by simp only at h;congr 1;omega,by simp only at h;omega,trivial⟩
     have HG:Hid (∀ r,(if r=y then cv (C.take k) r++[⟨num,num⟩] else cv (C.take k) r)=cv (C.take (k+1)) r):=fun r=>by
      rw [HT.out,yj,m6.out];by_cases h:r=y
      ·subst h;simp
      ·rw [if_neg h,if_neg (by simp;omega)]
     have um:=hide iF.out.lt;have m0:=iF.out.at.c0;have m1:w8.cell? ⟨g7,1,none⟩=some (.int .i64 num):=iF.out.at.c1;dsimp only at m0
     have gl:Hid ((F y).n < 8796093022207):=by
      have h:=gq.out.o.len hy;rw [gq.out.l y hy] at h;have h2:=zaj (C.take k) y;rw [List.length_take] at h2
      show _ < _
      have:=uj.out;omega
     have c1:=gq.out.s.cell y hy;obtain ⟨sa,sn,sc,hf⟩:∃ sa sn sc,(F y).ao=sa/\(F y).n=sn/\(F y).cap=sc:=⟨_,_,_,rfl,rfl,rfl⟩;rw [hf.1,hf.2.1,hf.2.2] at c1;have c1n:=((ze w8 (.cells #[.int .i64 num,.int .i64 num] 139)).cell (World.block_lt_of_cell? _ _ c1)).trans c1;have c1d:=((ze w8.drew (.cells #[.int .i64 num,.int .i64 num] 139)).cell (p:=⟨B,y,none⟩) (World.block_lt_of_cell? _ _ c1)).trans c1;have HF:=hide hf
     have y0:(0:Int) <= (y:Int):=by omega
     have y1:(y:Int) < 16:=by omega
     have fU:Hid (∀ W:World,W.heap[g7]? = w8.heap[g7]? -> W.cell? ⟨g7,0,none⟩=some (.int .i64 (y:Int))/\W.cell? ⟨g7,1,none⟩=some (.int .i64 num)):=fun W e1 =>
      ⟨(World.cell?_of_block e1).trans m0,(World.cell?_of_block e1).trans m1⟩
     clear hf se;go_wp2_with fail;refine wp_region_held_drew (S:=fun W=>W.cell? ⟨g7,0,none⟩=some (.int .i64 (y:Int))/\W.cell? ⟨g7,1,none⟩=some (.int .i64 num)) (by kernel_rfl) (fU.out _ rfl) (fun hHeld=>?_);refine wU 0 ?_;refine wU 1 ?_;refine wU 2 ?_;refine wU 3 ?_;refine wU 4 ?_;refine wU 6 ?_;refine wU 7 ?_;refine wU 8 ?_;refine wU 9 ?_;refine wU 10 ?_;refine wpAnyH_ready (rs:=[5,11]) (by kernel_rfl) (by simp) ?_;refine AllReadyH.cons rfl (fun K hK=>?_) ?_
     ·go_simp;refine hK.out _ _ (fU.out _ rfl) (fun hHeld=>?_);clear hK K;refine wR 11 fun K hK=>?_;go_simp;refine hK.out _ _ (fU.out _ (Below.heap_alloc _ _ _ um.out)) (fun hHeld=>?_);clear hK K;refine wR 12 fun K hK=>?_;refine gq.out.o.step gq.out.h y hy ⟨num,num⟩ _ (by rfl) gl.out (by rfl) (.tmp 25) (.tmp 31) (by rfl) sa sn sc HF.out (by rfl) _ (by rfl) (by rfl) ?_;intro g6 c6 w9 O6 h2 h3 h4;have d1:=(gq.out.mid h2).cell y hy;have d2:=(gq.out.mid h2).frozen y;have HP:=hide (gq.out.push y hy ⟨num,num⟩ sn c6 g6 O6 h2 h3 h4 _ rfl);have uf:=hide (kl (B:=B) (k:=y) (v:=.slice (some ⟨g6,0,none⟩) (sn+1) c6) h2 um.out rH.out (by have:=om.out;omega)).1;refine hK.out _ _ (fU.out _ (h2 _ um.out rH.out).1) (fun hHeld=>?_)
      clear hK K;refine wU 13 ?_;refine wR 14 fun K hK=>?_;go_simp;refine hK.out _ _ (fU.out _ uf.out) (fun hHeld=>?_);clear hK K;refine wD ?_ _;clear hHeld O6 h2 h3 h4;go_wp2_with fail;go_roundw
      case rel=>exact ⟨k+1,_,uj.out,by simp,HP.out.congr (fun r hr=>HG.out r)⟩
      case measure=>simp [intOf];have:=uj.out;omega
     ·refine AllReadyH.cons rfl (fun K hK=>?_) ?_;rotate_left
      ·exact AllReadyH.nil
      go_simp;refine hK.out _ _ (fU.out _ (Below.heap_alloc _ _ _ um.out)) (fun hHeld=>?_);clear hK K;refine wR 5 fun K hK=>?_;go_simp;refine hK.out _ _ (fU.out _ (Below.heap_alloc _ _ _ um.out)) (fun hHeld=>?_);clear hK K;refine wR 12 fun K hK=>?_;refine gq.out.o.step gq.out.h y hy ⟨num,num⟩ _ (by rfl) gl.out (by rfl) (.tmp 25) (.tmp 31) (by rfl) sa sn sc HF.out (by rfl) _ (by rfl) (by rfl) ?_;intro g6 c6 w9 O6 h2 h3 h4;have d1:=(gq.out.mid h2).cell y hy;have d2:=(gq.out.mid h2).frozen y;have HP:=hide (gq.out.push y hy ⟨num,num⟩ sn c6 g6 O6 h2 h3 h4 _ rfl);have uf:=hide (kl (B:=B) (k:=y) (v:=.slice (some ⟨g6,0,none⟩) (sn+1) c6) h2 um.out rH.out (by have:=om.out;omega)).1;refine hK.out _ _ (fU.out _ (h2 _ um.out rH.out).1) (fun hHeld=>?_)
      clear hK K;refine wU 13 ?_;refine wR 14 fun K hK=>?_;go_simp;refine hK.out _ _ (fU.out _ uf.out) (fun hHeld=>?_);clear hK K;refine wD ?_ _;clear hHeld O6 h2 h3 h4;go_wp2_with fail;go_roundw
      case rel=>exact ⟨k+1,_,uj.out,by simp,HP.out.congr (fun r hr=>HG.out r)⟩
      case measure=>simp [intOf];have:=uj.out;omega
   ·have dl:¬ (k:Int) < (m:Int):=by omega
    obtain rfl:k=m:=by omega
    have l9:=vI HI.out.s
    have Bb:Hid (∀ r,r < 16 -> aU w6 (F r).ao (F r).n (F r).cap (F r).L):=fun r hr=>HI.out.o.src HI.out.h hr (by
     have h:=HI.out.o.len hr;rw [HI.out.l r hr] at h;have h2:=zaj (C.take k) r;rw [List.length_take] at h2
     omega)
    have L0:Hid (∀ r,r < 16 -> (F r).L=cv C r):=fun r hr=>by rw [HI.out.l r hr,List.take_of_length_le (by have:=Ex.out.1;omega)]
    have b56:=hide HI.out.b;have Hh:=hide HI.out.h;go_wp2_with fail;refine (qI F _ Bb.out).mono ?_;rintro e w8 ⟨p,rfl,S2,n2,b2,c2'⟩;have h4:=H4.out;have b68:Below B w5 w8:=b56.out.trans (b2.mono (by have:=Hh.out;omega));have b48:Below (w.heap.size+1) w4 w8:=(Kd.below (Below.refl _ _) My.out (by have:=Cw.out;omega) (by have:=Cw.out;omega)).trans (b68.mono (by have:=Cw.out;omega));have b38:Below (w.heap.size+1) w3 w8:=(h4.2.1.mono (by have:=Cw.out;omega)).trans b48;obtain ⟨s1,e1,e2,e3,e4⟩:=xq (w:=w) ((b38.block w.heap.size (by omega)).trans Dc.out) S2 (n2.mono (by have:=Hh.out;have:=Cw.out;omega)) (aN.out.trans (b38.mono (by omega))) (Nat.le_refl _);have dO:=hide e1
    have eV:Hid (cW w (w8.setRow w.heap.size (PC p)) (.returned (PV p)) (ae (cv D))):=⟨p,rfl,e2,e3,e4,zaZ (c2'.congr L0.out) (fun r _ n=>by
     rw [xL,xL];have hm:=Ex.out.2.2;constructor
     ·rintro ⟨d,hd,h⟩;exact ⟨d,(hm d).1 hd,h⟩
     ·rintro ⟨d,hd,h⟩;exact ⟨d,(hm d).2 hd,h⟩)⟩
    clear S2 n2 b2 c2' e1 e2 e3 e4 l9 b38 b48 b68 h4;go_wp2_with fail;exact bodyPost_ret (v:=PV p) (eQ Tryz.results73 rfl dO.out) rfl eV.out
end
section
open Go.RowKit
attribute [local go_sem ↓] zl zk qg qf qX xu
attribute [local go_sem] zf zh qS qi qy
variable {w w' w2 W W' : World} {g : Nat}

theorem zdY {ao:Option Addr} {m c:Nat} {Z:List Int} (h:V.Src W ao m c Z) (k:Nat) (hk:k < m):∃ ad,ao=some ad/\W.cell? (ad.add k)=some (.int .i64 (Z.getD k 0)):=by
 cases ao with
 | none=>have:=(h.2.1 rfl).1;omega
 | some ad=>exact ⟨ad,rfl,h.2.2 ad rfl k hk⟩
theorem xx (d:Rn) (c:Sn):dT d c=true↔c.rep=d.lo/\c.lo <= d.hi/\d.hi <= c.hi:=by unfold dT;simp
end
section
open Go.RowKit
attribute [local go_sem ↓] zl zk zR zQ qg qf K.zu K.zt
attribute [local go_sem] zf zh zy zH K.zs K.zB zT
variable {w w' w2 W W' : World} {g : Nat}
def iN (r:Rc) (e:K.En):Bool:=(decide (r.s.size=0) || (r.s.toList == e.sku.toList)) && inB r.p.P e
theorem wJ (L:List Rc) (k:Nat) (h:k < L.length):L.take (k+1)=L.take k++[L.getD k rc0]:=by
 rw [List.take_succ_eq_append_getElem h];simp [List.getD,h]
end
section
open Go.RowKit
attribute [local go_sem ↓] K.zu K.zt K.ql zl zk zR zQ
attribute [local go_sem] K.zC K.zs zf zh
theorem zeu {s u:ByteArray} (h:s.toList=u.toList):s=u:=by
 rw [ByteArray.toList_eq,ByteArray.toList_eq] at h;exact ByteArray.ext (Array.ext' h)
abbrev Rp:=ByteArray × Pst
def plR (L:List Rc):List Rp:=L.map fun r=>(r.s,r.p.P)
theorem jt (L:List Rc):(plR L).length=L.length:=by simp [plR]
theorem zbm (L:List Rc) (r:Rc):plR (L++[r])=plR L++[(r.s,r.p.P)]:=by simp [plR]
theorem jK (L:List Rc) (k:Nat) (h:k < L.length):plR (L.take (k+1))=plR (L.take k)++[((L.getD k rc0).s,(L.getD k rc0).p.P)]:=by
 rw [wJ L k h,zbm]
theorem gQ.flat {w:World} {b o:Nat} {r:Rc} (A:gQ w ⟨b,o,none⟩ (mkR r)):w.cell? ⟨b,o,none⟩=some (.string r.s)/\PAt w ⟨b,o+1,none⟩ r.p:=by
 obtain ⟨h0,h1,h2⟩:=A;rw [Addr.add_lit] at h1 h2;refine ⟨h0,h1,?_⟩;rw [Addr.add_lit];exact h2
theorem RcS.spot {w:World} {ad:Addr} {n c:Nat} {L:List Rc} (h:RcS w (some ad) n c L) (hn:0 < n):∃ b o,ad=⟨b,o,none⟩:=by
 obtain ⟨ad0,e0,A00⟩:=h.at 0 hn;obtain rfl:=Option.some.inj e0;have ov:=World.cell?_spot A00.c0;rw [Nat.zero_mul,add_zero] at ov;obtain ⟨b,o,sp⟩:=ad;have ov:sp=none:=ov;subst ov;exact ⟨b,o,rfl⟩
end
section
open Go.RowKit
/-! ### any total order -/
section
variable {α : Type} {c : α -> α -> Int}
def Srt (c : α -> α -> Int) (L:List α):Prop:=L.Pairwise fun x y=>c x y < 0
theorem Tot.irr (h:Tot c) (x : α):¬ c x x < 0:=by have:=(h.eq x x).2 rfl;omega
theorem Tot.asym (h:Tot c) {x y : α} (h1:c x y < 0):¬ c y x < 0:=by have:=h.neg x y;omega
theorem Srt.uniq (h:Tot c):∀ {X Y:List α},Srt c X -> Srt c Y -> (∀ x,x∈X↔x∈Y) -> X=Y
 | [],[],_,_,_=>rfl
 | [],b :: _,_,_,e=>absurd ((e b).2 List.mem_cons_self) List.not_mem_nil
 | a :: _,[],_,_,e=>absurd ((e a).1 List.mem_cons_self) List.not_mem_nil
 | a :: X,b :: Y,h1,h2,e=>by
  obtain ⟨a1,a2⟩:=List.pairwise_cons.1 h1;obtain ⟨b1,b2⟩:=List.pairwise_cons.1 h2
  have dW:a=b:=by
   rcases List.mem_cons.1 ((e a).1 List.mem_cons_self) with q | q
   ·exact q
   ·rcases List.mem_cons.1 ((e b).2 List.mem_cons_self) with q' | q'
    ·exact q'.symm
    ·exact absurd (a1 b q') (h.asym (b1 a q))
  subst dW;rw [Srt.uniq h a2 b2 fun x=>?_];have hx:=e x;rw [List.mem_cons,List.mem_cons] at hx;constructor
  ·intro hm;rcases hx.1 (.inr hm) with rfl | q
   ·exact absurd (a1 _ hm) (h.irr _)
   ·exact q
  ·intro hm;rcases hx.2 (.inr hm) with rfl | q
   ·exact absurd (b1 _ hm) (h.irr _)
   ·exact q
structure Mg (c : α -> α -> Int) (X Y:List α) (D A B:List α):Prop where
 sd:Srt c D
 sa:Srt c A
 sb:Srt c B
 da:∀ d∈D,∀ x∈A,c d x < 0
 db:∀ d∈D,∀ x∈B,c d x < 0
 all:∀ x,(x∈D∨x∈A∨x∈B)↔(x∈X∨x∈Y)
theorem Mg.start {X Y:List α} (h1:Srt c X) (h2:Srt c Y):Mg c X Y [] X Y:=
 ⟨List.Pairwise.nil,h1,h2,fun d h=>(by cases h),fun d h=>(by cases h),fun x=>by simp⟩
theorem Mg.symm {X Y D A B:List α} (h:Mg c X Y D A B):Mg c X Y D B A:=
 ⟨h.sd,h.sb,h.sa,h.db,h.da,fun x=>by rw [<- h.all x];constructor <;> (rintro (q | q | q) <;> simp [q])⟩
theorem Mg.left {X Y D A B:List α} {x : α} (h:Mg c X Y D (x :: A) B) (hx:∀ y∈B,c x y < 0):Mg c X Y (D++[x]) A B:=by
 obtain ⟨a1,a2⟩:=List.pairwise_cons.1 h.sa;refine ⟨List.pairwise_append.2 ⟨h.sd,List.pairwise_singleton _ _,fun d hd y hy=>?_⟩,a2,h.sb,fun d hd y hy=>?_,fun d hd y hy=>?_,fun y=>?_⟩
 ·obtain rfl:=List.mem_singleton.1 hy;exact h.da d hd _ List.mem_cons_self
 ·rcases List.mem_append.1 hd with q | q
  ·exact h.da d q y (List.mem_cons_of_mem _ hy)
  ·obtain rfl:=List.mem_singleton.1 q;exact a1 y hy
 ·rcases List.mem_append.1 hd with q | q
  ·exact h.db d q y hy
  ·obtain rfl:=List.mem_singleton.1 q;exact hx y hy
 ·rw [<- h.all y];simp only [List.mem_append,List.mem_cons];constructor
  ·rintro ((q | q) | q | q)
   ·exact .inl q
   ·exact .inr (.inl (.inl (by simpa using q)))
   ·exact .inr (.inl (.inr q))
   ·exact .inr (.inr q)
  ·rintro (q | (q | q) | q)
   ·exact .inl (.inl q)
   ·exact .inl (.inr (by simp [q]))
   ·exact .inr (.inl q)
   ·exact .inr (.inr q)
theorem Mg.drop {X Y D A B:List α} {x : α} (h:Mg c X Y D (x :: A) B) (hx:x∈B):Mg c X Y D A B:=
 ⟨h.sd,(List.pairwise_cons.1 h.sa).2,h.sb,fun d hd y hy=>h.da d hd y (List.mem_cons_of_mem _ hy),h.db,fun y=>by
  rw [<- h.all y];constructor
  ·rintro (q | q | q)
   ·exact .inl q
   ·exact .inr (.inl (List.mem_cons_of_mem _ q))
   ·exact .inr (.inr q)
  ·rintro (q | q | q)
   ·exact .inl q
   ·rcases List.mem_cons.1 q with rfl | q
    ·exact .inr (.inr hx)
    ·exact .inr (.inl q)
   ·exact .inr (.inr q)⟩
theorem za8 (h:Tot c) {x y : α} {B:List α} (hB:Srt c (y :: B)) (pR:c x y < 0):∀ z∈y :: B,c x z < 0:=fun z hz=>by
 rcases List.mem_cons.1 hz with rfl | q
 ·exact pR
 ·exact h.lt pR (by have:=(List.pairwise_cons.1 hB).1 z q;omega)
def UnK (c : α -> α -> Int) (X Y Z:List α):Prop:=Srt c Z/\∀ x,x∈Z↔(x∈X∨x∈Y)
theorem Mg.doneL {X Y D A:List α} (h:Mg c X Y D A []):UnK c X Y (D++A):=
 ⟨List.pairwise_append.2 ⟨h.sd,h.sa,h.da⟩,fun x=>by rw [<- h.all x];simp⟩
theorem Mg.doneR {X Y D B:List α} (h:Mg c X Y D [] B):UnK c X Y (D++B):=h.symm.doneL
end
/-! ### records -/
def pi (x y:UInt8):Int:=if x < y then -1 else if y < x then 1 else 0
theorem zeS:Tot pi:=by
 refine ⟨fun x y=>?_,fun x y=>?_,fun x y=>?_,fun x y z=>?_⟩ <;> simp only [pi,UInt8.lt_iff_toNat_lt]
 ·split
  ·simp
  ·split <;> simp
 ·split <;> split <;> (first | omega | rfl)
 ·constructor
  ·intro h
   split at h
   ·omega
   ·split at h
    ·omega
    ·exact UInt8.toNat_inj.1 (by omega)
  ·rintro rfl;simp
 ·intro h1 h2
  split at h1 <;> split at h2 <;> split <;> (try split) <;> (try split at h1) <;> (try split at h2) <;> omega
theorem zfF:∀ a b:List UInt8,Lib.compareBytes a b=lex pi a b
 | [],[]=>rfl
 | [],_ :: _=>rfl
 | _ :: _,[]=>rfl
 | a :: x,b :: y=>by
  have ih:=zfF x y;simp only [Lib.compareBytes,lex,pi];by_cases h:a < b
  ·simp [h]
  ·by_cases h2:b < a
   ·simp [h,h2]
   ·simp [h,h2,ih]
theorem zeT (a b:ByteArray):eH a b=lex pi a.data.toList b.data.toList:=zfF _ _
theorem zdI {a b:ByteArray} (h:a.data.toList=b.data.toList):a=b:=by
 obtain ⟨⟨x⟩⟩:=a;obtain ⟨⟨y⟩⟩:=b;simp at h;rw [h]
theorem y6:Tot eH:=by
 have t:=zeS.lex;refine ⟨fun x y=>?_,fun x y=>?_,fun x y=>?_,fun x y z=>?_⟩ <;> simp only [zeT]
 ·exact t.rng _ _
 ·exact t.neg _ _
 ·exact ⟨fun h=>zdI ((t.eq _ _).1 h),fun h=>by rw [h];exact (t.eq _ _).2 rfl⟩
 ·exact t.tr _ _ _
def rck (r:Rc):Rp:=(r.s,r.p.P)
theorem yI (L:List Rc):plR L=L.map rck:=rfl
def ck (x y:Rp):Int:=if eH x.1 y.1=0 then dJ x.2 y.2 else eH x.1 y.1
theorem kT:Tot ck:=Tot.both (f:=Prod.fst) (g:=Prod.snd) y6 zeU (fun _ _ h1 h2=>Prod.ext h1 h2)
theorem zaW {a b:Rc} {z:Int} (ha:af a.p.P) (hb:af b.p.P) (h:lh a b z):z=ck (rck a) (rck b):=by
 have e:gK a.p.P b.p.P (dJ a.p.P b.p.P):=⟨_,_,zz.2 ha,zz.2 hb,rfl⟩;unfold ck;rcases h with ⟨h1,h2⟩ | ⟨h1,h2⟩
 ·rw [if_neg (show ¬ eH (rck a).1 (rck b).1=0 from h1)];exact h2
 ·rw [if_pos (show eH (rck a).1 (rck b).1=0 from h1)];exact h2.unique e
theorem zgc {a b:Rc} (ha:af a.p.P) (hb:af b.p.P):lh a b (ck (rck a) (rck b)):=by
 by_cases h:eH a.s b.s=0
 ·refine .inr ⟨h,?_⟩;unfold ck;rw [if_pos (show eH (rck a).1 (rck b).1=0 from h)];exact ⟨_,_,zz.2 ha,zz.2 hb,rfl⟩
 ·refine .inl ⟨h,?_⟩;unfold ck;rw [if_neg (show ¬ eH (rck a).1 (rck b).1=0 from h)];rfl
theorem jZ {L:List Rc} {j:Nat} (h:j < L.length):L.getD j rc0∈L:=by
 rw [List.getD_eq_getElem?_getD,List.getElem?_eq_getElem h];exact List.getElem_mem h
theorem vR {L:List Rc} {j:Nat} (h:j < L.length):L.getD j rc0=L[j]:=by
 rw [List.getD_eq_getElem?_getD,List.getElem?_eq_getElem h];rfl
theorem ji {L:List Rc}:OkR L L.length↔(∀ r∈L,aM r)/\Srt ck (plR L):=by
 constructor
 ·intro h
  have hr:∀ r∈L,aM r:=fun r hr=>by
   obtain ⟨j,hj,rfl⟩:=List.getElem_of_mem hr;rw [<- vR hj];exact (h j hj).1
  refine ⟨hr,?_⟩
  have step:∀ k,∀ i,(hk:i+k+1 < L.length) -> ck (rck L[i]) (rck L[i+k+1]) < 0:=by
   intro k
   have one:∀ i,(hi:i+1 < L.length) -> ck (rck L[i]) (rck L[i+1]) < 0:=fun i hi=>by
    obtain ⟨z,hz,aq⟩:=(h (i+1) hi).2 (by omega);rw [vR hi,show i+1 - 1=i from rfl,vR (by omega)] at hz;rw [<- zaW (hr _ (List.getElem_mem _)).2.1 (hr _ (List.getElem_mem _)).2.1 hz];exact aq
   induction k with
   | zero=>intro i hk;exact one i (by omega)
   | succ k ih =>
    intro i hk;have h1:=ih i (by omega);have h2:=one (i+k+1) (by omega);exact kT.lt h1 (Int.le_of_lt h2)
  unfold Srt;rw [yI,List.pairwise_map,List.pairwise_iff_getElem];intro i j hi hj hij;obtain ⟨k,rfl⟩:∃ k,j=i+k+1:=⟨j - i - 1,by omega⟩;exact step k i hj
 ·rintro ⟨hr,hs⟩ j hj;unfold Srt at hs;rw [yI,List.pairwise_map,List.pairwise_iff_getElem] at hs;refine ⟨hr _ (jZ hj),fun h0=>?_⟩;rw [vR hj,vR (by omega)];exact ⟨_,zgc (hr _ (List.getElem_mem _)).2.1 (hr _ (List.getElem_mem _)).2.1,hs (j - 1) j (by omega) hj (by omega)⟩
def gS (L M F:List Rc):Prop:=UnK ck (plR L) (plR M) (plR F)/\∀ r∈F,aM r
theorem gS.ok {L M F:List Rc} (h:gS L M F):OkR F F.length:=ji.2 ⟨h.2,h.1.1⟩
theorem vP {r r':Rc} (h:aM r) (e:rck r'=rck r):aM r':=by
 have e1:r'.s=r.s:=congrArg Prod.fst e;have e2:r'.p.P=r.p.P:=congrArg Prod.snd e;exact ⟨by rw [e1];exact h.1,by rw [e2];exact h.2⟩
end
section
open Go.RowKit Go.Maps Go.Sort
structure Hs where
 o:Option Addr
 n:Nat
 c:Nat
def hs0:Hs:=⟨none,0,0⟩
abbrev HsV (s:Hs):Value:=.slice s.o s.n s.c
def RSl (v:Value):Option (DataW Hs × List MemPlace):=
 match v with
 | .slice o n c=>some (.held ⟨o,n,c⟩,[])
 | _=>none
theorem zfG (s:Hs):RSl (HsV s)=some (.held s,[]):=rfl
theorem zgp {v:Value} {s:Hs} {ps:List MemPlace} (h:RSl v=some (.held s,ps)):v=HsV s:=by
 unfold RSl at h
 split at h
 ·simp at h;obtain ⟨rfl,_⟩:=h;rfl
 ·simp at h
def MpS (D:DataW Hs) (K:ByteArray -> Prop) (f:ByteArray -> Hs):Prop:=(∀ s:ByteArray,has D (.string s.data.toList)=true↔K s)/\∀ s:ByteArray,D.atKey (.string s.data.toList) (.held hs0) = .held (f s)
theorem zc3:MpS (.map []) (fun _=>False) (fun _=>hs0):=⟨fun s=>by simp [has],fun s=>rfl⟩
theorem za7 {a b:ByteArray} (h:(Lit.string a.data.toList) = .string b.data.toList):a=b:=by
 cases a;cases b;simp at h;simp [h]
theorem zem {D:DataW Hs} {K:ByteArray -> Prop} {f:ByteArray -> Hs} (h:MpS D K f) (hm:IsMap D) (k:ByteArray) (x:Hs) (g:ByteArray -> Hs) (hg:g k=x) (hf:∀ s,s≠k -> g s=f s) :
  MpS (D.put (.string k.data.toList) (.held x)) (fun s=>s=k∨K s) g:=by
 refine ⟨fun s=>?_,fun s=>?_⟩
 ·by_cases hs:k=s
  ·subst hs;rw [has_put_same hm (k:=.string k.data.toList) (show WideAt.IsKeyLit (.string k.data.toList) from trivial)];exact ⟨fun _=>.inl rfl,fun _=>rfl⟩
  ·rw [has_put_other (fun he=>hs (za7 he).symm),h.1 s];exact ⟨fun h=>.inr h,fun h=>h.resolve_left (fun e=>hs e.symm)⟩
 ·by_cases hs:k=s
  ·subst hs;rw [atKey_put_same hm (k:=.string k.data.toList) (show WideAt.IsKeyLit (.string k.data.toList) from trivial),hg]
  ·rw [atKey_put_other (fun he=>hs (za7 he).symm),h.2 s,hf s (fun e=>hs e.symm)]
theorem DU {P:Program} {k:TypeId} {R:Value -> Option (DataW Hs × List MemPlace)} {w:World} {b n:Nat} {D:DataW Hs} {S:ByteArray -> Prop} {f:ByteArray -> Hs} (cp:w.ownsMap P k R b n D) (K:Keyed P k) (hk:P.underlying k=some .string) (hm:MpS D S f)
  {ss:List (List UInt8)} (hp:ss.Perm (strKeys D)):ss.Nodup/\∀ x:List UInt8,x∈ss↔S ⟨x.toArray⟩:=by
 obtain ⟨es,hD,Lx,_⟩:=cp.entries K;obtain ⟨es',Iw,Ll⟩:=cp.keysOf
 obtain rfl:es=es':=by rw [hD] at Iw;simpa using Iw
 subst hD
 have EG:∀ p∈es,∃ x,p.1 = .string x:=fun p hp=>by obtain ⟨v,hv⟩:=Ll p hp;obtain ⟨x,_,hx,_⟩:=Maps.keyOf_str hk hv;exact ⟨x,hx⟩
 have Eb:(strKeys (.map es)).Nodup:=by
  show (es.map fun p=>strOf p.1).Nodup
  refine List.pairwise_map.2 (Lx.imp_of_mem fun {p q} tW hq' aT e=>aT ?_);obtain ⟨a,ha⟩:=EG p tW;obtain ⟨b,hb⟩:=EG q hq';rw [ha,hb] at e ⊢;exact congrArg _ e
 have Gc:∀ x,x∈strKeys (.map es)↔has (.map es) (.string x)=true:=fun x=>by
  rw [has_eq,List.any_eq_true]
  show x∈es.map (fun p=>strOf p.1)↔_
  rw [List.mem_map];constructor
  ·rintro ⟨p,tW,rfl⟩;obtain ⟨a,ha⟩:=EG p tW;exact ⟨p,tW,by rw [ha];simp [Lit.sameKey,strOf]⟩
  ·rintro ⟨p,tW,hs⟩;obtain ⟨a,ha⟩:=EG p tW;rw [ha] at hs;exact ⟨p,tW,by rw [ha];simpa [Lit.sameKey,strOf] using hs⟩
 refine ⟨hp.nodup_iff.2 Eb,fun x=>?_⟩;rw [hp.mem_iff,Gc x];exact hm.1 ⟨x.toArray⟩
end
section
open Go.RowKit Go.Maps Go.Sort
variable {P : Program} {kt et : TypeId} {size B : Nat} {w W W2 : World} {b k : Nat} {K : ByteArray -> Prop} {f : ByteArray -> Hs} {X : ByteArray -> List Value}
structure MRo (P:Program) (kt et:TypeId) (size B:Nat) (w W:World) (b k:Nat) (K:ByteArray -> Prop) (f:ByteArray -> Hs) (X:ByteArray -> List Value):Prop where
 map:∃ D,W.ownsMap P kt RSl b k D/\MpS D K f
 rows:∀ s,W.ownsRow B et size (HsV (f s)) (f s).n (X s)
 apart:∀ s t,s≠t -> ∀ g,(HsV (f s)).ownBlock=some g -> (HsV (f t)).ownBlock≠some g
 below:Below w.heap.size w W
 hb:w.heap.size <= b/\b < B/\B <= W.heap.size
theorem MRo.start (w:World):MRo P kt et size (w.heap.size+1) w (w.alloc (.map #[] 0)) w.heap.size 0 (fun _=>False) (fun _=>hs0) (fun _=>[]):=
 ⟨⟨_,World.ownsMap_made _ _ _ _,zc3⟩,fun _=>World.ownsRow_nil _ _ _ _,fun _ _ _ g h=>(by cases h),(Below.refl _ _).alloc (Nat.le_refl _) _,Nat.le_refl _,Nat.lt_succ_self _,by simp⟩
theorem xU (h:Below W.heap.size W W2):W.grownBy W2 none:=⟨h.os,h.tape,h.output,h.size,fun k hk _=>h.block k hk⟩
theorem MRo.later (M:MRo P kt et size B w W b k K f X) (h:Below W.heap.size W W2):MRo P kt et size B w W2 b k K f X:=by
 obtain ⟨D,hD,hM⟩:=M.map
 have aq:b < W.heap.size:=by have:=M.hb;omega
 refine ⟨⟨D,?_,hM⟩,fun s=>(M.rows s).kept (xU h) ?_,M.apart,M.below.trans (h.mono M.below.size),M.hb.1,M.hb.2.1,Nat.le_trans M.hb.2.2 h.size⟩
 ·obtain ⟨es,c,h1,h2⟩:=hD;exact ⟨es,c,(h.block b aq).trans h1,h2⟩
 ·cases (HsV (f s)).ownBlock with
  | none=>exact .inl rfl
  | some g=>exact .inr (by simp)
theorem MRo.look (M:MRo P kt et size B w W b k K f X) (hK:Keyed P kt) (hk:P.underlying kt=some .string) {t st:TypeId} (ht:P.underlying t=some (.map kt st)) (hz:(zeroValue st).run P W = .ok (HsV hs0) W) (s:ByteArray) (hs:s.size <= maxLen) :
  (Instr.lookup t (.map (some b)) (.string s) false).run P W = .ok (HsV (f s)) W:=by
 obtain ⟨D,hD,hM⟩:=M.map;obtain ⟨v,ps,hr,hv⟩:=hD.lookup hK ht hz (zfG hs0) (Go.WideMaps.keyOf_string_mk hk hs);rw [hM.2 s] at hv;rw [hr,zgp hv]
structure MRm (P:Program) (kt et:TypeId) (size B:Nat) (w W:World) (b k:Nat) (K:ByteArray -> Prop) (f:ByteArray -> Hs) (X:ByteArray -> List Value) (s:ByteArray) (x:Hs) (Y:List Value):Prop where
 map:∃ D,W.ownsMap P kt RSl b k D/\MpS D K f
 row:W.ownsRow B et size (HsV x) x.n Y
 rows:∀ t,t≠s -> W.ownsRow B et size (HsV (f t)) (f t).n (X t)
 apart:∀ t u,t≠u -> ∀ g,(HsV (f t)).ownBlock=some g -> (HsV (f u)).ownBlock≠some g
 apartS:∀ t,t≠s -> ∀ g,(HsV (f t)).ownBlock=some g -> (HsV x).ownBlock≠some g
 below:Below w.heap.size w W
 hb:w.heap.size <= b/\b < B/\B <= W.heap.size
theorem MRo.app (M:MRo P kt et size B w W b k K f X) (s:ByteArray) {st ty:TypeId} {i:TypeInfo} {z:Value} {bytes:Nat} (cr:P.underlying st=some (.slice et)) (hi:P.info? et=some i) (hz:i.zero=some z) (hsize:i.size=size) (hby:i.bytes=bytes) (hzs:z.cells.size=size) (eE:0 < size)
  (a:Addr) (c:Nat) (news:List Value) (hl:news.length=size) (hnews:∀ j u,news[j]? = some u -> W.cell? (a.add j)=some u) (h1:∀ u∈news,u.oneCell'=true) (h63:(f s).n+1 <= maxLen) (hbytes:((f s).n+1) * bytes <= 140737488355328) :
  ∃ g c2 W2,(Builtin.append_ #[st,st] ty #[HsV (f s),.slice (some a) 1 c]).run P W = .ok (.slice (some ⟨g,0,none⟩) ((f s).n+1) c2) W2/\MRm P kt et size B w W2 b k K f X s ⟨some ⟨g,0,none⟩,(f s).n+1,c2⟩ (X s++news)/\∀ q,q < W.heap.size -> (HsV (f s)).ownBlock≠some q -> W2.heap[q]? = W.heap[q]?:=by
 obtain ⟨v',W2,cO,cp,aC,_,fj⟩:=run_append_own_at (P:=P) W B st ty et i z size bytes cr hi hz hsize hby hzs eE (HsV (f s)) (f s).n (X s) (M.rows s) a 1 c news (by omega) hnews h1 h63 hbytes M.hb.2.2;rcases cp.2 with ⟨h0,eU⟩ | ⟨g,cap2,cur,hv,dV,dB,hnc,fw,hcsz,htake⟩
 ·omega
 ·subst hv;obtain ⟨D,hD,hM⟩:=M.map
  have aq:b < W.heap.size:=by have:=M.hb;omega
  have dv:∀ k,(HsV (f s)).ownBlock=some k -> B <= k:=fun k hk=>((M.rows s).lt k hk).1;refine ⟨g,cap2,W2,cO,⟨⟨D,?_,hM⟩,cp,fun t ht=>(M.rows t).kept aC ?_,M.apart,fun t ht q hq e=>?_,M.below.grown aC M.below.size (fun k hk=>by have:=dv k hk;have:=M.hb;omega),M.hb.1,M.hb.2.1,Nat.le_trans M.hb.2.2 aC.size⟩,fun q hq hn=>aC.block q hq (fun e=>hn e.symm)⟩
  ·obtain ⟨es,c,h1,h2⟩:=hD;exact ⟨es,c,(aC.block b aq (fun e=>by have:=dv b e.symm;have:=M.hb;omega)).trans h1,h2⟩
  ·cases ho:(HsV (f t)).ownBlock with
   | none=>exact .inl rfl
   | some q=>exact .inr (fun e=>M.apart t s ht q ho e.symm)
  ·have nE:=((M.rows t).lt q hq).2;rcases fj with h | h
   ·rw [h] at e;exact M.apart t s ht q hq e
   ·rw [h] at e;have:=Option.some.inj e;omega
theorem MRm.put {s:ByteArray} {x:Hs} {Y:List Value} (M:MRm P kt et size B w W b k K f X s x Y) (hK:Keyed P kt) (hk:P.underlying kt=some .string) {t st:TypeId} (ht:P.underlying t=some (.map kt st)) (hs:s.size <= maxLen) (hn:k < maxLen) :
  ∃ W2,(Instr.mapUpdate t (.map (some b)) (.string s) (HsV x)).run P W = .ok () W2/\MRo P kt et size B w W2 b (k+1) (fun u=>u=s∨K u) (fun u=>if u=s then x else f u) (fun u=>if u=s then Y else X u)/\∀ q,q < W.heap.size -> q≠b -> W2.heap[q]? = W.heap[q]?:=by
 obtain ⟨D,hD,hM⟩:=M.map;have Gk:=hD.isMap;obtain ⟨W2,hr,ho,hg⟩:=hD.update hK ht hn (Go.WideMaps.keyOf_string_mk hk hs) (zfG x)
 have aT:∀ (v:Value) (n:Nat) (xs:List Value),W.ownsRow B et size v n xs -> v.ownBlock=none∨v.ownBlock≠some b:=fun v n xs h=>by
  cases hv:v.ownBlock with
  | none=>exact .inl rfl
  | some q=>exact .inr (fun e=>by have:=(h.lt q hv).1;have:=M.hb;have:=Option.some.inj e;omega)
 refine ⟨W2,hr,⟨⟨_,ho,zem hM Gk s x _ (if_pos rfl) (fun u hu=>if_neg hu)⟩,fun u=>?_,fun u v huv g dx=>?_,M.below.grown hg M.below.size (fun j hj=>by cases hj;exact M.hb.1),M.hb.1,M.hb.2.1,Nat.le_trans M.hb.2.2 hg.size⟩,fun q hq hn=>hg.block q hq (fun e=>hn (Option.some.inj e))⟩
 ·by_cases hu:u=s
  ·simp only [if_pos hu];exact M.row.kept hg (aT _ _ _ M.row)
  ·simp only [if_neg hu];exact (M.rows u hu).kept hg (aT _ _ _ (M.rows u hu))
 ·by_cases hu:u=s
  ·have hv:¬ v=s:=fun e=>huv (hu.trans e.symm);simp only [if_pos hu,if_neg hv] at dx ⊢;exact fun e=>M.apartS v hv g e dx
  ·by_cases hv:v=s
   ·simp only [if_neg hu,if_pos hv] at dx ⊢;exact M.apartS u hu g dx
   ·simp only [if_neg hu,if_neg hv] at dx ⊢;exact M.apart u v huv g dx
theorem qe {W W2:World} {ops:Array Oper} {o:Oper} {a:Act} {K:Act -> World -> Prop} {Q:Exit -> Act -> World -> Prop} {E:Prop} {v1 v2 v':Value} {st:TypeId} (hgd:o.guard=none) (s x:Operand) (ho:o.op = .call { callee:=.builtin .append,args:=#[s,x],argTypes:=#[st,st] })
  (hs:a.eval s=v1) (hx:a.eval x=v2) (cO:(Builtin.append_ #[st,st] o.type #[v1,v2]).run P W = .ok v' W2) (hK:K (a.put o.dst v') W2) :
  if Region.wanted o (yielded ops a.tmps)=true then Oper.wp P o a W K Q else E:=by
 have hw:Region.wanted o (yielded ops a.tmps)=true:=by simp [Region.wanted,hgd]
 rw [if_pos hw];unfold Oper.wp;simp [execOp,ho,resolve,invoke,builtin,hs,hx,cO,Result.andThen];exact hK
theorem xP {W W2:World} {ops:Array Oper} {rest:List Oper} {o:Oper} {a:Act} {Q:Exit -> Act -> World -> Prop} {v1 v2 v':Value} {st:TypeId} (hgd:o.guard=none) (s x:Operand) (ho:o.op = .call { callee:=.builtin .append,args:=#[s,x],argTypes:=#[st,st] })
  (hs:a.eval s=v1) (hx:a.eval x=v2) (cO:(Builtin.append_ #[st,st] o.type #[v1,v2]).run P W = .ok v' W2) (hK:wpList P ops Q rest (a.put o.dst v') W2):wpList P ops Q (o :: rest) a W:=
 wpList_plain hgd fun K hKK=>by
  unfold Oper.wp;simp [execOp,ho,resolve,invoke,builtin,hs,hx,cO,Result.andThen];exact hKK _ _ hK
end
section
open Go.RowKit Go.Maps Go.Sort
def pvs (L:List Pv):List Value:=(L.map (fun p=>(PC p).toList)).flatten
theorem yd (L R:List Pv):pvs (L++R)=pvs L++pvs R:=by simp [pvs]
theorem zcS (p:Pv):pvs [p]=(PC p).toList:=by simp [pvs]
theorem jJ (L:List Pv):(pvs L).length=L.length * 2:=by
 induction L with
 | nil=>rfl
 | cons a L ih=>have:pvs (a :: L)=(PC a).toList++pvs L:=rfl;rw [this,List.length_append,ih];simp [PC];omega
theorem zgB (L:List Pv) (t j:Nat) (ht:t < L.length) (hj:j < 2):(pvs L)[t * 2+j]? = (PC L[t]).toList[j]?:=by
 induction L generalizing t with
 | nil=>simp at ht
 | cons a L ih =>
  have e:pvs (a :: L)=(PC a).toList++pvs L:=rfl
  cases t with
  | zero=>rw [e,List.getElem?_append_left (by simp [PC];omega)];simp
  | succ t =>
   rw [e,List.getElem?_append_right (by simp [PC];omega)];have h:=ih t (by simpa using ht)
   have e4:(t+1) * 2+j - (PC a).toList.length=t * 2+j:=by simp [PC];omega
   rw [e4,h];simp
theorem zbj (p:Pv):∀ v∈(PC p).toList,v.oneCell'=true:=by
 intro v hv;simp [PC] at hv;rcases hv with rfl | rfl <;> rfl
theorem lV:(Tryz.prog.info? 26).map (fun i=>(i.zero,i.size,i.bytes))=some (some (.agg #[.slice none 0 0,.slice none 0 0]),2,48):=by kernel_rfl
theorem zaI {W:World} {B:Nat} {h:Hs} {L:List Pv} (hr:W.ownsRow B 26 2 (HsV h) h.n (pvs L)) (hs:∀ p∈L,ak W p):eT W h.o h.n L:=by
 have hl:L.length=h.n:=by have:=hr.1;rw [jJ] at this;omega
 obtain ⟨o,n,c⟩:=h;rcases hr.2 with ⟨h0,eU⟩ | ⟨g,cap,cur,hv,dV,dB,hnc,fw,hcsz,htake⟩
 ·refine ⟨hl,fun _=>eU,fun ad e t p hp=>?_,hs⟩;have:=(List.getElem?_eq_some_iff.1 hp).1;omega
 ·simp only [Value.slice.injEq] at hv;obtain ⟨rfl,-,rfl⟩:=hv;refine ⟨hl,fun e=>(by cases e),fun ad e t p hp=>?_,hs⟩;obtain rfl:(⟨g,0,none⟩:Addr)=ad:=Option.some.inj e;obtain ⟨ht,Mu⟩:=List.getElem?_eq_some_iff.1 hp
  have hc:∀ j,j < 2 -> W.cell? ⟨g,t * 2+j,none⟩=(PC p).toList[j]?:=fun j hj=>by
   have h1:=World.ownsRow.cellAt hr (t * 2+j) (by dsimp only at hl ⊢;omega);rw [h1,zgB L t j ht hj,Mu]
  refine ⟨?_,?_⟩
  ·rw [Addr.add_lit,Nat.zero_add];exact hc 0 (by omega)
  ·rw [Addr.add_lit,Addr.add_lit,Nat.zero_add];exact hc 1 (by omega)
theorem zgI {w W:World} {b B k:Nat} {K:ByteArray -> Prop} {f:ByteArray -> Hs} {X:ByteArray -> List Value} (M:MRo Tryz.prog 9 26 2 B w W b k K f X) (s:ByteArray) (p:Pv) (hn:(f s).n <= 2900000000000) :
  ∃ g c2 W2,(Builtin.append_ #[110,110] 110 #[HsV (f s),.slice (some ⟨W.heap.size,0,none⟩) 1 1]).run Tryz.prog (W.alloc (.cells (PC p) 26)) = .ok (.slice (some ⟨g,0,none⟩) ((f s).n+1) c2) W2/\MRm Tryz.prog 9 26 2 B w W2 b k K f X s ⟨some ⟨g,0,none⟩,(f s).n+1,c2⟩ (X s++(PC p).toList)/\∀ q,q < W.heap.size -> (HsV (f s)).ownBlock≠some q -> W2.heap[q]? = W.heap[q]?:=by
 obtain ⟨i0,hi,dn,dm,ef⟩:=info_parts lV
 obtain ⟨g,c2,W2,h1,h2,h3⟩:=(M.later (ze W (.cells (PC p) 26))).app s (ty:=110) Tryz.underlying110 hi dn dm ef (by simp [Value.cells]) (by decide) ⟨W.heap.size,0,none⟩ 1 (PC p).toList rfl (fun j u hj=>by
  rw [Addr.add_lit,Nat.zero_add,World.cell?_alloc_new]
  simpa using hj) (zbj p) (by unfold maxLen;omega) (by omega)
 exact ⟨g,c2,W2,h1,h2,fun q hq hn=>(h3 q (by simp;omega) hn).trans (Below.heap_alloc W _ q hq)⟩
structure gH (B:Nat) (w W:World) (h:Hs) (L:List Pv):Prop where
 own:W.ownsRow B 26 2 (HsV h) h.n (pvs L)
 src:∀ p∈L,ak W p
 below:Below w.heap.size w W
 hB:w.heap.size <= B/\B <= W.heap.size
theorem gH.nil (w:World):gH w.heap.size w w hs0 []:=⟨World.ownsRow_nil _ _ _ _,fun p h=>(by cases h),Below.refl _ _,Nat.le_refl _,Nat.le_refl _⟩
theorem gH.later {B:Nat} {w W W2:World} {h:Hs} {L:List Pv} (O:gH B w W h L) (hb:Below W.heap.size W W2):gH B w W2 h L:=by
 refine ⟨O.own.kept (xU hb) ?_,fun p hp=>(O.src p hp).below hb,O.below.trans (hb.mono O.below.size),O.hB.1,Nat.le_trans O.hB.2 hb.size⟩
 cases (HsV h).ownBlock with
 | none=>exact .inl rfl
 | some g=>exact .inr (by simp)
theorem gH.row {B:Nat} {w W:World} {h:Hs} {L:List Pv} (O:gH B w W h L):eT W h.o h.n L:=zaI O.own O.src
end
section
open Go.RowKit Go.Maps Go.Sort
theorem xI {W W':World} {p:Pv} {g:Option Nat} (h:ak W p) (hf:∀ k,g=some k -> df p k) (hk:∀ q,q < W.heap.size -> some q≠g -> W'.heap[q]? = W.heap[q]?):ak W' p:=by
 have ev:∀ ad,p.vo=some ad -> ∀ t,t < p.vn -> W'.cell? (ad.add t)=W.cell? (ad.add t):=fun ad e t ht=>by
  have hc:=h.vec.2.2 ad e t ht;have hl:=World.block_lt_of_cell? _ _ hc;rw [zp] at hl;unfold World.cell?;rw [zp,hk _ hl (fun eg=>(hf _ eg.symm).1 (by omega) ad e rfl)]
 have ec:∀ ad,p.co=some ad -> ∀ t,t < p.cn -> ∀ j,W'.cell? (ad.add j)=W.cell? (ad.add j):=fun ad e t ht j=>by
  have hl:=World.block_lt_of_cell? _ _ (h.cloud.cell ad e t ht).c0;rw [zp] at hl;unfold World.cell?;rw [zp,hk _ hl (fun eg=>(hf _ eg.symm).2 (by omega) ad e rfl)]
 refine ⟨⟨h.vec.1,h.vec.2.1,fun ad e t ht=>by rw [ev ad e t ht];exact h.vec.2.2 ad e t ht⟩,⟨h.cloud.len,h.cloud.nil,fun ad e t ht=>?_,h.cloud.big,h.cloud.cap⟩,h.big⟩;have A:=h.cloud.cell ad e t ht;have e':=ec ad e t ht;exact ⟨by rw [e'];exact A.c0,by have:=A.c1;rw [qt] at this ⊢;rw [e'];exact this,by have:=A.c2;rw [qt] at this ⊢;rw [e'];exact this⟩
def dU (h:Hs) (p:Pv):Prop:=∀ k,(HsV h).ownBlock=some k -> df p k
theorem gH.app {B:Nat} {w W:World} {h:Hs} {L:List Pv} (O:gH B w W h L) (hF:∀ p∈L,dU h p) (p:Pv) (hp:ak W p) (hf:dU h p) (hn:h.n <= 2900000000000) :
  ∃ g c2 W2,(Builtin.append_ #[110,110] 110 #[HsV h,.slice (some ⟨W.heap.size,0,none⟩) 1 1]).run Tryz.prog (W.alloc (.cells (PC p) 26)) = .ok (.slice (some ⟨g,0,none⟩) (h.n+1) c2) W2/\gH B w W2 ⟨some ⟨g,0,none⟩,h.n+1,c2⟩ (L++[p])/\(∀ q∈L++[p],dU ⟨some ⟨g,0,none⟩,h.n+1,c2⟩ q)/\(∀ q,q < W.heap.size -> (HsV h).ownBlock≠some q -> W2.heap[q]? = W.heap[q]?):=by
 obtain ⟨i0,hi,dn,dm,ef⟩:=info_parts lV;have b1:=ze W (.cells (PC p) 26);have O1:=O.later b1
 obtain ⟨v',W2,cO,cp,aC,_,fj⟩:=run_append_own_at (P:=Tryz.prog) (W.alloc (.cells (PC p) 26)) B 110 110 26 i0 (.agg #[.slice none 0 0,.slice none 0 0]) 2 48 Tryz.underlying110 hi dn dm ef (by simp [Value.cells]) (by decide) (HsV h) h.n (pvs L) O1.own ⟨W.heap.size,0,none⟩ 1 1 (PC p).toList rfl (fun j u hj=>by
  rw [Addr.add_lit,Nat.zero_add,World.cell?_alloc_new]
  simpa using hj) (zbj p) (by unfold maxLen;omega) (by omega) O1.hB.2
 rcases cp.2 with ⟨h0,eU⟩ | ⟨g,cap2,cur,hv,dV,dB,hnc,fw,hcsz,htake⟩
 ·omega
 ·subst hv
  have ch:∀ q∈L++[p],ak (W.alloc (.cells (PC p) 26)) q/\dU h q:=fun q hq=>by
   rcases List.mem_append.1 hq with hq | hq
   ·exact ⟨O1.src q hq,hF q hq⟩
   ·obtain rfl:q=p:=by simpa using hq
    exact ⟨hp.below b1,hf⟩
  have dv:∀ k,(HsV h).ownBlock=some k -> B <= k:=fun k hk=>(O1.own.lt k hk).1;refine ⟨g,cap2,W2,cO,⟨by rw [yd,zcS];exact cp,fun q hq=>xI (ch q hq).1 (fun k hk=>(ch q hq).2 k hk) (fun k hk hn=>aC.block k hk hn),O1.below.grown aC O1.below.size (fun k hk=>by have:=dv k hk;have:=O.hB;omega),O.hB.1,Nat.le_trans O1.hB.2 aC.size⟩,fun q hq k hk=>?_,fun q hq hn=>(aC.block q (by simp;omega) (fun e=>hn e.symm)).trans (Below.heap_alloc W _ q hq)⟩;rcases fj with e | e
  ·exact (ch q hq).2 k (by rw [<- e];exact hk)
  ·rw [e] at hk;have:=Option.some.inj hk;exact df.old (ch q hq).1 (by omega)
/-! ### records -/
def rvs (L:List Rc):List Value:=(L.map (fun r=>(ReC (mkR r)).toList)).flatten
theorem wS (L R:List Rc):rvs (L++R)=rvs L++rvs R:=by simp [rvs]
theorem zfM (r:Rc):rvs [r]=(ReC (mkR r)).toList:=by simp [rvs]
theorem kB (L:List Rc):(rvs L).length=L.length * 3:=by
 induction L with
 | nil=>rfl
 | cons a L ih=>have:rvs (a :: L)=(ReC (mkR a)).toList++rvs L:=rfl;rw [this,List.length_append,ih];simp [ReC];omega
theorem zfp (L:List Rc) (t j:Nat) (ht:t < L.length) (hj:j < 3):(rvs L)[t * 3+j]? = (ReC (mkR (L.getD t rc0))).toList[j]?:=by
 induction L generalizing t with
 | nil=>simp at ht
 | cons a L ih =>
  have e:rvs (a :: L)=(ReC (mkR a)).toList++rvs L:=rfl
  cases t with
  | zero=>rw [e,List.getElem?_append_left (by simp [ReC];omega)];simp [List.getD]
  | succ t =>
   rw [e,List.getElem?_append_right (by simp [ReC];omega)];have h:=ih t (by simpa using ht)
   have e4:(t+1) * 3+j - (ReC (mkR a)).toList.length=t * 3+j:=by simp [ReC];omega
   rw [e4,h];simp [List.getD]
theorem yE (r:Rc):∀ v∈(ReC (mkR r)).toList,v.oneCell'=true:=by
 intro v hv;simp [ReC] at hv;rcases hv with rfl | rfl | rfl <;> rfl
theorem fG:(Tryz.prog.info? 84).map (fun i=>(i.zero,i.size,i.bytes))=some (some (.agg #[.string ⟨#[]⟩,.slice none 0 0,.slice none 0 0]),3,64):=by kernel_rfl
structure aL (B:Nat) (w W:World) (h:Hs) (L:List Rc):Prop where
 own:W.ownsRow B 84 3 (HsV h) h.n (rvs L)
 ok:∀ r∈L,dp W r/\dU h r.p
 below:Below w.heap.size w W
 hB:w.heap.size <= B/\B <= W.heap.size
theorem aL.nil (w:World):aL w.heap.size w w hs0 []:=⟨World.ownsRow_nil _ _ _ _,fun p h=>(by cases h),Below.refl _ _,Nat.le_refl _,Nat.le_refl _⟩
theorem aL.later {B:Nat} {w W W2:World} {h:Hs} {L:List Rc} (O:aL B w W h L) (hb:Below W.heap.size W W2):aL B w W2 h L:=by
 refine ⟨O.own.kept (xU hb) ?_,fun p hp=>⟨(O.ok p hp).1.below hb,(O.ok p hp).2⟩,O.below.trans (hb.mono O.below.size),O.hB.1,Nat.le_trans O.hB.2 hb.size⟩
 cases (HsV h).ownBlock with
 | none=>exact .inl rfl
 | some g=>exact .inr (by simp)
theorem aL.app {B:Nat} {w W:World} {h:Hs} {L:List Rc} (O:aL B w W h L) (r:Rc) (hp:dp W r) (hf:dU h r.p) (hn:h.n <= 2199023255551) :
  ∃ g c2 W2,(Builtin.append_ #[27,27] 27 #[HsV h,.slice (some ⟨W.heap.size,0,none⟩) 1 1]).run Tryz.prog (W.alloc (.cells (ReC (mkR r)) 84)) = .ok (.slice (some ⟨g,0,none⟩) (h.n+1) c2) W2/\aL B w W2 ⟨some ⟨g,0,none⟩,h.n+1,c2⟩ (L++[r])/\(∀ q,q < W.heap.size -> (HsV h).ownBlock≠some q -> W2.heap[q]? = W.heap[q]?):=by
 obtain ⟨i0,hi,dn,dm,ef⟩:=info_parts fG;have b1:=ze W (.cells (ReC (mkR r)) 84);have O1:=O.later b1
 obtain ⟨v',W2,cO,cp,aC,_,fj⟩:=run_append_own_at (P:=Tryz.prog) (W.alloc (.cells (ReC (mkR r)) 84)) B 27 27 84 i0 (.agg #[.string ⟨#[]⟩,.slice none 0 0,.slice none 0 0]) 3 64 Tryz.underlying27 hi dn dm ef (by simp [Value.cells]) (by decide) (HsV h) h.n (rvs L) O1.own ⟨W.heap.size,0,none⟩ 1 1 (ReC (mkR r)).toList rfl (fun j u hj=>by
  rw [Addr.add_lit,Nat.zero_add,World.cell?_alloc_new]
  simpa using hj) (yE r) (by unfold maxLen;omega) (by omega) O1.hB.2
 rcases cp.2 with ⟨h0,eU⟩ | ⟨g,cap2,cur,hv,dV,dB,hnc,fw,hcsz,htake⟩
 ·omega
 ·subst hv
  have ch:∀ q∈L++[r],dp (W.alloc (.cells (ReC (mkR r)) 84)) q/\dU h q.p:=fun q hq=>by
   rcases List.mem_append.1 hq with hq | hq
   ·exact O1.ok q hq
   ·obtain rfl:q=r:=by simpa using hq
    exact ⟨hp.below b1,hf⟩
  have dv:∀ k,(HsV h).ownBlock=some k -> B <= k:=fun k hk=>(O1.own.lt k hk).1;refine ⟨g,cap2,W2,cO,⟨by rw [wS,zfM];exact cp,fun q hq=>⟨⟨xI (ch q hq).1.1 (fun k hk=>(ch q hq).2 k hk) (fun k hk hn=>aC.block k hk hn),(ch q hq).1.2⟩,fun k hk=>?_⟩,O1.below.grown aC O1.below.size (fun k hk=>by have:=dv k hk;have:=O.hB;omega),O.hB.1,Nat.le_trans O1.hB.2 aC.size⟩,fun q hq hn=>(aC.block q (by simp;omega) (fun e=>hn e.symm)).trans (Below.heap_alloc W _ q hq)⟩;rcases fj with e | e
  ·exact (ch q hq).2 k (by rw [<- e];exact hk)
  ·rw [e] at hk;have:=Option.some.inj hk;exact df.old (ch q hq).1.1 (by omega)
theorem aL.src {B:Nat} {w W:World} {h:Hs} {L:List Rc} (O:aL B w W h L) (hn:h.n <= 2199023255552):RcS W h.o h.n h.c L:=by
 have hl:L.length=h.n:=by have:=O.own.1;rw [kB] at this;omega
 have iE:∀ r∈L,dp W r:=fun r hr=>(O.ok r hr).1;have hr:=O.own;obtain ⟨o,n,c⟩:=h;rcases hr.2 with ⟨h0,eU⟩ | ⟨g,cap,cur,hv,dV,dB,hnc,fw,hcsz,htake⟩
 ·refine ⟨hl,fun _=>eU,fun ad e t ht=>?_,iE,hn⟩;omega
 ·simp only [Value.slice.injEq] at hv;obtain ⟨rfl,-,rfl⟩:=hv;refine ⟨hl,fun e=>(by cases e),fun ad e t ht=>?_,iE,hn⟩;obtain rfl:(⟨g,0,none⟩:Addr)=ad:=Option.some.inj e
  have hc:∀ j,j < 3 -> W.cell? ⟨g,t * 3+j,none⟩=(ReC (mkR (L.getD t rc0))).toList[j]?:=fun j hj=>by
   have h1:=World.ownsRow.cellAt hr (t * 3+j) (by dsimp only at ht ⊢;omega);rw [h1,zfp L t j (by omega) hj]
  refine ⟨?_,?_,?_⟩
  ·rw [Addr.add_lit,Nat.zero_add];exact hc 0 (by omega)
  ·rw [Addr.add_lit,Addr.add_lit,Nat.zero_add];exact hc 1 (by omega)
  ·rw [Addr.add_lit,Addr.add_lit,Nat.zero_add];exact hc 2 (by omega)
end
end Go.Proofs.YtcilfelgpmfehaaGreat
namespace Go.Proofs
open Go.Shelf
def Tryz.growRe_ren:Go.Shelf.Ren:=⟨fun | 4=>89 | n=>n,fun | 22=>27 | 25=>84 | 3=>3 | 4=>4 | 9=>9 | 20=>20 | 0=>0 | n=>n,fun | n=>n⟩
theorem Tryz.growRe:Go.Proofs.Lays8.n4 Tryz.prog Tryz.growRe_ren:={
 mixed:=by kernel_rfl
 f4:=⟨Tryz.f89.name,by decide,Tryz.func89.trans (congrArg some (by kernel_rfl))⟩
 t0:=Tryz.underlying0
 a0:=Tryz.isAgg0
 z0:=Tryz.sizeOf0
 v0:=Tryz.zeroValue0
 t3:=Tryz.underlying3
 a3:=Tryz.isAgg3
 z3:=Tryz.sizeOf3
 v3:=Tryz.zeroValue3
 t4:=Tryz.underlying4
 a4:=Tryz.isAgg4
 z4:=Tryz.sizeOf4
 v4:=Tryz.zeroValue4
 t9:=Tryz.underlying9
 a9:=Tryz.isAgg9
 z9:=Tryz.sizeOf9
 v9:=Tryz.zeroValue9
 t20:=Tryz.underlying20
 a20:=Tryz.isAgg20
 z20:=Tryz.sizeOf20
 v20:=Tryz.zeroValue20
 t22:=Tryz.underlying27
 a22:=Tryz.isAgg27
 z22:=Tryz.sizeOf27
 v22:=Tryz.zeroValue27 }
end Go.Proofs
