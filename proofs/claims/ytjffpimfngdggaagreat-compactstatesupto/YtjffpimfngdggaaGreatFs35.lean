/- BAq SXc SXl SXw ORo EFa LPl EHo LMe -/
import Derived.Test.YtjffpimfngdggaaGreatTk
import Derived.Test.YtjffpimfngdggaaGreatFs34
import Derived.Test.YtjffpimfngdggaaGreatFs28
import Derived.Deep.CutRange
import Derived.Test.YtjffpimfngdggaaGreatFs31
import Derived.Test.YtjffpimfngdggaaGreatFs19
import Derived.Test.YtjffpimfngdggaaGreatFs20
import Derived.Test.YtjffpimfngdggaaGreatFs09
import Derived.Test.YtjffpimfngdggaaGreatFs21
import Derived.Test.YtjffpimfngdggaaGreatFs10
import Derived.Sort.KeysCollected
import Derived.Maps.Ext
import Derived.Test.YtjffpimfngdggaaGreatFs18
set_option maxRecDepth 100000
set_option maxHeartbeats 6400000
namespace Go.Proofs.YtjffpimfngdggaaGreat
section
open Go.RowKit Go.Maps Go.Sort
attribute [local go_sem ↓] zr zq qd zZ
attribute [local go_sem] zI zU qi
theorem zbg {α : Type} [DecidableEq α]:∀ (l m:List α),l.Nodup -> (∀ x∈l,x∈m) -> l.length <= m.length
 | [],_,_,_=>Nat.zero_le _
 | x :: l,m,hn,hs=>by
  have h1:=List.nodup_cons.1 hn;have hx:=hs x List.mem_cons_self;have h2:=zbg l (m.erase x) h1.2 (fun y hy=>(List.mem_erase_of_ne (fun e=>h1.1 (by rw [<- e];exact hy))).2 (hs y (List.mem_cons_of_mem _ hy)));rw [List.length_erase_of_mem hx] at h2;have:=List.length_pos_of_mem hx;simp only [List.length_cons];omega
theorem zfs:∀ a:List UInt8,Lib.compareBytes a a=0
 | []=>by simp [Lib.compareBytes]
 | a :: x=>by
  have h0:¬ a < a:=UInt8.lt_irrefl a;simpa [Lib.compareBytes,h0] using zfs x
theorem zgL {R F:List Rc} (h:FoldOf R F):F.length <= R.length:=by
 have h1:=zbg (F.map (fun x=>x.s.data.toList)) (R.map (fun x=>x.s.data.toList)) (by
  refine List.pairwise_map.2 (h.1.imp fun {a b} hab e=>?_)
  have e2:a.s=b.s:=by cases ha:a.s;cases hb:b.s;rw [ha,hb] at e;simpa using e
  rw [e2] at hab
  exact absurd hab (by unfold cmpS;rw [zfs];decide)) (fun x hx=>by
  obtain ⟨f,hf,rfl⟩:=List.mem_map.1 hx;obtain ⟨r,hr,e⟩:=(h.2.1 f hf).1
  exact List.mem_map.2 ⟨r,hr,by rw [e]⟩)
 simpa using h1
theorem zcg {w w':World} {L:List K.En} {n:Nat} {ao:Option Addr} {c:Nat} (hn:L.length=n) (hs:∀ e∈L,e.sku.size <= maxLen) (hb:n <= 3518437208883) (O:K.OwnE w.heap.size w.heap.size w w' ao c L):K.ESrc w' ao n c L/\∀ ad,ao=some ad -> w.heap.size <= ad.block:=by
 have h:=O.src hs (by omega);rw [hn] at h;exact h
theorem yD (ao bo:Option Addr) (n cap m cap':Nat) (L:List K.En) (R:List Rc) (w:World) (hS:K.ESrc w ao n cap L) (hR:RcS w bo m cap' R) (hwt:∀ s,wt (ofS R s) <= 8796093022207) (hnm:m * (n+1) <= 8796093022207) :
  Calls Tryz.prog 54 #[.slice ao n cap,.slice bo m cap'] w fun x w'=>ApA w w' x L R m:=by
 have HS:=hide hS;have HR:=hide hR;have HW:=hide hwt;have HNM:=hide hnm;have HL:Hid (L.length=n/\n <= 3518437208883):=⟨hS.1,hS.2.2.2.2⟩;have hnb:=HL.out.2;have HM:Hid (R.length=m):=hR.len;clear hS hR hwt hnm;go_enter Tryz.func54,Tryz.ntmps54;go_wp2_with fail;refine (K.qD ao n cap L _ HS.out).mono ?_;rintro x w1 ⟨rfl,b1⟩;have HB1:=hide b1;have HS1:=hide (HS.out.below b1);have HR1:=hide (HR.out.below b1);clear b1 HS HR;rcases K.yz L with hc | hc;rotate_left
 ·have HE:Hid (ApA w w1 (.returned (.tuple #[.slice none 0 0,.int .i64 1])) L R m):=.inr ⟨fun h=>(by rw [hc] at h;cases h.1),_,_,_,rfl,K.ESrc.none _,HB1.out,fun ad h=>by cases h⟩;rw [hc];clear hc;go_wp2_with fail;go_ret2;exact HE.out
 ·rw [hc];have HC:=hide hc;clear hc;go_wp2_with fail;refine (zgM bo m cap' R _ HR1.out HW.out).mono ?_;rintro x w2 (⟨hO,⟨qo,qn,qc⟩,F,rfl,S2,b2,-,hF⟩ | ⟨hO,rfl,b2⟩);rotate_left
  ·have HE:Hid (ApA w w2 (.returned (.tuple #[.slice none 0 0,.int .i64 1])) L R m):=.inr ⟨fun h=>hO h.2,_,_,_,rfl,K.ESrc.none _,HB1.out.trans (b2.mono HB1.out.size),fun ad h=>by cases h⟩;clear hO b2;go_wp2_with fail;go_ret2;exact HE.out
  ·rw [show HsV ⟨qo,qn,qc⟩=Value.slice qo qn qc from rfl];replace S2:RcS w2 qo qn qc F:=S2;have HO:=hide hO;have HB2:=wTr HB1 b2;have HS2:=hide (HS1.out.below b2);have HF:=hide hF;have HFS:=hide S2;have HFl:Hid (F.length=qn):=S2.len;have hqb:=S2.big
   have HFm:Hid (qn <= m):=by show _ <= _;rw [<- HFl.out,<- HM.out];exact zgL hF
   clear hO b2 HS1 HB1 HR1 hF S2;by_cases hq0:qn=0
   ·have hqi:((qn:Int) == 0)=true:=by simp [hq0]
    have hF0:F=[]:=List.eq_nil_of_length_eq_zero (HFl.out.trans hq0)
    have HFr:Hid (L.filter (freeB R)=L):=by show _=_;exact zgG HC.out (hF0 ▸ HF.out)
    clear hF0
    cases ao with
    | none =>
     have h00:=HS2.out.2.1 rfl;obtain ⟨rfl,rfl⟩:=h00;go_wp2_with fail;refine (K.zfn _).mono ?_;rintro x w3 ⟨rfl,rfl⟩;have HE:Hid (ApA w w3 (.returned (.tuple #[.slice none 0 0,.int .i64 0])) L R m):=.inl ⟨HC.out,HO.out,none,0,0,rfl,by rw [HFr.out];exact HS2.out,HB2.out,fun ad h=>by cases h⟩;go_wp2_with fail;go_ret2;exact HE.out
    | some ad =>
     go_wp2_with fail;refine (K.zfo ad n cap L _ HS2.out).mono ?_;rintro x w3 ⟨a3,c3,rfl,O3⟩;have h3:=zcg HL.out.1 HS2.out.2.2.2.1 HL.out.2 O3;have HE:Hid (ApA w w3 (.returned (.tuple #[.slice a3 n c3,.int .i64 0])) L R m):=.inl ⟨HC.out,HO.out,a3,n,c3,rfl,by rw [HFr.out];exact h3.1,HB2.out.trans (O3.below.mono HB2.out.size),fun ad h=>Nat.le_trans HB2.out.size (h3.2 ad h)⟩;clear O3 h3;go_wp2_with fail;go_ret2;exact HE.out
   ·have hqi:((qn:Int) == 0)=false:=by simp [hq0]
    have HSK:Hid (∀ e∈L,¬ e.sku.size=0):=fun e he=>zhL (jJ HC.out e he);go_wp2_with fail;refine (zdQ ao n cap L _ HS2.out HSK.out).mono ?_;rintro x w3 ⟨kk,rfl,hM⟩;obtain ⟨K0,f,M3⟩:=hM;have HM3:=hide M3;have HB3:=wTr HB2 M3.below;have HS3:=hide (HS2.out.below M3.below);have HF3:=hide (HFS.out.below M3.below);obtain ⟨b,Hb⟩:∃ b,Hid (w2.heap.size=b):=⟨_,rfl⟩;rw [Hb.out];clear M3 HS2 HFS HB2;go_wp2_with fail;go_loopw [10,35] (fun v i wr=>∃ (k:Nat) (x:Hs),k <= qn/\v = .slice x.o x.n x.c/\i = .int .i64 (k:Int)/\Hid (∃ X:List Pv,OwnP w3.heap.size w3 wr x X/\(∀ p∈X,FarH x p)/\BX L (F.take k) X/\x.n=k)) (fun _ i _=>qn - (intOf i).toNat)
    case atStart=>exact ⟨0,hs0,Nat.zero_le _,rfl,rfl,⟨[],OwnP.nil w3,fun p h=>(by cases h),BX.nil L,rfl⟩⟩
    case round =>
     obtain ⟨k,x,hk,rfl,rfl,HX⟩:=hrel
     rename World=>wr
     by_cases hlt:k < qn
     ·have hlti:(k:Int) < (qn:Int):=by omega
      obtain ⟨X,O,hFar,hBX,hxn⟩:=HX.out;obtain ⟨ad,hao,A0⟩:=(HF3.out.below O.below).at k hlt;have hOk:=(HF3.out.below O.below).okAt k hlt;have HT:=hide (yN F k (by rw [HFl.out];exact hlt));obtain ⟨r,Hr⟩:∃ r,Hid (F.getD k rc0=r):=⟨_,rfl⟩;rw [Hr.out] at A0 hOk HT;have hsk:=hOk.2;have hld:=zz A0;obtain ⟨g7,hg7⟩:∃ g7,wr.heap.size=g7:=⟨_,rfl⟩;obtain ⟨w7,hst,X7,B7,S7⟩:=madeRe wr (mkR r) g7 hg7;have O7:=(O.later B7).later (zf w7);have M7:=((HM3.out.later O.below).later B7).later (zf w7)
      have l0:(Instr.lookup 149 (.map (some b)) (.string r.s) false).run Tryz.prog w7.drew = .ok (.slice (f r.s).o (f r.s).n (f r.s).c) w7.drew:=by
       have:=M7.look keyS Tryz.underlying9 Tryz.underlying149 (zeroDs _) r.s hsk;rwa [Hb.out] at this
      have hdl:=M7.len r.s;have hdb:=vl L r.s
      have HD7:Hid (RSrc w7.drew (f r.s).o (f r.s).n (f r.s).c (dotsS L r.s)):=by
       have h:=M7.rows r.s
       have e:(HsV (f r.s)) = .slice (f r.s).o (dotsS L r.s).length (f r.s).c:=by show Value.slice _ _ _=_;rw [hdl]
       rw [e,hdl] at h;have:=(OwnD.src (B0:=w2.heap.size) ⟨h,M7.below,M7.hb.2.2,by omega⟩ (by have:=HL.out;omega)).1
       show RSrc _ _ _ _ _
       rw [hdl];exact this
      have HSt:Hid (∀ W:World,W.heap[g7]? = w7.heap[g7]? -> W.cell? ⟨g7,0,none⟩=some (.string r.s)/\(ldP (.pointer (some ⟨g7,1,none⟩))).run Tryz.prog W = .ok (.agg #[.slice r.p.vo r.p.vn r.p.vc,.slice r.p.co r.p.cn r.p.cc]) W):=fun W h=>by
       have X:ReBox W g7 (mkR r):=h.trans X7;exact ⟨X.sk,zj X.past⟩
      have Hg7:Hid (g7 < w7.heap.size):=by show _ < _;omega
      have Hlt:=hide hlt;have HO7:=hide O7;have HFa:=hide hFar;have HBX:=hide hBX;have Hxn:Hid (x.n=k/\k <= 2199023255552):=⟨hxn,by omega⟩;have HP7:Hid (PSrc w7.drew r.p):=((hOk.1.below B7).below (zf w7))
      have HGX:Hid (∀ j,(HsV x).ownBlock=some j -> j < g7):=fun j hj=>by have:=(O.own.lt j hj).2;omega
      subst hao;clear A0 X7 B7 S7 M7 O7 O hFar hBX hlt hk hOk hdl hdb hxn HX;go_upto_region 14 with fail;clear hst hld;refine wp_region_held_drew (S:=fun W=>W.cell? ⟨g7,0,none⟩=some (.string r.s)/\(ldP (.pointer (some ⟨g7,1,none⟩))).run Tryz.prog W = .ok (.agg #[.slice r.p.vo r.p.vn r.p.vc,.slice r.p.co r.p.cn r.p.cc]) W) (by kernel_rfl) (HSt.out _ rfl) (fun hHeld=>?_);refine wU 0 ?_;refine wU 1 ?_;refine wU 2 ?_;refine wU 3 ?_;refine wU 6 ?_;refine wU 7 ?_;refine wpAnyH_ready (rs:=[4]) (by kernel_rfl) (by simp) (.cons rfl (fun K hK=>?_) .nil);go_simp;refine hK.out _ _ (HSt.out _ rfl) (fun hHeld=>?_);clear hK K;refine wpAnyH_ready (rs:=[5]) (by kernel_rfl) (by simp) (.cons rfl (fun K hK=>?_) .nil);go_simp;go_wp2_with fail;refine (yj (f r.s).o (f r.s).n (f r.s).c (dotsS L r.s) _ HD7.out).mono ?_;rintro e w8 ⟨pd,rfl,Sd,-,b8,Cd⟩;have HO8:=hide (HO7.out.later b8)
      have HP8:=hide (HP7.out.below b8);have z8:w8.heap[g7]? = w7.heap[g7]?:=b8.block g7 Hg7.out;have HZ8:=hide z8;have HG8:Hid (g7 < w8.heap.size):=Nat.lt_of_lt_of_le Hg7.out b8.size;have HSd:=hide Sd;have HCd:=hide Cd;refine hK.out _ _ (HSt.out _ z8) (fun hHeld=>?_);clear hK K;clear b8 z8 Sd Cd HO7 HP7 l0;refine wpAnyH_ready (rs:=[8]) (by kernel_rfl) (by simp) (.cons rfl (fun K hK=>?_) .nil);go_simp;go_wp2_with fail;refine (zba pd r.p _ HSd.out HP8.out).mono ?_;rintro e w9 ⟨pm,rfl,Sm,Nm,b9,Cm⟩;have HO9:=hide (HO8.out.later b9);have z9:w9.heap[g7]? = w7.heap[g7]?:=(b9.block g7 HG8.out).trans HZ8.out;have HZ9:=hide z9;have HG9:Hid (g7 < w9.heap.size):=Nat.lt_of_lt_of_le HG8.out b9.size;have HSm:=hide Sm;have HFm2:Hid (FarH x pm):=fun j hj=>PFar.new Nm (by have:=HGX.out j hj;have:=HG8.out;omega)
      have HBm:Hid (BX L (F.take (k+1)) (X++[pm])):=by show BX _ _ _;rw [HT.out];exact HBX.out.snoc HCd.out Cm
      refine hK.out _ _ (HSt.out _ z9) (fun hHeld=>?_);clear hK K;clear b9 z9 Sm Nm Cm HO8 HP8;obtain ⟨ga,ca,wa,haa,Oa,Fa,ka⟩:=HO9.out.app HFa.out pm HSm.out HFm2.out (by have:=Hxn.out;omega);have HAA:Hid ((Builtin.append_ #[151,151] 151 #[.slice x.o x.n x.c,.slice (some ⟨w9.heap.size,0,none⟩) 1 1]).run Tryz.prog (w9.alloc (.cells #[.slice pm.vo pm.vn pm.vc,.slice pm.co pm.cn pm.cc] 26)) = .ok (.slice (some ⟨ga,0,none⟩) (x.n+1) ca) wa):=haa;have zA:(w9.alloc (.cells #[.slice pm.vo pm.vn pm.vc,.slice pm.co pm.cn pm.cc] 26)).heap[g7]? = w7.heap[g7]?:=(Below.heap_alloc w9 _ g7 HG9.out).trans HZ9.out;have za:wa.heap[g7]? = w7.heap[g7]?:=(ka g7 HG9.out (fun e=>by have:=HGX.out g7 e;omega)).trans HZ9.out;have HOa:Hid (∃ X:List Pv,OwnP w3.heap.size w3 wa ⟨some ⟨ga,0,none⟩,x.n+1,ca⟩ X/\(∀ p∈X,FarH ⟨some ⟨ga,0,none⟩,x.n+1,ca⟩ p)/\BX L (F.take (k+1)) X/\x.n+1=k+1):=⟨_,Oa,Fa,HBm.out,by rw [Hxn.out.1]⟩
      clear haa Oa Fa ka;refine wpAnyH_ready (rs:=[9]) (by kernel_rfl) (by simp) (.cons rfl (fun K hK=>?_) .nil);go_simp;refine hK.out _ _ (HSt.out _ zA) (fun hHeld=>?_);clear hK K;refine wpAnyH_ready (rs:=[10]) (by kernel_rfl) (by simp) (.cons rfl (fun K hK=>?_) .nil);refine xB (by rfl) (.tmp 39) (.tmp 48) (by rfl) (by rfl) (by rfl) HAA.out ?_;refine hK.out _ _ (HSt.out _ za) (fun hHeld=>?_);clear hK K;refine wU 11 ?_;refine wpAnyH_done (by kernel_rfl) ?_ _;clear hHeld;clear zA za;go_wp2_with fail;go_roundw
      case rel=>exact ⟨k+1,⟨some ⟨ga,0,none⟩,x.n+1,ca⟩,Hlt.out,rfl,by simp,HOa⟩
      case measure=>simp [intOf];have:=Hlt.out;omega
     ·have hlti:¬ (k:Int) < (qn:Int):=by omega
      obtain ⟨X,O,-,hBX,hxn⟩:=HX.out;have hT:F.take k=F:=List.take_of_length_le (by have:=HFl.out;omega);rw [hT] at hBX;have HBX:=hide hBX;have HP:Hid (PRow wr x.o x.n X):=O.row
      have HWX:Hid (wt X <= 8796093022207):=by
       show _ <= _
       have h1:=hBX.2;rw [HFl.out,HL.out.1] at h1;have h2:=Nat.mul_le_mul_right (n+1) HFm.out;have h3:=HNM.out;omega
      have hxq:x.n <= 8796093022207:=by omega
      have HBr:=wTr HB3 O.below;have HSr:=hide (HS3.out.below O.below);clear O hBX hT hxn HX hk hlt;go_wp2_with fail;refine (xg x.o x.n x.c X _ HP.out HWX.out hxq).mono ?_;rintro e w8 ⟨pj,rfl,Sj,-,b8,Cj⟩;have HB8:=wTr HBr b8;have HS8:=hide (HSr.out.below b8);have HSj:=hide Sj;have HCj:=hide Cj;clear b8 Sj Cj HBr HSr;go_wp2_with fail;refine (jD ao n cap L pj _ HS8.out HSj.out).mono ?_;rintro e w9 (⟨-,-,a9,n9,c9,rfl,S9,b9,N9⟩ | ⟨hno,-⟩);rotate_left
      ·exact absurd ⟨HC.out,zP.1 HCj.out.canon⟩ hno
      ·have HE:Hid (ApA w w9 (.returned (.tuple #[.slice a9 n9 c9,.int .i64 0])) L R m):=.inl ⟨HC.out,HO.out,a9,n9,c9,rfl,by rw [<- ze7 HC.out HF.out HBX.out HCj.out];exact S9,HB8.out.trans (b9.mono HB8.out.size),fun ad h=>Nat.le_trans HB8.out.size (N9 ad h)⟩;clear S9 b9 N9;go_wp2_with fail;go_ret2;exact HE.out
end
section
open Go.RowKit
def FormS (s:Fc):Prop:=(K.okN s.es s.an=true/\InForm s.p.P/\OkR s.rs s.rn)/\(∀ e∈s.es,inB s.p.P e=true)/\(∀ r∈s.rs,¬ wiP r.p.P s.p.P)/\∀ e∈s.es,freeB s.rs e=true
def ChkS (s:Fc) (x:Int):Prop:=(FormS s/\x=0)∨(¬ FormS s/\x=1)
theorem zeB {L:List K.En} {P:Pst}:(L.filter (pkB P false)).length=0↔∀ e∈L,inB P e=true:=by
 rw [List.length_eq_zero_iff,List.filter_eq_nil_iff];refine forall_congr' fun e=>forall_congr' fun _=>?_;unfold pkB
 cases inB P e <;> simp
theorem zhI {L:List K.En} {R:List Rc}:(L.filter (freeB R)).length=L.length↔∀ e∈L,freeB R e=true:=by
 rw [List.length_filter_eq_length_iff]
theorem zhs {L F:List Rc} {P:Pst} (h:WtOf L P F):F.length=L.length↔∀ r∈L,¬ wiP r.p.P P:=by
 have e1:F.length=((plR L).filter (waitB P)).length:=by rw [<- h.2,jO]
 have e2:L.length=(plR L).length:=(jO L).symm;rw [e1,e2,List.length_filter_eq_length_iff];constructor
 ·intro k r hr hw;have:=k (r.s,r.p.P) (List.mem_map.2 ⟨r,hr,rfl⟩);have h2:waitB P (r.s,r.p.P)=false:=bw (y:=(r.s,r.p.P)) hw;rw [h2] at this
  cases this
 ·intro k y hy;obtain ⟨r,hr,rfl⟩:=List.mem_map.1 hy;have h2:waitB P (r.s,r.p.P)=true:=wM (y:=(r.s,r.p.P)) (k r hr);exact h2
theorem kz {L:List K.En} {n:Nat} (hl:L.length=n):K.chk L=0↔K.okN L n=true:=by
 unfold K.chk;rw [hl]
 split <;> simp_all
attribute [local go_sem ↓] zr zq zL zK
attribute [local go_sem] zi zk zl zp
theorem zbI (s:Fc) (w:World) (hF:FcOk w s) (hR:FcR s) (hwt:∀ t,wt (ofS s.rs t) <= 8796093022207) (hnm:s.rn * (s.an+1) <= 8796093022207) (hrn:s.rn <= 2199023255551) :
  Calls Tryz.prog 27 #[FaV (mkF s)] w fun e w'=>GivesK w w' e (ChkS s):=by
 have b1:=ze w (.cells (FaC (mkF s)) 31);have X1:=qk w (mkF s);obtain ⟨wk,hwk⟩:∃ w1,w.alloc (.cells (FaC (mkF s)) 31)=w1:=⟨_,rfl⟩;rw [hwk] at b1 X1;obtain ⟨G,hG0⟩:∃ G,w.heap.size=G:=⟨_,rfl⟩;rw [hG0] at X1;have HX:=hide X1;have HBK:=hide b1;have HF:=hide (hF.below b1);have HR:=hide hR;have HWt:=hide hwt;have HNm:Hid (s.rn * (s.an+1) <= 8796093022207/\s.rn <= 2199023255551):=⟨hnm,hrn⟩;have HLn:Hid (s.es.length=s.an/\s.rs.length=s.rn):=⟨hF.es.1,hF.rs.len⟩;clear hF b1 X1 hR hwt hnm hrn;obtain ⟨c0,c3⟩:=HX.out.cs;have lp:=zj HX.out.past;go_enter Tryz.func27,Tryz.ntmps27;go_wp2_with fail;clear hwk hG0 c0 c3 lp;refine (jD s.ao s.an s.ac s.es s.p _ HF.out.es HF.out.p).mono ?_;rintro e w3 (⟨hc,hI,a3,n3,d3,rfl,S3,b3,-⟩ | ⟨hno,a3,n3,d3,rfl,S3,b3,-⟩);rotate_left
 ·have HE:Hid (GivesK w w3 (.returned (.int .i64 1)) (ChkS s)):=⟨1,rfl,.inr ⟨fun h=>hno ⟨(kz HLn.out.1).2 h.1.1,h.1.2.1⟩,rfl⟩,HBK.out.trans (b3.mono HBK.out.size)⟩;clear hno S3 b3;go_wp2_with fail;go_ret;exact HE.out
 have H1:Hid (K.okN s.es s.an=true/\InForm s.p.P/\(s.es.filter (pkB s.p.P false)).length=n3):=⟨(kz HLn.out.1).1 hc,hI,S3.1⟩;have HB3:=hide b3;clear hc hI S3 b3;by_cases h3:n3=0;rotate_left
 ·have hp:(0:Int) < (n3:Int):=by omega
  have HE:Hid (GivesK w w3 (.returned (.int .i64 1)) (ChkS s)):=⟨1,rfl,.inr ⟨fun h=>h3 (by rw [<- H1.out.2.2];exact zeB.2 h.2.1),rfl⟩,HBK.out.trans (HB3.out.mono HBK.out.size)⟩;go_wp2_with fail;go_ret;exact HE.out
 subst h3;have H2:Hid (∀ e∈s.es,inB s.p.P e=true):=zeB.1 H1.out.2.2;obtain ⟨c0,c3⟩:=(HX.out.below HB3.out).cs;have lp:=zj (HX.out.below HB3.out).past;go_wp2_with fail;clear c0 c3 lp;refine (jF s.ro s.rn s.rc s.rs s.p _ ((HF.out.row HR.out).below HB3.out) (HF.out.p.below HB3.out) HNm.out.2).mono ?_;rintro e w4 (⟨hO,-,⟨fo,fn,fc⟩,F,rfl,G4,n4,W4⟩ | ⟨hno,rfl,b4⟩);rotate_left
 ·have HE:Hid (GivesK w w4 (.returned (.int .i64 1)) (ChkS s)):=⟨1,rfl,.inr ⟨fun h=>hno ⟨h.1.2.2,h.1.2.1⟩,rfl⟩,HBK.out.trans ((HB3.out.trans (b4.mono HB3.out.size)).mono HBK.out.size)⟩;clear hno b4;go_wp2_with fail;go_ret;exact HE.out
 have HB4:=wTr HB3 G4.below;have H3:Hid (OkR s.rs s.rn/\WtOf s.rs s.p.P F/\F.length=fn/\fn <= s.rn):=⟨hO,W4,G4.src.len,n4⟩;rw [show HsV ⟨fo,fn,fc⟩=Value.slice fo fn fc from rfl];clear hO G4 n4 W4;obtain ⟨c0,c3⟩:=(HX.out.below HB4.out).cs;by_cases h4:fn < s.rn
 ·have hp:(fn:Int) < (s.rn:Int):=by omega
  have HE:Hid (GivesK w w4 (.returned (.int .i64 1)) (ChkS s)):=⟨1,rfl,.inr ⟨fun h=>by
   have h5:=(zhs H3.out.2.1).2 h.2.2.1;rw [H3.out.2.2.1,HLn.out.2] at h5
   omega,rfl⟩,HBK.out.trans (HB4.out.mono HBK.out.size)⟩
  go_wp2_with fail;clear c0 c3;go_ret;exact HE.out
 have hp:¬ (fn:Int) < (s.rn:Int):=by omega
 have H4:Hid (∀ r∈s.rs,¬ wiP r.p.P s.p.P):=(zhs H3.out.2.1).1 (by rw [H3.out.2.2.1,HLn.out.2];have:=H3.out.2.2.2;omega);clear h4;go_wp2_with fail;clear c0 c3 hp;refine (yD s.ao s.ro s.an s.ac s.rn s.rc s.es s.rs _ (HF.out.es.below HB4.out) (HF.out.rs.below HB4.out) HWt.out HNm.out.1).mono ?_;rintro e w5 (⟨-,-,a5,n5,d5,rfl,S5,b5,-⟩ | ⟨hno,-⟩);rotate_left
 ·exact absurd ⟨(kz HLn.out.1).2 H1.out.1,H3.out.1⟩ hno
 have HB5:=wTr HB4 b5;have H5:Hid ((s.es.filter (freeB s.rs)).length=n5):=S5.1;clear S5 b5;obtain ⟨c0,c3⟩:=(HX.out.below HB5.out).cs
 have hle:n5 <= s.an:=by
  have h:=List.length_filter_le (freeB s.rs) s.es;have h6:=H5.out;have h7:=HLn.out.1;omega
 by_cases h6:n5 < s.an
 ·have hp:(n5:Int) < (s.an:Int):=by omega
  have HE:Hid (GivesK w w5 (.returned (.int .i64 1)) (ChkS s)):=⟨1,rfl,.inr ⟨fun h=>by
   have h5:=zhI.2 h.2.2.2;have h8:=H5.out;have h7:=HLn.out.1
   omega,rfl⟩,HBK.out.trans (HB5.out.mono HBK.out.size)⟩
  clear hle;go_wp2_with fail;clear c0 c3;go_ret;exact HE.out
 have hp:¬ (n5:Int) < (s.an:Int):=by omega
 have HE:Hid (GivesK w w5 (.returned (.int .i64 0)) (ChkS s)):=⟨0,rfl,.inl ⟨⟨⟨H1.out.1,H1.out.2.1,H3.out.1⟩,H2.out,H4.out,zhI.1 (by
  have h8:=H5.out;have h7:=HLn.out.1
  omega)⟩,rfl⟩,HBK.out.trans (HB5.out.mono HBK.out.size)⟩
 clear hle h6;go_wp2_with fail;clear c0 c3;go_ret;exact HE.out
end
section
open Go.RowKit
attribute [local go_sem ↓] zr zq zD zC qh qg K.zy K.zx
attribute [local go_sem] zi zk zl zp zv zF zQ zW qp K.zJ K.zu K.zH K.xz
theorem takeE3 (L:List K.En) (k:Nat) (h:k < L.length):L.take (k+1)=L.take k++[L.getD k K.en0]:=by
 rw [List.take_succ_eq_append_getElem h];simp [List.getD,h]
def LvS (w w':World) (x:Ending) (L:List K.En):Prop:=∃ ao n c,x = .returned (.slice ao n c)/\K.ESrc w' ao n c L/\Below w.heap.size w w'
end
section
open Go.RowKit Go.Maps
def WvA (w w':World) (x:Ending) (L:List Rc) (P:Pst):Prop:=∃ (h:Hs) (F:List Rc),x = .returned (.slice h.o h.n h.c)/\RcS w' h.o h.n h.c F/\Below w.heap.size w w'/\WtOf L P F/\h.n <= h.c/\(h.o=none -> h.c=0)
attribute [local go_sem ↓] zr zq qd zZ
attribute [local go_sem] zi zk zI zU qi
end
section
open Go.RowKit
attribute [local go_sem ↓] zr zq
attribute [local go_sem] zi zk
variable {w w' w2 W W' : World} {g : Nat}

theorem zbR {p:Addr} {r:Rn} (A:RnAt W p r):W.cell? ⟨p.block,p.off,none⟩=some (.int .i64 r.lo)/\W.cell? ⟨p.block,p.off+1,none⟩=some (.int .i64 r.hi):=by
 have hs:=World.cell?_spot A.c0;have c1:=A.c1;have c0:=A.c0;obtain ⟨b,o,k⟩:=p;obtain rfl:k=none:=hs;rw [Addr.add_lit] at c1;exact ⟨c0,c1⟩
def spOf (d:Rn):Sn:=⟨d.lo,d.hi,d.hi⟩
theorem zel (D:List Rn) (r:Nat) (hr:r < 16) (n:Int):mem (runsAt ⟨[],D.map spOf⟩ r) n↔mem (dotsG D r) n:=by
 rw [xM _ r hr,xq];constructor
 ·rintro ⟨h1,h2,h3 | ⟨c,hc,h4,h5,h6⟩⟩
  ·simp at h3;omega
  ·obtain ⟨d,hd,rfl⟩:=List.mem_map.1 hc;unfold spOf at h4 h5 h6;simp only at h4 h5 h6;refine ⟨d,hd,?_,h4,by omega⟩;unfold okD V.isR;simp only [Bool.and_eq_true,decide_eq_true_eq];omega
 ·rintro ⟨d,hd,h1,h2,rfl⟩;unfold okD at h1;simp only [Bool.and_eq_true,decide_eq_true_eq] at h1;exact ⟨h1.2.1,h1.2.2,.inr ⟨spOf d,List.mem_map.2 ⟨d,hd,rfl⟩,h2,Int.le_refl _,Int.le_refl _⟩⟩
structure RO (w2 W:World) (g3:Nat) (ao:Option Addr) (k cap:Nat) (acc:List Sn):Prop where
 own:OwnS g3 (g3+1) w2 W ao cap acc
 box:W.heap[g3]? = some (.cells #[.slice none 0 0,.slice ao k cap] 26 (0,0))
 len:acc.length=k
theorem RO.blk {w2 W:World} {g3:Nat} {ao:Option Addr} {k cap:Nat} {acc:List Sn} (h:RO w2 W g3 ao k cap acc):(Value.slice ao acc.length cap).ownBlock≠some g3:=fun e=>by
 have:=(h.own.own.lt g3 e).1;omega
theorem box2 {b:Nat} {x y:Value} (h:W.heap[b]? = some (.cells #[x,y] 26 (0,0))):W.cell? ⟨b,0,none⟩=some x/\W.cell? ⟨b,1,none⟩=some y/\∀ j,W.frozen? ⟨b,j,none⟩=false:=
 ⟨by simp [World.cell?,h],by simp [World.cell?,h],fun j=>by simp [World.frozen?,h]⟩
theorem RO.push {w2 W W2:World} {g3:Nat} {ao:Option Addr} {k cap:Nat} {acc:List Sn} {e:Sn} {g6 c6:Nat} (h:RO w2 W g3 ao k cap acc) (O:OwnS g3 (g3+1) w2 W2 (some ⟨g6,0,none⟩) c6 (acc++[e])) (hk:W2.heap[g3]? = W.heap[g3]?):RO w2 (W2.setCell ⟨g3,1,none⟩ (.slice (some ⟨g6,0,none⟩) (k+1) c6)) g3 (some ⟨g6,0,none⟩) (k+1) c6 (acc++[e]):=by
 have hb:W2.heap[g3]? = some (.cells #[.slice none 0 0,.slice ao k cap] 26 (0,0)):=hk.trans h.box;refine ⟨⟨⟨O.own.1,?_⟩,?_,by simpa [World.setCell] using O.hB,O.hB0⟩,?_,by rw [List.length_append,h.len];rfl⟩
 ·rcases O.own.2 with ⟨h0,_⟩ | ⟨q,cap2,cur,hv,hbg,hgg,r⟩
  ·cases h0
  ·refine Or.inr ⟨q,cap2,cur,hv,hbg,?_,r⟩;rw [<- hgg];simp [World.setCell,Array.getElem?_modify,show ¬ g3=q by omega]
 ·exact V.zV O.below (Nat.le_refl _)
 ·simp [World.setCell,Array.getElem?_modify,hb]
theorem zex (ao:Option Addr) (n c:Nat) (D:List Rn) (w:World) (hS:RSrc w ao n c D) (hnb:n <= 5864062014804) :
  Calls Tryz.prog 121 #[.slice ao n c] w fun e w'=>GivesP w w' e (CanonOf (dotsG D)):=by
 have b1:=ze w (.cells #[.slice none 0 0,.slice none 0 0] 26);have x1:PBox (w.alloc (.cells #[.slice none 0 0,.slice none 0 0] 26)) w.heap.size pv0:=zm w pv0;have s1:=World.size_alloc w (.cells #[.slice none 0 0,.slice none 0 0] 26);obtain ⟨w1,hw1⟩:∃ w1,w.alloc (.cells #[.slice none 0 0,.slice none 0 0] 26)=w1:=⟨_,rfl⟩;rw [hw1] at b1 x1 s1;have b2:=ze w1 (.cells #[.slice none 0 0,.slice none 0 0] 26);have x2:=heap_alloc_new w1 (.cells #[.slice none 0 0,.slice none 0 0] 26);have s2:=World.size_alloc w1 (.cells #[.slice none 0 0,.slice none 0 0] 26);obtain ⟨w2,hw2⟩:∃ w2,w1.alloc (.cells #[.slice none 0 0,.slice none 0 0] 26)=w2:=⟨_,rfl⟩;obtain ⟨g3,hg3⟩:∃ g3,w1.heap.size=g3:=⟨_,rfl⟩;rw [hw2] at b2 x2 s2;rw [hg3] at x2 s2;have HX:Hid (PBox w1 w.heap.size pv0/\Below w.heap.size w w1/\RSrc w1 ao n c D/\w1.heap.size=g3/\w.heap.size < g3):=⟨x1,b1,hS.below b1,hg3,by omega⟩
 have HR0:Hid (RO w1 w2 g3 none 0 0 []):=⟨⟨World.ownsRow_nil _ _ _ _,hg3 ▸ b2,by omega,by omega⟩,x2,rfl⟩;have HD:Hid (D.length=n):=hS.len;clear b1 b2 x1 x2 hS s1 s2;go_enter Tryz.func121,Tryz.ntmps121;go_wp2_with fail;clear hw1 hw2 hg3;go_loopw [4] (fun i wr=>∃ (k:Nat) (ap:Option Addr) (cp:Nat),k <= n/\i = .int .i64 (k:Int)/\Hid (RO w1 wr g3 ap k cp ((D.take k).map spOf))) (fun i _=>n - (intOf i).toNat)
 case atStart=>exact ⟨0,none,0,Nat.zero_le _,rfl,HR0⟩
 case round =>
  obtain ⟨k,ap,cp,hk,rfl,HI⟩:=hrel
  rename World=>wr
  clear HR0;by_cases hlt:k < n
  ·have hlti:(k:Int) < (n:Int):=by omega
   obtain ⟨ad,hao,A0⟩:∃ ad,ao=some ad/\RnAt w1 (ad.add (k * 2)) (D.getD k rn0):=by
    cases ao with
    | none=>have:=(HX.out.2.2.1.nil rfl).1;omega
    | some ad=>exact ⟨ad,rfl,HX.out.2.2.1.cell ad rfl k hlt⟩
   subst hao;obtain ⟨d,hd⟩:∃ d,D.getD k rn0=d:=⟨_,rfl⟩;rw [hd] at A0;have hlb:(ad.add (k * 2)).block < w1.heap.size:=World.block_lt_of_cell? _ _ A0.c0;obtain ⟨q0,q1⟩:=zbR A0
   have HT:Hid ((D.take (k+1)).map spOf=(D.take k).map spOf++[spOf d]):=by
    show _=_
    rw [List.take_add_one,<- hd,List.getD_eq_getElem?_getD,List.getElem?_eq_getElem (by have:=HD.out;omega),List.map_append];rfl
   obtain ⟨acc,hacc⟩:∃ acc,(D.take k).map spOf=acc:=⟨_,rfl⟩;rw [hacc] at HI HT;obtain ⟨lo,hi⟩:=d;dsimp only at q0 q1
   have HSW:Hid (∀ W:World,(∀ j,j < w1.heap.size -> W.heap[j]? = w1.heap[j]?) -> W.cell? (ad.add (k * 2))=some (.int .i64 lo)/\W.cell? ⟨(ad.add (k * 2)).block,(ad.add (k * 2)).off,none⟩=some (.int .i64 lo)/\W.cell? ⟨(ad.add (k * 2)).block,(ad.add (k * 2)).off+1,none⟩=some (.int .i64 hi)):=fun W e =>
    ⟨(World.cell?_of_block (e _ hlb)).trans A0.c0,(by rw [<- q0];simp only [World.cell?,e _ hlb]),(by rw [<- q1];simp only [World.cell?,e _ hlb])⟩
   have Hw1:Hid (w1.heap.size=g3):=HX.out.2.2.2.1;have HSr:Hid (∀ j,j < w1.heap.size -> wr.heap[j]? = w1.heap[j]?):=fun j hj=>HI.out.own.below.block j (by have:=Hw1.out;omega)
   have Hrg:Hid (g3 < wr.heap.size):=by show _ < _;have:=HI.out.own.hB;omega
   have y1:wr.drew.cell? ⟨g3,1,none⟩=some (.slice ap k cp):=(box2 HI.out.box).2.1;have y2:(wr.drew.alloc (.cells #[.int .i64 lo,.int .i64 hi,.int .i64 hi] 104)).cell? ⟨g3,1,none⟩=some (.slice ap k cp):=((ze wr.drew _).cell (p:=⟨g3,1,none⟩) Hrg.out).trans y1;have y3:(wr.alloc (.cells #[.int .i64 lo,.int .i64 hi,.int .i64 hi] 104)).cell? ⟨g3,1,none⟩=some (.slice ap k cp):=y2
   have HLN:Hid (acc.length < 5864062014805):=by show _ < _;rw [HI.out.len];omega
   have Hlt:=hide hlt;have HK1:Hid (∀ j,j < w1.heap.size -> (wr.drew.alloc (.cells #[.int .i64 lo,.int .i64 hi,.int .i64 hi] 104)).heap[j]? = w1.heap[j]?):=fun j hj=>(Below.heap_alloc wr.drew _ j (show j < wr.heap.size by have:=Hw1.out;have:=Hrg.out;omega)).trans (HSr.out j hj);clear A0 q0 q1 hlb hd hacc hlt hk;go_upto_region 5 with fail;refine wp_region_held_drew (S:=fun W=>W.cell? (ad.add (k * 2))=some (.int .i64 lo)/\W.cell? ⟨(ad.add (k * 2)).block,(ad.add (k * 2)).off,none⟩=some (.int .i64 lo)/\W.cell? ⟨(ad.add (k * 2)).block,(ad.add (k * 2)).off+1,none⟩=some (.int .i64 hi)) (by kernel_rfl) (HSW.out _ HSr.out) (fun hHeld=>?_);refine wU 0 ?_;refine wU 2 ?_;refine wU 3 ?_;refine wU 4 ?_;refine wU 5 ?_;refine wU 6 ?_;refine wU 7 ?_;refine wU 8 ?_;refine wU 9 ?_;refine wU 10 ?_;refine wU 11 ?_;refine wU 12 ?_;refine wU 13 ?_;refine wU 14 ?_
   refine wU 15 ?_;refine wU 16 ?_;refine wU 17 ?_;refine wpAnyH_ready (rs:=[1,18]) (by kernel_rfl) (by simp) ?_;refine AllReadyH.cons rfl (fun K hK=>?_) ?_
   ·go_simp;refine hK.out _ _ (HSW.out _ HSr.out) (fun hHeld=>?_);clear hK K;refine wpAnyH_ready (rs:=[18]) (by kernel_rfl) (by simp) (.cons rfl (fun K hK=>?_) .nil);go_simp;refine hK.out _ _ (HSW.out _ HK1.out) (fun hHeld=>?_);clear hK K;refine wpAnyH_ready (rs:=[19]) (by kernel_rfl) (by simp) (.cons rfl (fun K hK=>?_) .nil);refine HI.out.own.step (spOf ⟨lo,hi⟩) _ (by rfl) HLN.out (by rfl) (.tmp 12) (.tmp 29) (by rfl) k HI.out.len (by rfl) _ (by rfl) (by rfl) ?_;intro g6 c6 w9 O6 h6;have e9:w9.heap[g3]? = wr.heap[g3]?:=h6 g3 Hrg.out HI.out.blk;have f9:=(box2 (e9.trans HI.out.box)).2.2 1;have d9:=(box2 (e9.trans HI.out.box)).2.1;have HP:=hide (HI.out.push O6 e9);have HK2:Hid (∀ j,j < w1.heap.size -> w9.heap[j]? = w1.heap[j]?):=fun j hj=>O6.below.block j (by have:=Hw1.out;omega);have HK3:Hid (∀ j,j < w1.heap.size -> (w9.setCell ⟨g3,1,none⟩ (.slice (some ⟨g6,0,none⟩) (k+1) c6)).heap[j]? = w1.heap[j]?):=fun j hj=>HP.out.own.below.block j (by have:=Hw1.out;omega)
    refine hK.out _ _ (HSW.out _ HK2.out) (fun hHeld=>?_);clear hK K;refine wU 20 ?_;refine wpAnyH_ready (rs:=[21]) (by kernel_rfl) (by simp) (.cons rfl (fun K hK=>?_) .nil);go_simp;refine hK.out _ _ (HSW.out _ HK3.out) (fun hHeld=>?_);clear hK K;refine wpAnyH_done (by kernel_rfl) ?_ _;clear hHeld;clear O6 h6 e9 f9 d9;go_wp2_with fail;go_roundw
    case rel=>exact ⟨k+1,some ⟨g6,0,none⟩,c6,Hlt.out,by simp,by rw [HT.out];exact HP⟩
    case measure=>simp [intOf];have:=Hlt.out;omega
   ·refine AllReadyH.cons rfl (fun K hK=>?_) ?_;rotate_left
    ·exact AllReadyH.nil
    go_simp;refine hK.out _ _ (HSW.out _ HK1.out) (fun hHeld=>?_);clear hK K;refine wpAnyH_ready (rs:=[1]) (by kernel_rfl) (by simp) (.cons rfl (fun K hK=>?_) .nil);go_simp;refine hK.out _ _ (HSW.out _ HK1.out) (fun hHeld=>?_);clear hK K;refine wpAnyH_ready (rs:=[19]) (by kernel_rfl) (by simp) (.cons rfl (fun K hK=>?_) .nil);refine HI.out.own.step (spOf ⟨lo,hi⟩) _ (by rfl) HLN.out (by rfl) (.tmp 12) (.tmp 29) (by rfl) k HI.out.len (by rfl) _ (by rfl) (by rfl) ?_;intro g6 c6 w9 O6 h6;have e9:w9.heap[g3]? = wr.heap[g3]?:=h6 g3 Hrg.out HI.out.blk;have f9:=(box2 (e9.trans HI.out.box)).2.2 1;have d9:=(box2 (e9.trans HI.out.box)).2.1;have HP:=hide (HI.out.push O6 e9);have HK2:Hid (∀ j,j < w1.heap.size -> w9.heap[j]? = w1.heap[j]?):=fun j hj=>O6.below.block j (by have:=Hw1.out;omega);have HK3:Hid (∀ j,j < w1.heap.size -> (w9.setCell ⟨g3,1,none⟩ (.slice (some ⟨g6,0,none⟩) (k+1) c6)).heap[j]? = w1.heap[j]?):=fun j hj=>HP.out.own.below.block j (by have:=Hw1.out;omega)
    refine hK.out _ _ (HSW.out _ HK2.out) (fun hHeld=>?_);clear hK K;refine wU 20 ?_;refine wpAnyH_ready (rs:=[21]) (by kernel_rfl) (by simp) (.cons rfl (fun K hK=>?_) .nil);go_simp;refine hK.out _ _ (HSW.out _ HK3.out) (fun hHeld=>?_);clear hK K;refine wpAnyH_done (by kernel_rfl) ?_ _;clear hHeld;clear O6 h6 e9 f9 d9;go_wp2_with fail;go_roundw
    case rel=>exact ⟨k+1,some ⟨g6,0,none⟩,c6,Hlt.out,by simp,by rw [HT.out];exact HP⟩
    case measure=>simp [intOf];have:=Hlt.out;omega
  ·have hlti:¬ (k:Int) < (n:Int):=by omega
   obtain rfl:k=n:=by omega
   obtain ⟨pq,hpq⟩:∃ pq:Pv,(⟨none,0,0,ap,k,cp,⟨[],D.map spOf⟩⟩:Pv)=pq:=⟨_,rfl⟩
   have hacc:(D.take k).map spOf=D.map spOf:=by rw [List.take_of_length_le (by have:=HD.out;omega)]
   rw [hacc] at HI;have hl:=HI.out.len
   have HPS:Hid (PSrc wr pq):=by
    rw [<- hpq];have h1:=(HI.out.own.src (by rw [hl];omega)).1;rw [hl] at h1;exact ⟨⟨rfl,fun _=>⟨rfl,rfl⟩,fun ad h=>by cases h⟩,h1,by simp⟩
   have l9:(ldP (.pointer (some ⟨g3,0,none⟩))).run Tryz.prog wr = .ok (PV pq) wr:=by
    rw [<- hpq];exact zj (PBox.at (p:=⟨none,0,0,ap,k,cp,⟨[],D.map spOf⟩⟩) HI.out.box)
   have HP:Hid (pq.P=⟨[],D.map spOf⟩):=by show _=_;rw [<- hpq]
   have hb3:=HI.out.own.below;have hX:=HX.out;have HB:Hid (PBox wr w.heap.size pv0/\Below w.heap.size w wr/\w.heap.size+1 <= wr.heap.size):=⟨(hb3.block _ hX.2.2.2.2).trans hX.1,hX.2.1.trans (hb3.mono (by omega)),by have:=HI.out.own.hB;omega⟩;clear hpq hacc hl hb3 hX hlt;go_wp2_with fail;refine (jz pq _ HPS.out).mono ?_;rintro e w8 ⟨p,rfl,S2,n2,b2,c2'⟩;obtain ⟨s1,e1,e2,e3,e4⟩:=qt (w:=w) (HB.out.1.below b2) S2 (n2.mono (by have:=HB.out.2.2;omega)) (HB.out.2.1.trans (b2.mono HB.out.2.1.size)) (Nat.le_refl _);have HE1:=hide e1;have HE2:Hid (GivesP w (w8.setRow w.heap.size (PC p)) (.returned (PV p)) (CanonOf (dotsG D))):=⟨p,rfl,e2,e3,e4,yB (HP.out ▸ c2') (fun r hr n=>zel D r hr n)⟩;clear S2 n2 b2 c2' e1 e2 e3 e4 l9;go_wp2_with fail;exact bodyPost_ret (v:=PV p) (resP Tryz.results121 rfl HE1.out) rfl HE2.out
end
section
open Go.RowKit
attribute [local go_sem ↓] zr zq qd zZ qh qg K.zy K.zx K.qz
attribute [local go_sem] zi zk zI zU K.zu K.zH qi K.zJ
end
end Go.Proofs.YtjffpimfngdggaaGreat
namespace Go.Proofs.YtjffpimfngdggaaGreat.K
open Go.RowKit Go.Maps Go.Sort

structure Ln where
 sku:ByteArray
 qty:Int
 parts:Int
def ln0:Ln:=⟨⟨#[]⟩,0,0⟩
def addL (l:Ln) (e:En):Ln:=⟨e.sku,l.qty+e.qty,l.parts+1⟩
def ofS (L:List En) (s:ByteArray):List En:=L.filter (fun e=>eqS e.sku s)
def lineOf (L:List En) (s:ByteArray):Ln:=(ofS L s).foldl addL ln0
def AllOk (L:List En):Prop:=∀ e∈L,1 <= e.qty/\e.qty <= 1000000
def LinesOf (L:List En) (R:List Ln) (er:Int):Prop:=
 (chk L≠0/\R=[]/\er=1)∨(chk L=0/\er=0/\R.Pairwise (fun a b=>a.sku.data.toList < b.sku.data.toList)/\∀ l,l∈R↔∃ e∈L,l=lineOf L e.sku)
def Mp (D:DataW Ln) (L:List En):Prop:=(∀ s:ByteArray,has D (.string s.data.toList)=true↔∃ e∈L,e.sku=s)/\∀ s:ByteArray,D.atKey (.string s.data.toList) (.held ln0) = .held (lineOf L s)
end Go.Proofs.YtjffpimfngdggaaGreat.K
namespace Go.Proofs.YtjffpimfngdggaaGreat
open Go.RowKit
attribute [local go_sem ↓] zr zq qh qg K.zy K.zx K.qz
attribute [local go_sem] zi zk K.zu K.zH K.zJ
def noS (L:List K.En) (s:ByteArray):List K.En:=L.filter (fun e => !K.eqS e.sku s)
def kpB (s:ByteArray) (P:Pst) (e:K.En):Bool:=(decide (s.size=0) || (e.sku.toList == s.toList)) && inB P e
def ktL (L:List K.En) (s:ByteArray) (P:Pst):List K.En:=L.filter (fun e => !kpB s P e)
end Go.Proofs.YtjffpimfngdggaaGreat
namespace Go.Proofs.YtjffpimfngdggaaGreat.K
open Go.RowKit

def LC (e:Ln):Array Value:=#[.string e.sku,.int .i64 e.qty,.int .i64 e.parts]
abbrev LV (e:Ln):Value:=.agg (LC e)
theorem zfI (e:Ln):(LC e).size=3:=rfl
theorem zdd (e:Ln):(LV e).cells=LC e:=by simp [Value.cells]
theorem zd3:(#[.string ⟨#[]⟩,.int .i64 0,.int .i64 0]:Array Value)=LC ln0:=rfl
structure LnAt (w:World) (p:Addr) (e:Ln):Prop where
 c0:w.cell? p=some (.string e.sku)
 c1:w.cell? (p.add 1)=some (.int .i64 e.qty)
 c2:w.cell? (p.add 2)=some (.int .i64 e.parts)
def LBox (w:World) (g:Nat) (T:TypeId) (e:Ln):Prop:=w.heap[g]? = some (.cells (LC e) T (0,0))
theorem LBox.at {w:World} {g:Nat} {T:TypeId} {e:Ln} (h:LBox w g T e):LnAt w ⟨g,0,none⟩ e:=by
 unfold LBox at h;refine ⟨?_,?_,?_⟩ <;> simp [Addr.add,World.cell?,h,LC]
def ldL (v:Value):Sem Value:=Instr.loadAt 108 v
theorem zi8 (v:Value):Instr.loadAt 108 v=ldL v:=rfl
def stL (p v:Value):Sem Unit:=Instr.storeAt 108 p v
theorem zhw (p v:Value):Instr.storeAt 108 p v=stL p v:=rfl
def LSrc (w:World) (ao:Option Addr) (m c:Nat) (L:List Ln):Prop:=
 L.length=m/\(ao=none -> m=0/\c=0)/\(∀ ad,ao=some ad -> ∀ t,t < m -> LnAt w (ad.add (t * 3)) (L.getD t ln0))/\(∀ e∈L,e.sku.size <= maxLen)/\m <= 3518437208883
theorem LSrc.at {w:World} {ao:Option Addr} {m c:Nat} {L:List Ln} (h:LSrc w ao m c L) (k:Nat) (hk:k < m):∃ ad,ao=some ad/\LnAt w (ad.add (k * 3)) (L.getD k ln0):=by
 cases ao with
 | none=>have:=h.2.1 rfl;omega
 | some ad=>exact ⟨ad,rfl,h.2.2.1 ad rfl k hk⟩
theorem LSrc.sku {w:World} {ao:Option Addr} {m c:Nat} {L:List Ln} (h:LSrc w ao m c L) (k:Nat) (hk:k < m):(L.getD k ln0).sku.size <= maxLen:=by
 have:L.getD k ln0=L[k]'(by rw [h.1];exact hk):=by simp [List.getD,h.1,hk]
 rw [this];exact h.2.2.2.1 _ (List.getElem_mem _)
theorem LSrc.none (w:World):LSrc w none 0 0 []:=⟨rfl,fun _=>⟨rfl,rfl⟩,(fun ad h=>by cases h),(fun e he=>by cases he),by omega⟩
def lcs (L:List Ln):List Value:=(L.map (fun e=>(LC e).toList)).flatten
theorem zi9 (L:List Ln) (t j:Nat) (ht:t < L.length) (hj:j < 3):(lcs L)[t * 3+j]? = (LC (L.getD t ln0)).toList[j]?:=by
 induction L generalizing t with
 | nil=>simp at ht
 | cons a L ih =>
  have e:lcs (a :: L)=(LC a).toList++lcs L:=rfl
  cases t with
  | zero=>rw [e,List.getElem?_append_left (by simp [LC];omega)];simp [List.getD]
  | succ t =>
   rw [e,List.getElem?_append_right (by simp [LC];omega)];have h:=ih t (by simpa using ht)
   have e4:(t+1) * 3+j - (LC a).toList.length=t * 3+j:=by simp [LC];omega
   rw [e4,h];simp [List.getD]
structure OwnL (B0 B:Nat) (w w':World) (ao:Option Addr) (cap:Nat) (acc:List Ln):Prop where
 own:w'.ownsRow B 108 3 (.slice ao acc.length cap) acc.length (lcs acc)
 below:Below B0 w w'
 hB:B <= w'.heap.size
 hB0:B0 <= B
theorem OwnL.nil {B0 B:Nat} {w w':World} (hb:Below B0 w w') (hB:B <= w'.heap.size) (h0:B0 <= B):OwnL B0 B w w' none 0 []:=
 ⟨World.ownsRow_nil _ _ _ _,hb,hB,h0⟩
theorem OwnL.src {B0 B:Nat} {w w':World} {ao:Option Addr} {cap:Nat} {acc:List Ln} (O:OwnL B0 B w w' ao cap acc) (hs:∀ e∈acc,e.sku.size <= maxLen) (hl:acc.length <= 3518437208883):LSrc w' ao acc.length cap acc/\∀ ad,ao=some ad -> B <= ad.block:=by
 rcases O.own.2 with ⟨h0,h00⟩ | ⟨g,cap2,cur,hv,hbg,hgg,hnc,hcm,hcsz,htake⟩
 ·simp only [Value.slice.injEq] at h0;obtain ⟨rfl,e0,rfl⟩:=h0;exact ⟨⟨rfl,fun _=>⟨h00,rfl⟩,fun ad h=>(by cases h),hs,hl⟩,fun ad h=>(by cases h)⟩
 ·simp only [Value.slice.injEq,true_and] at hv;obtain ⟨rfl,rfl⟩:=hv
  have cell:∀ t j,t < acc.length -> j < 3 -> w'.cell? ⟨g,t * 3+j,none⟩=(LC (acc.getD t ln0)).toList[j]?:=fun t j ht hj=>by
   rw [O.own.cellAt (t * 3+j) (by omega),zi9 _ t j ht hj]
  refine ⟨⟨rfl,fun h=>(by cases h),fun ad h t ht=>?_,hs,hl⟩,fun ad h=>by obtain rfl:=Option.some.inj h;exact hbg⟩;obtain rfl:=Option.some.inj h;refine ⟨?_,?_,?_⟩
  ·rw [Addr.add_lit,Nat.zero_add];exact cell t 0 ht (by omega)
  ·rw [Addr.add_lit,Addr.add_lit,Nat.zero_add];exact cell t 1 ht (by omega)
  ·rw [Addr.add_lit,Addr.add_lit,Nat.zero_add];exact cell t 2 ht (by omega)
end Go.Proofs.YtjffpimfngdggaaGreat.K
