/- PNm QRn -/
import Derived.Test.YtjffpimfngdggaaGreatTk
import Derived.Test.YtjffpimfngdggaaGreatFs08
import Derived.Test.YtjffpimfngdggaaGreatFs04
import Derived.Test.YtjffpimfngdggaaGreatFs07
set_option maxRecDepth 100000
set_option maxHeartbeats 1000000
namespace Go.Proofs.YtjffpimfngdggaaGreat
section
open Go.RowKit
attribute [local go_sem ↓] zr zq vU vS
attribute [local go_sem] jb xt zE zi qq zk
theorem qI (a:Pv):Array.foldl (fun cs x=>cs.setIfInBounds x.snd x.fst) #[(PC pv0)[0]!,(PC pv0)[1]!] (PC a).zipIdx 0 2=PC a:=rfl
attribute [local go_sem] qI
theorem kR (W:World) (a:Pv) (hS:PSrc W a):PRow (W.alloc (.cells (PC a) 26)) (some ⟨W.heap.size,0,none⟩) 1 [a]:=
 zcI _ _ [a] (PC a) (by simp [pcs]) _ 1 rfl (heap_alloc_new W _) (fun p h=>by obtain rfl:=List.mem_singleton.1 h;exact hS.below (ze _ _))
theorem wK {W:World} {a:Pv} (hS:PSrc W a):wt [a] <= 8796093022207:=by have h1:=hS.cloud.big;have h2:=hS.cloud.len;simp only [wt];omega
theorem xg (ao:Option Addr) (q cap:Nat) (X:List Pv) (w:World) (hS:PRow w ao q X) (hN:wt X <= 8796093022207) (hq:q <= 8796093022207) :
  Calls Tryz.prog 56 #[.slice ao q cap] w fun e w'=>GivesP w w' e (CanonOf (runsOf X)):=by
 have HS:=hide hS;have HN:=hide hN;clear hS hN;have b0:=ze w (.cells (PC pv0) 26);have HB0:=hide b0;have HP0:=hide (zm w pv0);clear b0;go_enter Tryz.func56,Tryz.ntmps56;go_wp2_with fail;refine (xx ao q cap X _ (HS.out.below HB0.out) HN.out hq).mono ?_;rintro e w1 ⟨F,rfl,⟨S1,hF,_,_⟩,b1⟩;have HF:=hide hF;have HB1:=hide b1;have HS1:=hide S1;clear b1 S1 hF;go_wp2_with fail;refine (qU F _ HS1.out).mono ?_;rintro e w2 ⟨p,rfl,S2,n2,b2,c2⟩;obtain ⟨s1,e1,e2,e3,e4⟩:=qt (w:=w) ((HP0.out.below HB1.out).below b2) S2 (n2.mono (by have:=HB1.out.size;simp at this;omega)) (HB0.out.trans ((HB1.out.trans (b2.mono HB1.out.size)).mono HB0.out.size)) (Nat.le_refl _);have HE1:=hide e1;have HE2:Hid (GivesP w (w2.setRow w.heap.size (PC p)) (.returned (PV p)) (CanonOf (runsOf X))):=⟨p,rfl,e2,e3,e4,c2.congr HF.out⟩
 clear S2 n2 b2 c2 e1 e2 e3 e4;go_wp2_with fail;exact bodyPost_ret (v:=PV p) (resP Tryz.results56 rfl HE1.out) rfl HE2.out
theorem jP (a:Pv) (w:World) (hS:PSrc w a) :
  Calls Tryz.prog 116 #[PV a] w fun e w'=>GivesP w w' e (CanonOf (runsAt a.P)):=by
 have b0:=ze w (.cells (PC a) 26);have b1:=ze (w.alloc (.cells (PC a) 26)) (.cells (PC pv0) 26);have hp1:=zm (w.alloc (.cells (PC a) 26)) pv0
 have l1:=zj ((zm w a).below b1).at
 rw [World.size_alloc] at hp1;have HB1:=hide (b0.trans (b1.mono b0.size));have HS:=hide (hS.below HB1.out);have HP1:=hide hp1;have HW:=hide (wK hS);clear hS b0 b1 hp1;go_enter Tryz.func116,Tryz.ntmps116;go_wp2_with fail;have R:=kR _ a HS.out;have bl:=ze ((w.alloc (.cells (PC a) 26)).alloc (.cells (PC pv0) 26)) (.cells (PC a) 26);simp only [World.size_alloc] at R;refine (xx _ 1 1 [a] _ R HW.out (by omega)).mono ?_;rintro e w1 ⟨F,rfl,⟨S1,hF,_,_⟩,b2⟩;have HF:=hide hF;have HB2:=hide (bl.trans (b2.mono bl.size));have HS1:=hide S1;clear b2 S1 hF R bl;go_wp2_with fail;refine (qU F _ HS1.out).mono ?_;rintro e w2 ⟨p,rfl,S2,n2,b2,c2⟩;obtain ⟨s1,e1,e2,e3,e4⟩:=qt (w:=w) ((HP1.out.below HB2.out).below b2) S2 (n2.mono (by have:=HB2.out.size;simp at this;omega)) (HB1.out.trans ((HB2.out.trans (b2.mono HB2.out.size)).mono HB1.out.size)) (by omega)
 have HE1:=hide e1;have HE2:Hid (GivesP w (w2.setRow (w.heap.size+1) (PC p)) (.returned (PV p)) (CanonOf (runsAt a.P))):=⟨p,rfl,e2,e3,e4,c2.congr (fun r hr=>by rw [HF.out r hr,xf])⟩;clear S2 n2 b2 c2 e1 e2 e3 e4;go_wp2_with fail;exact bodyPost_ret (v:=PV p) (resP Tryz.results116 rfl HE1.out) rfl HE2.out
def sumZ (N:Nat -> List Rn):Nat -> Int
 | 0=>0
 | k+1=>sumZ N k+sz (N k)
def SizeP (G:Nat -> List Rn) (z:Int):Prop:=∃ N,(∀ r,r < 16 -> NormOf (G r) (N r))/\z=sumZ N 16
theorem zbJ {N:Nat -> List Rn}:∀ k,(∀ r,r < k -> form 1 (N r)) -> 0 <= sumZ N k/\sumZ N k <= k * 1000000000
 | 0,_=>by simp [sumZ]
 | k+1,h=>by
  have h1:=zbJ k (fun r hr=>h r (by omega));have h2:=zbH (h k (by omega))
  have h3:sz (N k) <= 1000000000:=by
   rcases h2.2.1 with e | e
   ·rw [e];simp [sz]
   ·omega
  rw [sumZ]
  push_cast
  omega
theorem yQ {N N':Nat -> List Rn}:∀ k,(∀ r,r < k -> N r=N' r) -> sumZ N k=sumZ N' k
 | 0,_=>rfl
 | k+1,h=>by rw [sumZ,sumZ,yQ k (fun r hr=>h r (by omega)),h k (by omega)]
theorem zf7 (F:Nat -> Sl) (k:Nat) (hk:k < 16) (w:World):(Instr.index 136 (SAv F) (.int .i64 (k:Int))).run Tryz.prog w = .ok (.slice (F k).ao (F k).n (F k).cap) w:=by
 have h1:0 <= (k:Int)/\(k:Int) < 16:=by omega
 have h2:=ziE F k hk
 have hagg:(isAgg 134).run Tryz.prog w = .ok false w:=by
  unfold isAgg;rw [Sem.run_bind,run_underlying Tryz.underlying134 w];rfl
 simp [Instr.index,run_underlying Tryz.underlying136,SAv,asIntOf,Result.andThen,part,hagg,h2,slv];omega
def ixA (x i:Value):Sem Value:=Instr.index 136 x i
theorem zhG (x i:Value):Instr.index 136 x i=ixA x i:=rfl
attribute [local go_sem ↓] zhG
theorem za9 (a:Pv) (w:World) (hS:PSrc w a) :
  Calls Tryz.prog 49 #[PV a] w fun e w'=>∃ z,e = .returned (.int .i64 z)/\SizeP (runsAt a.P) z/\Below w.heap.size w w':=by
 have b0:=ze w (.cells (PC a) 26)
 have l1:=zj (zm w a).at
 have HB1:=hide b0;have HS:=hide (hS.below HB1.out);have HW:=hide (wK hS);clear hS b0;go_enter Tryz.func49,Tryz.ntmps49;go_wp2_with fail;have R:=kR _ a HS.out;have bl:=ze (w.alloc (.cells (PC a) 26)) (.cells (PC a) 26);simp only [World.size_alloc] at R;refine (xx _ 1 1 [a] _ R HW.out (by omega)).mono ?_;rintro e w1 ⟨F,rfl,⟨S1,hF,_,_⟩,b2⟩;have HF:=hide hF;have HB2:=hide (HB1.out.trans ((bl.trans (b2.mono bl.size)).mono HB1.out.size));have HS1:=hide S1;clear b2 S1 hF R bl;go_wp2_with fail;go_loopw [3,9] (fun s i wr=>∃ (k:Nat) (N:Nat -> List Rn),k <= 16/\s = .int .i64 (sumZ N k)/\i = .int .i64 k/\Hid (∀ r,r < k -> NormOf (F r).L (N r))/\Hid (Below w1.heap.size w1 wr)) (fun _ i _=>16 - (intOf i).toNat)
 case atStart=>exact ⟨0,fun _=>[],Nat.zero_le _,rfl,rfl,fun r h=>by omega,Below.refl _ _⟩
 case round =>
  obtain ⟨k,N,hk,rfl,rfl,HN,HB⟩:=hrel
  rename World=>w3
  have hbd:=zbJ (N:=N) k (fun r hr=>(HN.out r hr).1);by_cases hlt:k < 16
  ·have c1:(ixA (SAv F) (.int .i64 (k:Int))).run Tryz.prog w3=_:=zf7 F k hlt w3;have HSF:=hide ((HS1.out k hlt).below HB.out);obtain ⟨sa,sn,sc,hf⟩:∃ sa sn sc,(F k).ao=sa/\(F k).n=sn/\(F k).cap=sc:=⟨_,_,_,rfl,rfl,rfl⟩;rw [hf.1,hf.2.1,hf.2.2] at c1 HSF;clear hf;go_wp2_with fail;refine (zf3 sa sn sc (F k).L _ HSF.out).mono ?_;rintro e w4 ⟨z,rfl,hz,b4⟩;obtain ⟨R,hR,hzR⟩:=hz;have h2:=zbH hR.1
   have h3:0 <= z/\z <= 1000000000:=by
    rw [hzR];refine ⟨h2.1,?_⟩;rcases h2.2.1 with e | e
    ·rw [e];simp [sz]
    ·omega
   have HNN:Hid (∀ r,r < k+1 -> NormOf (F r).L ((fun r=>if r=k then R else N r) r)):=fun r hr=>by
    dsimp only;by_cases e:r=k
    ·subst e;rw [if_pos rfl];exact hR
    ·rw [if_neg e];exact HN.out r (by omega)
   have HSZ:Hid (sumZ N k+z=sumZ (fun r=>if r=k then R else N r) (k+1)):=by
    have h:sumZ (fun r=>if r=k then R else N r) k=sumZ N k:=yQ k (fun r hr=>by simp;omega)
    show _=_
    rw [sumZ,h,hzR];simp
   have HB4:=wTr HB b4;obtain ⟨y,Hy⟩:∃ y,Hid (sumZ N k=y):=⟨_,rfl⟩;rw [Hy.out] at hbd HSZ ⊢;clear hR hzR h2 b4;go_wp2_with fail;go_roundw
   case rel=>exact ⟨k+1,fun r=>if r=k then R else N r,by omega,by rw [<- HSZ.out],by go_num,HNN.out,HB4.out⟩
   case measure=>simp [intOf];omega
  ·obtain rfl:k=16:=by omega
   have HR:Hid (SizeP (runsAt a.P) (sumZ N 16)/\Below w.heap.size w w3):=⟨⟨N,fun r hr=>by rw [<- xf,<- HF.out r hr];exact HN.out r hr,rfl⟩,HB2.out.trans (HB.out.mono HB2.out.size)⟩;go_wp2_with fail;go_ret;exact ⟨_,rfl,HR.out⟩
theorem SizeP.zero {G:Nat -> List Rn} {z:Int} (h:SizeP G z):z=0↔∀ r,r < 16 -> ∀ n,¬ mem (G r) n:=by
 obtain ⟨N,hN,rfl⟩:=h
 have key:∀ k,k <= 16 -> (sumZ N k=0↔∀ r,r < k -> N r=[]):=by
  intro k
  induction k with
  | zero=>intro _;exact ⟨fun _ r h=>by omega,fun _=>rfl⟩
  | succ k ih =>
   intro hk;have h1:=zbJ (N:=N) k (fun r hr=>(hN r (by omega)).1);have h2:=zbH (hN k (by omega)).1;rw [sumZ];constructor
   ·intro h r hr;by_cases e:r=k
    ·subst e;exact h2.2.2 (by omega)
    ·exact (ih (by omega)).1 (by omega) r (by omega)
   ·intro h;rw [(ih (by omega)).2 (fun r hr=>h r (by omega)),h k (by omega)];rfl
 rw [key 16 (by omega)];constructor
 ·intro h r hr n hm;have:=((hN r hr).2 n).2 hm;rw [h r hr] at this;exact q8 n this
 ·intro h r hr;exact zdN (Int.le_refl _) (hN r hr).1 (fun n hm=>h r hr n (((hN r hr).2 n).1 hm))
theorem jC (a:Pv) (w:World) (hS:PSrc w a) :
  Calls Tryz.prog 148 #[PV a] w fun e w'=>∃ b,e = .returned (.bool b)/\(b=true↔∀ r,r < 16 -> ∀ n,¬ mem (runsAt a.P r) n)/\Below w.heap.size w w':=by
 have b0:=ze w (.cells (PC a) 26)
 have l1:=zj (zm w a).at
 have HB1:=hide b0;have HS:=hide (hS.below HB1.out);clear hS b0;go_enter Tryz.func148,Tryz.ntmps148;go_wp2_with fail;refine (za9 a _ HS.out).mono ?_;rintro e w2 ⟨z,rfl,hz,b2⟩
 have HZ:Hid ((z == 0)=true↔∀ r,r < 16 -> ∀ n,¬ mem (runsAt a.P r) n):=by rw [<- hz.zero];simp [Hid]
 have HB2:=wTr HB1 b2;clear hz b2;go_wp2_with fail;go_ret;exact ⟨_,rfl,HZ.out,HB2.out⟩
end
section
open Go.RowKit
attribute [local go_sem ↓] zr zq kV kF
attribute [local go_sem] xJ qY zE zi qq zk qI
theorem zab (a:Pv) (w:World) (hS:PSrc w a):Calls Tryz.prog 92 #[PV a] w fun e w'=>GivesSet w w' e (runsAt a.P):=by
 have b1:=ze w (.cells (PC a) 26);have b2:=ze (w.alloc (.cells (PC a) 26)) (.cells (JA fun _=>si0) 141);have X2:=qC (w.alloc (.cells (PC a) 26)) 141 (fun _=>si0);rw [World.size_alloc] at X2;have HXA:=hide ((zm w a).below b2);have HX2:=hide X2;have HBK:=hide (b1.trans (b2.mono b1.size));have HS:=hide (hS.below HBK.out);clear b1 b2 X2 hS;obtain ⟨wk,hwk⟩:∃ wk,(w.alloc (.cells (PC a) 26)).alloc (.cells (JA fun _=>si0) 141)=wk:=⟨_,rfl⟩
 have HWZ:Hid (wk.heap.size=w.heap.size+1+1):=by show _=_;rw [<- hwk];simp
 rw [hwk] at HXA HX2 HBK HS
 have l1:=zj HXA.out.at
 have b3:=ze wk (.cells (PC a) 26);have HR:=hide (kR wk a HS.out);have HWT:=hide (wK HS.out);have HB3:=wTr HBK b3;have HX3:=hide (HX2.out.below b3);clear b3;go_enter Tryz.func92,Tryz.ntmps92;go_wp2_with fail;clear hwk;refine (zcN _ 1 1 [a] _ HR.out HWT.out (by omega)).mono ?_;rintro e w2 ⟨T,N,rfl,hT,b4⟩;have HX4:=HX3.out.below b4;have hst:=bL (F':=T) HX4;have HRes:=hide (ISets.setRow (F':=T) HX4)
 have HFin:Hid (GivesSet w (w2.setRow (w.heap.size+1) (JA T)) (.returned (JAv T)) (runsAt a.P)):=by
  refine ⟨T,N,rfl,fun r hr=>?_,zh (HB3.out.trans (b4.mono HB3.out.size)) (by omega)⟩;obtain ⟨h1,h2,h3⟩:=hT r hr;rw [xf] at h3;simp only [World.size_alloc] at h2;have hwz:=HWZ.out;exact ⟨km h1 (fun ad h=>setRow_other _ _ _ _ (fun e=>by have:=h2 ad h;omega)),fun ad h=>by have:=h2 ad h;omega,h3⟩
 clear hT b4 HX4 l1;go_wp2_with fail;exact bodyPost_ret (v:=JAv T) (resJ Tryz.results92 rfl HRes.out) rfl HFin.out
theorem zdh {G N:Nat -> List Rn} (h:∀ r,r < 16 -> NormOf (G r) (N r)) {P:Pst} (hP:P=canonP N):CanonOf G P:=⟨N,h,hP⟩
theorem jz (a:Pv) (w:World) (hS:PSrc w a):Calls Tryz.prog 93 #[PV a] w fun e w'=>GivesP w w' e (CanonOf (runsAt a.P)):=by
 have b1:=ze w (.cells (PC a) 26);have b2:=ze (w.alloc (.cells (PC a) 26)) (.cells (PC pv0) 26);have X2:=zm (w.alloc (.cells (PC a) 26)) pv0;rw [World.size_alloc] at X2;have HXA:=hide ((zm w a).below b2);have HX2:=hide X2;have HBK:=hide (b1.trans (b2.mono b1.size));have HS:=hide (hS.below HBK.out);clear b1 b2 X2 hS;obtain ⟨wk,hwk⟩:∃ wk,(w.alloc (.cells (PC a) 26)).alloc (.cells (PC pv0) 26)=wk:=⟨_,rfl⟩
 have HWZ:Hid (wk.heap.size=w.heap.size+1+1):=by show _=_;rw [<- hwk];simp
 rw [hwk] at HXA HX2 HBK HS
 have l1:=zj HXA.out.at
 go_enter Tryz.func93,Tryz.ntmps93;go_wp2_with fail;clear hwk;refine (zab a _ HS.out).mono ?_;rintro e w2 ⟨T,N,rfl,hT,b4⟩;have HT:=hide hT;have HB4:=hide b4;have HX4:=hide (HX2.out.below b4);clear hT b4 l1;go_wp2_with fail;refine (ko T N _ (fun r hr=>⟨(HT.out r hr).1,(HT.out r hr).2.2.1⟩)).mono ?_;rintro e w3 ⟨p,rfl,S3,n3,b5,c5⟩;have hwz:=HWZ.out;have hsz:=HB4.out.size;obtain ⟨e1,e2,e3,e4,e5⟩:=qt (w:=w) (HX4.out.below b5) S3 (n3.mono (by omega)) (HBK.out.trans ((HB4.out.mono HBK.out.size).trans (b5.mono (Nat.le_trans HBK.out.size hsz)))) (by omega);have HRes:=hide e2;have HFin:Hid (GivesP w _ (.returned (PV p)) (CanonOf (runsAt a.P))):=⟨p,rfl,e3,e4,e5,zdh (fun r hr=>(HT.out r hr).2.2) c5⟩;clear S3 n3 b5 c5 e2 e3 e4 e5 hwz hsz;go_wp2_with fail;exact bodyPost_ret (v:=PV p) (resP Tryz.results93 rfl HRes.out) rfl HFin.out
theorem zbW (ao:Option Addr) (q cap:Nat) (X:List Pv) (w:World) (hS:PRow w ao q X) (hN:wt X <= 8796093022207) (hq:q <= 8796093022207):Calls Tryz.prog 117 #[.slice ao q cap] w fun e w'=>GivesP w w' e (CanonOf (runsOf X)):=by
 have b1:=ze w (.cells (PC pv0) 26);have HX2:=hide (zm w pv0);have HBK:=hide b1;have HS:=hide (hS.below b1);clear b1 hS;obtain ⟨wk,hwk⟩:∃ wk,w.alloc (.cells (PC pv0) 26)=wk:=⟨_,rfl⟩
 have HWZ:Hid (wk.heap.size=w.heap.size+1):=by show _=_;rw [<- hwk];simp
 rw [hwk] at HX2 HBK HS;go_enter Tryz.func117,Tryz.ntmps117;go_wp2_with fail;clear hwk;refine (zcN ao q cap X _ HS.out hN hq).mono ?_;rintro e w2 ⟨T,N,rfl,hT,b4⟩;have HT:=hide hT;have HB4:=hide b4;have HX4:=hide (HX2.out.below b4);clear hT b4;go_wp2_with fail;refine (ko T N _ (fun r hr=>⟨(HT.out r hr).1,(HT.out r hr).2.2.1⟩)).mono ?_;rintro e w3 ⟨p,rfl,S3,n3,b5,c5⟩;have hwz:=HWZ.out;have hsz:=HB4.out.size;obtain ⟨e1,e2,e3,e4,e5⟩:=qt (w:=w) (HX4.out.below b5) S3 (n3.mono (by omega)) (HBK.out.trans ((HB4.out.mono HBK.out.size).trans (b5.mono (Nat.le_trans HBK.out.size hsz)))) (by omega);have HRes:=hide e2;have HFin:Hid (GivesP w _ (.returned (PV p)) (CanonOf (runsOf X))):=⟨p,rfl,e3,e4,e5,zdh (fun r hr=>(HT.out r hr).2.2) c5⟩;clear S3 n3 b5 c5 e2 e3 e4 e5 hwz hsz;go_wp2_with fail;exact bodyPost_ret (v:=PV p) (resP Tryz.results117 rfl HRes.out) rfl HFin.out
end
end Go.Proofs.YtjffpimfngdggaaGreat
