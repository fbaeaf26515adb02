/- PCt SNe PCf Gsc -/
import Derived.Test.YtcilfelgpmfehaaGreatBj11
import Derived.Shelf.Small.Strs
set_option maxRecDepth 100000
set_option maxHeartbeats 4000000
namespace Go.Proofs.YtcilfelgpmfehaaGreat
section
open Go.RowKit
theorem DO (w:World) (x y z:Int) (C:Array Value) (hC:C=#[.int .i64 x,.int .i64 y,.int .i64 z]) (T:TypeId):V.Src (w.alloc (.cells C T)) (some ⟨w.heap.size,0,none⟩) 3 3 [x,y,z]:=by
 subst hC;refine ⟨rfl,fun h=>(by cases h),fun ad h t ht=>?_⟩;obtain rfl:=Option.some.inj h;rw [Addr.add_lit,Nat.zero_add,World.cell?_alloc_new]
 have:t=0∨t=1∨t=2:=by omega
 rcases this with rfl | rfl | rfl <;> rfl
attribute [local go_sem ↓] qX xu
attribute [local go_sem] qS qi xW qy
theorem zgE (x y:Sn):orL [au x.rep y.rep,au x.lo y.lo,au x.hi y.hi]=cQ x y:=by
 unfold cQ;simp only [orL];by_cases e:au x.hi y.hi=0
 ·rw [if_pos e,e]
 ·rw [if_neg e]
theorem zfQ (x y:Sn) (ao:Option Addr) (w:World) (hS:V.Src w ao 3 3 [au x.rep y.rep,au x.lo y.lo,au x.hi y.hi]) :
  Calls Tryz.prog 121 #[.slice ao 3 3] w fun e w'=>e = .returned (.int .i64 (cQ x y))/\Below w.heap.size w w':=by
 rw [<- zgE];exact zcW ao 3 3 _ w hS (by omega)
def PhC (sx sy:Sn) (w:World) (_:World):Nat -> Value -> World -> Prop
 | 0,x,_=>x = .pointer (some ⟨w.heap.size,0,none⟩)
 | 1,x,_=>x = .int .i64 sx.rep
 | 2,x,_=>x = .pointer (some ⟨w.heap.size+1,0,none⟩)
 | 3,x,_=>x = .int .i64 sy.rep
 | 4,x,_=>x = .int .i64 (au sx.rep sy.rep)
 | 5,x,_=>x = .pointer (some ⟨w.heap.size,1,none⟩)
 | 6,x,_=>x = .int .i64 sx.lo
 | 7,x,_=>x = .pointer (some ⟨w.heap.size+1,1,none⟩)
 | 8,x,_=>x = .int .i64 sy.lo
 | 9,x,_=>x = .int .i64 (au sx.lo sy.lo)
 | 10,x,_=>x = .pointer (some ⟨w.heap.size,2,none⟩)
 | 11,x,_=>x = .int .i64 sx.hi
 | 12,x,_=>x = .pointer (some ⟨w.heap.size+1,2,none⟩)
 | 13,x,_=>x = .int .i64 sy.hi
 | 14,x,_=>x = .int .i64 (au sx.hi sy.hi)
 | 15,x,W=>∃ g,x = .slice (some ⟨g,0,none⟩) 3 3/\V.Src W (some ⟨g,0,none⟩) 3 3 [au sx.rep sy.rep,au sx.lo sy.lo,au sx.hi sy.hi]
 | 16,x,_=>x = .int .i64 (cQ sx sy)
 | 17,x,_=>x = .int .i64 (cQ sx sy)
 | _,_,_=>True
theorem qj (sx sy:Sn) (w:World) (W0:World):od (PhC sx sy w W0):=fun i x W W' h hb=>match i with
 | 0=>h
 | 1=>h
 | 2=>h
 | 3=>h
 | 4=>h
 | 5=>h
 | 6=>h
 | 7=>h
 | 8=>h
 | 9=>h
 | 10=>h
 | 11=>h
 | 12=>h
 | 13=>h
 | 14=>h
 | 15=>by obtain ⟨g,e,R⟩:=h;exact ⟨g,e,R.below hb⟩
 | 16=>h
 | 17=>h
 | _+18=>trivial
theorem stC {sx sy:Sn} {w wk:World} (HX:Hid (cZ wk w.heap.size sx)) (HY:Hid (cZ wk (w.heap.size+1) sy)) {Q:Exit -> Act -> World -> Prop} :
  ∀ (l:Array Bool) (x:Act) (W:World),(∃ v1x0 v1x1 v1x2 v1x3 v1x4 v1x5 v1x6 v1x7 v1x8 v1x9 v1x10 v1x11 v1x12 v1x13 v1x14 v1x15 v1x16 v1x17,x={ tmps:=#[SV sx,SV sy,ptr w.heap.size,ptr (w.heap.size+1),v1x17,v1x0,v1x1,v1x2,v1x3,v1x4,v1x5,v1x6,v1x7,v1x8,v1x9,v1x10,v1x11,v1x12,v1x13,v1x14,v1x15,v1x16],defers:=[] }/\BI 18 25 wk (PhC sx sy w wk) [] [] [] l W [v1x0,v1x1,v1x2,v1x3,v1x4,v1x5,v1x6,v1x7,v1x8,v1x9,v1x10,v1x11,v1x12,v1x13,v1x14,v1x15,v1x16,v1x17]) -> ∀ i,i∈Region.ready .any #[⟨some 5,.fieldAddr 69 (.tmp 2) 0,0, "sets.go:70",#[],none⟩,⟨some 6,.load 3 (.tmp 5),3, "sets.go:70",#[⟨0,.data⟩],none⟩,⟨some 7,.fieldAddr 69 (.tmp 3) 0,0, "sets.go:70",#[],none⟩,⟨some 8,.load 3 (.tmp 7),3, "sets.go:70",#[⟨2,.data⟩],none⟩,⟨some 9,.call ⟨.value (.func 122),#[.tmp 6,.tmp 8],#[3,3]⟩,3, "sets.go:70",#[⟨1,.data⟩,⟨3,.data⟩],none⟩,⟨some 10,.fieldAddr 69 (.tmp 2) 1,0, "sets.go:70",#[],none⟩,⟨some 11,.load 3 (.tmp 10),3, "sets.go:70",#[⟨5,.data⟩],none⟩,⟨some 12,.fieldAddr 69 (.tmp 3) 1,0, "sets.go:70",#[],none⟩,⟨some 13,.load 3 (.tmp 12),3, "sets.go:70",#[⟨7,.data⟩],none⟩,⟨some 14,.call ⟨.value (.func 122),#[.tmp 11,.tmp 13],#[3,3]⟩,3, "sets.go:70",#[⟨6,.data⟩,⟨8,.data⟩,⟨4,.chain⟩],none⟩,⟨some 15,.fieldAddr 69 (.tmp 2) 2,0, "sets.go:70",#[],none⟩,⟨some 16,.load 3 (.tmp 15),3, "sets.go:70",#[⟨10,.data⟩],none⟩,⟨some 17,.fieldAddr 69 (.tmp 3) 2,0, "sets.go:70",#[],none⟩,⟨some 18,.load 3 (.tmp 17),3, "sets.go:70",#[⟨12,.data⟩],none⟩,⟨some 19,.call ⟨.value (.func 122),#[.tmp 16,.tmp 18],#[3,3]⟩,3, "sets.go:70",#[⟨11,.data⟩,⟨13,.data⟩,⟨9,.chain⟩],none⟩,⟨some 20,.buildSlice 23 3 #[(0,.tmp 9),(1,.tmp 14),(2,.tmp 19)],23, "sets.go:70",#[⟨4,.data⟩,⟨9,.data⟩,⟨14,.data⟩],none⟩,⟨some 21,.call ⟨.value (.func 121),#[.tmp 20],#[23]⟩,3, "sets.go:70",#[⟨15,.data⟩,⟨14,.chain⟩],none⟩,⟨some 4,.assign (.tmp 21),3, "sets.go:70",#[⟨16,.data⟩,⟨16,.chain⟩,⟨0,.phase⟩,⟨1,.phase⟩,⟨2,.phase⟩,⟨3,.phase⟩,⟨4,.phase⟩,⟨5,.phase⟩,⟨6,.phase⟩,⟨7,.phase⟩,⟨8,.phase⟩,⟨9,.phase⟩,⟨10,.phase⟩,⟨11,.phase⟩,⟨12,.phase⟩,⟨13,.phase⟩,⟨14,.phase⟩,⟨15,.phase⟩,⟨16,.phase⟩],none⟩] l -> wpOp Tryz.prog #[⟨some 5,.fieldAddr 69 (.tmp 2) 0,0, "sets.go:70",#[],none⟩,⟨some 6,.load 3 (.tmp 5),3, "sets.go:70",#[⟨0,.data⟩],none⟩,⟨some 7,.fieldAddr 69 (.tmp 3) 0,0, "sets.go:70",#[],none⟩,⟨some 8,.load 3 (.tmp 7),3, "sets.go:70",#[⟨2,.data⟩],none⟩,⟨some 9,.call ⟨.value (.func 122),#[.tmp 6,.tmp 8],#[3,3]⟩,3, "sets.go:70",#[⟨1,.data⟩,⟨3,.data⟩],none⟩,⟨some 10,.fieldAddr 69 (.tmp 2) 1,0, "sets.go:70",#[],none⟩,⟨some 11,.load 3 (.tmp 10),3, "sets.go:70",#[⟨5,.data⟩],none⟩,⟨some 12,.fieldAddr 69 (.tmp 3) 1,0, "sets.go:70",#[],none⟩,⟨some 13,.load 3 (.tmp 12),3, "sets.go:70",#[⟨7,.data⟩],none⟩,⟨some 14,.call ⟨.value (.func 122),#[.tmp 11,.tmp 13],#[3,3]⟩,3, "sets.go:70",#[⟨6,.data⟩,⟨8,.data⟩,⟨4,.chain⟩],none⟩,⟨some 15,.fieldAddr 69 (.tmp 2) 2,0, "sets.go:70",#[],none⟩,⟨some 16,.load 3 (.tmp 15),3, "sets.go:70",#[⟨10,.data⟩],none⟩,⟨some 17,.fieldAddr 69 (.tmp 3) 2,0, "sets.go:70",#[],none⟩,⟨some 18,.load 3 (.tmp 17),3, "sets.go:70",#[⟨12,.data⟩],none⟩,⟨some 19,.call ⟨.value (.func 122),#[.tmp 16,.tmp 18],#[3,3]⟩,3, "sets.go:70",#[⟨11,.data⟩,⟨13,.data⟩,⟨9,.chain⟩],none⟩,⟨some 20,.buildSlice 23 3 #[(0,.tmp 9),(1,.tmp 14),(2,.tmp 19)],23, "sets.go:70",#[⟨4,.data⟩,⟨9,.data⟩,⟨14,.data⟩],none⟩,⟨some 21,.call ⟨.value (.func 121),#[.tmp 20],#[23]⟩,3, "sets.go:70",#[⟨15,.data⟩,⟨14,.chain⟩],none⟩,⟨some 4,.assign (.tmp 21),3, "sets.go:70",#[⟨16,.data⟩,⟨16,.chain⟩,⟨0,.phase⟩,⟨1,.phase⟩,⟨2,.phase⟩,⟨3,.phase⟩,⟨4,.phase⟩,⟨5,.phase⟩,⟨6,.phase⟩,⟨7,.phase⟩,⟨8,.phase⟩,⟨9,.phase⟩,⟨10,.phase⟩,⟨11,.phase⟩,⟨12,.phase⟩,⟨13,.phase⟩,⟨14,.phase⟩,⟨15,.phase⟩,⟨16,.phase⟩],none⟩] Q i (fun a' w'=>∃ v1x0 v1x1 v1x2 v1x3 v1x4 v1x5 v1x6 v1x7 v1x8 v1x9 v1x10 v1x11 v1x12 v1x13 v1x14 v1x15 v1x16 v1x17,a'={ tmps:=#[SV sx,SV sy,ptr w.heap.size,ptr (w.heap.size+1),v1x17,v1x0,v1x1,v1x2,v1x3,v1x4,v1x5,v1x6,v1x7,v1x8,v1x9,v1x10,v1x11,v1x12,v1x13,v1x14,v1x15,v1x16],defers:=[] }/\BI 18 25 wk (PhC sx sy w wk) [] [] [] (l.setIfInBounds i true) w' [v1x0,v1x1,v1x2,v1x3,v1x4,v1x5,v1x6,v1x7,v1x8,v1x9,v1x10,v1x11,v1x12,v1x13,v1x14,v1x15,v1x16,v1x17]) x W:=by
 rintro l x W ⟨v1x0,v1x1,v1x2,v1x3,v1x4,v1x5,v1x6,v1x7,v1x8,v1x9,v1x10,v1x11,v1x12,v1x13,v1x14,v1x15,v1x16,v1x17,rfl,T⟩ i hi;obtain ⟨cK,cL,aK⟩:=xH hi;have aS:=kE cL
 have hc:i=0∨i=1∨i=2∨i=3∨i=4∨i=5∨i=6∨i=7∨i=8∨i=9∨i=10∨i=11∨i=12∨i=13∨i=14∨i=15∨i=16∨i=17:=by have h:i < 18:=cK;omega
 have HT:=hide T;clear T;rcases hc with rfl | rfl | rfl | rfl | rfl | rfl | rfl | rfl | rfl | rfl | rfl | rfl | rfl | rfl | rfl | rfl | rfl | rfl
 ·have HL:=hide aS;clear hi cK cL aK aS;refine wpOp_step (o:=⟨some 5,.fieldAddr 69 (.tmp 2) 0,0, "sets.go:70",#[],none⟩) rfl (fun K hK=>?_);go_simp;exact hK _ _ ⟨.pointer (some ⟨w.heap.size,0,none⟩),v1x1,v1x2,v1x3,v1x4,v1x5,v1x6,v1x7,v1x8,v1x9,v1x10,v1x11,v1x12,v1x13,v1x14,v1x15,v1x16,v1x17,rfl,HT.out.plain (qj sx sy w wk) (Below.refl _ _) 0 (by decide) HL.out _ rfl (by simp) (by simp) (by decide)⟩
 ·have d0:=aK _ rfl { on:=0,ground:=Ground.data } (by simp) rfl;have e0:v1x0 = .pointer (some ⟨w.heap.size,0,none⟩):=HT.out.h 0 (by decide) d0 (fun hm=>absurd hm (by decide));subst e0;have HL:=hide aS;clear hi cK cL aK aS d0;have c1:=(HX.out.below HT.out.b).at.1;refine wpOp_step (o:=⟨some 6,.load 3 (.tmp 5),3, "sets.go:70",#[⟨0,.data⟩],none⟩) rfl (fun K hK=>?_);go_simp;exact hK _ _ ⟨_,.int .i64 sx.rep,v1x2,v1x3,v1x4,v1x5,v1x6,v1x7,v1x8,v1x9,v1x10,v1x11,v1x12,v1x13,v1x14,v1x15,v1x16,v1x17,rfl,HT.out.plain (qj sx sy w wk) (Below.refl _ _) 1 (by decide) HL.out _ rfl (by simp) (by simp) (by decide)⟩
 ·have HL:=hide aS;clear hi cK cL aK aS;refine wpOp_step (o:=⟨some 7,.fieldAddr 69 (.tmp 3) 0,0, "sets.go:70",#[],none⟩) rfl (fun K hK=>?_);go_simp;exact hK _ _ ⟨v1x0,v1x1,.pointer (some ⟨w.heap.size+1,0,none⟩),v1x3,v1x4,v1x5,v1x6,v1x7,v1x8,v1x9,v1x10,v1x11,v1x12,v1x13,v1x14,v1x15,v1x16,v1x17,rfl,HT.out.plain (qj sx sy w wk) (Below.refl _ _) 2 (by decide) HL.out _ rfl (by simp) (by simp) (by decide)⟩
 ·have d2:=aK _ rfl { on:=2,ground:=Ground.data } (by simp) rfl;have e2:v1x2 = .pointer (some ⟨w.heap.size+1,0,none⟩):=HT.out.h 2 (by decide) d2 (fun hm=>absurd hm (by decide));subst e2;have HL:=hide aS;clear hi cK cL aK aS d2;have c1:=(HY.out.below HT.out.b).at.1;refine wpOp_step (o:=⟨some 8,.load 3 (.tmp 7),3, "sets.go:70",#[⟨2,.data⟩],none⟩) rfl (fun K hK=>?_);go_simp;exact hK _ _ ⟨v1x0,v1x1,_,.int .i64 sy.rep,v1x4,v1x5,v1x6,v1x7,v1x8,v1x9,v1x10,v1x11,v1x12,v1x13,v1x14,v1x15,v1x16,v1x17,rfl,HT.out.plain (qj sx sy w wk) (Below.refl _ _) 3 (by decide) HL.out _ rfl (by simp) (by simp) (by decide)⟩
 ·have d1:=aK _ rfl { on:=1,ground:=Ground.data } (by simp) rfl;have d3:=aK _ rfl { on:=3,ground:=Ground.data } (by simp) rfl;have e1:v1x1 = .int .i64 sx.rep:=HT.out.h 1 (by decide) d1 (fun hm=>absurd hm (by decide));subst e1;have e3:v1x3 = .int .i64 sy.rep:=HT.out.h 3 (by decide) d3 (fun hm=>absurd hm (by decide));subst e3;have HL:=hide aS;clear hi cK cL aK aS d1 d3;refine wpOp_step (o:=⟨some 9,.call ⟨.value (.func 122),#[.tmp 6,.tmp 8],#[3,3]⟩,3, "sets.go:70",#[⟨1,.data⟩,⟨3,.data⟩],none⟩) rfl (fun K hK=>?_);go_simp;go_wp2_with fail;refine (wh sx.rep sy.rep _).mono ?_;rintro e w' ⟨rfl,pb⟩;exact hK _ _ ⟨v1x0,_,v1x2,_,.int .i64 (au sx.rep sy.rep),v1x5,v1x6,v1x7,v1x8,v1x9,v1x10,v1x11,v1x12,v1x13,v1x14,v1x15,v1x16,v1x17,rfl,HT.out.plain (qj sx sy w wk) pb 4 (by decide) HL.out _ rfl (by simp) (by simp) (by decide)⟩
 ·have HL:=hide aS;clear hi cK cL aK aS;refine wpOp_step (o:=⟨some 10,.fieldAddr 69 (.tmp 2) 1,0, "sets.go:70",#[],none⟩) rfl (fun K hK=>?_);go_simp;exact hK _ _ ⟨v1x0,v1x1,v1x2,v1x3,v1x4,.pointer (some ⟨w.heap.size,1,none⟩),v1x6,v1x7,v1x8,v1x9,v1x10,v1x11,v1x12,v1x13,v1x14,v1x15,v1x16,v1x17,rfl,HT.out.plain (qj sx sy w wk) (Below.refl _ _) 5 (by decide) HL.out _ rfl (by simp) (by simp) (by decide)⟩
 ·have d5:=aK _ rfl { on:=5,ground:=Ground.data } (by simp) rfl;have e5:v1x5 = .pointer (some ⟨w.heap.size,1,none⟩):=HT.out.h 5 (by decide) d5 (fun hm=>absurd hm (by decide));subst e5;have HL:=hide aS;clear hi cK cL aK aS d5;have c1:=(HX.out.below HT.out.b).at.2.1;refine wpOp_step (o:=⟨some 11,.load 3 (.tmp 10),3, "sets.go:70",#[⟨5,.data⟩],none⟩) rfl (fun K hK=>?_);go_simp;exact hK _ _ ⟨v1x0,v1x1,v1x2,v1x3,v1x4,_,.int .i64 sx.lo,v1x7,v1x8,v1x9,v1x10,v1x11,v1x12,v1x13,v1x14,v1x15,v1x16,v1x17,rfl,HT.out.plain (qj sx sy w wk) (Below.refl _ _) 6 (by decide) HL.out _ rfl (by simp) (by simp) (by decide)⟩
 ·have HL:=hide aS;clear hi cK cL aK aS;refine wpOp_step (o:=⟨some 12,.fieldAddr 69 (.tmp 3) 1,0, "sets.go:70",#[],none⟩) rfl (fun K hK=>?_);go_simp;exact hK _ _ ⟨v1x0,v1x1,v1x2,v1x3,v1x4,v1x5,v1x6,.pointer (some ⟨w.heap.size+1,1,none⟩),v1x8,v1x9,v1x10,v1x11,v1x12,v1x13,v1x14,v1x15,v1x16,v1x17,rfl,HT.out.plain (qj sx sy w wk) (Below.refl _ _) 7 (by decide) HL.out _ rfl (by simp) (by simp) (by decide)⟩
 ·have d7:=aK _ rfl { on:=7,ground:=Ground.data } (by simp) rfl;have e7:v1x7 = .pointer (some ⟨w.heap.size+1,1,none⟩):=HT.out.h 7 (by decide) d7 (fun hm=>absurd hm (by decide));subst e7;have HL:=hide aS;clear hi cK cL aK aS d7;have c1:=(HY.out.below HT.out.b).at.2.1;refine wpOp_step (o:=⟨some 13,.load 3 (.tmp 12),3, "sets.go:70",#[⟨7,.data⟩],none⟩) rfl (fun K hK=>?_);go_simp;exact hK _ _ ⟨v1x0,v1x1,v1x2,v1x3,v1x4,v1x5,v1x6,_,.int .i64 sy.lo,v1x9,v1x10,v1x11,v1x12,v1x13,v1x14,v1x15,v1x16,v1x17,rfl,HT.out.plain (qj sx sy w wk) (Below.refl _ _) 8 (by decide) HL.out _ rfl (by simp) (by simp) (by decide)⟩
 ·have d6:=aK _ rfl { on:=6,ground:=Ground.data } (by simp) rfl;have d8:=aK _ rfl { on:=8,ground:=Ground.data } (by simp) rfl;have e6:v1x6 = .int .i64 sx.lo:=HT.out.h 6 (by decide) d6 (fun hm=>absurd hm (by decide));subst e6;have e8:v1x8 = .int .i64 sy.lo:=HT.out.h 8 (by decide) d8 (fun hm=>absurd hm (by decide));subst e8;have HL:=hide aS;clear hi cK cL aK aS d6 d8;refine wpOp_step (o:=⟨some 14,.call ⟨.value (.func 122),#[.tmp 11,.tmp 13],#[3,3]⟩,3, "sets.go:70",#[⟨6,.data⟩,⟨8,.data⟩,⟨4,.chain⟩],none⟩) rfl (fun K hK=>?_);go_simp;go_wp2_with fail;refine (wh sx.lo sy.lo _).mono ?_;rintro e w' ⟨rfl,pb⟩;exact hK _ _ ⟨v1x0,v1x1,v1x2,v1x3,v1x4,v1x5,_,v1x7,_,.int .i64 (au sx.lo sy.lo),v1x10,v1x11,v1x12,v1x13,v1x14,v1x15,v1x16,v1x17,rfl,HT.out.plain (qj sx sy w wk) pb 9 (by decide) HL.out _ rfl (by simp) (by simp) (by decide)⟩
 ·have HL:=hide aS;clear hi cK cL aK aS;refine wpOp_step (o:=⟨some 15,.fieldAddr 69 (.tmp 2) 2,0, "sets.go:70",#[],none⟩) rfl (fun K hK=>?_);go_simp;exact hK _ _ ⟨v1x0,v1x1,v1x2,v1x3,v1x4,v1x5,v1x6,v1x7,v1x8,v1x9,.pointer (some ⟨w.heap.size,2,none⟩),v1x11,v1x12,v1x13,v1x14,v1x15,v1x16,v1x17,rfl,HT.out.plain (qj sx sy w wk) (Below.refl _ _) 10 (by decide) HL.out _ rfl (by simp) (by simp) (by decide)⟩
 ·have d10:=aK _ rfl { on:=10,ground:=Ground.data } (by simp) rfl;have e10:v1x10 = .pointer (some ⟨w.heap.size,2,none⟩):=HT.out.h 10 (by decide) d10 (fun hm=>absurd hm (by decide));subst e10;have HL:=hide aS;clear hi cK cL aK aS d10;have c1:=(HX.out.below HT.out.b).at.2.2;refine wpOp_step (o:=⟨some 16,.load 3 (.tmp 15),3, "sets.go:70",#[⟨10,.data⟩],none⟩) rfl (fun K hK=>?_);go_simp;exact hK _ _ ⟨v1x0,v1x1,v1x2,v1x3,v1x4,v1x5,v1x6,v1x7,v1x8,v1x9,_,.int .i64 sx.hi,v1x12,v1x13,v1x14,v1x15,v1x16,v1x17,rfl,HT.out.plain (qj sx sy w wk) (Below.refl _ _) 11 (by decide) HL.out _ rfl (by simp) (by simp) (by decide)⟩
 ·have HL:=hide aS;clear hi cK cL aK aS;refine wpOp_step (o:=⟨some 17,.fieldAddr 69 (.tmp 3) 2,0, "sets.go:70",#[],none⟩) rfl (fun K hK=>?_);go_simp;exact hK _ _ ⟨v1x0,v1x1,v1x2,v1x3,v1x4,v1x5,v1x6,v1x7,v1x8,v1x9,v1x10,v1x11,.pointer (some ⟨w.heap.size+1,2,none⟩),v1x13,v1x14,v1x15,v1x16,v1x17,rfl,HT.out.plain (qj sx sy w wk) (Below.refl _ _) 12 (by decide) HL.out _ rfl (by simp) (by simp) (by decide)⟩
 ·have d12:=aK _ rfl { on:=12,ground:=Ground.data } (by simp) rfl;have e12:v1x12 = .pointer (some ⟨w.heap.size+1,2,none⟩):=HT.out.h 12 (by decide) d12 (fun hm=>absurd hm (by decide));subst e12;have HL:=hide aS;clear hi cK cL aK aS d12;have c1:=(HY.out.below HT.out.b).at.2.2;refine wpOp_step (o:=⟨some 18,.load 3 (.tmp 17),3, "sets.go:70",#[⟨12,.data⟩],none⟩) rfl (fun K hK=>?_);go_simp;exact hK _ _ ⟨v1x0,v1x1,v1x2,v1x3,v1x4,v1x5,v1x6,v1x7,v1x8,v1x9,v1x10,v1x11,_,.int .i64 sy.hi,v1x14,v1x15,v1x16,v1x17,rfl,HT.out.plain (qj sx sy w wk) (Below.refl _ _) 13 (by decide) HL.out _ rfl (by simp) (by simp) (by decide)⟩
 ·have d11:=aK _ rfl { on:=11,ground:=Ground.data } (by simp) rfl;have d13:=aK _ rfl { on:=13,ground:=Ground.data } (by simp) rfl;have e11:v1x11 = .int .i64 sx.hi:=HT.out.h 11 (by decide) d11 (fun hm=>absurd hm (by decide));subst e11;have e13:v1x13 = .int .i64 sy.hi:=HT.out.h 13 (by decide) d13 (fun hm=>absurd hm (by decide));subst e13;have HL:=hide aS;clear hi cK cL aK aS d11 d13;refine wpOp_step (o:=⟨some 19,.call ⟨.value (.func 122),#[.tmp 16,.tmp 18],#[3,3]⟩,3, "sets.go:70",#[⟨11,.data⟩,⟨13,.data⟩,⟨9,.chain⟩],none⟩) rfl (fun K hK=>?_);go_simp;go_wp2_with fail;refine (wh sx.hi sy.hi _).mono ?_;rintro e w' ⟨rfl,pb⟩;exact hK _ _ ⟨v1x0,v1x1,v1x2,v1x3,v1x4,v1x5,v1x6,v1x7,v1x8,v1x9,v1x10,_,v1x12,_,.int .i64 (au sx.hi sy.hi),v1x15,v1x16,v1x17,rfl,HT.out.plain (qj sx sy w wk) pb 14 (by decide) HL.out _ rfl (by simp) (by simp) (by decide)⟩
 ·have d4:=aK _ rfl { on:=4,ground:=Ground.data } (by simp) rfl;have d9:=aK _ rfl { on:=9,ground:=Ground.data } (by simp) rfl;have d14:=aK _ rfl { on:=14,ground:=Ground.data } (by simp) rfl;have e4:v1x4 = .int .i64 (au sx.rep sy.rep):=HT.out.h 4 (by decide) d4 (fun hm=>absurd hm (by decide));subst e4;have e9:v1x9 = .int .i64 (au sx.lo sy.lo):=HT.out.h 9 (by decide) d9 (fun hm=>absurd hm (by decide));subst e9;have e14:v1x14 = .int .i64 (au sx.hi sy.hi):=HT.out.h 14 (by decide) d14 (fun hm=>absurd hm (by decide));subst e14;have HL:=hide aS;clear hi cK cL aK aS d4 d9 d14;refine wpOp_step (o:=⟨some 20,.buildSlice 23 3 #[(0,.tmp 9),(1,.tmp 14),(2,.tmp 19)],23, "sets.go:70",#[⟨4,.data⟩,⟨9,.data⟩,⟨14,.data⟩],none⟩) rfl (fun K hK=>?_);go_simp;exact hK _ _ ⟨v1x0,v1x1,v1x2,v1x3,_,v1x5,v1x6,v1x7,v1x8,_,v1x10,v1x11,v1x12,v1x13,_,.slice (some ⟨W.heap.size,0,none⟩) 3 3,v1x16,v1x17,rfl,HT.out.plain (qj sx sy w wk) (ze _ _) 15 (by decide) HL.out _ ⟨_,rfl,DO W _ _ _ _ rfl _⟩ (by simp) (by simp) (by decide)⟩
 ·have d15:=aK _ rfl { on:=15,ground:=Ground.data } (by simp) rfl;obtain ⟨g15,e15,R15⟩:∃ g,v1x15 = .slice (some ⟨g,0,none⟩) 3 3/\V.Src W (some ⟨g,0,none⟩) 3 3 [au sx.rep sy.rep,au sx.lo sy.lo,au sx.hi sy.hi]:=HT.out.h 15 (by decide) d15 (fun hm=>absurd hm (by decide));subst e15;have Gi:=hide R15;clear R15;have HL:=hide aS;clear hi cK cL aK aS d15;refine wpOp_step (o:=⟨some 21,.call ⟨.value (.func 121),#[.tmp 20],#[23]⟩,3, "sets.go:70",#[⟨15,.data⟩,⟨14,.chain⟩],none⟩) rfl (fun K hK=>?_);go_simp;go_wp2_with fail;refine (zfQ sx sy _ _ Gi.out).mono ?_;rintro e w' ⟨rfl,pb⟩;exact hK _ _ ⟨v1x0,v1x1,v1x2,v1x3,v1x4,v1x5,v1x6,v1x7,v1x8,v1x9,v1x10,v1x11,v1x12,v1x13,v1x14,_,.int .i64 (cQ sx sy),v1x17,rfl,HT.out.plain (qj sx sy w wk) pb 16 (by decide) HL.out _ rfl (by simp) (by simp) (by decide)⟩
 ·have d16:=aK _ rfl { on:=16,ground:=Ground.data } (by simp) rfl;have e16:v1x16 = .int .i64 (cQ sx sy):=HT.out.h 16 (by decide) d16 (fun hm=>absurd hm (by decide));subst e16;have HL:=hide aS;clear hi cK cL aK aS d16;refine wpOp_step (o:=⟨some 4,.assign (.tmp 21),3, "sets.go:70",#[⟨16,.data⟩,⟨16,.chain⟩,⟨0,.phase⟩,⟨1,.phase⟩,⟨2,.phase⟩,⟨3,.phase⟩,⟨4,.phase⟩,⟨5,.phase⟩,⟨6,.phase⟩,⟨7,.phase⟩,⟨8,.phase⟩,⟨9,.phase⟩,⟨10,.phase⟩,⟨11,.phase⟩,⟨12,.phase⟩,⟨13,.phase⟩,⟨14,.phase⟩,⟨15,.phase⟩,⟨16,.phase⟩],none⟩) rfl (fun K hK=>?_);go_simp;exact hK _ _ ⟨v1x0,v1x1,v1x2,v1x3,v1x4,v1x5,v1x6,v1x7,v1x8,v1x9,v1x10,v1x11,v1x12,v1x13,v1x14,v1x15,_,.int .i64 (cQ sx sy),rfl,HT.out.plain (qj sx sy w wk) (Below.refl _ _) 17 (by decide) HL.out _ rfl (by simp) (by simp) (by decide)⟩
theorem vf (sx sy:Sn) (w:World):Calls Tryz.prog 130 #[SV sx,SV sy] w fun e w'=>e = .returned (.int .i64 (cQ sx sy))/\Below w.heap.size w w':=by
 have b1:=ze w (.cells (SC sx) 69);have b2:=ze (w.alloc (.cells (SC sx) 69)) (.cells (SC sy) 69);have X1:=(qF w sx).below b2;have X2:=qF (w.alloc (.cells (SC sx) 69)) sy;rw [World.size_alloc] at X2;have HX:=hide X1;have HY:=hide X2;have ie:=hide (b1.trans (b2.mono b1.size));clear b1 b2 X1 X2;obtain ⟨wk,cq⟩:∃ wk,(w.alloc (.cells (SC sx) 69)).alloc (.cells (SC sy) 69)=wk:=⟨_,rfl⟩;rw [cq] at HX HY ie;go_enter Tryz.func130,Tryz.ntmps130;go_wp2_with fail;clear cq;refine qE (by kernel_rfl) (fun l x W=>∃ v1x0 v1x1 v1x2 v1x3 v1x4 v1x5 v1x6 v1x7 v1x8 v1x9 v1x10 v1x11 v1x12 v1x13 v1x14 v1x15 v1x16 v1x17,x={ tmps:=#[SV sx,SV sy,ptr w.heap.size,ptr (w.heap.size+1),v1x17,v1x0,v1x1,v1x2,v1x3,v1x4,v1x5,v1x6,v1x7,v1x8,v1x9,v1x10,v1x11,v1x12,v1x13,v1x14,v1x15,v1x16],defers:=[] }/\BI 18 25 wk (PhC sx sy w wk) [] [] [] l W [v1x0,v1x1,v1x2,v1x3,v1x4,v1x5,v1x6,v1x7,v1x8,v1x9,v1x10,v1x11,v1x12,v1x13,v1x14,v1x15,v1x16,v1x17]) ⟨undef,undef,undef,undef,undef,undef,undef,undef,undef,undef,undef,undef,undef,undef,undef,undef,undef,.int .i64 0,rfl,BI.start _ _ _ _ _ _ _ _ rfl⟩ ?_ ?_ ?_
 ·rintro l x W ⟨v1x0,v1x1,v1x2,v1x3,v1x4,v1x5,v1x6,v1x7,v1x8,v1x9,v1x10,v1x11,v1x12,v1x13,v1x14,v1x15,v1x16,v1x17,rfl,T⟩;exact T.sz
 ·exact stC HX HY
 ·rintro l x W ⟨v1x0,v1x1,v1x2,v1x3,v1x4,v1x5,v1x6,v1x7,v1x8,v1x9,v1x10,v1x11,v1x12,v1x13,v1x14,v1x15,v1x16,v1x17,rfl,T⟩ ej;have ch:=fun i (hi:i < 18)=>xA (by kernel_rfl) T.sz ej i hi;have HT:=hide T;clear T ej;have e0:v1x0 = .pointer (some ⟨w.heap.size,0,none⟩):=HT.out.h 0 (by decide) (ch 0 (by decide)) (fun hm=>absurd hm (by decide));subst e0;have e1:v1x1 = .int .i64 sx.rep:=HT.out.h 1 (by decide) (ch 1 (by decide)) (fun hm=>absurd hm (by decide));subst e1;have e2:v1x2 = .pointer (some ⟨w.heap.size+1,0,none⟩):=HT.out.h 2 (by decide) (ch 2 (by decide)) (fun hm=>absurd hm (by decide));subst e2;have e3:v1x3 = .int .i64 sy.rep:=HT.out.h 3 (by decide) (ch 3 (by decide)) (fun hm=>absurd hm (by decide));subst e3;have e4:v1x4 = .int .i64 (au sx.rep sy.rep):=HT.out.h 4 (by decide) (ch 4 (by decide)) (fun hm=>absurd hm (by decide))
  subst e4;have e5:v1x5 = .pointer (some ⟨w.heap.size,1,none⟩):=HT.out.h 5 (by decide) (ch 5 (by decide)) (fun hm=>absurd hm (by decide));subst e5;have e6:v1x6 = .int .i64 sx.lo:=HT.out.h 6 (by decide) (ch 6 (by decide)) (fun hm=>absurd hm (by decide));subst e6;have e7:v1x7 = .pointer (some ⟨w.heap.size+1,1,none⟩):=HT.out.h 7 (by decide) (ch 7 (by decide)) (fun hm=>absurd hm (by decide));subst e7;have e8:v1x8 = .int .i64 sy.lo:=HT.out.h 8 (by decide) (ch 8 (by decide)) (fun hm=>absurd hm (by decide));subst e8;have e9:v1x9 = .int .i64 (au sx.lo sy.lo):=HT.out.h 9 (by decide) (ch 9 (by decide)) (fun hm=>absurd hm (by decide));subst e9;have e10:v1x10 = .pointer (some ⟨w.heap.size,2,none⟩):=HT.out.h 10 (by decide) (ch 10 (by decide)) (fun hm=>absurd hm (by decide));subst e10;have e11:v1x11 = .int .i64 sx.hi:=HT.out.h 11 (by decide) (ch 11 (by decide)) (fun hm=>absurd hm (by decide))
  subst e11;have e12:v1x12 = .pointer (some ⟨w.heap.size+1,2,none⟩):=HT.out.h 12 (by decide) (ch 12 (by decide)) (fun hm=>absurd hm (by decide));subst e12;have e13:v1x13 = .int .i64 sy.hi:=HT.out.h 13 (by decide) (ch 13 (by decide)) (fun hm=>absurd hm (by decide));subst e13;have e14:v1x14 = .int .i64 (au sx.hi sy.hi):=HT.out.h 14 (by decide) (ch 14 (by decide)) (fun hm=>absurd hm (by decide));subst e14;have e16:v1x16 = .int .i64 (cQ sx sy):=HT.out.h 16 (by decide) (ch 16 (by decide)) (fun hm=>absurd hm (by decide));subst e16;have e17:v1x17 = .int .i64 (cQ sx sy):=HT.out.h 17 (by decide) (ch 17 (by decide)) (fun hm=>absurd hm (by decide));subst e17;have by1:=HT.out.b
  rename World=>y1
  clear ch HT l;replace HX:=hide (HX.out.below by1);replace HY:=hide (HY.out.below by1);have oT:=wTr ie by1;clear by1;go_wp2_with fail;go_ret;exact ⟨rfl,oT.out⟩
theorem ww (ao bo:Option Addr) (n cn m cm:Nat) (A B:List Sn) (w:World) (hA:cJ w ao n cn A) (hB:cJ w bo m cm B) :
  Calls Tryz.prog 129 #[.slice ao n cn,.slice bo m cm,.func (.func 130) #[] #[]] w fun e w'=>e = .returned (.int .i64 (lex cQ A B))/\Below w.heap.size w w':=by
 have HA:=hide hA;have HB:=hide hB;have rB:=hide hA.len;have rJ:=hide hB.len;have gn:=hA.big;have gm:=hB.big;clear hA hB;go_enter Tryz.func129,Tryz.ntmps129;go_wp2_with fail;go_loopw [13] (fun i wr=>∃ k:Nat,k <= n/\i = .int .i64 k/\Hid ((A.take k=B.take k/\k <= m)/\Below w.heap.size w wr)) (fun i _=>n - (intOf i).toNat)
 case atStart=>exact ⟨0,Nat.zero_le _,rfl,⟨rfl,Nat.zero_le _⟩,Below.refl _ _⟩
 case round =>
  obtain ⟨k,hk,rfl,HO⟩:=hrel
  rename World=>w6
  have LR:=HO.out.1.2;by_cases aq:k < n
  ·obtain ⟨ad,fl,ca⟩:=(HA.out.below HO.out.2).at k aq;subst fl;obtain ⟨x,Hx⟩:∃ x,Hid (A.getD k sn0=x):=⟨_,rfl⟩;rw [Hx.out] at ca;have l1:=zS ca;obtain ⟨w7,cr,X7,b7,z7⟩:=fI w6 x w6.heap.size rfl;have mn:=hide X7;have cM:=hide (HO.out.2.trans (b7.mono HO.out.2.size));clear X7 ca;by_cases hm:k < m
   ·obtain ⟨bd,o5,cb⟩:=((HB.out.below HO.out.2).below b7).at k hm;subst o5;obtain ⟨y,Hy⟩:∃ y,Hid (B.getD k sn0=y):=⟨_,rfl⟩;rw [Hy.out] at cb;have l2:=zS cb;obtain ⟨w8,o9,X8,b8,z8⟩:=fI w7 y w7.heap.size rfl;have iF:=hide X8;have GH:=hide (mn.out.below b8)
    obtain ⟨x0,x1,x2⟩:=GH.out.at
    obtain ⟨y0,y1,y2⟩:=X8.at
    have l3:=zS (⟨x0,x1,x2⟩:gA w8 ⟨w6.heap.size,0,none⟩ x);have l4:=zS (⟨y0,y1,y2⟩:gA w8 ⟨w7.heap.size,0,none⟩ y);have iz:=wTr cM b8
    have up:Hid (k < A.length):=by rw [rB.out];exact aq
    have gZ:Hid (k < B.length):=by rw [rJ.out];exact hm
    have oL:¬ (m:Int) <= (k:Int):=by omega
    clear X8 cb b7 b8 z7 z8 x0 x1 x2 y0 y1 y2;have Lh:Hid (cQ x y=0 -> A.take (k+1)=B.take (k+1)):=fun h=>zcz xy sn0 HO.out.1.1 up.out gZ.out (by rw [Hx.out,Hy.out];exact h)
    have tf:Hid (¬ cQ x y=0 -> lex cQ A B=cQ x y):=fun h=>by
     have:=zbv xy sn0 HO.out.1.1 up.out gZ.out (by rw [Hx.out,Hy.out];exact h);rw [Hx.out,Hy.out] at this;exact this
    go_wp2_with fail;refine (vf x y _).mono ?_;rintro e w9 ⟨rfl,b9⟩;have eN:=wTr iz b9;clear b9 l1 l2 l3 l4 cr o9;by_cases h0:cQ x y=0
    ·have HN:=hide (Lh.out h0);rw [h0];clear h0;go_wp2_with fail;go_roundw
     case rel=>exact ⟨k+1,by omega,by go_num,⟨HN.out,by omega⟩,eN.out⟩
     case measure=>simp [intOf];omega
    ·have HN:=hide (tf.out h0)
     have lF:(cQ x y != 0)=true:=by simpa using h0
     clear h0;obtain ⟨z,hz⟩:∃ z,cQ x y=z:=⟨_,rfl⟩;rw [hz] at lF HN ⊢;clear hz;go_wp2_with fail;go_ret;exact ⟨zx HN.out.symm,eN.out⟩
   ·have oL:(m:Int) <= (k:Int):=by omega
    have HN:=hide (zbt xy HO.out.1.1 (by rw [rB.out];exact aq) (by rw [rJ.out];omega));clear b7 z7;go_wp2_with fail;go_ret;exact ⟨zx HN.out.symm,cM.out⟩
  ·obtain rfl:k=n:=by omega
   by_cases hm:k < m
   ·have oL:(k:Int) < (m:Int):=by omega
    have HN:=hide (zbu xy HO.out.1.1 rB.out (by rw [rJ.out];exact hm));go_wp2_with fail;go_ret;exact ⟨zx HN.out.symm,HO.out.2⟩
   ·have oL:¬ (k:Int) < (m:Int):=by omega
    have HN:=hide (zbs xy HO.out.1.1 rB.out (by rw [rJ.out];omega));go_wp2_with fail;go_ret;exact ⟨zx HN.out.symm,HO.out.2⟩
end
section

end
section
open Go.RowKit
attribute [local go_sem ↓] zl zk
attribute [local go_sem] zw zf zW zh qs
def cS (w w':World) (e:Ending) (P:Int -> Prop):Prop:=∃ k,e = .returned (.int .i64 k)/\P k/\Below w.heap.size w w'
def gK (P Q:Pst) (z:Int):Prop:=∃ X Y,ae (aa P) X/\ae (aa Q) Y/\z=dJ X Y
theorem gK.unique {P Q:Pst} {z z':Int} (h:gK P Q z) (h':gK P Q z'):z=z':=by
 obtain ⟨X,Y,hX,hY,rfl⟩:=h;obtain ⟨X',Y',ME,MH,rfl⟩:=h';rw [hX.unique ME (fun _ _ _=>Iff.rfl),hY.unique MH (fun _ _ _=>Iff.rfl)]
def PhE (a b:Pv) (_:World) (_:World):Nat -> Value -> World -> Prop
 | 0,x,_=>x=PV a
 | 2,x,_=>x=PV b
 | _,_,_=>True
theorem jT (a b:Pv) (w:World) (W0:World):od (PhE a b w W0):=fun i _ _ _ h _=>match i with
 | 0=>h
 | 2=>h
 | 1=>trivial
 | 3=>trivial
 | 4=>trivial
 | 5=>trivial
 | 6=>trivial
 | 7=>trivial
 | _+8=>trivial
theorem zdT (a b:Pv) (w:World) (W0:World):∀ j x U U',j ∉ [] -> PhE a b w W0 j x U -> PhE a b w W0 j x U':=fun j _ _ _ _ h=>match j with
 | 0=>h
 | 2=>h
 | 1=>trivial
 | 3=>trivial
 | 4=>trivial
 | 5=>trivial
 | 6=>trivial
 | 7=>trivial
 | _+8=>trivial
theorem stE {a b:Pv} {w wk:World} (fq:Hid (aE wk w.heap.size a)) (fL:Hid (aE wk (w.heap.size+1) b)) (HA:Hid (ak wk a)) (HB:Hid (ak wk b)) {Q:Exit -> Act -> World -> Prop} :
  ∀ (l:Array Bool) (x:Act) (W:World),(∃ v1x0 v1x1 v1x2 v1x3 v1x4 v1x5,x={ tmps:=#[PV a,PV b,ptr w.heap.size,ptr (w.heap.size+1),.int .i64 0,v1x4,v1x5,undef,v1x0,v1x1,v1x2,v1x3,undef,undef,undef,undef,undef,undef,undef,undef,undef,undef,undef,undef,undef],defers:=[] }/\BI 8 6 wk (PhE a b w wk) [] [(1,ae (aa a.P)),(3,ae (aa b.P))] [(4,6,1),(5,7,3)] l W [v1x0,v1x1,v1x2,v1x3,v1x4,v1x5,undef,undef]) -> ∀ i,i∈Region.ready .any #[⟨some 8,.load 26 (.tmp 2),26, "sets.go:53",#[],none⟩,⟨some 9,.call ⟨.value (.func 127),#[.tmp 8],#[26]⟩,26, "sets.go:53",#[⟨0,.data⟩],none⟩,⟨some 10,.load 26 (.tmp 3),26, "sets.go:53",#[],none⟩,⟨some 11,.call ⟨.value (.func 127),#[.tmp 10],#[26]⟩,26, "sets.go:53",#[⟨2,.data⟩,⟨1,.chain⟩],none⟩,⟨some 5,.alloc 26,0, "sets.go:53",#[],none⟩,⟨some 6,.alloc 26,0, "sets.go:53",#[],none⟩,⟨none,.store 26 (.tmp 5) (.tmp 9),0, "sets.go:53",#[⟨4,.data⟩,⟨1,.data⟩,⟨3,.chain⟩,⟨0,.phase⟩,⟨1,.phase⟩,⟨2,.textOnly .lateStores⟩,⟨3,.textOnly .lateStoresUnsure⟩,⟨4,.phase⟩,⟨5,.phase⟩],none⟩,⟨none,.store 26 (.tmp 6) (.tmp 11),0, "sets.go:53",#[⟨5,.data⟩,⟨3,.data⟩,⟨6,.chain⟩,⟨0,.phase⟩,⟨1,.phase⟩,⟨2,.phase⟩,⟨3,.phase⟩,⟨4,.phase⟩,⟨5,.phase⟩,⟨6,.phase⟩],none⟩] l -> wpOp Tryz.prog #[⟨some 8,.load 26 (.tmp 2),26, "sets.go:53",#[],none⟩,⟨some 9,.call ⟨.value (.func 127),#[.tmp 8],#[26]⟩,26, "sets.go:53",#[⟨0,.data⟩],none⟩,⟨some 10,.load 26 (.tmp 3),26, "sets.go:53",#[],none⟩,⟨some 11,.call ⟨.value (.func 127),#[.tmp 10],#[26]⟩,26, "sets.go:53",#[⟨2,.data⟩,⟨1,.chain⟩],none⟩,⟨some 5,.alloc 26,0, "sets.go:53",#[],none⟩,⟨some 6,.alloc 26,0, "sets.go:53",#[],none⟩,⟨none,.store 26 (.tmp 5) (.tmp 9),0, "sets.go:53",#[⟨4,.data⟩,⟨1,.data⟩,⟨3,.chain⟩,⟨0,.phase⟩,⟨1,.phase⟩,⟨2,.textOnly .lateStores⟩,⟨3,.textOnly .lateStoresUnsure⟩,⟨4,.phase⟩,⟨5,.phase⟩],none⟩,⟨none,.store 26 (.tmp 6) (.tmp 11),0, "sets.go:53",#[⟨5,.data⟩,⟨3,.data⟩,⟨6,.chain⟩,⟨0,.phase⟩,⟨1,.phase⟩,⟨2,.phase⟩,⟨3,.phase⟩,⟨4,.phase⟩,⟨5,.phase⟩,⟨6,.phase⟩],none⟩] Q i (fun a' w'=>∃ v1x0 v1x1 v1x2 v1x3 v1x4 v1x5,a'={ tmps:=#[PV a,PV b,ptr w.heap.size,ptr (w.heap.size+1),.int .i64 0,v1x4,v1x5,undef,v1x0,v1x1,v1x2,v1x3,undef,undef,undef,undef,undef,undef,undef,undef,undef,undef,undef,undef,undef],defers:=[] }/\BI 8 6 wk (PhE a b w wk) [] [(1,ae (aa a.P)),(3,ae (aa b.P))] [(4,6,1),(5,7,3)] (l.setIfInBounds i true) w' [v1x0,v1x1,v1x2,v1x3,v1x4,v1x5,undef,undef]) x W:=by
 rintro l x W ⟨v1x0,v1x1,v1x2,v1x3,v1x4,v1x5,rfl,T⟩ i hi;obtain ⟨cK,cL,aK⟩:=xH hi;have aS:=kE cL
 have hc:i=0∨i=1∨i=2∨i=3∨i=4∨i=5∨i=6∨i=7:=by have h:i < 8:=cK;omega
 have HT:=hide T;clear T;rcases hc with rfl | rfl | rfl | rfl | rfl | rfl | rfl | rfl
 ·have HL:=hide aS;clear hi cK cL aK aS
  have l1:=zi (fq.out.below HT.out.b).at
  refine wpOp_step (o:=⟨some 8,.load 26 (.tmp 2),26, "sets.go:53",#[],none⟩) rfl (fun K hK=>?_);go_simp;exact hK _ _ ⟨PV a,v1x1,v1x2,v1x3,v1x4,v1x5,rfl,HT.out.plain (jT a b w wk) (Below.refl _ _) 0 (by decide) HL.out _ rfl (by simp) (by simp) (by decide)⟩
 ·have d0:=aK _ rfl { on:=0,ground:=Ground.data } (by simp) rfl;have e0:v1x0=PV a:=HT.out.h 0 (by decide) d0 (fun hm=>absurd hm (by decide));subst e0;have HL:=hide aS;clear hi cK cL aK aS d0;refine wpOp_step (o:=⟨some 9,.call ⟨.value (.func 127),#[.tmp 8],#[26]⟩,26, "sets.go:53",#[⟨0,.data⟩],none⟩) rfl (fun K hK=>?_);go_simp;go_wp2_with fail;refine (yi a _ (HA.out.below HT.out.b)).mono ?_;rintro e w' ⟨pp,rfl,pS,pN,pb,pq⟩;exact hK _ _ ⟨_,PV pp,v1x2,v1x3,v1x4,v1x5,rfl,HT.out.callF (jT a b w wk) pb 1 (ae (aa a.P)) (by decide) HL.out (by simp) (by simp) pp pS (fun g h1 h2=>pN.elim (fun e=>by rw [e];exact df.old HA.out h1) (fun h=>df.new h h2)) (pq) (fun _ _=>trivial) (by simp) (by decide)⟩
 ·have HL:=hide aS;clear hi cK cL aK aS
  have l1:=zi (fL.out.below HT.out.b).at
  refine wpOp_step (o:=⟨some 10,.load 26 (.tmp 3),26, "sets.go:53",#[],none⟩) rfl (fun K hK=>?_);go_simp;exact hK _ _ ⟨v1x0,v1x1,PV b,v1x3,v1x4,v1x5,rfl,HT.out.plain (jT a b w wk) (Below.refl _ _) 2 (by decide) HL.out _ rfl (by simp) (by simp) (by decide)⟩
 ·have d2:=aK _ rfl { on:=2,ground:=Ground.data } (by simp) rfl;have e2:v1x2=PV b:=HT.out.h 2 (by decide) d2 (fun hm=>absurd hm (by decide));subst e2;have HL:=hide aS;clear hi cK cL aK aS d2;refine wpOp_step (o:=⟨some 11,.call ⟨.value (.func 127),#[.tmp 10],#[26]⟩,26, "sets.go:53",#[⟨2,.data⟩,⟨1,.chain⟩],none⟩) rfl (fun K hK=>?_);go_simp;go_wp2_with fail;refine (yi b _ (HB.out.below HT.out.b)).mono ?_;rintro e w' ⟨pp,rfl,pS,pN,pb,pq⟩;exact hK _ _ ⟨v1x0,v1x1,_,PV pp,v1x4,v1x5,rfl,HT.out.callF (jT a b w wk) pb 3 (ae (aa b.P)) (by decide) HL.out (by simp) (by simp) pp pS (fun g h1 h2=>pN.elim (fun e=>by rw [e];exact df.old HB.out h1) (fun h=>df.new h h2)) (pq) (fun _ _=>trivial) (by simp) (by decide)⟩
 ·have HL:=hide aS;clear hi cK cL aK aS;refine wpOp_step (o:=⟨some 5,.alloc 26,0, "sets.go:53",#[],none⟩) rfl (fun K hK=>?_);go_simp;exact hK _ _ ⟨v1x0,v1x1,v1x2,v1x3,ptr W.heap.size,v1x5,rfl,HT.out.make (jT a b w wk) 4 6 1 (by decide) HL.out (by simp) (by simp) (by simp) (by simp) (fun _ _=>trivial) (by decide)⟩
 ·have HL:=hide aS;clear hi cK cL aK aS;refine wpOp_step (o:=⟨some 6,.alloc 26,0, "sets.go:53",#[],none⟩) rfl (fun K hK=>?_);go_simp;exact hK _ _ ⟨v1x0,v1x1,v1x2,v1x3,v1x4,ptr W.heap.size,rfl,HT.out.make (jT a b w wk) 5 7 3 (by decide) HL.out (by simp) (by simp) (by simp) (by simp) (fun _ _=>trivial) (by decide)⟩
 ·have da:=aK _ rfl { on:=4,ground:=Ground.data } (by simp) rfl;have dc:=aK _ rfl { on:=1,ground:=Ground.data } (by simp) rfl;obtain ⟨pc,ec,-,-,-⟩:=HT.out.r (1,ae (aa a.P)) (by simp) dc;obtain ⟨g,eg,PB,T2⟩:=HT.out.fill 4 6 1 pc (by decide) aS (by simp) (by simp) (by simp) da dc (Or.inl rfl) ec (by simp) (by simp) (zdT a b w wk) (fun _ _=>trivial) undef;have fg:v1x4=ptr g:=eg;have fc:v1x1=PV pc:=ec;subst fg fc;have s1:=qJ (p':=pc) PB;have i8:=hide T2;clear T2 PB eg ec da dc HT hi cK cL aK aS;refine wpOp_step (o:=⟨none,.store 26 (.tmp 5) (.tmp 9),0, "sets.go:53",#[⟨4,.data⟩,⟨1,.data⟩,⟨3,.chain⟩,⟨0,.phase⟩,⟨1,.phase⟩,⟨2,.textOnly .lateStores⟩,⟨3,.textOnly .lateStoresUnsure⟩,⟨4,.phase⟩,⟨5,.phase⟩],none⟩) rfl (fun K hK=>?_);go_simp;exact hK _ _ ⟨v1x0,_,v1x2,v1x3,_,v1x5,rfl,i8.out⟩
 ·have da:=aK _ rfl { on:=5,ground:=Ground.data } (by simp) rfl;have dc:=aK _ rfl { on:=3,ground:=Ground.data } (by simp) rfl;have dt:=aK _ rfl { on:=6,ground:=Ground.chain } (by simp) rfl;obtain ⟨pc,ec,-,-,-⟩:=HT.out.r (3,ae (aa b.P)) (by simp) dc;obtain ⟨g,eg,PB,T2⟩:=HT.out.fill 5 7 3 pc (by decide) aS (by simp) (by simp) (by simp) da dc (Or.inr dt) ec (by simp) (by simp) (zdT a b w wk) (fun _ _=>trivial) undef;have fg:v1x5=ptr g:=eg;have fc:v1x3=PV pc:=ec;subst fg fc;have s1:=qJ (p':=pc) PB;have i8:=hide T2;clear T2 PB eg ec da dc dt HT hi cK cL aK aS;refine wpOp_step (o:=⟨none,.store 26 (.tmp 6) (.tmp 11),0, "sets.go:53",#[⟨5,.data⟩,⟨3,.data⟩,⟨6,.chain⟩,⟨0,.phase⟩,⟨1,.phase⟩,⟨2,.phase⟩,⟨3,.phase⟩,⟨4,.phase⟩,⟨5,.phase⟩,⟨6,.phase⟩],none⟩) rfl (fun K hK=>?_);go_simp;exact hK _ _ ⟨v1x0,v1x1,v1x2,_,v1x4,_,rfl,i8.out⟩
theorem vT (a b:Pv) (w:World) (hA:ak w a) (hB:ak w b):Calls Tryz.prog 88 #[PV a,PV b] w fun e w'=>cS w w' e (gK a.P b.P):=by
 have b1:=ze w (.cells (PC a) 26);have b2:=ze (w.alloc (.cells (PC a) 26)) (.cells (PC b) 26);have p2:=zq (w.alloc (.cells (PC a) 26)) b;rw [World.size_alloc] at p2;have fq:=hide ((zq w a).below b2);have fL:=hide p2;have ie:=hide (b1.trans (b2.mono b1.size));have HA:=hide (hA.below ie.out);have HB:=hide (hB.below ie.out);clear b1 b2 p2 hA hB;obtain ⟨wk,cq⟩:∃ wk,(w.alloc (.cells (PC a) 26)).alloc (.cells (PC b) 26)=wk:=⟨_,rfl⟩;rw [cq] at fq fL ie HA HB;go_enter Tryz.func88,Tryz.ntmps88;go_wp2_with fail;clear cq;refine qE (by kernel_rfl) (fun l x W=>∃ v1x0 v1x1 v1x2 v1x3 v1x4 v1x5,x={ tmps:=#[PV a,PV b,ptr w.heap.size,ptr (w.heap.size+1),.int .i64 0,v1x4,v1x5,undef,v1x0,v1x1,v1x2,v1x3,undef,undef,undef,undef,undef,undef,undef,undef,undef,undef,undef,undef,undef],defers:=[] }/\BI 8 6 wk (PhE a b w wk) [] [(1,ae (aa a.P)),(3,ae (aa b.P))] [(4,6,1),(5,7,3)] l W [v1x0,v1x1,v1x2,v1x3,v1x4,v1x5,undef,undef]) ⟨undef,undef,undef,undef,undef,undef,rfl,BI.start _ _ _ _ _ _ _ _ rfl⟩ ?_ ?_ ?_
 ·rintro l x W ⟨v1x0,v1x1,v1x2,v1x3,v1x4,v1x5,rfl,T⟩;exact T.sz
 ·exact stE fq fL HA HB
 ·rintro l x W ⟨v1x0,v1x1,v1x2,v1x3,v1x4,v1x5,rfl,T⟩ ej;have ch:=fun i (hi:i < 8)=>xA (by kernel_rfl) T.sz ej i hi;have HT:=hide T;clear T ej;have e0:v1x0=PV a:=HT.out.h 0 (by decide) (ch 0 (by decide)) (fun hm=>absurd hm (by decide));subst e0;obtain ⟨qa,e1,Sqa,qqa,-⟩:=HT.out.r (1,ae (aa a.P)) (by simp) (ch 1 (by decide));have f1:v1x1=PV qa:=e1;subst f1;have uG:=hide Sqa;have FN:Hid (ae (aa a.P) qa.P):=qqa;clear e1 Sqa qqa;have e2:v1x2=PV b:=HT.out.h 2 (by decide) (ch 2 (by decide)) (fun hm=>absurd hm (by decide));subst e2;obtain ⟨qb,e3,Sqb,qqb,-⟩:=HT.out.r (3,ae (aa b.P)) (by simp) (ch 3 (by decide));have f3:v1x3=PV qb:=e3;subst f3;have ut:=hide Sqb;have GE:Hid (ae (aa b.P) qb.P):=qqb;clear e3 Sqb qqb;obtain ⟨ga,e4,-,-,-,k4⟩:=HT.out.a (4,6,1) (by simp) (ch 4 (by decide))
  have GA:Hid (aE W ga qa):=k4 (ch 6 (by decide)) qa rfl;have f4:v1x4=ptr ga:=e4;subst f4;clear e4 k4;obtain ⟨gb,e5,-,-,-,k5⟩:=HT.out.a (5,7,3) (by simp) (ch 5 (by decide));have FQ:Hid (aE W gb qb):=k5 (ch 7 (by decide)) qb rfl;have f5:v1x5=ptr gb:=e5;subst f5;clear e5 k5;have by1:=HT.out.b
  rename World=>y1
  clear ch HT l;replace fq:=hide (fq.out.below by1);replace fL:=hide (fL.out.below by1);replace HA:=hide (HA.out.below by1);replace HB:=hide (HB.out.below by1);have oT:=wTr ie by1;clear by1;obtain ⟨va,ca⟩:=GA.out.nums;obtain ⟨vb,cb⟩:=FQ.out.nums;have HC:Hid (gK a.P b.P (dJ qa.P qb.P)):=⟨qa.P,qb.P,FN.out,GE.out,rfl⟩;go_wp2_with fail;refine (yA _ _ _ _ _ _ qa.P.vec qb.P.vec _ uG.out.vec ut.out.vec uG.out.big ut.out.big).mono ?_;rintro e z1 ⟨rfl,bz1⟩;have ca':=(bz1.cell (World.block_lt_of_cell? _ _ ca)).trans ca;have cb':=(bz1.cell (World.block_lt_of_cell? _ _ cb)).trans cb;have IY:=wTr oT bz1;have CE:=hide (uG.out.below bz1).cloud;have CX:=hide (ut.out.below bz1).cloud;clear va vb ca cb bz1;by_cases h0:lex au qa.P.vec qb.P.vec=0
  ·have HE:Hid (dJ qa.P qb.P=lex cQ qa.P.cloud qb.P.cloud):=by show _=_;unfold dJ;rw [if_pos h0]
   rw [h0];clear h0;go_wp2_with fail;refine (ww _ _ _ _ _ _ qa.P.cloud qb.P.cloud _ CE.out CX.out).mono ?_;rintro e z2 ⟨rfl,bz2⟩;have dA:=wTr IY bz2;rw [<- HE.out];generalize dJ qa.P qb.P=z at HC ⊢;clear HE bz2 ca' cb';go_wp2_with fail;go_ret;exact ⟨z,rfl,HC.out,dA.out⟩
  ·have HE:Hid (dJ qa.P qb.P=lex au qa.P.vec qb.P.vec):=by show _=_;unfold dJ;rw [if_neg h0]
   rw [<- HE.out] at h0 ⊢;generalize dJ qa.P qb.P=z at HC h0 ⊢
   have lF:(z != 0)=true:=by simpa using h0
   clear HE h0;go_wp2_with fail;go_ret;exact ⟨z,rfl,HC.out,IY.out⟩
end
end Go.Proofs.YtcilfelgpmfehaaGreat
namespace Go.Proofs
open Go.Shelf
def Tryz.lays106_ren:Go.Shelf.Ren:=⟨fun | 106=>87 | 213=>126 | 265=>166 | n=>n,fun | 9=>9 | 3=>3 | n=>n,fun | n=>n⟩
theorem Tryz.lays106:Go.Proofs.Lays.n106 Tryz.prog Tryz.lays106_ren:={
 mixed:=by kernel_rfl
 f106:=Tryz.func87.trans (congrArg some (by kernel_rfl))
 f213:=Tryz.func126.trans (congrArg some (by kernel_rfl))
 f265:=Tryz.func166.trans (congrArg some (by kernel_rfl))
 t3:=Tryz.underlying3
 a3:=Tryz.isAgg3
 z3:=Tryz.sizeOf3
 v3:=Tryz.zeroValue3
 t9:=Tryz.underlying9
 a9:=Tryz.isAgg9
 z9:=Tryz.sizeOf9
 v9:=Tryz.zeroValue9 }
theorem Tryz.strings_Compare (a b:ByteArray) (w:World) :
  Calls Tryz.prog 87 #[.string a,.string b] w fun e w'=>e = .returned (.int .i64 (Lib.compareBytes a.data.toList b.data.toList))/\w'=w:=Any.strings_Compare Tryz.lays106 a b w
end Go.Proofs
