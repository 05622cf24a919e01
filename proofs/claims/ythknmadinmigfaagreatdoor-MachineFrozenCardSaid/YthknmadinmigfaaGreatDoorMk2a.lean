/- DecAllow, Dec, DecLevel, CpuRef4, PixSp, PixW, Plane, PlaneScr, PlaneComb, PlaneRows, PlaneEq, PlaneDraw, PlaneSpr, PlaneStep, ScrBox. -/
import Derived.Test.YthknmadinmigfaaGreatDoorMDecFind
import Derived.Test.YthknmadinmigfaaGreatDoorMDecFin2
import Derived.Test.YthknmadinmigfaaGreatDoorMPix4
set_option maxRecDepth 400000
set_option maxHeartbeats 64000000
set_option linter.unusedVariables false
set_option linter.unusedSimpArgs false
namespace Go.Proofs.YthknmadinmigfaaGreatDoor
section
open Go.RowKit Num Dec
theorem nJ(w:World)(o:Obj):Below w.heap.size w (w.alloc o):=(zG _ _).alloc (zH _) o
theorem XH{r:Rl}{l x:Int}(h:(r.op:Int)=43∨(r.op:Int)=44):alw r l x=iV l x:=by
 unfold alw;rw[show(r.op==43||r.op==44)=true by simp;omega];rfl
theorem F3{r:Rl}{l x:Int}(h:¬(r.op:Int)=43)(h':¬(r.op:Int)=44):alw r l x=(decide ((r.level:Int)≤l)&&decide (l≤3)):=by
 unfold alw;rw[show(r.op==43||r.op==44)=false by simp;omega];rfl
theorem WI(r:Rl)(l x:Int)(w:World)(hl:(Lit.int .i64 l).wf=true):Calls Tryz.prog 81 #[.agg (rcs r),.int .i64 l,.int .i64 x] w fun e w'=>e=.returned (.bool (alw r l x))∧Below w.heap.size w w':=by
 have HL:=zW hl;clear hl;obtain⟨m,c,o,lv,p⟩:=r;unfold rcs;simp only;by_cases h1:(o:Int)=43
 ·have F:=zW (XH (r:=⟨m,c,o,lv,p⟩) (l:=l) (x:=x) (.inl h1));have h1':((o:Int)==43)=true:=by simpa using h1
  exact zL2
 ·have h1':((o:Int)==43)=false:=by simpa using h1
  by_cases h2:(o:Int)=44
  ·have F:=zW (XH (r:=⟨m,c,o,lv,p⟩) (l:=l) (x:=x) (.inr h2));have h2':((o:Int)==44)=true:=by simpa using h2
   exact zL2
  ·have F:=zW (F3 (r:=⟨m,c,o,lv,p⟩) (l:=l) (x:=x) h1 h2);have h2':((o:Int)==44)=false:=by simpa using h2
   by_cases h3:(lv:Int)≤l
   ·have h3':decide ((lv:Int)≤l)=true:=by simpa using h3
    go_enter Tryz.func81,Tryz.ntmps81;go_wp2;go_ret;exact⟨by rw[F.out,h3'];rfl,nJ _ _⟩
   ·have h3':decide ((lv:Int)≤l)=false:=by simpa using h3
    go_enter Tryz.func81,Tryz.ntmps81;go_wp2;go_ret;exact⟨by rw[F.out,h3'];rfl,nJ _ _⟩
def bcs(b0 b1 b2 b3:Nat):Array Value:=#[.int .u8 (b0:Int),.int .u8 (b1:Int),.int .u8 (b2:Int),.int .u8 (b3:Int)]
structure DB(w0:World)(b0 b1 b2 b3:Nat)(cs:Array Value)(w:World):Prop where
 arg:Blk w0.heap.size 161 (bcs b0 b1 b2 b3) w
 res:Blk (w0.heap.size+1) 89 m3 w
 var:Blk (w0.heap.size+1+1) 89 cs w
 low:Below w0.heap.size w0 w
section
variable {w0 w w':World} {b0 b1 b2 b3:Nat} {cs:Array Value}
theorem DB.lt(H:DB w0 b0 b1 b2 b3 cs w):w0.heap.size+2<w.heap.size:=H.var.lt
theorem DB.step(H:DB w0 b0 b1 b2 b3 cs w)(hb:Below w.heap.size w w'):DB w0 b0 b1 b2 b3 cs w':=
 ⟨H.arg.step hb,H.res.step hb,H.var.step hb,H.low.trans (hb.mono (by have:=H.lt;omega))⟩
theorem DB.alloc(H:DB w0 b0 b1 b2 b3 cs w)(o:Obj):DB w0 b0 b1 b2 b3 cs (w.alloc o):=H.step (nJ _ _)
theorem DB.put(H:DB w0 b0 b1 b2 b3 cs w)(j:Nat)(v:Value):DB w0 b0 b1 b2 b3 (cs.setIfInBounds j v) (w.setCell ⟨w0.heap.size+1+1,j,none⟩ v):=
 ⟨H.arg.other zYQ _ _,H.res.other zYQ _ _,H.var.put _ _,H.low.setCell zYN _⟩
theorem DB.store(H:DB w0 b0 b1 b2 b3 cs w)(ds:Array Value):DB w0 b0 b1 b2 b3 ds (w.setRow (w0.heap.size+1+1) ds):=
 ⟨H.arg.otherRow zYQ _,H.res.otherRow zYQ _,H.var.store _,mQ H.low zYQ _⟩
theorem DB.new(w:World)(b0 b1 b2 b3:Nat):DB w b0 b1 b2 b3 m3 (((w.alloc (.cells (bcs b0 b1 b2 b3) 161)).alloc (.cells m3 89)).alloc (.cells m3 89)):=
 ⟨((Blk.new _ _ _).alloc _).alloc _,(by have:=(Blk.new (w.alloc (.cells (bcs b0 b1 b2 b3) 161)) 89 m3).alloc (.cells m3 89);simpa using this),(by have:=Blk.new ((w.alloc (.cells (bcs b0 b1 b2 b3) 161)).alloc (.cells m3 89)) 89 m3;simpa using this),
  (((zG _ _).alloc (zH _) _).alloc zYY _).alloc zYN _⟩
end
def fcs(b0 b1:Nat):Array Value:=#[.int .i64 ((b0/16:Nat):Int),.int .i64 ((b0%16:Nat):Int),.int .i64 ((b1/16:Nat):Int),.int .i64 ((b1%16:Nat):Int),.int .i64 (b1:Int),.int .i64 ((b0%16*256+b1:Nat):Int)]
theorem GV(b0 b1:Nat)(h0:b0<256)(h1:b1<256)(w:World):Calls Tryz.prog 78 #[.int .u8 (b0:Int),.int .u8 (b1:Int)] w fun e w'=>e=.returned (.agg (fcs b0 b1))∧Below w.heap.size w w':=
 (GY b0 b1 w zYQ zYQ zYQ zYQ).mono fun _ _ ⟨he,hb⟩=>⟨he.trans rfl,hb⟩
theorem aW(b0 b1:Nat)(h0:b0<256)(h1:b1<256)(w:World):Calls Tryz.prog 80 #[.int .u8 (b0:Int),.int .u8 (b1:Int)] w fun e w'=>e=.returned (.int .i64 ((b0*256+b1:Nat):Int))∧w=w':=
 (aY b0 b1 w zYQ zYQ zYQ zYQ).mono fun _ _ ⟨he,hb⟩=>⟨he.trans rfl,hb⟩
theorem DB.cells{w0 w:World}{b0 b1 b2 b3:Nat}{cs:Array Value}(H:DB w0 b0 b1 b2 b3 cs w):w.cell? ⟨w0.heap.size,0,none⟩=some (.int .u8 (b0:Int))∧w.cell? ⟨w0.heap.size,1,none⟩=some (.int .u8 (b1:Int))∧w.cell? ⟨w0.heap.size,2,none⟩=some (.int .u8 (b2:Int))∧w.cell? ⟨w0.heap.size,3,none⟩=some (.int .u8 (b3:Int)):=
 ⟨H.arg.cell 0,H.arg.cell 1,H.arg.cell 2,H.arg.cell 3⟩
theorem zQS{b0 b1 b2 b3:Nat}{l:Int}(h:ok b0 b1 l=false):dec b0 b1 b2 b3 l=⟨0,0,0,0,0,0,skl b0 b1 l⟩:=by
 unfold dec;rw[h];rfl
theorem zVF{b0 b1 b2 b3:Nat}{l:Int}(h:ok b0 b1 l=true){r:Rl}(hr:top (b0*256+b1)=r):dec b0 b1 b2 b3 l=⟨r.op,pX r.pk (dx b0:Nat),pY r.pk (b1/16:Nat),pN r.pk (dx b0:Nat) (b1%16:Nat),pNN r.pk (b1:Nat),pA r.pk (dx b0*256+b1:Nat) (b2*256+b3:Nat),skl b0 b1 l⟩:=by
 unfold dec;rw[h,hr];rfl
structure DX(b g gr:Nat)(bc fc rc:Array Value)(w:World):Prop where
 arg:Blk b 161 bc w
 fl:Blk g 194 fc w
 rl:Blk gr 198 rc w
def PW(X:World→Prop):Type:={w:World//X w}
def PW.w{X:World→Prop}(u:PW X):World:=u.1
theorem DV(p:Pk):∀args w,(callFunc (pf p) args).run Tryz.prog w=.ok (.enter (pf p) args) w:=by
 cases p
 ·exact enters_of Tryz.func147 zYJ rfl
 ·exact enters_of Tryz.func153 zYJ rfl
 ·exact enters_of Tryz.func154 zYJ rfl
 ·exact enters_of Tryz.func150 zYJ rfl
 ·exact enters_of Tryz.func152 zYJ rfl
 ·exact enters_of Tryz.func149 zYJ rfl
 ·exact enters_of Tryz.func148 zYJ rfl
 ·exact enters_of Tryz.func151 zYJ rfl
 ·exact enters_of Tryz.func156 zYJ rfl
 ·exact enters_of Tryz.func155 zYJ rfl
theorem F6:nA Tryz.prog 194 6:=⟨⟨_,Tryz.underlying194,rfl⟩,by kernel_rfl⟩
theorem V9(b0 b1 b2 b3:Nat)(l:Int)(w:World)(h0:b0<256)(h1:b1<256)(h2:b2<256)(h3:b3<256)(hl:(Lit.int .i64 l).wf=true):
  Calls Tryz.prog 69 #[.agg (bcs b0 b1 b2 b3),.int .i64 l] w fun e w'=>e=.returned (.agg (lJ (dec b0 b1 b2 b3 l)))∧Below w.heap.size w w':=by
 have HL:=zW hl;have D0:=zW (DB.new w b0 b1 b2 b3);have SP:=fun w=>GV b0 b1 h0 h1 w;unfold fcs at SP;have NB:=fun w=>aW b0 b1 h0 h1 w;have FD:=fun w=>zQX (b0*256+b1) zYQ w;have N2:=fun w=>aW b2 b3 h2 h3 w;generalize e0:b0/16=hd at SP;generalize e1:b0%16=x at SP;generalize e2:b1/16=y at SP;generalize e3:b1%16=n at SP;generalize e4:x*256+b1=nnn at SP;generalize e5:b0*256+b1=op at NB FD;generalize e6:b2*256+b3=nx at N2;have SPH:=zW SP;have NBH:=zW NB;have FDH:=zW FD;have N2H:=zW N2;have E:=zW (zM e0 (zM e1 (zM e2 (zM e3 (zM e4 (zM e5 e6))))));clear SP NB FD N2 e0 e1 e2 e3 e4 e5 e6 h0 h1 h2 h3 hl;unfold bcs;go_enter Tryz.func69,Tryz.ntmps69;go_wp2_with fail;refine(SPH.out _).mono ?_;rintro e w1 ⟨rfl,b1⟩;have D1:=zW (D0.out.step b1);obtain⟨c0,c1,c2,c3⟩:=D1.out.cells;have hw1:w.heap.size<w1.heap.size:=D1.out.arg.lt;clear b1 D0 SPH;have D2:=zW (D1.out.alloc (.cells #[.int .i64 (hd:Int),.int .i64 (x:Int),.int .i64 (y:Int),.int .i64 (n:Int),.int .i64 (b1:Int),.int .i64 (nnn:Int)] 194));have G2:=zW (Blk.new w1 194 #[.int .i64 (hd:Int),.int .i64 (x:Int),.int .i64 (y:Int),.int .i64 (n:Int),.int .i64 (b1:Int),.int .i64 (nnn:Int)]);have GD:=zW D1.out.lt;go_wp2_with fail;refine(NBH.out _).mono ?_;rintro e w2 ⟨rfl,rfl⟩;go_wp2_with fail;refine(FDH.out _).mono ?_;rintro e w3 ⟨rfl,b3⟩;have D3:=zW (D2.out.step b3);have G3:=zW (G2.out.step b3);clear b3 c0 c1 c2 c3 D2 G2 NBH FDH D1;obtain⟨g,hg⟩:∃g,w1.heap.size=g:=⟨_,rfl⟩;rw[hg]at G3 GD⊢;have hw3:w.heap.size<w3.heap.size:=D3.out.arg.lt;by_cases ho:(top op).op=0
 ·rw[show pQ (top op)=.tuple #[.agg vM,.bool false] by unfold pQ;rw[ho];rfl];have F:=zW (zQS (b0:=b0) (b1:=b1) (b2:=b2) (b3:=b3) (l:=l) (show ok b0 b1 l=false by unfold ok;rw[E.out.2.2.2.2.2.1,ho];rfl));clear ho;have D4:=zW (D3.out.alloc (.cells vM 198));unfold vM at D4⊢;clear D3 G3;obtain⟨c0,c1,c2,c3⟩:=D4.out.cells;have v6:=D4.out.var.cell 6;have f6:=D4.out.var.frozen 6;simp only[m3,lJ,zX,zK,zV]at v6;go_wp2_with fail;refine(dY b0 b1 l _).mono ?_;rintro e w9 ⟨rfl,rfl⟩;have Z:=zW (D4.out.put 6 (.int .i64 (skl b0 b1 l)));exact zLB
 ·rw[show pQ (top op)=.tuple #[.agg (rcs (top op)),.bool true] by unfold pQ;rw[show((top op).op !=0)=true by simpa using ho];rfl];obtain⟨R,hR⟩:∃R,top op=R:=⟨_,rfl⟩;rw[hR]at ho⊢;have D4:=zW (D3.out.alloc (.cells (rcs R) 198));have G4:=zW (G3.out.alloc (.cells (rcs R) 198));have R4:=zW (Blk.new w3 198 (rcs R));have OK:=zW (show ok b0 b1 l=alw R l (x:Int) by unfold ok dx;rw[E.out.2.2.2.2.2.1,hR,E.out.2.1,show(R.op !=0)=true by simpa using ho];rfl);have HR:=zW (show top (b0*256+b1)=R by rw[E.out.2.2.2.2.2.1,hR]);have AL:=zW (fun w=>WI R l (x:Int) w HL.out);have PK:=zW (fun w=>UL R.pk (hd:Int) (x:Int) (y:Int) (n:Int) (b1:Int) (nnn:Int) (nx:Int) w);have LT3:=zW D3.out.lt;clear ho hR D3 G3;obtain⟨rm,rc,ro,rl,rp⟩:=R;unfold rcs at*;simp only at*;have x0:=G4.out.cell 1;simp only[zX,zK,zV]at x0;go_wp2_with fail;refine(AL.out _).mono ?_;rintro e w5 ⟨rfl,b5⟩;have D5:=zW (D4.out.step b5);have G5:=zW (G4.out.step b5);have R5:=zW (R4.out.step b5);have GR:=zW (show w3.heap.size<w5.heap.size from R5.out.lt);clear b5 D4 G4 R4 AL x0;obtain⟨gr,hgr⟩:∃gr,w3.heap.size=gr:=⟨_,rfl⟩;rw[hgr]at R5 GR LT3⊢;clear hgr hw3;cases ha:alw ⟨rm,rc,ro,rl,rp⟩ l (x:Int)
  ·have F:=zW (zQS (b0:=b0) (b1:=b1) (b2:=b2) (b3:=b3) (l:=l) (OK.out.trans ha));clear ha;obtain⟨c0,c1,c2,c3⟩:=D5.out.cells;have v6:=D5.out.var.cell 6;have f6:=D5.out.var.frozen 6;simp only[m3,lJ,zX,zK,zV]at v6;go_wp2_with fail;refine(dY b0 b1 l _).mono ?_;rintro e w9 ⟨rfl,rfl⟩;have Z:=zW (D5.out.put 6 (.int .i64 (skl b0 b1 l)));exact zLB
  ·have F:=zW (zVF (b0:=b0) (b1:=b1) (b2:=b2) (b3:=b3) (l:=l) (OK.out.trans ha) HR.out);clear ha;have P5:=zW (show DX w.heap.size g gr (bcs b0 b1 b2 b3) #[.int .i64 (hd:Int),.int .i64 (x:Int),.int .i64 (y:Int),.int .i64 (n:Int),.int .i64 (b1:Int),.int .i64 (nnn:Int)] #[.int .i64 (rm:Int),.int .i64 (rc:Int),.int .i64 (ro:Int),.int .i64 (rl:Int),.func (.func (pf rp)) #[] #[]] w5 from⟨D5.out.arg,G5.out,R5.out⟩);generalize hX:DX w.heap.size g gr (bcs b0 b1 b2 b3) #[.int .i64 (hd:Int),.int .i64 (x:Int),.int .i64 (y:Int),.int .i64 (n:Int),.int .i64 (b1:Int),.int .i64 (nnn:Int)] #[.int .i64 (rm:Int),.int .i64 (rc:Int),.int .i64 (ro:Int),.int .i64 (rl:Int),.func (.func (pf rp)) #[] #[]]=X at P5;have XO:=zW (show∀w',X w'→DX w.heap.size g gr (bcs b0 b1 b2 b3) #[.int .i64 (hd:Int),.int .i64 (x:Int),.int .i64 (y:Int),.int .i64 (n:Int),.int .i64 (b1:Int),.int .i64 (nnn:Int)] #[.int .i64 (rm:Int),.int .i64 (rc:Int),.int .i64 (ro:Int),.int .i64 (rl:Int),.func (.func (pf rp)) #[] #[]] w' by rw[←hX];exact fun _ h=>h);have XI:=zW (show∀w',DX w.heap.size g gr (bcs b0 b1 b2 b3) #[.int .i64 (hd:Int),.int .i64 (x:Int),.int .i64 (y:Int),.int .i64 (n:Int),.int .i64 (b1:Int),.int .i64 (nnn:Int)] #[.int .i64 (rm:Int),.int .i64 (rc:Int),.int .i64 (ro:Int),.int .i64 (rl:Int),.func (.func (pf rp)) #[] #[]] w'→X w' by rw[←hX];exact fun _ h=>h);clear hX;haveI:Nonempty (PW X):=⟨⟨w5,P5.out⟩⟩;have k2:∀u:PW X,u.w.cell? ⟨w.heap.size,2,none⟩=some (.int .u8 (b2:Int)):=fun u=>(XO.out _ u.2).arg.cell 2;have k3:∀u:PW X,u.w.cell? ⟨w.heap.size,3,none⟩=some (.int .u8 (b3:Int)):=fun u=>(XO.out _ u.2).arg.cell 3;have kf:∀u:PW X,u.w.cell? ⟨gr,4,none⟩=some (.func (.func (pf rp)) #[] #[]):=fun u=>(XO.out _ u.2).rl.cell 4;go_upto_region 5 with fail;refine mV (C:=fun w'=>∃u:PW X,w'=u.w) [([0,1,2,3,4,5,6],7),([],8),([],9)] [] zYJ zYJ (fun _ _ d _ _ h=>by cases d<;>exact h) ⟨⟨w5.drew,XI.out _ ⟨(XO.out _ P5.out).arg.drew,(XO.out _ P5.out).fl.drew,(XO.out _ P5.out).rl.drew⟩⟩,rfl⟩ ?_;intro wd hwd;have Dd:=zW (show DB w b0 b1 b2 b3 m3 wd by rw[hwd];exact D5.out.step ((zG _ _).drew));have Xd:=zW (show X wd by rw[hwd];exact XI.out _ ⟨(XO.out _ P5.out).arg.drew,(XO.out _ P5.out).fl.drew,(XO.out _ P5.out).rl.drew⟩);have GG:=zW (show w.heap.size+1+1<g∧g<w5.heap.size∧gr<w5.heap.size∧w.heap.size+1+1<gr from⟨GD.out,G5.out.lt,GR.out,by have:=LT3.out;omega⟩);clear hwd D5 G5 R5 P5 GD GR;refine mY zYX zYW ?_;iterate 2 (go_big_quiet_step (rfl))
   refine mW F6 (fun w9 hw9=>by obtain⟨u,rfl⟩:=hw9;exact(XO.out _ u.2).fl) rfl ?_ (.tmp 6) ?_ ?_ ?_
   ·rfl
   ·rfl
   ·rfl
   simp only[Act.put,zQ,zZ,zJ];repeat(go_big_quiet_step (rfl))
   refine zY ?_;refine lO zYW ?_;intro K hK;go_wp2_with fail;refine(N2H.out _).mono ?_;rintro e w6 ⟨rfl,rfl⟩;simp only[];refine hK _ _ ⟨⟨wd,Xd.out⟩,rfl⟩ ?_;clear hK K;refine mY zYX zYW ?_;refine zY ?_;refine lO zYW ?_;intro K hK;refine lI (g:=pf rp) (caps:=#[]) (args:=#[.agg #[.int .i64 (hd:Int),.int .i64 (x:Int),.int .i64 (y:Int),.int .i64 (n:Int),.int .i64 (b1:Int),.int .i64 (nnn:Int)],.int .i64 (nx:Int)]) (.tmp 32) #[.tmp 33,.tmp 38] #[194,3] rfl (DV rp) rfl zYL ?_;refine(PK.out _).mono ?_;rintro e w7 ⟨rfl,b7⟩;refine⟨_,rfl,?_⟩;have D7:=zW (Dd.out.step b7);have X7:=zW (show X w7 from XI.out _ ⟨(XO.out _ Xd.out).arg.step b7,(XO.out _ Xd.out).fl.step b7,(XO.out _ Xd.out).rl.step b7⟩);have L7:=zW (show wd.heap.size≤w7.heap.size from b7.size);clear b7;simp only[Act.put,zQ,zZ,zJ];refine hK _ _ ⟨⟨w7,X7.out⟩,rfl⟩ ?_;clear hK K;refine mY zYX zYW ?_;refine zY ?_;refine lO zYW ?_;intro K hK;refine nG mM D7.out.var rfl rfl zYF (.tmp 5) (.tmp 39) rfl rfl rfl ?_;have D8:=zW (D7.out.store (lJ ⟨0,pX rp (x:Int),pY rp (y:Int),pN rp (x:Int) (n:Int),pNN rp (b1:Int),pA rp (nnn:Int) (nx:Int),0⟩));have X8:=zW (show X (w7.setRow (w.heap.size+1+1) (lJ ⟨0,pX rp (x:Int),pY rp (y:Int),pN rp (x:Int) (n:Int),pNN rp (b1:Int),pA rp (nnn:Int) (nx:Int),0⟩))from XI.out _ ⟨(XO.out _ X7.out).arg.otherRow zYQ _,(XO.out _ X7.out).fl.otherRow (by have:=GG.out;omega) _,(XO.out _ X7.out).rl.otherRow (by have:=GG.out;omega) _⟩);simp only[Act.put,zQ,zZ,zJ];refine hK _ _ ⟨⟨_,X8.out⟩,rfl⟩ ?_;clear hK K;generalize World.setRow _ _ _=v8 at D8 X8⊢;refine nR zYW ?_;refine zY ?_;clear k2 k3 kf;have r2:=(XO.out _ X8.out).rl.cell 2;have v0:=D8.out.var.cell 0;have f0:=D8.out.var.frozen 0;simp only[lJ,zX,zK,zV]at r2 v0;have D9:=zW (D8.out.put 0 (.int .i64 (ro:Int)));go_upto_region 7 with fail;generalize World.setCell _ _ _=v9 at D9⊢;have D10:=zW (show DB w b0 b1 b2 b3 (lJ ⟨(ro:Int),pX rp (x:Int),pY rp (y:Int),pN rp (x:Int) (n:Int),pNN rp (b1:Int),pA rp (nnn:Int) (nx:Int),0⟩) v9 from D9.out);clear D9 D8 X8 r2 v0 f0 Dd Xd D7 X7;obtain⟨c0,c1,c2,c3⟩:=D10.out.cells;have v6:=D10.out.var.cell 6;have f6:=D10.out.var.frozen 6;simp only[m3,lJ,zX,zK,zV]at v6;go_wp2_with fail;refine(dY b0 b1 l _).mono ?_;rintro e w9 ⟨rfl,rfl⟩;have Z:=zW (D10.out.put 6 (.int .i64 (skl b0 b1 l)));go_upto_region 8 with fail;generalize World.setCell _ _ _=V at Z⊢;refine zB ?_;refine lK mM Z.out.var zLJ rfl (.tmp 5) rfl rfl ?_;simp only[Act.put,zQ,zZ,zJ];refine lQ mM Z.out.res rfl zLJ zYF rfl (.tmp 4) (.tmp 50) rfl rfl rfl ?_;simp only[Act.put,zQ,zZ,zJ];have R:=Z.out.res.store (lJ ⟨(ro:Int),pX rp (x:Int),pY rp (y:Int),pN rp (x:Int) (n:Int),pNN rp (b1:Int),pA rp (nnn:Int) (nx:Int),skl b0 b1 l⟩);have B:=mQ Z.out.low (by omega:w.heap.size≤w.heap.size+1) (lJ ⟨(ro:Int),pX rp (x:Int),pY rp (y:Int),pN rp (x:Int) (n:Int),pNN rp (b1:Int),pA rp (nnn:Int) (nx:Int),skl b0 b1 l⟩);iterate 4 go_step
   exact zS (zE rfl _ _ (w.heap.size+1) _ _ _ _ rfl R Tryz.underlying89 rfl mM.i) rfl ⟨by rw[F.out];unfold dx;rw[←E.out.2.1,←E.out.2.2.1,←E.out.2.2.2.1,←E.out.2.2.2.2.1,←E.out.2.1,←E.out.2.2.2.2.2.2],B⟩

end
section
open Go.RowKit Num Dec Cpu
def Rm(ad:Addr)(M:List Int)(w:World):Prop:=ad.block<w.heap.size∧∀j (h:j<M.length),w.cell? (ad.add j)=some (.int .u8 M[j])
theorem Rm.step{ad:Addr}{M:List Int}{w w':World}(h:Rm ad M w)(hb:Below w.heap.size w w'):Rm ad M w':=
 ⟨zF h.1 hb.size,fun j hj=>(hb.cell (p:=ad.add j) (by rw[xS];exact h.1)).trans (h.2 j hj)⟩
end
section
open Go.RowKit Num
theorem YN(b c x m:Nat)(clip:Bool)(w:World)(hc:c=8∨c=16)(b1:b≤65535)(x1:x≤128)(m1:m≤128):
  Calls Tryz.prog 200 #[.int .u16 (b:Int),.int .i64 (c:Int),.int .i64 (x:Int),.int .i64 (m:Int),.bool clip] w fun e w'=>e=.returned (rv (uI b c x m clip))∧Below w.heap.size w w':=by
 obtain⟨m1',m2',em⟩:=cO (yA m);obtain⟨i1,i2,ei⟩:=cO (yG (sp0 b c) x m);obtain⟨j1,j2,ej⟩:=cO (mv (sp0 b c) ((x:Int)-m));have hp:∀k:Nat,IntKind.u64.wrap ((b:Int)*2^min k 64)=((BitVec.ofNat 64 b<<<k).toNat:Int):=fun k=>by
  have h:=IW (BitVec.ofNat 64 b) k;rw[BitVec.toNat_ofNat,kW zYQ]at h;rw[IntKind.wrap_u64];exact h
 unfold uI;cases clip
 ·rw[zL zYY,ei,ej,JD,lP];rcases hc with rfl|rfl
  ·exact fS b x m _ m1' m2' i1 i2 j1 j2 _ _ ej rfl rfl w (hp 56) zYQ zYQ zYQ zYQ zYQ zYQ em ei
  ·exact pG b x m _ m1' m2' i1 i2 j1 j2 _ _ ej rfl rfl w (hp 48) zYQ zYQ zYQ zYQ zYQ zYQ em ei
 ·rw[zN rfl,ei,lP];rcases hc with rfl|rfl
  ·exact iT b x m _ m1' m2' i1 i2 w (hp 56) zYQ zYQ zYQ zYQ zYQ zYQ em ei
  ·exact fP b x m _ m1' m2' i1 i2 w (hp 48) zYQ zYQ zYQ zYQ zYQ zYQ em ei
theorem zJM{b c x m:Nat}{bi ci xi mi:Int}{clip:Bool}{h l:BitVec 64}(e:uI b c x m clip=h++l)(hb:bi=(b:Int))(hci:ci=(c:Int))(hxi:xi=(x:Int))(hmi:mi=(m:Int))(hc:c=8∨c=16)(b1:b≤65535)(x1:x≤128)(m1:m≤128)(w:World):
  Calls Tryz.prog 200 #[.int .u16 bi,.int .i64 ci,.int .i64 xi,.int .i64 mi,.bool clip] w fun e w'=>e=.returned (.agg #[.int .u64 (h.toNat:Int),.int .u64 (l.toNat:Int)])∧Below w.heap.size w w':=by
 subst hb hci hxi hmi;rw[←lP,←e];exact YN b c x m clip w hc b1 x1 m1
theorem shiftW{h l h' l':BitVec 64}{n m:Int}(e:yG (h++l) n m=h'++l')(n0: -1000≤n)(n1:n≤1000)(m0:0≤m)(m1:m≤128)(w:World):
  Calls Tryz.prog 201 #[.agg #[.int .u64 (h.toNat:Int),.int .u64 (l.toNat:Int)],.int .i64 n,.int .i64 m] w fun e w'=>e=.returned (.agg #[.int .u64 (h'.toNat:Int),.int .u64 (l'.toNat:Int)])∧Below w.heap.size w w':=by
 rw[←lP,←lP,←e];exact GF _ n m w zYQ zYQ m0 m1
theorem andW{h l h' l' v1 v2:BitVec 64}(e:(h++l)&&&(h'++l')=v1++v2)(w:World):Calls Tryz.prog 199 #[.agg #[.int .u64 (h.toNat:Int),.int .u64 (l.toNat:Int)],.agg #[.int .u64 (h'.toNat:Int),.int .u64 (l'.toNat:Int)]] w fun e w'=>
  e=.returned (.agg #[.int .u64 (v1.toNat:Int),.int .u64 (v2.toNat:Int)])∧Below w.heap.size w w':=by
 rw[←lP,←lP,←lP,←e];exact zV9 _ _ w
theorem xorW{h l h' l' v1 v2:BitVec 64}(e:(h++l)^^^(h'++l')=v1++v2)(w:World):Calls Tryz.prog 198 #[.agg #[.int .u64 (h.toNat:Int),.int .u64 (l.toNat:Int)],.agg #[.int .u64 (h'.toNat:Int),.int .u64 (l'.toNat:Int)]] w fun e w'=>
  e=.returned (.agg #[.int .u64 (v1.toNat:Int),.int .u64 (v2.toNat:Int)])∧Below w.heap.size w w':=by
 rw[←lP,←lP,←lP,←e];exact RT _ _ w
theorem fC{b:Bool}{m h:Nat}(hr:Res b m h)(w:World):Calls Tryz.prog 170 #[.bool b] w fun e w'=>e=.returned (.tuple #[.int .i64 (m:Int),.int .i64 (h:Int)])∧w=w':=by
 rcases hr with⟨rfl,rfl,rfl⟩|⟨rfl,rfl,rfl⟩
 all_goals
  go_enter Tryz.func170,Tryz.ntmps170
  go_wp2
  go_ret2
  exact⟨rfl,rfl⟩
def xB(Q:Pl)(k:Nat):Pl:=fun y=>if y<k then Q y else 0#128
theorem LG(Q:Pl)(y:Nat):xB Q 0 y=0#128:=by simp[xB]
theorem Y3(Q:Pl)(k y:Nat)(h:y<k):xB Q k y=Q y:=by rw[xB,zN h]
theorem YI(Q:Pl)(k:Nat)(r:BitVec 128)(hr:Q k=r)(y:Nat):J4 (xB Q k) k r y=xB Q (k+1) y:=by
 by_cases e:y=k
 ·subst e;rw[rQ,Y3 _ _ _ zYQ,hr]
 ·rw[rZ _ _ _ _ e];unfold xB;by_cases e2:y<k
  ·rw[zN e2,zN zYQ]
  ·rw[zL e2,zL zYQ]
theorem sG(Q:Pl)(k:Nat)(hr:Q k=0#128)(y:Nat):xB Q k y=xB Q (k+1) y:=by
 unfold xB;by_cases e2:y<k
 ·rw[zN e2,zN zYQ]
 ·rw[zL e2];by_cases e:y=k
  ·subst e;rw[zN zYQ,hr]
  ·rw[zL zYQ]
theorem YO(Q:Pl)(k:Nat)(hQ:∀y,k≤y→Q y=0#128)(y:Nat):xB Q k y=Q y:=by
 unfold xB;by_cases e2:y<k
 ·rw[zN e2]
 ·rw[zL e2,hQ _ zYQ]
theorem pR(P:Pl)(dx dy:Int)(m h y:Nat)(hy:h≤y):mG P dx dy m h y=0#128:=by
 unfold mG;rw[zL zYQ]
theorem YE(P:Pl)(dx dy:Int)(b:Bool)(m h:Nat)(hr:Res b m h)(w:World)(d0: -1000≤dx)(d1:dx≤1000)(e0: -1000≤dy)(e1:dy≤1000):
  Calls Tryz.prog 176 #[.agg (kU P),.int .i64 dx,.int .i64 dy,.bool b] w fun e w'=>e=.returned (.agg (kU (mG P dx dy m h)))∧Below w.heap.size w w':=by
 obtain⟨m0,m1,h0,h1⟩:=hr.bounds;have RR:=zW hr;have hz:=xD;clear hr;go_enter Tryz.func176,Tryz.ntmps176;go_wp2_with fail;have N1:=zW (mT.new w P 55);have B1:=zW (nP w (.cells (kU P) 55));have S1:(w.alloc (.cells (kU P) 55)).heap.size=w.heap.size+1:=zYY;have M2:=zW (mT.new (w.alloc (.cells (kU P) 55)) (fun _=>0#128) 55);rw[S1]at M2;have M1:=zW (N1.out.alloc (.cells (kU fun _=>0#128) 55));have B2:=zW (B1.out.alloc (by rw[S1];omega) (.cells (kU fun _=>0#128) 55));have S2:((w.alloc (.cells (kU P) 55)).alloc (.cells (kU fun _=>0#128) 55)).heap.size=w.heap.size+2:=zYY;clear N1 B1 S1;generalize (w.alloc (.cells (kU P) 55)).alloc (.cells (kU fun _=>0#128) 55)=w2 at*;refine(fC RR.out w2).mono ?_;rintro e w' ⟨rfl,rfl⟩;go_wp2;have L3:=zW (mT.new w2 (fun _=>0#128) 55);rw[S2]at L3;have L2:=zW (M2.out.alloc (.cells (kU fun _=>0#128) 55));have L1:=zW (M1.out.alloc (.cells (kU fun _=>0#128) 55));have B3:=zW (B2.out.alloc (by rw[S2];omega) (.cells (kU fun _=>0#128) 55));clear M2 M1 B2 S2 hz;generalize w2.alloc (.cells (kU fun _=>0#128) 55)=w3 at*;go_loopw [20] (fun i wr=>∃k:Nat,k≤h∧i=.int .i64 (k:Int)∧mT w.heap.size 55 P wr∧mT (w.heap.size+1) 55 (fun _=>0#128) wr∧mT (w.heap.size+2) 55 (xB (mG P dx dy m h) k) wr∧Below w.heap.size w wr) (fun i _=>h-(intOf i).toNat)
 case atStart=>exact⟨0,by omega,rfl,L1.out,L2.out,L3.out.congr fun y _=>(LG _ y).symm,B3.out⟩
 case round=>
  clear L1 L2 L3 B3
  obtain⟨k,hk,rfl,h1',h2',h3',hB⟩:=hrel
  have Q:=zW (zM h1' (zM h2' (zM h3' hB)))
  clear h1' h2' h3' hB
  by_cases hlt:k<h
  ·have ki:(k:Int)<(h:Int):=zYQ
   have k6:(k:Int)<64:=zYQ
   rcases(show(0≤(k:Int)-dy∧(k:Int)-dy<h)∨¬0≤(k:Int)-dy∨(0≤(k:Int)-dy∧¬(k:Int)-dy<h) by omega)with⟨i1,i2⟩|i1|⟨i1,i2⟩
   ·obtain⟨f,hf⟩:∃f:Nat,(k:Int)-dy=f:=⟨((k:Int)-dy).toNat,by omega⟩
    have f6:f<64:=zYQ
    have c1:=Q.out.1.left f f6
    have c2:=Q.out.1.right f f6
    have e3:mG P dx dy m h k=yG (P f) dx m:=by
     unfold mG;rw[zN zYQ,hf,Int.toNat_natCast]
    obtain⟨v1,v2,ev⟩:=cO (yG (P f) dx m)
    have SH:=zW fun w=>shiftW (h:=hi (P f)) (l:=lo (P f)) (h':=v1) (l':=v2) (n:=dx) (m:=(m:Int)) (by rw[s7,ev]) d0 d1 zYQ zYQ w
    have EV:=zW (show mG P dx dy m h k=v1++v2 by rw[e3,ev])
    clear e3 ev
    rw[hf]at i1 i2
    generalize hi (P f)=u1 at*
    generalize lo (P f)=u2 at*
    go_wp2_with fail
    refine(SH.out _).mono ?_
    rintro e w' ⟨rfl,hb⟩
    have Q2:=zW (zM (Q.out.1.step hb) (zM (Q.out.2.1.step hb) (zM (Q.out.2.2.1.step hb) (Q.out.2.2.2.trans (hb.mono Q.out.2.2.2.size)))))
    clear c1 c2 hb
    have k64:k<64:=zYQ
    have c1:=Q2.out.2.2.1.left k k64
    have c2:=Q2.out.2.2.1.right k k64
    have c3:=Q2.out.2.2.1.frozen (k*2)
    have c4:=Q2.out.2.2.1.frozen (k*2+1)
    generalize hi (xB (mG P dx dy m h) k k)=u3 at*
    generalize lo (xB (mG P dx dy m h) k k)=u4 at*
    go_wp2
    go_roundw
    case rel=>
     exact⟨k+1,by omega,by go_num,(Q2.out.1.other zYQ _ _).other zYQ _ _,(Q2.out.2.1.other zYQ _ _).other zYQ _ _,(Q2.out.2.2.1.row k k64 v1 v2).congr fun y _=>YI _ _ _ EV.out y,(Q2.out.2.2.2.setCell (p:=⟨w.heap.size+2,k*2,none⟩) zYY _).setCell (p:=⟨w.heap.size+2,k*2+1,none⟩) zYY _⟩
    case measure=>simp[intOf];omega
   ·have HF:=zW (show mG P dx dy m h k=0#128 by unfold mG;rw[zL zYQ])
    go_wp2
    go_roundw
    case rel=>exact⟨k+1,by omega,by go_num,Q.out.1,Q.out.2.1,Q.out.2.2.1.congr fun y _=>sG _ _ HF.out y,Q.out.2.2.2⟩
    case measure=>simp[intOf];omega
   ·have HF:=zW (show mG P dx dy m h k=0#128 by unfold mG;rw[zL zYQ])
    go_wp2
    go_roundw
    case rel=>exact⟨k+1,by omega,by go_num,Q.out.1,Q.out.2.1,Q.out.2.2.1.congr fun y _=>sG _ _ HF.out y,Q.out.2.2.2⟩
    case measure=>simp[intOf];omega
  ·have ke:=zW (show k=h by omega)
   have ki:¬(k:Int)<(h:Int):=zYQ
   have q2:=zW Q.out.2.1
   have q3:=zW (Q.out.2.2.1.congr (Q:=mG P dx dy m h) fun y hy=>YO _ _ (fun j hj=>pR _ _ _ _ _ _ (by have:=ke.out;omega)) y)
   have hb:=zW Q.out.2.2.2
   clear Q
   go_upto_region 10 with fail
   refine zB ?_
   refine j4 rfl 55 (.tmp 11) rfl (w.heap.size+2) zYL _ _ _ _ q3.out Tryz.underlying55 rfl zYT ?_
   refine wpList_store_row rfl 55 (.tmp 8) (.tmp 44) rfl (w.heap.size+1) (kU (mG P dx dy m h)) zYZ zYZ _ _ q2.out zYT (by rw[lX,lX]) (vW _) ?_
   have q4:=zW (q2.out.store (mG P dx dy m h))
   have hb2:=zW (vT hb.out (show w.heap.size≤w.heap.size+1 by omega) (kU (mG P dx dy m h)))
   generalize wr.setRow (w.heap.size+1) (kU (mG P dx dy m h))=w4 at*
   iterate 4 go_step
   exact zS (zE rfl _ _ (w.heap.size+1) _ _ _ _ rfl q4.out Tryz.underlying55 rfl zYT) rfl ⟨rfl,hb2.out⟩
def d9(F:FuncId)(op:BitVec 128→BitVec 128→BitVec 128):Prop:=
 ∀(h l h' l' v1 v2:BitVec 64),op (h++l) (h'++l')=v1++v2→∀w:World,Calls Tryz.prog F #[.agg #[.int .u64 (h.toNat:Int),.int .u64 (l.toNat:Int)],.agg #[.int .u64 (h'.toNat:Int),.int .u64 (l'.toNat:Int)]] w fun e w'=>
  e=.returned (.agg #[.int .u64 (v1.toNat:Int),.int .u64 (v2.toNat:Int)])∧Below w.heap.size w w'
def wK(op:BitVec 128→BitVec 128→BitVec 128)(A B:Pl)(k:Nat):Pl:=fun y=>if y<k then op (A y) (B y)else A y
theorem aA(op:BitVec 128→BitVec 128→BitVec 128)(A B:Pl)(k:Nat)(r:BitVec 128)(hr:op (A k) (B k)=r)(y:Nat):J4 (wK op A B k) k r y=wK op A B (k+1) y:=by
 unfold wK;by_cases e:y=k
 ·subst e;rw[rQ,zN zYQ,hr]
 ·rw[rZ _ _ _ _ e];by_cases e2:y<k
  ·rw[zN e2,zN zYQ]
  ·rw[zL e2,zL zYQ]
theorem o8(op:BitVec 128→BitVec 128→BitVec 128)(A B:Pl)(k:Nat):wK op A B k k=A k:=by
 rw[wK,zL zYQ]
theorem zJZ(w:World)(t:TypeId)(A B:Pl):mT w.heap.size t A ((w.alloc (.cells (kU A) t)).alloc (.cells (kU B) t))∧mT (w.heap.size+1) t B ((w.alloc (.cells (kU A) t)).alloc (.cells (kU B) t))∧
  Below w.heap.size w ((w.alloc (.cells (kU A) t)).alloc (.cells (kU B) t))∧((w.alloc (.cells (kU A) t)).alloc (.cells (kU B) t)).heap.size=w.heap.size+1+1:=by
 have S1:(w.alloc (.cells (kU A) t)).heap.size=w.heap.size+1:=zYY;have N2:=mT.new (w.alloc (.cells (kU A) t)) B t;rw[S1]at N2;exact⟨(mT.new w A t).alloc _,N2,(nP w _).alloc (by rw[S1];omega) _,by simp⟩
theorem eV(w:World)(t:TypeId)(A B C:Pl):mT w.heap.size t A (((w.alloc (.cells (kU A) t)).alloc (.cells (kU B) t)).alloc (.cells (kU C) t))∧mT (w.heap.size+1) t B (((w.alloc (.cells (kU A) t)).alloc (.cells (kU B) t)).alloc (.cells (kU C) t))∧
  mT (w.heap.size+1+1) t C (((w.alloc (.cells (kU A) t)).alloc (.cells (kU B) t)).alloc (.cells (kU C) t))∧Below w.heap.size w (((w.alloc (.cells (kU A) t)).alloc (.cells (kU B) t)).alloc (.cells (kU C) t)):=by
 obtain⟨h1,h2,h3,h4⟩:=zJZ w t A B;have N3:=mT.new ((w.alloc (.cells (kU A) t)).alloc (.cells (kU B) t)) C t;rw[h4]at N3;exact⟨h1.alloc _,h2.alloc _,N3,h3.alloc (by rw[h4];omega) _⟩
theorem N4(op:BitVec 128→BitVec 128→BitVec 128)(hF:d9 198 op)(A B:Pl)(w:World):
  Calls Tryz.prog 197 #[.agg (kU A),.agg (kU B),.func (.func 198) #[] #[]] w fun e w'=>e=.returned (.agg (kU fun y=>op (A y) (B y)))∧Below w.heap.size w w':=by
 have hz:=xD;have FF:=zW hF;obtain⟨Z,hZ⟩:∃Z:Pl,(fun y=>op (A y) (B y))=Z:=⟨_,rfl⟩;rw[hZ];have ZZ:=zW hZ;clear hF hZ;go_enter Tryz.func197,Tryz.ntmps197;go_upto_region 1 with fail;have L:=zW (eV w 55 A B (fun _=>0#128));generalize ((w.alloc (.cells (kU A) 55)).alloc (.cells (kU B) 55)).alloc (.cells (kU fun _=>0#128) 55)=w3 at*;clear hz;go_wp2;go_loopw [8] (fun i wr=>∃k:Nat,k≤64∧i=.int .i64 (k:Int)∧mT w.heap.size 55 (wK op A B k) wr∧mT (w.heap.size+1) 55 B wr∧mT (w.heap.size+1+1) 55 (fun _=>0#128) wr∧Below w.heap.size w wr) (fun i _=>64-(intOf i).toNat)
 case atStart=>exact⟨0,by omega,rfl,L.out.1.congr fun y _=>by simp[wK],L.out.2.1,L.out.2.2.1,L.out.2.2.2⟩
 case round=>
  clear L
  obtain⟨k,hk,rfl,h1',h2',h3',hB⟩:=hrel
  have Q:=zW (zM h1' (zM h2' (zM h3' hB)))
  clear h1' h2' h3' hB
  by_cases hlt:k<64
  ·have ki:(k:Int)<64:=zYQ
   obtain⟨v1,v2,ev⟩:=cO (op (A k) (B k))
   have FC:=zW fun w=>FF.out (hi (A k)) (lo (A k)) (hi (B k)) (lo (B k)) v1 v2 (by rw[s7,s7,ev]) w
   have EV:=zW ev
   have KL:=zW hlt
   clear ev
   have a1:=Q.out.1.left k hlt
   have a2:=Q.out.1.right k hlt
   rw[o8]at a1 a2
   have a3:=Q.out.2.1.left k hlt
   have a4:=Q.out.2.1.right k hlt
   generalize hi (A k)=u1 at*
   generalize lo (A k)=u2 at*
   generalize hi (B k)=u3 at*
   generalize lo (B k)=u4 at*
   go_wp2
   have Q1:=zW (zM Q.out.1.drew (zM Q.out.2.1.drew (zM Q.out.2.2.1.drew Q.out.2.2.2.drew)))
   clear Q
   go_region_with (go_at_call 198;refine(FC.out _).mono ?_;rintro e wc ⟨rfl,b3⟩;have Q:=zW (zM (Q1.out.1.step b3) (zM (Q1.out.2.1.step b3) (zM (Q1.out.2.2.1.step b3) (Q1.out.2.2.2.trans (b3.mono Q1.out.2.2.2.size)))));clear Q1 b3 a1 a2 a3 a4;have a1:=Q.out.1.left k KL.out;have a2:=Q.out.1.right k KL.out;have a3:=Q.out.1.frozen (k*2);have a4:=Q.out.1.frozen (k*2+1))
   all_goals
    go_wp2
    go_roundw
    case rel=>
     exact⟨k+1,by omega,by go_num,(Q.out.1.row k KL.out v1 v2).congr fun y _=>aA op A B k _ EV.out y,(Q.out.2.1.other zYQ _ _).other zYQ _ _,(Q.out.2.2.1.other zYQ _ _).other zYQ _ _,(Q.out.2.2.2.setCell (p:=⟨w.heap.size,k*2,none⟩) zYY _).setCell (p:=⟨w.heap.size,k*2+1,none⟩) zYY _⟩
    case measure=>simp[intOf];omega
  ·have ke:=zW (show k=64 by omega)
   have ki:¬(k:Int)<64:=zYQ
   have q1:=zW (Q.out.1.congr (Q:=Z) fun y hy=>by rw[wK,zN (by rw[ke.out];exact hy),←ZZ.out])
   have q2:=zW Q.out.2.2.1
   have hb:=zW Q.out.2.2.2
   clear Q
   go_upto_region 6 with fail
   refine zB ?_
   refine j4 rfl 55 (.tmp 3) rfl w.heap.size zYL _ _ _ _ q1.out Tryz.underlying55 rfl zYT ?_
   refine wpList_store_row rfl 55 (.tmp 6) (.tmp 25) rfl (w.heap.size+1+1) _ zYZ (by simp[Act.eval,Act.put];rfl) _ _ q2.out zYT (by rw[lX,lX]) (vW _) ?_
   have q4:=zW (q2.out.store Z)
   have hb2:=zW (vT hb.out (show w.heap.size≤w.heap.size+1+1 by omega) (kU Z))
   generalize wr.setRow (w.heap.size+1+1) (kU Z)=w4 at*
   iterate 4 go_step
   exact zS (zE rfl _ _ (w.heap.size+1+1) _ _ _ _ rfl q4.out Tryz.underlying55 rfl zYT) rfl ⟨rfl,hb2.out⟩
theorem N5(op:BitVec 128→BitVec 128→BitVec 128)(hF:d9 199 op)(A B:Pl)(w:World):
  Calls Tryz.prog 197 #[.agg (kU A),.agg (kU B),.func (.func 199) #[] #[]] w fun e w'=>e=.returned (.agg (kU fun y=>op (A y) (B y)))∧Below w.heap.size w w':=by
 have hz:=xD;have FF:=zW hF;obtain⟨Z,hZ⟩:∃Z:Pl,(fun y=>op (A y) (B y))=Z:=⟨_,rfl⟩;rw[hZ];have ZZ:=zW hZ;clear hF hZ;go_enter Tryz.func197,Tryz.ntmps197;go_upto_region 1 with fail;have L:=zW (eV w 55 A B (fun _=>0#128));generalize ((w.alloc (.cells (kU A) 55)).alloc (.cells (kU B) 55)).alloc (.cells (kU fun _=>0#128) 55)=w3 at*;clear hz;go_wp2;go_loopw [8] (fun i wr=>∃k:Nat,k≤64∧i=.int .i64 (k:Int)∧mT w.heap.size 55 (wK op A B k) wr∧mT (w.heap.size+1) 55 B wr∧mT (w.heap.size+1+1) 55 (fun _=>0#128) wr∧Below w.heap.size w wr) (fun i _=>64-(intOf i).toNat)
 case atStart=>exact⟨0,by omega,rfl,L.out.1.congr fun y _=>by simp[wK],L.out.2.1,L.out.2.2.1,L.out.2.2.2⟩
 case round=>
  clear L
  obtain⟨k,hk,rfl,h1',h2',h3',hB⟩:=hrel
  have Q:=zW (zM h1' (zM h2' (zM h3' hB)))
  clear h1' h2' h3' hB
  by_cases hlt:k<64
  ·have ki:(k:Int)<64:=zYQ
   obtain⟨v1,v2,ev⟩:=cO (op (A k) (B k))
   have FC:=zW fun w=>FF.out (hi (A k)) (lo (A k)) (hi (B k)) (lo (B k)) v1 v2 (by rw[s7,s7,ev]) w
   have EV:=zW ev
   have KL:=zW hlt
   clear ev
   have a1:=Q.out.1.left k hlt
   have a2:=Q.out.1.right k hlt
   rw[o8]at a1 a2
   have a3:=Q.out.2.1.left k hlt
   have a4:=Q.out.2.1.right k hlt
   generalize hi (A k)=u1 at*
   generalize lo (A k)=u2 at*
   generalize hi (B k)=u3 at*
   generalize lo (B k)=u4 at*
   go_wp2
   have Q1:=zW (zM Q.out.1.drew (zM Q.out.2.1.drew (zM Q.out.2.2.1.drew Q.out.2.2.2.drew)))
   clear Q
   go_region_with (go_at_call 199;refine(FC.out _).mono ?_;rintro e wc ⟨rfl,b3⟩;have Q:=zW (zM (Q1.out.1.step b3) (zM (Q1.out.2.1.step b3) (zM (Q1.out.2.2.1.step b3) (Q1.out.2.2.2.trans (b3.mono Q1.out.2.2.2.size)))));clear Q1 b3 a1 a2 a3 a4;have a1:=Q.out.1.left k KL.out;have a2:=Q.out.1.right k KL.out;have a3:=Q.out.1.frozen (k*2);have a4:=Q.out.1.frozen (k*2+1))
   all_goals
    go_wp2
    go_roundw
    case rel=>
     exact⟨k+1,by omega,by go_num,(Q.out.1.row k KL.out v1 v2).congr fun y _=>aA op A B k _ EV.out y,(Q.out.2.1.other zYQ _ _).other zYQ _ _,(Q.out.2.2.1.other zYQ _ _).other zYQ _ _,(Q.out.2.2.2.setCell (p:=⟨w.heap.size,k*2,none⟩) zYY _).setCell (p:=⟨w.heap.size,k*2+1,none⟩) zYY _⟩
    case measure=>simp[intOf];omega
  ·have ke:=zW (show k=64 by omega)
   have ki:¬(k:Int)<64:=zYQ
   have q1:=zW (Q.out.1.congr (Q:=Z) fun y hy=>by rw[wK,zN (by rw[ke.out];exact hy),←ZZ.out])
   have q2:=zW Q.out.2.2.1
   have hb:=zW Q.out.2.2.2
   clear Q
   go_upto_region 6 with fail
   refine zB ?_
   refine j4 rfl 55 (.tmp 3) rfl w.heap.size zYL _ _ _ _ q1.out Tryz.underlying55 rfl zYT ?_
   refine wpList_store_row rfl 55 (.tmp 6) (.tmp 25) rfl (w.heap.size+1+1) _ zYZ (by simp[Act.eval,Act.put];rfl) _ _ q2.out zYT (by rw[lX,lX]) (vW _) ?_
   have q4:=zW (q2.out.store Z)
   have hb2:=zW (vT hb.out (show w.heap.size≤w.heap.size+1+1 by omega) (kU Z))
   generalize wr.setRow (w.heap.size+1+1) (kU Z)=w4 at*
   iterate 4 go_step
   exact zS (zE rfl _ _ (w.heap.size+1+1) _ _ _ _ rfl q4.out Tryz.underlying55 rfl zYT) rfl ⟨rfl,hb2.out⟩
theorem IV:(Tryz.prog.info? 53).map (·.size)=some 128:=by kernel_rfl
theorem zJB:(Tryz.prog.info? 52).map (·.size)=some 2:=by kernel_rfl
theorem pZ(P:Pl)(k:Nat)(hk:k<64):(kU P).extract (k*2) (k*2+2)=#[.int .u64 ((hi (P k)).toNat:Int),.int .u64 ((lo (P k)).toNat:Int)]:=by
 apply qK
 intro j
 rw[jA];by_cases hj:j<2
 ·rw[zN zY8,cY _ _ zYQ];rcases(show j=0∨j=1 by omega)with rfl|rfl
  ·rw[show k*2+0=2*k by omega,eJ];rfl
  ·rw[show k*2+1=2*k+1 by omega,fN];rfl
 ·rw[zL zY8,zD zYN]
section
variable {P:Program}
theorem u6(d:Nat)(ta tr:TypeId)(dr:TypeDesc)(n sz:Nat)(xs ys:Array Value)(r:Nat→Bool)(hd:(match dr with| .struct _| .array _ _=>true|_=>false)=true)(ht:P.underlying ta=some (.array n tr))(hu:P.underlying tr=some dr)(hi:(P.info? tr).map (·.size)=some sz)
  (h:∀i,i<n→∀w,(Op.equalIn d tr (.agg (xs.extract (i*sz) (i*sz+sz))) (.agg (ys.extract (i*sz) (i*sz+sz)))).run P w=.ok (r i) w) (w:World):
  (Op.equalIn (d+1) ta (.agg xs) (.agg ys)).run P w=.ok ((List.range' 0 n).all r) w:=by
 cases hq:P.info? tr with
 |none=>simp[hq]at hi
 |some i=>
  have hs:i.size=sz:=zY5
  simp only[Op.equalIn,zC,qO ht,Result.andThen_ok,sizeOf,typeInfo,hq,hs,Sem.run_pure]
  have go:∀l:List Nat,(∀i∈l,i<n)→(forIn (m:=Sem) l ((none:Option Bool),()) (fun i _=>do
      let a←part tr xs (i*sz)
      let b←part tr ys (i*sz)
      let r←Op.equalIn d tr a b
      if r=false then pure (ForInStep.done (some false,()))else pure (ForInStep.yield (none,())))).run P w=.ok ((if l.all r then none else some false),()) w:=by
   intro l;induction l with
   |nil=>intro _;simp
   |cons k l ih=>
    intro hl
    simp only[List.forIn_cons,zC,uT tr dr xs (k*sz) sz w hd hu hi,uT tr dr ys (k*sz) sz w hd hu hi,Result.andThen_ok,h k (hl k zYY) w]
    cases hk:r k
    ·simp[hk]
    ·simp[hk]
     have:=ih fun i hi=>hl i (by simp[hi])
     simpa using this
  have hgo:=go (List.range' 0 n) fun i hi=>by have:=jN.1 hi;omega
  simp[zC,hq,hs,Std.Legacy.Range.forIn_eq_forIn_range']at hgo⊢
  rw[hgo]
  have ha:(List.range' 0 n).all r=true↔∀x,x<n→r x=true:=by simp[jV,jN]
  by_cases hall:∀x,x<n→r x=true
  ·rw[ha.2 hall];simp only[Result.andThen_ok,zN hall];simp
  ·cases hb:(List.range' 0 n).all r
   ·simp only[Result.andThen_ok,zL hall];simp
   ·exact absurd (ha.1 hb) hall
end
def yD(A B:Pl):Bool:=(List.range' 0 64).all fun y=>decide (A y=B y)
theorem rD(A B:Pl):yD A B=true↔∀y,y<64→A y=B y:=by
 unfold yD;rw[jV];constructor
 ·intro h y hy;have:=h y (by rw[jN];omega);exact qC this
 ·intro h y hy;rw[jN]at hy;exact qZ (h y zYQ)
theorem IR(h l h' l':BitVec 64)(d:Nat)(w:World):(Op.equalIn (d+2) 52 (.agg #[.int .u64 (h.toNat:Int),.int .u64 (l.toNat:Int)]) (.agg #[.int .u64 (h'.toNat:Int),.int .u64 (l'.toNat:Int)])).run Tryz.prog w=.ok (decide (h++l=h'++l')) w:=by
 have ht:Tryz.prog.underlying 52=some (.struct (Tryz.prog.fieldsOf 52)):=zYJ;have hp:Tryz.prog.stoodInHeld 52=false:=zYJ;rw[run_equalIn_struct (P:=Tryz.prog) w (d+1) 52 _ _ ht hp];simp[Program.fieldsOf,Tryz.underlying52,Op.eqFields,go_sem];have e:h++l=h'++l'↔((h.toNat:Int)=h'.toNat∧(l.toNat:Int)=l'.toNat):=by
  rw[zV6,←BitVec.toNat_inj,←BitVec.toNat_inj];omega
 by_cases e1:(h.toNat:Int)=h'.toNat
 ·by_cases e2:(l.toNat:Int)=l'.toNat
  ·rw[zN e1,zN e2,qZ (e.2 ⟨e1,e2⟩)]
  ·rw[zN e1,zL e2,zU fun q=>e2 (e.1 q).2]
 ·rw[zL e1,zU fun q=>e1 (e.1 q).1]
theorem NT(C:Pl):(kU C).extract 0 (0+128)=kU C:=by
 apply qK
 intro j
 rw[jA,lX];by_cases hj:j<128
 ·rw[zN zYQ,qY]
 ·rw[zL zYQ,zD zY8]
theorem sH(A B:Pl)(d:Nat)(w:World):(Op.equalIn (d+4) 55 (.agg (kU A)) (.agg (kU B))).run Tryz.prog w=.ok (yD A B) w:=by
 have ht:Tryz.prog.underlying 55=some (.struct (Tryz.prog.fieldsOf 55)):=zYJ;have hp:Tryz.prog.stoodInHeld 55=false:=zYJ;rw[run_equalIn_struct (P:=Tryz.prog) w (d+3) 55 _ _ ht hp];have hx:∀C:Pl,(part 53 (kU C) 0).run Tryz.prog w=.ok (.agg (kU C)) w:=by
  intro C;rw[uT (P:=Tryz.prog) 53 _ (kU C) 0 128 w rfl Tryz.underlying53 IV,NT]
 have he:(Op.equalIn (d+3) 53 (.agg (kU A)) (.agg (kU B))).run Tryz.prog w=.ok (yD A B) w:=u6 (P:=Tryz.prog) (d+2) 53 52 _ 64 2 (kU A) (kU B) (fun y=>decide (A y=B y)) rfl Tryz.underlying53 Tryz.underlying52 zJB (fun y hy w=>by
  rw[pZ A y hy,pZ B y hy,IR,s7,s7]) w
 have hxA:=hx A;have hxB:=hx B;clear hx ht hp;generalize yD A B=v at*;generalize kU A=CA at*;generalize kU B=CB at*;simp only[Program.fieldsOf,Tryz.underlying55,Op.eqFields];rw[zN zYK,zC,hxA,Result.andThen_ok,zC,hxB,Result.andThen_ok,zC,he,Result.andThen_ok];cases v
 ·rw[zN zYK,Sem.run_pure]
 ·rw[zL zYK,Sem.run_pure]
theorem EZ(A B:Pl)(w:World):(binOp .neq 55 (.agg (kU A)) (.agg (kU B))).run Tryz.prog w=.ok (.bool (!yD A B)) w:=by
 have h:=sH A B 9996 w;have e:(10000:Nat)=9996+4:=zYK;rw[run_neq_struct,e,h];simp only[Result.andThen_ok]
theorem JK:Tryz.prog.eqGuardType Tryz.prog.depth 55=false:=by kernel_rfl
section
variable {P:Program} {ops:Array Oper} {C:World→Prop} {Q:Act→Prop}
theorem vF{o:Oper}{rest:List Oper}{a:Act}(hgd:o.guard=none)(v:Value)(h1:∀w,C w→(execOp a.eval o).run P w=.ok (.value v) w)(h:wpQuiet P ops C Q rest (a.put o.dst v)):wpQuiet P ops C Q (o::rest) a:=by
 have hw:Region.wanted o (yielded ops a.tmps)=true:=by simp[Region.wanted,hgd]
 exact zMF
theorem gR{o:Oper}{ρ:Operand→Value}{w:World}(ty:TypeId)(x:Operand)(ho:o.op=.load ty x)(g:Nat)(hx:ρ x=.pointer (some ⟨g,0,none⟩))(t:TypeId)(cs:Array Value)(fr:Nat×Nat)(d:TypeDesc)(hg:w.heap[g]?=some (.cells cs t fr))
  (hu:P.underlying ty=some d) (hd:(match d with| .struct _| .array _ _=>true|_=>false)=true) (hi:(P.info? ty).map (·.size)=some cs.size):(execOp ρ o).run P w=.ok (.value (.agg cs)) w:=by
 unfold execOp;simp only[ho,hx,Instr.loadAt,Instr.sureAddr,zC,Sem.run_pure,Result.andThen_ok,run_loadVar_row w g t ty cs fr d hg hu hd hi]
theorem aE{o:Oper}{ρ:Operand→Value}{w:World}(ty:TypeId)(ho:o.op=.build ty #[])(r:Value)(hr:(Instr.build ty #[]).run P w=.ok r w):(execOp ρ o).run P w=.ok (.value r) w:=by
 unfold execOp;simp only[ho];rw[show(#[]:Array (Nat×Operand)).map (fun(x:Nat×Operand)=>(x.1,ρ x.2))=#[] by simp,zC,hr];simp[Result.andThen_ok]
end
theorem NF{P:Program}{o:Oper}{ρ:Operand→Value}{w:World}(x:Operand)(ho:o.op=.assign x)(v:Value)(hx:ρ x=v):(execOp ρ o).run P w=.ok (.value v) w:=by
 unfold execOp;simp[ho,hx]
theorem rW{P:Program}{fn:Func}{p q:Tmp}{ty:TypeId}(h:fn.results=#[.cell p ty,.tmp q])(tmps:Array Value)(w:World)(g:Nat)(t:TypeId)(cs:Array Value)(fr:Nat×Nat)(d:TypeDesc)(v:Value)
  (hp:tmps.getD p undef=.pointer (some ⟨g,0,none⟩)) (hq:tmps.getD q undef=v) (hg:w.heap[g]?=some (.cells cs t fr))
  (hu:P.underlying ty=some d) (hd:(match d with| .struct _| .array _ _=>true|_=>false)=true) (hi:(P.info? ty).map (·.size)=some cs.size):
  (results fn tmps).run P w=.ok (.tuple #[.agg cs,v]) w:=by
 exact zL5
theorem aO(w:World):(Instr.build 55 #[]).run Tryz.prog w=.ok (.agg (kU fun _=>0#128)) w:=by
 refine run_build w 55 _ _ ?_;obtain⟨it,hit,hz⟩:=kY.1 oP;simp only[jU]at hz;have hp:(match Tryz.prog.underlying 55 with|some (.struct fields)=>fields.toList.mapM (fun f=>(Tryz.prog.info? f.type).map fun i=>(f.offset,i.size))|_=>none)=some [(0,128)]:=by kernel_rfl
 rw[Tryz.underlying55]at hp;unfold Program.built;rw[hit,Tryz.underlying55];simp only at hp⊢;rw[hz.1,hp];rfl
theorem zQV{o:Oper}{ρ:Operand→Value}{w:World}(x y:Operand)(z:TypeId)(ho:o.op=.binOp .neq 55 x y z)(A B:Pl)(hx:ρ x=.agg (kU A))(hy:ρ y=.agg (kU B)):(execOp ρ o).run Tryz.prog w=.ok (.value (.bool (!yD A B))) w:=by
 unfold execOp;simp only[ho,hx,hy];rw[zC,zC,run_eqGuard_agg w .neq 55 x y (kU A) (kU B) JK,Result.andThen_ok,EZ,Result.andThen_ok,Sem.run_pure]
theorem G9(A B:Pl):(!yD (fun y=>A y&&&B y) (fun _=>0#128))=tY A B:=by
 rw[Bool.eq_iff_iff,UM];cases h:yD (fun y=>A y&&&B y) (fun _=>0#128)
 ·simp only[Bool.not_false,true_iff];rcases Classical.em (∃y,y<64∧A y&&&B y≠0#128)with h2|h2
  ·exact h2
  ·have h3:=(rD (fun y=>A y&&&B y) (fun _=>0#128)).2 fun y hy=>by
    rcases Classical.em (A y&&&B y=0#128)with h4|h4
    ·exact h4
    ·exact absurd ⟨y,hy,h4⟩ h2
   rw[h]at h3;cases h3
 ·simp only[Bool.not_true,Bool.false_eq_true,false_iff];rintro⟨y,hy,h4⟩;exact h4 ((rD _ _).1 h y hy)
theorem JM:d9 198 (·^^^·):=fun h l h' l' v1 v2 e w=>xorW e w
theorem JN:d9 199 (·&&&·):=fun h l h' l' v1 v2 e w=>andW e w
structure PB2(s:Nat)(t:TypeId)(A B:Pl) where
 w:World
 a:mT s t A w
 b:mT (s+1) t B w
theorem zQB(A B:Pl)(w:World):
  Calls Tryz.prog 173 #[.agg (kU A),.agg (kU B)] w fun e w'=>e=.returned (.tuple #[.agg (kU (wX A B)),.bool (tY A B)])∧Below w.heap.size w w':=by
 have hz:=xD;obtain⟨Z,hZ⟩:∃Z,wX A B=Z:=⟨_,rfl⟩;obtain⟨X,hX⟩:∃X:Pl,(fun y=>A y&&&B y)=X:=⟨_,rfl⟩;obtain⟨hb,hh⟩:∃hb,tY A B=hb:=⟨_,rfl⟩;have CX:=zW fun w=>N4 (·^^^·) JM A B w;have CA:=zW fun w=>N5 (·&&&·) JN A B w;have SZ:=zW (G9 A B);have DE:(fun y=>A y^^^B y)=wX A B:=rfl;rw[DE,hZ]at CX;rw[hX]at CA SZ;rw[hh]at SZ;rw[hZ,hh];clear hZ hX hh DE;go_enter Tryz.func173,Tryz.ntmps173;go_upto_region 1 with fail;have L:=zW (eV w 55 A B (fun _=>0#128));generalize ((w.alloc (.cells (kU A) 55)).alloc (.cells (kU B) 55)).alloc (.cells (kU fun _=>0#128) 55)=w3 at*;clear hz;refine mV (C:=fun w'=>∃x:PB2 w.heap.size 55 A B,w'=x.w) [([0,1,3,4,6],2),([],5),([7],8)] [9] zYJ zYJ (fun _ _ d _ _ h=>by cases d<;>exact h) ⟨⟨w3.drew,L.out.1.drew,L.out.2.1.drew⟩,rfl⟩ ?_;intro wd hwd;have D:=zW (show mT w.heap.size 55 A wd∧mT (w.heap.size+1) 55 B wd∧mT (w.heap.size+1+1) 55 (fun _=>0#128) wd∧Below w.heap.size w wd by rw[hwd];exact⟨L.out.1.drew,L.out.2.1.drew,L.out.2.2.1.drew,L.out.2.2.2.drew⟩);clear hwd L;refine mY zYX zYW ?_;refine vF rfl (.agg (kU A)) (fun w' hC=>by obtain⟨x,rfl⟩:=hC;exact gR 55 (.tmp 2) rfl w.heap.size zYZ _ _ _ _ x.a Tryz.underlying55 rfl zYT) ?_;refine vF rfl (.agg (kU B)) (fun w' hC=>by obtain⟨x,rfl⟩:=hC;exact gR 55 (.tmp 3) rfl (w.heap.size+1) zYZ _ _ _ _ x.b Tryz.underlying55 rfl zYT) ?_;refine vF rfl (.agg (kU A)) (fun w' hC=>by obtain⟨x,rfl⟩:=hC;exact gR 55 (.tmp 2) rfl w.heap.size zYZ _ _ _ _ x.a Tryz.underlying55 rfl zYT) ?_;refine vF rfl (.agg (kU B)) (fun w' hC=>by obtain⟨x,rfl⟩:=hC;exact gR 55 (.tmp 3) rfl (w.heap.size+1) zYZ _ _ _ _ x.b Tryz.underlying55 rfl zYT) ?_;refine vF rfl _ (fun w' _=>aE 55 rfl _ (aO w')) ?_;refine zY ?_;refine lO zYW ?_;intro K hK;go_wp2_with fail;refine(CX.out _).mono ?_;rintro e w4 ⟨rfl,b4⟩;have D4:=zW (zM (D.out.1.step b4) (zM (D.out.2.1.step b4) (zM (D.out.2.2.1.step b4) (D.out.2.2.2.trans (b4.mono D.out.2.2.2.size)))));clear D b4;simp only[];refine hK _ _ ⟨⟨w4,D4.out.1,D4.out.2.1⟩,rfl⟩ ?_;clear hK K;refine mY zYX zYW ?_;refine zY ?_;refine lO zYW ?_;intro K hK;go_wp2_with fail;refine(CA.out _).mono ?_;rintro e w5 ⟨rfl,b5⟩;have D5:=zW (zM (D4.out.1.step b5) (zM (D4.out.2.1.step b5) (zM (D4.out.2.2.1.step b5) (D4.out.2.2.2.trans (b5.mono D4.out.2.2.2.size)))));clear D4 b5;simp only[];refine hK _ _ ⟨⟨w5,D5.out.1,D5.out.2.1⟩,rfl⟩ ?_;clear hK K;refine mY zYX zYW ?_;refine vF rfl (.bool hb) (fun w' _=>by rw[←SZ.out];exact zQV (.tmp 11) (.tmp 12) _ rfl X (fun _=>0#128) zYZ zYZ) ?_;refine zY ?_;refine lO zYW ?_;intro K hK;refine wp_store_row 55 (.tmp 4) (.tmp 8) rfl (w.heap.size+1+1) (kU Z) zYZ zYZ _ _ D5.out.2.2.1 zYT (by rw[lX,lX]) (vW _) ?_;have q4:=zW (D5.out.2.2.1.store Z);have q5:=zW (zM (D5.out.1.otherRow (g:=w.heap.size+1+1) zYQ (kU Z)) (D5.out.2.1.otherRow (g:=w.heap.size+1+1) zYQ (kU Z)));have hb2:=zW (vT D5.out.2.2.2 (show w.heap.size≤w.heap.size+1+1 by omega) (kU Z));generalize w5.setRow (w.heap.size+1+1) (kU Z)=w6 at*;refine hK _ _ ⟨⟨w6,q5.out.1,q5.out.2⟩,rfl⟩ ?_;clear hK K;refine nR zYX ?_;refine vF rfl (.bool hb) (fun w' _=>NF (.tmp 13) rfl _ zYZ) ?_;refine zY ?_;iterate 3 go_step
 exact zS (rW rfl _ _ (w.heap.size+1+1) _ _ _ _ (.bool hb) rfl rfl q4.out Tryz.underlying55 rfl zYT) rfl ⟨rfl,hb2.out⟩
theorem L4(A:Option Addr)(L:List Nat)(n cap c x y:Nat)(clip b:Bool)(m h:Nat)(hr:Res b m h)(w:World)(H:rR w A L)(hL:∀x∈L,x≤65535)(hn:L.length=n)(n1:n≤16)(c8:c=8∨c=16)(hx:x<m)(hy:y<h):
  Calls Tryz.prog 174 #[.slice A n cap,.int .i64 (c:Int),.int .i64 (x:Int),.int .i64 (y:Int),.bool b,.bool clip] w fun e w'=>e=.returned (.agg (kU (spr (nth L) n c x y m h clip)))∧Below w.heap.size w w':=by
 obtain⟨m0,m1,h0,h1⟩:=hr.bounds;have HH:=zW (zM H (zM hL hn));have RR:=zW hr;have hz:=xD;have C8:=zW c8;have cc:c≤16:=zYQ;clear hr H hL hn c8;go_enter Tryz.func174,Tryz.ntmps174;go_wp2_with fail;have N1:=zW (mT.new w (fun _=>0#128) 55);have B1:=zW (nP w (.cells (kU fun _=>0#128) 55));have S1:(w.alloc (.cells (kU fun _=>0#128) 55)).heap.size=w.heap.size+1:=zYY;generalize w.alloc (.cells (kU fun _=>0#128) 55)=w1 at*;refine(fC RR.out w1).mono ?_;rintro e w' ⟨rfl,rfl⟩;go_wp2;have L2:=zW (mT.new w1 (fun _=>0#128) 55);rw[S1]at L2;have L1:=zW (N1.out.alloc (.cells (kU fun _=>0#128) 55));have B2:=zW (B1.out.alloc (by rw[S1];omega) (.cells (kU fun _=>0#128) 55));clear N1 B1 S1 hz;generalize w1.alloc (.cells (kU fun _=>0#128) 55)=w2 at*;go_loopw [26] (fun t wr=>∃i:Nat,i≤n∧t=.int .i64 (i:Int)∧mT w.heap.size 55 (fun _=>0#128) wr∧mT (w.heap.size+1) 55 (spr (nth L) i c x y m h clip) wr∧Below w.heap.size w wr) (fun t _=>n-(intOf t).toNat)
 case atStart=>exact⟨0,by omega,rfl,L1.out,L2.out.congr fun j _=>(IQ _ _ _ _ _ _ _ hy j).symm,B2.out⟩
 case round=>
  clear L1 L2 B2
  obtain⟨i,hi,rfl,h1',h2',hB⟩:=hrel
  have Q:=zW (zM h1' (zM h2' hB))
  clear h1' h2' hB
  by_cases hlt:i<n
  ·have hii:(i:Int)<(n:Int):=zYQ
   obtain⟨ad,hA,had,hcell⟩:=(HH.out.1.below Q.out.2.2).at_ (k:=i) (by rw[HH.out.2.2];exact hlt)
   have bl:=nth_le HH.out.2.1 i
   change wr.cell? (ad.add i)=some (.int .u16 (nth L i:Int))at hcell
   obtain⟨v,hv⟩:∃v,nth L i=v:=⟨_,rfl⟩
   rw[hv]at hcell bl
   have HV:=zW hv
   obtain rfl:=hA
   clear hv had
   obtain⟨v1,v2,ev⟩:=cO (uI v c x m clip)
   have SP:=zW fun w=>zJM (b:=v) (c:=c) (x:=x) (m:=m) (clip:=clip) ev rfl rfl rfl rfl C8.out bl zYQ m1 w
   have EV:=zW ev
   clear ev
   have ea:(y:Int)+(i:Int)=((y+i:Nat):Int):=zYQ
   obtain⟨a,ha⟩:∃a,a=y+i:=⟨_,rfl⟩
   rw[←ha]at ea
   have a9:(a:Int)≤1000:=zYQ
   have HA:=zW ha
   clear ha
   rcases jR a h with hin|hin
   ·have r6:a<64:=by have:=HA.out;omega
    have r7:(a:Int)<(h:Int):=zYQ
    go_wp2_with fail
    refine(SP.out _).mono ?_
    rintro e w' ⟨rfl,hb⟩
    have Q2:=zW (zM (Q.out.1.step hb) (zM (Q.out.2.1.step hb) (Q.out.2.2.trans (hb.mono Q.out.2.2.size))))
    clear hb hcell
    have c1:=Q2.out.2.1.left a r6
    have c2:=Q2.out.2.1.right a r6
    have c3:=Q2.out.2.1.frozen (a*2)
    have c4:=Q2.out.2.1.frozen (a*2+1)
    generalize Num.hi (spr (nth L) i c x y m h clip a)=u3 at*
    generalize Num.lo (spr (nth L) i c x y m h clip a)=u4 at*
    go_wp2
    go_roundw
    case rel=>
     refine⟨i+1,by omega,by go_num,(Q2.out.1.other zYQ _ _).other zYQ _ _,(Q2.out.2.1.row a r6 v1 v2).congr fun j _=>?_,(Q2.out.2.2.setCell (p:=⟨w.heap.size+1,a*2,none⟩) zYY _).setCell (p:=⟨w.heap.size+1,a*2+1,none⟩) zYY _⟩
     rw[spr_in _ _ _ _ _ _ _ _ zYQ hy (by have:=HA.out;omega),HV.out,EV.out,←HA.out]
     by_cases e:j=a
     ·rw[e,rQ,zN rfl]
     ·rw[rZ _ _ _ _ e,zL e]
    case measure=>simp[intOf];omega
   ·have hii2:¬(a:Int)<(h:Int):=zYQ
    cases clip
    ·obtain⟨r,hr⟩:∃r,r=a-h:=⟨_,rfl⟩
     have HR:=zW hr
     have HRR:=zW (show r=y+i-h by have:=HA.out;omega)
     have er:(a:Int)-(h:Int)=(r:Int):=zYQ
     have er7:r<h:=by have:=HA.out;omega
     clear hr
     have r6:r<64:=by have:=HA.out;omega
     have r7:(r:Int)<(h:Int):=zYQ
     go_wp2_with fail
     refine(SP.out _).mono ?_
     rintro e w' ⟨rfl,hb⟩
     have Q2:=zW (zM (Q.out.1.step hb) (zM (Q.out.2.1.step hb) (Q.out.2.2.trans (hb.mono Q.out.2.2.size))))
     clear hb hcell
     have c1:=Q2.out.2.1.left r r6
     have c2:=Q2.out.2.1.right r r6
     have c3:=Q2.out.2.1.frozen (r*2)
     have c4:=Q2.out.2.1.frozen (r*2+1)
     generalize Num.hi (spr (nth L) i c x y m h false r)=u3 at*
     generalize Num.lo (spr (nth L) i c x y m h false r)=u4 at*
     go_wp2
     go_roundw
     case rel=>
      refine⟨i+1,by omega,by go_num,(Q2.out.1.other zYQ _ _).other zYQ _ _,(Q2.out.2.1.row r r6 v1 v2).congr fun j _=>?_,(Q2.out.2.2.setCell (p:=⟨w.heap.size+1,r*2,none⟩) zYY _).setCell (p:=⟨w.heap.size+1,r*2+1,none⟩) zYY _⟩
      rw[zJH _ _ _ _ _ _ _ zYQ hy (by have:=HA.out;omega),HV.out,EV.out,←HRR.out]
      by_cases e:j=r
      ·rw[e,rQ,zN rfl]
      ·rw[rZ _ _ _ _ e,zL e]
     case measure=>simp[intOf];omega
    ·go_wp2
     go_roundw
     case rel=>
      exact⟨i+1,by omega,by go_num,Q.out.1,Q.out.2.1.congr fun j _=>(IZ _ _ _ _ _ _ _ (by have:=HA.out;omega) j).symm,Q.out.2.2⟩
     case measure=>simp[intOf];omega
  ·have ke:=zW (show i=n by omega)
   have ki:¬(i:Int)<(n:Int):=zYQ
   have q1:=zW Q.out.1
   have q2:=zW (Q.out.2.1.congr (Q:=spr (nth L) n c x y m h clip) fun j _=>by rw[ke.out])
   have hb:=zW Q.out.2.2
   clear Q
   go_upto_region 12 with fail
   refine zB ?_
   refine j4 rfl 55 (.tmp 15) rfl (w.heap.size+1) zYL _ _ _ _ q2.out Tryz.underlying55 rfl zYT ?_
   refine wpList_store_row rfl 55 (.tmp 12) (.tmp 61) rfl w.heap.size (kU (spr (nth L) n c x y m h clip)) zYZ zYZ _ _ q1.out zYT (by rw[lX,lX]) (vW _) ?_
   have q4:=zW (q1.out.store (spr (nth L) n c x y m h clip))
   have hb2:=zW (vT hb.out (zH _) (kU (spr (nth L) n c x y m h clip)))
   generalize wr.setRow w.heap.size (kU (spr (nth L) n c x y m h clip))=w4 at*
   iterate 4 go_step
   exact zS (zE rfl _ _ w.heap.size _ _ _ _ rfl q4.out Tryz.underlying55 rfl zYT) rfl ⟨rfl,hb2.out⟩
section
variable {P:Program} {ops:Array Oper} {C:World→Prop}
end
section
variable {ops:Array Oper} {W:World}
theorem VM{Q:Exit→Act→World→Prop}{o:Oper}{rest:List Oper}{a:Act}(hgd:o.guard=none)(ho:o.op=.build 55 #[])(h:wpList Tryz.prog ops Q rest (a.put o.dst (.agg (kU fun _=>0#128))) W):wpList Tryz.prog ops Q (o::rest) a W:=by
 refine qM hgd fun K hK=>?_;unfold Oper.wp;rw[aE 55 ho _ (aO W)];exact hK _ _ h
end
theorem spW{A:Option Addr}{L:List Nat}{n cap c x y:Nat}{ci xi yi:Int}{clip b:Bool}{m h:Nat}(hr:Res b m h){w:World}(H:rR w A L)(hL:∀x∈L,x≤65535)(hn:L.length=n)(n1:n≤16)(c8:c=8∨c=16)(hx:x<m)(hy:y<h)(e1:ci=(c:Int))(e2:xi=(x:Int))(e3:yi=(y:Int)){Z:Pl}(hZ:spr (nth L) n c x y m h clip=Z):
  Calls Tryz.prog 174 #[.slice A n cap,.int .i64 ci,.int .i64 xi,.int .i64 yi,.bool b,.bool clip] w fun e w'=>e=.returned (.agg (kU Z))∧Below w.heap.size w w':=by
 subst e1 e2 e3 hZ;exact L4 A L n cap c x y clip b m h hr w H hL hn n1 c8 hx hy
theorem drW{A B Z:Pl}{v:Bool}(e1:wX A B=Z)(e2:tY A B=v)(w:World):Calls Tryz.prog 173 #[.agg (kU A),.agg (kU B)] w fun e w'=>e=.returned (.tuple #[.agg (kU Z),.bool v])∧Below w.heap.size w w':=by
 subst e1 e2;exact zQB A B w
theorem scW{A Z:Pl}{dx dy:Int}{b:Bool}{m h:Nat}(hr:Res b m h)(e:mG A dx dy m h=Z)(d0: -1000≤dx)(d1:dx≤1000)(e0: -1000≤dy)(e1:dy≤1000)(w:World):Calls Tryz.prog 176 #[.agg (kU A),.int .i64 dx,.int .i64 dy,.bool b] w fun e w'=>e=.returned (.agg (kU Z))∧Below w.heap.size w w':=by
 subst e;exact YE A dx dy b m h hr w d0 d1 e0 e1
theorem rR.step{w w':World}{A:Option Addr}{L:List Nat}(h:rR w A L)(hb:Below w.heap.size w w'):rR w' A L:=h.below hb
theorem zX8(bits:Nat→Nat)(len c x y m h:Nat)(clip:Bool):fwd (zJS bits len c x y m h clip)=spr bits len c x y m h clip:=funext fun j=>VC bits len c x y m h clip j
structure Sc where
 P:Nat→Pl
 hi:Bool
 M:Int
def cR(S:Sc)(j:Nat):Value:=if j<512 then .int .u64 (cV (S.P (j/128)) (j%128))else if j=512 then .bool S.hi else .int .i64 S.M
def kA(S:Sc):Array Value:=((List.range 514).map (cR S)).toArray
def yS(P:Nat→Pl):Array Value:=((List.range 512).map fun j=>Value.int .u64 (cV (P (j/128)) (j%128))).toArray
theorem lZ(S:Sc):(kA S).size=514:=by simp[kA]
theorem sT(P:Nat→Pl):(yS P).size=512:=by simp[yS]
theorem mH(S:Sc)(j:Nat)(hj:j<514):(kA S)[j]?=some (cR S j):=by simp[kA,hj]
theorem aQ(P:Nat→Pl)(j:Nat)(hj:j<512):(yS P)[j]?=some (.int .u64 (cV (P (j/128)) (j%128))):=by simp[yS,hj]
theorem nQ(S:Sc):vX (kA S):=by
 unfold vX;rw[qA];intro v hv;simp only[kA,kN,jX,jG]at hv;obtain⟨j,_,rfl⟩:=hv;unfold cR;split
 ·rfl
 ·split<;>rfl
theorem ZA{A B:Pl}(h:∀y,y<64→A y=B y){j:Nat}(hj:j<128):cV A j=cV B j:=by
 unfold cV;rw[h (j/2) zYQ]
theorem rT{S T:Sc}(h:∀i,i<4→∀y,y<64→S.P i y=T.P i y)(hh:S.hi=T.hi)(hM:S.M=T.M):kA S=kA T:=by
 unfold kA;refine congrArg List.toArray (List.map_congr_left fun j hj=>?_);have hj:=jG.1 hj;unfold cR;by_cases h5:j<512
 ·rw[zN h5,zN h5,ZA (h (j/128) zYQ) zYQ]
 ·rw[zL h5,zL h5,hh,hM]
theorem IN(S:Sc)(i:Nat)(hi:i<4):(kA S).extract (i*128) (i*128+128)=kU (S.P i):=by
 apply qK
 intro j
 rw[jA,lZ];by_cases hj:j<128
 ·rw[zN zYQ,mH _ _ zYQ,cY _ _ hj];unfold cR;rw[zN zYQ,show(i*128+j)/128=i by omega,show(i*128+j)%128=j by omega]
 ·rw[zL zYQ,zD zY8]
theorem G8(S:Sc):(kA S).extract 0 (0+512)=yS S.P:=by
 apply qK
 intro j
 rw[jA,lZ];by_cases hj:j<512
 ·rw[zN zYQ,mH _ _ zYQ,aQ _ _ hj];unfold cR;rw[zN zYQ,qY]
 ·rw[zL zYQ,zD (by rw[sT];omega)]
theorem TX(P:Nat→Pl)(i:Nat)(hi:i<4):(yS P).extract (i*128) (i*128+128)=kU (P i):=by
 apply qK
 intro j
 rw[jA,sT];by_cases hj:j<128
 ·rw[zN zYQ,aQ _ _ zYQ,cY _ _ hj,show(i*128+j)/128=i by omega,show(i*128+j)%128=j by omega]
 ·rw[zL zYQ,zD zY8]
def Sc.put(S:Sc)(i:Nat)(Q:Pl):Sc:=⟨fun k=>if k=i then Q else S.P k,S.hi,S.M⟩
def Sc.mask(S:Sc)(m:Int):Sc:=⟨S.P,S.hi,m⟩
theorem sc_put(S:Sc)(i:Nat)(hi:i<4)(Q:Pl):lH (kA S) (i*128) (kU Q)=kA (S.put i Q):=by
 unfold lH;apply qK
 intro j
 have hsz:(kA S).toList.length=514:=by rw[Array.length_toList,lZ]
 have hpz:(kU Q).toList.length=128:=by rw[Array.length_toList,lX]
 rw[zX,List.getElem?_append,List.getElem?_append,qU,qB,hsz,hpz]
 rw[show min (i*128) 514=i*128 by omega]
 by_cases h1:j<i*128
 ·rw[zN zYQ,zN h1,List.getElem?_take,zN h1,q9,mH _ _ zYQ,mH _ _ zYQ];unfold cR Sc.put;rw[zN zYQ,zN zYQ];simp only;rw[zL zYQ]
 ·by_cases h2:j<i*128+128
  ·rw[zN h2,zL h1,q9,cY _ _ zYQ,mH _ _ zYQ];unfold cR Sc.put;rw[zN zYQ];simp only;rw[zN zYQ,show j%128=j-i*128 by omega]
  ·rw[zL h2,jF,lX,show i*128+128+(j-(i*128+128))=j by omega,q9];by_cases h3:j<514
   ·rw[mH _ _ h3,mH _ _ h3];unfold cR Sc.put;by_cases h5:j<512
    ·rw[zN h5,zN h5];simp only;rw[zL zYQ]
    ·rw[zL h5,zL h5]
   ·rw[zD zYU,zD zYU]
theorem QW(S:Sc)(m:Int):(kA S).setIfInBounds 513 (.int .i64 m)=kA (S.mask m):=by
 apply qK
 intro j
 rw[qL,lZ];by_cases h1:513=j
 ·subst h1;rw[zN rfl,zN zYQ,mH _ _ zYQ];rfl
 ·rw[zL h1];by_cases h3:j<514
  ·rw[mH _ _ h3,mH _ _ h3];unfold cR Sc.mask;by_cases h5:j<512
   ·rw[zN h5,zN h5]
   ·rw[zL h5,zL h5,zN zYQ,zN zYQ]
  ·rw[zD zYU,zD zYU]
def lR(hi:Bool)(M:Int):Sc:=⟨fun _ _=>0#128,hi,M⟩
theorem JB(hires:Bool)(M:Int):kA (lR hires M)=((Array.replicate 512 (.int .u64 0)).push (.bool hires)).push (.int .i64 M):=by
 apply qK
 intro j
 by_cases h3:j<514
 ·rw[mH _ _ h3,Array.getElem?_push,Array.getElem?_push];unfold cR lR;by_cases h5:j<512
  ·rw[zN h5,zL zYN,zL zYN];unfold cV;simp[Array.getElem?_replicate,h5,hi,lo]
  ·rw[zL h5];by_cases h6:j=512
   ·rw[zN h6,zL zYN,zN zYN]
   ·rw[zL h6,zN zYN]
 ·rw[zD zYU,zD zYN]
theorem vY:nA Tryz.prog 58 514:=⟨⟨_,Tryz.underlying58,rfl⟩,by kernel_rfl⟩
theorem uR:nA Tryz.prog 55 128:=⟨⟨_,Tryz.underlying55,rfl⟩,by kernel_rfl⟩
theorem aggPls:nA Tryz.prog 56 512:=⟨⟨_,Tryz.underlying56,rfl⟩,by kernel_rfl⟩
theorem NZ:(Tryz.prog.info? 58).map (fun i=>(i.zero,i.size))=some (some (.agg (kA (lR false 0))),514):=by
 rw[JB];kernel_rfl
theorem ZT:nD Tryz.prog 58 (kA (lR false 0)):=by
 unfold nD;rw[lZ];exact NZ
theorem xM(w:World):(zeroValue 58).run Tryz.prog w=.ok (.agg (kA (lR false 0))) w:=uE ZT
def SB(b:Nat)(S:Sc)(w:World):Prop:=Blk b 58 (kA S) w
section
variable {b:Nat} {S T:Sc} {w w':World}
theorem SB.lt(H:SB b S w):b<w.heap.size:=Blk.lt H
theorem SB.below(H:SB b S w){n:Nat}(hb:Below n w w')(hn:b<n):SB b S w':=Blk.below H hb hn
theorem SB.step(H:SB b S w)(hb:Below w.heap.size w w'):SB b S w':=Blk.step H hb
theorem SB.new(w:World)(S:Sc):SB w.heap.size S (w.alloc (.cells (kA S) 58)):=Blk.new _ _ _
theorem SB.alloc(H:SB b S w)(o:Obj):SB b S (w.alloc o):=Blk.alloc H o
theorem SB.drew(H:SB b S w):SB b S w.drew:=H
theorem SB.other(H:SB b S w){g:Nat}(hg:b≠g)(o:Nat)(v:Value):SB b S (w.setCell ⟨g,o,none⟩ v):=Blk.other H hg o v
theorem SB.otherRow(H:SB b S w){g:Nat}(hg:b≠g)(ds:Array Value):SB b S (w.setRow g ds):=Blk.otherRow H hg ds
theorem SB.hires(H:SB b S w):w.cell? ⟨b,512,none⟩=some (.bool S.hi):=by rw[Blk.cell H,mH _ _ zYQ];rfl
theorem SB.maskc(H:SB b S w):w.cell? ⟨b,513,none⟩=some (.int .i64 S.M):=by rw[Blk.cell H,mH _ _ zYQ];rfl
theorem SB.fz(H:SB b S w)(j:Nat):w.frozen? ⟨b,j,none⟩=false:=Blk.frozen H j
theorem SB.store(H:SB b S w)(T:Sc):SB b T (w.setRow b (kA T)):=Blk.store H _
theorem SB.setMask(H:SB b S w)(m:Int):SB b (S.mask m) (w.setCell ⟨b,513,none⟩ (.int .i64 m)):=(Blk.put H 513 _).eq (QW S m)
theorem SB.congr(H:SB b S w)(e:kA S=kA T):SB b T w:=Blk.eq H e
end
def tF(S T:Sc):Bool:=((List.range' 0 4).all fun i=>yD (S.P i) (T.P i))&&(S.hi==T.hi)&&(S.M==T.M)
theorem YU(S T:Sc):tF S T=true↔(∀i,i<4→∀y,y<64→S.P i y=T.P i y)∧S.hi=T.hi∧S.M=T.M:=by
 unfold tF;rw[zA,zA,jV,beq_iff_eq,beq_iff_eq];constructor
 ·rintro⟨⟨h1,h2⟩,h3⟩;exact⟨fun i hi=>(rD _ _).1 (h1 i (by rw[jN];omega)),h2,h3⟩
 ·rintro⟨h1,h2,h3⟩;exact⟨⟨fun i hi=>(rD _ _).2 (h1 i (by rw[jN]at hi;omega)),h2⟩,h3⟩
theorem LM(S:Sc):tF S S=true:=(YU S S).2 ⟨fun _ _ _ _=>rfl,rfl,rfl⟩
theorem zVR(x y:Bool)(d:Nat)(w:World):(Op.equalIn (d+1) 4 (.bool x) (.bool y)).run Tryz.prog w=.ok (x==y) w:=by
 simp[Op.equalIn,qO Tryz.underlying4,go_sem]
theorem eq_int(x y:Int)(d:Nat)(w:World):(Op.equalIn (d+1) 3 (.int .i64 x) (.int .i64 y)).run Tryz.prog w=.ok (x==y) w:=by
 simp[Op.equalIn,qO Tryz.underlying3,go_sem]
theorem QY(S T:Sc)(d:Nat)(w:World):(Op.equalIn (d+6) 58 (.agg (kA S)) (.agg (kA T))).run Tryz.prog w=.ok (tF S T) w:=by
 have ht:Tryz.prog.underlying 58=some (.struct (Tryz.prog.fieldsOf 58)):=zYJ;have hp:Tryz.prog.stoodInHeld 58=false:=zYJ;rw[run_equalIn_struct (P:=Tryz.prog) w (d+5) 58 _ _ ht hp];have hx:∀C:Sc,(part 56 (kA C) 0).run Tryz.prog w=.ok (.agg (yS C.P)) w:=by
  intro C;rw[uT (P:=Tryz.prog) 56 _ (kA C) 0 512 w rfl Tryz.underlying56 aggPls.i,G8]
 have hb:∀C:Sc,(part 4 (kA C) 512).run Tryz.prog w=.ok (.bool C.hi) w:=by
  intro C;simp[part,isAgg,zC,qO Tryz.underlying4,mH C 512 zYQ,cR]
 have hm:∀C:Sc,(part 3 (kA C) 513).run Tryz.prog w=.ok (.int .i64 C.M) w:=by
  intro C;simp[part,isAgg,zC,qO Tryz.underlying3,mH C 513 zYQ,cR]
 have he:(Op.equalIn (d+5) 56 (.agg (yS S.P)) (.agg (yS T.P))).run Tryz.prog w=.ok ((List.range' 0 4).all fun i=>yD (S.P i) (T.P i)) w:=
  u6 (P:=Tryz.prog) (d+4) 56 55 _ 4 128 (yS S.P) (yS T.P) (fun i=>yD (S.P i) (T.P i)) rfl Tryz.underlying56 Tryz.underlying55 uR.i (fun i hi w=>by
   rw[TX _ i hi,TX _ i hi];exact sH _ _ d w) w
 have hS1:=hx S;have hT1:=hx T;have hS2:=hb S;have hT2:=hb T;have hS3:=hm S;have hT3:=hm T;unfold tF;clear hx hb hm ht hp;generalize ((List.range' 0 4).all fun i=>yD (S.P i) (T.P i))=v at*;generalize kA S=CA at*;generalize kA T=CB at*;generalize yS S.P=QA at*;generalize yS T.P=QB at*;simp only[Program.fieldsOf,Tryz.underlying58,Op.eqFields];rw[zN zYK,zC,hS1,Result.andThen_ok,zC,hT1,Result.andThen_ok,zC,he,Result.andThen_ok];cases v
 ·rw[zN zYK,Sem.run_pure];simp
 ·rw[zL zYK];rw[zN zYK,zC,hS2,Result.andThen_ok,zC,hT2,Result.andThen_ok,zC];rw[zVR,Result.andThen_ok];cases h1:(S.hi==T.hi)
  ·rw[zN zYK,Sem.run_pure];simp
  ·rw[zL zYK];rw[zN zYK,zC,hS3,Result.andThen_ok,zC,hT3,Result.andThen_ok,zC,eq_int,Result.andThen_ok];cases h2:(S.M==T.M)
   ·rw[zN zYK,Sem.run_pure];simp
   ·rw[zL zYK,Sem.run_pure];simp
theorem V6(S T:Sc)(w:World):(binOp .eql 58 (.agg (kA S)) (.agg (kA T))).run Tryz.prog w=.ok (.bool (tF S T)) w:=by
 have h:=QY S T 9994 w;have e:(10000:Nat)=9994+6:=zYK;rw[run_eql_struct,e,h];simp only[Result.andThen_ok]
theorem V7:Tryz.prog.eqGuardType Tryz.prog.depth 58=false:=by kernel_rfl
theorem zQW{o:Oper}{ρ:Operand→Value}{w:World}(x y:Operand)(z:TypeId)(ho:o.op=.binOp .eql 58 x y z)(A B:Sc)(hx:ρ x=.agg (kA A))(hy:ρ y=.agg (kA B)):(execOp ρ o).run Tryz.prog w=.ok (.value (.bool (tF A B))) w:=by
 unfold execOp;simp only[ho,hx,hy];rw[zC,zC,run_eqGuard_agg w .eql 58 x y (kA A) (kA B) V7,Result.andThen_ok,V6,Result.andThen_ok,Sem.run_pure]
section
variable {ops:Array Oper} {C:World→Prop}
theorem BP{Q:Act→Prop}{o:Oper}{rest:List Oper}{a:Act}{A B:Sc}{v:Bool}(hv:tF A B=v)(hw:Region.wanted o (yielded ops a.tmps)=true)(x y:Operand)(z:TypeId)(ho:o.op=.binOp .eql 58 x y z)(hx:a.eval x=.agg (kA A))(hy:a.eval y=.agg (kA B))
  (h:wpQuiet Tryz.prog ops C Q rest (a.put o.dst (.bool v))):wpQuiet Tryz.prog ops C Q (o::rest) a:=
 uC hw (.bool v) (fun w' _=>by rw[←hv];exact zQW x y z ho A B hx hy) h
end
end
end Go.Proofs.YthknmadinmigfaaGreatDoor
