/- DecAllow, Dec, DecLevel, CpuRef4, CpuRef5, CpuRef6, CpuAS, CpuReal, CpuRef7, CpuRef8, CpuRef8b, CpuRef9, CpuEx, CpuRef11, CpuRef12. -/
import Derived.Test.YtbpniahcjbagmaaGreatDoorMDecFind
import Derived.Test.YtbpniahcjbagmaaGreatDoorMk1b
set_option maxRecDepth 400000
set_option maxHeartbeats 64000000
set_option linter.unusedVariables false
set_option linter.unusedSimpArgs false
namespace Go.Proofs.YtbpniahcjbagmaaGreatDoor
section
open Go.RowKit Num Dec
theorem nK(w:World)(o:Obj):Below w.heap.size w (w.alloc o):=(zG _ _).alloc (zH _) o
theorem YG{r:Rl}{l x:Int}(h:(r.op:Int)=43∨(r.op:Int)=44):alw r l x=iO l x:=by
 unfold alw;rw[show(r.op==43||r.op==44)=true by simp;omega];rfl
theorem IZ{r:Rl}{l x:Int}(h:¬(r.op:Int)=43)(h':¬(r.op:Int)=44):alw r l x=(decide ((r.level:Int)≤l)&&decide (l≤3)):=by
 unfold alw;rw[show(r.op==43||r.op==44)=false by simp;omega];rfl
theorem TD(r:Rl)(l x:Int)(w:World)(hl:(Lit.int .i64 l).wf=true):Calls Tryz.prog 86 #[.agg (rcs r),.int .i64 l,.int .i64 x] w fun e w'=>e=.returned (.bool (alw r l x))∧Below w.heap.size w w':=by
 have HL:=zW hl;clear hl;obtain⟨m,c,o,lv,p⟩:=r;unfold rcs;simp only;by_cases h1:(o:Int)=43
 ·have F:=zW (YG (r:=⟨m,c,o,lv,p⟩) (l:=l) (x:=x) (.inl h1));have h1':((o:Int)==43)=true:=by simpa using h1
  exact zNM
 ·have h1':((o:Int)==43)=false:=by simpa using h1
  by_cases h2:(o:Int)=44
  ·have F:=zW (YG (r:=⟨m,c,o,lv,p⟩) (l:=l) (x:=x) (.inr h2));have h2':((o:Int)==44)=true:=by simpa using h2
   exact zNM
  ·have F:=zW (IZ (r:=⟨m,c,o,lv,p⟩) (l:=l) (x:=x) h1 h2);have h2':((o:Int)==44)=false:=by simpa using h2
   by_cases h3:(lv:Int)≤l
   ·have h3':decide ((lv:Int)≤l)=true:=by simpa using h3
    go_enter Tryz.func86,Tryz.ntmps86;go_wp2;go_ret;exact⟨by rw[F.out,h3'];rfl,nK _ _⟩
   ·have h3':decide ((lv:Int)≤l)=false:=by simpa using h3
    go_enter Tryz.func86,Tryz.ntmps86;go_wp2;go_ret;exact⟨by rw[F.out,h3'];rfl,nK _ _⟩
def bcs(b0 b1 b2 b3:Nat):Array Value:=#[.int .u8 (b0:Int),.int .u8 (b1:Int),.int .u8 (b2:Int),.int .u8 (b3:Int)]
structure DB(w0:World)(b0 b1 b2 b3:Nat)(cs:Array Value)(w:World):Prop where
 arg:Blk w0.heap.size 177 (bcs b0 b1 b2 b3) w
 res:Blk (w0.heap.size+1) 128 nZ w
 var:Blk (w0.heap.size+1+1) 128 cs w
 low:Below w0.heap.size w0 w
section
variable {w0 w w':World} {b0 b1 b2 b3:Nat} {cs:Array Value}
theorem DB.lt(H:DB w0 b0 b1 b2 b3 cs w):w0.heap.size+2<w.heap.size:=H.var.lt
theorem DB.step(H:DB w0 b0 b1 b2 b3 cs w)(hb:Below w.heap.size w w'):DB w0 b0 b1 b2 b3 cs w':=
 ⟨H.arg.step hb,H.res.step hb,H.var.step hb,H.low.trans (hb.mono (by have:=H.lt;omega))⟩
theorem DB.alloc(H:DB w0 b0 b1 b2 b3 cs w)(o:Obj):DB w0 b0 b1 b2 b3 cs (w.alloc o):=H.step (nK _ _)
theorem DB.put(H:DB w0 b0 b1 b2 b3 cs w)(j:Nat)(v:Value):DB w0 b0 b1 b2 b3 (cs.setIfInBounds j v) (w.setCell ⟨w0.heap.size+1+1,j,none⟩ v):=
 ⟨H.arg.other zLF _ _,H.res.other zLF _ _,H.var.put _ _,H.low.setCell zL1 _⟩
theorem DB.store(H:DB w0 b0 b1 b2 b3 cs w)(ds:Array Value):DB w0 b0 b1 b2 b3 ds (w.setRow (w0.heap.size+1+1) ds):=
 ⟨H.arg.otherRow zLF _,H.res.otherRow zLF _,H.var.store _,lA H.low zLF _⟩
theorem DB.new(w:World)(b0 b1 b2 b3:Nat):DB w b0 b1 b2 b3 nZ (((w.alloc (.cells (bcs b0 b1 b2 b3) 177)).alloc (.cells nZ 128)).alloc (.cells nZ 128)):=
 ⟨((Blk.new _ _ _).alloc _).alloc _,(by have:=(Blk.new (w.alloc (.cells (bcs b0 b1 b2 b3) 177)) 128 nZ).alloc (.cells nZ 128);simpa using this),(by have:=Blk.new ((w.alloc (.cells (bcs b0 b1 b2 b3) 177)).alloc (.cells nZ 128)) 128 nZ;simpa using this),
  (((zG _ _).alloc (zH _) _).alloc zLI _).alloc zL1 _⟩
end
def fcs(b0 b1:Nat):Array Value:=#[.int .i64 ((b0/16:Nat):Int),.int .i64 ((b0%16:Nat):Int),.int .i64 ((b1/16:Nat):Int),.int .i64 ((b1%16:Nat):Int),.int .i64 (b1:Int),.int .i64 ((b0%16*256+b1:Nat):Int)]
theorem EJ(b0 b1:Nat)(h0:b0<256)(h1:b1<256)(w:World):Calls Tryz.prog 83 #[.int .u8 (b0:Int),.int .u8 (b1:Int)] w fun e w'=>e=.returned (.agg (fcs b0 b1))∧Below w.heap.size w w':=
 (EW b0 b1 w zLF zLF zLF zLF).mono fun _ _ ⟨he,hb⟩=>⟨he.trans rfl,hb⟩
theorem a8(b0 b1:Nat)(h0:b0<256)(h1:b1<256)(w:World):Calls Tryz.prog 85 #[.int .u8 (b0:Int),.int .u8 (b1:Int)] w fun e w'=>e=.returned (.int .i64 ((b0*256+b1:Nat):Int))∧w=w':=
 (iQ b0 b1 w zLF zLF zLF zLF).mono fun _ _ ⟨he,hb⟩=>⟨he.trans rfl,hb⟩
theorem DB.cells{w0 w:World}{b0 b1 b2 b3:Nat}{cs:Array Value}(H:DB w0 b0 b1 b2 b3 cs w):w.cell? ⟨w0.heap.size,0,none⟩=some (.int .u8 (b0:Int))∧w.cell? ⟨w0.heap.size,1,none⟩=some (.int .u8 (b1:Int))∧w.cell? ⟨w0.heap.size,2,none⟩=some (.int .u8 (b2:Int))∧w.cell? ⟨w0.heap.size,3,none⟩=some (.int .u8 (b3:Int)):=
 ⟨H.arg.cell 0,H.arg.cell 1,H.arg.cell 2,H.arg.cell 3⟩
theorem zZO{b0 b1 b2 b3:Nat}{l:Int}(h:ok b0 b1 l=false):dec b0 b1 b2 b3 l=⟨0,0,0,0,0,0,skl b0 b1 l⟩:=by
 unfold dec;rw[h];rfl
theorem zW1{b0 b1 b2 b3:Nat}{l:Int}(h:ok b0 b1 l=true){r:Rl}(hr:top (b0*256+b1)=r):dec b0 b1 b2 b3 l=⟨r.op,pX r.pk (dx b0:Nat),pY r.pk (b1/16:Nat),pN r.pk (dx b0:Nat) (b1%16:Nat),pNN r.pk (b1:Nat),pA r.pk (dx b0*256+b1:Nat) (b2*256+b3:Nat),skl b0 b1 l⟩:=by
 unfold dec;rw[h,hr];rfl
structure DX(b g gr:Nat)(bc fc rc:Array Value)(w:World):Prop where
 arg:Blk b 177 bc w
 fl:Blk g 206 fc w
 rl:Blk gr 210 rc w
def PW(X:World→Prop):Type:={w:World//X w}
def PW.w{X:World→Prop}(u:PW X):World:=u.1
theorem SM(p:Pk):∀args w,(callFunc (pf p) args).run Tryz.prog w=.ok (.enter (pf p) args) w:=by
 cases p
 ·exact enters_of Tryz.func150 zLP rfl
 ·exact enters_of Tryz.func156 zLP rfl
 ·exact enters_of Tryz.func157 zLP rfl
 ·exact enters_of Tryz.func153 zLP rfl
 ·exact enters_of Tryz.func155 zLP rfl
 ·exact enters_of Tryz.func152 zLP rfl
 ·exact enters_of Tryz.func151 zLP rfl
 ·exact enters_of Tryz.func154 zLP rfl
 ·exact enters_of Tryz.func159 zLP rfl
 ·exact enters_of Tryz.func158 zLP rfl
theorem IK:nA Tryz.prog 206 6:=⟨⟨_,Tryz.underlying206,rfl⟩,by kernel_rfl⟩
theorem W8(b0 b1 b2 b3:Nat)(l:Int)(w:World)(h0:b0<256)(h1:b1<256)(h2:b2<256)(h3:b3<256)(hl:(Lit.int .i64 l).wf=true):
  Calls Tryz.prog 74 #[.agg (bcs b0 b1 b2 b3),.int .i64 l] w fun e w'=>e=.returned (.agg (lK (dec b0 b1 b2 b3 l)))∧Below w.heap.size w w':=by
 have HL:=zW hl;have D0:=zW (DB.new w b0 b1 b2 b3);have SP:=fun w=>EJ b0 b1 h0 h1 w;unfold fcs at SP;have NB:=fun w=>a8 b0 b1 h0 h1 w;have FD:=fun w=>zZT (b0*256+b1) zLF w;have N2:=fun w=>a8 b2 b3 h2 h3 w;generalize e0:b0/16=hd at SP;generalize e1:b0%16=x at SP;generalize e2:b1/16=y at SP;generalize e3:b1%16=n at SP;generalize e4:x*256+b1=nnn at SP;generalize e5:b0*256+b1=op at NB FD;generalize e6:b2*256+b3=nx at N2;have SPH:=zW SP;have NBH:=zW NB;have FDH:=zW FD;have N2H:=zW N2;have E:=zW (zM e0 (zM e1 (zM e2 (zM e3 (zM e4 (zM e5 e6))))));clear SP NB FD N2 e0 e1 e2 e3 e4 e5 e6 h0 h1 h2 h3 hl;unfold bcs;go_enter Tryz.func74,Tryz.ntmps74;go_wp2_with fail;refine(SPH.out _).mono ?_;rintro e w1 ⟨rfl,b1⟩;have D1:=zW (D0.out.step b1);obtain⟨c0,c1,c2,c3⟩:=D1.out.cells;have hw1:w.heap.size<w1.heap.size:=D1.out.arg.lt;clear b1 D0 SPH;have D2:=zW (D1.out.alloc (.cells #[.int .i64 (hd:Int),.int .i64 (x:Int),.int .i64 (y:Int),.int .i64 (n:Int),.int .i64 (b1:Int),.int .i64 (nnn:Int)] 206));have G2:=zW (Blk.new w1 206 #[.int .i64 (hd:Int),.int .i64 (x:Int),.int .i64 (y:Int),.int .i64 (n:Int),.int .i64 (b1:Int),.int .i64 (nnn:Int)]);have GD:=zW D1.out.lt;go_wp2_with fail;refine(NBH.out _).mono ?_;rintro e w2 ⟨rfl,rfl⟩;go_wp2_with fail;refine(FDH.out _).mono ?_;rintro e w3 ⟨rfl,b3⟩;have D3:=zW (D2.out.step b3);have G3:=zW (G2.out.step b3);clear b3 c0 c1 c2 c3 D2 G2 NBH FDH D1;obtain⟨g,hg⟩:∃g,w1.heap.size=g:=⟨_,rfl⟩;rw[hg]at G3 GD⊢;have hw3:w.heap.size<w3.heap.size:=D3.out.arg.lt;by_cases ho:(top op).op=0
 ·rw[show pP (top op)=.tuple #[.agg vN,.bool false] by unfold pP;rw[ho];rfl];have F:=zW (zZO (b0:=b0) (b1:=b1) (b2:=b2) (b3:=b3) (l:=l) (show ok b0 b1 l=false by unfold ok;rw[E.out.2.2.2.2.2.1,ho];rfl));clear ho;have D4:=zW (D3.out.alloc (.cells vN 210));unfold vN at D4⊢;clear D3 G3;obtain⟨c0,c1,c2,c3⟩:=D4.out.cells;have v6:=D4.out.var.cell 6;have f6:=D4.out.var.frozen 6;simp only[nZ,lK,zX,zK,zV]at v6;go_wp2_with fail;refine(dO b0 b1 l _).mono ?_;rintro e w9 ⟨rfl,rfl⟩;have Z:=zW (D4.out.put 6 (.int .i64 (skl b0 b1 l)));exact zM4
 ·rw[show pP (top op)=.tuple #[.agg (rcs (top op)),.bool true] by unfold pP;rw[show((top op).op !=0)=true by simpa using ho];rfl];obtain⟨R,hR⟩:∃R,top op=R:=⟨_,rfl⟩;rw[hR]at ho⊢;have D4:=zW (D3.out.alloc (.cells (rcs R) 210));have G4:=zW (G3.out.alloc (.cells (rcs R) 210));have R4:=zW (Blk.new w3 210 (rcs R));have OK:=zW (show ok b0 b1 l=alw R l (x:Int) by unfold ok dx;rw[E.out.2.2.2.2.2.1,hR,E.out.2.1,show(R.op !=0)=true by simpa using ho];rfl);have HR:=zW (show top (b0*256+b1)=R by rw[E.out.2.2.2.2.2.1,hR]);have AL:=zW (fun w=>TD R l (x:Int) w HL.out);have PK:=zW (fun w=>OF R.pk (hd:Int) (x:Int) (y:Int) (n:Int) (b1:Int) (nnn:Int) (nx:Int) w);have LT3:=zW D3.out.lt;clear ho hR D3 G3;obtain⟨rm,rc,ro,rl,rp⟩:=R;unfold rcs at*;simp only at*;have x0:=G4.out.cell 1;simp only[zX,zK,zV]at x0;go_wp2_with fail;refine(AL.out _).mono ?_;rintro e w5 ⟨rfl,b5⟩;have D5:=zW (D4.out.step b5);have G5:=zW (G4.out.step b5);have R5:=zW (R4.out.step b5);have GR:=zW (show w3.heap.size<w5.heap.size from R5.out.lt);clear b5 D4 G4 R4 AL x0;obtain⟨gr,hgr⟩:∃gr,w3.heap.size=gr:=⟨_,rfl⟩;rw[hgr]at R5 GR LT3⊢;clear hgr hw3;cases ha:alw ⟨rm,rc,ro,rl,rp⟩ l (x:Int)
  ·have F:=zW (zZO (b0:=b0) (b1:=b1) (b2:=b2) (b3:=b3) (l:=l) (OK.out.trans ha));clear ha;obtain⟨c0,c1,c2,c3⟩:=D5.out.cells;have v6:=D5.out.var.cell 6;have f6:=D5.out.var.frozen 6;simp only[nZ,lK,zX,zK,zV]at v6;go_wp2_with fail;refine(dO b0 b1 l _).mono ?_;rintro e w9 ⟨rfl,rfl⟩;have Z:=zW (D5.out.put 6 (.int .i64 (skl b0 b1 l)));exact zM4
  ·have F:=zW (zW1 (b0:=b0) (b1:=b1) (b2:=b2) (b3:=b3) (l:=l) (OK.out.trans ha) HR.out);clear ha;have P5:=zW (show DX w.heap.size g gr (bcs b0 b1 b2 b3) #[.int .i64 (hd:Int),.int .i64 (x:Int),.int .i64 (y:Int),.int .i64 (n:Int),.int .i64 (b1:Int),.int .i64 (nnn:Int)] #[.int .i64 (rm:Int),.int .i64 (rc:Int),.int .i64 (ro:Int),.int .i64 (rl:Int),.func (.func (pf rp)) #[] #[]] w5 from⟨D5.out.arg,G5.out,R5.out⟩);generalize hX:DX w.heap.size g gr (bcs b0 b1 b2 b3) #[.int .i64 (hd:Int),.int .i64 (x:Int),.int .i64 (y:Int),.int .i64 (n:Int),.int .i64 (b1:Int),.int .i64 (nnn:Int)] #[.int .i64 (rm:Int),.int .i64 (rc:Int),.int .i64 (ro:Int),.int .i64 (rl:Int),.func (.func (pf rp)) #[] #[]]=X at P5;have XO:=zW (show∀w',X w'→DX w.heap.size g gr (bcs b0 b1 b2 b3) #[.int .i64 (hd:Int),.int .i64 (x:Int),.int .i64 (y:Int),.int .i64 (n:Int),.int .i64 (b1:Int),.int .i64 (nnn:Int)] #[.int .i64 (rm:Int),.int .i64 (rc:Int),.int .i64 (ro:Int),.int .i64 (rl:Int),.func (.func (pf rp)) #[] #[]] w' by rw[←hX];exact fun _ h=>h);have XI:=zW (show∀w',DX w.heap.size g gr (bcs b0 b1 b2 b3) #[.int .i64 (hd:Int),.int .i64 (x:Int),.int .i64 (y:Int),.int .i64 (n:Int),.int .i64 (b1:Int),.int .i64 (nnn:Int)] #[.int .i64 (rm:Int),.int .i64 (rc:Int),.int .i64 (ro:Int),.int .i64 (rl:Int),.func (.func (pf rp)) #[] #[]] w'→X w' by rw[←hX];exact fun _ h=>h);clear hX;haveI:Nonempty (PW X):=⟨⟨w5,P5.out⟩⟩;have k2:∀u:PW X,u.w.cell? ⟨w.heap.size,2,none⟩=some (.int .u8 (b2:Int)):=fun u=>(XO.out _ u.2).arg.cell 2;have k3:∀u:PW X,u.w.cell? ⟨w.heap.size,3,none⟩=some (.int .u8 (b3:Int)):=fun u=>(XO.out _ u.2).arg.cell 3;have kf:∀u:PW X,u.w.cell? ⟨gr,4,none⟩=some (.func (.func (pf rp)) #[] #[]):=fun u=>(XO.out _ u.2).rl.cell 4;go_upto_region 5 with fail;refine mJ (C:=fun w'=>∃u:PW X,w'=u.w) [([0,1,2,3,4,5,6],7),([],8),([],9)] [] zLP zLP (fun _ _ d _ _ h=>by cases d<;>exact h) ⟨⟨w5.drew,XI.out _ ⟨(XO.out _ P5.out).arg.drew,(XO.out _ P5.out).fl.drew,(XO.out _ P5.out).rl.drew⟩⟩,rfl⟩ ?_;intro wd hwd;have Dd:=zW (show DB w b0 b1 b2 b3 nZ wd by rw[hwd];exact D5.out.step ((zG _ _).drew));have Xd:=zW (show X wd by rw[hwd];exact XI.out _ ⟨(XO.out _ P5.out).arg.drew,(XO.out _ P5.out).fl.drew,(XO.out _ P5.out).rl.drew⟩);have GG:=zW (show w.heap.size+1+1<g∧g<w5.heap.size∧gr<w5.heap.size∧w.heap.size+1+1<gr from⟨GD.out,G5.out.lt,GR.out,by have:=LT3.out;omega⟩);clear hwd D5 G5 R5 P5 GD GR;refine mV zLE zLU ?_;iterate 2 (go_big_quiet_step (rfl))
   refine mX IK (fun w9 hw9=>by obtain⟨u,rfl⟩:=hw9;exact(XO.out _ u.2).fl) rfl ?_ (.tmp 6) ?_ ?_ ?_
   ·rfl
   ·rfl
   ·rfl
   simp only[Act.put,zQ,zZ,zJ];repeat(go_big_quiet_step (rfl))
   refine zY ?_;refine lU zLU ?_;intro K hK;go_wp2_with fail;refine(N2H.out _).mono ?_;rintro e w6 ⟨rfl,rfl⟩;simp only[];refine hK _ _ ⟨⟨wd,Xd.out⟩,rfl⟩ ?_;clear hK K;refine mV zLE zLU ?_;refine zY ?_;refine lU zLU ?_;intro K hK;refine lC (g:=pf rp) (caps:=#[]) (args:=#[.agg #[.int .i64 (hd:Int),.int .i64 (x:Int),.int .i64 (y:Int),.int .i64 (n:Int),.int .i64 (b1:Int),.int .i64 (nnn:Int)],.int .i64 (nx:Int)]) (.tmp 32) #[.tmp 33,.tmp 38] #[206,3] rfl (SM rp) rfl zLO ?_;refine(PK.out _).mono ?_;rintro e w7 ⟨rfl,b7⟩;refine⟨_,rfl,?_⟩;have D7:=zW (Dd.out.step b7);have X7:=zW (show X w7 from XI.out _ ⟨(XO.out _ Xd.out).arg.step b7,(XO.out _ Xd.out).fl.step b7,(XO.out _ Xd.out).rl.step b7⟩);have L7:=zW (show wd.heap.size≤w7.heap.size from b7.size);clear b7;simp only[Act.put,zQ,zZ,zJ];refine hK _ _ ⟨⟨w7,X7.out⟩,rfl⟩ ?_;clear hK K;refine mV zLE zLU ?_;refine zY ?_;refine lU zLU ?_;intro K hK;refine nM mY D7.out.var rfl rfl zL8 (.tmp 5) (.tmp 39) rfl rfl rfl ?_;have D8:=zW (D7.out.store (lK ⟨0,pX rp (x:Int),pY rp (y:Int),pN rp (x:Int) (n:Int),pNN rp (b1:Int),pA rp (nnn:Int) (nx:Int),0⟩));have X8:=zW (show X (w7.setRow (w.heap.size+1+1) (lK ⟨0,pX rp (x:Int),pY rp (y:Int),pN rp (x:Int) (n:Int),pNN rp (b1:Int),pA rp (nnn:Int) (nx:Int),0⟩))from XI.out _ ⟨(XO.out _ X7.out).arg.otherRow zLF _,(XO.out _ X7.out).fl.otherRow (by have:=GG.out;omega) _,(XO.out _ X7.out).rl.otherRow (by have:=GG.out;omega) _⟩);simp only[Act.put,zQ,zZ,zJ];refine hK _ _ ⟨⟨_,X8.out⟩,rfl⟩ ?_;clear hK K;generalize World.setRow _ _ _=v8 at D8 X8⊢;refine nF zLU ?_;refine zY ?_;clear k2 k3 kf;have r2:=(XO.out _ X8.out).rl.cell 2;have v0:=D8.out.var.cell 0;have f0:=D8.out.var.frozen 0;simp only[lK,zX,zK,zV]at r2 v0;have D9:=zW (D8.out.put 0 (.int .i64 (ro:Int)));go_upto_region 7 with fail;generalize World.setCell _ _ _=v9 at D9⊢;have D10:=zW (show DB w b0 b1 b2 b3 (lK ⟨(ro:Int),pX rp (x:Int),pY rp (y:Int),pN rp (x:Int) (n:Int),pNN rp (b1:Int),pA rp (nnn:Int) (nx:Int),0⟩) v9 from D9.out);clear D9 D8 X8 r2 v0 f0 Dd Xd D7 X7;obtain⟨c0,c1,c2,c3⟩:=D10.out.cells;have v6:=D10.out.var.cell 6;have f6:=D10.out.var.frozen 6;simp only[nZ,lK,zX,zK,zV]at v6;go_wp2_with fail;refine(dO b0 b1 l _).mono ?_;rintro e w9 ⟨rfl,rfl⟩;have Z:=zW (D10.out.put 6 (.int .i64 (skl b0 b1 l)));go_upto_region 8 with fail;generalize World.setCell _ _ _=V at Z⊢;refine zB ?_;refine lJ mY Z.out.var zMP rfl (.tmp 5) rfl rfl ?_;simp only[Act.put,zQ,zZ,zJ];refine kO mY Z.out.res rfl zMP zL8 rfl (.tmp 4) (.tmp 50) rfl rfl rfl ?_;simp only[Act.put,zQ,zZ,zJ];have R:=Z.out.res.store (lK ⟨(ro:Int),pX rp (x:Int),pY rp (y:Int),pN rp (x:Int) (n:Int),pNN rp (b1:Int),pA rp (nnn:Int) (nx:Int),skl b0 b1 l⟩);have B:=lA Z.out.low (by omega:w.heap.size≤w.heap.size+1) (lK ⟨(ro:Int),pX rp (x:Int),pY rp (y:Int),pN rp (x:Int) (n:Int),pNN rp (b1:Int),pA rp (nnn:Int) (nx:Int),skl b0 b1 l⟩);iterate 4 go_step
   exact zP (zE rfl _ _ (w.heap.size+1) _ _ _ _ rfl R Tryz.underlying128 rfl mY.i) rfl ⟨by rw[F.out];unfold dx;rw[←E.out.2.1,←E.out.2.2.1,←E.out.2.2.2.1,←E.out.2.2.2.2.1,←E.out.2.1,←E.out.2.2.2.2.2.2],B⟩

end
section
open Go.RowKit Num Dec Cpu
def Rm(ad:Addr)(M:List Int)(w:World):Prop:=ad.block<w.heap.size∧∀j (h:j<M.length),w.cell? (ad.add j)=some (.int .u8 M[j])
theorem Rm.step{ad:Addr}{M:List Int}{w w':World}(h:Rm ad M w)(hb:Below w.heap.size w w'):Rm ad M w':=
 ⟨zF h.1 hb.size,fun j hj=>(hb.cell (p:=ad.add j) (by rw[yV];exact h.1)).trans (h.2 j hj)⟩
structure Px4(N:Nat)(A:Option Addr)(gs:List Nat)(F:Nat→Nat→Bool)(w:World):Prop where
 len:gs.length=4
 row:Row (encP N) w A gs
 px:∀i,i<4→Pxs (gs.getD i 0) (F i) w
theorem Px4.step{N:Nat}{A:Option Addr}{gs:List Nat}{F:Nat→Nat→Bool}{w w':World}(h:Px4 N A gs F w)(hb:Below w.heap.size w w'):Px4 N A gs F w':=
 ⟨h.len,h.row.below hb,fun i hi=>(h.px i hi).step hb⟩
def byC(M:List Int)(a:Int)(j:Nat):Nat:=(M.getD ((a+(j:Int))%65536).toNat 0).toNat
def Bts(M:List Int):Prop:=∀k (h:k<M.length),0≤M[k]∧M[k]≤255
theorem RH{M:List Int}(h:Bts M)(a:Int)(j:Nat):byC M a j≤255:=by
 unfold byC;rw[qK];by_cases hk:((a+(j:Int))%65536).toNat<M.length
 ·rw[zS hk];have:=h _ hk;simp;omega
 ·rw[qV zLF];simp
theorem seg_at{M:List Int}(hB:Bts M)(hM:M.length=65536)(a:Int)(n j:Nat)(hj:j<n):(seg M a n)[j]?=some (byC M a j:Int):=by
 rw[wC M a n j hM hj];have hk:((a+(j:Int))%65536).toNat<M.length:=zLF;unfold byC;rw[qK,zS hk];have:=hB _ hk;simp;omega
theorem ZI{w w':World}{b:Nat}(h:w'.heap[b]?=w.heap[b]?)(o:Nat):w'.cell? ⟨b,o,none⟩=w.cell? ⟨b,o,none⟩:=by
 simp only[World.cell?,h]
theorem XK{w w':World}{b:Nat}(h:w'.heap[b]?=w.heap[b]?)(o:Nat):w'.frozen? ⟨b,o,none⟩=w.frozen? ⟨b,o,none⟩:=by
 simp only[World.frozen?,h]

structure AS where
 v:Nat→Nat
 i:Int
 pc:Int
 sk:List Int
 M:List Int
 F:Nat→Nat→Bool
 hi:Bool
 msk:Nat
 ks:List Ev
 dl:Nat
 sd:Nat
 P:List Int
 pt:Nat
 fl:Nat→Int
 L:List Int
 rd:Nat
structure OkA(a:AS):Prop where
 v:OkV a.v
 i:0≤a.i∧a.i≤65535
 pc:0≤a.pc∧a.pc≤65535
 sk:a.sk.length≤16
 M:a.M.length=65536
 B:Bts a.M
 msk:a.msk≤15
 ks:a.ks.length≤1000
 dl:a.dl<256
 sd:a.sd<256
 P:a.P.length=16
 pt:a.pt<256
 fl:∀j,j<16→0≤a.fl j∧a.fl j≤255
 L:a.L.length≤100000
 LB:Bts a.L
 rd:a.rd≤1000000000
def rwN(hi:Bool):Nat:=if hi=true then 128 else 64
def rhN(hi:Bool):Nat:=if hi=true then 64 else 32
def ldN(v:Nat→Nat)(r:List Int)(B:Nat→Nat):Nat→Nat→Nat
 |0=>v
 |k+1=>Cpu.upd (ldN v r B k) (r.getD k 0).toNat (B k)
def J3(c:Nat):List Int:=[((c/100:Nat):Int),((c/10%10:Nat):Int),((c%10:Nat):Int)]
def oM(a:AS)(op:Int)(x y k:Nat):AS:=
 if op=32 then{a with M:=put a.M a.i (J3 (a.v x))}else if op=33 then{a with M:=put a.M a.i (nP a.v k)}else if op=34 then{a with v:=ldN a.v (upL 0 k) (byC a.M a.i) k}else
 if op=46 then{a with M:=put a.M a.i ((wW x y).map fun r=>(a.v r.toNat:Int))}else if op=47 then{a with v:=ldN a.v (wW x y) (byC a.M a.i) k}else if op=50 then{a with P:=seg a.M a.i k}else a
def iK(a:AS)(op:Int)(x y k:Nat)(ki:Bool):AS:=
 if(op=33∨op=34)∧ki=false then{oM a op x y k with i:=(a.i+(k:Int))%65536}else oM a op x y k
def zXO(a:AS)(dx dy:Int):Nat→Nat→Bool:=fun i=>if onB a.msk i then d8 (a.F i) dx dy (rwN a.hi) (rhN a.hi)else a.F i
def bP(a:AS)(op:Int)(n:Nat):AS:=
 if op=1 then{a with F:=fun i=>if onB a.msk i then fun _=>false else a.F i}else if op=35 then{a with F:=zXO a 0 (n:Int)}else if op=36 then{a with F:=zXO a 4 0}else
 if op=37 then{a with F:=zXO a (-4) 0}else if op=39 then{a with F:=fun _ _=>false,hi:=false}else if op=40 then{a with F:=fun _ _=>false,hi:=true}else
 if op=45 then{a with F:=zXO a 0 (-(n:Int))}else if op=49 then{a with msk:=n}else a
def XF(a:AS)(op:Int)(x nn:Nat)(addr:Int):AS:=
 if op=20∨op=48 then{a with i:=addr}else if op=22 then{a with v:=Cpu.upd a.v x ((nxt a.L a.rd).toNat&&&nn),rd:=a.rd+1}else if op=26 then{a with v:=Cpu.upd a.v x a.dl}else
 if op=28 then{a with dl:=a.v x}else if op=29 then{a with sd:=a.v x}else if op=30 then{a with i:=(a.i+(a.v x:Int))%65536}else
 if op=31 then{a with i:=80+5*((a.v x%16:Nat):Int)}else if op=42 then{a with i:=160+10*((a.v x%16:Nat):Int)}else
 if op=43 then{a with fl:=ov a.fl (nP a.v (x+1))}else if op=44 then{a with v:=ldN a.v (upL 0 (x+1)) (fun j=>(a.fl j).toNat) (x+1)}else
 if op=51 then{a with pt:=a.v x}else a
def wZ(a:AS)(b:Bool)(lv:Int):AS:=if b=true then{a with pc:=(a.pc+skl (byC a.M a.pc 0) (byC a.M a.pc 1) lv)%65536}else a
def drawA(N:Nat)(a:AS)(op:Int)(x y n:Nat)(cl:Bool):AS:=
 {a with F:=drK (byC a.M a.i) a.F a.msk n (op==41) cl (a.v x) (a.v y) (rwN a.hi) (rhN a.hi) 4,v:=Cpu.upd a.v 15 (if hiK (byC a.M a.i) a.F a.msk n (op==41) cl (a.v x) (a.v y) (rwN a.hi) (rhN a.hi) N 4=true then 1 else 0)}
structure Sls where
 sk:Sl
 M:Sl
 G:Sl
 K:Sl
 P:Sl
 fl:Sl
 L:Sl
def zW6(a:AS)(z:Sls):CS:=⟨a.v,a.i,a.pc,z.sk,z.M,z.G,a.hi,(a.msk:Int),z.K,a.dl,a.sd,z.P,a.pt,z.fl,z.L,(a.rd:Int)⟩
structure RS(N:Nat)(w:World)(z:Sls)(a:AS):Prop where
 sk:IY 0 w z.sk.A z.sk.n z.sk.c a.sk
 M:∃ad c,z.M=⟨some ad,65536,c⟩∧Rm ad a.M w
 G:∃A cap gs,z.G=⟨A,4,cap⟩∧Px4 N A gs a.F w
 K:Evs w z.K.A z.K.n a.ks
 P:Rd w z.P.A a.P∧a.P.length=z.P.n
 fl:z.fl.n=16∧Rd w z.fl.A (yL a.fl)
 L:Rd w z.L.A a.L∧a.L.length=z.L.n
section
variable {N:Nat} {w w':World} {z:Sls} {a:AS}
theorem RS.step(h:RS N w z a)(b:Below w.heap.size w w'):RS N w' z a:=by
 obtain⟨ad,c,e,r⟩:=h.M;obtain⟨A,cap,gs,e2,p⟩:=h.G;exact⟨h.sk.below b,⟨ad,c,e,r.step b⟩,⟨A,cap,gs,e2,p.step b⟩,h.K.step b,⟨h.P.1.below b,h.P.2⟩,⟨h.fl.1,h.fl.2.below b⟩,⟨h.L.1.below b,h.L.2⟩⟩
theorem RS.setM(h:RS N w z a){ad:Addr}{c:Nat}{M:List Int}(p:Rm ad M w):RS N w {z with M:=⟨some ad,65536,c⟩} {a with M:=M}:=
 ⟨h.sk,⟨ad,c,rfl,p⟩,h.G,h.K,h.P,h.fl,h.L⟩
theorem RS.setP(h:RS N w z a){A:Option Addr}{n c:Nat}{L:List Int}(p:Rd w A L)(e:L.length=n):RS N w {z with P:=⟨A,n,c⟩} {a with P:=L}:=
 ⟨h.sk,h.M,h.G,h.K,⟨p,e⟩,h.fl,h.L⟩
theorem RS.nums(h:RS N w z a)(v:Nat→Nat)(i pc:Int)(hi:Bool)(m d s pt rd:Nat):RS N w z {a with v:=v,i:=i,pc:=pc,hi:=hi,msk:=m,dl:=d,sd:=s,pt:=pt,rd:=rd}:=
 ⟨h.sk,h.M,h.G,h.K,h.P,h.fl,h.L⟩
end
def FrS(w:World)(s:Sl):Prop:=∀ad,s.A=some ad→w.heap.size≤ad.block
structure Fr(w:World)(z z':Sls):Prop where
 sk:(z'.sk.A=z.sk.A∧z'.sk.n≤z.sk.n)∨FrS w z'.sk
 K:z'.K=z.K
 L:z'.L=z.L
 M:z'.M=z.M∨FrS w z'.M
 P:z'.P=z.P∨FrS w z'.P
 fl:z'.fl=z.fl∨FrS w z'.fl
 G:FA z.G.A z'.G.A w.heap.size
theorem Fr.refl(w:World)(z:Sls):Fr w z z:=⟨.inl ⟨rfl,zH _⟩,rfl,rfl,.inl rfl,.inl rfl,.inl rfl,.inl rfl⟩
theorem Fr.trans{w w1:World}{z z1 z2:Sls}(h:Fr w z z1)(k:Fr w1 z1 z2)(hs:w.heap.size≤w1.heap.size):Fr w z z2:=by
 have up:∀s,FrS w1 s→FrS w s:=fun s f ad e=>zR hs (f ad e);exact⟨k.sk.elim (fun e=>h.sk.elim (fun e2=> .inl ⟨e.1.trans e2.1,zR e.2 e2.2⟩) (fun f=> .inr (fun ad ea=>f ad (e.1▸ea)))) (fun f=> .inr (up _ f)),k.K.trans h.K,k.L.trans h.L,k.M.elim (fun e=>e▸h.M) (fun f=> .inr (up _ f)),k.P.elim (fun e=>e▸h.P) (fun f=> .inr (up _ f)),k.fl.elim (fun e=>e▸h.fl) (fun f=> .inr (up _ f)),h.G.trans k.G hs⟩
theorem Fr.low{w w1:World}{z z':Sls}(h:Fr w1 z z')(hs:w.heap.size≤w1.heap.size):Fr w z z':=(Fr.refl w z).trans h hs
def zLD(N:Nat)(z:Sls)(a:AS)(w:World)(e:Ending)(w':World):Prop:=∃z',e=.returned (.agg (cst (zW6 a z')))∧RS N w' z' a∧Below w.heap.size w w'∧Fr w z z'
theorem zLD.mk{N:Nat}{z:Sls}{a:AS}{w:World}{e:Ending}{w':World}(z':Sls)(h:e=.returned (.agg (cst (zW6 a z'))))(r:RS N w' z' a)(b:Below w.heap.size w w')(f:Fr w z z'):zLD N z a w e w':=⟨z',h,r,b,f⟩
section
variable {w w1 w2:World} {g:Nat} {s s' z:CS} {i:Ins}
end
theorem Rm.away{ad:Addr}{M:List Int}{w w':World}(h:Rm ad M w){g:Nat}(hg:ad.block≠g)(hs:w.heap.size≤w'.heap.size)(hk:∀k,k≠g→w'.heap[k]?=w.heap[k]?):Rm ad M w':=
 ⟨zF h.1 hs,fun j hj=>by
  rw[←h.2 j hj];exact qE (by rw[yV];exact hk _ hg)⟩
def yW(n:Nat)(f:Nat→Value):Array Value:=((List.range n).map f).toArray
section
variable {n:Nat} {f h:Nat→Value}
theorem vR:(yW n f).size=n:=by simp[yW]
theorem wV{j:Nat}(hj:j<n):(yW n f)[j]?=some (f j):=by simp[yW,hj]
theorem U3{j:Nat}(hj:n≤j):(yW n f)[j]?=none:=by simp[yW];omega
theorem MU{c:Array Value}(hs:c.size=n)(hc:∀j,j<n→c[j]?=some (f j)):c=yW n f:=by
 apply qZ
 intro j
 by_cases hj:j<n
 ·rw[hc j hj,wV hj]
 ·rw[U3 zLF,zD zLF]
theorem wK(k:Nat)(v:Value)(e:∀j,j<n→h j=if j=k then v else f j):(yW n f).setIfInBounds k v=yW n h:=MU (by simp[yW]) fun j hj=>by
 rw[qJ,vR,e j hj];by_cases hk:k=j
 ·subst hk;rw[zN rfl,zN hj,zN rfl]
 ·rw[zL hk,zL (fun c=>hk c.symm),wV hj]
theorem cV{o m:Nat}{c:Array Value}(hm:c.size=m)(ho:o+m≤n)(e:∀j,j<m→c[j]?=some (f (o+j))):(yW n f).extract o (o+m)=c:=by
 apply qZ
 intro j
 rw[jF,vR];by_cases hj:j<m
 ·rw[zN zLF,wV zLF,e j hj]
 ·rw[zL zLF,zD zLF]
theorem nN{o:Nat}{c:Array Value}(ho:o+c.size≤n)(e1:∀j,j<c.size→c[j]?=some (h (o+j)))(e2:∀j,j<n→(j<o∨o+c.size≤j)→f j=h j):lN (yW n f) o c=yW n h:=by
 refine MU ?_ fun j hj=>?_
 ·unfold lN;simp[yW];omega
 ·unfold lN;rw[zX];by_cases h1:j<o
  ·rw[kZ,qS (by simp[yW];omega),List.getElem?_take_of_lt h1,jJ,wV hj,e2 j hj (.inl h1)]
  ·by_cases h2:j<o+c.size
   ·rw[kZ,qP (by simp[yW];omega),qS (by simp[yW];omega)];have hl:((yW n f).toList.take o).length=o:=by simp[yW];omega
    rw[hl,jJ,e1 (j-o) zLF];congr 2
    omega
   ·rw[qP (by simp[yW];omega)];have hl:((yW n f).toList.take o++c.toList).length=o+c.size:=by simp[yW];omega
    rw[hl,jS,jJ,show o+c.size+(j-(o+c.size))=j by omega,wV hj,e2 j hj (.inr zLF)]
end
def dnA(l:List Ev):Nat→Bool:=fun k=>dn l (k:Int)
def scA(a:AS):Sc:=⟨fun i=>fwd (a.F i),a.hi,(a.msk:Int)⟩
def ptA(a:AS):Nat→Int:=fun j=>a.P.getD j 0
def vV(a:AS)(m g j:Nat):Value:=
 if j<16 then .int .u8 (a.v j:Int)else if j=16 then .int .i64 a.i else if j=17 then .int .i64 a.pc else
 if j<34 then .int .i64 (stF a.sk (j-18))else if j=34 then .int .i64 (a.sk.length:Int)else if j=35 then .pointer (some ⟨m,0,none⟩)else
 if j<550 then yZ (scA a) (j-36)else if j<566 then .bool (dnA a.ks (j-550))else if j=566 then .int .u8 (a.dl:Int)else if j=567 then .int .u8 (a.sd:Int)else
 if j<584 then .int .u8 (ptA a (j-568))else if j=584 then .int .u8 (a.pt:Int)else if j<601 then .int .u8 (a.fl (j-585))else .pointer (some ⟨g,0,none⟩)
def stC(a:AS)(m g:Nat):Array Value:=yW 602 (vV a m g)
theorem zJD:nA Tryz.prog 89 602:=⟨⟨_,Tryz.underlying89,rfl⟩,by kernel_rfl⟩
section
variable (a:AS) (m g:Nat)
theorem lG:(stC a m g).size=602:=vR
theorem mK{j:Nat}(hj:j<602):(stC a m g)[j]?=some (vV a m g j):=wV hj
theorem one_if{p:Prop}[Decidable p]{x y:Value}(hx:x.oneCell'=true)(hy:y.oneCell'=true):(if p then x else y).oneCell'=true:=by split<;>assumption
theorem zXS:nI (stC a m g):=by
 unfold nI stC yW;rw[qA];intro v hv;simp only[kW,jW,jN]at hv;obtain⟨j,_,rfl⟩:=hv;unfold vV yZ;repeat' (first|rfl|refine one_if ?_ ?_)
theorem tT{j:Nat}(h:j<16):vV a m g j=.int .u8 (a.v j:Int):=by unfold vV;rw[zN h]
theorem rJ:vV a m g 16=.int .i64 a.i:=rfl
theorem zZ8:vV a m g 17=.int .i64 a.pc:=rfl
theorem Z6:vV a m g 34=.int .i64 (a.sk.length:Int):=rfl
theorem bW:vV a m g 35=.pointer (some ⟨m,0,none⟩):=rfl
theorem YJ:vV a m g 566=.int .u8 (a.dl:Int):=rfl
theorem zZ7:vV a m g 567=.int .u8 (a.sd:Int):=rfl
theorem iD:vV a m g 584=.int .u8 (a.pt:Int):=rfl
theorem A4:vV a m g 601=.pointer (some ⟨g,0,none⟩):=rfl
theorem ZO{j:Nat}(h:j<16):vV a m g (18+j)=.int .i64 (stF a.sk j):=by
 unfold vV;rw[zL zLF,zL zLF,zL zLF,zN zLF,show 18+j-18=j by omega]
theorem sT{j:Nat}(h:j<514):vV a m g (36+j)=yZ (scA a) j:=by
 unfold vV;rw[zL zLF,zL zLF,zL zLF,zL zLF,zL zLF,zL zLF,zN zLF,show 36+j-36=j by omega]
theorem Z2{j:Nat}(h:j<16):vV a m g (550+j)=.bool (dnA a.ks j):=by
 unfold vV;rw[zL zLF,zL zLF,zL zLF,zL zLF,zL zLF,zL zLF,zL zLF,zN zLF,show 550+j-550=j by omega]
theorem sD{j:Nat}(h:j<16):vV a m g (568+j)=.int .u8 (ptA a j):=by
 unfold vV;rw[zL zLF,zL zLF,zL zLF,zL zLF,zL zLF,zL zLF,zL zLF,zL zLF,zL zLF,zL zLF,zN zLF,show 568+j-568=j by omega]
theorem YZ{j:Nat}(h:j<16):vV a m g (585+j)=.int .u8 (a.fl j):=by
 unfold vV;rw[zL zLF,zL zLF,zL zLF,zL zLF,zL zLF,zL zLF,zL zLF,zL zLF,zL zLF,zL zLF,zL zLF,zL zLF,zN zLF,show 585+j-585=j by omega]
theorem zY4:(stC a m g).extract 0 (0+16)=rg a.v:=cV (vX _) zLF fun j hj=>by rw[dL _ hj,qH,tT a m g hj]
theorem fT:(stC a m g).extract 18 (18+17)=mL a.sk:=cV (lF _) zLF fun j hj=>by
 unfold mL;rw[vJ _ _ _ hj];by_cases h:j<16
 ·rw[zN h,ZO a m g h]
 ·rw[zL h,show 18+j=34 by omega,Z6]
theorem xD:(stC a m g).extract 36 (36+514)=kC (scA a):=cV (lQ _) zLF fun j hj=>by rw[mN _ _ hj,sT a m g hj]
theorem QP:(stC a m g).extract 550 (550+16)=kc (dnA a.ks):=cV (n8 _) zLF fun j hj=>by rw[dN _ _ hj,Z2 a m g hj]
theorem fR:(stC a m g).extract 566 (566+2)=#[.int .u8 (a.dl:Int),.int .u8 (a.sd:Int)]:=cV rfl zLF fun j hj=>by
 rcases(show j=0∨j=1 by omega)with rfl|rfl<;>rfl
theorem dU:(stC a m g).extract 568 (568+17)=ac (ptA a) (a.pt:Int):=cV (nV _ _) zLF fun j hj=>by
 by_cases h:j<16
 ·rw[dT _ _ _ h,sD a m g h]
 ·obtain rfl:j=16:=by omega
  simp[ac,iD]
theorem UM:(stC a m g).extract 585 (585+16)=pc a.fl:=cV (nX _) zLF fun j hj=>by rw[yT _ _ hj,YZ a m g hj]
end
theorem nH(a b:AS)(m g:Nat)(j:Nat)(hv:j<16→a.v j=b.v j)(hi:j=16→a.i=b.i)(hp:j=17→a.pc=b.pc)(hs:18≤j∧j≤34→a.sk=b.sk)(hc:36≤j∧j<550→scA a=scA b)(hk:550≤j∧j<566→dnA a.ks=dnA b.ks)(hd:j=566→a.dl=b.dl)(ht:j=567→a.sd=b.sd)
  (hP:568≤j∧j<584→ptA a=ptA b) (hq:j=584→a.pt=b.pt) (hf:585≤j∧j<601→a.fl=b.fl):vV a m g j=vV b m g j:=by
 unfold vV;by_cases h1:j<16
 ·rw[zN h1,zN h1,hv h1]
 rw[zL h1,zL h1];by_cases h2:j=16
 ·rw[zN h2,zN h2,hi h2]
 rw[zL h2,zL h2];by_cases h3:j=17
 ·rw[zN h3,zN h3,hp h3]
 rw[zL h3,zL h3];by_cases h4:j<34
 ·rw[zN h4,zN h4,hs zLF]
 rw[zL h4,zL h4];by_cases h5:j=34
 ·rw[zN h5,zN h5,hs zLF]
 rw[zL h5,zL h5];by_cases h6:j=35
 ·rw[zN h6,zN h6]
 rw[zL h6,zL h6];by_cases h7:j<550
 ·rw[zN h7,zN h7,hc zLF]
 rw[zL h7,zL h7];by_cases h8:j<566
 ·rw[zN h8,zN h8,hk zLF]
 rw[zL h8,zL h8];by_cases h9:j=566
 ·rw[zN h9,zN h9,hd h9]
 rw[zL h9,zL h9];by_cases h10:j=567
 ·rw[zN h10,zN h10,ht h10]
 rw[zL h10,zL h10];by_cases h11:j<584
 ·rw[zN h11,zN h11,hP zLF]
 rw[zL h11,zL h11];by_cases h12:j=584
 ·rw[zN h12,zN h12,hq h12]
 rw[zL h12,zL h12];by_cases h13:j<601
 ·rw[zN h13,zN h13,hf zLF]
 rw[zL h13,zL h13]
section
variable (a:AS) (m g:Nat)
theorem UV(v:Nat→Nat):lN (stC a m g) 0 (rg v)=stC {a with v:=v} m g:=nN (by rw[vX];omega) (fun j hj=>by rw[vX]at hj;rw[dL _ hj,qH,tT _ m g hj]) fun j hj h=>by
 rw[vX]at h;exact nH _ _ _ _ _ zLF (fun _=>rfl) (fun _=>rfl) (fun _=>rfl) (fun _=>rfl) (fun _=>rfl) (fun _=>rfl) (fun _=>rfl) (fun _=>rfl) (fun _=>rfl) (fun _=>rfl)
theorem rF(k r:Nat)(hk:k<16):(stC a m g).setIfInBounds k (.int .u8 (r:Int))=stC {a with v:=Cpu.upd a.v k r} m g:=wK _ _ fun j hj=>by
 by_cases e:j=k
 ·subst e;rw[zN rfl,tT _ m g hk];unfold Cpu.upd;simp
 ·rw[zL e];exact nH _ _ _ _ _ (fun _=>by simp[Cpu.upd,e]) (fun _=>rfl) (fun _=>rfl) (fun _=>rfl) (fun _=>rfl) (fun _=>rfl) (fun _=>rfl) (fun _=>rfl) (fun _=>rfl) (fun _=>rfl) (fun _=>rfl)
theorem dA(i:Int):(stC a m g).setIfInBounds 16 (.int .i64 i)=stC {a with i:=i} m g:=wK _ _ fun j hj=>by
 by_cases e:j=16
 ·subst e;rw[zN rfl,rJ]
 ·rw[zL e];exact nH _ _ _ _ _ (fun _=>rfl) (fun c=>absurd c e) (fun _=>rfl) (fun _=>rfl) (fun _=>rfl) (fun _=>rfl) (fun _=>rfl) (fun _=>rfl) (fun _=>rfl) (fun _=>rfl) (fun _=>rfl)
theorem DI(i:Int):(stC a m g).setIfInBounds 17 (.int .i64 i)=stC {a with pc:=i} m g:=wK _ _ fun j hj=>by
 by_cases e:j=17
 ·subst e;rw[zN rfl,zZ8]
 ·rw[zL e];exact nH _ _ _ _ _ (fun _=>rfl) (fun _=>rfl) (fun c=>absurd c e) (fun _=>rfl) (fun _=>rfl) (fun _=>rfl) (fun _=>rfl) (fun _=>rfl) (fun _=>rfl) (fun _=>rfl) (fun _=>rfl)
theorem DO(d:Nat):(stC a m g).setIfInBounds 566 (.int .u8 (d:Int))=stC {a with dl:=d} m g:=wK _ _ fun j hj=>by
 by_cases e:j=566
 ·subst e;rw[zN rfl,YJ]
 ·rw[zL e];exact nH _ _ _ _ _ (fun _=>rfl) (fun _=>rfl) (fun _=>rfl) (fun _=>rfl) (fun _=>rfl) (fun _=>rfl) (fun c=>absurd c e) (fun _=>rfl) (fun _=>rfl) (fun _=>rfl) (fun _=>rfl)
theorem DU(d:Nat):(stC a m g).setIfInBounds 567 (.int .u8 (d:Int))=stC {a with sd:=d} m g:=wK _ _ fun j hj=>by
 by_cases e:j=567
 ·subst e;rw[zN rfl,zZ7]
 ·rw[zL e];exact nH _ _ _ _ _ (fun _=>rfl) (fun _=>rfl) (fun _=>rfl) (fun _=>rfl) (fun _=>rfl) (fun _=>rfl) (fun _=>rfl) (fun c=>absurd c e) (fun _=>rfl) (fun _=>rfl) (fun _=>rfl)
theorem Y9(d s:Nat):lN (stC a m g) 566 #[.int .u8 (d:Int),.int .u8 (s:Int)]=stC {a with dl:=d,sd:=s} m g:=nN (by show 566+2≤602;omega) (fun j hj=>by rcases(show j=0∨j=1 by simp at hj;omega)with rfl|rfl<;>rfl) fun j hj h=>by
 have h:j<566∨568≤j:=h;exact nH _ _ _ _ _ (fun _=>rfl) (fun _=>rfl) (fun _=>rfl) (fun _=>rfl) (fun _=>rfl) (fun _=>rfl) zLF zLF (fun _=>rfl) (fun _=>rfl) (fun _=>rfl)
theorem aL(L:List Int):lN (stC a m g) 18 (mL L)=stC {a with sk:=L} m g:=nN (by rw[lF];omega) (fun j hj=>by
  rw[lF]at hj;unfold mL;rw[vJ _ _ _ hj];by_cases h:j<16
  ·rw[zN h,ZO _ m g h]
  ·rw[zL h,show 18+j=34 by omega,Z6]) fun j hj h=>by
 rw[lF]at h;exact nH _ _ _ _ _ (fun _=>rfl) (fun _=>rfl) (fun _=>rfl) zLF (fun _=>rfl) (fun _=>rfl) (fun _=>rfl) (fun _=>rfl) (fun _=>rfl) (fun _=>rfl) (fun _=>rfl)
theorem cG(F:Nat→Nat→Bool)(hi:Bool)(msk:Nat){c:Array Value}(hc:c=kC ⟨fun i=>fwd (F i),hi,(msk:Int)⟩):lN (stC a m g) 36 c=stC {a with F:=F,hi:=hi,msk:=msk} m g:=by
 subst hc;exact nN zMK (fun j hj=>by
  rw[lQ]at hj;rw[mN _ _ hj,sT _ m g hj];rfl) fun j hj h=>by
  rw[lQ]at h;exact nH _ _ _ _ _ (fun _=>rfl) (fun _=>rfl) (fun _=>rfl) (fun _=>rfl) zLF (fun _=>rfl) (fun _=>rfl) (fun _=>rfl) (fun _=>rfl) (fun _=>rfl) (fun _=>rfl)
theorem VQ(ks:List Ev){K:Nat→Bool}(hK:∀j,j<16→K j=dnA ks j):lN (stC a m g) 550 (kc K)=stC {a with ks:=ks} m g:=nN (by rw[n8];omega) (fun j hj=>by
  rw[n8]at hj;rw[dN _ _ hj,Z2 _ m g hj,hK j hj]) fun j hj h=>by
 rw[n8]at h;exact nH _ _ _ _ _ (fun _=>rfl) (fun _=>rfl) (fun _=>rfl) (fun _=>rfl) (fun _=>rfl) zLF (fun _=>rfl) (fun _=>rfl) (fun _=>rfl) (fun _=>rfl) (fun _=>rfl)
theorem aM(P:List Int)(pt:Nat){Q:Nat→Int}(hQ:∀j,j<16→Q j=P.getD j 0):lN (stC a m g) 568 (ac Q (pt:Int))=stC {a with P:=P,pt:=pt} m g:=nN zMM (fun j hj=>by
  rw[nV]at hj;by_cases h:j<16
  ·rw[dT _ _ _ h,sD _ m g h,hQ j h];rfl
  ·obtain rfl:j=16:=by omega
   simp[ac,iD]) fun j hj h=>by
 rw[nV]at h;exact nH _ _ _ _ _ (fun _=>rfl) (fun _=>rfl) (fun _=>rfl) (fun _=>rfl) (fun _=>rfl) (fun _=>rfl) (fun _=>rfl) (fun _=>rfl) zLF zLF (fun _=>rfl)
theorem DF(f:Nat→Int):lN (stC a m g) 585 (pc f)=stC {a with fl:=f} m g:=nN zMT (fun j hj=>by
  rw[nX]at hj;rw[yT _ _ hj,YZ _ m g hj]) fun j hj h=>by
 rw[nX]at h;exact nH _ _ _ _ _ (fun _=>rfl) (fun _=>rfl) (fun _=>rfl) (fun _=>rfl) (fun _=>rfl) (fun _=>rfl) (fun _=>rfl) (fun _=>rfl) (fun _=>rfl) (fun _=>rfl) zLF
end

theorem zKT{w:World}{base n c:Nat}{e:TypeId}{A:Option Addr}{xs:List Value}(h:w.ownsRow base e 1 (.slice A n c) n xs):n≤c:=by
 rcases h.2 with⟨e1,e2⟩|⟨g,cap,cur,e1,_,_,h1,_⟩
 ·injection e1 with _ _ e3
  omega
 ·injection e1 with _ _ e3
  omega
theorem fP(x y j:Nat)(hx:x≤15)(hy:y≤15)(hj:j<n7 x y):∃rn:Nat,rn<16∧(wW x y)[j]?=some (rn:Int):=by
 unfold n7 at hj;unfold wW;split at hj
 ·rename_i h
  rw[zN h];exact⟨x+j,by omega,by simp[upL,hj]⟩
 ·rename_i h
  rw[zL h];exact⟨x-j,by omega,by simp[dnL,hj];omega⟩
theorem GJ{w:World}{base n c:Nat}{e:TypeId}{A:Option Addr}{xs:List Value}(h:w.ownsRow base e 1 (.slice A n c) n xs)(ad:Addr)(ha:A=some ad):base≤ad.block:=by
 subst ha;exact(h.lt _ rfl).1

theorem NS{L:List Int}(h:Bts L)(k:Nat):∃bn:Nat,nxt L k=(bn:Int)∧bn<256:=by
 unfold nxt;rw[qK];by_cases hk:k%L.length<L.length
 ·rw[zS hk];have:=h _ hk;exact⟨(L[k%L.length]).toNat,by simp;omega,by omega⟩
 ·rw[qV zLF];exact⟨0,rfl,by omega⟩
structure Ef where
 c:Int
 halt:Bool
 wait:Bool
 drew:Bool
def isMem(op:Int):Bool:=decide (op=32)||(decide (op=33)||(decide (op=34)||(decide (op=46)||(decide (op=47)||decide (op=50)))))
def stB(N:Nat)(a:AS)(op:Int)(x y n nn:Nat)(addr len:Int)(q:Pr):AS:=
 if bA op=true then{a with v:=t7 a.v ⟨op,x,y,n,nn,addr,len⟩ q}else if sZ op=true then wZ a (skB a.v ⟨op,x,y,n,nn,addr,len⟩) q.lv else
 if op=24 then wZ a (dn a.ks ((a.v x%16:Nat):Int)) q.lv else if op=25 then wZ a (!dn a.ks ((a.v x%16:Nat):Int)) q.lv else
 if op=2 then{a with sk:=a.sk.dropLast,pc:=a.sk.getLastD 0}else if op=3 then{a with pc:=addr}else if op=4 then{a with sk:=a.sk++[a.pc],pc:=addr}else
 if op=21 then{a with pc:=(addr+(a.v (if q.jx=true then x else 0):Int))%65536}else if op=23∨op=41 then drawA N a op x y n q.cl else
 if isMem op=true then iK a op x y (spN a.msk op x y n) q.ki else XF (bP a op n) op x nn addr
def caA(a:AS)(op:Int)(x y n:Nat)(q:Pr):Int:=caN a.sk.length a.i a.msk op x y n q.fa
def nxA(a:AS)(len:Int):AS:={a with pc:=(a.pc+len)%65536}
def stA(N:Nat)(a:AS)(op:Int)(x y n nn:Nat)(addr len:Int)(q:Pr):AS:=
 if caA a op x y n q=0 then(if op=38 then a else stB N (nxA a len) op x y n nn addr len q)else a
def efA(a:AS)(op:Int)(x y n:Nat)(q:Pr):Ef:=
 if caA a op x y n q=0 then(if op=38 then⟨0,true,false,false⟩else⟨0,false,op==27,(op==23||op==41)&&(q.dw&& !a.hi)⟩)else⟨caA a op x y n q,false,false,false⟩
def efc(e:Ef):Array Value:=#[.int .i64 e.c,.bool e.halt,.bool e.wait,.bool e.drew]
theorem eW(e:Ef):nI (efc e):=by unfold nI efc;simp[Value.oneCell']
section
variable {w w1 w2:World} {g:Nat} {s s':CS} {i:Ins} {q:Pr}
end
def zLT(N:Nat)(z:Sls)(a:AS)(f:Ef)(w:World)(e:Ending)(w':World):Prop:=∃z',e=.returned (.tuple #[.agg (cst (zW6 a z')),.agg (efc f)])∧RS N w' z' a∧Below w.heap.size w w'∧Fr w z z'
theorem zLT.mk{N:Nat}{z:Sls}{a a':AS}{f f':Ef}{w:World}{e:Ending}{w':World}(ea:a'=a)(ef:f'=f)(z':Sls)(h:e=.returned (.tuple #[.agg (cst (zW6 a' z')),.agg (efc f')]))(r:RS N w' z' a')(b:Below w.heap.size w w')(k:Fr w z z'):zLT N z a f w e w':=by
 subst ea ef;exact⟨z',h,r,b,k⟩
def NoPx(N g:Nat)(w:World):Prop:=∀A gs F,Px4 N A gs F w→(∀ad,A=some ad→ad.block≠g)∧∀i,i<4→gs.getD i 0≠g
theorem Px4.away{N:Nat}{A:Option Addr}{gs:List Nat}{F:Nat→Nat→Bool}{w w':World}{g:Nat}(h:Px4 N A gs F w)(np:NoPx N g w)(hs:w.heap.size≤w'.heap.size)(hk:∀k,k≠g→w'.heap[k]?=w.heap[k]?):Px4 N A gs F w':=by
 obtain⟨ha,hp⟩:=np _ _ _ h;refine⟨h.len,fun hne=>?_,fun i hi=>?_⟩
 ·obtain⟨b,o,hA,hlt,hc⟩:=h.row hne;have hb:=ha _ hA;exact⟨b,o,hA,by omega,fun j hj=>(ZI (hk b hb) _).trans (hc j hj)⟩
 ·have P:=h.px i hi;have hb:=hp i hi;exact⟨by have:=P.lt;omega,fun j hj=>(ZI (hk _ hb) _).trans (P.at_ j hj),fun j hj=>(XK (hk _ hb) _).trans (P.fz j hj)⟩
section
variable {N:Nat} {w0 wc w1 w2:World} {z z':Sls} {a0 a1:AS} {g:Nat}
end
theorem RS.skip{N:Nat}{w:World}{z:Sls}{a:AS}(h:RS N w z a)(b:Bool)(l:Int):RS N w z (wZ a b l):=by
 unfold wZ;split
 ·exact h.nums _ _ _ _ _ _ _ _ _
 ·exact h
def uB(R L:List Int):AS:=⟨fun _=>0,0,512,[],uL R,fun _ _=>false,false,1,[],0,0,yL mQ,64,mQ,L,0⟩
structure US where
 rom:Sl
 lst:Sl
 v:Nat→Nat
 i:Nat
 pc:Nat
 stk:Sl
 keys:Sl
 dl:Nat
 sd:Nat
 hr:Bool
 msk:Nat
 fl:Sl
structure UR(w:World)(u:US)(R L:List Int)(S:List Nat)(ks:List Ev)(FL:List Int):Prop where
 rom:Rd w u.rom.A R∧R.length=u.rom.n
 lst:Rd w u.lst.A L∧L.length=u.lst.n
 stk:tZ w u.stk.A S∧S.length=u.stk.n
 keys:Evs w u.keys.A u.keys.n ks
 fl:Rd w u.fl.A FL∧FL.length=u.fl.n
 r1:R.length≤2000
 l1:L.length≤100
 s1:S.length≤16
 k1:ks.length≤20
 f1:FL.length≤16
 s2:∀x∈S,x≤65535
 sc:u.stk.n≤u.stk.c
 i:u.i≤65535
 pc:u.pc≤65535
 dl:u.dl<256
 sd:u.sd<256
 msk:u.msk<256
 v:OkV u.v
theorem UR.step{w w':World}{u:US}{R L:List Int}{S:List Nat}{ks:List Ev}{FL:List Int}(h:UR w u R L S ks FL)(b:Below w.heap.size w w'):UR w' u R L S ks FL:=
 ⟨⟨h.rom.1.below b,h.rom.2⟩,⟨h.lst.1.below b,h.lst.2⟩,⟨h.stk.1.below b,h.stk.2⟩,h.keys.step b,⟨h.fl.1.below b,h.fl.2⟩,h.r1,h.l1,h.s1,h.k1,h.f1,h.s2,h.sc,h.i,h.pc,h.dl,h.sd,h.msk,h.v⟩
def oJ(B:Nat)(W:World):Type:={w':World//Below B W w'}
def oJ.w{B:Nat}{W:World}(x:oJ B W):World:=x.1
theorem oJ.below{B:Nat}{W:World}(x:oJ B W):Below B W x.w:=x.2
instance(B:Nat)(W:World):Nonempty (oJ B W):=⟨⟨W,zG _ _⟩⟩
theorem oJ.cell{B:Nat}{W:World}{b o:Nat}{v:Value}(h:W.cell? ⟨b,o,none⟩=some v)(hb:b<B)(x:oJ B W):x.w.cell? ⟨b,o,none⟩=some v:=(x.below.cell (p:=⟨b,o,none⟩) hb).trans h
section
variable {w w2 w1 w3:World} {g s0:Nat} {u:US} {s s':CS}
end
end
end Go.Proofs.YtbpniahcjbagmaaGreatDoor
