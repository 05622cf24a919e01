/- PixRef, PlaneRef, PlaneWords, PlaneRefDr, PixRefSp, PlaneRefSc, Pix2, PlaneBits, PlaneRefSpr, ScrSt, ScrNew, ScrRes, ScrSel, AluSk, AluSpec, AluSpL, AluDoL. -/
import Derived.Test.YthknmadinmigfaaGreatDoorMPix
import Derived.Test.YthknmadinmigfaaGreatDoorMAluDo
import Derived.Test.YthknmadinmigfaaGreatDoorMk0d
set_option maxRecDepth 400000
set_option maxHeartbeats 64000000
set_option linter.unusedVariables false
set_option linter.unusedSimpArgs false
namespace Go.Proofs.YthknmadinmigfaaGreatDoor
section
open Go.RowKit Num
structure Pix(g:Nat)(f:Nat→Bool)(w:World):Prop where
 lt:g<w.heap.size
 at_:∀j,j<128→w.cell? ⟨g,j,none⟩=some (.bool (f j))
 fz:∀j,j<128→w.frozen? ⟨g,j,none⟩=false
section
variable {g:Nat} {f f':Nat→Bool} {w w':World}
theorem Pix.below(H:Pix g f w){n:Nat}(hb:Below n w w')(hn:g<n):Pix g f w':=
 ⟨zF H.lt hb.size,fun j hj=>(hb.cell (p:=⟨g,j,none⟩) hn).trans (H.at_ j hj),fun j hj=>(hb.frozen (p:=⟨g,j,none⟩) hn).trans (H.fz j hj)⟩
theorem Pix.step(H:Pix g f w)(hb:Below w.heap.size w w'):Pix g f w':=H.below hb H.lt
theorem Pix.congr(H:Pix g f w)(h:∀j,j<128→f j=f' j):Pix g f' w:=⟨H.lt,fun j hj=>by rw[←h j hj];exact H.at_ j hj,H.fz⟩
theorem Pix.set(H:Pix g f w){k:Nat}(hk:k<128)(v:Bool):Pix g (fun j=>if j=k then v else f j) (w.setCell ⟨g,k,none⟩ (.bool v)):=by
 exact zM5
theorem Pix.other(H:Pix g f w){b:Nat}(hb:b≠g)(o:Nat)(v:Value):Pix g f (w.setCell ⟨b,o,none⟩ v):=
 ⟨by simpa using H.lt,fun j hj=>by rw[qG _ _ _ _ (by simp[hb])];exact H.at_ j hj,fun j hj=>by rw[World.frozen?_setCell];exact H.fz j hj⟩
end
def zLH:Array Value:=madeCells #[.bool false] 128
theorem Pix.new(w:World)(t:TypeId):Pix w.heap.size (fun _=>false) (w.alloc (.cells zLH t)):=
 ⟨by simp,fun j hj=>by rw[World.cell?_alloc_at _ _ _ _ rfl];simp[zLH,madeCells,hj,Nat.mod_one],fun j hj=>World.frozen?_alloc_at _ _ _ _ rfl⟩
structure Pxs(g:Nat)(f:Nat→Bool)(w:World):Prop where
 lt:g<w.heap.size
 at_:∀j,j<8192→w.cell? ⟨g,j,none⟩=some (.bool (f j))
 fz:∀j,j<8192→w.frozen? ⟨g,j,none⟩=false
section
variable {g:Nat} {f f':Nat→Bool} {w w':World}
theorem Pxs.below(H:Pxs g f w){n:Nat}(hb:Below n w w')(hn:g<n):Pxs g f w':=
 ⟨zF H.lt hb.size,fun j hj=>(hb.cell (p:=⟨g,j,none⟩) hn).trans (H.at_ j hj),fun j hj=>(hb.frozen (p:=⟨g,j,none⟩) hn).trans (H.fz j hj)⟩
theorem Pxs.step(H:Pxs g f w)(hb:Below w.heap.size w w'):Pxs g f w':=H.below hb H.lt
theorem Pxs.drew(H:Pxs g f w):Pxs g f w.drew:=H.step (zB _ _).drew
theorem Pxs.congr(H:Pxs g f w)(h:∀j,j<8192→f j=f' j):Pxs g f' w:=⟨H.lt,fun j hj=>by rw[←h j hj];exact H.at_ j hj,H.fz⟩
theorem Pxs.set(H:Pxs g f w){k:Nat}(hk:k<8192)(v:Bool):Pxs g (fun j=>if j=k then v else f j) (w.setCell ⟨g,k,none⟩ (.bool v)):=by
 exact zM5
def T9(f:Nat→Bool)(w:World)(e:Ending)(w':World):Prop:=
 ∃g,e=.returned (.slice (some ⟨g,0,none⟩) 8192 8192)∧w.heap.size≤g∧Pxs g f w'∧Below w.heap.size w w'
theorem T9.congr{e:Ending}(H:T9 f w e w')(h:∀j,j<8192→f j=f' j):T9 f' w e w':=by
 obtain⟨g,h1,h2,h3,h4⟩:=H;exact⟨g,h1,h2,h3.congr h,h4⟩
end
theorem zQU(n j:Nat)(h:j<n):(madeCells #[.bool false] n)[j]?=some (.bool false):=by simp[madeCells,h,Nat.mod_one]
def blankP:Array Value:=madeCells #[.bool false] 8192
theorem Pxs.new(w:World)(t:TypeId):Pxs w.heap.size (fun _=>false) (w.alloc (.cells blankP t)):=
 ⟨by simp,fun j hj=>by rw[World.cell?_alloc_at _ _ _ _ rfl];exact zQU 8192 j hj,fun j hj=>World.frozen?_alloc_at _ _ _ _ rfl⟩
theorem zeroPw:kA (fun _=>0#128)=Array.replicate 128 (.int .u64 0):=by
 apply qZ
 intro j
 by_cases hj:j<128
 ·rw[cR _ _ hj];unfold cV;simp[hj,hi,lo]
 ·rw[zD (by simp[lZ];omega),zD zL2]
theorem ZS:(Tryz.prog.info? 55).map (fun i=>(i.zero,i.size))=some (some (.agg (kA fun _=>0#128)),128):=by
 rw[zeroPw];kernel_rfl
theorem yX(w:World):(zeroValue 55).run Tryz.prog w=.ok (.agg (kA fun _=>0#128)) w:=(zero_of_info ZS).1 w
theorem nW:(Tryz.prog.info? 55).map (·.size)=some 128:=by kernel_rfl
def phitTo(f:Nat→Bool)(k:Nat):Bool:=decide (0<pcn f k)

def Res(b:Bool)(m h:Nat):Prop:=(b=true∧m=128∧h=64)∨(b=false∧m=64∧h=32)
theorem Res.bounds{b:Bool}{m h:Nat}(r:Res b m h):16≤m∧m≤128∧16≤h∧h≤64:=by
 rcases r with⟨_,rfl,rfl⟩|⟨_,rfl,rfl⟩<;>decide
def fV(B:Nat)(W:World):Type:={w':World//Below B W w'}
def fV.w{B:Nat}{W:World}(x:fV B W):World:=x.1
theorem fV.below{B:Nat}{W:World}(x:fV B W):Below B W x.w:=x.2
instance(B:Nat)(W:World):Nonempty (fV B W):=⟨⟨W,zB _ _⟩⟩
theorem gY{h l h' l':BitVec 64}{n:Int}(e:mv (h++l) n=h'++l')(n0: -9223372036854775808≤n)(n1:n≤9223372036854775807)(w:World):
  Calls Tryz.prog 207 #[.agg #[.int .u64 (h.toNat:Int),.int .u64 (l.toNat:Int)],.int .i64 n,.slice none 0 0] w fun e w'=>e=.returned (.agg #[.int .u64 (h'.toNat:Int),.int .u64 (l'.toNat:Int)])∧Below w.heap.size w w':=by
 rw[←lP,←lP,←e];exact FM _ n w n0 n1
theorem W8(n:Int)(w:World)(n0:0≤n)(n1:n≤128):Calls Tryz.prog 208 #[.int .i64 n] w fun e w'=>e=.returned (rv (uZ n))∧Below w.heap.size w w':=by
 obtain⟨h,l,e⟩:=xW (uZ n);rw[e,lP];have e':mv ((18446744073709551615#64)++(18446744073709551615#64)) (n-128)=h++l:=e;have O:=zW (gY e' zLS zLS);clear e e';go_enter Tryz.func208,Tryz.ntmps208;go_wp2_with fail;refine(O.out _).mono ?_;rintro e w1 ⟨rfl,b1⟩;have Y:=(Box.new w 0 0 52).step b1;have B:=zW ((nE w (.cells #[.int .u64 0,.int .u64 0] 52)).trans (b1.mono zLO));have Z:=zW (Y.set h l);have B2:=zW ((B.out.setCell (p:=⟨w.heap.size,0,none⟩) (zH _) (.int .u64 (h.toNat:Int))).setCell (p:=⟨w.heap.size,1,none⟩) (zH _) (.int .u64 (l.toNat:Int)));clear B b1;obtain⟨x1,x2,x3,x4,x5⟩:=Y;go_wp2;generalize (w1.setCell ⟨w.heap.size,0,none⟩ (.int .u64 (h.toNat:Int))).setCell ⟨w.heap.size,1,none⟩ (.int .u64 (l.toNat:Int))=w2 at*;clear x1 x2 x3 x4 x5;obtain⟨x1,x2,x3,x4,x5⟩:=Z.out;exact zS (v:=.agg #[.int .u64 (h.toNat:Int),.int .u64 (l.toNat:Int)]) (by simp[results,Tryz.results208,go_sem,x2,x3]) rfl ⟨rfl,B2.out⟩
theorem uN(h l:BitVec 64)(n width:Int)(h1 l1:BitVec 64)(e:yI (h++l) n width=h1++l1)(w:World)(b:Nat)(h' l':BitVec 64)(em:uZ width=h'++l')(X:Box b h' l' w)(n0: -9223372036854775808≤n)(n1:n≤9223372036854775807):
  Calls Tryz.prog 207 #[.agg #[.int .u64 (h.toNat:Int),.int .u64 (l.toNat:Int)],.int .i64 n,.slice (some ⟨b,0,none⟩) 1 1] w fun e w'=>e=.returned (.agg #[.int .u64 (h1.toNat:Int),.int .u64 (l1.toNat:Int)])∧Below w.heap.size w w':=by
 rw[←lP,←lP,←e,yI,em];exact FJ _ _ n b w n0 n1 X.lt (by rw[uQ];exact X.c0) (by rw[y9];exact X.c1)
theorem yP{n:Int}{h l:BitVec 64}(e:uZ n=h++l)(n0:0≤n)(n1:n≤128)(w:World):Calls Tryz.prog 208 #[.int .i64 n] w fun e w'=>e=.returned (.agg #[.int .u64 (h.toNat:Int),.int .u64 (l.toNat:Int)])∧Below w.heap.size w w':=by
 rw[←lP,←e];exact W8 n w n0 n1
theorem E4(r:BitVec 128)(n width:Int)(w:World)(n0: -9223372036854775808≤n)(n1:n≤9223372036854775807)(w0:0≤width)(w1:width≤128):
  Calls Tryz.prog 201 #[rv r,.int .i64 n,.int .i64 width] w fun e w'=>e=.returned (rv (yI r n width))∧Below w.heap.size w w':=by
 obtain⟨h,l,rfl⟩:=xW r;obtain⟨h',l',em⟩:=xW (uZ width);obtain⟨v1,v2,e⟩:=xW (yI (h++l) n width);rw[e,lP,lP];have O1:=zW (yP em w0 w1);have O2:=zW fun w b X=>uN h l n width v1 v2 e w b h' l' em X n0 n1;clear e em;go_enter Tryz.func201,Tryz.ntmps201;go_wp2_with fail;have X:=(Box.new w h l 52).alloc (.cells #[.int .u64 0,.int .u64 0] 52);have Y:Box (w.heap.size+1) 0 0 ((w.alloc (.cells #[.int .u64 (h.toNat:Int),.int .u64 (l.toNat:Int)] 52)).alloc (.cells #[.int .u64 0,.int .u64 0] 52)):=by
  have:=Box.new (w.alloc (.cells #[.int .u64 (h.toNat:Int),.int .u64 (l.toNat:Int)] 52)) 0 0 52;rw[zT]at this;exact this
 have hs:w.heap.size+1<((w.alloc (.cells #[.int .u64 (h.toNat:Int),.int .u64 (l.toNat:Int)] 52)).alloc (.cells #[.int .u64 0,.int .u64 0] 52)).heap.size:=Y.lt;have YY:=zW Y;clear Y;have B1:=zW ((((zB _ w).alloc (zH _) (.cells #[.int .u64 (h.toNat:Int),.int .u64 (l.toNat:Int)] 52)).alloc zLO (.cells #[.int .u64 0,.int .u64 0] 52)));generalize (w.alloc (.cells #[.int .u64 (h.toNat:Int),.int .u64 (l.toNat:Int)] 52)).alloc (.cells #[.int .u64 0,.int .u64 0] 52)=w1 at*;have X0:∀x:fV (w.heap.size+1) w1,x.w.cell? ⟨w.heap.size,0,none⟩=some (.int .u64 (h.toNat:Int)):=fun x=>X.c0▸x.below.cell (p:=⟨w.heap.size,0,none⟩) (Nat.lt_succ_self _);have X1:∀x:fV (w.heap.size+1) w1,x.w.cell? ⟨w.heap.size,1,none⟩=some (.int .u64 (l.toNat:Int)):=fun x=>X.c1▸x.below.cell (p:=⟨w.heap.size,1,none⟩) (Nat.lt_succ_self _);clear X;refine mJ (C:=fun w'=>∃x:fV (w.heap.size+1) w1,w'=x.w) [([0,1,2],3),([],4),([],5),([],6)] [] zLE zLE (fun _ _ d _ _ h=>by cases d<;>exact h) ⟨⟨w1.drew,(zB _ _).drew⟩,rfl⟩ ?_;intro wd hwd;have D:=zW (show Below w1.heap.size w1 wd by rw[hwd];exact(zB _ _).drew);clear hwd;refine mV zLC zLI ?_;repeat(go_big_quiet_step (fail))
 refine zY ?_;refine lA zLI ?_;intro K hK;go_wp2_with fail;refine(O1.out _).mono ?_;rintro e w2 ⟨rfl,b2⟩;have D2:=zW (D.out.trans (b2.mono D.out.size));clear D b2;simp only[];refine hK _ _ ⟨⟨w2,D2.out.mono (jA hs)⟩,rfl⟩ ?_;clear hK K;refine mV zLC zLI ?_;refine zY ?_;refine lA zLI ?_;intro K hK;go_wp2_with fail;have Z:=zW (Box.new w2 h' l' 52);have D3:=zW (D2.out.alloc D2.out.size (.cells #[.int .u64 (h'.toNat:Int),.int .u64 (l'.toNat:Int)] 52));clear D2;refine hK _ _ ⟨⟨_,D3.out.mono (jA hs)⟩,rfl⟩ ?_;clear hK K;refine mV zLC zLI ?_;refine zY ?_;refine lA zLI ?_;intro K hK;go_wp2_with fail;refine(O2.out _ _ Z.out).mono ?_;rintro e w3 ⟨rfl,b3⟩;have D4:=zW (D3.out.trans (b3.mono D3.out.size));have Y4:=zW (YY.out.step D4.out);clear D3 b3 Z X0 X1;simp only[];refine hK _ _ ⟨⟨w3,D4.out.mono (jA hs)⟩,rfl⟩ ?_;clear hK K;refine mV zLC zLI ?_;refine zY ?_;refine lA zLI ?_;intro K hK;have S:=zW (Y4.out.set v1 v2);have BS:=zW (((B1.out.trans (D4.out.mono B1.out.size)).setCell (p:=⟨w.heap.size+1,0,none⟩) zLO (.int .u64 (v1.toNat:Int))).setCell (p:=⟨w.heap.size+1,1,none⟩) zLO (.int .u64 (v2.toNat:Int)));obtain⟨y1,y2,y3,y4,y5⟩:=Y4.out;clear YY Y4;have DS:Below (w.heap.size+1) w1 ((w3.setCell ⟨w.heap.size+1,0,none⟩ (.int .u64 (v1.toNat:Int))).setCell ⟨w.heap.size+1,1,none⟩ (.int .u64 (v2.toNat:Int))):=((D4.out.mono (jA hs)).setCell (p:=⟨w.heap.size+1,0,none⟩) (zH _) _).setCell (p:=⟨w.heap.size+1,1,none⟩) (zH _) _;have DS:=zW DS;clear D4;go_wp2_with fail;generalize (w3.setCell ⟨w.heap.size+1,0,none⟩ (.int .u64 (v1.toNat:Int))).setCell ⟨w.heap.size+1,1,none⟩ (.int .u64 (v2.toNat:Int))=w4 at*;refine hK _ _ ⟨⟨w4,DS.out⟩,rfl⟩ ?_;clear hK K y1 y2 y3 y4 y5;refine nF zLC ?_;refine zY ?_;obtain⟨x1,x2,x3,x4,x5⟩:=S.out;go_wp2;exact zS (v:=.agg #[.int .u64 (v1.toNat:Int),.int .u64 (v2.toNat:Int)]) (by simp[results,Tryz.results201,go_sem,x2,x3]) rfl ⟨rfl,BS.out⟩
theorem oE{h l h' l' v1 v2:BitVec 64}(e1:h^^^h'=v1)(e2:l^^^l'=v2)(w:World):Calls Tryz.prog 198 #[.agg #[.int .u64 (h.toNat:Int),.int .u64 (l.toNat:Int)],.agg #[.int .u64 (h'.toNat:Int),.int .u64 (l'.toNat:Int)]] w fun e w'=>
  e=.returned (.agg #[.int .u64 (v1.toNat:Int),.int .u64 (v2.toNat:Int)])∧Below w.heap.size w w':=by
 rw[←e1,←e2,←lP,←lP,←lP,←KA];exact H7 _ _ w


structure fR(N q:Nat)(A:Option Addr)(gs:List Nat)(F:Nat→Nat→Bool)(w:World):Prop where
 len:gs.length=4
 row:Row (encP N) w A gs
 px:∀i,i<4→Pxs (gs.getD i 0) (F i) w
 ra:∀ad,A=some ad→ad.block≠q
 pa:∀i,i<4→gs.getD i 0≠q
section
variable {N q:Nat} {A A':Option Addr} {gs:List Nat} {F F':Nat→Nat→Bool} {w w':World}
theorem fR.step(H:fR N q A gs F w)(hb:Below w.heap.size w w'):fR N q A gs F w':=⟨H.len,H.row.below hb,fun i hi=>(H.px i hi).step hb,H.ra,H.pa⟩
theorem fR.congr(H:fR N q A gs F w)(h:∀i,i<4→F i=F' i):fR N q A gs F' w:=⟨H.len,H.row,fun i hi=>by rw[←h i hi];exact H.px i hi,H.ra,H.pa⟩
theorem Pxs.other{g:Nat}{f:Nat→Bool}{w:World}(H:Pxs g f w){b:Nat}(hb:b≠g)(o:Nat)(v:Value):Pxs g f (w.setCell ⟨b,o,none⟩ v):=
 ⟨by simpa using H.lt,fun j hj=>by rw[qG _ _ _ _ (by simp[hb])];exact H.at_ j hj,fun j hj=>by rw[World.frozen?_setCell];exact H.fz j hj⟩
theorem fR.put(H:fR N q A gs F w)(o:Nat)(v:Value):fR N q A gs F (w.setCell ⟨q,o,none⟩ v):=
 ⟨H.len,fun hne=>by
  obtain⟨b,oo,hA,hlt,hc⟩:=H.row hne;have hbq:b≠q:=H.ra _ hA;exact⟨b,oo,hA,by simpa using hlt,fun j hj=>by rw[qG _ _ _ _ (by simp[Ne.symm hbq])];exact hc j hj⟩,
 fun i hi=>(H.px i hi).other (Ne.symm (H.pa i hi)) _ _,H.ra,H.pa⟩
theorem fR.set(H:fR N q A gs F w){i x:Nat}{f:Nat→Bool}(hi:i<4)(hrow:Row (encP N) w A' (gs.set i x))(hx:Pxs x f w)(hra:∀ad,A'=some ad→ad.block≠q)(hxq:x≠q):fR N q A' (gs.set i x) (fun j=>if j=i then f else F j) w:=by
 have hg:∀j,j<4→(gs.set i x).getD j 0=if j=i then x else gs.getD j 0:=fun j hj=>by
  have:=H.len;rw[qV,qV,List.getElem?_set];by_cases e:i=j
  ·subst e;simp[show i<gs.length by omega]
  ·rw[zL e,zL (fun h=>e h.symm)]
 refine⟨by rw[List.length_set];exact H.len,hrow,fun j hj=>?_,hra,fun j hj=>?_⟩
 ·rw[hg j hj];by_cases e:j=i
  ·rw[zN e,zN e];exact hx
  ·rw[zL e,zL e];exact H.px j hj
 ·rw[hg j hj];by_cases e:j=i
  ·rw[zN e];exact hxq
  ·rw[zL e];exact H.pa j hj
end
def FA(A0 A:Option Addr)(n:Nat):Prop:=A=A0∨∀ad,A=some ad→n≤ad.block
theorem FA.trans{A0 A1 A2:Option Addr}{n m:Nat}(h:FA A0 A1 n)(k:FA A1 A2 m)(hm:n≤m):FA A0 A2 n:=k.elim (fun e=>e▸h) (fun f=> .inr fun ad e=>zR hm (f ad e))
theorem FA.low{A0 A:Option Addr}{n m:Nat}(h:FA A0 A n)(hm:m≤n):FA A0 A m:=h.elim .inl fun f=> .inr fun ad e=>zR hm (f ad e)
theorem FA.new{A:Option Addr}{n:Nat}(h:FA none A n)(A0:Option Addr):FA A0 A n:=.inr (h.elim (fun e ad ea=>by rw[e]at ea;cases ea) id)
section
variable {N g:Nat} {f:Nat→Bool} {w w':World}
theorem Pxs.grown{row:Option Nat}(H:Pxs g f w)(hg:w.grownBy w' row)(hne:some g≠row):Pxs g f w':=by
 have hb:=hg.block g H.lt hne;exact⟨zF H.lt hg.size,fun j hj=>(qE (a:=⟨g,j,none⟩) hb).trans (H.at_ j hj),fun j hj=>(World.frozen?_of_block (a:=⟨g,j,none⟩) hb).trans (H.fz j hj)⟩
theorem PN{base size n:Nat}{e:TypeId}{v:Value}{xs:List Value}(h:w.ownsRow base e size v n xs)(hb:Below w.heap.size w w'):w'.ownsRow base e size v n xs:=by
 refine⟨h.1,h.2.imp id ?_⟩;rintro⟨b,cap,cur,rfl,hbb,hh,r⟩;exact⟨b,cap,cur,rfl,hbb,(hb.block b (qK.1 hh).1).trans hh,r⟩
end


end
section
open Go.RowKit Num Dec Cpu

def d3(b:Nat):Array Value:=#[.int .u8 ((b:Int)/100),.int .u8 ((b:Int)/10%10),.int .u8 ((b:Int)%10)]
structure zYO:Prop where
 do_:∀(v:Nat→Nat) (op:Int) (x y nn:Nat) (n addr len:Int) (q:Pr) (w:World),OkV v→x<16→y<16→nn<256→∀(hop:(Lit.int .i64 op).wf=true:=by decide),
  Calls Tryz.prog 119 #[.agg (rg v),.agg (lX ⟨op,x,y,n,nn,addr,len⟩),.agg (prc q)] w fun e w'=>e=.returned (.tuple #[.agg (rg (tO v ⟨op,x,y,n,nn,addr,len⟩ q)),.bool (dQ op)])∧Below w.heap.size w w'
 sk:∀(v:Nat→Nat) (op:Int) (x y nn:Nat) (n addr len:Int) (w:World),OkV v→x<16→y<16→nn<256→
  Calls Tryz.prog 120 #[.agg (rg v),.agg (lX ⟨op,x,y,n,nn,addr,len⟩)] w fun e w'=>e=.returned (.tuple #[.bool (skB v ⟨op,x,y,n,nn,addr,len⟩),.bool (sW op)])∧Below w.heap.size w w'
 dg:∀(b:Nat) (w:World),b<256→Calls Tryz.prog 129 #[.int .u8 (b:Int)] w fun e w'=>e=.returned (.agg (d3 b))∧Below w.heap.size w w'
theorem zLB:nI Tryz.prog 222 3:=⟨⟨_,Tryz.underlying222,rfl⟩,by kernel_rfl⟩
theorem IS:nG Tryz.prog 222 #[.int .u8 0,.int .u8 0,.int .u8 0]:=by unfold nG;kernel_rfl
theorem zZ6(b:Nat):nU (d3 b):=by unfold nU d3;simp[Value.oneCell']
theorem zWU(P:Nat→Int):eqP P P=true:=(zW0 P P).2 fun _ _=>rfl
section
variable {ops:Array Oper} {C:World→Prop} {Q:Act→Prop} {o:Oper} {rest:List Oper} {ac:Act} {v:Nat→Nat} {a b c:Int}
end
end
section
open Go.RowKit Num Dec Cpu Go.Maps
def cdA:Array Value:=#[.int .i64 5,afn 189,.int .i64 6,afn 190,.int .i64 7,afn 191,.int .i64 19,afn 192]
theorem eI(w:World):Calls Tryz.prog 161 #[] w fun e w'=>e=.returned (.agg cdA)∧Below w.heap.size w w':=by
 go_enter Tryz.func161,Tryz.ntmps161;go_wp2_with fail;exact zM9
theorem A7(x y nn:Nat)(q:Pr)(w:World):Calls Tryz.prog 189 #[.agg (opc x y nn q)] w fun e w'=>e=.returned (.bool (decide ((x:Int)=(nn:Int))))∧Below w.heap.size w w':=by
 unfold opc;go_enter Tryz.func189,Tryz.ntmps189;exact zNH
theorem A6(x y nn:Nat)(q:Pr)(w:World):Calls Tryz.prog 190 #[.agg (opc x y nn q)] w fun e w'=>e=.returned (.bool (!decide ((x:Int)=(nn:Int))))∧Below w.heap.size w w':=by
 unfold opc;go_enter Tryz.func190,Tryz.ntmps190;exact zNH
theorem A5(x y nn:Nat)(q:Pr)(w:World):Calls Tryz.prog 191 #[.agg (opc x y nn q)] w fun e w'=>e=.returned (.bool (decide ((x:Int)=(y:Int))))∧Below w.heap.size w w':=by
 unfold opc;go_enter Tryz.func191,Tryz.ntmps191;exact zNH
theorem A4(x y nn:Nat)(q:Pr)(w:World):Calls Tryz.prog 192 #[.agg (opc x y nn q)] w fun e w'=>e=.returned (.bool (!decide ((x:Int)=(y:Int))))∧Below w.heap.size w w':=by
 unfold opc;go_enter Tryz.func192,Tryz.ntmps192;exact zNH
theorem oD(b:Nat)(w:World)(hb:b<256):Calls Tryz.prog 129 #[.int .u8 (b:Int)] w fun e w'=>e=.returned (.agg (d3 b))∧Below w.heap.size w w':=by
 have e:(b:Int)/10/10=(b:Int)/100:=zLS;have E:=zW e;clear e;go_enter Tryz.func129,Tryz.ntmps129;go_wp2_with fail;go_returns;exact⟨by rw[E.out];rfl,by go_grown⟩
theorem cd_at:(∀w:World,(Instr.index 254 (.agg cdA) (.int .i64 0)).run Tryz.prog w=.ok (.agg #[.int .i64 5,afn 189]) w)∧(∀w:World,(Instr.index 254 (.agg cdA) (.int .i64 1)).run Tryz.prog w=.ok (.agg #[.int .i64 6,afn 190]) w)∧
  (∀w:World,(Instr.index 254 (.agg cdA) (.int .i64 2)).run Tryz.prog w=.ok (.agg #[.int .i64 7,afn 191]) w)∧(∀w:World,(Instr.index 254 (.agg cdA) (.int .i64 3)).run Tryz.prog w=.ok (.agg #[.int .i64 19,afn 192]) w):=
 ⟨fun _=>by kernel_rfl,fun _=>by kernel_rfl,fun _=>by kernel_rfl,fun _=>by kernel_rfl⟩
theorem KO(v:Nat→Nat)(op:Int)(x y nn:Nat)(n addr len:Int)(w:World)(hv:OkV v)(hx:x<16)(hy:y<16)(hn:nn<256):
  Calls Tryz.prog 120 #[.agg (rg v),.agg (lX ⟨op,x,y,n,nn,addr,len⟩)] w fun e w'=>e=.returned (.tuple #[.bool (skB v ⟨op,x,y,n,nn,addr,len⟩),.bool (sW op)])∧Below w.heap.size w w':=by
 have RD:=zW (fun w=>fJ v op x y nn n addr len ⟨0,false,false,false,false,false,false,false⟩ w hv hx hy hn);have C1:=zW (fun w=>A7 (v x) (v y) nn ⟨0,false,false,false,false,false,false,false⟩ w);have C2:=zW (fun w=>A6 (v x) (v y) nn ⟨0,false,false,false,false,false,false,false⟩ w);have C3:=zW (fun w=>A5 (v x) (v y) nn ⟨0,false,false,false,false,false,false,false⟩ w);have C4:=zW (fun w=>A4 (v x) (v y) nn ⟨0,false,false,false,false,false,false,false⟩ w);have B0:=zW (show Below w.heap.size w ((w.alloc (.cells (rg v) 45)).alloc (.cells (lX ⟨op,x,y,n,nn,addr,len⟩) 89))from by go_grown);have R0:=zW ((Blk.new w 45 (rg v)).alloc (.cells (lX ⟨op,x,y,n,nn,addr,len⟩) 89));have I0:=zW (Blk.new (w.alloc (.cells (rg v) 45)) 89 (lX ⟨op,x,y,n,nn,addr,len⟩));simp only[zT]at I0;have S5:=zW (fun(h:op=5)=>(show skB v ⟨op,x,y,n,nn,addr,len⟩=decide ((v x:Int)=(nn:Int))∧sW op=true from by subst h;unfold skB sW;simp));have S6:=zW (fun(h:op=6)=>(show skB v ⟨op,x,y,n,nn,addr,len⟩=(!decide ((v x:Int)=(nn:Int)))∧sW op=true from by subst h;unfold skB sW;simp));have S7:=zW (fun(h:op=7)=>(show skB v ⟨op,x,y,n,nn,addr,len⟩=decide ((v x:Int)=(v y:Int))∧sW op=true from by subst h;unfold skB sW;simp;omega));have S19:=zW (fun(h:op=19)=>(show skB v ⟨op,x,y,n,nn,addr,len⟩=(!decide ((v x:Int)=(v y:Int)))∧sW op=true from by subst h;unfold skB sW;simp;omega));have SO:=zW (fun(h:¬op=5∧¬op=6∧¬op=7∧¬op=19)=>(show skB v ⟨op,x,y,n,nn,addr,len⟩=false∧sW op=false from by obtain⟨a,b,c,d⟩:=h;unfold skB sW;simp[a,b,c,d]));obtain⟨I,hI⟩:∃I,lX ⟨op,x,y,n,nn,addr,len⟩=I:=⟨_,rfl⟩;have I7:I.size=7:=by rw[←hI];rfl
 have hi0:I[0]?=some (.int .i64 op):=by rw[←hI];rfl
 rw[hI]at RD B0 R0 I0⊢;generalize skB v ⟨op,x,y,n,nn,addr,len⟩=sb at*;clear hI hv hx hy hn;go_enter Tryz.func120,Tryz.ntmps120;go_upto_region 0 with fail;refine zG ?_;refine lU rfl _ (.tmp 0) rfl (rg v) rfl ?_;simp only[Act.put,zQ,zZ,zJ,zT];refine lU rfl _ (.tmp 1) rfl I rfl ?_;simp only[Act.put,zQ,zZ,zJ,zT];obtain⟨g,hg⟩:∃g,w.heap.size=g:=⟨_,rfl⟩;rw[hg]at R0 I0⊢;have GL:=zW hg;generalize (w.alloc (.cells (rg v) 45)).alloc (.cells I 89)=w1 at*;clear hg;go_wp2_with fail;refine(eI _).mono ?_;rintro e w2 ⟨rfl,b⟩;have R0:=zW (R0.out.step b);have I0:=zW (I0.out.step b);have B0:=zW (B0.out.trans (b.mono B0.out.size));clear b;obtain⟨j0,j1,j2,j3⟩:=cd_at;generalize cdA=CA at*;have gl:=I0.out.lt;have i0:w2.cell? ⟨g+1,0,none⟩=some (.int .i64 op):=(I0.out.cell 0).trans hi0;unfold afn at j0 j1 j2 j3;by_cases h5:op=5
 ·have SX:=zW (S5.out h5);clear S5 S6 S7 S19 SO;subst h5;clear i0;go_wp2_with fail;refine wp_loop_rounds 5 ?_;rw[rounds_succ];go_upto_region 4 with fail;have b:=(zB w2.heap.size w2).alloc (zH _) (.cells #[.int .i64 5,.func (.func 189) #[] #[]] 253);have KC:=zW (Blk.new w2 253 #[.int .i64 5,.func (.func 189) #[] #[]]);have R0:=zW (R0.out.step b);have I0:=zW (I0.out.step b);have B0:=zW (B0.out.trans (b.mono B0.out.size));clear b;obtain⟨gc,hgc⟩:∃gc,w2.heap.size=gc:=⟨_,rfl⟩;rw[hgc]at KC⊢;generalize w2.alloc (.cells #[.int .i64 5,.func (.func 189) #[] #[]] 253)=w3 at*;clear hgc;have i0:w3.cell? ⟨g+1,0,none⟩=some (.int .i64 5):=(I0.out.cell 0).trans hi0;have k0:w3.cell? ⟨gc,0,none⟩=some (.int .i64 5):=KC.out.cell 0;go_upto_region 5 with fail;clear i0 k0 j0 j1 j2 j3;have k1:=lH.cell (show w3.cell? ⟨gc,1,none⟩=some (.func (.func 189) #[] #[])from KC.out.cell 1) KC.out.lt;have CI:=zW (lY I0.out);have CV:=zW (lY R0.out);refine mE zLE zLE ?_;iterate 2 (go_big_quiet_step (fail))
  refine mX cU CV.out (vK _) ?_ (.tmp 2) ?_ ?_ ?_
  ·rfl
  ·rfl
  ·simp[Act.eval]
  simp only[Act.put,zQ,zZ,zJ];refine mX mY CI.out I7 ?_ (.tmp 3) ?_ ?_ ?_
  ·rfl
  ·rfl
  ·simp[Act.eval]
  simp only[Act.put,zQ,zZ,zJ];clear CI CV R0 I0 KC;repeat(go_big_quiet_step (first|(go_at_call 159;exact mZ (RD.out _))|(go_at_call 189;exact mZ (C1.out _))))
  exact zM7
 by_cases h6:op=6
 ·have SX:=zW (S6.out h6);clear S5 S6 S7 S19 SO;subst h6;clear i0;go_wp2_with fail;refine wp_loop_rounds 5 ?_;rw[rounds_succ];go_upto_region 4 with fail;have b:=(zB w2.heap.size w2).alloc (zH _) (.cells #[.int .i64 5,.func (.func 189) #[] #[]] 253);have KC:=zW (Blk.new w2 253 #[.int .i64 5,.func (.func 189) #[] #[]]);have R0:=zW (R0.out.step b);have I0:=zW (I0.out.step b);have B0:=zW (B0.out.trans (b.mono B0.out.size));clear b;obtain⟨gc,hgc⟩:∃gc,w2.heap.size=gc:=⟨_,rfl⟩;rw[hgc]at KC⊢;generalize w2.alloc (.cells #[.int .i64 5,.func (.func 189) #[] #[]] 253)=w3 at*;clear hgc;have i0:w3.cell? ⟨g+1,0,none⟩=some (.int .i64 6):=(I0.out.cell 0).trans hi0;have k0:w3.cell? ⟨gc,0,none⟩=some (.int .i64 5):=KC.out.cell 0;go_wp2_with fail;clear i0 k0 KC;rw[rounds_succ];go_upto_region 4 with fail;have b:=(zB w3.heap.size w3).alloc (zH _) (.cells #[.int .i64 6,.func (.func 190) #[] #[]] 253);have KC:=zW (Blk.new w3 253 #[.int .i64 6,.func (.func 190) #[] #[]]);have R0:=zW (R0.out.step b);have I0:=zW (I0.out.step b);have B0:=zW (B0.out.trans (b.mono B0.out.size));clear b;obtain⟨gc,hgc⟩:∃gc,w3.heap.size=gc:=⟨_,rfl⟩;rw[hgc]at KC⊢;generalize w3.alloc (.cells #[.int .i64 6,.func (.func 190) #[] #[]] 253)=w4 at*;clear hgc;have i0:w4.cell? ⟨g+1,0,none⟩=some (.int .i64 6):=(I0.out.cell 0).trans hi0;have k0:w4.cell? ⟨gc,0,none⟩=some (.int .i64 6):=KC.out.cell 0;go_upto_region 5 with fail;clear i0 k0 j0 j1 j2 j3;have k1:=lH.cell (show w4.cell? ⟨gc,1,none⟩=some (.func (.func 190) #[] #[])from KC.out.cell 1) KC.out.lt;have CI:=zW (lY I0.out);have CV:=zW (lY R0.out);refine mE zLE zLE ?_;iterate 2 (go_big_quiet_step (fail))
  refine mX cU CV.out (vK _) ?_ (.tmp 2) ?_ ?_ ?_
  ·rfl
  ·rfl
  ·simp[Act.eval]
  simp only[Act.put,zQ,zZ,zJ];refine mX mY CI.out I7 ?_ (.tmp 3) ?_ ?_ ?_
  ·rfl
  ·rfl
  ·simp[Act.eval]
  simp only[Act.put,zQ,zZ,zJ];clear CI CV R0 I0 KC;repeat(go_big_quiet_step (first|(go_at_call 159;exact mZ (RD.out _))|(go_at_call 190;exact mZ (C2.out _))))
  exact zM7
 by_cases h7:op=7
 ·have SX:=zW (S7.out h7);clear S5 S6 S7 S19 SO;subst h7;clear i0;go_wp2_with fail;refine wp_loop_rounds 5 ?_;rw[rounds_succ];go_upto_region 4 with fail;have b:=(zB w2.heap.size w2).alloc (zH _) (.cells #[.int .i64 5,.func (.func 189) #[] #[]] 253);have KC:=zW (Blk.new w2 253 #[.int .i64 5,.func (.func 189) #[] #[]]);have R0:=zW (R0.out.step b);have I0:=zW (I0.out.step b);have B0:=zW (B0.out.trans (b.mono B0.out.size));clear b;obtain⟨gc,hgc⟩:∃gc,w2.heap.size=gc:=⟨_,rfl⟩;rw[hgc]at KC⊢;generalize w2.alloc (.cells #[.int .i64 5,.func (.func 189) #[] #[]] 253)=w3 at*;clear hgc;have i0:w3.cell? ⟨g+1,0,none⟩=some (.int .i64 7):=(I0.out.cell 0).trans hi0;have k0:w3.cell? ⟨gc,0,none⟩=some (.int .i64 5):=KC.out.cell 0;go_wp2_with fail;clear i0 k0 KC;rw[rounds_succ];go_upto_region 4 with fail;have b:=(zB w3.heap.size w3).alloc (zH _) (.cells #[.int .i64 6,.func (.func 190) #[] #[]] 253);have KC:=zW (Blk.new w3 253 #[.int .i64 6,.func (.func 190) #[] #[]]);have R0:=zW (R0.out.step b);have I0:=zW (I0.out.step b);have B0:=zW (B0.out.trans (b.mono B0.out.size));clear b;obtain⟨gc,hgc⟩:∃gc,w3.heap.size=gc:=⟨_,rfl⟩;rw[hgc]at KC⊢;generalize w3.alloc (.cells #[.int .i64 6,.func (.func 190) #[] #[]] 253)=w4 at*;clear hgc;have i0:w4.cell? ⟨g+1,0,none⟩=some (.int .i64 7):=(I0.out.cell 0).trans hi0;have k0:w4.cell? ⟨gc,0,none⟩=some (.int .i64 6):=KC.out.cell 0;go_wp2_with fail;clear i0 k0 KC;rw[rounds_succ];go_upto_region 4 with fail;have b:=(zB w4.heap.size w4).alloc (zH _) (.cells #[.int .i64 7,.func (.func 191) #[] #[]] 253);have KC:=zW (Blk.new w4 253 #[.int .i64 7,.func (.func 191) #[] #[]]);have R0:=zW (R0.out.step b);have I0:=zW (I0.out.step b);have B0:=zW (B0.out.trans (b.mono B0.out.size));clear b;obtain⟨gc,hgc⟩:∃gc,w4.heap.size=gc:=⟨_,rfl⟩;rw[hgc]at KC⊢;generalize w4.alloc (.cells #[.int .i64 7,.func (.func 191) #[] #[]] 253)=w5 at*;clear hgc;have i0:w5.cell? ⟨g+1,0,none⟩=some (.int .i64 7):=(I0.out.cell 0).trans hi0;have k0:w5.cell? ⟨gc,0,none⟩=some (.int .i64 7):=KC.out.cell 0;go_upto_region 5 with fail;clear i0 k0 j0 j1 j2 j3;have k1:=lH.cell (show w5.cell? ⟨gc,1,none⟩=some (.func (.func 191) #[] #[])from KC.out.cell 1) KC.out.lt;have CI:=zW (lY I0.out);have CV:=zW (lY R0.out);refine mE zLE zLE ?_;iterate 2 (go_big_quiet_step (fail))
  refine mX cU CV.out (vK _) ?_ (.tmp 2) ?_ ?_ ?_
  ·rfl
  ·rfl
  ·simp[Act.eval]
  simp only[Act.put,zQ,zZ,zJ];refine mX mY CI.out I7 ?_ (.tmp 3) ?_ ?_ ?_
  ·rfl
  ·rfl
  ·simp[Act.eval]
  simp only[Act.put,zQ,zZ,zJ];clear CI CV R0 I0 KC;repeat(go_big_quiet_step (first|(go_at_call 159;exact mZ (RD.out _))|(go_at_call 191;exact mZ (C3.out _))))
  exact zM7
 by_cases h19:op=19
 ·have SX:=zW (S19.out h19);clear S5 S6 S7 S19 SO;subst h19;clear i0;go_wp2_with fail;refine wp_loop_rounds 5 ?_;rw[rounds_succ];go_upto_region 4 with fail;have b:=(zB w2.heap.size w2).alloc (zH _) (.cells #[.int .i64 5,.func (.func 189) #[] #[]] 253);have KC:=zW (Blk.new w2 253 #[.int .i64 5,.func (.func 189) #[] #[]]);have R0:=zW (R0.out.step b);have I0:=zW (I0.out.step b);have B0:=zW (B0.out.trans (b.mono B0.out.size));clear b;obtain⟨gc,hgc⟩:∃gc,w2.heap.size=gc:=⟨_,rfl⟩;rw[hgc]at KC⊢;generalize w2.alloc (.cells #[.int .i64 5,.func (.func 189) #[] #[]] 253)=w3 at*;clear hgc;have i0:w3.cell? ⟨g+1,0,none⟩=some (.int .i64 19):=(I0.out.cell 0).trans hi0;have k0:w3.cell? ⟨gc,0,none⟩=some (.int .i64 5):=KC.out.cell 0;go_wp2_with fail;clear i0 k0 KC;rw[rounds_succ];go_upto_region 4 with fail;have b:=(zB w3.heap.size w3).alloc (zH _) (.cells #[.int .i64 6,.func (.func 190) #[] #[]] 253);have KC:=zW (Blk.new w3 253 #[.int .i64 6,.func (.func 190) #[] #[]]);have R0:=zW (R0.out.step b);have I0:=zW (I0.out.step b);have B0:=zW (B0.out.trans (b.mono B0.out.size));clear b;obtain⟨gc,hgc⟩:∃gc,w3.heap.size=gc:=⟨_,rfl⟩;rw[hgc]at KC⊢;generalize w3.alloc (.cells #[.int .i64 6,.func (.func 190) #[] #[]] 253)=w4 at*;clear hgc;have i0:w4.cell? ⟨g+1,0,none⟩=some (.int .i64 19):=(I0.out.cell 0).trans hi0;have k0:w4.cell? ⟨gc,0,none⟩=some (.int .i64 6):=KC.out.cell 0;go_wp2_with fail;clear i0 k0 KC;rw[rounds_succ];go_upto_region 4 with fail;have b:=(zB w4.heap.size w4).alloc (zH _) (.cells #[.int .i64 7,.func (.func 191) #[] #[]] 253);have KC:=zW (Blk.new w4 253 #[.int .i64 7,.func (.func 191) #[] #[]]);have R0:=zW (R0.out.step b);have I0:=zW (I0.out.step b);have B0:=zW (B0.out.trans (b.mono B0.out.size));clear b;obtain⟨gc,hgc⟩:∃gc,w4.heap.size=gc:=⟨_,rfl⟩;rw[hgc]at KC⊢;generalize w4.alloc (.cells #[.int .i64 7,.func (.func 191) #[] #[]] 253)=w5 at*;clear hgc;have i0:w5.cell? ⟨g+1,0,none⟩=some (.int .i64 19):=(I0.out.cell 0).trans hi0;have k0:w5.cell? ⟨gc,0,none⟩=some (.int .i64 7):=KC.out.cell 0;go_wp2_with fail;clear i0 k0 KC;rw[rounds_succ];go_upto_region 4 with fail;have b:=(zB w5.heap.size w5).alloc (zH _) (.cells #[.int .i64 19,.func (.func 192) #[] #[]] 253);have KC:=zW (Blk.new w5 253 #[.int .i64 19,.func (.func 192) #[] #[]]);have R0:=zW (R0.out.step b);have I0:=zW (I0.out.step b);have B0:=zW (B0.out.trans (b.mono B0.out.size));clear b;obtain⟨gc,hgc⟩:∃gc,w5.heap.size=gc:=⟨_,rfl⟩;rw[hgc]at KC⊢;generalize w5.alloc (.cells #[.int .i64 19,.func (.func 192) #[] #[]] 253)=w6 at*;clear hgc;have i0:w6.cell? ⟨g+1,0,none⟩=some (.int .i64 19):=(I0.out.cell 0).trans hi0;have k0:w6.cell? ⟨gc,0,none⟩=some (.int .i64 19):=KC.out.cell 0;go_upto_region 5 with fail;clear i0 k0 j0 j1 j2 j3;have k1:=lH.cell (show w6.cell? ⟨gc,1,none⟩=some (.func (.func 192) #[] #[])from KC.out.cell 1) KC.out.lt;have CI:=zW (lY I0.out);have CV:=zW (lY R0.out);refine mE zLE zLE ?_;iterate 2 (go_big_quiet_step (fail))
  refine mX cU CV.out (vK _) ?_ (.tmp 2) ?_ ?_ ?_
  ·rfl
  ·rfl
  ·simp[Act.eval]
  simp only[Act.put,zQ,zZ,zJ];refine mX mY CI.out I7 ?_ (.tmp 3) ?_ ?_ ?_
  ·rfl
  ·rfl
  ·simp[Act.eval]
  simp only[Act.put,zQ,zZ,zJ];clear CI CV R0 I0 KC;repeat(go_big_quiet_step (first|(go_at_call 159;exact mZ (RD.out _))|(go_at_call 192;exact mZ (C4.out _))))
  exact zM7
 have SX:=zW (SO.out ⟨h5,h6,h7,h19⟩);clear S5 S6 S7 S19 SO;clear i0;go_wp2_with fail;refine wp_loop_rounds 5 ?_;rw[rounds_succ];go_upto_region 4 with fail;have b:=(zB w2.heap.size w2).alloc (zH _) (.cells #[.int .i64 5,.func (.func 189) #[] #[]] 253);have KC:=zW (Blk.new w2 253 #[.int .i64 5,.func (.func 189) #[] #[]]);have R0:=zW (R0.out.step b);have I0:=zW (I0.out.step b);have B0:=zW (B0.out.trans (b.mono B0.out.size));clear b;obtain⟨gc,hgc⟩:∃gc,w2.heap.size=gc:=⟨_,rfl⟩;rw[hgc]at KC⊢;generalize w2.alloc (.cells #[.int .i64 5,.func (.func 189) #[] #[]] 253)=w3 at*;clear hgc;have i0:w3.cell? ⟨g+1,0,none⟩=some (.int .i64 op):=(I0.out.cell 0).trans hi0;have k0:w3.cell? ⟨gc,0,none⟩=some (.int .i64 5):=KC.out.cell 0;go_wp2_with fail;clear i0 k0 KC;rw[rounds_succ];go_upto_region 4 with fail;have b:=(zB w3.heap.size w3).alloc (zH _) (.cells #[.int .i64 6,.func (.func 190) #[] #[]] 253);have KC:=zW (Blk.new w3 253 #[.int .i64 6,.func (.func 190) #[] #[]]);have R0:=zW (R0.out.step b);have I0:=zW (I0.out.step b);have B0:=zW (B0.out.trans (b.mono B0.out.size));clear b;obtain⟨gc,hgc⟩:∃gc,w3.heap.size=gc:=⟨_,rfl⟩;rw[hgc]at KC⊢;generalize w3.alloc (.cells #[.int .i64 6,.func (.func 190) #[] #[]] 253)=w4 at*;clear hgc;have i0:w4.cell? ⟨g+1,0,none⟩=some (.int .i64 op):=(I0.out.cell 0).trans hi0;have k0:w4.cell? ⟨gc,0,none⟩=some (.int .i64 6):=KC.out.cell 0;go_wp2_with fail;clear i0 k0 KC;rw[rounds_succ];go_upto_region 4 with fail;have b:=(zB w4.heap.size w4).alloc (zH _) (.cells #[.int .i64 7,.func (.func 191) #[] #[]] 253);have KC:=zW (Blk.new w4 253 #[.int .i64 7,.func (.func 191) #[] #[]]);have R0:=zW (R0.out.step b);have I0:=zW (I0.out.step b);have B0:=zW (B0.out.trans (b.mono B0.out.size));clear b;obtain⟨gc,hgc⟩:∃gc,w4.heap.size=gc:=⟨_,rfl⟩;rw[hgc]at KC⊢;generalize w4.alloc (.cells #[.int .i64 7,.func (.func 191) #[] #[]] 253)=w5 at*;clear hgc;have i0:w5.cell? ⟨g+1,0,none⟩=some (.int .i64 op):=(I0.out.cell 0).trans hi0;have k0:w5.cell? ⟨gc,0,none⟩=some (.int .i64 7):=KC.out.cell 0;go_wp2_with fail;clear i0 k0 KC;rw[rounds_succ];go_upto_region 4 with fail;have b:=(zB w5.heap.size w5).alloc (zH _) (.cells #[.int .i64 19,.func (.func 192) #[] #[]] 253);have KC:=zW (Blk.new w5 253 #[.int .i64 19,.func (.func 192) #[] #[]]);have R0:=zW (R0.out.step b);have I0:=zW (I0.out.step b);have B0:=zW (B0.out.trans (b.mono B0.out.size));clear b;obtain⟨gc,hgc⟩:∃gc,w5.heap.size=gc:=⟨_,rfl⟩;rw[hgc]at KC⊢;generalize w5.alloc (.cells #[.int .i64 19,.func (.func 192) #[] #[]] 253)=w6 at*;clear hgc;have i0:w6.cell? ⟨g+1,0,none⟩=some (.int .i64 op):=(I0.out.cell 0).trans hi0;have k0:w6.cell? ⟨gc,0,none⟩=some (.int .i64 19):=KC.out.cell 0;go_wp2_with fail;clear i0 k0 KC;rw[rounds_succ];go_wp2_with fail;go_ret2;exact⟨by rw[SX.out.1,SX.out.2];rfl,B0.out⟩
theorem s7{op:Int}{f:Nat}(h:alk iQ op=some f):(op=8∧f=178)∨(op=9∧f=179)∨(op=10∧f=180)∨(op=11∧f=181)∨(op=12∧f=182)∨(op=13∧f=183)∨(op=14∧f=184)∨(op=15∧f=185)∨(op=17∧f=186)∨(op=16∧f=187)∨(op=18∧f=188):=by
 unfold iQ at h;simp only[alk]at h;repeat' split at h
 all_goals first|(injection h with h;subst h;simp[*];done)|cases h
theorem zJT{op:Int}(h:alk iQ op=none):dQ op=false:=by
 unfold iQ at h;simp only[alk]at h;unfold dQ;repeat' split at h
 all_goals first|(cases h;done)|skip
 simp;omega
theorem WL{op:Int}{f:Nat}(h:alk iQ op=some f):∀args w,(callFunc f args).run Tryz.prog w=.ok (.enter f args) w:=by
 rcases s7 h with⟨_,rfl⟩|⟨_,rfl⟩|⟨_,rfl⟩|⟨_,rfl⟩|⟨_,rfl⟩|⟨_,rfl⟩|⟨_,rfl⟩|⟨_,rfl⟩|⟨_,rfl⟩|⟨_,rfl⟩|⟨_,rfl⟩
 ·exact enters_of Tryz.func178 zLE rfl
 ·exact enters_of Tryz.func179 zLE rfl
 ·exact enters_of Tryz.func180 zLE rfl
 ·exact enters_of Tryz.func181 zLE rfl
 ·exact enters_of Tryz.func182 zLE rfl
 ·exact enters_of Tryz.func183 zLE rfl
 ·exact enters_of Tryz.func184 zLE rfl
 ·exact enters_of Tryz.func185 zLE rfl
 ·exact enters_of Tryz.func186 zLE rfl
 ·exact enters_of Tryz.func187 zLE rfl
 ·exact enters_of Tryz.func188 zLE rfl
theorem zKS{op:Int}{f:Nat}(h:alk iQ op=some f)(x y nn:Nat)(hx:x<256)(hy:y<256)(hn:nn<256)(q:Pr)(w:World):Calls Tryz.prog f #[.agg (opc x y nn q)] w fun e w'=>fT op x y nn q e∧Below w.heap.size w w':=by
 rcases s7 h with⟨rfl,rfl⟩|⟨rfl,rfl⟩|⟨rfl,rfl⟩|⟨rfl,rfl⟩|⟨rfl,rfl⟩|⟨rfl,rfl⟩|⟨rfl,rfl⟩|⟨rfl,rfl⟩|⟨rfl,rfl⟩|⟨rfl,rfl⟩|⟨rfl,rfl⟩
 ·exact LQ x y nn hx hy hn q w
 ·exact LZ x y nn hx hy hn q w
 ·exact YP x y nn hx hy hn q w
 ·exact IM x y nn hx hy hn q w
 ·exact T0 x y nn hx hy hn q w
 ·exact TI x y nn hx hy hn q w
 ·exact T3 x y nn hx hy hn q w
 ·exact TO x y nn hx hy hn q w
 ·exact oQ x y nn hx hy hn q w
 ·exact eC x y nn hx hy hn q w
 ·exact pQ x y nn hx hy hn q w
theorem alk_is{op:Int}{f:Nat}(h:alk iQ op=some f):dQ op=true:=by
 rcases s7 h with⟨rfl,_⟩|⟨rfl,_⟩|⟨rfl,_⟩|⟨rfl,_⟩|⟨rfl,_⟩|⟨rfl,_⟩|⟨rfl,_⟩|⟨rfl,_⟩|⟨rfl,_⟩|⟨rfl,_⟩|⟨rfl,_⟩<;>rfl
theorem zeroFn(w:World):(zeroValue 242).run Tryz.prog w=.ok .nilFunc w:=by kernel_rfl
def zYT(L:List (Int×Nat))(op:Int):Value:=match alk L op with|some f=>afn f|none=> .nilFunc
theorem Y9{P:Program}(hP:P=Tryz.prog){o:Oper}{a:Act}{K:Act→World→Prop}{Q:Exit→Act→World→Prop}{w:World}{m n:Nat}{L:List (Int×Nat)}{D:DataW Value}(H:T7 m n L w D)(mx xx:Operand)(hop:o.op=Op.lookup 244 mx xx true)(hm:a.eval mx=.map (some m))(op:Int)(hx:a.eval xx=.int .i64 op)(hk:(Lit.int .i64 op).wf=true)
  (h:K (a.put o.dst (.tuple #[zYT L op,.bool (alk L op).isSome])) w):o.wp P a w K Q:=by
 subst hP;obtain⟨v,ps,hrun,hv⟩:=H.own.look_ok yS Tryz.underlying244 (zeroFn w) (zd:=.held .nilFunc) (zp:=[]) rfl (uC op hk);have e:v=zYT L op:=by
  rw[H.at_]at hv;unfold zJU zYT at*;cases hc:alk L op with
  |none=>rw[hc]at hv;simp only[j7,jU,DataW.held.injEq]at hv;exact hv.1
  |some f=>rw[hc]at hv;simp only[j7,jU,DataW.held.injEq]at hv;exact hv.1
 rw[e,H.has_]at hrun;unfold Oper.wp;simp[execOp,hop,hm,hx,hrun,Result.andThen];exact h
structure zYU(a b:Addr)(va vb:Value) where
 w:World
 ha:w.cell? a=some va
 hb:w.cell? b=some vb
theorem u8_of{r:Int}{k:Nat}(h:r%256=(k:Int)):IntKind.u8.wrap r=(k:Int):=by rw[kR,h]
theorem IN(v:Nat→Nat)(op:Int)(x y nn:Nat)(n addr len:Int)(q:Pr)(w:World)(hv:OkV v)(hx:x<16)(hy:y<16)(hn:nn<256)(hop:(Lit.int .i64 op).wf=true):
  Calls Tryz.prog 119 #[.agg (rg v),.agg (lX ⟨op,x,y,n,nn,addr,len⟩),.agg (prc q)] w fun e w'=>e=.returned (.tuple #[.agg (rg (tO v ⟨op,x,y,n,nn,addr,len⟩ q)),.bool (dQ op)])∧Below w.heap.size w w':=by
 have RD:=zW (fun w=>fJ v op x y nn n addr len q w hv hx hy hn);have RG:=zW (fun w=>tE x hx w);have HX:=zW (zM hx (zM hy hn));have VX:=zW (zM (hv x hx) (hv y hy));have HO:=zW hop;have B0:=zW ((TR w (.cells (rg v) 45) (.cells (lX ⟨op,x,y,n,nn,addr,len⟩) 89) (.cells (prc q) 24)).alloc zL2 (.cells (pc lO) 45));have V0:=zW ((((Blk.new w 45 (rg v)).alloc (.cells (lX ⟨op,x,y,n,nn,addr,len⟩) 89)).alloc (.cells (prc q) 24)).alloc (.cells (pc lO) 45));have I0:=zW (((Blk.new (w.alloc (.cells (rg v) 45)) 89 (lX ⟨op,x,y,n,nn,addr,len⟩)).alloc (.cells (prc q) 24)).alloc (.cells (pc lO) 45));have P0:=zW ((Blk.new ((w.alloc (.cells (rg v) 45)).alloc (.cells (lX ⟨op,x,y,n,nn,addr,len⟩) 89)) 24 (prc q)).alloc (.cells (pc lO) 45));have O0:=zW (Blk.new (((w.alloc (.cells (rg v) 45)).alloc (.cells (lX ⟨op,x,y,n,nn,addr,len⟩) 89)).alloc (.cells (prc q) 24)) 45 (pc lO));simp only[zT]at I0 P0 O0;have AN:=zW (fun(h:alk iQ op=none)=>(show tO v ⟨op,x,y,n,nn,addr,len⟩ q=v∧dQ op=false from by
  have h1:=zJT h;refine⟨?_,h1⟩;unfold tO;simp[h1]))
 have AS:=zW (fun f (h:alk iQ op=some f) (k:Nat) (R F:Nat) (hR:tF op (v x) (v y) (if q.sh=true then v y else v x) nn=R)=>(show(eE op (v x) (v y) (if q.sh=true then v y else v x) q.lr=none→tO v ⟨op,x,y,n,nn,addr,len⟩ q=upd v x R)∧(eE op (v x) (v y) (if q.sh=true then v y else v x) q.lr=some F→tO v ⟨op,x,y,n,nn,addr,len⟩ q=upd (upd v x R) 15 F)∧dQ op=true from by
  have h1:=alk_is h;refine⟨fun h2=>?_,fun h2=>?_,h1⟩
  ·unfold tO shX;simp only[h1,if_true,Int.toNat_natCast,h2,hR]
  ·unfold tO shX;simp only[h1,if_true,Int.toNat_natCast,h2,hR]))
 have hi0:(lX ⟨op,x,y,n,nn,addr,len⟩)[0]?=some (.int .i64 op):=rfl
 have hi1:(lX ⟨op,x,y,n,nn,addr,len⟩)[1]?=some (.int .i64 (x:Int)):=rfl;have I7:(lX ⟨op,x,y,n,nn,addr,len⟩).size=7:=rfl;have P8:(prc q).size=8:=rfl;generalize tO v ⟨op,x,y,n,nn,addr,len⟩ q=V at*;generalize lX ⟨op,x,y,n,nn,addr,len⟩=I at*;clear hop hv hx hy hn;go_enter Tryz.func119,Tryz.ntmps119;go_upto_region 0 with fail;refine zG ?_;refine lU rfl _ (.tmp 0) rfl (rg v) rfl ?_;simp only[Act.put,zQ,zZ,zJ,zT];refine lU rfl _ (.tmp 1) rfl I rfl ?_;simp only[Act.put,zQ,zZ,zJ,zT];refine lU rfl _ (.tmp 2) rfl (prc q) rfl ?_;simp only[Act.put,zQ,zZ,zJ,zT];refine qH rfl fun K hK=>nD zeroRg rfl (hK _ _ ?_);simp only[Act.put,zQ,zZ,zJ,zT];go_upto_region 1 with fail;show(Code.region _ _ _).wp _ _ _ ((((w.alloc (.cells (rg v) 45)).alloc (.cells I 89)).alloc (.cells (prc q) 24)).alloc (.cells (pc lO) 45));obtain⟨g,hg⟩:∃g,w.heap.size=g:=⟨_,rfl⟩;rw[hg]at V0 I0 P0 O0⊢;have GL:=zW hg;generalize (((w.alloc (.cells (rg v) 45)).alloc (.cells I 89)).alloc (.cells (prc q) 24)).alloc (.cells (pc lO) 45)=w1 at*;clear hg;have i0:=lH.cell (show w1.cell? ⟨g+1,0,none⟩=some (.int .i64 op)from(I0.out.cell 0).trans hi0) I0.out.lt;refine mJ (C:=fun w'=>∃u:lH w1,w'=u.w) [([1,2],0),([],3)] [4,5,6,7,8] zLE zLE (fun _ _ d _ _ h=>by cases d<;>exact h) ⟨⟨w1.drew,(zB _ _).drew⟩,rfl⟩ ?_;intro wd hwd;have bd:=zW (show Below w1.heap.size w1 wd by rw[hwd];exact(zB _ _).drew);clear hwd;refine mV zLC zLU ?_;repeat(go_big_quiet_step (fail))
 refine zY ?_;refine lA zLI ?_;intro K hK;go_wp2_with fail;refine(eU _).mono ?_;rintro e w2 ⟨m,D,rfl,M0,b2⟩;have M:=zW M0;have b2:=zW (bd.out.trans (b2.mono bd.out.size));clear M0;refine hK _ _ ⟨⟨w2,b2.out⟩,rfl⟩ ?_;clear hK;refine mV zLC zLU ?_;refine zY ?_;refine lA zLI ?_;intro K hK;refine Y9 rfl M.out (.tmp 12) (.tmp 14) rfl zLI op zLI HO.out ?_;simp only[Act.put,zQ,zZ,zJ];refine hK _ _ ⟨⟨w2,b2.out⟩,rfl⟩ ?_;clear hK;have V0:=zW (V0.out.step b2.out);have I0:=zW (I0.out.step b2.out);have P0:=zW (P0.out.step b2.out);have O0:=zW (O0.out.step b2.out);have B0:=zW (B0.out.trans (b2.out.mono B0.out.size));refine nF zLC ?_;repeat(go_big_quiet_step (fail))
 refine zY ?_;clear M b2 i0 bd;obtain⟨k,hk⟩:∃k,alk iQ op=k:=⟨_,rfl⟩;have HK:=zW hk;unfold zYT;rw[hk];clear hk;cases k with
 |none=>
  simp only[Option.isSome]
  go_upto_region 3 with fail
  refine zG ?_
  refine kO cU V0.out (vK _) rfl (.tmp 3) rfl rfl ?_
  simp only[Act.put,zQ,zZ,zJ]
  refine kU cU O0.out (nX _) (vK _) (JH _) rfl (.tmp 6) (.tmp 20) rfl rfl rfl ?_
  simp only[Act.put,zQ,zZ,zJ]
  have R:=zW (O0.out.store (rg v))
  have B:=zW (lC B0.out (by rw[GL.out];omega:w.heap.size≤g+1+1+1) (rg v))
  have AX:=zW (AN.out HK.out)
  generalize w2.setRow (g+1+1+1) (rg v)=wz at*
  go_wp2_with fail
  exact zS (mU rfl _ _ (g+1+1+1) _ _ _ _ rfl rfl R.out cU (vK _)) rfl ⟨by rw[AX.out.1,AX.out.2];rfl,B.out⟩
 |some f=>
  simp only[Option.isSome]
  go_upto_region 4 with fail
  refine zG ?_
  iterate 3 go_step
  refine kO cU V0.out (vK _) rfl (.tmp 3) rfl rfl ?_
  simp only[Act.put,zQ,zZ,zJ]
  refine kO mY I0.out I7 rfl (.tmp 4) rfl rfl ?_
  simp only[Act.put,zQ,zZ,zJ]
  refine kO aggPrA P0.out P8 rfl (.tmp 5) rfl rfl ?_
  simp only[Act.put,zQ,zZ,zJ]
  go_wp2_with fail
  refine(RD.out _).mono ?_
  rintro e w3 ⟨rfl,b⟩
  have V0:=zW (V0.out.step b)
  have I0:=zW (I0.out.step b)
  have P0:=zW (P0.out.step b)
  have O0:=zW (O0.out.step b)
  have B0:=zW (B0.out.trans (b.mono B0.out.size))
  clear b
  simp only[]
  go_at_K
  iterate 1 go_step
  refine qH rfl fun K hK=>?_
  refine lE (g:=f) (caps:=#[]) (args:=#[.agg (opc (v x) (v y) nn q)]) (.tmp 21) #[.tmp 25] #[249] rfl (WL HK.out) rfl zLP ?_
  refine(zKS HK.out (v x) (v y) nn VX.out.1 VX.out.2 HX.out.2.2 q _).mono ?_
  rintro e w4 ⟨⟨r,fl,h,rfl,hr,hfl,haf,hr0,hr1⟩,b⟩
  refine⟨_,rfl,hK _ _ ?_⟩
  clear hK
  have V0:=zW (V0.out.step b)
  have I0:=zW (I0.out.step b)
  have O0:=zW (O0.out.step b)
  have B0:=zW (B0.out.trans (b.mono B0.out.size))
  clear b P0
  simp only[Act.put,zQ,zZ,zJ]
  refine mT (ds:=oc r fl h) uD zeroOc rfl rfl (tV _ _ _) rfl rfl rfl (.tmp 10) (.tmp 26) rfl zLP zLP ?_
  simp only[Act.put,zQ,zZ,zJ]
  have K0:=zW (Blk.new w4 247 (oc r fl h))
  have b:=(zB w4.heap.size w4).alloc (zH _) (.cells (oc r fl h) 247)
  have GK:=zW (show g+1+1+1<w4.heap.size from O0.out.lt)
  have V0:=zW (V0.out.step b)
  have I0:=zW (I0.out.step b)
  have O0:=zW (O0.out.step b)
  have B0:=zW (B0.out.trans (b.mono B0.out.size))
  clear b
  obtain⟨go,hgo⟩:∃go,w4.heap.size=go:=⟨_,rfl⟩
  rw[hgo]at K0 GK⊢
  generalize w4.alloc (.cells (oc r fl h) 247)=w5 at*
  clear hgo
  obtain⟨R,hR⟩:∃R,tF op (v x) (v y) (if q.sh=true then v y else v x) nn=R:=⟨_,rfl⟩
  have AX:=zW (AS.out f HK.out 0 R fl hR)
  rw[hR]at hr
  have wr:=u8_of hr
  have HF:=zW haf
  have R8:=zW (show R<256 by omega)
  have F1:=zW hfl
  clear haf hR hr hr0 hr1 hfl AS AN RD
  go_upto_region 5 with fail
  have gk:=GK.out
  have i1:w5.cell? ⟨g+1,1,none⟩=some (.int .i64 (x:Int)):=(I0.out.cell 1).trans hi1
  have o0:w5.cell? ⟨go,0,none⟩=some (.int .i64 r):=K0.out.cell 0
  haveI:Nonempty (zYU ⟨g+1,1,none⟩ ⟨go,0,none⟩ (.int .i64 (x:Int)) (.int .i64 r)):=⟨⟨w5,i1,o0⟩⟩
  have k1:∀u:zYU ⟨g+1,1,none⟩ ⟨go,0,none⟩ (.int .i64 (x:Int)) (.int .i64 r),u.w.cell? ⟨g+1,1,none⟩=some (.int .i64 (x:Int)):=fun u=>u.ha
  have k2:∀u:zYU ⟨g+1,1,none⟩ ⟨go,0,none⟩ (.int .i64 (x:Int)) (.int .i64 r),u.w.cell? ⟨go,0,none⟩=some (.int .i64 r):=fun u=>u.hb
  refine mJ (C:=fun w'=>∃u:zYU ⟨g+1,1,none⟩ ⟨go,0,none⟩ (.int .i64 (x:Int)) (.int .i64 r),w'=u.w) [([0,1,3,4,5],2),([6],7)] [] zLE zLE (fun _ _ d _ _ h=>by cases d<;>exact h) ⟨⟨w5.drew,i1,o0⟩,rfl⟩ ?_
  intro wd hwd
  have V0:=zW (show Blk g 45 (rg v) wd by rw[hwd];exact V0.out.drew)
  have O0:=zW (show Blk (g+1+1+1) 45 (pc lO) wd by rw[hwd];exact O0.out.drew)
  have K0:=zW (show Blk go 247 (oc r fl h) wd by rw[hwd];exact K0.out.drew)
  have B0:=zW (show Below w.heap.size w wd by rw[hwd];exact B0.out.drew)
  have j1:=zW (show wd.cell? ⟨g+1,1,none⟩=some (.int .i64 (x:Int)) by rw[hwd];exact i1)
  have jo:=zW (show wd.cell? ⟨go,0,none⟩=some (.int .i64 r) by rw[hwd];exact o0)
  clear hwd i1 o0
  refine mV zLC zLU ?_
  repeat(go_big_quiet_step (fail))
  refine zY ?_
  refine lA zLI ?_
  intro K hK
  go_wp2_with fail
  refine(RG.out _).mono ?_
  rintro e w' ⟨rfl,rfl⟩
  refine hK _ _ ⟨⟨wd,j1.out,jo.out⟩,rfl⟩ ?_
  clear hK
  have xi:(x:Int)<16:=(by have:=HX.out.1;omega)
  refine mV zLC zLU ?_
  repeat(go_big_quiet_step (fail))
  refine zY ?_
  refine lA zLI ?_
  intro K hK
  clear k1 k2
  have cx:wd.cell? ⟨g,x,none⟩=some (.int .u8 (v x:Int)):=by rw[V0.out.cell,dG v HX.out.1]
  have fx:wd.frozen? ⟨g,x,none⟩=false:=V0.out.frozen x
  go_wp2_with fail
  have G1:=zW (show g≠g+1∧g≠go by omega)
  refine hK _ _ ⟨⟨wd.setCell ⟨g,x,none⟩ (.int .u8 (R:Int)),(qG _ ⟨g,x,none⟩ ⟨g+1,1,none⟩ _ (by intro c;injection c;omega)).trans j1.out,(qG _ ⟨g,x,none⟩ ⟨go,0,none⟩ _ (by intro c;injection c;omega)).trans jo.out⟩,rfl⟩ ?_
  clear hK
  have V0:=zW ((V0.out.put x (.int .u8 (R:Int))).eq (WQ v HX.out.1 R))
  have O0:=zW (O0.out.other (g:=g) zLS x (.int .u8 (R:Int)))
  have K0:=zW (K0.out.other (g:=g) zLS x (.int .u8 (R:Int)))
  have B0:=zW (B0.out.setCell (p:=⟨g,x,none⟩) (by rw[GL.out];exact zH _) (.int .u8 (R:Int)))
  generalize wd.setCell ⟨g,x,none⟩ (.int .u8 (R:Int))=w6 at*
  refine nF zLC ?_
  refine zY ?_
  clear cx fx j1 jo wr
  have o2:w6.cell? ⟨go,2,none⟩=some (.bool h):=K0.out.cell 2
  have o1:w6.cell? ⟨go,1,none⟩=some (.int .u8 (fl:Int)):=K0.out.cell 1
  cases h
  ·have AV:=zW (AX.out.1 (HF.out.trans rfl))
   have AI:=zW AX.out.2.2
   clear AX HF
   go_upto_region 8 with fail
   refine zG ?_
   refine kO cU V0.out (vK _) rfl (.tmp 3) rfl rfl ?_
   simp only[Act.put,zQ,zZ,zJ]
   refine kU cU O0.out (nX _) (vK _) (JH _) rfl (.tmp 6) (.tmp 39) rfl rfl rfl ?_
   simp only[Act.put,zQ,zZ,zJ]
   have RR:=zW (O0.out.store (rg (upd v x R)))
   have B:=zW (lC B0.out (by rw[GL.out];omega:w.heap.size≤g+1+1+1) (rg (upd v x R)))
   iterate 7 go_step
   exact zS (mU rfl _ _ (g+1+1+1) _ _ _ _ rfl rfl RR.out cU (vK _)) rfl ⟨by rw[AV.out,AI.out];rfl,B.out⟩
  ·have AV:=zW (AX.out.2.1 (HF.out.trans rfl))
   have AI:=zW AX.out.2.2
   clear AX HF
   have cf:w6.cell? ⟨g,15,none⟩=some (.int .u8 ((upd v x R) 15:Int)):=by rw[V0.out.cell,dG _ zLS]
   have ff:w6.frozen? ⟨g,15,none⟩=false:=V0.out.frozen 15
   go_upto_region 8 with fail
   have V0:=zW ((V0.out.put 15 (.int .u8 (fl:Int))).eq (WQ _ zLS fl))
   have O0:=zW (O0.out.other (g:=g) zLS 15 (.int .u8 (fl:Int)))
   have B0:=zW (B0.out.setCell (p:=⟨g,15,none⟩) (by rw[GL.out];exact zH _) (.int .u8 (fl:Int)))
   generalize w6.setCell ⟨g,15,none⟩ (.int .u8 (fl:Int))=w7 at*
   refine zG ?_
   refine kO cU V0.out (vK _) rfl (.tmp 3) rfl rfl ?_
   simp only[Act.put,zQ,zZ,zJ]
   refine kU cU O0.out (nX _) (vK _) (JH _) rfl (.tmp 6) (.tmp 39) rfl rfl rfl ?_
   simp only[Act.put,zQ,zZ,zJ]
   have RR:=zW (O0.out.store (rg (upd (upd v x R) 15 fl)))
   have B:=zW (lC B0.out (by rw[GL.out];omega:w.heap.size≤g+1+1+1) (rg (upd (upd v x R) 15 fl)))
   iterate 7 go_step
   exact zS (mU rfl _ _ (g+1+1+1) _ _ _ _ rfl rfl RR.out cU (vK _)) rfl ⟨by rw[AV.out,AI.out];rfl,B.out⟩
theorem aX:zYO where
 do_:=fun v op x y nn n addr len q w hv hx hy hn hop=>IN v op x y nn n addr len q w hv hx hy hn hop
 sk:=fun v op x y nn n addr len w hv hx hy hn=>KO v op x y nn n addr len w hv hx hy hn
 dg:=fun b w hb=>oD b w hb
end
end Go.Proofs.YthknmadinmigfaaGreatDoor
