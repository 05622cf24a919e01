/- MacAwake, MacLawK, FrmIt, FrmRec, FrmEq, FrmOf, FrmRun, FrmAwD, FrmAwake, MacKeysN, FrmLawK, FrmRangeW. -/
import Derived.Test.YthknmadinmigfaaGreatDoorMk4b
set_option maxRecDepth 400000
set_option maxHeartbeats 64000000
set_option linter.unusedVariables false
set_option linter.unusedSimpArgs false
namespace Go.Proofs.YthknmadinmigfaaGreatDoor
section
open Go.RowKit Num Dec Cpu

theorem CZ(r l:Value)(q:Pr)(en:Bool)(hr:∃A n c,r=.slice A n c)(hl:∃A n c,l=.slice A n c):Tryz.prog.built 35 [(0,r),(1,l),(2,.agg (prc q)),(3,.bool en)]=some (cfC r l (.slice none 0 0) q en):=by
 obtain⟨A,n,c,rfl⟩:=hr;obtain⟨B,k,d,rfl⟩:=hl;unfold prc;kernel_rfl
theorem zQI{c:Prop}[Decidable c]{x y:AS}{v:List Ev}(hx:x.ks=v)(hy:y.ks=v):(if c then x else y).ks=v:=by split<;>assumption
theorem ks_st(N:Nat)(a:AS)(op:Int)(x y n nn:Nat)(addr len:Int)(q:Pr):(stA N a op x y n nn addr len q).ks=a.ks:=by
 have hs:∀(b:AS) (t:Bool) (l:Int),(wJ b t l).ks=b.ks:=fun b t l=>by unfold wJ;split<;>rfl
 have hm:∀(b:AS) (k:Nat),(iW b op x y k q.ki).ks=b.ks:=fun b k=>by
  have h:(oH b op x y k).ks=b.ks:=by unfold oH;repeat' (first|rfl|refine zQI ?_ ?_)
  unfold iW
  split
  ·exact h
  ·exact h
 have h0:(nxA a len).ks=a.ks:=rfl
 have hd:∀b:AS,(bP b op n).ks=b.ks:=fun b=>by unfold bP;repeat' (first|rfl|refine zQI ?_ ?_)
 unfold stA
 split
 ·split
  ·rfl
  ·unfold stB;repeat' split
   all_goals (first|rfl|exact(hs ..).trans h0|exact(hm ..).trans h0|skip)
   all_goals (unfold XB;repeat' (first|exact hd (nxA a len)|refine zQI ?_ ?_))
 ·rfl
theorem zK3(N:Nat)(s:m5)(a:AS):(vD N s a).ks=a.ks:=by
 unfold vD asM;split
 ·split
  ·exact ks_st ..
  ·rfl
 ·rfl
theorem Mch.off{base:Nat}{O:Nat→Prop}{mb n:Nat}{s:m5}{a:AS}{w:World}(H:Mch base O mb n s a w){q:Nat}{T:TypeId}{cs:Array Value}(hq:Blk q T cs w)(hT:T≠70∧T≠150∧T≠186∧T≠144∧T≠137∧T≠170∧T≠103):¬O q:=by
 have hb:=H.bs;obtain⟨b,m,g,p,mp,pg,v,en,l,h,k,H,rfl,_⟩:=H;exact(H.mr hb).off hq hT
end
section
open Go.RowKit Go.Shelf Num Dec Cpu
attribute [local go_sem] Oper.semAt_some
def frN(N:Nat):Nat→m5→AS→m5×AS
 |0,s,a=>(s,a)
 |k+1,s,a=>if s.k≠0 then(s,a)else if uD s a=true then(nmM s a,vD N s a)else frN N k (nmM s a) (vD N s a)
theorem zZK(N k:Nat){s:m5}(a:AS)(h:s.k≠0):frN N k s a=(s,a):=by
 cases k with
 |zero=>rfl
 |succ k=>unfold frN;rw[zN h]
theorem Mch.more{base:Nat}{O:Nat→Prop}{mb n n':Nat}{s:m5}{a:AS}{w:World}(H:Mch base O mb n s a w)(h:n≤n'):Mch base O mb n' s a w:=by
 obtain⟨b,m,g,p,mp,pg,v,en,l,hh,k,H,e,h1,h2⟩:=H;exact⟨b,m,g,p,mp,pg,v,en,l,hh,k,H,e,by omega,by omega⟩
theorem FO(k c p y:Int)(w:World):(Instr.field 39 (.agg #[.int .i64 k,.int .i64 c,.int .i64 p,.int .i64 y]) 0).run Tryz.prog w=.ok (.int .i64 k) w:=by
 have h:(Tryz.prog.fieldsOf 39)[0]?.map (fun f=>(f.offset,f.type))=some (0,3):=zLR;simp[Instr.field,go_sem,qU Tryz.underlying39,qU Tryz.underlying3,part,isAgg,asAgg]
theorem DM(N:Nat)(E0:gS N)(l:Nat)(o:Obj)(hoc:o.isCells=false)(hY:∀W,W.heap[l]?=some o→YieldAt Fence.wide 4 Tryz.prog l #[] W fun e W'=>e=.returned (.bool true)∧W'=W)
  {base:Nat} {O:Nat→Prop} {mb n:Nat} {s:m5} {a:AS} {W:World} (H:Mch base O mb n s a W) (L:xW W) (hB:1<base) (nn bI bM:Nat) (hI:Blk bI 3 #[.int .i64 (nn:Int)] W) (hM:Blk bM 29 #[.pointer (some ⟨mb,0,none⟩)] W) (hl:W.heap[l]?=some o) (hOl:¬O l) (hx:s.ex+(nn:Int)≤90000) (hn:n+nn≤90000) (hn2:nn≤65535):
  CallsIn Fence.wide 5 Tryz.prog 63 #[.func (.yield l) #[] #[],.pointer (some ⟨bI,0,none⟩),.pointer (some ⟨bM,0,none⟩)] W fun e W'=>(∃v,e=.returned v)∧W'.heap[l]?=some o∧∃O',Mch base O' mb (n+nn) (frN N nn s a).1 (frN N nn s a).2 W'∧lH O W W'∧nA O O' W.heap.size:=by
 have HH:=zW H;have HE:=zW E0;have HL:=zW (fun u (k:lH O W u)=>L.below (k.below H.bs fun j hj=>(H.blt j hj).1) hB);have HY:=zW hY;have HB:=zW hB;have HX:=zW (zM hx hn);have HM:=zW (fun u (k:lH O W u)=>(show Blk bM 29 #[.pointer (some ⟨mb,0,none⟩)] u from(k.block bM hM.lt (H.off hM ⟨by decide,by decide,by decide,by decide,by decide,by decide,by decide⟩)).trans hM));have Hl:=zW (fun u (k:lH O W u)=>(show u.heap[l]?=some o from(k.block l (qK.1 hl).1 hOl).trans hl));have cI:W.cell? ⟨bI,0,none⟩=some (.int .i64 (nn:Int)):=(hI.cell 0).trans rfl;clear H E0 L hB hI hM hl hOl hx hn hY hoc;refine callsIn_of_wp Tryz.func63 rfl trivial ?_ rfl;simp only[Tryz.ntmps63,jZ,List.length_cons,List.length_nil,Nat.reduceAdd,Nat.reduceSub,q8,Array.replicate_zero,jK,q9,List.nil_append,List.cons_append];gi_wp2
 gi_loopw [6] (fun i wr=>∃k:Nat,k≤nn∧i=.int .i64 (k:Int)∧lH O W wr∧∃Oi si ai,Mch base Oi mb (n+k) si ai wr∧nA O Oi W.heap.size∧frN N (nn-k) si ai=frN N nn s a∧si.ex≤s.ex+(k:Int)) (fun i _=>nn-(intOf i).toNat)
 case atStart=>exact⟨0,qO _,rfl,lH.refl,O,s,a,HH.out,nA.refl,rfl,by omega⟩
 case round=>
  clear cI HH
  obtain⟨k,hk,rfl,hK,Oi,si,ai,hX,hG,hf,hex⟩:=hrel
  have KK:=zW hK
  have X:=zW hX
  have GG:=zW hG
  have FF:=zW (zM hf hex)
  clear hK hX hG hf hex
  by_cases hlt:k<nn
  ·have ki:(k:Int)<(nn:Int):=zLG
   have kb:(k:Int)≤65535:=zLG
   have JX:=zW hlt
   have cM:wr.cell? ⟨bM,0,none⟩=some (.pointer (some ⟨mb,0,none⟩)):=((HM.out wr KK.out).cell 0).trans rfl
   obtain⟨k',hk'⟩:∃k',nn-k=k'+1:=⟨nn-k-1,by omega⟩
   have KE:=zW (show nn-k=k'+1∧nn-(k+1)=k' from⟨hk',by omega⟩)
   have MS:=zW (show Calls Tryz.prog 14 #[.pointer (some ⟨mb,0,none⟩)] wr fun e w'=>e=.returned (.agg #[.int .i64 si.k,.int .i64 si.c,.int .i64 si.p,.int .i64 si.y])∧Below wr.heap.size wr w' from pB X.out)
   clear hk' hk
   gi_wp2_with fail
   refine⟨trivial,?_⟩
   refine(callsIn_wide.2 MS.out).mono ?_
   rintro e w2 ⟨rfl,b2⟩
   have X:=zW (X.out.step b2)
   have KK:=zW (KK.out.trans (lH.of_below (O:=fun _=>False) b2) fun _ c=>c.elim)
   clear b2 MS cM
   have hfi:=FO si.k si.c si.p si.y w2
   by_cases h0:si.k=0
   ·have e0:(si.k !=0)=false:=by rw[h0];rfl
    have cM:w2.cell? ⟨bM,0,none⟩=some (.pointer (some ⟨mb,0,none⟩)):=((HM.out w2 KK.out).cell 0).trans rfl
    have H0:=zW h0
    clear h0
    gi_wp2_with fail
    refine⟨trivial,?_⟩
    refine(callsIn_wide.2 (ZW N HE.out X.out (HL.out _ KK.out) HB.out (by have:=HX.out.1;have:=FF.out.2;have:=JX.out;omega) (by have:=HX.out.2;have:=JX.out;omega))).mono ?_
    rintro e w3 ⟨rfl,O',X3,K3,G3⟩
    have G5:=zW (GG.out.trans G3 KK.out.size)
    have KK:=zW (KK.out.trans K3 GG.out)
    have X:=zW X3
    clear X3 K3 G3 cM
    obtain⟨fn,tmps,assign,body,hy,hR⟩:=HY.out w3 (Hl.out w3 KK.out)
    obtain⟨dr,hdr⟩:∃dr,uD si ai=dr:=⟨_,rfl⟩
    rw[hdr]
    have DRh:=zW hdr
    clear hdr
    gi_wp2_with fail
    refine hR.mono ?_
    rintro e W4 ⟨rfl,rfl⟩
    cases dr
    ·gi_wp2
     go_roundw
     case rel=>exact⟨k+1,JX.out,by go_num,KK.out,O',_,_,X.out,G5.out,by rw[←FF.out.1,KE.out.1,KE.out.2];unfold frN;rw[zL (fun c=>c H0.out),zL (by rw[DRh.out];decide)];cases k'<;>rfl,by have:=(zWD si ai).2;have:=FF.out.2;omega⟩
     case measure=>have:=JX.out;simp[intOf];omega
    ·gi_wp2
     refine zF (results_none rfl _ _ _) rfl ?_
     refine⟨⟨_,rfl⟩,Hl.out _ KK.out,O',?_,KK.out,G5.out⟩
     rw[←FF.out.1,KE.out.1,show frN N (k'+1) si ai=(nmM si ai,vD N si ai)from by unfold frN;rw[zL (fun c=>c H0.out),zN DRh.out]]
     exact X.out.more (by have:=JX.out;omega)
   ·have e0:(si.k !=0)=true:=by simpa using h0
    have H0:=zW h0
    clear h0
    gi_wp2
    refine zF (results_none rfl _ _ _) rfl ?_
    refine⟨⟨_,rfl⟩,Hl.out _ KK.out,Oi,?_,KK.out,GG.out⟩
    rw[←FF.out.1,zZK N _ ai H0.out]
    exact X.out.more (by have:=JX.out;omega)
  ·have ki:¬(k:Int)<(nn:Int):=zLG
   have EK:=zW (show k=nn by omega)
   gi_wp2
   go_end0
   refine⟨⟨_,rfl⟩,Hl.out _ KK.out,Oi,?_,KK.out,GG.out⟩
   rw[←FF.out.1,show nn-k=0 from by have:=EK.out;omega]
   exact X.out.more (by have:=EK.out;omega)
end
section
open Go.RowKit Num Dec Cpu
structure dT where
 P:Nat→Pl
 hi:Bool
 so:Bool
 pat:Nat→Int
 pt:Int
 k:Int
 c:Int
 p:Int
 y:Int
def YQ(r:dT)(j:Nat):Value:=if j<512 then .int .u64 (cL (r.P (j/128)) (j%128))else if j=512 then .bool r.hi else if j=513 then .bool r.so else if j<530 then .int .u8 (r.pat (j-514))else if j=530 then .int .u8 r.pt else if j=531 then .int .i64 r.k else if j=532 then .int .i64 r.c else if j=533 then .int .i64 r.p else .int .i64 r.y
def mC(r:dT):Array Value:=yY 535 (YQ r)
theorem mH(r:dT):(mC r).size=535:=vF
theorem wL(r:dT){j:Nat}(hj:j<535):(mC r)[j]?=some (YQ r j):=wW hj
theorem yT(r:dT):n8 (mC r):=by
 unfold n8 mC yY;rw[qC];intro v hv;simp only[kK,jV,jM]at hv;obtain⟨j,hj,rfl⟩:=hv;unfold YQ;repeat' split
 all_goals rfl
theorem xQ:nU Tryz.prog 78 535:=⟨⟨_,Tryz.underlying78,rfl⟩,by kernel_rfl⟩
def vY:dT:=⟨fun _ _=>0#128,false,false,fun _=>0,0,0,0,0,0⟩
theorem aJ:mC vY=(((Array.replicate 512 (Value.int .u64 0))++ #[.bool false,.bool false])++(Array.replicate 17 (Value.int .u8 0)))++ #[.int .i64 0,.int .i64 0,.int .i64 0,.int .i64 0]:=by kernel_rfl
theorem uL:nD Tryz.prog 78 (mC vY):=by
 unfold nD;rw[mH,aJ];kernel_rfl
theorem iS:Tryz.prog.built 78 []=some (mC vY):=by
 rw[aJ];kernel_rfl
theorem A5(r:dT):Tryz.prog.built 78 [(0,.agg (xY r.P)),(1,.bool r.hi),(2,.bool r.so),(3,.agg (pc r.pat)),(4,.int .u8 r.pt),(5,.agg (yG r.k r.c r.p r.y))]=some (mC r):=by
 kernel_rfl
theorem VU(r:dT):(mC r).extract 0 (0+512)=xY r.P:=cY (gQ _) zLG fun j hj=>by
 unfold xY YQ;rw[zN zLG,qM];simp[hj]
theorem zX6(r:dT):(mC r).extract 514 (514+16)=pc r.pat:=cY (nX _) zLG fun j hj=>by
 rw[yF _ _ hj];unfold YQ;rw[zL zLG,zL zLG,zL zLG,zN zLG,show 514+j-514=j by omega]
theorem zX5(r:dT):(mC r).extract 531 (531+4)=yG r.k r.c r.p r.y:=cY rfl zLG fun j hj=>by
 rcases(show j=0∨j=1∨j=2∨j=3 by omega)with rfl|rfl|rfl|rfl<;>rfl
theorem xH(d:Nat)(xs:Array Value)(f:Field)(fs:List Field)(v:Value)(w:World)(hf:f.name≠ "_")(hx:(part f.type xs f.offset).run Tryz.prog w=.ok v w)(he:(Op.equalIn (d+1) f.type v v).run Tryz.prog w=.ok true w)
  (hr:(Op.eqFields (d+1) xs xs fs).run Tryz.prog w=.ok true w):(Op.eqFields (d+1) xs xs (f::fs)).run Tryz.prog w=.ok true w:=by
 unfold Op.eqFields;rw[zN hf,zC,hx,Result.andThen_ok,zC,hx,Result.andThen_ok,zC,he,Result.andThen_ok];simp only[Bool.not_true,Bool.false_eq_true,if_false];exact hr
theorem wM(t:TypeId)(td:TypeDesc)(hu:Tryz.prog.underlying t=some td)(hd:(match td with| .struct _| .array _ _=>true|_=>false)=false)(cs:Array Value)(k:Nat)(v:Value)(h:cs[k]?=some v)(w:World):(part t cs k).run Tryz.prog w=.ok v w:=by
 have hagg:(isAgg t).run Tryz.prog w=.ok false w:=by
  unfold isAgg;rw[zC,qU hu w];cases td<;>simp_all
 simp[part,zC,hagg,h]
theorem JZ(t:TypeId)(hu:Tryz.prog.underlying t=some (.int .i64))(a:Int)(d:Nat)(w:World):(Op.equalIn (d+1) t (.int .i64 a) (.int .i64 a)).run Tryz.prog w=.ok true w:=by
 rw[run_equalIn_int w d t .i64 .i64 a a hu];simp
theorem UA(k c p y:Int)(d:Nat)(w:World):(Op.equalIn (d+3) 39 (.agg (yG k c p y)) (.agg (yG k c p y))).run Tryz.prog w=.ok true w:=by
 have ht:Tryz.prog.underlying 39=some (.struct (Tryz.prog.fieldsOf 39)):=zLR;have hp:Tryz.prog.stoodInHeld 39=false:=zLR;rw[run_equalIn_struct (P:=Tryz.prog) w (d+2) 39 _ _ ht hp];clear ht hp;simp only[Program.fieldsOf,Tryz.underlying39];refine xH (d+1) _ _ _ (.int .i64 k) w zLD (wM _ _ Tryz.underlying3 rfl _ _ _ rfl w) (JZ _ Tryz.underlying3 k (d+1) w) ?_;refine xH (d+1) _ _ _ (.int .i64 c) w zLD (wM _ _ Tryz.underlying30 rfl _ _ _ rfl w) (JZ _ Tryz.underlying30 c (d+1) w) ?_;refine xH (d+1) _ _ _ (.int .i64 p) w zLD (wM _ _ Tryz.underlying3 rfl _ _ _ rfl w) (JZ _ Tryz.underlying3 p (d+1) w) ?_;refine xH (d+1) _ _ _ (.int .i64 y) w zLD (wM _ _ Tryz.underlying3 rfl _ _ _ rfl w) (JZ _ Tryz.underlying3 y (d+1) w) ?_;simp[Op.eqFields]
theorem ET(r:dT)(d:Nat)(w:World):(Op.equalIn (d+7) 78 (.agg (mC r)) (.agg (mC r))).run Tryz.prog w=.ok true w:=by
 have ht:Tryz.prog.underlying 78=some (.struct (Tryz.prog.fieldsOf 78)):=zLR;have hp:Tryz.prog.stoodInHeld 78=false:=zLR;rw[run_equalIn_struct (P:=Tryz.prog) w (d+6) 78 _ _ ht hp];clear ht hp;have h0:(part 56 (mC r) 0).run Tryz.prog w=.ok (.agg (xY r.P)) w:=by
  rw[xV (P:=Tryz.prog) 56 _ (mC r) 0 512 w rfl Tryz.underlying56 zJM.i,VU]
 have h1:(part 4 (mC r) 512).run Tryz.prog w=.ok (.bool r.hi) w:=wM _ _ Tryz.underlying4 rfl _ _ _ (wL r zLG) w;have h2:(part 4 (mC r) 513).run Tryz.prog w=.ok (.bool r.so) w:=wM _ _ Tryz.underlying4 rfl _ _ _ (wL r zLG) w;have h3:(part 45 (mC r) 514).run Tryz.prog w=.ok (.agg (pc r.pat)) w:=by
  rw[xV (P:=Tryz.prog) 45 _ (mC r) 514 16 w rfl Tryz.underlying45 xZ.i,zX6]
 have h4:(part 5 (mC r) 530).run Tryz.prog w=.ok (.int .u8 r.pt) w:=wM _ _ Tryz.underlying5 rfl _ _ _ (wL r zLG) w;have h5:(part 39 (mC r) 531).run Tryz.prog w=.ok (.agg (yG r.k r.c r.p r.y)) w:=by
  rw[xV (P:=Tryz.prog) 39 _ (mC r) 531 4 w rfl Tryz.underlying39 rM.i,zX5]
 have e0:(Op.equalIn (d+6) 56 (.agg (xY r.P)) (.agg (xY r.P))).run Tryz.prog w=.ok true w:=by
  have h:=wK (P:=Tryz.prog) (d+5) 56 55 _ 4 128 (xY r.P) (xY r.P) (fun i=>wX (r.P i) (r.P i)) rfl Tryz.underlying56 Tryz.underlying55 uA.i (fun i hi w=>by
   rw[zX9 _ i hi];exact pV _ _ (d+1) w) w
  rw[h];congr 1
  rw[jN]
  exact fun i _=>zXS fun _ _=>rfl
 have e1:∀b,(Op.equalIn (d+6) 4 (.bool b) (.bool b)).run Tryz.prog w=.ok true w:=fun b=>by rw[zWE b b (d+5)];simp
 have e3:(Op.equalIn (d+6) 45 (.agg (pc r.pat)) (.agg (pc r.pat))).run Tryz.prog w=.ok true w:=by rw[ED r.pat r.pat (d+4),zWS]
 have e4:(Op.equalIn (d+6) 5 (.int .u8 r.pt) (.int .u8 r.pt)).run Tryz.prog w=.ok true w:=by rw[GC _ _ (d+5)];simp
 have e5:=UA r.k r.c r.p r.y (d+3) w;generalize mC r=C at*;generalize xY r.P=Q at*;simp only[Program.fieldsOf,Tryz.underlying78];refine xH (d+5) _ _ _ _ w zLD h0 e0 ?_;refine xH (d+5) _ _ _ _ w zLD h1 (e1 _) ?_;refine xH (d+5) _ _ _ _ w zLD h2 (e1 _) ?_;refine xH (d+5) _ _ _ _ w zLD h3 e3 ?_;refine xH (d+5) _ _ _ _ w zLD h4 e4 ?_;refine xH (d+5) _ _ _ _ w zLD h5 e5 ?_;simp[Op.eqFields]
theorem zWP(r:dT)(w:World):(binOp .eql 78 (.agg (mC r)) (.agg (mC r))).run Tryz.prog w=.ok (.bool true) w:=by
 have h:=ET r 9993 w;have e:(10000:Nat)=9993+7:=zLD;rw[run_eql_struct,e,h];simp only[Result.andThen_ok]
theorem WI:Tryz.prog.eqGuardType Tryz.prog.depth 78=false:=by kernel_rfl
theorem WC{o:Oper}{ρ:Operand→Value}{w:World}(x y:Operand)(z:TypeId)(ho:o.op=.binOp .eql 78 x y z)(r:dT)(hx:ρ x=.agg (mC r))(hy:ρ y=.agg (mC r)):(execOp ρ o).run Tryz.prog w=.ok (.value (.bool true)) w:=by
 unfold execOp;simp only[ho,hx,hy];rw[zC,zC,run_eqGuard_agg w .eql 78 x y (mC r) (mC r) WI,Result.andThen_ok,zWP,Result.andThen_ok,Sem.run_pure]
section
variable {ops:Array Oper} {C:World→Prop}
theorem hE{Q:Act→Prop}{o:Oper}{rest:List Oper}{a:Act}(r:dT)(hw:Region.wanted o (yielded ops a.tmps)=true)(x y:Operand)(z:TypeId)(ho:o.op=.binOp .eql 78 x y z)(hx:a.eval x=.agg (mC r))(hy:a.eval y=.agg (mC r))
  (h:wpQuiet Tryz.prog ops C Q rest (a.put o.dst (.bool true))):wpQuiet Tryz.prog ops C Q (o::rest) a:=
 u7 hw (.bool true) (fun w' _=>WC x y z ho r hx hy) h
end
def cV(s:m5)(a:AS):dT:=⟨(scA a).P,a.hi,onT (a.sd:Int),ptA a,(a.pt:Int),s.k,s.c,s.p,s.y⟩
theorem fO{xs c:Array Value}{o m:Nat}(h:xs.extract o (o+m)=c){j:Nat}(hj:j<m):xs[o+j]?=c[j]?:=by
 rw[←h,jD];by_cases hs:o+j<xs.size
 ·rw[zN zLG]
 ·rw[zL zLG,zD zLG]
theorem NX{xs c d:Array Value}{o m k:Nat}(h:xs.extract o (o+m)=c)(hk:k≤m)(hs:o+m≤xs.size)(hd:d.size=k)(e:∀j,j<k→c[j]?=d[j]?):xs.extract o (o+k)=d:=by
 apply qZ
 intro j
 rw[jD];by_cases hj:j<k
 ·rw[zN zLG,fO h zLG,e j hj]
 ·rw[zL zLG,zD zLG]
theorem Y8(a:AS)(m g:Nat):(stC a m g).extract 36 (36+512)=xY (scA a).P:=NX (xF a m g) zLG (by rw[lG];omega) (gQ _) fun j hj=>by
 rw[mN _ _ zLG];unfold yJ xY;rw[zN hj];simp[hj]
theorem zXM(a:AS)(m g:Nat):(stC a m g).extract 568 (568+16)=pc (ptA a):=NX (dA a m g) zLG (by rw[lG];omega) (nX _) fun j hj=>by
 rw[dR _ _ _ hj,yF _ _ hj]
theorem DI(a:AS)(m g:Nat):(stC a m g)[548]?=some (.bool a.hi):=(fO (xF a m g) (j:=512) zLG).trans (mN _ _ zLG)
theorem DU(a:AS)(m g:Nat):(stC a m g)[584]?=some (.int .u8 (a.pt:Int)):=(fO (dA a m g) (j:=16) zLG).trans (by rw[wS _ _ _ zLG];rfl)
theorem eQ(N:Nat)(C:xE N){base:Nat}{O:Nat→Prop}{mb n:Nat}{s:m5}{a:AS}{w:World}(H:Mch base O mb n s a w)(L:xW w):
  Calls Tryz.prog 24 #[.pointer (some ⟨mb,0,none⟩)] w fun e w'=>e=.returned (.agg (mC (cV s a)))∧Below w.heap.size w w':=by
 have X:=zW H;have CC:=zW C;have LL:=zW L;clear H C L;go_enter Tryz.func24,Tryz.ntmps24;go_upto_region 0 with fail;refine zB ?_;refine qH rfl fun K hK=>nS uL rfl (hK _ _ ?_);clear hK K;simp only[Act.put,zQ,zZ,zJ];refine wpList_nil ?_;have RV:=zW (Blk.new w 78 (mC vY));have BB:=zW (lY w (.cells (mC vY) 78));have X:=zW (X.out.step BB.out);obtain⟨gb,hgb⟩:∃k,w.heap.size=k:=⟨_,rfl⟩;have AT:=zW (show w.heap.size≤gb by omega);rw[hgb]at RV⊢;clear hgb;generalize World.alloc _ _=w1 at RV BB X⊢;go_wp2_with fail;refine(wH N CC.out X.out (LL.out.step BB.out)).mono ?_;rintro e w2 ⟨bs,ms,gs,vs,rfl,rc,b2⟩;have S:=zW rc;have X:=zW (X.out.step b2);have RV:=zW (RV.out.step b2);have BB:=zW (BB.out.trans (b2.mono BB.out.size));clear rc b2;go_upto_region 4 with fail;have CV:=zW (lL S.out.st);have k548:=lB.cell (show w2.cell? ⟨bs,548,none⟩=some (.bool a.hi)from(S.out.st.cell 548).trans (DI a ms gs)) S.out.st.lt;have k584:=lB.cell (show w2.cell? ⟨bs,584,none⟩=some (.int .u8 (a.pt:Int))from(S.out.st.cell 584).trans (DU a ms gs)) S.out.st.lt;refine lV (C:=fun w'=>∃u:lB w2,w'=u.w) 28 [([0,1,2,3,4,5,6,7,8,9,10,11,12,13,15,16,17,18,19,20,21,22,23,24,25],14,true),([],26,true)] [27] [] zLR zLR ?_ ?_ ⟨⟨w2.drew,(zG _ _).drew⟩,rfl⟩ ?_
 ·exact zMP
 ·exact zMD
 intro wd hwd;clear hwd;refine WM ?_;iterate 4 (go_big_quiet_step (fail))
 refine lW (o:=36) zJM CV.out zLC rfl (.tmp 12) rfl zLB ?_;rw[Y8];simp only[Act.put,zQ,zZ,zJ];iterate 8 (go_big_quiet_step (fail))
 refine lW (o:=566) eS CV.out zLC rfl (.tmp 21) rfl zLB ?_;rw[fD];simp only[Act.put,zQ,zZ,zJ];iterate 4 (go_big_quiet_step (fail))
 refine lW (o:=568) xZ CV.out zLC rfl (.tmp 27) rfl zLB ?_;rw[zXM];simp only[Act.put,zQ,zZ,zJ];iterate 6 (go_big_quiet_step (fail))
 refine zY ?_;refine lP (v:=.bool (onT (a.sd:Int))) (mM (g:=43) (caps:=#[]) (args:=#[.agg #[.int .u8 (a.dl:Int),.int .u8 (a.sd:Int)]]) (.func 43) _ _ rfl rfl (enters_of Tryz.func43 zLR rfl) (fun w' hw=>zXW _ _ w') rfl zLB) ?_;simp only[Act.put,zQ,zZ,zJ];refine lS zLO zLF ?_;refine zY ?_;refine lP (v:=.agg (yG s.k s.c s.p s.y)) (mM (g:=14) (caps:=#[]) (args:=#[.pointer (some ⟨mb,0,none⟩)]) (.func 14) _ _ rfl rfl (enters_of Tryz.func14 zLR rfl) (fun w' hw=>by obtain⟨u,rfl⟩:=hw;exact pB (X.out.step u.below)) rfl zLB) ?_;simp only[Act.put,zQ,zZ,zJ];refine WL ?_;refine vH rfl rfl (by simp[Act.eval,Act.put];exact A5 (cV s a)) ?_;simp only[Act.put,zQ,zZ,zJ];refine zY ?_;refine lD rfl ?_;intro w5 g5 C5 K hK;obtain⟨u5,rfl⟩:=C5;have RV:=zW (RV.out.step u5.below);have BB:=zW (BB.out.trans (u5.below.mono BB.out.size));generalize u5.w=w5 at*;refine nM (ds:=mC (cV s a)) xQ RV.out (mH _) (mH _) (yT _) (.tmp 2) (.tmp 36) rfl zLB zLB ?_;have RW:=zW (RV.out.store (mC (cV s a)));have BW:=zW (lA BB.out AT.out (mC (cV s a)));clear RV BB;generalize World.setRow _ _ _=w6 at RW BW hK⊢;refine hK _ _ ?_;clear hK K;simp only[Act.put,zQ,zZ,zJ];try simp only[kA]
 refine zY ?_;intro w7 g7;have RW:=zW (RW.out.step g7);have BW:=zW (BW.out.trans (g7.mono BW.out.size));go_wp2_with fail;iterate 4 (try go_step)
 exact zF (zE rfl _ _ gb _ _ _ _ rfl RW.out Tryz.underlying78 rfl (by rw[xQ.i,mH])) rfl ⟨rfl,BW.out⟩
end
section
open Go.RowKit Go.Shelf Num Dec Cpu
def kyN(l:List Ev)(x:m5×AS):m5×AS:=l.foldl (fun y e=>(gL y.1 y.2 e,tU y.1 y.2 e)) x
theorem ky_ex(s:m5)(a:AS)(e:Ev):(gL s a e).ex=s.ex:=by unfold gL;split<;>rfl
theorem ky_ks(s:m5)(a:AS)(e:Ev):(tU s a e).ks.length=a.ks.length+1:=by show(a.ks++[e]).length=_;simp
theorem JS(l:List Ev)(x:m5×AS)(k:Nat)(e:Ev)(h:l[k]?=some e):kyN (l.take (k+1)) x=(gL (kyN (l.take k) x).1 (kyN (l.take k) x).2 e,tU (kyN (l.take k) x).1 (kyN (l.take k) x).2 e):=by
 unfold kyN;obtain⟨hk,he⟩:=kH.1 h;rw[kR hk,List.foldl_append,he];rfl
theorem eK{W:World}{l:Nat}{o:Obj}:lH (fun j=>j=l) W (W.putObj l o):=⟨rfl,rfl,rfl,by simp,fun k _ hn=>jX hn⟩
theorem o9{base:Nat}{O:Nat→Prop}{mb n:Nat}{s:m5}{a:AS}{w:World}(H:Mch base O mb n s a w)(EA:Option Addr)(ne ce:Nat)(nn:Int)(hn:nn<0∨65535<nn):
  Calls Tryz.prog 25 #[.pointer (some ⟨mb,0,none⟩),.slice EA ne ce,.int .i64 nn] w fun e w'=>e=.returned (.tuple #[.agg (mC vY),.int .i64 5])∧Below w.heap.size w w':=by
 clear H;refine(callsIn_wide (n:=6)).1 ?_;refine callsIn_of_wp_marks Tryz.func25 rfl trivial ?_ rfl;simp only[Tryz.ntmps25,jZ,List.length_cons,List.length_nil,Nat.reduceAdd,Nat.reduceSub,q8,Array.replicate_zero,jK,q9,List.nil_append,List.cons_append];refine wpIn_wide.2 ?_;go_upto_region 0 with fail;refine zB ?_;refine qH rfl fun K hK=>nS uL rfl (hK _ _ ?_);clear hK K;simp only[Act.put,zQ,zZ,zJ];have RV:=zW (Blk.new w 78 (mC vY));have BB:=zW (lY w (.cells (mC vY) 78));obtain⟨gb,hgb⟩:∃k,w.heap.size=k:=⟨_,rfl⟩;have AT:=zW (show w.heap.size≤gb by omega);rw[hgb]at RV⊢;clear hgb;generalize World.alloc _ _=w1 at RV BB⊢;have hcase:(nn<0)∨(¬nn<0∧(65535:Int)<nn):=zLG;rcases hcase with h1|⟨h1,h2⟩
 all_goals (focus go_upto_region 2 with fail)
 all_goals
  refine zB ?_
  refine mJ (cs:=mC vY) rfl rfl (by simp;exact iS) ?_
  simp only[Act.put,zQ,zZ,zJ]
  refine kO (ds:=mC vY) xQ RV.out (mH _) (mH _) (yT _) rfl (.tmp 6) (.tmp 17) rfl rfl rfl ?_
  simp only[Act.put,zQ,zZ,zJ]
  have RW:=zW (RV.out.store (mC vY))
  have BW:=zW (lA BB.out AT.out (mC vY))
  generalize World.setRow _ _ _=w2 at RW BW⊢
  go_wp2_with fail
  iterate 6 (try go_step)
  exact⟨_,mO rfl _ _ gb _ _ _ (.int .i64 5) rfl rfl RW.out xQ (mH _),rfl,BW.out⟩
theorem LP(mb:Nat)(nn:Int)(w:World):Calls Tryz.prog 44 #[.pointer (some ⟨mb,0,none⟩),.int .i64 nn] w fun e w'=>e=.returned (.func (.func 63) #[] #[.pointer (some ⟨w.heap.size+1,0,none⟩),.pointer (some ⟨w.heap.size,0,none⟩)])∧w'=(w.alloc (.cells #[.pointer (some ⟨mb,0,none⟩)] 29)).alloc (.cells #[.int .i64 nn] 3):=by
 go_enter Tryz.func44,Tryz.ntmps44;go_wp2;go_returns;simp
structure FrR(base:Nat)(O:Nat→Prop)(w w8:World)(mb n gb:Nat)(s:m5)(a:AS)(W:World):Prop where
 m:∃O',Mch base O' mb n s a W∧nA O O' w.heap.size∧¬O' (w8.heap.size+1)∧¬O' w8.heap.size
 k:lH O w W
 r:Blk gb 78 (mC vY) W
 l:∃o,W.heap[w8.heap.size+1]?=some o∧o.isCells=false
 d:W.heap[w8.heap.size]?=some (.deferred (some []))
theorem sK(N:Nat)(CS:xE N)(E0:gS N){base:Nat}{O:Nat→Prop}{mb n:Nat}{s:m5}{a:AS}{w:World}(H:Mch base O mb n s a w)(L:xW w)(hB:1<base)(EA:Option Addr)(ne ce:Nat)(l:List Ev)(HE:Evs w EA ne l)(hEO:∀ad,EA=some ad→¬O ad.block)(hne:ne≤100)(nn:Nat)(hnn:nn≤65535)(hx:s.ex+(nn:Int)≤90000)(hn:n+nn≤90000)(hks:a.ks.length+ne<1000):
  Calls Tryz.prog 25 #[.pointer (some ⟨mb,0,none⟩),.slice EA ne ce,.int .i64 (nn:Int)] w fun e w'=>e=.returned (.tuple #[.agg (mC (cV (frN N nn (kyN l (s,a)).1 (kyN l (s,a)).2).1 (frN N nn (kyN l (s,a)).1 (kyN l (s,a)).2).2)),.int .i64 0])∧∃O',Mch base O' mb (n+nn) (frN N nn (kyN l (s,a)).1 (kyN l (s,a)).2).1 (t6 (frN N nn (kyN l (s,a)).1 (kyN l (s,a)).2).2) w'∧lH O w w'∧nA O O' w.heap.size:=by
 have HH:=zW H;have HC:=zW CS;have HS:=zW E0;have HL:=zW (fun u (k:lH O w u)=>L.below (k.below H.bs fun j hj=>(H.blt j hj).1) hB);have HBB:=zW hB;have HEV:=zW HE;have HX:=zW (zM hx (zM hn (zM hks hne)));have OLT:=zW (fun j (h:O j)=>(H.blt j h).2);have HEO:=zW hEO;clear H CS E0 L hB HE hx hn hks hEO;obtain⟨sy,ay,hy⟩:∃sy ay,kyN l (s,a)=(sy,ay):=⟨_,_,rfl⟩;have HY:=zW hy;rw[hy];clear hy;obtain⟨sf,af,hf⟩:∃sf af,frN N nn sy ay=(sf,af):=⟨_,_,rfl⟩;have HF:=zW hf;simp only[hf];clear hf;refine(callsIn_wide (n:=6)).1 ?_;refine callsIn_of_wp_marks Tryz.func25 rfl trivial ?_ rfl;simp only[Tryz.ntmps25,jZ,List.length_cons,List.length_nil,Nat.reduceAdd,Nat.reduceSub,q8,Array.replicate_zero,jK,q9,List.nil_append,List.cons_append];refine wpIn_wide.2 ?_;go_upto_region 0 with fail;refine zB ?_;refine qH rfl fun K hK=>nS uL rfl (hK _ _ ?_);clear hK K;simp only[Act.put,zQ,zZ,zJ];have RV:=zW (Blk.new w 78 (mC vY));have KK:=zW (show lH O w (w.alloc (.cells (mC vY) 78))from lH.of_below (lY w _));have X:=zW (HH.out.step (lY w (.cells (mC vY) 78)));obtain⟨gb,hgb⟩:∃k,w.heap.size=k:=⟨_,rfl⟩;have AT:=zW (show w.heap.size≤gb by omega);rw[hgb]at RV⊢;clear hgb;generalize World.alloc _ _=w1 at RV KK X⊢;have r1:¬(nn:Int)<0:=zLG;have r2:¬(65535:Int)<(nn:Int):=zLG;go_wp2_with fail;go_loopw [20] (fun i wr=>∃k:Nat,k≤ne∧i=.int .i64 (k:Int)∧lH O w wr∧Mch base O mb n (kyN (l.take k) (s,a)).1 (kyN (l.take k) (s,a)).2 wr∧(kyN (l.take k) (s,a)).2.ks.length=a.ks.length+k∧(kyN (l.take k) (s,a)).1.ex=s.ex∧Blk gb 78 (mC vY) wr) (fun i _=>ne-(intOf i).toNat)
 case atStart=>exact⟨0,qO _,rfl,KK.out,X.out,rfl,rfl,RV.out⟩
 case round=>
  clear X KK RV HH
  obtain⟨k,hk,rfl,hK,hX,hkl,hex,hR⟩:=hrel
  have KK:=zW hK
  have X:=zW hX
  have FF:=zW (zM hkl hex)
  have RV:=zW hR
  clear hK hX hkl hex hR
  obtain⟨sk,ak,hsa⟩:∃sk ak,kyN (l.take k) (s,a)=(sk,ak):=⟨_,_,rfl⟩
  have SA:=zW hsa
  rw[hsa]at X FF
  clear hsa
  by_cases hlt:k<ne
  ·have il:k<l.length:=by rw[HEV.out.len];exact hlt
   obtain⟨eb,o,rfl,heb,c1,c2,eok⟩:=HEV.out.at_ k il
   obtain⟨e,he⟩:∃e,l[k]=e:=⟨_,rfl⟩
   rw[he]at c1 c2 eok
   have EK:=zW (show l[k]?=some e from by rw[←he];exact zP il)
   have ebO:¬O eb:=HEO.out _ rfl
   have c1:=(KK.out.cell (a:=⟨eb,o+k*2,none⟩) heb ebO).trans c1
   have c2:=(KK.out.cell (a:=⟨eb,o+k*2+1,none⟩) heb ebO).trans c2
   have ki:(k:Int)<(ne:Int):=zLG
   have k100:(k:Int)≤100:=zLG
   have JX:=zW hlt
   clear he il ebO
   have X5:=zW (lY wr (.cells #[.int .i64 e.k,.bool e.d] 44))
   have B5:=zW (Blk.new wr 44 #[.int .i64 e.k,.bool e.d])
   go_upto_region 6 with fail
   have X:=zW (X.out.step X5.out)
   have RV:=zW (RV.out.step X5.out)
   have KK:=zW (KK.out.trans (lH.of_below (O:=fun _=>False) X5.out) fun _ c=>c.elim)
   obtain⟨g5,hg5⟩:∃g,wr.heap.size=g:=⟨_,rfl⟩
   rw[hg5]at B5⊢
   clear hg5 X5 c1 c2
   generalize World.alloc _ _=w5 at X RV KK B5⊢
   have c1:w5.cell? ⟨g5,0,none⟩=some (.int .i64 e.k):=(B5.out.cell 0).trans rfl
   have c2:w5.cell? ⟨g5,1,none⟩=some (.bool e.d):=(B5.out.cell 1).trans rfl
   go_wp2_with fail
   refine(zQN X.out e (by rw[FF.out.1];have:=HX.out.2.2.1;have:=JX.out;omega)).mono ?_
   rintro x w6 ⟨rfl,X6,K6⟩
   have RV:=zW (show Blk gb 78 (mC vY) w6 from(K6.block gb RV.out.lt (X.out.off RV.out ⟨by decide,by decide,by decide,by decide,by decide,by decide,by decide⟩)).trans RV.out)
   have KK:=zW (KK.out.trans K6 nA.refl)
   have X:=zW X6
   clear X6 K6 c1 c2
   go_wp2
   go_roundw
   case rel=>exact⟨k+1,JX.out,by go_num,KK.out,by rw[JS l _ k e EK.out,SA.out];exact X.out,by rw[JS l _ k e EK.out,SA.out];simp only;rw[ky_ks,FF.out.1];omega,by rw[JS l _ k e EK.out,SA.out];simp only;rw[ky_ex,FF.out.2],RV.out⟩
   case measure=>have:=JX.out;simp[intOf];omega
  ·have ki:¬(k:Int)<(ne:Int):=zLG
   have EK:=(show(sk,ak)=(sy,ay)from by rw[←SA.out,←HY.out,qR (by rw[HEV.out.len];omega)])
   injection EK with e1 e2
   subst e1 e2
   go_wp2_with fail
   refine(LP mb (nn:Int) wr).mono ?_
   rintro x w8 ⟨rfl,hw8⟩
   have BM:=zW (show Blk wr.heap.size 29 #[.pointer (some ⟨mb,0,none⟩)] w8 from hw8▸(Blk.new wr 29 #[.pointer (some ⟨mb,0,none⟩)]).alloc _)
   have BI:=zW (show Blk (wr.heap.size+1) 3 #[.int .i64 (nn:Int)] w8 from by
    have h:=Blk.new (wr.alloc (.cells #[.pointer (some ⟨mb,0,none⟩)] 29)) 3 #[.int .i64 (nn:Int)];rw[zT,←hw8]at h;exact h)
   have b8:Below wr.heap.size wr w8:=by rw[hw8];exact((zG _ _).alloc (zH _) _).alloc zLP _
   have X:=zW (X.out.step b8)
   have RV:=zW (RV.out.step b8)
   have KK:=zW (KK.out.trans (lH.of_below (O:=fun _=>False) b8) fun _ c=>c.elim)
   clear hw8 b8
   generalize wr.heap.size=g8 at BM BI⊢
   go_wp2_with fail
   refine bO (gf:=63) (lb:=#[.pointer (some ⟨g8+1,0,none⟩),.pointer (some ⟨g8,0,none⟩)]) rfl (enters_of Tryz.func63 zLR rfl) rfl ?_ ?_ (FrR base O w w8 mb (n+nn) gb sf af) ?_ ?_
   ·intro l' W K hK
    gi_wp2
    exact hK
   ·intro l' W
    gi_wp2
    all_goals exact⟨rfl,rfl⟩
   ·intro l' o W1 hoc hl hW1 hY
    have b1:Below w8.heap.size w8 W1:=by rw[hW1];exact((zG _ _).alloc (zH _) _).alloc zLP _
    have sz1:W1.heap.size=w8.heap.size+2:=by rw[hW1];simp
    have hl1:W1.heap[l']?=some o:=by
     rw[hW1,hl];have h:=World.alloc_heap_new (w8.alloc (.deferred (some []))) o;rwa [zT]at h
    have hd1:W1.heap[w8.heap.size]?=some (.deferred (some [])):=by
     rw[hW1];exact(Below.heap_alloc _ _ _ zLP).trans (World.alloc_heap_new w8 _)
    have K1:=KK.out.trans (lH.of_below (O:=fun _=>False) b1) fun _ c=>c.elim
    have sw:=KK.out.size
    have nO:∀j,w8.heap.size≤j→¬O j:=fun j hj c=>by have:=OLT.out _ c;omega
    have X1:=X.out.step b1
    refine(DM N HS.out l' o hoc hY X1 (HL.out W1 K1) HBB.out nn (g8+1) g8 (BI.out.step b1) (BM.out.step b1) hl1 (nO _ zLG) (by rw[FF.out.2];exact HX.out.1) HX.out.2.1 hnn).mono ?_
    rintro e W' ⟨hv,hl2,O',X2,K2,G2⟩
    rw[HF.out]at X2
    refine⟨hv,hl2,⟨O',X2,fun j hj=>(G2 j hj).imp id fun h=>by omega,fun c=>(G2 _ c).elim (nO _ zLG) fun h=>by omega,fun c=>(G2 _ c).elim (nO _ zLG) fun h=>by omega⟩,K1.trans K2 nA.refl,?_,⟨o,by rw[←hl];exact hl2,hoc⟩,?_⟩
    ·exact(K2.block gb (RV.out.step b1).lt (X1.off (RV.out.step b1) ⟨by decide,by decide,by decide,by decide,by decide,by decide,by decide⟩)).trans (RV.out.step b1)
    ·exact(K2.block _ zLG (nO _ (zH _))).trans hd1
   ·intro W o hR
    obtain⟨⟨O',X2,G2,n1,n2⟩,k2,r2,⟨o',hl2,hoc2⟩,hd2⟩:=hR
    have gl:=RV.out.lt
    have sw:=KK.out.size
    have X:=zW (X2.keep (eK (l:=w8.heap.size+1) (o:=o)) (fun j hj e=>n1 (e▸hj)) (fun j e cs fr c=>by rw[e,hl2]at c;injection c with c;rw[c]at hoc2;cases hoc2))
    have RV:=zW (show Blk gb 78 (mC vY) (W.putObj (w8.heap.size+1) o)from(jX zLG).trans r2)
    have KK:=zW (k2.trans (eK (l:=w8.heap.size+1) (o:=o)) fun j e=> .inr zLG)
    have HD:=zW (show(W.putObj (w8.heap.size+1) o).heap[w8.heap.size]?=some (.deferred (some []))from(jX zLG).trans hd2)
    have GG:=zW (zM G2 n2)
    have DW:=zW (show w.heap.size≤w8.heap.size∧gb<w8.heap.size from⟨sw,gl⟩)
    clear X2 G2 n1 n2 k2 r2 hl2 hoc2 hd2 gl sw BM BI
    generalize w8.heap.size=D at*
    generalize W.putObj _ _=w9 at*
    go_wp2_with fail
    refine(eQ N HC.out X.out (HL.out _ KK.out)).mono ?_
    rintro e wa ⟨rfl,ba⟩
    have X:=zW (X.out.step ba)
    have RV:=zW (RV.out.step ba)
    have HD:=zW ((ba.block D (qK.1 HD.out).1).trans HD.out)
    have KK:=zW (KK.out.trans (lH.of_below (O:=fun _=>False) ba) fun _ c=>c.elim)
    clear ba
    obtain⟨C,hC⟩:∃C,mC (cV sf af)=C:=⟨_,rfl⟩
    have CE:=zW (show C.size=535∧n8 C∧mC (cV sf af)=C from by rw[←hC];exact⟨mH _,yT _,rfl⟩)
    rw[hC]
    clear hC
    simp only[]
    go_at_K
    iterate 1 go_step
    refine mT (ds:=C) xQ uL (mH _) CE.out.1 CE.out.2.1 rfl rfl rfl (.tmp 10) (.tmp 32) rfl zLB zLB ?_
    simp only[Act.put,zQ,zZ,zJ]
    have R10:=zW (Blk.new wa 78 C)
    have ba:=lY wa (.cells C 78)
    have X:=zW (X.out.step ba)
    have RV:=zW (RV.out.step ba)
    have HD:=zW ((ba.block D (qK.1 HD.out).1).trans HD.out)
    have KK:=zW (KK.out.trans (lH.of_below (O:=fun _=>False) ba) fun _ c=>c.elim)
    clear ba
    obtain⟨g10,hg⟩:∃q,wa.heap.size=q:=⟨_,rfl⟩
    rw[hg]at R10⊢
    clear hg
    generalize World.alloc _ _=wb at X RV HD KK R10⊢
    go_wp2_with fail
    refine(PX X.out).mono ?_
    rintro e wc ⟨rfl,Xc,Kc⟩
    have RV:=zW (show Blk gb 78 (mC vY) wc from(Kc.block gb RV.out.lt (X.out.off RV.out ⟨by decide,by decide,by decide,by decide,by decide,by decide,by decide⟩)).trans RV.out)
    have R10:=zW (show Blk g10 78 C wc from(Kc.block g10 R10.out.lt (X.out.off R10.out ⟨by decide,by decide,by decide,by decide,by decide,by decide,by decide⟩)).trans R10.out)
    have HD:=zW ((Kc.block D (qK.1 HD.out).1 GG.out.2).trans HD.out)
    have KK:=zW (KK.out.trans Kc GG.out.1)
    have X:=zW Xc
    clear Xc Kc
    go_upto_region 11 with fail
    refine zB ?_
    refine lJ xQ R10.out CE.out.1 rfl (.tmp 10) rfl rfl ?_
    simp only[Act.put,zQ,zZ,zJ]
    refine kO (ds:=C) xQ RV.out (mH _) CE.out.1 CE.out.2.1 rfl (.tmp 6) (.tmp 35) rfl rfl rfl ?_
    simp only[Act.put,zQ,zZ,zJ]
    have RW:=zW (RV.out.store C)
    have XW:=zW (X.out.keep (wG (b:=gb) (cs:=C)) (fun j hj e=>X.out.off RV.out ⟨by decide,by decide,by decide,by decide,by decide,by decide,by decide⟩ (e▸hj)) (fun j e=>e▸J9 RV.out zLD))
    have KW:=zW (KK.out.trans (wG (b:=gb) (cs:=C) (w:=wc)) fun j e=> .inr (e▸AT.out))
    have HD:=zW (show(wc.setRow gb C).heap[D]?=some (.deferred (some []))from(zU _ _ _ _ (by have:=DW.out.2;omega)).trans HD.out)
    generalize World.setRow _ _ _=wd at RW XW KW HD⊢
    go_wp2_with fail
    iterate 6 (try go_step)
    refine⟨by simp,.inl ⟨_,_,rfl,run_takeDeferred HD.out,?_⟩⟩
    refine⟨_,mO rfl _ _ gb _ _ _ (.int .i64 0) rfl rfl ((jX (by have:=DW.out.2;omega)).trans RW.out) xQ CE.out.1,by rw[CE.out.2.2],O',?_,KW.out.trans (eK (l:=D)) fun j e=> .inr (by have:=DW.out.1;omega),GG.out.1⟩
    exact XW.out.keep (eK (l:=D)) (fun j hj e=>GG.out.2 (e▸hj)) (fun j e cs fr c=>by rw[e,HD.out]at c;cases c)
end
section
open Go.RowKit Num Dec Cpu
def R21:List Int:=[97,2,241,24,241,21,18,6]
theorem YJ:Bts R21:=by
 unfold R21;exact uF zLD (uF zLD (uF zLD (uF zLD (uF zLD (uF zLD (uF zLD (uF zLD BJ)))))))
def dH:AS:=yC R21 []
def fN:AS:={dH with v:=Cpu.upd (fun _=>0) 1 2,pc:=514}
def fM:AS:={fN with sd:=2,pc:=516}
def fL:AS:={fM with dl:=2,pc:=518}
def e21:Ev:=⟨3,true⟩
def tM:AS:={t6 fL with ks:=[e21]}
def s21(k:Int):m5:=⟨tA,0,0,0,0,0,k⟩
theorem dec21a(b2 b3:Nat):dec 97 2 b2 b3 1=⟨8,1,0,0,2,0,2⟩:=rfl
theorem dec21b(b2 b3:Nat):dec 241 24 b2 b3 1=⟨29,1,0,0,0,0,2⟩:=rfl
theorem dec21c(b2 b3:Nat):dec 241 21 b2 b3 1=⟨28,1,0,0,0,0,2⟩:=rfl
theorem dec21d(b2 b3:Nat):dec 18 6 b2 b3 1=⟨3,0,0,0,0,518,2⟩:=rfl
theorem zQ5:yO (s21 0) dH=⟨8,1,0,0,2,0,2⟩:=f8 R21 zLD YJ 0 97 2 rfl rfl 1 _ dec21a
theorem zY8:okM (s21 0) dH=true:=rfl
theorem zLX:efM (s21 0) dH=⟨0,false,false,false⟩:=by
 unfold efM;rw[zN zY8,zQ5];show efA dH 8 1 0 0 tA=_;unfold efA;rw[show caA dH 8 1 0 0 tA=0 from rfl];rfl
theorem nm21a:nmM (s21 0) dH=s21 1:=by
 unfold nmM;rw[zN (show(s21 0).k=0 from rfl),zLX];rfl
theorem st21a(N:Nat):vD N (s21 0) dH=fN:=by
 unfold vD asM;rw[zN (show(s21 0).k=0 from rfl),zN zY8,zQ5];show stA N dH 8 1 0 0 2 0 2 tA=_;unfold stA;rw[show caA dH 8 1 0 0 tA=0 from rfl];rfl
theorem dr21a:uD (s21 0) dH=false:=by unfold uD;rw[zLX];rfl
theorem zQ4:yO (s21 1) fN=⟨29,1,0,0,0,0,2⟩:=f8 R21 zLD YJ 2 241 24 rfl rfl 1 _ dec21b
theorem zY7:okM (s21 1) fN=true:=rfl
theorem zLJ:efM (s21 1) fN=⟨0,false,false,false⟩:=by
 unfold efM;rw[zN zY7,zQ4];show efA fN 29 1 0 0 tA=_;unfold efA;rw[show caA fN 29 1 0 0 tA=0 from rfl];rfl
theorem nm21b:nmM (s21 1) fN=s21 2:=by
 unfold nmM;rw[zN (show(s21 1).k=0 from rfl),zLJ];rfl
theorem st21b(N:Nat):vD N (s21 1) fN=fM:=by
 unfold vD asM;rw[zN (show(s21 1).k=0 from rfl),zN zY7,zQ4];show stA N fN 29 1 0 0 0 0 2 tA=_;unfold stA;rw[show caA fN 29 1 0 0 tA=0 from rfl];rfl
theorem dr21b:uD (s21 1) fN=false:=by unfold uD;rw[zLJ];rfl
theorem zQ3:yO (s21 2) fM=⟨28,1,0,0,0,0,2⟩:=f8 R21 zLD YJ 4 241 21 rfl rfl 1 _ dec21c
theorem zY6:okM (s21 2) fM=true:=rfl
theorem zLZ:efM (s21 2) fM=⟨0,false,false,false⟩:=by
 unfold efM;rw[zN zY6,zQ3];show efA fM 28 1 0 0 tA=_;unfold efA;rw[show caA fM 28 1 0 0 tA=0 from rfl];rfl
theorem nm21c:nmM (s21 2) fM=s21 3:=by
 unfold nmM;rw[zN (show(s21 2).k=0 from rfl),zLZ];rfl
theorem st21c(N:Nat):vD N (s21 2) fM=fL:=by
 unfold vD asM;rw[zN (show(s21 2).k=0 from rfl),zN zY6,zQ3];show stA N fM 28 1 0 0 0 0 2 tA=_;unfold stA;rw[show caA fM 28 1 0 0 tA=0 from rfl];rfl
theorem dr21c:uD (s21 2) fM=false:=by unfold uD;rw[zLZ];rfl
theorem zQ2:yO (s21 3) tM=⟨3,0,0,0,0,518,2⟩:=f8 R21 zLD YJ 6 18 6 rfl rfl 1 _ dec21d
theorem zY5:okM (s21 3) tM=true:=rfl
theorem zLQ:efM (s21 3) tM=⟨0,false,false,false⟩:=by
 unfold efM;rw[zN zY5,zQ2];show efA tM 3 0 0 0 tA=_;unfold efA;rw[show caA tM 3 0 0 0 tA=0 from rfl];rfl
theorem nm21d:nmM (s21 3) tM=s21 4:=by
 unfold nmM;rw[zN (show(s21 3).k=0 from rfl),zLQ];rfl
theorem st21d(N:Nat):vD N (s21 3) tM=tM:=by
 unfold vD asM;rw[zN (show(s21 3).k=0 from rfl),zN zY5,zQ2];show stA N tM 3 0 0 0 0 518 2 tA=_;unfold stA;rw[show caA tM 3 0 0 0 tA=0 from rfl];rfl
theorem dr21d:uD (s21 3) tM=false:=by unfold uD;rw[zLQ];rfl
theorem fr21a(N:Nat):frN N 3 (s21 0) dH=(s21 3,fL):=by
 unfold frN;rw[zL zLD,zL (by rw[dr21a];decide),nm21a,st21a];unfold frN;rw[zL zLD,zL (by rw[dr21b];decide),nm21b,st21b];unfold frN;rw[zL zLD,zL (by rw[dr21c];decide),nm21c,st21c];rfl
theorem fr21d(N:Nat):frN N 1 (s21 3) tM=(s21 4,tM):=by
 unfold frN;rw[zL zLD,zL (by rw[dr21d];decide),nm21d,st21d];rfl
theorem ky21:kyN [e21] (s21 3,t6 fL)=(s21 3,tM):=by
 have h:rlM (s21 3) (t6 fL) e21=false:=zLD;show(gL (s21 3) (t6 fL) e21,tU (s21 3) (t6 fL) e21)=_;unfold gL tU;rw[h];rfl
theorem WG(N:Nat)(CS:xE N){base:Nat}{O:Nat→Prop}{mb n:Nat}{s:m5}{a:AS}{w:World}(H:Mch base O mb n s a w)(L:xW w)(h0:a.dl=0∧a.sd=0)(nn:Nat)(hn:nn≤1000):
  Calls Tryz.prog 42 #[.pointer (some ⟨mb,0,none⟩),.int .i64 (nn:Int)] w fun e w'=>e=.returned (.int .i64 0)∧Below w.heap.size w w':=by
 have X:=zW H;have SP:=zW (wH N CS H L);have Z:=zW h0;have LF:=zW (fun u=>zQC 0 0 u zLD zLD zLD zLD);have hm:min (nn:Int) 0=0:=zLG;clear H CS L h0;go_enter Tryz.func42,Tryz.ntmps42;go_wp2_with fail;refine SP.out.mono ?_;rintro e w2 ⟨bs,ms,gs,vs,rfl,rc,b2⟩;have S:=zW rc;have BB:=zW b2;clear rc b2;go_upto_region 5 with fail;refine zB ?_;iterate 12 go_step
 refine vM (o:=566) eS S.out.st zLC rfl (.tmp 16) rfl rfl ?_;rw[fD,Z.out.1,Z.out.2];simp only[Act.put,zQ,zZ,zJ];go_wp2_with fail;refine(LF.out _).mono ?_;rintro e w3 ⟨rfl,b3⟩;have BB:=zW (BB.out.trans (b3.mono BB.out.size));clear b3;go_wp2_with fail;go_loopw [6,20] (fun j i wr=>j=.int .i64 0∧i=.int .i64 0∧wr=w3) (fun _ _ _=>0)
 case atStart=>exact⟨rfl,rfl,rfl⟩
 case round=>
  obtain⟨rfl,rfl,rfl⟩:=hrel
  go_wp2
  go_returns
  exact⟨rfl,BB.out⟩
theorem MP.lower{base base2 mb b m g p mp h k:Nat}{pg:Nat→Option Nat}{v:Value}{en:Bool}{l:m7}{s:m5}{a:AS}{w:World}(H:MP base mb b m g p mp pg v en l h k s a w)(hb:base2≤base):MP base2 mb b m g p mp pg v en l h k s a w:=
 ⟨H.bk,H.rc.down hb,H.co,H.fl,H.ok,zR hb H.low.1,zR hb H.low.2.1,fun j hj=>zR hb (H.low.2.2 j hj)⟩
theorem Mch.lower{base base2:Nat}{O:Nat→Prop}{mb n:Nat}{s:m5}{a:AS}{w:World}(H:Mch base O mb n s a w)(hb:base2≤base):Mch base2 O mb n s a w:=by
 obtain⟨b,m,g,p,mp,pg,v,en,l,h,k,H,r⟩:=H;exact⟨b,m,g,p,mp,pg,v,en,l,h,k,H.lower hb,r⟩
theorem pQ(N:Nat)(CS:xE N){A B:Option Addr}{n c k d:Nat}{R L:List Int}{q:Pr}{w:World}(LW:xW w)(hA:Rd w A R)(hn:R.length=n)(n1:n≤65024)(hB:Rd w B L)(hk:L.length=k)(k1:k≤100000)(hR:Bts R)(hL:Bts L)(hq:1≤q.lv∧q.lv≤3):
  Calls Tryz.prog 23 #[.slice A n c,.slice B k d,.agg (prc q)] w fun e w'=>∃mb O,e=.returned (.pointer (some ⟨mb,0,none⟩))∧Mch w.heap.size O mb 0 (fW q) (yC R L) w'∧Below w.heap.size w w':=by
 have CC:=zW CS;have NW:=zW (fun u (bu:Below w.heap.size w u)=>newE N CS (A:=A) (B:=B) (FA:=none) (n:=n) (c:=c) (k:=k) (d:=d) (fn:=0) (fc:=0) (F:=[]) (q:=q) (en:=true) (w:=u) (LW.step bu) (hA.below bu) hn n1 (hB.below bu) hk k1 hR hL (Fls.nil _ _) rfl hq);have LL:=zW LW;clear CS LW hA hn n1 hB hk k1 hR hL hq;obtain⟨P,hP⟩:∃P,prc q=P:=⟨_,rfl⟩;have sP:P.size=8:=by rw[←hP];rfl
 rw[hP];have EP:=zW hP;clear hP;go_enter Tryz.func23,Tryz.ntmps23;go_upto_region 0 with fail;refine zB ?_;refine lI rfl _ (.tmp 2) rfl P rfl ?_;simp only[Act.put,zQ,zZ,zJ];have K1:=zW (Blk.new w 24 P);have BB:=zW (lY w (.cells P 24));obtain⟨g0,hg0⟩:∃g,w.heap.size=g:=⟨_,rfl⟩;rw[hg0]at K1⊢;clear hg0;generalize World.alloc w _=w1 at K1 BB⊢;go_upto_region 1 with fail;refine zB ?_;iterate 6 go_step
 refine lJ QV K1.out sP rfl (.tmp 5) rfl rfl ?_;simp only[Act.put,zQ,zZ,zJ];rw[←EP.out];refine mJ (cs:=cfC (.slice A n c) (.slice B k d) (.slice none 0 0) q true) rfl rfl (by simp[Act.eval];exact CZ _ _ q true ⟨A,n,c,rfl⟩ ⟨B,k,d,rfl⟩) ?_;simp only[Act.put,zQ,zZ,zJ];rw[EP.out];go_wp2_with fail;refine(NW.out _ BB.out).mono ?_;rintro e w2 ⟨mb,O,rfl,X,b2⟩;have SZ:=zW BB.out.size;have X:=zW X.mch;have BB:=zW (BB.out.trans (b2.mono BB.out.size));clear b2 NW;go_wp2_with fail;refine(wH N CC.out X.out (LL.out.step BB.out)).mono ?_;rintro e w3 ⟨bs,ms,gs,vs,rfl,rc,b3⟩;have X:=zW (X.out.step b3);have BB:=zW (BB.out.trans (b3.mono BB.out.size));have s35:w3.cell? ⟨bs,35,none⟩=some (.pointer (some ⟨ms,0,none⟩)):=(rc.st.cell 35).trans (mK _ ms gs zLG);have s601:w3.cell? ⟨bs,601,none⟩=some (.pointer (some ⟨gs,0,none⟩)):=(rc.st.cell 601).trans (mK _ ms gs zLG);have s17:w3.cell? ⟨bs,17,none⟩=some (.int .i64 512):=(rc.st.cell 17).trans ((mK _ ms gs (j:=17) zLG).trans rfl);clear rc b3;go_wp2;go_returns;exact⟨mb,O,rfl,X.out.lower SZ.out,BB.out⟩
theorem GE(w:World):Evs w none 0 []:=⟨rfl,qO _,fun i hi=>absurd hi (Nat.not_lt_zero i)⟩
theorem zWF{g:Nat}{w:World}(H:Blk g 44 #[.int .i64 3,.bool true] w):Evs w (some ⟨g,0,none⟩) 1 [e21]:=⟨rfl,by unfold maxLen;decide,fun i hi=>by
 obtain rfl:i=0:=by simpa using hi
 exact⟨g,0,rfl,H.lt,(H.cell 0).trans rfl,(H.cell 1).trans rfl,⟨by show(-9223372036854775808:Int)≤3;decide,by show(3:Int)≤9223372036854775807;decide⟩⟩⟩
def sN:AS:=t6 tM
theorem zYQ(N:Nat)(CS:xE N)(E0:gS N)(w:World)(hL:xW w):Calls Tryz.prog 21 #[] w fun e w'=>e=.returned (.bool true)∧Below w.heap.size w w':=by
 have CC:=zW CS;have EE:=zW E0;have LL:=zW hL;clear CS E0 hL;go_enter Tryz.func21,Tryz.ntmps21;go_wp2_with fail;obtain⟨w1,hw1⟩:∃w1,w.alloc (.cells #[.int .u8 97,.int .u8 2,.int .u8 241,.int .u8 24,.int .u8 241,.int .u8 21,.int .u8 18,.int .u8 6] 5)=w1:=⟨_,rfl⟩;have R1:=zW (show Rd w1 (some ⟨w.heap.size,0,none⟩) R21 from hw1▸JH (Blk.new w 5 #[.int .u8 97,.int .u8 2,.int .u8 241,.int .u8 24,.int .u8 241,.int .u8 21,.int .u8 18,.int .u8 6]) 0 R21 fun j hj=>by rcases j with _|_|_|_|_|_|_|_|j;rfl;rfl;rfl;rfl;rfl;rfl;rfl;rfl;exact absurd hj (by unfold R21;simp));have BB:=zW (show Below w.heap.size w w1 from hw1▸lY w _);rw[hw1];clear hw1;refine(pQ N CC.out (q:=tA) (LL.out.step BB.out) R1.out rfl zLD Rd.nil rfl zLD YJ BJ zLD).mono ?_;rintro e w2 ⟨mb,O,rfl,X,b2⟩;have LB:=zW BB.out.size;have BB:=zW (BB.out.trans (b2.mono BB.out.size));have X:=zW (show Mch w1.heap.size O mb 0 (s21 0) dH w2 from X);have B1:=zW (zS LL.out.lt LB.out);clear b2 R1;generalize w1.heap.size=ba1 at X LB B1;go_wp2_with fail;refine(o9 X.out none 0 0 (-1) (.inl zLD)).mono ?_;rintro e w3 ⟨rfl,b3⟩;have X:=zW (X.out.step b3);have BB:=zW (BB.out.trans (b3.mono BB.out.size));clear b3;simp only[];go_at_K
 iterate 10 go_step
 refine mT (ds:=mC vY) xQ uL (mH _) (mH _) (yT _) rfl rfl rfl (.tmp 2) (.tmp 19) rfl zLB zLB ?_;simp only[Act.put,zQ,zZ,zJ];have V2:=zW (Blk.new w3 78 (mC vY));have ba:=lY w3 (.cells (mC vY) 78);have X:=zW (X.out.step ba);have BB:=zW (BB.out.trans (ba.mono BB.out.size));clear ba;obtain⟨g2,hg⟩:∃q,w3.heap.size=q:=⟨_,rfl⟩;rw[hg]at V2⊢;clear hg;generalize World.alloc _ _=w4 at X BB V2⊢;go_wp2_with fail;refine(show Calls Tryz.prog 25 #[.pointer (some ⟨mb,0,none⟩),.slice none 0 0,.int .i64 3] w4 _ from sK N CC.out EE.out X.out (LL.out.step BB.out) B1.out none 0 0 [] (GE w4) (fun ad e=>by cases e) zLD 3 zLD zLD zLD zLD).mono ?_;rw[show kyN [] (s21 0,dH)=(s21 0,dH)from rfl];simp only[fr21a];rintro e w5 ⟨rfl,O5,X5,K5,G5⟩;have V2:=zW (show Blk g2 78 (mC vY) w5 from(K5.block g2 V2.out.lt (X.out.off V2.out ⟨by decide,by decide,by decide,by decide,by decide,by decide,by decide⟩)).trans V2.out);have BB:=zW (BB.out.trans (X.out.below LB.out K5));have X:=zW X5;clear X5 K5 G5;simp only[];go_at_K
 iterate 10 go_step
 refine mT (ds:=mC (cV (s21 3) fL)) xQ uL (mH _) (mH _) (yT _) rfl rfl rfl (.tmp 4) (.tmp 24) rfl zLB zLB ?_;simp only[Act.put,zQ,zZ,zJ];have V4:=zW (Blk.new w5 78 (mC (cV (s21 3) fL)));have ba:=lY w5 (.cells (mC (cV (s21 3) fL)) 78);have X:=zW (X.out.step ba);have V2:=zW (V2.out.step ba);have BB:=zW (BB.out.trans (ba.mono BB.out.size));clear ba;obtain⟨g4,hg⟩:∃q,w5.heap.size=q:=⟨_,rfl⟩;rw[hg]at V4⊢;clear hg;generalize World.alloc _ _=w6 at X BB V4 V2⊢;go_wp2_with fail;obtain⟨w7,hw7⟩:∃w7,w6.alloc (.cells #[.int .i64 3,.bool true] 44)=w7:=⟨_,rfl⟩;have EV:=zW (show Blk w6.heap.size 44 #[.int .i64 3,.bool true] w7 from hw7▸Blk.new w6 _ _);have b7:Below w6.heap.size w6 w7:=hw7▸lY w6 _;have X:=zW (X.out.step b7);have V2:=zW (V2.out.step b7);have V4:=zW (V4.out.step b7);have BB:=zW (BB.out.trans (b7.mono BB.out.size));rw[hw7];clear hw7 b7;refine(show Calls Tryz.prog 25 #[.pointer (some ⟨mb,0,none⟩),.slice (some ⟨w6.heap.size,0,none⟩) 1 1,.int .i64 1] w7 _ from sK N CC.out EE.out X.out (LL.out.step BB.out) B1.out (some ⟨w6.heap.size,0,none⟩) 1 1 [e21] (zWF EV.out) (fun ad e=>by cases e;exact X.out.off EV.out ⟨by decide,by decide,by decide,by decide,by decide,by decide,by decide⟩) zLD 1 zLD zLD zLD zLD).mono ?_;rw[ky21];simp only[fr21d];rintro e w8 ⟨rfl,O8,X8,K8,G8⟩;have V2:=zW (show Blk g2 78 (mC vY) w8 from(K8.block g2 V2.out.lt (X.out.off V2.out ⟨by decide,by decide,by decide,by decide,by decide,by decide,by decide⟩)).trans V2.out);have V4:=zW (show Blk g4 78 (mC (cV (s21 3) fL)) w8 from(K8.block g4 V4.out.lt (X.out.off V4.out ⟨by decide,by decide,by decide,by decide,by decide,by decide,by decide⟩)).trans V4.out);have BB:=zW (BB.out.trans (X.out.below LB.out K8));have X:=zW (show Mch ba1 O8 mb _ (s21 4) sN w8 from X8);clear X8 K8 G8 EV;simp only[];go_at_K
 iterate 10 go_step
 refine mT (ds:=mC (cV (s21 4) tM)) xQ uL (mH _) (mH _) (yT _) rfl rfl rfl (.tmp 6) (.tmp 31) rfl zLB zLB ?_;simp only[Act.put,zQ,zZ,zJ];have V6:=zW (Blk.new w8 78 (mC (cV (s21 4) tM)));have ba:=lY w8 (.cells (mC (cV (s21 4) tM)) 78);have X:=zW (X.out.step ba);have V2:=zW (V2.out.step ba);have V4:=zW (V4.out.step ba);have BB:=zW (BB.out.trans (ba.mono BB.out.size));clear ba;obtain⟨g6,hg⟩:∃q,w8.heap.size=q:=⟨_,rfl⟩;rw[hg]at V6⊢;clear hg;generalize World.alloc _ _=w9 at X BB V6 V2 V4⊢;go_wp2_with fail;refine(show Calls Tryz.prog 25 #[.pointer (some ⟨mb,0,none⟩),.slice none 0 0,.int .i64 0] w9 _ from sK N CC.out EE.out X.out (LL.out.step BB.out) B1.out none 0 0 [] (GE w9) (fun ad e=>by cases e) zLD 0 zLD zLD zLD zLD).mono ?_;rw[show kyN [] (s21 4,sN)=(s21 4,sN)from rfl];simp only[show∀N,frN N 0 (s21 4) sN=(s21 4,sN)from fun _=>rfl];rintro e wa ⟨rfl,Oa,Xa,Ka,Ga⟩;have V2:=zW (show Blk g2 78 (mC vY) wa from(Ka.block g2 V2.out.lt (X.out.off V2.out ⟨by decide,by decide,by decide,by decide,by decide,by decide,by decide⟩)).trans V2.out);have V4:=zW (show Blk g4 78 (mC (cV (s21 3) fL)) wa from(Ka.block g4 V4.out.lt (X.out.off V4.out ⟨by decide,by decide,by decide,by decide,by decide,by decide,by decide⟩)).trans V4.out);have V6:=zW (show Blk g6 78 (mC (cV (s21 4) tM)) wa from(Ka.block g6 V6.out.lt (X.out.off V6.out ⟨by decide,by decide,by decide,by decide,by decide,by decide,by decide⟩)).trans V6.out);have BB:=zW (BB.out.trans (X.out.below LB.out Ka));have X:=zW (show Mch ba1 Oa mb _ (s21 4) sN wa from Xa);clear Xa Ka Ga;simp only[];go_at_K
 iterate 10 go_step
 refine mT (ds:=mC (cV (s21 4) sN)) xQ uL (mH _) (mH _) (yT _) rfl rfl rfl (.tmp 8) (.tmp 36) rfl zLB zLB ?_;simp only[Act.put,zQ,zZ,zJ];have V8:=zW (Blk.new wa 78 (mC (cV (s21 4) sN)));have ba:=lY wa (.cells (mC (cV (s21 4) sN)) 78);have X:=zW (X.out.step ba);have V2:=zW (V2.out.step ba);have V4:=zW (V4.out.step ba);have V6:=zW (V6.out.step ba);have BB:=zW (BB.out.trans (ba.mono BB.out.size));clear ba;obtain⟨g8,hg⟩:∃q,wa.heap.size=q:=⟨_,rfl⟩;rw[hg]at V8⊢;clear hg;generalize World.alloc _ _=wb at X BB V8 V2 V4 V6⊢;go_wp2_with fail;refine(wH N CC.out X.out (LL.out.step BB.out)).mono ?_;rintro e wc ⟨bs,ms,gs,vs,rfl,rc,bc⟩;have S:=zW rc;have X:=zW (X.out.step bc);have V4:=zW (V4.out.step bc);have V6:=zW (V6.out.step bc);have V8:=zW (V8.out.step bc);have BB:=zW (BB.out.trans (bc.mono BB.out.size));clear rc bc V2;go_upto_region 11 with fail;have CV:=zW (lL V8.out);have CT:=zW (lL S.out.st);have k1:=lB.cell (show wc.cell? ⟨g4,513,none⟩=some (.bool true)from(V4.out.cell 513).trans ((wL _ zLG).trans rfl)) V4.out.lt;have k2:=lB.cell (show wc.cell? ⟨g6,513,none⟩=some (.bool true)from(V6.out.cell 513).trans ((wL _ zLG).trans rfl)) V6.out.lt;have k3:=lB.cell (show wc.cell? ⟨g8,513,none⟩=some (.bool false)from(V8.out.cell 513).trans ((wL _ zLG).trans rfl)) V8.out.lt;have k4:=lB.cell (show wc.cell? ⟨g4,530,none⟩=some (.int .u8 64)from(V4.out.cell 530).trans ((wL _ zLG).trans rfl)) V4.out.lt;have k5:=lB.cell (show wc.cell? ⟨bs,553,none⟩=some (.bool true)from(S.out.st.cell 553).trans ((fO (fS sN ms gs) (j:=3) zLG).trans ((rY _ _ zLG).trans (by congr 1)))) S.out.st.lt;have k6:=lB.cell (show wc.cell? ⟨bs,17,none⟩=some (.int .i64 518)from(S.out.st.cell 17).trans ((mK _ ms gs (j:=17) zLG).trans rfl)) S.out.st.lt;have MO:=zW (fun x:lB wc=>eQ N CC.out (X.out.step x.below) ((LL.out.step BB.out).step x.below));have MI:=zW (fun x:lB wc=>show Calls Tryz.prog 42 #[.pointer (some ⟨mb,0,none⟩),.int .i64 5] x.w _ from WG N CC.out (X.out.step x.below) ((LL.out.step BB.out).step x.below) ⟨rfl,rfl⟩ 5 zLD);refine mF zLR zLR ?_;simp only[List.append_eq,List.cons_append,List.nil_append];iterate 50 (go_big_quiet_step ((first|(go_at_call 24;exact mG (MO.out _))|(go_at_call 42;exact mG (MI.out _)))))
 refine mZ xQ CV.out (mH _) rfl (.tmp 8) rfl zLE ?_;simp only[Act.put,zQ,zZ,zJ];refine hE (cV (s21 4) sN) rfl (.tmp 91) (.tmp 92) _ rfl zLE zLE ?_;simp only[Act.put,zQ,zZ,zJ];iterate 10 (go_big_quiet_step ((first|(go_at_call 24;exact mG (MO.out _))|(go_at_call 42;exact mG (MI.out _)))))
 refine lW (o:=566) eS CT.out zLC rfl (.tmp 103) rfl zLE ?_;rw[fD,show sN.dl=0 from rfl,show sN.sd=0 from rfl];simp only[Act.put,zQ,zZ,zJ];iterate 4 (go_big_quiet_step ((first|(go_at_call 24;exact mG (MO.out _))|(go_at_call 42;exact mG (MI.out _)))))
 refine zY ?_;intro _ hw';obtain⟨x,rfl⟩:=hw';go_wp2;go_returns;exact⟨rfl,BB.out.trans (x.below.mono BB.out.size)⟩
theorem WO:Tryz.prog.eqGuardType Tryz.prog.depth 59=false:=by kernel_rfl
section
variable {ops:Array Oper} {C:World→Prop} {Q:Act→Prop} {o:Oper} {rest:List Oper} {ac:Act}
end
theorem zK4{K J:Nat→Bool}(h:∀j,j<16→K j=J j):kc K=kc J:=by
 apply qZ
 intro i
 by_cases hi:i<16
 ·rw[rY _ _ hi,rY _ _ hi,h i hi]
 ·rw[zD (by rw[nF];omega),zD (by rw[nF];omega)]
theorem F3(A B:Option Addr)(n c k d:Nat)(hn:n≤maxLen)(hk:k≤maxLen)(w:World):
  Calls Tryz.prog 22 #[.slice A n c,.slice B k d,.slice none 0 0] w fun e w'=>e=.returned (.bool (zWT n k))∧w=w':=by
 have n1:(n:Int)≤9223372036854775807:=by unfold maxLen at hn;omega
 have k1:(k:Int)≤9223372036854775807:=by unfold maxLen at hk;omega
 unfold zWT;clear hn hk;rcases(show n≤2000∨¬n≤2000 by omega)with hn|hn
 ·rw[qJ hn];have hnI:(n:Int)≤2000:=zLG;rcases(show k≤100∨¬k≤100 by omega)with hk|hk
  ·rw[qJ hk];have hkI:(k:Int)≤100:=zLG;exact zM2
  ·rw[zO hk];have hkI:¬(k:Int)≤100:=zLG;exact zM2
 ·rw[zO hn];have hnI:¬(n:Int)≤2000:=zLG;exact zM2
theorem A7:Tryz.prog.built 59 []=some (kc up):=by kernel_rfl
theorem zZB(K:Nat→Bool)(w:World):(binOp .eql 59 (.agg (kc K)) (.agg (kc K))).run Tryz.prog w=.ok (.bool true) w:=by
 have h:=EC K 9998 w;have e:(10000:Nat)=9998+2:=zLD;rw[run_eql_struct,e,h];simp only[Result.andThen_ok]
theorem WA{o:Oper}{ρ:Operand→Value}{w:World}(x y:Operand)(z:TypeId)(ho:o.op=.binOp .eql 59 x y z)(K:Nat→Bool)(hx:ρ x=.agg (kc K))(hy:ρ y=.agg (kc K)):(execOp ρ o).run Tryz.prog w=.ok (.value (.bool true)) w:=by
 unfold execOp;simp only[ho,hx,hy];rw[zC,zC,run_eqGuard_agg w .eql 59 x y (kc K) (kc K) WO,Result.andThen_ok,zZB,Result.andThen_ok,Sem.run_pure]
section
variable {ops:Array Oper} {C:World→Prop} {Q:Act→Prop} {o:Oper} {rest:List Oper} {ac:Act}
theorem MU{K:Nat→Bool}(hw:Region.wanted o (yielded ops ac.tmps)=true)(x y:Operand)(z:TypeId)(ho:o.op=.binOp .eql 59 x y z)(hx:ac.eval x=.agg (kc K))(hy:ac.eval y=.agg (kc K))
  (h:wpQuiet Tryz.prog ops C Q rest (ac.put o.dst (.bool true))):wpQuiet Tryz.prog ops C Q (o::rest) ac:=
 u7 hw (.bool true) (fun w' _=>WA x y z ho K hx hy) h
end
theorem ex_run{s:m5}(a:AS)(h:s.k=0):(nmM s a).ex=s.ex+1:=by
 unfold nmM nmE;rw[zN h];split
 ·rfl
 ·split
  ·rfl
  ·split<;>rfl
theorem zX8(N:Nat)(CS:xE N)(E0:gS N)(A:Option Addr)(n c:Nat)(R:List Int)(B:Option Addr)(k d:Nat)(L:List Int)(q:Pr)(EA:Option Addr)(ne ce:Nat)(l:List Ev)(nn:Int)(w:World)(HA:KU w A n c R)(HB:KU w B k d L)(HE:IV w EA ne ce l)(hL:xW w):
  Calls Tryz.prog 5 #[.slice A n c,.slice B k d,.agg (prc q),.slice EA ne ce,.int .i64 nn] w fun e w'=>e=.returned (.bool true)∧Below w.heap.size w w':=by
 have CC:=zW CS;have EE:=zW E0;have LL:=zW hL;have GA:=zW HA;have GB:=zW HB;have AW:=zW (fun w h=>zYQ N CS E0 w h);obtain⟨r,hr⟩:∃r,zWT n k=r:=⟨_,rfl⟩;obtain⟨z,hz⟩:∃z,decide (1≤q.lv∧q.lv≤3)=z:=⟨_,rfl⟩;have FW:=zW (fun w=>hr▸F3 A B n c k d (zR HA.cap HA.max) (zR HB.cap HB.max) w);have VA:=zW (fun w=>hz▸zJ9 q w);have HR:=zW hr;have HZ:=zW hz;clear CS E0 hL HA HB HE hr hz;obtain⟨P,hP⟩:∃P,prc q=P:=⟨_,rfl⟩;have sP:P.size=8:=by rw[←hP];rfl
 rw[hP]at VA;rw[hP];have EP:=zW hP;clear hP;go_enter Tryz.func5,Tryz.ntmps5;go_upto_region 0 with fail;refine zB ?_;refine lI rfl _ (.tmp 2) rfl P rfl ?_;simp only[Act.put,zQ,zZ,zJ];have K1:=zW (Blk.new w 24 P);have BB:=zW (lY w (.cells P 24));obtain⟨g0,hg0⟩:∃g,w.heap.size=g:=⟨_,rfl⟩;rw[hg0]at K1⊢;clear hg0;generalize World.alloc w _=w3 at K1 BB⊢;go_upto_region 1 with fail;have LC:=zW (fun x:lB w3=>LL.out.step (BB.out.trans (x.below.mono BB.out.size)));have CQ:=zW (lL K1.out);have hcase:r=false∨(r=true∧z=false)∨(r=true∧z=true∧(20:Int)<(ne:Int))∨(r=true∧z=true∧¬(20:Int)<(ne:Int)∧0≤nn∧nn≤65535)∨(r=true∧z=true∧¬(20:Int)<(ne:Int)∧¬0≤nn)∨(r=true∧z=true∧¬(20:Int)<(ne:Int)∧0≤nn∧¬nn≤65535):=by
  cases r
  ·exact .inl rfl
  ·cases z
   ·exact .inr (.inl ⟨rfl,rfl⟩)
   ·by_cases h1:(20:Int)<(ne:Int)
    ·exact .inr (.inr (.inl ⟨rfl,rfl,h1⟩))
    ·by_cases h2:0≤nn
     ·by_cases h3:nn≤65535
      ·exact .inr (.inr (.inr (.inl ⟨rfl,rfl,h1,h2,h3⟩)))
      ·exact .inr (.inr (.inr (.inr (.inr ⟨rfl,rfl,h1,h2,h3⟩))))
     ·exact .inr (.inr (.inr (.inr (.inl ⟨rfl,rfl,h1,h2⟩))))
 rcases hcase with rfl|⟨rfl,rfl⟩|⟨rfl,rfl,h1⟩|⟨rfl,rfl,h1,h2,h3⟩|⟨rfl,rfl,h1,h2⟩|⟨rfl,rfl,h1,h2,h3⟩
 all_goals
  refine RQ ?_
  repeat(first
   |(refine mZ QV CQ.out sP ?_ (.tmp 7) ?_ ?_ ?_;(focus rfl);(focus rfl);(focus(simp[Act.eval];done));simp only[Act.put,zQ,zZ,zJ])
   |go_big_quiet_step ((first|(go_at_call 21;exact mG (AW.out _ (LC.out _)))|(go_at_call 22;exact nG (FW.out _))|(go_at_call 10;exact mG (VA.out _)))))
  refine zY ?_
  intro _ hw'
  obtain⟨x,rfl⟩:=hw'
  have b1:=x.below
  generalize x.w=w4 at*
  have K1:=zW (K1.out.step b1)
  have BB:=zW (BB.out.trans (b1.mono BB.out.size))
  clear b1 LC CQ
 all_goals try
  clear HR HZ FW VA
  go_wp2_with fail
  refine(AW.out _ (LL.out.step BB.out)).mono ?_
  rintro e w5 ⟨rfl,b1⟩
  have BB:=zW (BB.out.trans (b1.mono BB.out.size))
  clear b1
  go_wp2
  go_ret
  exact⟨rfl,BB.out⟩
 all_goals
  have HQ:=zW (qA HZ.out)
  have NK:=zW (show n≤2000∧k≤100 from by have h:=HR.out;unfold zWT at h;rw[zA]at h;exact⟨qA h.1,qA h.2⟩)
  have OUT:=zW (show nn<0∨65535<nn by omega)
  clear HR HZ FW VA AW
  have ST:=zW (show∀u,Below w.heap.size w u→Calls Tryz.prog 23 #[.slice A n c,.slice B k d,.agg P] u fun e w'=>∃mb O,e=.returned (.pointer (some ⟨mb,0,none⟩))∧Mch u.heap.size O mb 0 (fW q) (yC R L) w'∧Below u.heap.size u w' from fun u bu=>by
   rw[←EP.out];exact pQ N CC.out (LL.out.step bu) (GA.out.rd.below bu) GA.out.len (by have:=NK.out;omega) (GB.out.rd.below bu) GB.out.len (by have:=NK.out;omega) (bL.2 GA.out.bd) (bL.2 GB.out.bd) HQ.out)
  (focus go_upto_region 3 with fail)
  refine zB ?_
  iterate 6 go_step
  refine lJ QV K1.out sP rfl (.tmp 7) rfl rfl ?_
  simp only[Act.put,zQ,zZ,zJ]
  (focus go_wp2_with fail)
  refine(ST.out _ BB.out).mono ?_
  rintro e w5 ⟨mb,O,rfl,X,b5⟩
  have X:=zW X
  have LB:=zW BB.out.size
  have BB:=zW (BB.out.trans (b5.mono BB.out.size))
  clear b5 K1 ST
  obtain⟨ba,hba⟩:∃b,w4.heap.size=b:=⟨_,rfl⟩
  rw[hba]at X LB
  clear hba
  have BA:=zW (zS LL.out.lt LB.out)
  (focus go_wp2_with fail)
  refine(ZW N EE.out X.out (LL.out.step BB.out) BA.out (show(0:Int)≤90000 by decide) zLD).mono ?_
  rintro e w6 ⟨rfl,O6,X6,K6,_⟩
  have EXh:=zW (show(nmM (fW q) (yC R L)).ex=1∧(vD N (fW q) (yC R L)).ks=[]from⟨ex_run _ rfl,zK3 _ _ _⟩)
  have BB:=zW (BB.out.trans (X.out.below LB.out K6))
  have X:=zW X6
  clear X6 K6
  generalize nmM (fW q) (yC R L)=s at X EXh
  generalize vD N (fW q) (yC R L)=a at X EXh
  (focus go_wp2_with fail)
  refine(eQ N CC.out X.out (LL.out.step BB.out)).mono ?_
  rintro e w7 ⟨rfl,b7⟩
  have X:=zW (X.out.step b7)
  have BB:=zW (BB.out.trans (b7.mono BB.out.size))
  clear b7
  simp only[]
  go_at_K
  iterate 1 go_step
  refine mT (ds:=mC (cV s a)) xQ uL (mH _) (mH _) (yT _) rfl rfl rfl (.tmp 12) (.tmp 52) rfl zLB zLB ?_
  simp only[Act.put,zQ,zZ,zJ]
  have V12:=zW (Blk.new w7 78 (mC (cV s a)))
  have ba:=lY w7 (.cells (mC (cV s a)) 78)
  have X:=zW (X.out.step ba)
  have BB:=zW (BB.out.trans (ba.mono BB.out.size))
  clear ba
  obtain⟨g12,hg⟩:∃q,w7.heap.size=q:=⟨_,rfl⟩
  rw[hg]at V12⊢
  clear hg
  generalize World.alloc _ _=w8 at X BB V12⊢
  (focus go_wp2_with fail)
  refine(o9 X.out EA ne ce nn OUT.out).mono ?_
  rintro e w9 ⟨rfl,b9⟩
  have X:=zW (X.out.step b9)
  have V12:=zW (V12.out.step b9)
  have BB:=zW (BB.out.trans (b9.mono BB.out.size))
  clear b9
  simp only[]
  go_at_K
  iterate 10 go_step
  refine mT (ds:=mC vY) xQ uL (mH _) (mH _) (yT _) rfl rfl rfl (.tmp 13) (.tmp 58) rfl zLB zLB ?_
  simp only[Act.put,zQ,zZ,zJ]
  have V13:=zW (Blk.new w9 78 (mC vY))
  have ba:=lY w9 (.cells (mC vY) 78)
  have X:=zW (X.out.step ba)
  have V12:=zW (V12.out.step ba)
  have BB:=zW (BB.out.trans (ba.mono BB.out.size))
  clear ba
  obtain⟨g13,hg⟩:∃q,w9.heap.size=q:=⟨_,rfl⟩
  rw[hg]at V13⊢
  clear hg
  generalize World.alloc _ _=wa at X BB V13 V12⊢
  (focus go_wp2_with fail)
  refine(wH N CC.out X.out (LL.out.step BB.out)).mono ?_
  rintro e wc ⟨bs,ms,gs,vs,rfl,rc,bc⟩
  have S:=zW rc
  have X:=zW (X.out.step bc)
  have V12:=zW (V12.out.step bc)
  have V13:=zW (V13.out.step bc)
  have BB:=zW (BB.out.trans (bc.mono BB.out.size))
  clear rc bc
  (focus go_upto_region 10 with fail)
  have C12:=zW (lL V12.out)
  have C13:=zW (lL V13.out)
  have CT:=zW (lL S.out.st)
  have MO:=zW (fun x:lB wc=>eQ N CC.out (X.out.step x.below) ((LL.out.step BB.out).step x.below))
  have ME:=zW (fun x:lB wc=>show Calls Tryz.prog 15 #[.pointer (some ⟨mb,0,none⟩)] x.w fun e w'=>e=.returned (.int .i64 1)∧x.w=w' from EXh.out.1▸PT (X.out.step x.below))
  refine mF zLR zLR ?_
  iterate 3 (go_big_quiet_step ((first|(go_at_call 24;exact mG (MO.out _))|(go_at_call 15;exact nG (ME.out _)))))
  refine mZ xQ C13.out (mH _) rfl (.tmp 13) rfl zLE ?_
  simp only[Act.put,zQ,zZ,zJ]
  refine vH (cs:=mC vY) rfl rfl (by simp;exact iS) ?_
  simp only[Act.put,zQ,zZ,zJ]
  refine hE vY rfl (.tmp 65) (.tmp 66) _ rfl zLE zLE ?_
  simp only[Act.put,zQ,zZ,zJ]
  iterate 4 (go_big_quiet_step ((first|(go_at_call 24;exact mG (MO.out _))|(go_at_call 15;exact nG (ME.out _)))))
  refine mZ xQ C12.out (mH _) rfl (.tmp 12) rfl zLE ?_
  simp only[Act.put,zQ,zZ,zJ]
  refine hE (cV s a) rfl (.tmp 71) (.tmp 72) _ rfl zLE zLE ?_
  simp only[Act.put,zQ,zZ,zJ]
  iterate 15 (go_big_quiet_step ((first|(go_at_call 24;exact mG (MO.out _))|(go_at_call 15;exact nG (ME.out _)))))
  refine lW (o:=550) zYH CT.out zLC rfl (.tmp 88) rfl zLE ?_
  rw[fS,EXh.out.2,show kc (dnA [])=kc up from zK4 fun j hj=>by unfold dnA dn;simp[aft,up]]
  simp only[Act.put,zQ,zZ,zJ]
  refine vH (cs:=kc up) rfl rfl (by simp;exact A7) ?_
  simp only[Act.put,zQ,zZ,zJ]
  refine MU (K:=up) rfl (.tmp 89) (.tmp 90) _ rfl zLE zLE ?_
  simp only[Act.put,zQ,zZ,zJ]
  iterate 2 (go_big_quiet_step ((first|(go_at_call 24;exact mG (MO.out _))|(go_at_call 15;exact nG (ME.out _)))))
  refine zY ?_
  intro _ hw'
  obtain⟨x,rfl⟩:=hw'
  go_wp2
  go_returns
  exact⟨rfl,BB.out.trans (x.below.mono BB.out.size)⟩
end
end Go.Proofs.YthknmadinmigfaaGreatDoor
