/- Merged. -/
import Derived.Deep.DeepCutAuto
import Derived.Laws.EntriesVeiled
import Derived.Test.YtbahbnbpmfgimaaGreatDoorBun18
set_option maxHeartbeats 4000000
namespace Go.Hm
open Go Go.RowKit Go.Maps
abbrev DWn:=DataW Unit
def qab(p:Nat):Value:= .int .u64 (p:Int)
def zxn(p:Nat):DWn:= .lit (.int .u64 (p:Int))
def qjk:Value->Option (DWn × List MemPlace)
 | .int .u64 a=>some (.lit (.int .u64 a),[])
 |_=>none
theorem qf9(p:Nat):qjk (qab p)=some (zxn p,[]):=rfl
theorem qbv{v:Value}{z:DWn × List MemPlace}(h:qjk v=some z):∃p:Int,v= .int .u64 p/\z=(.lit (.int .u64 p),[]):=by
 unfold qjk at h;split at h
 ·rename_i a
  exact⟨a,rfl,(Option.some.inj h).symm⟩
 ·cases h
def Bok(c:zab):Prop:=∀z∈c.2.2.1,z<256
theorem z6j{c d:zab}(hc:Bok c)(hd:Bok d)(h:zc2 c=zc2 d):c=d:=by obtain⟨a1,a2,a3,a4,a5⟩:=c;obtain⟨b1,b2,b3,b4,b5⟩:=d;simp only[zc2,zay,Value.agg.injEq,Array.mk.injEq,List.cons.injEq,Value.bool.injEq,Value.int.injEq,Value.string.injEq,true_and,and_true] at h;obtain⟨rfl,rfl,e,rfl,rfl⟩:=h;have:=congrArg (fun s=>s.toList) e;have hb:=zgh hc hd;dsimp only at this hb;rw[this] at hb;simp at hb;rw[hb]
theorem zq5{P:Program}{d:Nat}{t:TypeId}{fs:Array Field}{cs:List Value}{L:List (TypeId × Nat)}(hu:P.underlying t=some (.struct fs))(hlen:cs.length=P.cellsOf t)(hn:fs.all (·.name != "_")=true)
 (e:fs.toList.map (fun f=>(f.type,f.offset))=L):P.keyLits (d+1) t cs=(L.mapM fun p=>P.keyLits d p.1 ((cs.drop p.2).take (P.cellsOf p.1))).map List.flatten:=by
 rw[<-e,List.mapM_map];conv=>lhs;unfold Program.keyLits
 simp only[hu];rw[if_pos ⟨hlen,hn⟩];rfl
theorem qbw{P:Program}{d:Nat}{t:TypeId}{b:Bool}(hu:P.underlying t=some .bool):P.keyLits (d+1) t [.bool b]=some [.bool b]:=by unfold Program.keyLits;simp only[hu]
theorem zxo{P:Program}{d:Nat}{t:TypeId}{n:Int}(hu:P.underlying t=some (.int .i64))(h: -9223372036854775808<=n/\n<=9223372036854775807):P.keyLits (d+1) t [.int .i64 n]=some [.int .i64 n]:=by
 have hw:(Lit.int .i64 n).wf=true:=by simp[Lit.wf,IntKind.min,IntKind.max,IntKind.signed,IntKind.bits];omega
 unfold Program.keyLits;simp[hu,hw]
theorem z2d{P:Program}{d:Nat}{t:TypeId}{s:ByteArray}(hu:P.underlying t=some .string)(h:s.size<=maxLen):P.keyLits (d+1) t [.string s]=some [.string s.data.toList]:=by unfold Program.keyLits;simp[hu,h]
section
variable{P:Program}{k e:TypeId}
def MapC(P:Program)(k:TypeId)(w:World)(b n:Nat)(f:zab->Option Nat):Prop:=
 ∃D:DWn,w.ownsMap P k qjk b n D/\IsMap D/\ ∀c kl,Bok c->keyOf P k (zc2 c)=some kl-> ∀zd,D.atKey kl zd=((f c).map zxn).getD zd
theorem MapC.made(w:World):MapC P k (w.alloc (.map #[] 0)) w.heap.size 0 fun _=>none:=
 ⟨.map [],World.ownsMap_made _ _ _ _,isMap_empty,fun _ _ _ _ _=>rfl⟩
variable{w:World}{b n:Nat}{f:zab->Option Nat}
theorem MapC.kept{w':World}{row:Option Nat}(h:MapC P k w b n f)(hg:w.grownBy w' row)(hne:some b≠row):MapC P k w' b n f:=by obtain⟨D,h1,h2,h3⟩:=h;exact⟨D,h1.kept hg hne,h2,h3⟩
theorem MapC.lt(h:MapC P k w b n f):b<w.heap.size:=by obtain⟨D,h1,_⟩:=h;exact h1.lt
theorem MapC.eqf{f':zab->Option Nat}(h:MapC P k w b n f)(e:∀c,Bok c->f c=f' c):MapC P k w b n f':=by obtain⟨D,h1,h2,h3⟩:=h;exact⟨D,h1,h2,fun c kl hc hk zd=>by rw[h3 c kl hc hk zd,e c hc]⟩
theorem MapC.look{t:TypeId}(h:MapC P k w b n f)(K:Keyed P k)(ht:P.underlying t=some (.map k e))(hz:(zeroValue e).run P w= .ok (qab 0) w){c:zab}(hc:Bok c)(hkey:∃kl,keyOf P k (zc2 c)=some kl):
 (Instr.lookup t (.map (some b)) (zc2 c) true).run P w= .ok (.tuple #[qab ((f c).getD 0),.bool (f c).isSome]) w:=by
 obtain⟨D,⟨es,clock,hb,F,_,rfl⟩,h2,h3⟩:=h;obtain⟨kl,hkey⟩:=hkey;have h4:=h3 c kl hc hkey;rcases fit_look true K ht hz hb F hkey with⟨hrun,_,hat⟩|⟨e0,y,_,_,hrun,hRv,hat,_⟩
 ·cases hf:f c with
  |none=>exact hrun
  |some p=>
   rw[hf] at h4;have h5:=(hat .nil).symm.trans (h4 .nil);cases h5
 ·obtain⟨p,hp,rfl⟩:=qbv hRv
  rw[hp] at hrun;cases hf:f c with
  |none=>
   rw[hf] at h4;have h5:=(hat .nil).symm.trans (h4 .nil);cases h5
  |some q=>
   rw[hf] at h4;have h5:(DataW.lit (.int .u64 p):DWn)=zxn q:=(hat .nil).symm.trans (h4 .nil);simp only[zxn,DataW.lit.injEq,Lit.int.injEq,true_and] at h5;rw[h5] at hrun;exact hrun
theorem MapC.put{t:TypeId}(h:MapC P k w b n f)(K:Keyed P k)(ht:P.underlying t=some (.map k e))(hn:n<maxLen){c:zab}(hc:Bok c)(hkey:∃kl,keyOf P k (zc2 c)=some kl)(p:Nat):
 ∃w',(Instr.mapUpdate t (.map (some b)) (zc2 c) (qab p)).run P w= .ok () w'/\MapC P k w' b (n+1) (fun d=>if d=c then some p else f d)/\w.grownBy w' (some b):=by
 obtain⟨D,h1,h2,h3⟩:=h;obtain⟨kl,hkey⟩:=hkey;obtain⟨w',hrun,ho,hg⟩:=h1.update K ht hn hkey (qf9 p);refine⟨w',hrun,⟨_,ho,h2.put _ _,fun d km hd hm zd=>?_⟩,hg⟩;by_cases he:d=c
 ·subst he
  rw[hm] at hkey;obtain rfl:=Option.some.inj hkey;show _=((if d=d then some p else f d).map zxn).getD zd;rw[if_pos rfl,atKey_put_same h2 (K.key hm)];rfl
 ·show _=((if d=c then some p else f d).map zxn).getD zd
  rw[if_neg he,atKey_put_other,h3 d km hd hm];intro hk;subst hk;exact he (z6j hd hc (K.inj hm hkey))
theorem zmx{ops:Array Oper}{rest:List Oper}{o:Oper}{a:Act}{Q:Exit->Act->World->Prop}(hg:o.guard=none)(m x:Operand)(t:TypeId)(hop:o.op=Op.lookup t m x true)
 (K:Keyed P k)(ht:P.underlying t=some (.map k e))(hz:(zeroValue e).run P w= .ok (qab 0) w)(hown:MapC P k w b n f){c:zab}(hc:Bok c)(hkey:∃kl,keyOf P k (zc2 c)=some kl)(hm:a.eval m= .map (some b))(hx:a.eval x=zc2 c)
 (h:wpList P ops Q rest (a.put o.dst (.tuple #[qab ((f c).getD 0),.bool (f c).isSome])) w):wpList P ops Q (o::rest) a w:=by
 refine wpList_plain hg fun K' hK'=>?_
 have hrun:=hown.look K ht hz hc hkey;unfold Oper.wp;simp[execOp,hop,hm,hx,hrun,Result.andThen];exact hK' _ _ h
theorem zxp{ops:Array Oper}{rest:List Oper}{o:Oper}{a:Act}{Q:Exit->Act->World->Prop}(hg:o.guard=none)(m x v:Operand)(t:TypeId)(hop:o.op=Op.mapUpdate t m x v)
 (K:Keyed P k)(ht:P.underlying t=some (.map k e))(hown:MapC P k w b n f)(hn:n<maxLen){c:zab}(hc:Bok c)(hkey:∃kl,keyOf P k (zc2 c)=some kl)(p:Nat)
 (hm:a.eval m= .map (some b))(hx:a.eval x=zc2 c)(hv:a.eval v=qab p)
 (h:∀w',MapC P k w' b (n+1) (fun d=>if d=c then some p else f d)->w.grownBy w' (some b)->wpList P ops Q rest (a.put o.dst undef) w'):wpList P ops Q (o::rest) a w:=by
 refine wpList_plain hg fun K' hK'=>?_
 obtain⟨w',hrun,r1,r2⟩:=hown.put K ht hn hc hkey p;unfold Oper.wp;simp[execOp,hop,hm,hx,hv,hrun,Result.andThen];exact hK' _ _ (h w' r1 r2)
end
end Go.Hm
namespace Go.Proofs.Y
open Go.RowKit Go.Hm
set_option maxRecDepth 100000 in
theorem qbx{c:zab}(h1:c.2.2.1.length<=140737488351232)(h2: -9223372036854775808<=c.2.1/\c.2.1<=9223372036854775807)(h3: -9223372036854775808<=c.2.2.2.1/\c.2.2.2.1<=9223372036854775807)(h4: -9223372036854775808<=c.2.2.2.2/\c.2.2.2.2<=9223372036854775807):
 ∃kl,keyOf Tryz.prog 75 (zc2 c)=some kl:=by
 obtain⟨a1,a2,a3,a4,a5⟩:=c;dsimp only at h1 h2 h3 h4;have hu:Tryz.prog.underlying 75=some (.struct (zfn Tryz.prog 75)):=by kernel_rfl
 have hp:Tryz.prog.underlying 73=some (.struct (zfn Tryz.prog 73)):=by kernel_rfl
 have kt:Tryz.prog.keyType 75=true:=by kernel_rfl
 have cc:Tryz.prog.cellsOf 75=5:=by kernel_rfl
 have cp:Tryz.prog.cellsOf 73=2:=by kernel_rfl
 have ci:Tryz.prog.cellsOf 3=1:=by kernel_rfl
 have cb:Tryz.prog.cellsOf 4=1:=by kernel_rfl
 have cs:Tryz.prog.cellsOf 9=1:=by kernel_rfl
 have ui:Tryz.prog.underlying 3=some (.int .i64):=by kernel_rfl
 have ub:Tryz.prog.underlying 4=some .bool:=by kernel_rfl
 have us:Tryz.prog.underlying 9=some .string:=by kernel_rfl
 have e1:(zfn Tryz.prog 75).toList.map (fun f=>(f.type,f.offset))=[(4,0),(3,1),(9,2),(73,3)]:=by kernel_rfl
 have e2:(zfn Tryz.prog 73).toList.map (fun f=>(f.type,f.offset))=[(3,0),(3,1)]:=by kernel_rfl
 have n1:(zfn Tryz.prog 75).all (·.name != "_")=true:=by kernel_rfl
 have n2:(zfn Tryz.prog 73).all (·.name != "_")=true:=by kernel_rfl
 obtain⟨m,hm⟩:∃m,Tryz.prog.types.size=m+2:=⟨Tryz.prog.types.size-2,by have:2<=Tryz.prog.types.size:=of_decide_eq_true (by kernel_rfl);omega⟩
 have hf:(zc2 (a1,a2,a3,a4,a5)).formed Tryz.prog 75=true:=by simp[zc2,zay,Value.formed,hu,cc]
 unfold keyOf;rw[hu];simp only[kt,hf,Bool.and_self,if_true,hm];have hz:(zad a3).size<=maxLen:=by rw[zbn];unfold maxLen;omega
 have hcs:(zc2 (a1,a2,a3,a4,a5)).cells.toList=[.bool a1,.int .i64 a2,.string (zad a3),.int .i64 a4,.int .i64 a5]:=by simp[zc2,zay,Value.cells]
 rw[hcs,zq5 hu (by rw[cc];rfl) n1 e1];simp only[List.mapM_cons,List.mapM_nil,cb,ci,cs,cp,List.drop_succ_cons,List.drop_zero,List.take_succ_cons,List.take_zero];rw[qbw ub,zxo ui h2,z2d us hz,zq5 hp (by rw[cp];rfl) n2 e2];simp only[List.mapM_cons,List.mapM_nil,ci,List.drop_succ_cons,List.drop_zero,List.take_succ_cons,List.take_zero];rw[zxo ui h3,zxo ui h4];exact⟨_,rfl⟩
theorem qkj:(75:TypeId)<Tryz.prog.types.size:=of_decide_eq_true (by kernel_rfl)
theorem z6k:Maps.Keyed Tryz.prog 75:=Maps.Keyed.of_law (deep_law_laid Tryz.laidOut (m:=3) (by omega) qkj (by kernel_rfl) (by kernel_rfl))
theorem qga:Tryz.prog.underlying 244=some (.map 75 138):=by kernel_rfl
theorem qh8(w:World):(zeroValue 138).run Tryz.prog w= .ok (qab 0) w:=by kernel_rfl
open Go.RowKit Go.Hm
theorem zea{α:Type}{l:List α}{k:Nat}(d:α)(h:k<l.length):l.getD k d∈l:=by rw[List.getD_eq_getElem?_getD,List.getElem?_eq_getElem h];exact List.getElem_mem h
end Go.Proofs.Y
namespace Go.Hm
open Go Go.RowKit
def qac(E:List zab)(c:zab):Option Nat:=if c∈E then some (E.idxOf c) else none
theorem z6o{E:List zab}{c d:zab}(h:c∉E):(if d=c then some E.length else qac E d)=qac (E++[c]) d:=by
 unfold qac;by_cases e:d=c
 ·subst e
  rw[if_pos rfl,if_pos (by simp),List.idxOf_append,if_neg h];simp
 ·rw[if_neg e]
  by_cases hd:d∈E
  ·rw[if_pos hd,if_pos (by simp[hd]),List.idxOf_append,if_pos hd]
  ·rw[if_neg hd,if_neg (by simp[hd,e])]
theorem zzw{P:List Nat}{n k q:Nat}(hP:P.length=k)(hk:k<n):(P++List.replicate (n-k) 0).set k q=(P++[q])++List.replicate (n-(k+1)) 0:=by rw[List.set_append_right _ _ (by omega),hP,Nat.sub_self,show n-k=(n-(k+1))+1 by omega,List.replicate_succ,List.set_cons_zero,List.append_assoc];rfl
end Go.Hm
namespace Go.Proofs.Y
open Go.RowKit Go.Hm
theorem z2f(W:World):(Instr.makeMap 244 none).run Tryz.prog W= .ok (.map (some W.heap.size)) (W.alloc (.map #[] 0)):=by simp[Instr.makeMap,Result.andThen]
theorem qkk:ElT Tryz.prog 76 75 (.agg #[.bool false,.int .i64 0,.string ⟨#[]⟩,.int .i64 0,.int .i64 0]) 5 48:=⟨by kernel_rfl,by kernel_rfl,rfl,by omega⟩
def z6p(L:List zab)(w:World)(e:Ending)(w':World):Prop:=
 ∃A1 n1 c1 A2 c2,e= .returned (.tuple #[.slice A1 n1 c1,.slice A2 L.length c2])/\w'.ownsRow w.heap.size 75 5 (.slice A1 n1 c1) n1 (recs zay (zh9 L).1)/\Go.Hm.Own w' w.heap.size 138 (.slice A2 L.length c2) (zao .u64 (zh9 L).2)/\New w w'
theorem qgc{c:zab}(h:CellFine c):∃kl,keyOf Tryz.prog 75 (zc2 c)=some kl:=qbx h.1.1 h.2.1 h.2.2.1 h.2.2.2
set_option maxRecDepth 100000 in
theorem zxu{w:World}{A:Option Addr}{n c:Nat}{L:List zab}(h:Reads w w.heap.size 5 A n (recs zay L))(hL:∀y∈L,CellFine y)(hn:n<=100000):
 Calls Tryz.prog 171 #[.slice A n c] w (z6p L w):=by
 obtain rfl:=h.lenCell;have HR:=Hz h;have HL:=Hz hL;clear h hL;have hmm:=z2f;have b0:New w (w.alloc (.map #[] 0)):=(Below.refl _ _).alloc (Nat.le_refl _) _;have M0:=MapC.made (P:=Tryz.prog) (k:=75) w;go_enter Tryz.func171,Tryz.ntmps171
 go_wp2_with (first
  |(refine zb6 elW rfl (.tmp 13) (.tmp 13) rfl (W:=w) (B:=w.heap.size) L.length L.length rfl rfl rfl rfl (by omega) b0 (by simp) rfl (by omega) (by simp only[maxLen];omega) ?_
    intro w3 hown3 hg3 hb3 hs3))
 have M3:=M0.kept hg3 (by simp);simp only[World.size_alloc] at hown3 hs3;clear M0 b0 hg3 hmm;go_loopw [5,17] (fun v i wr=>∃(k cE:Nat) (AE:Option Addr),k<=L.length/\i= .int .i64 (k:Int)/\v= .slice AE (zh9 (L.take k)).1.length cE
  /\wr.ownsRow (w.heap.size+2) 75 5 (.slice AE (zh9 (L.take k)).1.length cE) (zh9 (L.take k)).1.length (recs zay (zh9 (L.take k)).1)
  /\MapC Tryz.prog 75 wr w.heap.size (zh9 (L.take k)).1.length (qac (zh9 (L.take k)).1)
  /\Go.Hm.Own wr (w.heap.size+1) 138 (.slice (some ⟨w.heap.size+1,0,none⟩) L.length L.length) (zao .u64 ((zh9 (L.take k)).2++List.replicate (L.length-k) 0))
  /\New w wr/\w.heap.size+2<=wr.heap.size) (fun _ i _=>L.length-(intOf i).toNat)
 case atStart=>exact⟨0,0,none,Nat.zero_le _,rfl,rfl,by simpa[recs,zh9] using zdo,by simpa[zh9] using M3.eqf (f':=qac []) (fun c _=>by simp[qac]),by simpa[zby,zh9] using hown3,hb3,by omega⟩
 case round=>
  obtain⟨k,cE,AE,hk,rfl,rfl,oE,M,oP,b,hz2⟩:=hrel;clear M3 hown3 hb3 hs3;by_cases hlt:k<L.length
  ·have htk:=zac L k (false,0,[],0,0) hlt
   have hst:=zin (L.take k) (L.getD k (false,0,[],0,0));rw[<-htk] at hst;have hI:=zox (L.take k);have hle:=zsv (L.take k);have hPl:=hI.len;rw[List.length_take,Nat.min_eq_left (by omega)] at hPl hle;have hfine:=HL.out _ (zea (false,0,[],0,0) hlt);obtain⟨ad,rfl,hb,d0,d1,d2,d3,d4⟩:=(Reads.later HR.out b).cell5 hlt;generalize zh9 (L.take k)=EP at*;obtain⟨E,P⟩:=EP;dsimp only at*;generalize L.getD k (false,0,[],0,0)=y at*;have hkey:=qgc hfine;have hbok:Bok y:=hfine.1.2;unfold zim at hst;try dsimp only at hst
   have hidx:y∈E->E.idxOf y<E.length:=fun hm=>List.idxOf_lt_length_iff.2 hm
   obtain⟨y0,y1,y2,y3,y4⟩:=y;dsimp only at d0 d1 d2 d3 d4;have ha:New wr (wr.alloc (.cells #[.bool y0,.int .i64 y1,.string (zad y2),.int .i64 y3,.int .i64 y4] 75)):=(Below.refl _ _).alloc (Nat.le_refl _) _;have BC:=Blk.new wr 75 #[.bool y0,.int .i64 y1,.string (zad y2),.int .i64 y3,.int .i64 y4];obtain⟨q0,q1,q2,q3,q4⟩:=zcq BC;have M1:=M.kept (row:=none) ⟨ha.os,ha.tape,ha.output,ha.size,fun j hj _=>ha.block j hj⟩ (by simp);have oE1:=za5 oE ha;have oP1:=oP.later ha;have b1:=New.trans b ha;have HF:=Hz hfine;clear oE M oP hfine hb;by_cases hm:(y0,y1,y2,y3,y4)∈E
   ·rw[if_pos hm] at hst
    have hq:=hidx hm;have hix:qac E (y0,y1,y2,y3,y4)=some (E.idxOf (y0,y1,y2,y3,y4)):=by unfold qac;rw[if_pos hm]
    generalize E.idxOf (y0,y1,y2,y3,y4)=q at*;obtain⟨hg0,hgl,hc,hf,hs⟩:=oP1.num0 (i:=k) hlt;have hs:=hs q;rw[zzw hPl hlt] at hs;have gS:(wr.alloc (.cells #[.bool y0,.int .i64 y1,.string (zad y2),.int .i64 y3,.int .i64 y4] 75)).grownBy ((wr.alloc (.cells #[.bool y0,.int .i64 y1,.string (zad y2),.int .i64 y3,.int .i64 y4] 75)).setCell ⟨w.heap.size+1,k,none⟩ (.int .u64 (q:Int))) (some (w.heap.size+1)):=zb5;have HS:=Hz hs;have HM:=Hz (M1.kept gS (by simp));have HE:=Hz (oE1.kept gS (.inr (fun e=>by have:=(World.ownsRow.lt oE1 _ e).1;omega)));have HB:=Hz (b1.setCell (p:=⟨w.heap.size+1,k,none⟩) (by simp) (.int .u64 (q:Int)));have HST:=Hz hst;have HX:=Hz hix;clear hst hix hs oE1 gS hidx;go_wp2_with (first
     |(refine zmx rfl (.tmp 23) (.tmp 24) 244 rfl z6k qga (qh8 _) M1 hbok hkey rfl rfl ?_
       rw[HX.out];simp only[Option.getD_some,Option.isSome_some,qab]))
    go_roundw
    case rel=>exact⟨k+1,cE,AE,by omega,by go_num,by rw[HST.out],by rw[HST.out];exact HE.out,by rw[HST.out];exact HM.out,by rw[HST.out];exact HS.out,HB.out,by simp;omega⟩
    case measure=>simp[intOf];omega
   ·rw[if_neg hm] at hst
    have hix:qac E (y0,y1,y2,y3,y4)=none:=by unfold qac;rw[if_neg hm]
    have hwr:IntKind.u64.wrap (E.length:Int)=(E.length:Int):=by rw[IntKind.wrap_u64];omega
    have HST:=Hz hst;have HX:=Hz hix;have HN:=Hz hm;clear hst hix hidx hm;go_wp2_with (first
     |(refine zmx rfl (.tmp 23) (.tmp 24) 244 rfl z6k qga (qh8 _) M1 hbok hkey rfl rfl ?_
       rw[HX.out];simp only[Option.getD_none,Option.isSome_none,qab])
     |(refine zxp rfl (.tmp 33) (.tmp 34) (.tmp 35) 244 rfl z6k qga M1 (by simp only[maxLen];omega) hbok hkey E.length rfl rfl rfl ?_
       intro w4 M4 g4;have hz4:=g4.size;have BC4:=BC.grown g4 (by intro e;injection e with e;omega);obtain⟨q0,q1,q2,q3,q4⟩:=zcq BC4;have oE4:=oE1.kept g4 (.inr (fun e=>by have:=(World.ownsRow.lt oE1 _ e).1;omega));have oP4:=oP1.kept g4 (.inr (by simp[Value.ownBlock]));have b4:=Far.below b1 g4 (Nat.le_refl _) (Nat.le_refl _);simp only[World.size_alloc] at hz4;clear M1 oE1 oP1 BC g4)
     |(refine zdp qkk rfl (.tmp 36) (.tmp 38) rfl (W:=w) (B:=w.heap.size) (base:=w.heap.size+2) (n:=E.length) oE4 rfl rfl b4 (by omega) (by omega) rfl (by simp[Value.oneCell']) (by omega) (by simp only[maxLen];omega) ?_
       intro A5 c5 w5 hc5 _ o5 g5 b5 hz5 _;have M5:=M4.kept g5 (fun e=>by have:=(World.ownsRow.lt oE4 _ e.symm).1;omega)
       have oP5:=oP4.kept g5 (.inr (fun e=>by have:=(World.ownsRow.lt oE4 _ (show _=some (w.heap.size+1) by rw[<-e];rfl)).1;omega))
       obtain⟨hg0,hgl,hc,hf,hs⟩:=oP5.num0 (i:=k) hlt;have hs:=hs E.length;rw[zzw hPl hlt] at hs;have gS:w5.grownBy (w5.setCell ⟨w.heap.size+1,k,none⟩ (.int .u64 (E.length:Int))) (some (w.heap.size+1)):=zb5;have HS:=Hz hs;have HM:=Hz ((M5.kept gS (by simp)).eqf (fun d _=>z6o HN.out));have HE:=Hz (o5.kept gS (.inr (fun e=>by have:=(World.ownsRow.lt o5 _ e).1;omega)));have HB:=Hz (b5.setCell (p:=⟨w.heap.size+1,k,none⟩) (by simp) (.int .u64 (E.length:Int)));clear hs M4 oE4 oP4 M5 oP5 o5 gS g5 q0 q1 q2 q3 q4))
    go_roundw
    case rel=>exact⟨k+1,c5,A5,by omega,by go_num,by rw[HST.out];simp,by rw[HST.out];simpa[zbb,recs,zay] using HE.out,by rw[HST.out];simpa using HM.out,by rw[HST.out];exact HS.out,HB.out,by simp;omega⟩
    case measure=>simp[intOf];omega
  ·obtain rfl:k=L.length:=by omega
   rw[List.take_length] at oE oP;rw[Nat.sub_self,List.replicate_zero,List.append_nil] at oP;have oE:=zeq oE (show w.heap.size<=w.heap.size+2 by omega);have oP:=oP.base_le (show w.heap.size<=w.heap.size+1 by omega);have HE:=Hz oE;have HP:=Hz oP;clear oE oP M;go_wp2_with fail
   go_ret2
   refine⟨_,_,_,_,_,rfl,?_,HP.out,b⟩;rw[List.take_length];exact HE.out
open Go.RowKit Go.Hm
def zfa(F:FootS):Prop:=(∀c∈F.cols,∀z∈c.1,z<256)/\ ∀g∈F.groups,∀l∈g.2,∀p∈l,statData p.2.2
open Go.RowKit Go.Hm
section
variable{w:World}{ca cb cc:Array Value}{ea eb ec:TypeId}
end
def RowsIn(w:World)(B:Nat)(D:List zex):Prop:=∀d∈D,w.ownsRow B 75 5 (.slice d.1 d.2.2.length d.2.1) d.2.2.length (recs zay d.2.2)
theorem RowsIn.later{w w':World}{B:Nat}{D:List zex}(h:RowsIn w B D)(hb:New w w'):RowsIn w' B D:=fun d hd=>za5 (h d hd) hb
theorem RowsIn.base{w:World}{B B':Nat}{D:List zex}(h:RowsIn w B D)(hb:B'<=B):RowsIn w B' D:=fun d hd=>zeq (h d hd) hb
theorem RowsIn.keepT{w w':World}{B g:Nat}{t:TypeId}{cs:Array Value}{D:List zex}(h:RowsIn w B D)(hT:Blk w g t cs)(hne:75≠t)(hg:w.grownBy w' (some g)):RowsIn w' B D:=fun d hd=>World.ownsRow.kept (h d hd) hg (.inr (zas (h d hd) hT hne))
theorem RowsIn.snoc{w:World}{B:Nat}{D:List zex}{d:zex}(h:RowsIn w B D)(hd:w.ownsRow B 75 5 (.slice d.1 d.2.2.length d.2.1) d.2.2.length (recs zay d.2.2)):RowsIn w B (D++[d]):=by
 intro x hx;rcases List.mem_append.1 hx with hx|hx
 ·exact h x hx
 ·obtain rfl:=List.mem_singleton.1 hx
  exact hd
def TabPost(er:Int)(L:List zbc)(r:Int)(C:List (List zab))(w:World)(e:Ending)(w':World):Prop:=
 ∃(Ac Ad:Option Addr) (cc cd:Nat) (D:List zex),e= .returned (.tuple #[.agg #[.slice Ac L.length cc,.int .i64 r,.slice Ad D.length cd],.int .i64 er])/\
  w'.ownsRow w.heap.size 71 3 (.slice Ac L.length cc) L.length (recs zls L)/\w'.ownsRow w.heap.size 76 1 (.slice Ad D.length cd) D.length (recs zk2 D)/\RowsIn w' w.heap.size D/\D.map (·.2.2)=C/\New w w'
def qi3(er:Int)(L:List zbc)(l:List Int):List zbc:=if er=0 then l.map (fun c=>L.getD c.toNat ([],0,false)) else []
def qi4(er fr to_:Int):Int:=if er=0 then to_-fr else 0
def qkf(D:List zex)(fr to_ c:Int):List zab:=((D.getD c.toNat (none,0,[])).2.2.drop fr.toNat).take (to_-fr).toNat
def qi5(er:Int)(D:List zex)(l:List Int)(fr to_:Int):List (List zab):=if er=0 then l.map (qkf D fr to_) else []
def ProjPost(er:Int)(L:List zbc)(D:List zex)(l:List Int)(fr to_:Int)(w:World)(e:Ending)(w':World):Prop:=
 (er≠0/\e= .returned (.tuple #[.agg #[.slice none 0 0,.int .i64 0,.slice none 0 0],.int .i64 er])/\New w w')\/(er=0/\TabPost 0 (l.map (fun c=>L.getD c.toNat ([],0,false))) (to_-fr) (l.map (qkf D fr to_)) w e w')
theorem ProjPost.u{er:Int}{L:List zbc}{D:List zex}{l:List Int}{fr to_:Int}{w w':World}{e:Ending}(h:ProjPost er L D l fr to_ w e w'):TabPost er (qi3 er L l) (qi4 er fr to_) (qi5 er D l fr to_) w e w':=by
 rcases h with⟨h1,rfl,h2⟩|⟨rfl,h⟩
 ·rw[qi3,qi4,qi5,if_neg h1,if_neg h1,if_neg h1]
  exact⟨none,none,0,0,[],rfl,zdo,zdo,fun _ hd=>absurd hd (by simp),rfl,h2⟩
 ·exact h
theorem z9a{L:List zbc}{r:Int}{D:List zex}(h:zgg L r D=0):D.length=L.length/\0<=r/\r<=65536/\L.length<=64/\ ∀d∈D,((d.2.2.length:Nat):Int)=r:=by
 unfold zgg at h;split at h
 ·rename_i h1;exact absurd h h1
 ·rename_i h1
  split at h
  ·rename_i h2;exact absurd h h2
  ·rename_i h2
   obtain⟨a,b,c,d⟩:=zv8 (Classical.not_not.1 h2);refine⟨a,b,c,?_,d⟩;have h3:=Classical.not_not.1 h1;unfold zcy at h3;split at h3
   ·cases h3
   ·omega
end Go.Proofs.Y
namespace Go.Hm
open Go Go.RowKit
def KeepT(t:TypeId)(w w':World):Prop:=w.heap.size<=w'.heap.size/\ ∀b cs,Blk w b t cs->Blk w' b t cs
theorem KeepT.refl(t:TypeId)(w:World):KeepT t w w:=⟨Nat.le_refl _,fun _ _ h=>h⟩
theorem KeepT.trans{t:TypeId}{w w1 w2:World}(h:KeepT t w w1)(k:KeepT t w1 w2):KeepT t w w2:=⟨Nat.le_trans h.1 k.1,fun b cs hb=>k.2 b cs (h.2 b cs hb)⟩
theorem KeepT.new{t:TypeId}{w w':World}(h:New w w'):KeepT t w w':=⟨h.size,fun _ _ hb=>hb.below h hb.lt⟩
end Go.Hm
namespace Go.Proofs.Y
open Go.RowKit Go.Hm
abbrev tW:TypeId:=125
def OvPost(R:List Ev->World->Prop)(es:List Ev)(w:World)(e:Ending)(w':World):Prop:=e= .returned (.tuple #[])/\R es w'/\KeepT tW w w'
theorem OvPost.after{R:List Ev->World->Prop}{es:List Ev}{w w1:World}(k:KeepT tW w w1){e:Ending}{w':World}(h:OvPost R es w1 e w'):OvPost R es w e w':=⟨h.1,h.2.1,k.trans h.2.2⟩
end Go.Proofs.Y
namespace Go.Hm
open Go Go.RowKit
theorem KeepT.set_{t t':TypeId}{w:World}{b:Nat}{cs:Array Value}(h:Blk w b t' cs)(hne:t'≠t)(i:Nat)(u:Value):KeepT t w (w.setCell ⟨b,i,none⟩ u):=
 ⟨by simp,fun b' cs' h'=>h'.far (p:=⟨b,i,none⟩) (fun e=>Blk.ne_ h h' hne e.symm) u⟩
end Go.Hm
namespace Go.Proofs.Y
open Go.RowKit Go.Hm
end Go.Proofs.Y
