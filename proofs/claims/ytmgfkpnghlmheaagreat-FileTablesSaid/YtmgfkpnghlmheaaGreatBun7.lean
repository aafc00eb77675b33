/- Merged. -/
import Derived.Test.YtmgfkpnghlmheaaGreatBun5
import Derived.Test.YtmgfkpnghlmheaaGreatBun6
set_option maxHeartbeats 4000000
namespace Go.Hm
open Go Go.RowKit Go.Maps
abbrev DWn:=DataW Unit
def z9j(p:Nat):Value:= .int .u64 (p:Int)
def zwx(p:Nat):DWn:= .lit (.int .u64 (p:Int))
def qid:Value->Option (DWn × List MemPlace)
 | .int .u64 a=>some (.lit (.int .u64 a),[])
 |_=>none
theorem qe5(p:Nat):qid (z9j p)=some (zwx p,[]):=rfl
theorem qaj{v:Value}{z:DWn × List MemPlace}(h:qid v=some z):∃p:Int,v= .int .u64 p/\z=(.lit (.int .u64 p),[]):=by
 unfold qid at h;split at h
 ·rename_i a
  exact⟨a,rfl,(Option.some.inj h).symm⟩
 ·cases h
def Bok(c:zab):Prop:=∀z∈c.2.2.1,z<256
theorem z4p{c d:zab}(hc:Bok c)(hd:Bok d)(h:zcz c=zcz d):c=d:=by obtain⟨a1,a2,a3,a4,a5⟩:=c;obtain⟨b1,b2,b3,b4,b5⟩:=d;simp only[zcz,zam,Value.agg.injEq,Array.mk.injEq,List.cons.injEq,Value.bool.injEq,Value.int.injEq,Value.string.injEq,true_and,and_true] at h;obtain⟨rfl,rfl,e,rfl,rfl⟩:=h;have:=congrArg (fun s=>s.toList) e;have hb:=zhh hc hd;dsimp only at this hb;rw[this] at hb;simp at hb;rw[hb]
theorem zqt{P:Program}{d:Nat}{t:TypeId}{fs:Array Field}{cs:List Value}{L:List (TypeId × Nat)}(hu:P.underlying t=some (.struct fs))(hlen:cs.length=P.cellsOf t)(hn:fs.all (·.name != "_")=true)
 (e:fs.toList.map (fun f=>(f.type,f.offset))=L):P.keyLits (d+1) t cs=(L.mapM fun p=>P.keyLits d p.1 ((cs.drop p.2).take (P.cellsOf p.1))).map List.flatten:=by
 rw[<-e,List.mapM_map];conv=>lhs;unfold Program.keyLits
 simp only[hu];rw[if_pos ⟨hlen,hn⟩];rfl
theorem qak{P:Program}{d:Nat}{t:TypeId}{b:Bool}(hu:P.underlying t=some .bool):P.keyLits (d+1) t [.bool b]=some [.bool b]:=by unfold Program.keyLits;simp only[hu]
theorem zwy{P:Program}{d:Nat}{t:TypeId}{n:Int}(hu:P.underlying t=some (.int .i64))(h: -9223372036854775808<=n/\n<=9223372036854775807):P.keyLits (d+1) t [.int .i64 n]=some [.int .i64 n]:=by
 have hw:(Lit.int .i64 n).wf=true:=by simp[Lit.wf,IntKind.min,IntKind.max,IntKind.signed,IntKind.bits];omega
 unfold Program.keyLits;simp[hu,hw]
theorem z1b{P:Program}{d:Nat}{t:TypeId}{s:ByteArray}(hu:P.underlying t=some .string)(h:s.size<=maxLen):P.keyLits (d+1) t [.string s]=some [.string s.data.toList]:=by unfold Program.keyLits;simp[hu,h]
section
variable{P:Program}{k e:TypeId}
def MapC(P:Program)(k:TypeId)(w:World)(b n:Nat)(f:zab->Option Nat):Prop:=
 ∃D:DWn,w.ownsMap P k qid b n D/\IsMap D/\ ∀c kl,Bok c->keyOf P k (zcz c)=some kl-> ∀zd,D.atKey kl zd=((f c).map zwx).getD zd
theorem MapC.made(w:World):MapC P k (w.alloc (.map #[] 0)) w.heap.size 0 fun _=>none:=
 ⟨.map [],World.ownsMap_made _ _ _ _,isMap_empty,fun _ _ _ _ _=>rfl⟩
variable{w:World}{b n:Nat}{f:zab->Option Nat}
theorem MapC.kept{w':World}{row:Option Nat}(h:MapC P k w b n f)(hg:w.grownBy w' row)(hne:some b≠row):MapC P k w' b n f:=by obtain⟨D,h1,h2,h3⟩:=h;exact⟨D,h1.kept hg hne,h2,h3⟩
theorem MapC.lt(h:MapC P k w b n f):b<w.heap.size:=by obtain⟨D,h1,_⟩:=h;exact h1.lt
theorem MapC.eqf{f':zab->Option Nat}(h:MapC P k w b n f)(e:∀c,Bok c->f c=f' c):MapC P k w b n f':=by obtain⟨D,h1,h2,h3⟩:=h;exact⟨D,h1,h2,fun c kl hc hk zd=>by rw[h3 c kl hc hk zd,e c hc]⟩
theorem MapC.look{t:TypeId}(h:MapC P k w b n f)(K:Keyed P k)(ht:P.underlying t=some (.map k e))(hz:(zeroValue e).run P w= .ok (z9j 0) w){c:zab}(hc:Bok c)(hkey:∃kl,keyOf P k (zcz c)=some kl):
 (Instr.lookup t (.map (some b)) (zcz c) true).run P w= .ok (.tuple #[z9j ((f c).getD 0),.bool (f c).isSome]) w:=by
 obtain⟨D,⟨es,clock,hb,F,_,rfl⟩,h2,h3⟩:=h;obtain⟨kl,hkey⟩:=hkey;have h4:=h3 c kl hc hkey;rcases fit_look true K ht hz hb F hkey with⟨hrun,_,hat⟩|⟨e0,y,_,_,hrun,hRv,hat,_⟩
 ·cases hf:f c with
  |none=>exact hrun
  |some p=>
   rw[hf] at h4;have h5:=(hat .nil).symm.trans (h4 .nil);cases h5
 ·obtain⟨p,hp,rfl⟩:=qaj hRv
  rw[hp] at hrun;cases hf:f c with
  |none=>
   rw[hf] at h4;have h5:=(hat .nil).symm.trans (h4 .nil);cases h5
  |some q=>
   rw[hf] at h4;have h5:(DataW.lit (.int .u64 p):DWn)=zwx q:=(hat .nil).symm.trans (h4 .nil);simp only[zwx,DataW.lit.injEq,Lit.int.injEq,true_and] at h5;rw[h5] at hrun;exact hrun
theorem MapC.put{t:TypeId}(h:MapC P k w b n f)(K:Keyed P k)(ht:P.underlying t=some (.map k e))(hn:n<maxLen){c:zab}(hc:Bok c)(hkey:∃kl,keyOf P k (zcz c)=some kl)(p:Nat):
 ∃w',(Instr.mapUpdate t (.map (some b)) (zcz c) (z9j p)).run P w= .ok () w'/\MapC P k w' b (n+1) (fun d=>if d=c then some p else f d)/\w.grownBy w' (some b):=by
 obtain⟨D,h1,h2,h3⟩:=h;obtain⟨kl,hkey⟩:=hkey;obtain⟨w',hrun,ho,hg⟩:=h1.update K ht hn hkey (qe5 p);refine⟨w',hrun,⟨_,ho,h2.put _ _,fun d km hd hm zd=>?_⟩,hg⟩;by_cases he:d=c
 ·subst he
  rw[hm] at hkey;obtain rfl:=Option.some.inj hkey;show _=((if d=d then some p else f d).map zwx).getD zd;rw[if_pos rfl,atKey_put_same h2 (K.key hm)];rfl
 ·show _=((if d=c then some p else f d).map zwx).getD zd
  rw[if_neg he,atKey_put_other,h3 d km hd hm];intro hk;subst hk;exact he (z4p hd hc (K.inj hm hkey))
theorem zme{ops:Array Oper}{rest:List Oper}{o:Oper}{a:Act}{Q:Exit->Act->World->Prop}(hg:o.guard=none)(m x:Operand)(t:TypeId)(hop:o.op=Op.lookup t m x true)
 (K:Keyed P k)(ht:P.underlying t=some (.map k e))(hz:(zeroValue e).run P w= .ok (z9j 0) w)(hown:MapC P k w b n f){c:zab}(hc:Bok c)(hkey:∃kl,keyOf P k (zcz c)=some kl)(hm:a.eval m= .map (some b))(hx:a.eval x=zcz c)
 (h:wpList P ops Q rest (a.put o.dst (.tuple #[z9j ((f c).getD 0),.bool (f c).isSome])) w):wpList P ops Q (o::rest) a w:=by
 refine wpList_plain hg fun K' hK'=>?_
 have hrun:=hown.look K ht hz hc hkey;unfold Oper.wp;simp[execOp,hop,hm,hx,hrun,Result.andThen];exact hK' _ _ h
theorem zwz{ops:Array Oper}{rest:List Oper}{o:Oper}{a:Act}{Q:Exit->Act->World->Prop}(hg:o.guard=none)(m x v:Operand)(t:TypeId)(hop:o.op=Op.mapUpdate t m x v)
 (K:Keyed P k)(ht:P.underlying t=some (.map k e))(hown:MapC P k w b n f)(hn:n<maxLen){c:zab}(hc:Bok c)(hkey:∃kl,keyOf P k (zcz c)=some kl)(p:Nat)
 (hm:a.eval m= .map (some b))(hx:a.eval x=zcz c)(hv:a.eval v=z9j p)
 (h:∀w',MapC P k w' b (n+1) (fun d=>if d=c then some p else f d)->w.grownBy w' (some b)->wpList P ops Q rest (a.put o.dst undef) w'):wpList P ops Q (o::rest) a w:=by
 refine wpList_plain hg fun K' hK'=>?_
 obtain⟨w',hrun,r1,r2⟩:=hown.put K ht hn hc hkey p;unfold Oper.wp;simp[execOp,hop,hm,hx,hv,hrun,Result.andThen];exact hK' _ _ (h w' r1 r2)
end
end Go.Hm
namespace Go.Proofs.Y
open Go.RowKit Go.Hm
set_option maxRecDepth 100000 in
theorem qal{c:zab}(h1:c.2.2.1.length<=140737488351232)(h2: -9223372036854775808<=c.2.1/\c.2.1<=9223372036854775807)(h3: -9223372036854775808<=c.2.2.2.1/\c.2.2.2.1<=9223372036854775807)(h4: -9223372036854775808<=c.2.2.2.2/\c.2.2.2.2<=9223372036854775807):
 ∃kl,keyOf Tryz.prog 61 (zcz c)=some kl:=by
 obtain⟨a1,a2,a3,a4,a5⟩:=c;dsimp only at h1 h2 h3 h4;have hu:Tryz.prog.underlying 61=some (.struct (zfc Tryz.prog 61)):=by kernel_rfl
 have hp:Tryz.prog.underlying 59=some (.struct (zfc Tryz.prog 59)):=by kernel_rfl
 have kt:Tryz.prog.keyType 61=true:=by kernel_rfl
 have cc:Tryz.prog.cellsOf 61=5:=by kernel_rfl
 have cp:Tryz.prog.cellsOf 59=2:=by kernel_rfl
 have ci:Tryz.prog.cellsOf 3=1:=by kernel_rfl
 have cb:Tryz.prog.cellsOf 4=1:=by kernel_rfl
 have cs:Tryz.prog.cellsOf 9=1:=by kernel_rfl
 have ui:Tryz.prog.underlying 3=some (.int .i64):=by kernel_rfl
 have ub:Tryz.prog.underlying 4=some .bool:=by kernel_rfl
 have us:Tryz.prog.underlying 9=some .string:=by kernel_rfl
 have e1:(zfc Tryz.prog 61).toList.map (fun f=>(f.type,f.offset))=[(4,0),(3,1),(9,2),(59,3)]:=by kernel_rfl
 have e2:(zfc Tryz.prog 59).toList.map (fun f=>(f.type,f.offset))=[(3,0),(3,1)]:=by kernel_rfl
 have n1:(zfc Tryz.prog 61).all (·.name != "_")=true:=by kernel_rfl
 have n2:(zfc Tryz.prog 59).all (·.name != "_")=true:=by kernel_rfl
 obtain⟨m,hm⟩:∃m,Tryz.prog.types.size=m+2:=⟨Tryz.prog.types.size-2,by have:2<=Tryz.prog.types.size:=of_decide_eq_true (by kernel_rfl);omega⟩
 have hf:(zcz (a1,a2,a3,a4,a5)).formed Tryz.prog 61=true:=by simp[zcz,zam,Value.formed,hu,cc]
 unfold keyOf;rw[hu];simp only[kt,hf,Bool.and_self,if_true,hm];have hz:(zad a3).size<=maxLen:=by rw[zbh];unfold maxLen;omega
 have hcs:(zcz (a1,a2,a3,a4,a5)).cells.toList=[.bool a1,.int .i64 a2,.string (zad a3),.int .i64 a4,.int .i64 a5]:=by simp[zcz,zam,Value.cells]
 rw[hcs,zqt hu (by rw[cc];rfl) n1 e1];simp only[List.mapM_cons,List.mapM_nil,cb,ci,cs,cp,List.drop_succ_cons,List.drop_zero,List.take_succ_cons,List.take_zero];rw[qak ub,zwy ui h2,z1b us hz,zqt hp (by rw[cp];rfl) n2 e2];simp only[List.mapM_cons,List.mapM_nil,ci,List.drop_succ_cons,List.drop_zero,List.take_succ_cons,List.take_zero];rw[zwy ui h3,zwy ui h4];exact⟨_,rfl⟩
theorem qi4:(61:TypeId)<Tryz.prog.types.size:=of_decide_eq_true (by kernel_rfl)
theorem z4q:Maps.Keyed Tryz.prog 61:=Maps.Keyed.of_law (deep_law_laid Tryz.laidOut (m:=3) (by omega) qi4 (by kernel_rfl) (by kernel_rfl))
theorem qe6:Tryz.prog.underlying 222=some (.map 61 87):=by kernel_rfl
theorem qg3(w:World):(zeroValue 87).run Tryz.prog w= .ok (z9j 0) w:=by kernel_rfl
open Go.RowKit Go.Hm
def qft(x y:Int)(w:World)(e:Ending)(w':World):Prop:=∃a b,e= .returned (.complex .f64 a b)/\ztv x y a b/\New w w'
set_option maxRecDepth 100000 in
theorem zg4{w:World}{x y:Int}(hx:x.natAbs<9007199254740992)(hy:y.natAbs<9007199254740992):
 Calls Tryz.prog 220 #[.agg #[.int .i64 x,.int .i64 y]] w (qft x y w):=by
 obtain⟨W0,hW0⟩:∃W,W=w.alloc (.cells #[.int .i64 x,.int .i64 y] 59):=⟨_,rfl⟩;have b0:New w W0:=by rw[hW0];exact(Below.refl _ _).alloc (Nat.le_refl _) _
 have B0:Blk W0 w.heap.size 59 #[.int .i64 x,.int .i64 y]:=by rw[hW0];exact Blk.new _ _ _
 obtain⟨x0,x1⟩:=zbe B0;rw[hW0] at x0 x1;have R:=Hz (show ztv x y (floatOfInt .f64 x) (floatOfInt .f64 y) from⟨zuq x hx,zuq y hy⟩);clear B0 hx hy;go_enter Tryz.func220,Tryz.ntmps220
 go_wp2
 go_ret
 exact⟨_,_,rfl,R.out,by rw[<-hW0];exact b0⟩
set_option maxRecDepth 100000 in
theorem zzi{w:World}{x y:Int}(hx: -2097152<=x/\x<=2097152)(hy: -2097152<=y/\y<=2097152):
 Calls Tryz.prog 201 #[.agg #[.int .i64 x,.int .i64 y]] w (zap (.int .i64 (x*x+y*y)) w):=by
 obtain⟨W0,hW0⟩:∃W,W=w.alloc (.cells #[.int .i64 x,.int .i64 y] 59):=⟨_,rfl⟩;have b0:New w W0:=by rw[hW0];exact(Below.refl _ _).alloc (Nat.le_refl _) _
 have B0:Blk W0 w.heap.size 59 #[.int .i64 x,.int .i64 y]:=by rw[hW0];exact Blk.new _ _ _
 obtain⟨x0,x1⟩:=zbe B0;rw[hW0] at x0 x1;have P:=Hz (zg4 (w:=W0) (x:=x) (y:=y) (by omega) (by omega));have KN:=Hz (fun(a b:Nat) (h:ztv x y a b)=>z5w h hx hy);have HW:=Hz hW0;have HB:=Hz b0;clear B0 hx hy hW0 b0;go_enter Tryz.func201,Tryz.ntmps201
 go_wp2_with fail
 rw[<-HW.out];refine P.out.mono ?_;rintro e w1 ⟨a,b,rfl,hr,b1⟩;obtain⟨re,im,e1,e2⟩:=KN.out a b hr;have u:=z1w .f64 b;have m:=fun w:World=>run_complex_mul (P:=Tryz.prog) w 218 a b a (Op.negFloat .f64 b) re im e1
 have f:=fun w:World=>run_convert_float_int (P:=Tryz.prog) w 220 3 .f64 .i64 re _ (by kernel_rfl) (by kernel_rfl) e2
 clear x0 x1 e1 e2 hr P KN;go_wp2
 go_ret
 exact⟨rfl,New.trans HB.out b1⟩
end Go.Proofs.Y
namespace Go.Hm
open Go Go.RowKit
def orI:List Int->Int
 | []=>0
 |x::l=>if x=0 then orI l else x
theorem qhe{l:List Int}{k:Nat}(h:∀j,j<k->l.getD j 0=0)(hk:k<l.length)(hn:l.getD k 0≠0):orI l=l.getD k 0:=by
 induction l generalizing k with
 |nil=>simp at hk
 |cons x l ih=>
  cases k with
  |zero=>
   have:x≠0:=by simpa using hn
   simp[orI,this]
  |succ k=>
   have hx:x=0:=by simpa using h 0 (by omega)
   have:=ih (k:=k) (fun j hj=>by simpa using h (j+1) (by omega)) (by simpa using hk) (by simpa using hn);simp[orI,hx,this]
theorem qbh{l:List Int}(h:∀j,j<l.length->l.getD j 0=0):orI l=0:=by
 induction l with
 |nil=>rfl
 |cons x l ih=>
  have hx:x=0:=by simpa using h 0 (by simp)
  have:=ih (fun j hj=>by simpa using h (j+1) (by simpa using hj));simp[orI,hx,this]
def cmpP(x y u v:Int):Int:=orI [zib (x*x+y*y) (u*u+v*v),zib x u,zib y v]
theorem z5x(x:Int):zib x x=0:=by simp[zib]
end Go.Hm
namespace Go.Proofs.Y
open Go.RowKit Go.Hm
set_option maxRecDepth 100000 in
theorem qhf{w:World}{A:Option Addr}{n c:Nat}{l:List Int}(h:Reads w w.heap.size 1 A n (zep .i64 l))(hn:n<=4611686018427387903):
 Calls Tryz.prog 200 #[.slice A n c] w (zdw (.int .i64 (orI l)) w):=by
 obtain rfl:=h.lenI;have K1:=Hz (fun(k:Nat) (h:∀j,j<k->l.getD j 0=0) (hk:k<l.length) (hn:l.getD k 0≠0)=>qhe h hk hn);have K2:=Hz (fun(h:∀j,j<l.length->l.getD j 0=0)=>qbh h);generalize orI l=O at*;go_enter Tryz.func200,Tryz.ntmps200
 go_wp2
 go_loop [8] (fun i=>∃k:Nat,k<=l.length/\i= .int .i64 (k:Int)/\Hid (∀j,j<k->l.getD j 0=0)) (fun i=>l.length-(intOf i).toNat)
 case atStart=>exact⟨0,by omega,rfl,Hz (by intro j hj;omega)⟩
 case round=>
  obtain⟨k,hk,rfl,H⟩:=hrel;by_cases hlt:k<l.length
  ·obtain⟨ad,rfl,hbk,hcell⟩:=h.int hlt
   have M1:=Hz (fun(hn:l.getD k 0≠0)=>K1.out k H.out hlt hn);have M0:=Hz (fun(hz:l.getD k 0=0)=>show∀j,j<k+1->l.getD j 0=0 by
    intro j hj;rcases Nat.lt_succ_iff_lt_or_eq.1 hj with hj|rfl
    ·exact H.out j hj
    ·exact hz)
   generalize l.getD k 0=x at*;by_cases hx:x=0
   ·have M2:=Hz (M0.out hx)
    subst hx;clear M0 M1 K1 H;go_wp2
    go_round
    case rel=>exact⟨k+1,by omega,by go_num,M2⟩
    case measure=>simp[intOf];omega
   ·have M2:=Hz (M1.out hx)
    have e1:(x != 0)=true:=by simpa using hx
    clear M0 M1 K1 H hx;go_wp2
    go_ret
    exact⟨by rw[M2.out];rfl,rfl⟩
  ·obtain rfl:k=l.length:=by omega
   have M2:=Hz (K2.out H.out);clear K1 K2 H hlt;go_wp2
   go_ret
   exact⟨by rw[M2.out];rfl,rfl⟩
set_option maxRecDepth 100000 in
theorem zur{w:World}{x y u v:Int}(hx: -2097152<=x/\x<=2097152)(hy: -2097152<=y/\y<=2097152)(hu: -2097152<=u/\u<=2097152)(hv: -2097152<=v/\v<=2097152):
 Calls Tryz.prog 177 #[.agg #[.int .i64 x,.int .i64 y],.agg #[.int .i64 u,.int .i64 v]] w (zap (.int .i64 (cmpP x y u v)) w):=by
 obtain⟨W0,hW0⟩:∃W,W=(w.alloc (.cells #[.int .i64 x,.int .i64 y] 59)).alloc (.cells #[.int .i64 u,.int .i64 v] 59):=⟨_,rfl⟩;have b0:New w W0:=by rw[hW0];exact((Below.refl _ _).alloc (Nat.le_refl _) _).alloc (by simp) _
 have B0:Blk W0 w.heap.size 59 #[.int .i64 x,.int .i64 y]:=by rw[hW0];exact(Blk.new _ _ _).alloc _
 have C0:Blk W0 (w.heap.size+1) 59 #[.int .i64 u,.int .i64 v]:=by rw[hW0];have:=Blk.new (w.alloc (.cells #[.int .i64 x,.int .i64 y] 59)) 59 #[.int .i64 u,.int .i64 v];simpa using this
 have F1:=Hz (fun(W:World) (hW:New W0 W)=>zbe (B0.below hW B0.lt));have F2:=Hz (fun(W:World) (hW:New W0 W)=>zbe (C0.below hW C0.lt));have P1:=Hz (fun(W:World)=>zzi (w:=W) hx hy);have P2:=Hz (fun(W:World)=>zzi (w:=W) hu hv);have HW:=Hz hW0;have HB:=Hz b0;have HO:=Hz (show cmpP x y u v=orI [zib (x*x+y*y) (u*u+v*v),zib x u,zib y v] from rfl);generalize cmpP x y u v=O at*;generalize x*x+y*y=nx at*;generalize u*u+v*v=nu at*;clear B0 C0 hx hy hu hv hW0 b0;go_enter Tryz.func177,Tryz.ntmps177
 go_wp2_with fail
 rw[<-HW.out];refine zat New [(true,0),(true,2),(true,5),(true,6),(true,7),(true,8),(true,10),(true,11),(true,12),(true,13),(false,1),(false,3),(false,4),(false,9),(false,14),(false,15),(false,16),(true,17)]
  New.refl New.trans (by kernel_rfl) (by kernel_rfl) (by kernel_rfl) (by kernel_rfl) ?_
 have hU:=New.drew W0;repeat(first
  |(refine za1 rfl rfl (v:=?_) (fun W hW=>?_) ?_;rotate_left;(obtain⟨x0,x1⟩:=F1.out W (New.trans hU hW);obtain⟨y0,y1⟩:=F2.out W (New.trans hU hW);go_simp<;> with_reducible rfl);simp only[Act.put,List.setIfInBounds_toArray,List.set_cons_zero,List.set_cons_succ])
  |(refine zbb rfl rfl (fun K hK=>?_);go_simp
    first
     |(with_reducible refine(P1.out _).mono ?_)
     |(with_reducible refine(P2.out _).mono ?_)
    rintro e w9 ⟨rfl,c⟩;refine hK _ _ c ?_;clear hK;replace hU:=New.trans hU c)
  |(refine zbb rfl rfl (fun K hK=>?_);go_simp
    (with_reducible refine cmpI_any.mono ?_)
    rintro e w9 ⟨rfl,rfl⟩;refine hK _ _ (New.refl _) ?_;clear hK))
 have bA:New w9 (w9.alloc (.cells #[.int .i64 (zib nx nu),.int .i64 (zib x u),.int .i64 (zib y v)] 3)):=(Below.refl _ _).alloc (Nat.le_refl _) _;have RL:=Hz (qhf (c:=3) (Reads.litV w9 3 #[.int .i64 (zib nx nu),.int .i64 (zib x u),.int .i64 (zib y v)] 3 (zep .i64 [zib nx nu,zib x u,zib y v]) rfl rfl) (by omega));rw[<-HO.out] at RL;refine zbb rfl rfl (fun K hK=>?_);go_simp
 refine hK _ _ bA ?_;clear hK;refine zbb rfl rfl (fun K hK=>?_);go_simp
 refine RL.out.mono ?_;rintro e w8 ⟨rfl,rfl⟩;refine hK _ _ (New.refl _) ?_;clear hK;replace hU:=New.trans hU bA;refine za1 rfl rfl (v:=?_) (fun W hW=>?_) ?_;rotate_left
 ·go_simp<;> with_reducible rfl
 simp only[Act.put,List.setIfInBounds_toArray,List.set_cons_zero,List.set_cons_succ];refine zc3 ?_;go_wp2
 go_ret
 exact⟨rfl,New.trans HB.out hU⟩
end Go.Proofs.Y
namespace Go.Hm
open Go Go.RowKit Go.Maps
section
variable{P:Program}{k e:TypeId}{F:Nat->Value}
open Classical in
noncomputable def qhk(F:Nat->Value)(v:Value):Option (DWn × List MemPlace):=if h:∃m,v=F m then some (zwx (Classical.choose h),[]) else none
theorem qf3(F:Nat->Value)(m:Nat):∃q,qhk F (F m)=some (zwx q,[])/\F q=F m:=by have h:∃q,F m=F q:=⟨m,rfl⟩;refine⟨Classical.choose h,?_,(Classical.choose_spec h).symm⟩;unfold qhk;rw[dif_pos h]
theorem qb6{v:Value}{z:DWn × List MemPlace}(h:qhk F v=some z):∃q,v=F q/\z=(zwx q,[]):=by
 unfold qhk at h;split at h
 ·rename_i hx
  injection h with h;exact⟨_,Classical.choose_spec hx,h.symm⟩
 ·cases h
theorem qb7{p q:Nat}(h:zwx p=zwx q):p=q:=by simp only[zwx,DataW.lit.injEq,Lit.int.injEq,true_and] at h;omega
def MapF_mapf(P:Program)(k:TypeId)(F:Nat->Value)(w:World)(b n:Nat)(f:Int->Option Nat):Prop:=
 ∃D:DWn,w.ownsMap P k (qhk F) b n D/\IsMap D/\ ∀x m kl,f x=some m->keyOf P k (.int .i64 x)=some kl-> ∃q,F q=F m/\ ∀zd,D.atKey kl zd=zwx q
theorem MapF_mapf.made(w:World):MapF_mapf P k F (w.alloc (.map #[] 0)) w.heap.size 0 fun _=>none:=
 ⟨.map [],World.ownsMap_made _ _ _ _,isMap_empty,fun _ _ _ h _=>by cases h⟩
variable{w:World}{b n:Nat}{f:Int->Option Nat}
theorem MapF_mapf.kept{w':World}{row:Option Nat}(h:MapF_mapf P k F w b n f)(hg:w.grownBy w' row)(hne:some b≠row):MapF_mapf P k F w' b n f:=by obtain⟨D,h1,h2,h3⟩:=h;exact⟨D,h1.kept hg hne,h2,h3⟩
theorem MapF_mapf.lt(h:MapF_mapf P k F w b n f):b<w.heap.size:=by obtain⟨D,h1,_⟩:=h;exact h1.lt
theorem MapF_mapf.look{t:TypeId}(h:MapF_mapf P k F w b n f)(K:Keyed P k)(ht:P.underlying t=some (.map k e)){z:Value}(hz:(zeroValue e).run P w= .ok z w){x:Int}{m:Nat}(hf:f x=some m)(hkey:∃kl,keyOf P k (.int .i64 x)=some kl):
 (Instr.lookup t (.map (some b)) (.int .i64 x) false).run P w= .ok (F m) w:=by
 obtain⟨D,⟨es,clock,hb,Ft,_,rfl⟩,h2,h3⟩:=h;obtain⟨kl,hkey⟩:=hkey;obtain⟨q,hq,h4⟩:=h3 x m kl hf hkey;rcases fit_look false K ht hz hb Ft hkey with⟨hrun,_,hat⟩|⟨e0,y,_,_,hrun,hRv,hat,_⟩
 ·have h5:=(hat .nil).symm.trans (h4 .nil)
  cases h5
 ·obtain⟨p,hp,rfl⟩:=qb6 hRv
  have h5:zwx p=zwx q:=(hat .nil).symm.trans (h4 .nil);rw[qb7 h5] at hp;rw[hp,hq] at hrun;exact hrun
theorem MapF_mapf.put{t:TypeId}(h:MapF_mapf P k F w b n f)(K:Keyed P k)(ht:P.underlying t=some (.map k e))(hn:n<maxLen){x:Int}(hkey:∃kl,keyOf P k (.int .i64 x)=some kl)(m:Nat):
 ∃w',(Instr.mapUpdate t (.map (some b)) (.int .i64 x) (F m)).run P w= .ok () w'/\MapF_mapf P k F w' b (n+1) (fun y=>if y=x then some m else f y)/\w.grownBy w' (some b):=by
 obtain⟨D,h1,h2,h3⟩:=h;obtain⟨kl,hkey⟩:=hkey;obtain⟨q,hq,hqm⟩:=qf3 F m;obtain⟨w',hrun,ho,hg⟩:=h1.update K ht hn hkey hq;refine⟨w',hrun,⟨_,ho,h2.put _ _,fun y m2 km hd hm=>?_⟩,hg⟩;dsimp only at hd;by_cases he:y=x
 ·subst he
  rw[if_pos rfl] at hd;injection hd with hd;subst hd;rw[hm] at hkey;obtain rfl:=Option.some.inj hkey;exact⟨q,hqm,fun zd=>atKey_put_same h2 (K.key hm) _ _⟩
 ·rw[if_neg he] at hd
  obtain⟨q2,e2,e3⟩:=h3 y m2 km hd hm;refine⟨q2,e2,fun zd=>?_⟩;rw[atKey_put_other,e3];intro hk;subst hk;have:=K.inj hm hkey;injection this with _ this;exact he this
theorem zhc{ops:Array Oper}{rest:List Oper}{o:Oper}{a:Act}{Q:Exit->Act->World->Prop}(hg:o.guard=none)(m x:Operand)(t:TypeId)(hop:o.op=Op.lookup t m x false)
 (K:Keyed P k)(ht:P.underlying t=some (.map k e)){z:Value}(hz:(zeroValue e).run P w= .ok z w)(hown:MapF_mapf P k F w b n f){y:Int}{q:Nat}(hf:f y=some q)(hkey:∃kl,keyOf P k (.int .i64 y)=some kl)(hm:a.eval m= .map (some b))(hx:a.eval x= .int .i64 y)
 (h:wpList P ops Q rest (a.put o.dst (F q)) w):wpList P ops Q (o::rest) a w:=by
 refine wpList_plain hg fun K' hK'=>?_
 have hrun:=hown.look K ht hz hf hkey;unfold Oper.wp;simp[execOp,hop,hm,hx,hrun,Result.andThen];exact hK' _ _ h
theorem zf2{ops:Array Oper}{rest:List Oper}{o:Oper}{a:Act}{Q:Exit->Act->World->Prop}(hg:o.guard=none)(m x v:Operand)(t:TypeId)(hop:o.op=Op.insert t m x v)
 (K:Keyed P k)(ht:P.underlying t=some (.map k e))(hown:MapF_mapf P k F w b n f)(hn:n<maxLen){y:Int}(hkey:∃kl,keyOf P k (.int .i64 y)=some kl)(q:Nat)
 (hm:a.eval m= .map (some b))(hx:a.eval x= .int .i64 y)(hv:a.eval v=F q)
 (h:∀w',MapF_mapf P k F w' b (n+1) (fun z=>if z=y then some q else f z)->w.grownBy w' (some b)->wpList P ops Q rest (a.put o.dst undef) w'):wpList P ops Q (o::rest) a w:=by
 refine wpList_plain hg fun K' hK'=>?_
 obtain⟨w',hrun,r1,r2⟩:=hown.put K ht hn hkey q;unfold Oper.wp;simp[execOp,hop,hm,hx,hv,hrun,Result.andThen];exact hK' _ _ (h w' r1 r2)
end
open Go Go.RowKit
def zc0(m:Nat)(r:Int)(D:List zdy):Int:=if 65536<r then 4 else if r<0\/D.length≠m then 2 else if∃d∈D,((d.2.2.length:Nat):Int)≠r then 2 else 0
theorem Reads.colD{w:World}{B n i:Nat}{A:Option Addr}{l:List zdy}(h:Reads w B 1 A n (recs zhu l))(hi:i<n):
 ∃ad,A=some ad/\ad.block<B/\w.cell? (ad.add i)=some (.slice (l.getD i (none,0,[])).1 (l.getD i (none,0,[])).2.2.length (l.getD i (none,0,[])).2.1):=by
 obtain⟨ad,h1,h2,_,h3⟩:=h.rec_ (f:=zhu) (sz:=1) (fun _=>rfl) (none,0,[]) hi (by omega);have:=h3 0 _ rfl;rw[Nat.mul_one] at this;exact⟨ad,h1,h2,this⟩
theorem Reads.lenD{w:World}{B n:Nat}{A:Option Addr}{l:List zdy}(h:Reads w B 1 A n (recs zhu l)):n=l.length:=h.lenR (f:=zhu) (sz:=1) (fun _=>rfl) (by omega)
end Go.Hm
namespace Go.Proofs.Y
open Go.RowKit Go.Hm
set_option maxRecDepth 100000 in
theorem z70{w:World}{Ac:Option Addr}{nc cc:Nat}{r:Int}{Ad:Option Addr}{nd cd:Nat}{D:List zdy}(h:Reads w w.heap.size 1 Ad nd (recs zhu D))(hn:nd<=4611686018427387903):
 Calls Tryz.prog 51 #[.agg #[.slice Ac nc cc,.int .i64 r,.slice Ad nd cd]] w (zap (.int .i64 (zc0 nc r D)) w):=by
 obtain rfl:=h.lenD;have K1:=Hz (fun(hh:65536<r)=>show zc0 nc r D=4 by rw[zc0,if_pos hh]);have K2:=Hz (fun(hh: ¬65536<r) (h2:r<0\/D.length≠nc)=>show zc0 nc r D=2 by rw[zc0,if_neg hh,if_pos h2]);have K3:=Hz (fun(hh: ¬65536<r) (h2: ¬(r<0\/D.length≠nc)) (d:zdy) (hd:d∈D) (h3:((d.2.2.length:Nat):Int)≠r)=>show zc0 nc r D=2 by rw[zc0,if_neg hh,if_neg h2,if_pos ⟨d,hd,h3⟩]);have K4:=Hz (fun(hh: ¬65536<r) (h2: ¬(r<0\/D.length≠nc)) (h3:∀d∈D,((d.2.2.length:Nat):Int)=r)=>show zc0 nc r D=0 by rw[zc0,if_neg hh,if_neg h2,if_neg (fun⟨d,hd,h4⟩=>h4 (h3 d hd))]);generalize zc0 nc r D=O at*;obtain⟨W0,hW0⟩:∃W,W=w.alloc (.cells #[.slice Ac nc cc,.int .i64 r,.slice Ad D.length cd] 25):=⟨_,rfl⟩;have b0:New w W0:=by rw[hW0];exact(Below.refl _ _).alloc (Nat.le_refl _) _
 have B0:Blk W0 w.heap.size 25 #[.slice Ac nc cc,.int .i64 r,.slice Ad D.length cd]:=by rw[hW0];exact Blk.new _ _ _
 obtain⟨x0,x1,x2⟩:=zaf B0;rw[hW0] at x0 x1 x2;by_cases h0:65536<r
 ·have O1:=Hz (K1.out h0)
  clear K1 K2 K3 K4 B0 h;go_enter Tryz.func51,Tryz.ntmps51
  go_wp2
  go_ret
  exact⟨by rw[O1.out];rfl,by rw[<-hW0];exact b0⟩
 ·by_cases h1:r<0\/D.length≠nc
  ·have O1:=Hz (K2.out h0 h1)
   clear K1 K2 K3 K4 B0 h;by_cases h2:r<0
   ·go_enter Tryz.func51,Tryz.ntmps51
    go_wp2
    go_ret
    exact⟨by rw[O1.out];rfl,by rw[<-hW0];exact b0⟩
   ·have e1:((D.length:Int) != (nc:Int))=true:=by simp;omega
    clear h1;go_enter Tryz.func51,Tryz.ntmps51
    go_wp2
    go_ret
    exact⟨by rw[O1.out];rfl,by rw[<-hW0];exact b0⟩
  ·have K5:=Hz (K3.out h0 h1)
   have K6:=Hz (K4.out h0 h1);obtain⟨h2,h3⟩: ¬r<0/\D.length=nc:=by omega
   subst h3;have r0:=Reads.later h b0;clear h1 K1 K2 K3 K4 h;go_enter Tryz.func51,Tryz.ntmps51
   go_wp2
   rw[<-hW0];clear x0 x1 x2 hW0;go_loopw [23] (fun i wr=>∃k:Nat,i= .int .i64 (k:Int)/\k<=D.length/\New W0 wr/\Hid (∀d∈D.take k,((d.2.2.length:Nat):Int)=r)) (fun i _=>D.length-(intOf i).toNat)
   case atStart=>exact⟨0,rfl,by omega,New.refl _,Hz (by simp)⟩
   case round=>
    obtain⟨k,rfl,hk,hb,H⟩:=hrel;obtain⟨x0,x1,x2⟩:=zaf (B0.below hb B0.lt);by_cases hlt:k<D.length
    ·obtain⟨ad,rfl,hbk,c0⟩:=(Reads.later r0 hb).colD hlt
     have hx:(D.getD k (none,0,[]))∈D:=by rw[List.getD_eq_getElem?_getD,List.getElem?_eq_getElem hlt];exact List.getElem_mem hlt
     have M1:=Hz (fun hh=>K5.out _ hx hh);have M2:=Hz (fun(hh:((((D.getD k (none,0,[])).2.2.length:Nat):Int)=r))=>show∀d∈D.take (k+1),((d.2.2.length:Nat):Int)=r by
      intro d hd;rw[zae D k (none,0,[]) hlt,List.mem_append] at hd;rcases hd with hd|hd
      ·exact H.out d hd
      ·obtain rfl:=List.mem_singleton.1 hd
       exact hh)
     clear hx;generalize(D.getD k (none,0,[])).1=aA at*;generalize(D.getD k (none,0,[])).2.2.length=m at*;generalize(D.getD k (none,0,[])).2.1=cA at*;have hiz:(k:Int)<(D.length:Int):=by omega
     by_cases he:(m:Int)=r
     ·have M3:=Hz (M2.out he)
      subst he;clear M1 M2;go_wp2
      go_roundw
      case rel=>exact⟨k+1,by go_num,by omega,hb,M3⟩
      case measure=>simp[intOf];omega
     ·have M3:=Hz (M1.out he)
      have e1:((m:Int) != r)=true:=by simpa using he
      clear M1 M2 he;go_wp2
      go_ret
      exact⟨by rw[M3.out];rfl,New.trans b0 hb⟩
    ·obtain rfl:k=D.length:=by omega
     have H2:=H.out;rw[List.take_length] at H2;have O1:=Hz (K6.out H2);clear H H2 K5 K6;go_wp2
     go_ret
     exact⟨by rw[O1.out];rfl,New.trans b0 hb⟩
end Go.Proofs.Y
namespace Go.Hm
open Go Go.RowKit
abbrev ty(l:List za2)(i:Nat):Int:=(l.getD i ([],0,false)).2.1
def zfe(l:List zab)(c:za2):Bool:=l.all fun x=>zac x c.2.1 c.2.2
def zh2(D:List zdy)(L:List za2):Bool:=(List.zip D L).all fun p=>zfe p.1.2.2 p.2
def tabCk(L:List za2)(r:Int)(D:List zdy):Int:=
 if zcu L≠0 then zcu L else if zc0 L.length r D≠0 then zc0 L.length r D else if zh2 D L then 0 else 3
theorem zv1{m:Nat}{r:Int}{D:List zdy}(h:zc0 m r D=0):D.length=m/\0<=r/\r<=65536/\ ∀d∈D,((d.2.2.length:Nat):Int)=r:=by
 unfold zc0 at h;split at h
 ·cases h
 split at h
 ·cases h
 split at h
 ·cases h
 rename_i h1 h2 h3;refine⟨by omega,by omega,by omega,fun d hd=>?_⟩;by_cases e:((d.2.2.length:Nat):Int)=r
 ·exact e
 ·exact absurd ⟨d,hd,e⟩ h3
theorem zx7{l:List zab}{c:za2}(h:zfe l c=true){k:Nat}(hk:k<l.length):zac (l.getD k (false,0,[],0,0)) c.2.1 c.2.2=true:=by rw[List.getD_eq_getElem?_getD,List.getElem?_eq_getElem hk];exact(List.all_eq_true.1 h) _ (List.getElem_mem hk)
theorem zx8{l:List zab}{c:za2}(h:∀k,k<l.length->zac (l.getD k (false,0,[],0,0)) c.2.1 c.2.2=true):zfe l c=true:=by
 refine List.all_eq_true.2 fun x hx=>?_
 obtain⟨k,hk,rfl⟩:=List.getElem_of_mem hx;have:=h k hk;rwa[List.getD_eq_getElem?_getD,List.getElem?_eq_getElem hk] at this
theorem zps{D:List zdy}{L:List za2}(hl:D.length=L.length)(h:∀k,k<D.length->zfe (D.getD k (none,0,[])).2.2 (L.getD k ([],0,false))=true):zh2 D L=true:=by
 refine List.all_eq_true.2 fun x hx=>?_
 obtain⟨k,hk,rfl⟩:=List.getElem_of_mem hx;rw[List.length_zip] at hk;have:=h k (by omega);rw[List.getD_eq_getElem?_getD,List.getElem?_eq_getElem (by omega),List.getD_eq_getElem?_getD,List.getElem?_eq_getElem (by omega)] at this;rw[List.getElem_zip];exact this
theorem zka{D:List zdy}{L:List za2}(hl:D.length=L.length)(h:zh2 D L=true){k:Nat}(hk:k<D.length):zfe (D.getD k (none,0,[])).2.2 (L.getD k ([],0,false))=true:=by have:=(List.all_eq_true.1 h) _ (List.getElem_mem (l:=List.zip D L) (n:=k) (by rw[List.length_zip];omega));rw[List.getElem_zip] at this;rw[List.getD_eq_getElem?_getD,List.getElem?_eq_getElem (by omega),List.getD_eq_getElem?_getD,List.getElem?_eq_getElem (by omega)];exact this
def DataIn(w:World)(B:Nat)(D:List zdy):Prop:=∀d∈D,Reads w B 5 d.1 d.2.2.length (recs zam d.2.2)/\(∀x∈d.2.2,x.2.2.1.length<=140737488351232/\ ∀z∈x.2.2.1,z<256)/\d.2.2.length<=d.2.1/\d.2.1<=9223372036854775807/\(d.1=none->d.2.1=0)
theorem DataIn.later{w w':World}{D:List zdy}(h:DataIn w w.heap.size D)(hb:New w w'):DataIn w' w'.heap.size D:=fun d hd=>⟨Reads.later (h d hd).1 hb,(h d hd).2⟩
end Go.Hm
namespace Go.Proofs.Y
open Go.RowKit Go.Hm
set_option maxRecDepth 100000 in
theorem zv2{w:World}{Ac:Option Addr}{nc cc:Nat}{L:List za2}{r:Int}{Ad:Option Addr}{nd cd:Nat}{D:List zdy}
 (h1:Reads w w.heap.size 3 Ac nc (recs zh8 L))(hL:∀x∈L,(∀z∈x.1,z<256)/\x.1.length<=140737488351232)(hc:nc<=cc)(hn:nc<=4611686018427387903)
 (h:Reads w w.heap.size 1 Ad nd (recs zhu D))(hnd:nd<=4611686018427387903)(hD:DataIn w w.heap.size D):
 Calls Tryz.prog 19 #[.agg #[.slice Ac nc cc,.int .i64 r,.slice Ad nd cd]] w (zap (.int .i64 (tabCk L r D)) w):=by
 obtain rfl:=h1.lenC;obtain rfl:=h.lenD;have K1:=Hz (fun(hh:zcu L≠0)=>show tabCk L r D=zcu L by rw[tabCk,if_pos hh]);have K2:=Hz (fun(hh:zcu L=0) (h2:zc0 L.length r D≠0)=>show tabCk L r D=zc0 L.length r D by rw[tabCk,if_neg (by simpa using hh),if_pos h2]);have K3:=Hz (fun(hh:zcu L=0) (h2:zc0 L.length r D=0)=>show tabCk L r D=if zh2 D L then 0 else 3 by rw[tabCk,if_neg (by simpa using hh),if_neg (by simpa using h2)]);have SL:=Hz (fun(h2:zc0 L.length r D=0)=>zv1 h2);generalize tabCk L r D=O at*;obtain⟨W0,hW0⟩:∃W,W=w.alloc (.cells #[.slice Ac L.length cc,.int .i64 r,.slice Ad D.length cd] 25):=⟨_,rfl⟩;have b0:New w W0:=by rw[hW0];exact(Below.refl _ _).alloc (Nat.le_refl _) _
 have B0:Blk W0 w.heap.size 25 #[.slice Ac L.length cc,.int .i64 r,.slice Ad D.length cd]:=by rw[hW0];exact Blk.new _ _ _
 obtain⟨x0,x1,x2⟩:=zaf B0;have P1:=Hz (znk (c:=cc) (Reads.later h1 b0) hL hc hn);have P2:=Hz (fun(W:World) (hW:New W0 W)=>z70 (Ac:=Ac) (nc:=L.length) (cc:=cc) (r:=r) (cd:=cd) (Reads.later h (New.trans b0 hW)) hnd);rw[hW0] at x0 x1 x2;have r1:=Hz (fun(W:World) (hW:New W0 W)=>Reads.later h1 (New.trans b0 hW));have r0:=Hz (fun(W:World) (hW:New W0 W)=>Reads.later h (New.trans b0 hW));have rD:=Hz (fun(W:World) (hW:New W0 W)=>hD.later (New.trans b0 hW));clear h h1 hD;generalize zcu L=q1 at*;generalize zc0 L.length r D=q2 at*;go_enter Tryz.func19,Tryz.ntmps19
 go_wp2_with fail
 rw[<-hW0];refine(P1.out).mono ?_;rintro e W1 ⟨rfl,b1⟩;clear x0 x1 x2 hW0 P1;by_cases h2:q1=0
 ·have K22:=Hz (K2.out h2)
  have K33:=Hz (K3.out h2);clear K1 K2 K3;subst h2;obtain⟨x0,x1,x2⟩:=zaf (B0.below b1 B0.lt);go_wp2_with fail
  refine(P2.out _ b1).mono ?_;rintro e W2 ⟨rfl,b2⟩;have b12:=New.trans b1 b2;clear x0 x1 x2 P2 b1 b2;by_cases h3:q2=0
  ·have K5:=Hz (K33.out h3)
   have hSL:=SL.out h3;subst h3;have hDL:=hSL.1;have K6:=Hz (fun(hh:∀k,k<D.length->zfe (D.getD k (none,0,[])).2.2 (L.getD k ([],0,false))=true)=>show O=0 by rw[K5.out,if_pos (zps hDL hh)]);have K7:=Hz (fun(k:Nat) (hk:k<D.length) (hh: ¬zfe (D.getD k (none,0,[])).2.2 (L.getD k ([],0,false))=true)=>show O=3 by rw[K5.out,if_neg (fun e=>hh (zka hDL e hk))]);clear K22 K33 K5 SL hSL;obtain⟨x0,x1,x2⟩:=zaf (B0.below b12 B0.lt);go_wp2
   clear x0 x1 x2;go_loopw [23] (fun i wr=>∃k:Nat,i= .int .i64 (k:Int)/\k<=D.length/\New W0 wr/\Hid (∀j,j<k->zfe (D.getD j (none,0,[])).2.2 (L.getD j ([],0,false))=true)) (fun i _=>D.length-(intOf i).toNat)
   case atStart=>exact⟨0,rfl,by omega,b12,Hz (by intro j hj;omega)⟩
   case round=>
    obtain⟨k,rfl,hk,hb,H⟩:=hrel;obtain⟨x0,x1,x2⟩:=zaf (B0.below hb B0.lt);by_cases hlt:k<D.length
    ·obtain⟨ad,rfl,hbk,c0⟩:=(r0.out _ hb).colD hlt
     have hmem:(D.getD k (none,0,[]))∈D:=by rw[List.getD_eq_getElem?_getD,List.getElem?_eq_getElem hlt];exact List.getElem_mem hlt
     have C:=Hz (fun(W:World) (hW:New W0 W)=>(r1.out W hW).colT (show k<L.length by omega));have E:=Hz (fun(W:World) (hW:New W0 W)=>rD.out W hW _ hmem);have M0:=Hz (fun(hh:∀i,i<(D.getD k (none,0,[])).2.2.length->zac ((D.getD k (none,0,[])).2.2.getD i (false,0,[],0,0)) (L.getD k ([],0,false)).2.1 (L.getD k ([],0,false)).2.2=true)=>show∀j,j<k+1->zfe (D.getD j (none,0,[])).2.2 (L.getD j ([],0,false))=true by
      intro j hj;rcases Nat.lt_succ_iff_lt_or_eq.1 hj with hj|rfl
      ·exact H.out j hj
      ·exact zx8 hh)
     have M1:=Hz (fun(i:Nat) (hi:i<(D.getD k (none,0,[])).2.2.length) (hh: ¬zac ((D.getD k (none,0,[])).2.2.getD i (false,0,[],0,0)) (L.getD k ([],0,false)).2.1 (L.getD k ([],0,false)).2.2=true)=>K7.out k hlt (fun e=>hh (zx7 e hi)));clear hmem H;generalize(D.getD k (none,0,[])).1=aA at*;generalize(D.getD k (none,0,[])).2.2=l at*;generalize(D.getD k (none,0,[])).2.1=cA at*;generalize(L.getD k ([],0,false)).1=cn at*;generalize(L.getD k ([],0,false)).2.1=t at*;generalize(L.getD k ([],0,false)).2.2=nu at*;have hiz:(k:Int)<(D.length:Int):=by omega
     have hiz2:(k:Int)<(L.length:Int):=by omega
     go_wp2
     clear x0 x1 x2 c0;go_loopw [30] (fun i wr=>∃j:Nat,i= .int .i64 (j:Int)/\j<=l.length/\New W0 wr/\Hid (∀i,i<j->zac (l.getD i (false,0,[],0,0)) t nu=true)) (fun i _=>l.length-(intOf i).toNat)
     case atStart=>exact⟨0,rfl,by omega,hb,Hz (by intro j hj;omega)⟩
     case round=>
      obtain⟨j,rfl,hj,hb2,H2⟩:=hrel;by_cases hl2:j<l.length
      ·obtain⟨E1,E2,E3,E4,_⟩:=E.out _ hb2
       obtain⟨ad2,e2,hbk2,d0,d1,d2,d3,d4⟩:=E1.cell5 hl2;subst e2;have hxm:(l.getD j (false,0,[],0,0))∈l:=by rw[List.getD_eq_getElem?_getD,List.getElem?_eq_getElem hl2];exact List.getElem_mem hl2
       have hsz:=(E2 _ hxm).1;obtain⟨ad3,e3,hbk3,f0,f1,f2⟩:=C.out _ hb2;subst e3;have P:=Hz (fun(W:World)=>zfj (w:=W) (b:=(l.getD j (false,0,[],0,0)).1) (n:=(l.getD j (false,0,[],0,0)).2.1) (s:=(l.getD j (false,0,[],0,0)).2.2.1) (x:=(l.getD j (false,0,[],0,0)).2.2.2.1) (y:=(l.getD j (false,0,[],0,0)).2.2.2.2) (cn:=cn) (t:=t) (nu:=nu) hsz);have N1:=Hz (fun(hh: ¬zac ((l.getD j (false,0,[],0,0)).1,(l.getD j (false,0,[],0,0)).2.1,(l.getD j (false,0,[],0,0)).2.2.1,(l.getD j (false,0,[],0,0)).2.2.2.1,(l.getD j (false,0,[],0,0)).2.2.2.2) t nu=true)=>M1.out j hl2 hh);have N0:=Hz (fun(hh:zac ((l.getD j (false,0,[],0,0)).1,(l.getD j (false,0,[],0,0)).2.1,(l.getD j (false,0,[],0,0)).2.2.1,(l.getD j (false,0,[],0,0)).2.2.2.1,(l.getD j (false,0,[],0,0)).2.2.2.2) t nu=true)=>show∀i,i<j+1->zac (l.getD i (false,0,[],0,0)) t nu=true by
        intro i hi;rcases Nat.lt_succ_iff_lt_or_eq.1 hi with hi|rfl
        ·exact H2.out i hi
        ·exact hh)
       clear hxm hsz H2 E1 E2;generalize(l.getD j (false,0,[],0,0)).1=b at*;generalize(l.getD j (false,0,[],0,0)).2.1=n at*;generalize(l.getD j (false,0,[],0,0)).2.2.1=s at*;generalize(l.getD j (false,0,[],0,0)).2.2.2.1=px at*;generalize(l.getD j (false,0,[],0,0)).2.2.2.2=py at*;generalize zac (b,n,s,px,py) t nu=R at*;have hiz3:(j:Int)<(l.length:Int):=by omega
       obtain⟨W3,hW3⟩:∃W,W=wr.alloc (.cells #[.bool b,.int .i64 n,.string (zad s),.int .i64 px,.int .i64 py] 61):=⟨_,rfl⟩;have b3:New wr W3:=by rw[hW3];exact(Below.refl _ _).alloc (Nat.le_refl _) _
       have Y:Blk W3 wr.heap.size 61 #[.bool b,.int .i64 n,.string (zad s),.int .i64 px,.int .i64 py]:=by rw[hW3];exact Blk.new _ _ _
       have F1:=Hz (fun(W:World) (hW:New W3 W)=>zcl (Y.below hW Y.lt));have F2:=Hz (fun(W:World) (hW:New W3 W)=>zaf (B0.below (New.trans hb2 (New.trans b3 hW)) B0.lt));have hb3:(ad3.add (k*3)).block<wr.heap.size:=by rw[za0];exact hbk3
       have F3:=Hz (fun(W:World) (hW:New W3 W)=>(And.intro ((Below.cell (New.trans b3 hW) hb3).trans f0) (And.intro ((Below.cell (p:=⟨(ad3.add (k*3)).block,_,none⟩) (New.trans b3 hW) hb3).trans f1) ((Below.cell (p:=⟨(ad3.add (k*3)).block,_,none⟩) (New.trans b3 hW) hb3).trans f2))));go_wp2_with fail
       rw[<-hW3];clear hW3;refine zat New [(true,0),(true,1),(true,2),(true,3),(true,4),(true,5),(false,6),(true,7)]
        New.refl New.trans (by kernel_rfl) (by kernel_rfl) (by kernel_rfl) (by kernel_rfl) ?_
       have hU:=New.drew W3;have hV:=New.refl W3.drew;repeat(first
        |(refine zbb rfl rfl (fun K hK=>?_);go_simp
          (with_reducible refine(P.out _).mono ?_)
          rintro e w9 ⟨rfl,b9⟩;refine hK _ _ b9 ?_;clear hK;replace hU:=New.trans hU b9;replace hV:=New.trans hV b9)
        |(refine za1 rfl rfl (v:=?_) (fun W hW=>?_) ?_;rotate_left;(obtain⟨p0,p1,p2,p3,p4⟩:=F1.out W (New.trans (New.drew W3) (New.trans hV hW));obtain⟨y0,y1,y2⟩:=F2.out W (New.trans (New.drew W3) (New.trans hV hW));obtain⟨z0,z1,z2⟩:=F3.out W (New.trans (New.drew W3) (New.trans hV hW));go_simp<;> with_reducible rfl);simp only[Act.put,List.setIfInBounds_toArray,List.set_cons_zero,List.set_cons_succ]))
       refine zc3 ?_;clear F1 F2 F3 f0 f1 f2 d0 d1 d2 d3 d4 P Y;have hb4:=New.trans hb2 (New.trans b3 hU);cases R with
       |true=>
        have N3:=Hz (N0.out rfl);go_wp2
        go_roundw
        case rel=>exact⟨j+1,by go_num,by omega,hb4,N3⟩
        case measure=>simp[intOf];omega
       |false=>
        have N3:=Hz (N1.out (by simp));go_wp2
        go_ret
        exact⟨by rw[N3.out];rfl,New.trans b0 hb4⟩
      ·obtain rfl:j=l.length:=by omega
       have M3:=Hz (M0.out H2.out);go_wp2
       go_roundw
       case rel=>exact⟨k+1,by go_num,by omega,hb2,M3⟩
       case measure=>simp[intOf];omega
    ·obtain rfl:k=D.length:=by omega
     have O1:=Hz (K6.out H.out);go_wp2
     go_ret
     exact⟨by rw[O1.out];rfl,New.trans b0 hb⟩
  ·have O1:=Hz (K22.out h3)
   have e1:(q2 != 0)=true:=by simpa using h3
   clear K22 K33 SL h3;go_wp2
   go_ret
   exact⟨by rw[O1.out];rfl,New.trans b0 b12⟩
 ·have O1:=Hz (K1.out h2)
  have e1:(q1 != 0)=true:=by simpa using h2
  clear K1 K2 K3 h2;go_wp2
  go_ret
  exact⟨by rw[O1.out];rfl,New.trans b0 b1⟩
end Go.Proofs.Y
