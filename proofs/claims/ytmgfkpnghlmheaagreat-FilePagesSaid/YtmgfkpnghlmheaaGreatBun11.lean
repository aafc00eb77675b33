/- Merged. -/
import Derived.Test.YtmgfkpnghlmheaaGreatBun8
set_option maxHeartbeats 4000000
namespace Go.Hm
open Go Go.RowKit Go.Maps
abbrev DWn:=DataW Unit
def z9p(p:Nat):Value:= .int .u64 (p:Int)
def zw2(p:Nat):DWn:= .lit (.int .u64 (p:Int))
def qic:Value->Option (DWn × List MemPlace)
 | .int .u64 a=>some (.lit (.int .u64 a),[])
 |_=>none
theorem qe5(p:Nat):qic (z9p p)=some (zw2 p,[]):=rfl
theorem qao{v:Value}{z:DWn × List MemPlace}(h:qic v=some z):∃p:Int,v= .int .u64 p/\z=(.lit (.int .u64 p),[]):=by
 unfold qic at h;split at h
 ·rename_i a
  exact⟨a,rfl,(Option.some.inj h).symm⟩
 ·cases h
def Bok(c:zab):Prop:=∀z∈c.2.2.1,z<256
theorem z41{c d:zab}(hc:Bok c)(hd:Bok d)(h:zca c=zca d):c=d:=by obtain⟨a1,a2,a3,a4,a5⟩:=c;obtain⟨b1,b2,b3,b4,b5⟩:=d;simp only[zca,zan,Value.agg.injEq,Array.mk.injEq,List.cons.injEq,Value.bool.injEq,Value.int.injEq,Value.string.injEq,true_and,and_true] at h;obtain⟨rfl,rfl,e,rfl,rfl⟩:=h;have:=congrArg (fun s=>s.toList) e;have hb:=zhe hc hd;dsimp only at this hb;rw[this] at hb;simp at hb;rw[hb]
theorem zqn{P:Program}{d:Nat}{t:TypeId}{fs:Array Field}{cs:List Value}{L:List (TypeId × Nat)}(hu:P.underlying t=some (.struct fs))(hlen:cs.length=P.cellsOf t)(hn:fs.all (·.name != "_")=true)
 (e:fs.toList.map (fun f=>(f.type,f.offset))=L):P.keyLits (d+1) t cs=(L.mapM fun p=>P.keyLits d p.1 ((cs.drop p.2).take (P.cellsOf p.1))).map List.flatten:=by
 rw[<-e,List.mapM_map];conv=>lhs;unfold Program.keyLits
 simp only[hu];rw[if_pos ⟨hlen,hn⟩];rfl
theorem qap{P:Program}{d:Nat}{t:TypeId}{b:Bool}(hu:P.underlying t=some .bool):P.keyLits (d+1) t [.bool b]=some [.bool b]:=by unfold Program.keyLits;simp only[hu]
theorem zw3{P:Program}{d:Nat}{t:TypeId}{n:Int}(hu:P.underlying t=some (.int .i64))(h: -9223372036854775808<=n/\n<=9223372036854775807):P.keyLits (d+1) t [.int .i64 n]=some [.int .i64 n]:=by
 have hw:(Lit.int .i64 n).wf=true:=by simp[Lit.wf,IntKind.min,IntKind.max,IntKind.signed,IntKind.bits];omega
 unfold Program.keyLits;simp[hu,hw]
theorem z1o{P:Program}{d:Nat}{t:TypeId}{s:ByteArray}(hu:P.underlying t=some .string)(h:s.size<=maxLen):P.keyLits (d+1) t [.string s]=some [.string s.data.toList]:=by unfold Program.keyLits;simp[hu,h]
section
variable{P:Program}{k e:TypeId}
def MapC(P:Program)(k:TypeId)(w:World)(b n:Nat)(f:zab->Option Nat):Prop:=
 ∃D:DWn,w.ownsMap P k qic b n D/\IsMap D/\ ∀c kl,Bok c->keyOf P k (zca c)=some kl-> ∀zd,D.atKey kl zd=((f c).map zw2).getD zd
theorem MapC.made(w:World):MapC P k (w.alloc (.map #[] 0)) w.heap.size 0 fun _=>none:=
 ⟨.map [],World.ownsMap_made _ _ _ _,isMap_empty,fun _ _ _ _ _=>rfl⟩
variable{w:World}{b n:Nat}{f:zab->Option Nat}
theorem MapC.kept{w':World}{row:Option Nat}(h:MapC P k w b n f)(hg:w.grownBy w' row)(hne:some b≠row):MapC P k w' b n f:=by obtain⟨D,h1,h2,h3⟩:=h;exact⟨D,h1.kept hg hne,h2,h3⟩
theorem MapC.lt(h:MapC P k w b n f):b<w.heap.size:=by obtain⟨D,h1,_⟩:=h;exact h1.lt
theorem MapC.eqf{f':zab->Option Nat}(h:MapC P k w b n f)(e:∀c,Bok c->f c=f' c):MapC P k w b n f':=by obtain⟨D,h1,h2,h3⟩:=h;exact⟨D,h1,h2,fun c kl hc hk zd=>by rw[h3 c kl hc hk zd,e c hc]⟩
theorem MapC.look{t:TypeId}(h:MapC P k w b n f)(K:Keyed P k)(ht:P.underlying t=some (.map k e))(hz:(zeroValue e).run P w= .ok (z9p 0) w){c:zab}(hc:Bok c)(hkey:∃kl,keyOf P k (zca c)=some kl):
 (Instr.lookup t (.map (some b)) (zca c) true).run P w= .ok (.tuple #[z9p ((f c).getD 0),.bool (f c).isSome]) w:=by
 obtain⟨D,⟨es,clock,hb,F,_,rfl⟩,h2,h3⟩:=h;obtain⟨kl,hkey⟩:=hkey;have h4:=h3 c kl hc hkey;rcases fit_look true K ht hz hb F hkey with⟨hrun,_,hat⟩|⟨e0,y,_,_,hrun,hRv,hat,_⟩
 ·cases hf:f c with
  |none=>exact hrun
  |some p=>
   rw[hf] at h4;have h5:=(hat .nil).symm.trans (h4 .nil);cases h5
 ·obtain⟨p,hp,rfl⟩:=qao hRv
  rw[hp] at hrun;cases hf:f c with
  |none=>
   rw[hf] at h4;have h5:=(hat .nil).symm.trans (h4 .nil);cases h5
  |some q=>
   rw[hf] at h4;have h5:(DataW.lit (.int .u64 p):DWn)=zw2 q:=(hat .nil).symm.trans (h4 .nil);simp only[zw2,DataW.lit.injEq,Lit.int.injEq,true_and] at h5;rw[h5] at hrun;exact hrun
theorem MapC.put{t:TypeId}(h:MapC P k w b n f)(K:Keyed P k)(ht:P.underlying t=some (.map k e))(hn:n<maxLen){c:zab}(hc:Bok c)(hkey:∃kl,keyOf P k (zca c)=some kl)(p:Nat):
 ∃w',(Instr.mapUpdate t (.map (some b)) (zca c) (z9p p)).run P w= .ok () w'/\MapC P k w' b (n+1) (fun d=>if d=c then some p else f d)/\w.grownBy w' (some b):=by
 obtain⟨D,h1,h2,h3⟩:=h;obtain⟨kl,hkey⟩:=hkey;obtain⟨w',hrun,ho,hg⟩:=h1.update K ht hn hkey (qe5 p);refine⟨w',hrun,⟨_,ho,h2.put _ _,fun d km hd hm zd=>?_⟩,hg⟩;by_cases he:d=c
 ·subst he
  rw[hm] at hkey;obtain rfl:=Option.some.inj hkey;show _=((if d=d then some p else f d).map zw2).getD zd;rw[if_pos rfl,atKey_put_same h2 (K.key hm)];rfl
 ·show _=((if d=c then some p else f d).map zw2).getD zd
  rw[if_neg he,atKey_put_other,h3 d km hd hm];intro hk;subst hk;exact he (z41 hd hc (K.inj hm hkey))
theorem zl0{ops:Array Oper}{rest:List Oper}{o:Oper}{a:Act}{Q:Exit->Act->World->Prop}(hg:o.guard=none)(m x:Operand)(t:TypeId)(hop:o.op=Op.lookup t m x true)
 (K:Keyed P k)(ht:P.underlying t=some (.map k e))(hz:(zeroValue e).run P w= .ok (z9p 0) w)(hown:MapC P k w b n f){c:zab}(hc:Bok c)(hkey:∃kl,keyOf P k (zca c)=some kl)(hm:a.eval m= .map (some b))(hx:a.eval x=zca c)
 (h:wpList P ops Q rest (a.put o.dst (.tuple #[z9p ((f c).getD 0),.bool (f c).isSome])) w):wpList P ops Q (o::rest) a w:=by
 refine wpList_plain hg fun K' hK'=>?_
 have hrun:=hown.look K ht hz hc hkey;unfold Oper.wp;simp[execOp,hop,hm,hx,hrun,Result.andThen];exact hK' _ _ h
theorem zw4{ops:Array Oper}{rest:List Oper}{o:Oper}{a:Act}{Q:Exit->Act->World->Prop}(hg:o.guard=none)(m x v:Operand)(t:TypeId)(hop:o.op=Op.mapUpdate t m x v)
 (K:Keyed P k)(ht:P.underlying t=some (.map k e))(hown:MapC P k w b n f)(hn:n<maxLen){c:zab}(hc:Bok c)(hkey:∃kl,keyOf P k (zca c)=some kl)(p:Nat)
 (hm:a.eval m= .map (some b))(hx:a.eval x=zca c)(hv:a.eval v=z9p p)
 (h:∀w',MapC P k w' b (n+1) (fun d=>if d=c then some p else f d)->w.grownBy w' (some b)->wpList P ops Q rest (a.put o.dst undef) w'):wpList P ops Q (o::rest) a w:=by
 refine wpList_plain hg fun K' hK'=>?_
 obtain⟨w',hrun,r1,r2⟩:=hown.put K ht hn hc hkey p;unfold Oper.wp;simp[execOp,hop,hm,hx,hv,hrun,Result.andThen];exact hK' _ _ (h w' r1 r2)
end
end Go.Hm
namespace Go.Proofs.Y
open Go.RowKit Go.Hm
set_option maxRecDepth 100000 in
theorem qaq{c:zab}(h1:c.2.2.1.length<=140737488351232)(h2: -9223372036854775808<=c.2.1/\c.2.1<=9223372036854775807)(h3: -9223372036854775808<=c.2.2.2.1/\c.2.2.2.1<=9223372036854775807)(h4: -9223372036854775808<=c.2.2.2.2/\c.2.2.2.2<=9223372036854775807):
 ∃kl,keyOf Tryz.prog 61 (zca c)=some kl:=by
 obtain⟨a1,a2,a3,a4,a5⟩:=c;dsimp only at h1 h2 h3 h4;have hu:Tryz.prog.underlying 61=some (.struct (zdf Tryz.prog 61)):=by kernel_rfl
 have hp:Tryz.prog.underlying 59=some (.struct (zdf Tryz.prog 59)):=by kernel_rfl
 have kt:Tryz.prog.keyType 61=true:=by kernel_rfl
 have cc:Tryz.prog.cellsOf 61=5:=by kernel_rfl
 have cp:Tryz.prog.cellsOf 59=2:=by kernel_rfl
 have ci:Tryz.prog.cellsOf 3=1:=by kernel_rfl
 have cb:Tryz.prog.cellsOf 4=1:=by kernel_rfl
 have cs:Tryz.prog.cellsOf 9=1:=by kernel_rfl
 have ui:Tryz.prog.underlying 3=some (.int .i64):=by kernel_rfl
 have ub:Tryz.prog.underlying 4=some .bool:=by kernel_rfl
 have us:Tryz.prog.underlying 9=some .string:=by kernel_rfl
 have e1:(zdf Tryz.prog 61).toList.map (fun f=>(f.type,f.offset))=[(4,0),(3,1),(9,2),(59,3)]:=by kernel_rfl
 have e2:(zdf Tryz.prog 59).toList.map (fun f=>(f.type,f.offset))=[(3,0),(3,1)]:=by kernel_rfl
 have n1:(zdf Tryz.prog 61).all (·.name != "_")=true:=by kernel_rfl
 have n2:(zdf Tryz.prog 59).all (·.name != "_")=true:=by kernel_rfl
 obtain⟨m,hm⟩:∃m,Tryz.prog.types.size=m+2:=⟨Tryz.prog.types.size-2,by have:2<=Tryz.prog.types.size:=of_decide_eq_true (by kernel_rfl);omega⟩
 have hf:(zca (a1,a2,a3,a4,a5)).formed Tryz.prog 61=true:=by simp[zca,zan,Value.formed,hu,cc]
 unfold keyOf;rw[hu];simp only[kt,hf,Bool.and_self,if_true,hm];have hz:(zac a3).size<=maxLen:=by rw[za4];unfold maxLen;omega
 have hcs:(zca (a1,a2,a3,a4,a5)).cells.toList=[.bool a1,.int .i64 a2,.string (zac a3),.int .i64 a4,.int .i64 a5]:=by simp[zca,zan,Value.cells]
 rw[hcs,zqn hu (by rw[cc];rfl) n1 e1];simp only[List.mapM_cons,List.mapM_nil,cb,ci,cs,cp,List.drop_succ_cons,List.drop_zero,List.take_succ_cons,List.take_zero];rw[qap ub,zw3 ui h2,z1o us hz,zqn hp (by rw[cp];rfl) n2 e2];simp only[List.mapM_cons,List.mapM_nil,ci,List.drop_succ_cons,List.drop_zero,List.take_succ_cons,List.take_zero];rw[zw3 ui h3,zw3 ui h4];exact⟨_,rfl⟩
theorem qi5:(61:TypeId)<Tryz.prog.types.size:=of_decide_eq_true (by kernel_rfl)
theorem z42:Maps.Keyed Tryz.prog 61:=Maps.Keyed.of_law (deep_law_laid Tryz.laidOut (m:=3) (by omega) qi5 (by kernel_rfl) (by kernel_rfl))
theorem qe6:Tryz.prog.underlying 222=some (.map 61 87):=by kernel_rfl
theorem qg4(w:World):(zeroValue 87).run Tryz.prog w= .ok (z9p 0) w:=by kernel_rfl
open Go.RowKit Go.Hm
def RCur(w:World)(B g:Nat)(l:List Nat)(bad:Bool):Prop:=
 ∃A c,Blk w g 95 #[.slice A l.length c,.bool bad]/\l.length<=c/\c<=maxLen/\Reads w B 1 A l.length (za2 .u8 l)/\B<=g/\(∀x∈l,x<256)
section
variable{w w':World}{B g:Nat}{l:List Nat}{bad:Bool}
theorem RCur.lt(h:RCur w B g l bad):g<w.heap.size:=by obtain⟨A,c,h1,_⟩:=h;exact h1.lt
theorem RCur.lt8(h:RCur w B g l bad):∀x∈l,x<256:=by obtain⟨A,c,_,_,_,_,_,h6⟩:=h;exact h6
theorem RCur.below(h:RCur w B g l bad)(hb:Below w.heap.size w w'):RCur w' B g l bad:=by obtain⟨A,c,h1,h2,h3,h4,h5,h6⟩:=h;exact⟨A,c,h1.below hb h1.lt,h2,h3,h4.below (hb.mono (by have:=h1.lt;omega)),h5,h6⟩
theorem RCur.keep{g':Nat}(h:RCur w B g l bad)(hg:w.grownBy w' (some g'))(hB:B<=g')(hne:g≠g'):RCur w' B g l bad:=by obtain⟨A,c,h1,h2,h3,h4,h5,h6⟩:=h;exact⟨A,c,h1.grown hg (by simpa using hne),h2,h3,h4.grown hg (by have:=h1.lt;omega) (fun g e=>by injection e with e;omega),h5,h6⟩
theorem RCur.blk(h:RCur w B g l bad):∃cs,Blk w g 95 cs:=by obtain⟨A,c,h1,_⟩:=h;exact⟨_,h1⟩
end
end Go.Proofs.Y
namespace Go.Hm
open Go Go.RowKit
theorem zgj{W1 W2:World}{base:Nat}{e e':TypeId}{u v:Value}{xs ys:List Value}(h2:Own W2 W1.heap.size e u xs)(h1:Own W1 base e' v ys):u.ownBlock=none\/u.ownBlock≠v.ownBlock:=by
 rcases hu:u.ownBlock with _|k
 ·exact .inl rfl
 ·refine .inr fun e=>?_
  have a:=(h2.lt k hu).1;have b:=(h1.lt k e.symm).2;omega
theorem zif{W:World}{base:Nat}{e:TypeId}{u v v':Value}{xs:List Value}(h:u.ownBlock=none\/u.ownBlock≠v.ownBlock)(d:v'.ownBlock=v.ownBlock\/ ∃g,v'.ownBlock=some g/\W.heap.size<=g)(k:Own W base e u xs):u.ownBlock=none\/u.ownBlock≠v'.ownBlock:=by
 rcases hu:u.ownBlock with _|g
 ·exact .inl rfl
 ·right
  rcases d with d|⟨g',d,hg⟩
  ·rw[d,<-hu]
   rcases h with h|h
   ·rw[hu] at h;cases h
   ·exact h
  ·rw[d]
   intro e;injection e with e;have:=(k.lt g hu).2;omega
theorem zf0{u v:Value}(h:u.ownBlock=none\/u.ownBlock≠v.ownBlock):v.ownBlock=none\/v.ownBlock≠u.ownBlock:=by
 rcases hv:v.ownBlock with _|k
 ·exact .inl rfl
 ·refine .inr fun e=>?_
  rcases h with h|h
  ·rw[h] at e;cases e
  ·exact h (by rw[hv,e])
open Go Go.RowKit
theorem z6b:∀a b:List UInt8,Lib.compareBytes a b=if Op.bytesLess a b=true then-1 else if a=b then 0 else 1
 | [],[]=>by simp[Lib.compareBytes,Op.bytesLess]
 | [],_::_=>by simp[Lib.compareBytes,Op.bytesLess]
 |_::_,[]=>by simp[Lib.compareBytes,Op.bytesLess]
 |x::a,y::b=>by
  have ih:=z6b a b;have h3:=UInt8.lt_irrefl x;by_cases h1:x<y
  ·simp[Lib.compareBytes,Op.bytesLess,h1]
  ·by_cases h2:y<x
   ·have hne:x≠y:=by rintro rfl;exact h1 h2
    simp[Lib.compareBytes,Op.bytesLess,h1,h2,hne]
   ·have he:x=y:=UInt8.le_antisymm (UInt8.not_lt.1 h2) (UInt8.not_lt.1 h1)
    subst he;simp[Lib.compareBytes,Op.bytesLess,ih]
theorem z6c(a b:List Nat):z2c a b=if Op.bytesLess (zac a).toList (zac b).toList=true then-1 else if(zac a).toList==(zac b).toList then 0 else 1:=by
 have e:∀l:List Nat,(zac l).toList=l.map UInt8.ofNat:=fun l=>by rw[Lib.toList_data];rfl
 rw[z2c,z6b,e,e];simp
def zh2(t:Int)(a b:zab):Int:=if a.1||b.1 then zzv a.1 b.1 else if t=0\/t=1 then zeb a.2.1 b.2.1 else if t=2 then z2c a.2.2.1 b.2.2.1 else if t=3 then cmpP a.2.2.2.1 a.2.2.2.2 b.2.2.2.1 b.2.2.2.2 else 0
theorem qhh{t:Int}{a b:zab}(h: ¬(t=3/\a.1=false/\b.1=false)):zh2 t a b=qhd t a b:=by
 unfold zh2 qhd;by_cases h1:(a.1||b.1)=true
 ·rw[if_pos h1,if_pos h1]
 ·rw[if_neg h1,if_neg h1]
  have h3: ¬t=3:=fun e=>h ⟨e,by simp_all,by simp_all⟩
  simp[h3]
def qbm(x y u v:Int):Prop:=(-2097152<=x/\x<=2097152)/\(-2097152<=y/\y<=2097152)/\(-2097152<=u/\u<=2097152)/\(-2097152<=v/\v<=2097152)
end Go.Hm
namespace Go.Proofs.Y
open Go.RowKit Go.Hm
set_option maxRecDepth 100000 in
theorem zuq{w:World}{t:Int}{a b:Bool}{n m:Int}{s r:List Nat}{x y x2 y2:Int}(hp:qbm x y x2 y2):
 Calls Tryz.prog 152 #[.int .i64 t,.agg #[.bool a,.int .i64 n,.string (zac s),.int .i64 x,.int .i64 y],.agg #[.bool b,.int .i64 m,.string (zac r),.int .i64 x2,.int .i64 y2]] w (zak (.int .i64 (zh2 t (a,n,s,x,y) (b,m,r,x2,y2))) w):=by
 by_cases h3:t=3/\a=false/\b=false
 ·obtain⟨rfl,rfl,rfl⟩:=h3
  have hO:zh2 3 (false,n,s,x,y) (false,m,r,x2,y2)=cmpP x y x2 y2:=by simp[zh2]
  rw[hO];have P:=Hz (fun(W:World)=>zuo (w:=W) hp.1 hp.2.1 hp.2.2.1 hp.2.2.2);have B0:=Blk.new w 61 #[.bool false,.int .i64 n,.string (zac s),.int .i64 x,.int .i64 y];have B1:=Blk.new (w.alloc (.cells #[.bool false,.int .i64 n,.string (zac s),.int .i64 x,.int .i64 y] 61)) 61 #[.bool false,.int .i64 m,.string (zac r),.int .i64 x2,.int .i64 y2];obtain⟨x0,x1,x2',x3,x4⟩:=zcb (B0.alloc (.cells #[.bool false,.int .i64 m,.string (zac r),.int .i64 x2,.int .i64 y2] 61));obtain⟨y0,y1,y2',y3,y4⟩:=zcb B1;clear B0 B1 hO hp;go_enter Tryz.func152,Tryz.ntmps152
  go_wp2_with (go_at_call 177;refine(P.out _).mono ?_;rintro e w' ⟨rfl,b1⟩)
  go_ret
  exact⟨rfl,New.trans (zqo w _ _) b1⟩
 ·rw[qhh h3]
  exact zxk h3
set_option maxRecDepth 100000 in
theorem rints_any{w:World}{x y:Int}:Calls Tryz.prog 105 #[.int .i64 x,.int .i64 y] w (zdk (.int .i64 (zeb x y)) w):=by
 have K1:=Hz (fun(h:x<y)=>show zeb x y= -1 by rw[zeb,if_pos h]);have K2:=Hz (fun(h: ¬x<y) (h2:y<x)=>show zeb x y=1 by rw[zeb,if_neg h,if_pos h2]);have K3:=Hz (fun(h: ¬x<y) (h2: ¬y<x)=>show zeb x y=0 by rw[zeb,if_neg h,if_neg h2]);generalize zeb x y=O at*;by_cases h1:x<y
 ·have O1:=Hz (K1.out h1)
  clear K1 K2 K3;go_enter Tryz.func105,Tryz.ntmps105
  go_wp2
  go_ret
  exact⟨by rw[O1.out];rfl,rfl⟩
 ·by_cases h2:y<x
  ·have O1:=Hz (K2.out h1 h2)
   clear K1 K2 K3;go_enter Tryz.func105,Tryz.ntmps105
   go_wp2
   go_ret
   exact⟨by rw[O1.out];rfl,rfl⟩
  ·have O1:=Hz (K3.out h1 h2)
   clear K1 K2 K3;go_enter Tryz.func105,Tryz.ntmps105
   go_wp2
   go_ret
   exact⟨by rw[O1.out];rfl,rfl⟩
set_option maxRecDepth 100000 in
theorem zsq{w:World}{t:Int}{a b:Bool}{n m:Int}{s r:List Nat}{x y x2 y2:Int}(hp:qbm x y x2 y2):
 Calls Tryz.prog 73 #[.int .i64 t,.agg #[.bool a,.int .i64 n,.string (zac s),.int .i64 x,.int .i64 y],.agg #[.bool b,.int .i64 m,.string (zac r),.int .i64 x2,.int .i64 y2]] w (zak (.int .i64 (zh2 t (a,n,s,x,y) (b,m,r,x2,y2))) w):=by
 have P:=Hz (fun(W:World)=>zsp (w:=W) hp.1 hp.2.1 hp.2.2.1 hp.2.2.2);have B0:=Blk.new w 61 #[.bool a,.int .i64 n,.string (zac s),.int .i64 x,.int .i64 y];have B1:=Blk.new (w.alloc (.cells #[.bool a,.int .i64 n,.string (zac s),.int .i64 x,.int .i64 y] 61)) 61 #[.bool b,.int .i64 m,.string (zac r),.int .i64 x2,.int .i64 y2];obtain⟨x0,x1,x2',x3,x4⟩:=zcb (B0.alloc (.cells #[.bool b,.int .i64 m,.string (zac r),.int .i64 x2,.int .i64 y2] 61));obtain⟨y0,y1,y2',y3,y4⟩:=zcb B1;have HT:=Hz (z6c s r);have HO:=Hz (show zh2 t (a,n,s,x,y) (b,m,r,x2,y2)=(if a||b then zzv a b else if t=0\/t=1 then zeb n m else if t=2 then z2c s r else if t=3 then cmpP x y x2 y2 else 0) from rfl);generalize zh2 t (a,n,s,x,y) (b,m,r,x2,y2)=O at*;generalize z2c s r=T at*;generalize cmpP x y x2 y2=PP at*;generalize h1:Op.bytesLess (zac s).toList (zac r).toList=L1 at*;generalize h2:((zac s).toList==(zac r).toList)=L2 at*;clear B0 B1 hp;cases L1<;> cases L2;all_goals cases a<;> cases b
 all_goals
  go_enter Tryz.func73,Tryz.ntmps73
  go_wp2_with (first
   |(go_at_call 105;refine rints_any.mono ?_;rintro e w' ⟨rfl,rfl⟩)
   |(go_at_call 106;refine(P.out _).mono ?_;rintro e w' ⟨rfl,b1⟩))
 all_goals go_ret
 all_goals try refine⟨?_,zqo w _ _⟩
 all_goals try refine⟨?_,New.trans (zqo w _ _) (by assumption)⟩
 all_goals
  rw[HO.out];try rw[HT.out]
  clear x0 x1 x2' x3 x4 y0 y1 y2' y3 y4 HO HT P;simp_all[zzv]
end Go.Proofs.Y
namespace Go.Hm
open Go Go.RowKit
theorem qdy:∀a b:List UInt8,Lib.compareBytes b a= -Lib.compareBytes a b
 | [],[]=>by simp[Lib.compareBytes]
 | [],_::_=>by simp[Lib.compareBytes]
 |_::_,[]=>by simp[Lib.compareBytes]
 |x::a,y::b=>by
  have ih:=qdy a b;unfold Lib.compareBytes;by_cases h1:x<y
  ·have h2: ¬y<x:=fun h=>UInt8.lt_irrefl _ (UInt8.lt_trans h h1)
   rw[if_neg h2,if_pos h1,if_pos h1];rfl
  ·by_cases h2:y<x
   ·rw[if_pos h2,if_neg h1,if_pos h2]
   ·rw[if_neg h2,if_neg h1,if_neg h1,if_neg h2,ih]
theorem z6f:∀a b:List UInt8,Lib.compareBytes a b=0↔a=b
 | [],[]=>by simp[Lib.compareBytes]
 | [],_::_=>by simp[Lib.compareBytes]
 |_::_,[]=>by simp[Lib.compareBytes]
 |x::a,y::b=>by
  have ih:=z6f a b;unfold Lib.compareBytes;by_cases h1:x<y
  ·have hne:x≠y:=by rintro rfl;exact UInt8.lt_irrefl _ h1
   rw[if_pos h1];simp[hne]
  ·by_cases h2:y<x
   ·have hne:x≠y:=by rintro rfl;exact h1 h2
    rw[if_neg h1,if_pos h2];simp[hne]
   ·have he:x=y:=UInt8.le_antisymm (UInt8.not_lt.1 h2) (UInt8.not_lt.1 h1)
    subst he;rw[if_neg h1,if_neg h1,ih];simp
theorem zzy:∀a b c:List UInt8,Lib.compareBytes a b<=0->Lib.compareBytes b c<=0->Lib.compareBytes a c<=0
 | [],b,[]=>by simp[Lib.compareBytes]
 | [],b,_::_=>by simp[Lib.compareBytes]
 |_::_,[],c=>by simp[Lib.compareBytes]
 |_::_,_::_,[]=>by simp[Lib.compareBytes]
 |x::a,y::b,z::c=>by
  have ih:=zzy a b c;unfold Lib.compareBytes;intro h1 h2;by_cases xz:x<z
  ·rw[if_pos xz];decide
  ·rw[if_neg xz]
   by_cases xy:x<y
   ·have yz: ¬y<z:=fun h=>xz (UInt8.lt_trans xy h)
    rw[if_neg yz] at h2;by_cases zy:z<y
    ·rw[if_pos zy] at h2;omega
    ·have he:y=z:=UInt8.le_antisymm (UInt8.not_lt.1 zy) (UInt8.not_lt.1 yz)
     exact absurd (he▸xy) xz
   ·rw[if_neg xy] at h1
    by_cases yx:y<x
    ·rw[if_pos yx] at h1;omega
    ·rw[if_neg yx] at h1
     have he:x=y:=UInt8.le_antisymm (UInt8.not_lt.1 yx) (UInt8.not_lt.1 xy);subst he;rw[if_neg xz] at h2;by_cases zx:z<x
     ·rw[if_pos zx] at h2;omega
     ·rw[if_neg zx] at h2⊢
      exact ih h1 h2
theorem qbo{a b:Bool}(h:(a||b)=true):zzv b a= -zzv a b:=by cases a<;> cases b<;> simp_all[zzv]
theorem zm3(t:Int)(a b:zab):zh2 t b a= -zh2 t a b:=by
 unfold zh2;by_cases h:(a.1||b.1)=true
 ·have h':(b.1||a.1)=true:=by rw[Bool.or_comm];exact h
  rw[if_pos h',if_pos h,qbo h]
 ·have h': ¬(b.1||a.1)=true:=by rw[Bool.or_comm];exact h
  rw[if_neg h',if_neg h,zm2 a.2.1,qbn a.2.2.2.1,z2c,z2c,qdy];split
  ·rfl
  ·split
   ·rfl
   ·split
    ·rfl
    ·rfl
theorem zqw:∀{a b:List Nat},(∀z∈a,z<256)->(∀z∈b,z<256)->a.map UInt8.ofNat=b.map UInt8.ofNat->a=b
 | [],[],_,_,_=>rfl
 | [],_::_,_,_,h=>by simp at h
 |_::_,[],_,_,h=>by simp at h
 |x::a,y::b,ha,hb,h=>by
  rw[List.map_cons,List.map_cons,List.cons.injEq] at h;have e1:x=y:=by have:=congrArg UInt8.toNat h.1;rw[UInt8.toNat_ofNat',UInt8.toNat_ofNat',Nat.mod_eq_of_lt (ha x (by simp)),Nat.mod_eq_of_lt (hb y (by simp))] at this;exact this
  rw[e1,zqw (fun z hz=>ha z (by simp[hz])) (fun z hz=>hb z (by simp[hz])) h.2]
theorem z6g{t:Int}{nu:Bool}{a b:zab}(ha:zaf a t nu=true)(hb:zaf b t nu=true)(fa:∀z∈a.2.2.1,z<256)(fb:∀z∈b.2.2.1,z<256):zh2 t a b=0↔a=b:=by
 obtain⟨na,ia,sa,xa,ya⟩:=a;obtain⟨nb,ib,sb,xb,yb⟩:=b;simp only at fa fb;have ht:z2c sa sb=0↔sa=sb:=by rw[z2c,z6f];exact⟨zqw fa fb,fun h=>by rw[h]⟩
 unfold zaf at ha hb;unfold zh2;cases na<;> cases nb
 ·simp only[Bool.or_self,Bool.false_eq_true,if_false] at ha hb⊢
  by_cases h0:t=0
  ·subst h0
   simp at ha hb;simp[cmpI_zero,ha,hb]
  ·by_cases h1:t=1
   ·subst h1
    simp at ha hb;simp[cmpI_zero,ha,hb]
   ·by_cases h2:t=2
    ·subst h2
     simp at ha hb;simp[ht,ha,hb]
    ·by_cases h3:t=3
     ·subst h3
      simp at ha hb;simp[z6d,ha,hb]
     ·simp[h0,h1,h2,h3] at ha
 ·simp[zzv]
 ·simp[zzv]
 ·simp at ha hb
  simp[zzv,ha,hb]
theorem zi4{t:Int}{a b c:zab}(h1:zh2 t a b<=0)(h2:zh2 t b c<=0):zh2 t a c<=0:=by
 obtain⟨na,ia,sa,xa,ya⟩:=a;obtain⟨nb,ib,sb,xb,yb⟩:=b;obtain⟨nc,ic,sc,xc,yc⟩:=c;unfold zh2 at*;cases na
 ·cases nb
  ·cases nc
   ·simp only[Bool.or_self,Bool.false_eq_true,if_false] at h1 h2⊢
    split
    ·rename_i ht
     rw[if_pos ht,zof] at h1 h2;rw[zof];omega
    ·rename_i ht
     rw[if_neg ht] at h1 h2;split
     ·rename_i ht
      rw[if_pos ht,z2c] at h1 h2;exact zzy _ _ _ h1 h2
     ·rename_i ht
      rw[if_neg ht] at h1 h2;split
      ·rename_i ht
       rw[if_pos ht,z6e] at h1 h2;rw[z6e];generalize xa*xa+ya*ya=n1 at*;generalize xb*xb+yb*yb=n2 at*;generalize xc*xc+yc*yc=n3 at*;omega
      ·omega
   ·simp[zzv] at h2
  ·simp[zzv] at h1
 ·cases nc<;> simp[zzv]
theorem zft{t:Int}{nu:Bool}{a:zab}(h:zaf a t nu=true):(-1048576<=a.2.2.2.1/\a.2.2.2.1<=1048576)/\ -1048576<=a.2.2.2.2/\a.2.2.2.2<=1048576:=by
 obtain⟨na,ia,sa,xa,ya⟩:=a;unfold zaf at h;show(-1048576<=xa/\xa<=1048576)/\ -1048576<=ya/\ya<=1048576;cases na
 ·simp only[Bool.false_eq_true,if_false] at h
  by_cases h0:t=0
  ·subst h0;simp at h;omega
  ·by_cases h1:t=1
   ·subst h1;simp at h;omega
   ·by_cases h2:t=2
    ·subst h2;simp at h;omega
    ·by_cases h3:t=3
     ·subst h3;simp[inBox] at h;omega
     ·simp[h0,h1,h2,h3] at h
 ·simp at h;omega
open Go Go.RowKit
abbrev zc7:=Int × Bool × zab × zab
def zbs:zc7:=(0,false,zaz,zaz)
def zb3(s:zc7):List Value:= .int .i64 s.1:: .bool s.2.1::(zan s.2.2.1++zan s.2.2.2)
def nullsL(l:List zab):Nat:=(l.filter fun c=>c.1).length
structure IsStat(t:Int)(l:List zab)(s:zc7):Prop where
 nulls:s.1=(nullsL l:Int)
 has:s.2.1=true↔ ∃c∈l,c.1=false
 none:s.2.1=false->s.2.2.1=zaz/\s.2.2.2=zaz
 least:s.2.1=true->(s.2.2.1∈l/\s.2.2.1.1=false)/\ ∀c∈l,c.1=false->zh2 t s.2.2.1 c<=0
 most:s.2.1=true->(s.2.2.2∈l/\s.2.2.2.1=false)/\ ∀c∈l,c.1=false->zh2 t c s.2.2.2<=0
theorem zur(t:Int)(c:zab):zh2 t c c=0:=by have:=zm3 t c c;omega
theorem zsr(a b:List zab):nullsL (a++b)=nullsL a+nullsL b:=by unfold nullsL;rw[List.filter_append,List.length_append]
theorem zih(l:List zab):nullsL l<=l.length:=List.length_filter_le _ _
def zjt(c:zab):zc7:=if c.1 then(1,false,zaz,zaz) else(0,true,c,c)
theorem zqx(t:Int):IsStat t [] zbs:=⟨rfl,by simp[zbs],fun _=>⟨rfl,rfl⟩,fun h=>by simp[zbs] at h,fun h=>by simp[zbs] at h⟩
theorem zqy(t:Int)(c:zab):IsStat t [c] (zjt c):=by
 have h0:=zur t c;unfold zjt;cases hc:c.1 with
 |true=>
  rw[if_pos rfl];exact⟨by simp[nullsL,hc],by simp[hc],fun _=>⟨rfl,rfl⟩,fun h=>by simp at h,fun h=>by simp at h⟩
 |false=>
  rw[if_neg (by simp)];refine⟨by simp[nullsL,hc],by simp[hc],fun h=>by simp at h,fun _=>⟨⟨by simp,hc⟩,fun d hd _=>?_⟩,fun _=>⟨⟨by simp,hc⟩,fun d hd _=>?_⟩⟩
  ·rw[List.mem_singleton.1 hd]
   show zh2 t c c<=0;omega
  ·rw[List.mem_singleton.1 hd]
   show zh2 t c c<=0;omega
def zl5(t:Int)(a b:zc7):zc7:=
 if a.2.1 then(a.1+b.1,true,if b.2.1&&decide (zh2 t b.2.2.1 a.2.2.1<0) then b.2.2.1 else a.2.2.1,if b.2.1&&decide (0<zh2 t b.2.2.2 a.2.2.2) then b.2.2.2 else a.2.2.2)
 else if b.2.1 then(a.1+b.1,true,b.2.2.1,b.2.2.2) else(a.1+b.1,false,zaz,zaz)
theorem IsStat.merge{t:Int}{a b:List zab}{x y:zc7}(h:IsStat t a x)(k:IsStat t b y):IsStat t (a++b) (zl5 t x y):=by
 obtain⟨xn,xh,x1,x2⟩:=x;obtain⟨yn,yh,y1,y2⟩:=y;obtain⟨h1,h2,h3,h4,h5⟩:=h;obtain⟨k1,k2,k3,k4,k5⟩:=k;dsimp only at*;have hn:xn+yn=(nullsL (a++b):Int):=by rw[zsr];omega
 have hex:(∃c∈a++b,c.1=false)↔(xh=true\/yh=true):=by
  rw[h2,k2];constructor
  ·rintro⟨c,hc,e⟩
   rcases List.mem_append.1 hc with hc|hc
   ·exact .inl ⟨c,hc,e⟩
   ·exact .inr ⟨c,hc,e⟩
  ·rintro(⟨c,hc,e⟩|⟨c,hc,e⟩)
   ·exact⟨c,List.mem_append_left _ hc,e⟩
   ·exact⟨c,List.mem_append_right _ hc,e⟩
 unfold zl5;dsimp only;cases xh with
 |true=>
  rw[if_pos rfl];obtain⟨⟨p1,p2⟩,p3⟩:=h4 rfl;obtain⟨⟨q1,q2⟩,q3⟩:=h5 rfl;cases yh with
  |false=>
   have hno:∀c∈b,c.1=false->False:=fun c hc e=>by have:=k2.2 ⟨c,hc,e⟩;simp at this
   simp only[Bool.false_and,Bool.false_eq_true,if_false];refine⟨hn,?_,?_,?_,?_⟩
   ·rw[hex];simp
   ·intro h;simp at h
   ·intro _
    exact⟨⟨List.mem_append_left _ p1,p2⟩,fun c hc e=>by
     rcases List.mem_append.1 hc with hc|hc
     ·exact p3 c hc e
     ·exact(hno c hc e).elim⟩
   ·intro _
    exact⟨⟨List.mem_append_left _ q1,q2⟩,fun c hc e=>by
     rcases List.mem_append.1 hc with hc|hc
     ·exact q3 c hc e
     ·exact(hno c hc e).elim⟩
  |true=>
   obtain⟨⟨u1,u2⟩,u3⟩:=k4 rfl;obtain⟨⟨v1,v2⟩,v3⟩:=k5 rfl;simp only[Bool.true_and,decide_eq_true_eq];refine⟨hn,?_,?_,?_,?_⟩
   ·rw[hex];simp
   ·intro h;simp at h
   ·intro _
    dsimp only;by_cases hlt:zh2 t y1 x1<0
    ·rw[if_pos hlt]
     exact⟨⟨List.mem_append_right _ u1,u2⟩,fun c hc e=>by
      rcases List.mem_append.1 hc with hc|hc
      ·exact zi4 (by omega) (p3 c hc e)
      ·exact u3 c hc e⟩
    ·rw[if_neg hlt]
     have hg:zh2 t x1 y1<=0:=by rw[zm3];omega
     exact⟨⟨List.mem_append_left _ p1,p2⟩,fun c hc e=>by
      rcases List.mem_append.1 hc with hc|hc
      ·exact p3 c hc e
      ·exact zi4 hg (u3 c hc e)⟩
   ·intro _
    dsimp only;by_cases hlt:0<zh2 t y2 x2
    ·rw[if_pos hlt]
     have hg:zh2 t x2 y2<=0:=by rw[zm3];omega
     exact⟨⟨List.mem_append_right _ v1,v2⟩,fun c hc e=>by
      rcases List.mem_append.1 hc with hc|hc
      ·exact zi4 (q3 c hc e) hg
      ·exact v3 c hc e⟩
    ·rw[if_neg hlt]
     exact⟨⟨List.mem_append_left _ q1,q2⟩,fun c hc e=>by
      rcases List.mem_append.1 hc with hc|hc
      ·exact q3 c hc e
      ·exact zi4 (v3 c hc e) (by omega)⟩
 |false=>
  have hno:∀c∈a,c.1=false->False:=fun c hc e=>by have:=h2.2 ⟨c,hc,e⟩;simp at this
  rw[if_neg (by simp)];cases yh with
  |false=>
   rw[if_neg (by simp)];exact⟨hn,by rw[hex];simp,fun _=>⟨rfl,rfl⟩,fun h=>by simp at h,fun h=>by simp at h⟩
  |true=>
   rw[if_pos rfl];obtain⟨⟨u1,u2⟩,u3⟩:=k4 rfl;obtain⟨⟨v1,v2⟩,v3⟩:=k5 rfl;refine⟨hn,by rw[hex];simp,fun h=>by simp at h,?_,?_⟩
   ·intro _
    exact⟨⟨List.mem_append_right _ u1,u2⟩,fun c hc e=>by
     rcases List.mem_append.1 hc with hc|hc
     ·exact(hno c hc e).elim
     ·exact u3 c hc e⟩
   ·intro _
    exact⟨⟨List.mem_append_right _ v1,v2⟩,fun c hc e=>by
     rcases List.mem_append.1 hc with hc|hc
     ·exact(hno c hc e).elim
     ·exact v3 c hc e⟩
theorem IsStat.uniq{t:Int}{l:List zab}(hr:∀c∈l,zaf c t true=true)(h8:∀c∈l,∀z∈c.2.2.1,z<256){x y:zc7}(h:IsStat t l x)(k:IsStat t l y):x=y:=by
 obtain⟨xn,xh,x1,x2⟩:=x;obtain⟨yn,yh,y1,y2⟩:=y;obtain⟨h1,h2,h3,h4,h5⟩:=h;obtain⟨k1,k2,k3,k4,k5⟩:=k;dsimp only at*;have hh:xh=yh:=by rw[Bool.eq_iff_iff,h2,k2]
 subst hh;have key:∀{a b:zab},a∈l->b∈l->zh2 t a b<=0->zh2 t b a<=0->a=b:=fun {a b} ha hb p q=>by rw[zm3] at q;exact(z6g (hr a ha) (hr b hb) (h8 a ha) (h8 b hb)).1 (by omega)
 rw[show xn=yn by omega];cases xh with
 |false=>
  rw[(h3 rfl).1,(h3 rfl).2,(k3 rfl).1,(k3 rfl).2]
 |true=>
  obtain⟨⟨p1,p2⟩,p3⟩:=h4 rfl;obtain⟨⟨q1,q2⟩,q3⟩:=h5 rfl;obtain⟨⟨u1,u2⟩,u3⟩:=k4 rfl;obtain⟨⟨v1,v2⟩,v3⟩:=k5 rfl;rw[key p1 u1 (p3 _ u1 u2) (u3 _ p1 p2),key q1 v1 (v3 _ q1 q2) (q3 _ v1 v2)]
def zbu(t:Int)(s:zc7):Bool:=
 if t<0\/3<t\/s.1<0\/65536<s.1 then false
 else if s.2.1 then zaf s.2.2.1 t false&&(zaf s.2.2.2 t false&&decide (zh2 t s.2.2.1 s.2.2.2<=0))
 else decide (s.2.2.1=zaz)&&decide (s.2.2.2=zaz)
theorem zog{c:zab}{t:Int}(h:zaf c t true=true)(hc:c.1=false):zaf c t false=true:=by unfold zaf at h⊢;rw[hc] at h⊢;simpa using h
theorem IsStat.right{t:Int}{l:List zab}{s:zc7}(h:IsStat t l s)(hr:∀c∈l,zaf c t true=true)(ht:0<=t/\t<=3)(hl:l.length<=65536):zbu t s=true:=by
 unfold zbu;have hn:=zih l;have:=h.nulls;rw[if_neg (by omega)];cases hh:s.2.1 with
 |false=>
  obtain⟨e1,e2⟩:=h.none hh;simp[e1,e2]
 |true=>
  obtain⟨⟨p1,p2⟩,p3⟩:=h.least hh;obtain⟨⟨q1,q2⟩,q3⟩:=h.most hh;simp[zog (hr _ p1) p2,zog (hr _ q1) q2,p3 _ q1 q2]
open Go Go.RowKit
def zbz(s:zc7):Value:= .agg (zb3 s).toArray
end Go.Hm
namespace Go.Proofs.Y
open Go.RowKit Go.Hm
set_option maxRecDepth 100000 in
theorem z2e{w:World}(c:zab):Calls Tryz.prog 129 #[zca c] w (zak (zbz (zjt c)) w):=by
 obtain⟨b,n,s,x,y⟩:=c;cases b with
 |true=>
  show Calls Tryz.prog 129 #[.agg #[.bool true,.int .i64 n,.string (zac s),.int .i64 x,.int .i64 y]] w (zak (zbz (1,false,zaz,zaz)) w);go_enter Tryz.func129,Tryz.ntmps129
  go_wp2
  exact bodyPost_ret (v:=zbz (1,false,zaz,zaz)) (by simp[results,Tryz.results129,go_sem,zbz,zb3,zan,zaz,show zac []=⟨#[]⟩ from rfl]) rfl ⟨rfl,zqo w _ _⟩
 |false=>
  show Calls Tryz.prog 129 #[.agg #[.bool false,.int .i64 n,.string (zac s),.int .i64 x,.int .i64 y]] w (zak (zbz (0,true,(false,n,s,x,y),(false,n,s,x,y))) w);have B0:=Blk.new w 61 #[.bool false,.int .i64 n,.string (zac s),.int .i64 x,.int .i64 y];obtain⟨x0,x1,x2,x3,x4⟩:=zcb (B0.alloc (.cells #[.int .i64 0,.bool false,.bool false,.int .i64 0,.string ⟨#[]⟩,.int .i64 0,.int .i64 0,.bool false,.int .i64 0,.string ⟨#[]⟩,.int .i64 0,.int .i64 0] 63));clear B0;go_enter Tryz.func129,Tryz.ntmps129
  go_wp2
  exact bodyPost_ret (v:=zbz (0,true,(false,n,s,x,y),(false,n,s,x,y))) (by simp[results,Tryz.results129,go_sem,zbz,zb3,zan]) rfl ⟨rfl,zqo w _ _⟩
open Go.RowKit Go.Hm
theorem z8z{w W:World}{e e2:TypeId}{a b c d f:Value}{o:Array Value}(h:New ((w.alloc (.cells #[a,b,c,d,f] e)).alloc (.cells o e2)) W):
 W.cell? ⟨w.heap.size,0,none⟩=some a/\W.cell? ⟨w.heap.size,1,none⟩=some b/\W.cell? ⟨w.heap.size,2,none⟩=some c/\W.cell? ⟨w.heap.size,3,none⟩=some d/\W.cell? ⟨w.heap.size,4,none⟩=some f:=
 have B:=(Blk.new w e #[a,b,c,d,f]).alloc (.cells o e2)
 zcb (B.below h B.lt)
set_option maxRecDepth 100000 in
theorem zyk{w:World}(x y:Int):
 Calls Tryz.prog 101 #[.agg #[.int .i64 x,.int .i64 y]] w (zak (.bool (inBox x y)) w):=by
 obtain⟨W0,hW0⟩:∃W,W=w.alloc (.cells #[.int .i64 x,.int .i64 y] 59):=⟨_,rfl⟩;have b0:New w W0:=by rw[hW0];exact(Below.refl _ _).alloc (Nat.le_refl _) _
 have B0:Blk W0 w.heap.size 59 #[.int .i64 x,.int .i64 y]:=by rw[hW0];exact Blk.new _ _ _
 obtain⟨x0,x1⟩:=za7 B0;have HO:=Hz (show inBox x y=(decide (-1048576<=x)&&decide (x<=1048576)&&decide (-1048576<=y)&&decide (y<=1048576)) from rfl);generalize inBox x y=O at*;rw[hW0] at x0 x1;clear B0;cases h1:decide (-1048576<=x)<;> cases h2:decide (x<=1048576)<;> cases h3:decide (-1048576<=y)<;> cases h4:decide (y<=1048576);all_goals
  rw[h1,h2,h3,h4] at HO;go_enter Tryz.func101,Tryz.ntmps101
  go_wp2
  go_ret
  exact⟨by rw[HO.out];rfl,by rw[<-hW0];exact b0⟩
set_option maxRecDepth 100000 in
theorem zpp{w:World}{b:Bool}{n:Int}{s:List Nat}{x y:Int}{cn:List Nat}{t:Int}{nu:Bool}(hs:s.length<=140737488351232):
 Calls Tryz.prog 67 #[.agg #[.bool b,.int .i64 n,.string (zac s),.int .i64 x,.int .i64 y],.agg #[.string (zac cn),.int .i64 t,.bool nu]] w (zak (.bool (zaf (b,n,s,x,y) t nu)) w):=by
 have z1:=za4 s;generalize hO:zaf (b,n,s,x,y) t nu=O;have HO:=Hz hO;have Z:=Hz (zjf (s:=s));clear hO;have B0:=Blk.new w 61 #[.bool b,.int .i64 n,.string (zac s),.int .i64 x,.int .i64 y];have B1:=Blk.new (w.alloc (.cells #[.bool b,.int .i64 n,.string (zac s),.int .i64 x,.int .i64 y] 61)) 70 #[.string (zac cn),.int .i64 t,.bool nu];obtain⟨x0,x1,x2,x3,x4⟩:=zcb (B0.alloc (.cells #[.string (zac cn),.int .i64 t,.bool nu] 70));obtain⟨y0,y1,y2⟩:=zad B1;clear B0 B1;go_enter Tryz.func67,Tryz.ntmps67
 go_wp2_with (first
  |(go_at_call 101;refine(zyk x y).mono ?_;rintro e w' ⟨rfl,b1⟩;obtain⟨p0,p1,p2,p3,p4⟩:=z8z b1))
 all_goals go_ret
 all_goals try refine⟨?_,zqo w _ _⟩
 all_goals try refine⟨?_,New.trans (zqo w _ _) (by assumption)⟩
 all_goals
  rw[<-HO.out];have Z:=Z.out;clear x0 x1 x2 x3 x4 y0 y1 y2 HO;try clear p0 p1 p2 p3 p4
  simp_all[zaf]
 ·by_cases h1:n=1<;> simp[*]
 ·omega
end Go.Proofs.Y
