import Derived.Test.YtmgfkpnghlmheaaGreatBun7
import Derived.Test.YtmgfkpnghlmheaaGreatBun9
set_option maxHeartbeats 1000000
set_option maxRecDepth 100000
namespace Go.Hm
open Go.Proofs Go.Proofs.Tryz Go.RowKit Go.ChangeShapes Go.Deep Go.Maps Go.WideShapes
variable{a:Int}{b:Program}{d:Exit->Act->World->Prop}{e:Nat}{f:Bool}{g:Array Oper}{h:Oper}{i:Act}
section
variable{H:Type}{enc:TypeId × Value->H}{P:Program}{W:World}{t e:TypeId}{cs:List Value}{n:Nat}
def pM(P:Program)(t:TypeId):Array Field:=match P.underlying t with|some (.struct fs)=>fs|_=> #[]
theorem iK.part(h:iK enc P W t cs)(k:P.underlying t=some (.struct (pM P t)))(i c n:Nat){ft:TypeId}(b:((pM P t)[i]?.map λf=>(f.type,f.offset))=some (ft,c))(j:P.cellsOf ft=n):iK enc P W ft ((cs.drop c).take n):=by obtain⟨_,a⟩:=h.field k;cases hfi:(pM P t)[i]? with|none=>rw[hfi] at b;cases b|some f=>rw[hfi] at b;simp only[yQ,yR,lW] at b;obtain⟨d,g⟩:=b;have:=a i f hfi;rw[d,g,j] at this;exact this
theorem iK.partLen(h:iK enc P W t cs)(b:P.underlying t=some (.struct (pM P t)))(a:P.cellsOf t=n):cs.length=n:=(h.field b).1.trans a
theorem C8(l:List Int):recs (λn:Int=>[.int .i64 n]) l=cY .i64 l:=by induction l with|nil=>rfl|cons x l a=>rw[Ct,a];rfl
theorem iK.ints_{te:TypeId}(r:P.underlying t=some (.slice te))(p:P.cellsOf te=1)(a:P.bytesOf te=8)(hi:P.underlying te=some (.int .i64))(h:iK enc P W t cs):∃A c,∃l:List Int,cs=[.slice A l.length c]/\l.length<=c/\c*8<=140737488351232/\aF W W.heap.size 1 A l.length (cY .i64 l)/\ ∀x∈l,-9223372036854775808<=x/\x<=9223372036854775807:=by obtain⟨A,c,l,i,j,_,k,m,o⟩:=h.recs (f:=λn:Int=>[.int .i64 n]) (sz:=1) (by_:=8) (Q:=λx=> -9223372036854775808<=x/\x<=9223372036854775807) 0 r p a (λ_=>rfl) (by omega) (λcs q=>by obtain⟨n,b,d,g⟩:=q.i64 hi;exact⟨n,b,d,g⟩);exact⟨A,c,l,i,j,by unfold reachBytes at k;omega,by rw[<-C8];exact m,o⟩
theorem Qg{α:Type}{l:List α}(h:l.length=3):∃a b c,l=[a,b,c]:=by match l,h with| [a,b,c],_=>exact⟨a,b,c,rfl⟩
end
abbrev wX:=DataW Unit
def uG(p:Nat):Value:= .int .u64 (p:Int)
def pO(p:Nat):wX:= .lit (.int .u64 (p:Int))
def Kj:Value->Option (wX × List MemPlace)| .int .u64 a=>some (.lit (.int .u64 a),[])|_=>none
theorem U8(p:Nat):Kj (uG p)=some (pO p,[]):=rfl
theorem U7{v:Value}{z:wX × List MemPlace}(h:Kj v=some z):∃p:Int,v= .int .u64 p/\z=(.lit (.int .u64 p),[]):=by unfold Kj at h;split at h;rename_i a;exact⟨a,rfl,(vF h).symm⟩;cases h
def vH(c:aJ):Prop:=∀z∈c.2.2.1,z<256
theorem TJ{c d:aJ}(g:vH c)(i:vH d)(h:eF c=eF d):c=d:=by obtain⟨j,l,m,o,p⟩:=c;obtain⟨q,r,t,u,v⟩:=d;simp only[eF,aU,Value.agg.injEq,Array.mk.injEq,pE,Value.bool.injEq,Value.int.injEq,Value.string.injEq,true_and,and_true] at h;obtain⟨rfl,rfl,e,rfl,rfl⟩:=h;have:=congrArg (λs=>s.toList) e;have a:=Be g i;dsimp only at this a;rw[this] at a;simp at a;rw[a]
theorem DP{t:TypeId}{c:Array Field}{cs:List Value}{L:List (TypeId × Nat)}(h:b.underlying t=some (.struct c))(a:cs.length=b.cellsOf t)(g:c.all (·.name != "_")=true)(i:c.toList.map (λf=>(f.type,f.offset))=L):b.keyLits (e+1) t cs=(L.mapM λp=>b.keyLits e p.1 ((cs.drop p.2).take (b.cellsOf p.1))).map List.flatten:=by rw[<-i,List.mapM_map];(conv=>lhs;unfold Program.keyLits);simp only[h];rw[if_pos ⟨a,g⟩];rfl
theorem J0{t:TypeId}(a:b.underlying t=some .bool):b.keyLits (e+1) t [.bool f]=some [.bool f]:=by unfold Program.keyLits;simp only[a]
theorem Qe{t:TypeId}(f:b.underlying t=some (.int .i64))(h: -9223372036854775808<=a/\a<=9223372036854775807):b.keyLits (e+1) t [.int .i64 a]=some [.int .i64 a]:=by(have c:(Lit.int .i64 a).wf=true:=by simp[Lit.wf,IntKind.min,IntKind.max,IntKind.signed,IntKind.bits];omega);unfold Program.keyLits;simp[f,c]
theorem J1{t:TypeId}{s:ByteArray}(a:b.underlying t=some .string)(h:s.size<=maxLen):b.keyLits (e+1) t [.string s]=some [.string s.data.toList]:=by unfold Program.keyLits;simp[a,h]
section
variable{P:Program}{k e:TypeId}
def mK(P:Program)(k:TypeId)(w:World)(b n:Nat)(f:aJ->Option Nat):Prop:=∃D:wX,w.ownsMap P k Kj b n D/\IsMap D/\ ∀c kl,vH c->keyOf P k (eF c)=some kl-> ∀zd,D.atKey kl zd=((f c).map pO).getD zd
theorem mK.made(w:World):mK P k (w.alloc (.map #[] 0)) w.heap.size 0 λ_=>none:=⟨.map [],World.ownsMap_made _ _ _ _,isMap_empty,λ_ _ _ _ _=>rfl⟩
variable{w:World}{b n:Nat}{f:aJ->Option Nat}
theorem mK.kept{c:World}{row:Option Nat}(h:mK P k w b n f)(j:w.grownBy c row)(a:some b≠row):mK P k c b n f:=by obtain⟨D,d,g,i⟩:=h;exact⟨D,d.kept j a,g,i⟩
theorem mK.lt(h:mK P k w b n f):b<w.heap.size:=by obtain⟨D,a,_⟩:=h;exact a.lt
theorem mK.eqf{f':aJ->Option Nat}(h:mK P k w b n f)(e:∀c,vH c->f c=f' c):mK P k w b n f':=by obtain⟨D,d,g,i⟩:=h;exact⟨D,d,g,λc l a j m=>by rw[i c l a j m,e c a]⟩
theorem mK.look{t:TypeId}(h:mK P k w b n f)(K:Keyed P k)(v:P.underlying t=some (.map k e))(x:(zeroValue e).run P w= .ok (uG 0) w){c:aJ}(s:vH c)(d:∃kl,keyOf P k (eF c)=some kl):(Instr.lookup t (.map (some b)) (eF c) true).run P w= .ok (.tuple #[uG ((f c).getD 0),.bool (f c).isSome]) w:=by obtain⟨D,⟨A,l,r,F,_,rfl⟩,B,o⟩:=h;obtain⟨kl,d⟩:=d;have i:=o c kl s d;rcases fit_look true K v x r F d with⟨a,_,g⟩|⟨z,y,_,_,a,m,g,_⟩;(cases hf:f c with|none=>exact a|some p=>rw[hf] at i;have j:=(g .nil).symm.trans (i .nil);cases j);obtain⟨p,u,rfl⟩:=U7 m;rw[u] at a;cases hf:f c with|none=>rw[hf] at i;have j:=(g .nil).symm.trans (i .nil);cases j|some q=>rw[hf] at i;have j:(DataW.lit (.int .u64 p):wX)=pO q:=(g .nil).symm.trans (i .nil);simp only[pO,DataW.lit.injEq,Lit.int.injEq,true_and] at j;rw[j] at a;exact a
theorem mK.put{t:TypeId}(h:mK P k w b n f)(K:Keyed P k)(z:P.underlying t=some (.map k e))(x:n<maxLen){c:aJ}(s:vH c)(a:∃kl,keyOf P k (eF c)=some kl)(p:Nat):∃w',(Instr.mapUpdate t (.map (some b)) (eF c) (uG p)).run P w= .ok () w'/\mK P k w' b (n+1) (λd=>if d=c then some p else f d)/\w.grownBy w' (some b):=by obtain⟨D,q,l,r⟩:=h;obtain⟨kl,a⟩:=a;obtain⟨w',g,y,u⟩:=q.update K z x a (U8 p);refine⟨w',g,⟨_,y,l.put _ _,λd A m i o=>?_⟩,u⟩;by_cases j:d=c;subst j;rw[i] at a;obtain rfl:=vF a;show _=((if d=d then some p else f d).map pO).getD o;rw[if_pos rfl,atKey_put_same l (K.key i)];rfl;show _=((if d=c then some p else f d).map pO).getD o;rw[if_neg j,atKey_put_other,r d A m i];intro v;subst v;exact j (TJ m s (K.inj i a))
theorem MU{rest:List Oper}(r:h.guard=none)(m x:Operand)(t:TypeId)(p:h.op=Op.lookup t m x true)(K:Keyed P k)(u:P.underlying t=some (.map k e))(y:(zeroValue e).run P w= .ok (uG 0) w)(B:mK P k w b n f){c:aJ}(q:vH c)(A:∃kl,keyOf P k (eF c)=some kl)(s:i.eval m= .map (some b))(v:i.eval x=eF c)(C:wpList P g d rest (i.put h.dst (.tuple #[uG ((f c).getD 0),.bool (f c).isSome])) w):wpList P g d (h::rest) i w:=by refine wpList_plain r λz l=>?_;have D:=B.look K u y q A;unfold Oper.wp;simp[execOp,p,s,v,D,Result.andThen];exact l _ _ C
theorem rp{rest:List Oper}(u:h.guard=none)(m x v:Operand)(t:TypeId)(r:h.op=Op.mapUpdate t m x v)(K:Keyed P k)(A:P.underlying t=some (.map k e))(J:mK P k w b n f)(z:n<maxLen){c:aJ}(s:vH c)(H:∃kl,keyOf P k (eF c)=some kl)(p:Nat)(y:i.eval m= .map (some b))(C:i.eval x=eF c)(B:i.eval v=uG p)(I:∀w',mK P k w' b (n+1) (λG=>if G=c then some p else f G)->w.grownBy w' (some b)->wpList P g d rest (i.put h.dst undef) w'):wpList P g d (h::rest) i w:=by refine wpList_plain u λF q=>?_;obtain⟨w',j,D,E⟩:=J.put K A z s H p;unfold Oper.wp;simp[execOp,r,y,C,B,j,Result.andThen];exact q _ _ (I w' D E)
end
theorem I9{c:aJ}(A:c.2.2.1.length<=140737488351232)(s: -9223372036854775808<=c.2.1/\c.2.1<=9223372036854775807)(t: -9223372036854775808<=c.2.2.2.1/\c.2.2.2.1<=9223372036854775807)(u: -9223372036854775808<=c.2.2.2.2/\c.2.2.2.2<=9223372036854775807):∃kl,keyOf prog 61 (eF c)=some kl:=by
 obtain⟨d,g,a,h,i⟩:=c;dsimp only at A s t u;have l:prog.underlying 61=some (.struct (pM prog 61)):=by kernel_rfl
 have D:prog.underlying 59=some (.struct (pM prog 59)):=by kernel_rfl
 have F:prog.keyType 61=true:=by kernel_rfl
 have p:prog.cellsOf 61=5:=by kernel_rfl
 have r:prog.cellsOf 59=2:=by kernel_rfl
 have q:prog.cellsOf 3=1:=by kernel_rfl
 have v:prog.cellsOf 4=1:=by kernel_rfl
 have x:prog.cellsOf 9=1:=by kernel_rfl
 have o:prog.underlying 3=some (.int .i64):=by kernel_rfl
 have I:prog.underlying 4=some .bool:=by kernel_rfl
 have J:prog.underlying 9=some .string:=by kernel_rfl
 have y:(pM prog 61).toList.map (λf=>(f.type,f.offset))=[(4,0),(3,1),(9,2),(59,3)]:=by kernel_rfl
 have z:(pM prog 59).toList.map (λf=>(f.type,f.offset))=[(3,0),(3,1)]:=by kernel_rfl
 have G:(pM prog 61).all (·.name != "_")=true:=by kernel_rfl
 have H:(pM prog 59).all (·.name != "_")=true:=by kernel_rfl
 obtain⟨m,C⟩:∃m,prog.types.size=m+2:=⟨prog.types.size-2,by have:2<=prog.types.size:=of_decide_eq_true (by kernel_rfl);omega⟩;have B:(eF (d,g,a,h,i)).formed prog 61=true:=by simp[eF,aU,Value.formed,l,p]
 unfold keyOf;rw[l];simp only[F,B,Bool.and_self,if_true,C];have E:(aH a).size<=maxLen:=by rw[iP];unfold maxLen;omega
 have j:(eF (d,g,a,h,i)).cells.toList=[.bool d,.int .i64 g,.string (aH a),.int .i64 h,.int .i64 i]:=by simp[eF,aU,Value.cells]
 rw[j,DP l (by rw[p];rfl) G y];simp only[List.mapM_cons,List.mapM_nil,v,q,x,r,Gy,yI,tU,lO];rw[J0 I,Qe o s,J1 J E,DP D (by rw[r];rfl) H z];simp only[List.mapM_cons,List.mapM_nil,q,Gy,yI,tU,lO];rw[Qe o t,Qe o u];exact⟨_,rfl⟩
theorem ix:(61:TypeId)<prog.types.size:=of_decide_eq_true (by kernel_rfl)
theorem Qd:Maps.Keyed prog 61:=Maps.Keyed.of_law (deep_law_laid Tryz.laidOut (m:=3) (by omega) ix (by kernel_rfl) (by kernel_rfl))
theorem Qh:prog.underlying 222=some (.map 61 87):=by kernel_rfl
theorem NW(w:World):(zeroValue 87).run prog w= .ok (uG 0) w:=by kernel_rfl
set_option maxRecDepth 100000
abbrev cF:=Option Addr × Nat × List aJ
def lI(d:cF):List Value:=[.slice d.1 d.2.2.length d.2.1]
theorem M9{α:Type}{l:List α}(h:l.length=5):∃a b c d e,l=[a,b,c,d,e]:=by match l,h with| [a,b,c,d,e],_=>exact⟨a,b,c,d,e,rfl⟩
def eT(c:aJ):Prop:=(c.2.2.1.length<=140737488351232/\ ∀z∈c.2.2.1,z<256)/\(-9223372036854775808<=c.2.1/\c.2.1<=9223372036854775807)/\(-9223372036854775808<=c.2.2.2.1/\c.2.2.2.1<=9223372036854775807)/\(-9223372036854775808<=c.2.2.2.2/\c.2.2.2.2<=9223372036854775807)
section
variable{H:Type}{enc:TypeId × Value->H}{W:World}{base:Nat}{v:Value}{d:DataW H}{ps:List MemPlace}
theorem ZT{cs:List Value}(h:iK enc prog W 61 cs):∃c:aJ,cs=aU c/\eT c:=by
 have a:prog.underlying 61=some (.struct (pM prog 61)):=by kernel_rfl
 have e:prog.underlying 59=some (.struct (pM prog 59)):=by kernel_rfl
 obtain⟨E,F,G,I,J,rfl⟩:=M9 (h.partLen a (n:=5) (by kernel_rfl));have u:=h.part a 0 0 1 (ft:=4) (by kernel_rfl) (by kernel_rfl);have w:=h.part a 1 1 1 (ft:=3) (by kernel_rfl) (by kernel_rfl);have z:=h.part a 2 2 1 (ft:=9) (by kernel_rfl) (by kernel_rfl);have l:=h.part a 3 3 2 (ft:=59) (by kernel_rfl) (by kernel_rfl);have A:=l.part e 0 0 1 (ft:=3) (by kernel_rfl) (by kernel_rfl);have B:=l.part e 1 1 1 (ft:=3) (by kernel_rfl) (by kernel_rfl);obtain⟨b,f⟩:=u.bool (by kernel_rfl);obtain⟨n,g,r,t⟩:=w.i64 (by kernel_rfl);obtain⟨s,i,C,D⟩:=z.string (by kernel_rfl);obtain⟨x,j,m,o⟩:=A.i64 (by kernel_rfl);obtain⟨y,k,p,q⟩:=B.i64 (by kernel_rfl);simp only[Gy,yI,tU,lO,pE,and_true] at f g i j k;subst f g i j k;exact⟨(b,n,s,x,y),rfl,⟨D,C⟩,⟨r,t⟩,⟨m,o⟩,p,q⟩
theorem ZU{cs:List Value}(h:iK enc prog W 71 cs):∃x:cF,cs=lI x/\(aF W W.heap.size 5 x.1 x.2.2.length (recs aU x.2.2)/\(∀y∈x.2.2,eT y)/\x.2.2.length<=x.2.1/\x.2.1<=9223372036854775807/\(x.1=none->x.2.1=0)):=by(have g:prog.underlying 71=some (.slice 61):=by kernel_rfl);obtain⟨A,c,l,j,k,_,m,n,o⟩:=h.recs (f:=aU) (sz:=5) (by_:=48) (Q:=eT) (false,0,[],0,0) g (by kernel_rfl) (by kernel_rfl) (λ_=>rfl) (by omega) (λcs b=>ZT b);subst j;refine⟨(A,c,l),rfl,n,o,k,(show c<=9223372036854775807 by unfold reachBytes at m;omega),?_⟩;rcases h.slice g with e|⟨a,p,i,e,_⟩;simp only[pE,Value.slice.injEq,and_true] at e;exactλ_=>e.2.2;simp only[pE,Value.slice.injEq,and_true] at e;intro b;rw[e.1] at b;cases b
end
theorem Wd:∀a b:List UInt8,Lib.compareBytes b a= -Lib.compareBytes a b| [],[]=>by simp[Lib.compareBytes]| [],_::_=>by simp[Lib.compareBytes]|_::_,[]=>by simp[Lib.compareBytes]|x::a,y::b=>by have ih:=Wd a b;unfold Lib.compareBytes;by_cases c:x<y;have d: ¬y<x:=λh=>OW _ (UInt8.lt_trans h c);rw[if_neg d,if_pos c,if_pos c];rfl;by_cases d:y<x;rw[if_pos d,if_neg c,if_pos d];rw[if_neg d,if_neg c,if_neg c,if_neg d,ih]
theorem Wf:∀a b:List UInt8,Lib.compareBytes a b=0↔a=b| [],[]=>by simp[Lib.compareBytes]| [],_::_=>by simp[Lib.compareBytes]|_::_,[]=>by simp[Lib.compareBytes]|x::a,y::b=>by have ih:=Wf a b;unfold Lib.compareBytes;by_cases c:x<y;(have d:x≠y:=by rintro rfl;exact OW _ c);rw[if_pos c];simp[d];by_cases e:y<x;(have d:x≠y:=by rintro rfl;exact c e);rw[if_neg c,if_pos e];simp[d];have f:x=y:=Us (Au.1 e) (Au.1 c);subst f;rw[if_neg c,if_neg c,ih];simp
theorem We:∀a b c:List UInt8,Lib.compareBytes a b<=0->Lib.compareBytes b c<=0->Lib.compareBytes a c<=0| [],b,[]=>by simp[Lib.compareBytes]| [],b,_::_=>by simp[Lib.compareBytes]|_::_,[],c=>by simp[Lib.compareBytes]|_::_,_::_,[]=>by simp[Lib.compareBytes]|x::a,y::b,z::c=>by have ih:=We a b c;unfold Lib.compareBytes;intro f d;by_cases e:x<z;rw[if_pos e];decide;rw[if_neg e];by_cases g:x<y;have k: ¬y<z:=λh=>e (UInt8.lt_trans g h);rw[if_neg k] at d;by_cases m:z<y;rw[if_pos m] at d;omega;have i:y=z:=Us (Au.1 m) (Au.1 k);exact absurd (i▸g) e;rw[if_neg g] at f;by_cases j:y<x;rw[if_pos j] at f;omega;rw[if_neg j] at f;have i:x=y:=Us (Au.1 j) (Au.1 g);subst i;rw[if_neg e] at d;by_cases l:z<x;rw[if_pos l] at d;omega;rw[if_neg l] at d⊢;exact ih f d
theorem UF{b:Bool}(h:(f||b)=true):qC b f= -qC f b:=by cases f<;> cases b<;> simp_all[qC]
theorem Iv(t:Int)(a b:aJ):fG t b a= -fG t a b:=by
 unfold fG;by_cases h:(a.1||b.1)=true;have c:(b.1||a.1)=true:=by rw[Bool.or_comm];exact h
 rw[if_pos c,if_pos h,UF h];have c: ¬(b.1||a.1)=true:=by rw[Bool.or_comm];exact h
 rw[if_neg c,if_neg h,Ix a.2.1,UH a.2.2.2.1,qX,qX,Wd];split;rfl;split;rfl;split;rfl;rfl
theorem EE:∀{a b:List Nat},(∀z∈a,z<256)->(∀z∈b,z<256)->a.map UInt8.ofNat=b.map UInt8.ofNat->a=b| [],[],_,_,_=>rfl| [],_::_,_,_,h=>by simp at h|_::_,[],_,_,h=>by simp at h|x::a,y::b,ha,hb,h=>by rw[cZ,cZ,pE] at h;(have e1:x=y:=by have:=congrArg UInt8.toNat h.1;rw[Ut,Ut,pZ (ha x (by simp)),pZ (hb y (by simp))] at this;exact this);rw[e1,EE (λz c=>ha z (by simp[c])) (λz c=>hb z (by simp[c])) h.2]
theorem UE{nu:Bool}{x b:aJ}(c:aP x a nu=true)(d:aP b a nu=true)(e:∀z∈x.2.2.1,z<256)(f:∀z∈b.2.2.1,z<256):fG a x b=0↔x=b:=by obtain⟨o,q,l,s,v⟩:=x;obtain⟨p,r,m,u,w⟩:=b;simp only at e f;(have n:qX l m=0↔l=m:=by rw[qX,Wf];exact⟨EE e f,λh=>by rw[h]⟩);unfold aP at c d;unfold fG;cases o<;> cases p;simp only[Bool.or_self,tQ,if_false] at c d⊢;by_cases g:a=0;subst g;simp at c d;simp[Bk,c,d];by_cases i:a=1;subst i;simp at c d;simp[Bk,c,d];by_cases j:a=2;subst j;simp at c d;simp[n,c,d];by_cases k:a=3;subst k;simp at c d;simp[UI,c,d];simp[g,i,j,k] at c;simp[qC];simp[qC];simp at c d;simp[qC,c,d]
theorem Iw{w b c:aJ}(e:fG a w b<=0)(f:fG a b c<=0):fG a w c<=0:=by obtain⟨k,m,s,h,ya⟩:=w;obtain⟨l,n,u,i,yb⟩:=b;obtain⟨g,o,v,j,yc⟩:=c;unfold fG at*;cases k;cases l;cases g;simp only[Bool.or_self,tQ,if_false] at e f⊢;split;rename_i d;rw[if_pos d,Ej] at e f;rw[Ej];omega;rename_i d;rw[if_neg d] at e f;split;rename_i d;rw[if_pos d,qX] at e f;exact We _ _ _ e f;rename_i d;rw[if_neg d] at e f;split;rename_i d;rw[if_pos d,Xj] at e f;rw[Xj];generalize h*h+ya*ya=p at*;generalize i*i+yb*yb=q at*;generalize j*j+yc*yc=r at*;omega;omega;simp[qC] at f;simp[qC] at e;cases g<;> simp[qC]
theorem zO{nu:Bool}{l:aJ}(h:aP l a nu=true):(-1048576<=l.2.2.2.1/\l.2.2.2.1<=1048576)/\ -1048576<=l.2.2.2.2/\l.2.2.2.2<=1048576:=by obtain⟨i,j,k,f,g⟩:=l;unfold aP at h;show(-1048576<=f/\f<=1048576)/\ -1048576<=g/\g<=1048576;cases i;simp only[tQ,if_false] at h;by_cases b:a=0;subst b;simp at h;omega;by_cases c:a=1;subst c;simp at h;omega;by_cases d:a=2;subst d;simp at h;omega;by_cases e:a=3;subst e;simp[inBox] at h;omega;simp[b,c,d,e] at h;simp at h;omega
abbrev eU:=Int × Bool × aJ × aJ
def cR:eU:=(0,false,bG,bG)
def cV(s:eU):List Value:= .int .i64 s.1:: .bool s.2.1::(aU s.2.2.1++aU s.2.2.2)
def nullsL(l:List aJ):Nat:=(l.filter λc=>c.1).length
structure jZ(t:Int)(l:List aJ)(s:eU):Prop where
 nulls:s.1=(nullsL l:Int)
 has:s.2.1=true↔ ∃c∈l,c.1=false
 none:s.2.1=false->s.2.2.1=bG/\s.2.2.2=bG
 least:s.2.1=true->(s.2.2.1∈l/\s.2.2.1.1=false)/\ ∀c∈l,c.1=false->fG t s.2.2.1 c<=0
 most:s.2.1=true->(s.2.2.2∈l/\s.2.2.2.1=false)/\ ∀c∈l,c.1=false->fG t c s.2.2.2<=0
theorem Xg(t:Int)(c:aJ):fG t c c=0:=by have:=Iv t c c;omega
theorem U5(a b:List aJ):nullsL (a++b)=nullsL a+nullsL b:=by unfold nullsL;rw[List.filter_append,aN]
theorem Ch(l:List aJ):nullsL l<=l.length:=List.length_filter_le _ _
def rM(c:aJ):eU:=if c.1 then(1,false,bG,bG) else(0,true,c,c)
theorem Qa(t:Int):jZ t [] cR:=⟨rfl,by simp[cR],λ_=>⟨rfl,rfl⟩,λh=>by simp[cR] at h,λh=>by simp[cR] at h⟩
theorem Qb(t:Int)(c:aJ):jZ t [c] (rM c):=by have b:=Xg t c;unfold rM;cases hc:c.1 with|true=>rw[if_pos rfl];exact⟨by simp[nullsL,hc],by simp[hc],λ_=>⟨rfl,rfl⟩,λh=>by simp at h,λh=>by simp at h⟩|false=>rw[if_neg (by simp)];refine⟨by simp[nullsL,hc],by simp[hc],λh=>by simp at h,λ_=>⟨⟨by simp,hc⟩,λd a _=>?_⟩,λ_=>⟨⟨by simp,hc⟩,λd a _=>?_⟩⟩;rw[gE.1 a];show fG t c c<=0;omega;rw[gE.1 a];show fG t c c<=0;omega
def rH(t:Int)(a b:eU):eU:=if a.2.1 then(a.1+b.1,true,if b.2.1&&decide (fG t b.2.2.1 a.2.2.1<0) then b.2.2.1 else a.2.2.1,if b.2.1&&decide (0<fG t b.2.2.2 a.2.2.2) then b.2.2.2 else a.2.2.2) else if b.2.1 then(a.1+b.1,true,b.2.2.1,b.2.2.2) else(a.1+b.1,false,bG,bG)
theorem jZ.merge{S b:List aJ}{x y:eU}(h:jZ a S x)(k:jZ a b y):jZ a (S++b) (rH a x y):=by
 obtain⟨N,I,G,H⟩:=x;obtain⟨yn,v,J,K⟩:=y;obtain⟨O,w,P,L,M⟩:=h;obtain⟨Q,z,R,A,B⟩:=k;dsimp only at*;have j:N+yn=(nullsL (S++b):Int):=by rw[U5];omega
 have i:(∃c∈S++b,c.1=false)↔(I=true\/v=true):=by rw[w,z];constructor;rintro⟨c,d,e⟩;rcases cN.1 d with d|d;exact .inl ⟨c,d,e⟩;exact .inr ⟨c,d,e⟩;rintro(⟨c,d,e⟩|⟨c,d,e⟩);exact⟨c,Dr _ d,e⟩;exact⟨c,Ds _ d,e⟩
 unfold rH;dsimp only;cases I with|true=>rw[if_pos rfl];obtain⟨⟨C,D⟩,o⟩:=L rfl;obtain⟨⟨E,F⟩,p⟩:=M rfl;(cases v with|false=>(have g:∀c∈b,c.1=false->False:=λc d e=>by have:=z.2 ⟨c,d,e⟩;simp at this);simp only[OA,tQ,if_false];refine⟨j,?_,?_,?_,?_⟩;rw[i];simp;intro h;simp at h;intro _;exact⟨⟨Dr _ C,D⟩,λc d e=>by rcases cN.1 d with d|d;exact o c d e;exact(g c d e).elim⟩;intro _;exact⟨⟨Dr _ E,F⟩,λc d e=>by rcases cN.1 d with d|d;exact p c d e;exact(g c d e).elim⟩|true=>obtain⟨⟨q,r⟩,l⟩:=A rfl;obtain⟨⟨s,u⟩,m⟩:=B rfl;simp only[Dl,decide_eq_true_eq];refine⟨j,?_,?_,?_,?_⟩;rw[i];simp;intro h;simp at h;intro _;dsimp only;by_cases f:fG a J G<0;rw[if_pos f];exact⟨⟨Ds _ q,r⟩,λc d e=>by rcases cN.1 d with d|d;exact Iw (by omega) (o c d e);exact l c d e⟩;rw[if_neg f];(have n:fG a G J<=0:=by rw[Iv];omega);exact⟨⟨Dr _ C,D⟩,λc d e=>by rcases cN.1 d with d|d;exact o c d e;exact Iw n (l c d e)⟩;intro _;dsimp only;by_cases f:0<fG a K H;rw[if_pos f];(have n:fG a H K<=0:=by rw[Iv];omega);exact⟨⟨Ds _ s,u⟩,λc d e=>by rcases cN.1 d with d|d;exact Iw (p c d e) n;exact m c d e⟩;rw[if_neg f];exact⟨⟨Dr _ E,F⟩,λc d e=>by rcases cN.1 d with d|d;exact p c d e;exact Iw (m c d e) (by omega)⟩)|false=>(have g:∀c∈S,c.1=false->False:=λc d e=>by have:=w.2 ⟨c,d,e⟩;simp at this);rw[if_neg (by simp)];cases v with|false=>rw[if_neg (by simp)];exact⟨j,by rw[i];simp,λ_=>⟨rfl,rfl⟩,λh=>by simp at h,λh=>by simp at h⟩|true=>rw[if_pos rfl];obtain⟨⟨q,r⟩,l⟩:=A rfl;obtain⟨⟨s,u⟩,m⟩:=B rfl;refine⟨j,by rw[i];simp,λh=>by simp at h,?_,?_⟩;intro _;exact⟨⟨Ds _ q,r⟩,λc d e=>by rcases cN.1 d with d|d;exact(g c d e).elim;exact l c d e⟩;intro _;exact⟨⟨Ds _ s,u⟩,λc d e=>by rcases cN.1 d with d|d;exact(g c d e).elim;exact m c d e⟩
theorem jZ.uniq{l:List aJ}(j:∀c∈l,aP c a true=true)(f:∀c∈l,∀z∈c.2.2.1,z<256){x y:eU}(h:jZ a l x)(k:jZ a l y):x=y:=by
 obtain⟨N,u,S,T⟩:=x;obtain⟨P,O,U,V⟩:=y;obtain⟨Q,v,e,w,A⟩:=h;obtain⟨R,C,m,D,E⟩:=k;dsimp only at*;have B:u=O:=by rw[tP,v,C]
 subst B;have d:∀{W b:aJ},W∈l->b∈l->fG a W b<=0->fG a b W<=0->W=b:=λ{W b} g i p q=>by rw[Iv] at q;exact(UE (j W g) (j b i) (f W g) (f b i)).1 (by omega)
 rw[show N=P by omega];cases u with|false=>rw[(e rfl).1,(e rfl).2,(m rfl).1,(m rfl).2]|true=>obtain⟨⟨n,F⟩,G⟩:=w rfl;obtain⟨⟨o,H⟩,I⟩:=A rfl;obtain⟨⟨r,J⟩,K⟩:=D rfl;obtain⟨⟨s,L⟩,M⟩:=E rfl;rw[d n r (G _ r J) (K _ n F),d o s (M _ o H) (I _ s L)]
def fA(t:Int)(s:eU):Bool:=if t<0\/3<t\/s.1<0\/65536<s.1 then false else if s.2.1 then aP s.2.2.1 t false&&(aP s.2.2.2 t false&&decide (fG t s.2.2.1 s.2.2.2<=0)) else decide (s.2.2.1=bG)&&decide (s.2.2.2=bG)
theorem Rv{c:aJ}(h:aP c a true=true)(b:c.1=false):aP c a false=true:=by unfold aP at h⊢;rw[b] at h⊢;simpa using h
theorem jZ.right{l:List aJ}{s:eU}(h:jZ a l s)(p:∀c∈l,aP c a true=true)(n:0<=a/\a<=3)(k:l.length<=65536):fA a s=true:=by unfold fA;have m:=Ch l;have:=h.nulls;rw[if_neg (by omega)];cases hh:s.2.1 with|false=>obtain⟨e,f⟩:=h.none hh;simp[e,f]|true=>obtain⟨⟨g,i⟩,j⟩:=h.least hh;obtain⟨⟨b,d⟩,o⟩:=h.most hh;simp[Rv (p _ g) i,Rv (p _ b) d,j _ b d]
def dJ(s:eU):Value:= .agg (cV s).toArray
theorem lu{w:World}(c:aJ):Calls prog 129 #[eF c] w (cB (dJ (rM c)) w):=by obtain⟨b,n,s,x,y⟩:=c;cases b with|true=>show Calls prog 129 #[.agg #[.bool true,.int .i64 n,.string (aH s),.int .i64 x,.int .i64 y]] w (cB (dJ (1,false,bG,bG)) w);go_enter func129,ntmps129;go_wp2;exact bodyPost_ret (v:=dJ (1,false,bG,bG)) (by simp[results,Tryz.results129,go_sem,dJ,cV,aU,bG,show aH []=⟨#[]⟩ from rfl]) rfl ⟨rfl,mA w _ _⟩|false=>show Calls prog 129 #[.agg #[.bool false,.int .i64 n,.string (aH s),.int .i64 x,.int .i64 y]] w (cB (dJ (0,true,(false,n,s,x,y),(false,n,s,x,y))) w);have a:=aQ w 61 #[.bool false,.int .i64 n,.string (aH s),.int .i64 x,.int .i64 y];obtain⟨d,e,f,g,h⟩:=gV (a.alloc (.cells #[.int .i64 0,.bool false,.bool false,.int .i64 0,.string ⟨#[]⟩,.int .i64 0,.int .i64 0,.bool false,.int .i64 0,.string ⟨#[]⟩,.int .i64 0,.int .i64 0] 63));clear a;go_enter func129,ntmps129;go_wp2;exact bodyPost_ret (v:=dJ (0,true,(false,n,s,x,y),(false,n,s,x,y))) (by simp[results,Tryz.results129,go_sem,dJ,cV,aU]) rfl ⟨rfl,mA w _ _⟩
def xM(a b:aJ):Bool:=a.1==b.1&&(a.2.1==b.2.1&&((aH a.2.2.1).toList==(aH b.2.2.1).toList&&(a.2.2.2.1==b.2.2.2.1&&a.2.2.2.2==b.2.2.2.2)))
theorem Jj{a b:aJ}(c:∀z∈a.2.2.1,z<256)(d:∀z∈b.2.2.1,z<256):xM a b=decide (a=b):=by obtain⟨e,f,g,h,i⟩:=a;obtain⟨j,k,l,m,n⟩:=b;unfold xM;dsimp only at*;rw[Be c d,tP];simp
def eqS(a b:eU):Bool:=a.1==b.1&&(a.2.1==b.2.1&&(xM a.2.2.1 b.2.2.1&&xM a.2.2.2 b.2.2.2))
theorem Zl{a b:eU}(e:∀z∈a.2.2.1.2.2.1,z<256)(f:∀z∈a.2.2.2.2.2.1,z<256)(g:∀z∈b.2.2.1.2.2.1,z<256)(h:∀z∈b.2.2.2.2.2.1,z<256):eqS a b=true↔a=b:=by obtain⟨n,c,p,q⟩:=a;obtain⟨m,d,r,s⟩:=b;unfold eqS;dsimp only at*;rw[Jj e g,Jj f h];simp
theorem XD{n':Int}{b':Bool}{p q p' q':aJ}(W:World):(binOp .eql 63 (dJ (a,f,p,q)) (dJ (n',b',p',q'))).run prog W= .ok (.bool (eqS (a,f,p,q) (n',b',p',q'))) W:=by obtain⟨y,c,d,e,z⟩:=p;obtain⟨g,h,i,j,k⟩:=q;obtain⟨l,m,o,r,s⟩:=p';obtain⟨t,u,v,w,x⟩:=q';show(binOp .eql 63 (.agg #[.int .i64 a,.bool f,.bool y,.int .i64 c,.string (aH d),.int .i64 e,.int .i64 z,.bool g,.int .i64 h,.string (aH i),.int .i64 j,.int .i64 k]) (.agg #[.int .i64 n',.bool b',.bool l,.int .i64 m,.string (aH o),.int .i64 r,.int .i64 s,.bool t,.int .i64 u,.string (aH v),.int .i64 w,.int .i64 x])).run prog W=_;go_simp;unfold eqS xM;(repeat' split);all_goals simp_all
end Go.Hm
