import Derived.Deep.RegionHeld3
import Derived.Test.YtmgfkpnghlmheaaGreatBun1
set_option maxHeartbeats 200000
namespace Go.Hm
open Go.RowKit Ieee
variable{m g i B:Nat}{W h n:World}{a:List Value}{b:Option Addr}{c j o p:Int}{d:List (List Nat)}{e:Value}{f:List Nat}{l:Bool}
theorem FD(x y k:Nat)(a:y<2^k):(x*2^k) ||| y=x*2^k+y:=by rw[jY,<-OT a]
theorem Qq(x y k:Nat)(b:y<2^k)(a:x%2^k=0):x ||| y=x+y:=nat_join k x y a b
theorem X7(x:Nat):bits .or .u8 ((x:Int)%256) 128=((x%128+128:Nat):Int):=by have h:=u8_or_nat (x%256) 128 (by omega) (by omega);rw[show((x:Int)%256)=((x%256:Nat):Int) from by omega,show(128:Int)=((128:Nat):Int) from rfl,h];congr 1;by_cases a:x%256<128;rw[Hp,Qq 128 (x%256) 7 a rfl];omega;(have e:x%256=128+x%128:=by omega);rw[e,Hp,<-Qq 128 (x%128) 7 (by omega) rfl,<-Nat.or_assoc,Nat.or_self,Qq 128 (x%128) 7 (by omega) rfl];omega
theorem Kk(T:List Nat)(k:Nat)(b:k<=T.length)(a:∀x∈T,x<256):num (T.take k)<2^(8*k):=by have h:=Ci (T.take k) (λx c=>a x (eA c));rw[cM,pG b,show(256:Nat)=2^8 from rfl,<-Mr] at h;exact h
theorem Jv(T:List Nat)(k:Nat)(b:∀x∈T,x<256):T.getD k 0<256:=by by_cases a:k<T.length;rw[aZ,bN a];exact b _ (eL a);rw[aZ,Ue (by omega)];simp
theorem Qo(T:List Nat)(k:Nat)(b:k<T.length)(a:∀x∈T,x<256):num (T.take k) ||| (T.getD k 0*2^(8*k))=num (T.take (k+1)):=by rw[cI T k 0 b,EU,cM,pG (by omega),Hp,FD _ _ _ (Kk T k (by omega) a),show(256:Nat)=2^8 from rfl,<-Mr,Hh]
theorem Qm(b:g<256)(a:8*(i+1)<=m):g*2^(8*i)<2^m:=by have c:g*2^(8*i)<256*2^(8*i):=OQ b (qQ _);(have d:256*2^(8*i)=2^(8*(i+1)):=by rw[An,lF,jY]);have e:2^(8*(i+1))<=2^m:=sV (by omega) a;omega
theorem V4(T:List Nat)(k:Nat)(g:k<T.length)(j:T.length<=1)(a:∀x∈T,x<256):bits .or .u8 ((num (T.take k):Nat):Int) (((T.getD k 0:Nat):Int)*2^(8*k)%256)=((num (T.take (k+1)):Nat):Int):=by have i:=Jv T k a;have e:=Qm (m:=8) i (show 8*(k+1)<=8 by omega);have h:=Kk T k (by omega) a;have b:2^(8*k)<=2^8:=sV (by omega) (by omega);(have f:(((T.getD k 0:Nat):Int)*2^(8*k)%256)=((T.getD k 0*2^(8*k):Nat):Int):=by(have c:((T.getD k 0*2^(8*k):Nat):Int)=((T.getD k 0:Nat):Int)*2^(8*k):=by simp);(have d:((T.getD k 0*2^(8*k):Nat):Int)<256:=by have:T.getD k 0*2^(8*k)<256:=e;omega);rw[c] at d⊢;skip;exact Gw (by rw[<-c];omega) d);rw[f,u8_or_nat _ _ (mU h b) e,Qo T k g a]
theorem U9(T:List Nat)(k:Nat)(h:k<T.length)(l:T.length<=4)(b:∀x∈T,x<256):bits .or .u32 ((num (T.take k):Nat):Int) (((T.getD k 0:Nat):Int)%4294967296*2^(8*k)%4294967296)=((num (T.take (k+1)):Nat):Int):=by have j:=Jv T k b;have f:=Qm (m:=32) j (show 8*(k+1)<=32 by omega);have i:=Kk T k (by omega) b;have c:2^(8*k)<=2^32:=sV (by omega) (by omega);(have g:(((T.getD k 0:Nat):Int)%4294967296*2^(8*k)%4294967296)=((T.getD k 0*2^(8*k):Nat):Int):=by(have d:((T.getD k 0*2^(8*k):Nat):Int)=((T.getD k 0:Nat):Int)*2^(8*k):=by simp);(have e:((T.getD k 0*2^(8*k):Nat):Int)<4294967296:=by have:T.getD k 0*2^(8*k)<4294967296:=f;omega);rw[d] at e⊢;rw[Gw (a:=((T.getD k 0:Nat):Int)) (by omega) (by omega)];exact Gw (by rw[<-d];omega) e);rw[g,u32_or_nat _ _ (mU i c) f,Qo T k h b]
theorem V0(T:List Nat)(k:Nat)(h:k<T.length)(l:T.length<=8)(b:∀x∈T,x<256):bits .or .u64 ((num (T.take k):Nat):Int) (IntKind.u64.wrap (IntKind.u64.wrap ((T.getD k 0:Nat):Int)*2^(8*k)))=((num (T.take (k+1)):Nat):Int):=by rw[fB,fB];have j:=Jv T k b;have f:=Qm (m:=64) j (show 8*(k+1)<=64 by omega);have i:=Kk T k (by omega) b;have c:2^(8*k)<=2^64:=sV (by omega) (by omega);(have g:(((T.getD k 0:Nat):Int)%18446744073709551616*2^(8*k)%18446744073709551616)=((T.getD k 0*2^(8*k):Nat):Int):=by(have d:((T.getD k 0*2^(8*k):Nat):Int)=((T.getD k 0:Nat):Int)*2^(8*k):=by simp);(have e:((T.getD k 0*2^(8*k):Nat):Int)<18446744073709551616:=by have:T.getD k 0*2^(8*k)<18446744073709551616:=f;omega);rw[d] at e⊢;rw[Gw (a:=((T.getD k 0:Nat):Int)) (by omega) (by omega)];exact Gw (by rw[<-d];omega) e);rw[g,u64_or_nat _ _ (mU i c) f,Qo T k h b]
theorem Vy(x k:Nat):((x:Int)/2^(8*k)%256)=((x/256^k%256:Nat):Int):=by rw[show(256:Nat)^k=2^(8*k) by rw[show(256:Nat)=2^8 from rfl,<-Mr]];simp
section
variable{P:Program}{ops:Array Oper}{Q:Exit->Act->World->Prop}
theorem Tk{S S':World->Prop}(h:∀w,S w->S' w):∀(b:Nat) (c:Array Bool) (a:Act) (w:World),wpAnyH P .any ops Q S b c a w->wpAnyH P .any ops Q S' b c a w|0,_,_,_,d=>d|b+1,_,_,_,d=>⟨d.1,λi j=>wpOp_mono (λg f e=>⟨h f e.1,Tk h b _ g f e.2⟩) (d.2 i j)⟩
def zW(ops:Array Oper):Array Bool->List (Bool × Nat)->Bool|listed,[]=>(Region.ready .any ops listed).isEmpty|listed,(true,i)::r=>(Region.ready .any ops listed).contains i&&(Region.free .any ops listed i&&zW ops (listed.setIfInBounds i true) r)|listed,(false,i)::r=>decide (Region.ready .any ops listed=[i])&&zW ops (listed.setIfInBounds i true) r
def sS(P:Program)(ops:Array Oper)(R:World->World->Prop)(Q:Exit->Act->World->Prop):List (Bool × Nat)->Act->World->Prop| [],a,w=>Q .normal a w|(true,i)::r,a,w=>∃o v,ops[i]? =some o/\((Region.wanted o (yielded ops a.tmps)=true/\ ∀w',R w w'->(execOp a.eval o).run P w'= .ok (.value v) w')\/(Region.wanted o (yielded ops a.tmps)=false/\v=undef))/\sS P ops R Q r (a.put o.dst v) w|(false,i)::r,a,w=>∃o,ops[i]? =some o/\if Region.wanted o (yielded ops a.tmps) then o.wp P a w (λa' w'=>R w w'/\sS P ops R Q r a' w') (NoPanic Q) else sS P ops R Q r (a.put o.dst undef) w
variable{R:World->World->Prop}
theorem rg(f:∀w,R w w)(l:∀{x y z},R x y->R y z->R x z)(I:Region.noSelect ops=true):∀(g:List (Bool × Nat)) (c:Nat) (d:Array Bool) (a:Act) (w:World),g.length<=c->zW ops d g=true->sS P ops R Q g a w->wpAnyH P .any ops (NoPanic Q) (R w) c d a w:=by intro g;induction g with|nil=>intro c d a w _ e h;exact wpAnyH_done (by simpa[zW] using e) (NoPanic.normal h) c|cons x r A=>obtain⟨b,i⟩:=x;intro c d a w C e h;obtain⟨c,rfl⟩:∃k,c=k+1:=⟨c-1,by simp at C;omega⟩;(have m:r.length<=c:=by simp at C;omega);cases b with|true=>obtain⟨o,v,t,J,H⟩:=h;simp only[zW,lD] at e;obtain⟨q,E,n⟩:=e;exact wpAnyH_take t I E q (λ_ _ _ G=>G) J (f w) (A c _ _ w m n H)|false=>obtain⟨o,t,p⟩:=h;simp only[zW,lD,decide_eq_true_eq] at e;obtain⟨q,n⟩:=e;refine wpAnyH_all q (by simp) ?_;intro j F;(obtain rfl:j=i:=by simpa using F);unfold wpOp;simp only[t];split;rename_i u;rw[if_pos u] at p;exact .inl (Ur (λB D s=>⟨s.1,Tk (λz K=>l s.1 K) c _ B D (A c _ B D m n s.2)⟩) p);rename_i u;rw[if_neg u] at p;exact⟨f w,A c _ _ w m n p⟩
theorem fR{a:Act}(R:World->World->Prop)(c:List (Bool × Nat))(d:∀W,R W W)(b:∀{x y z},R x y->R y z->R x z)(g:P.follows .mixedOrders=true)(j:Region.noSelect ops=true)(f:decide (c.length<=ops.size)=true)(e:zW ops (Array.replicate ops.size false) c=true)(h:sS P ops R Q c a W.drew):(Code.region m ops true).wp P Q a W:=wp_region_noPanic (wp_region_held g (rg d b j c ops.size _ a _ (by simpa using f) e h))
abbrev aD(w w':World):Prop:=Below w.heap.size w w'
theorem aD.refl(w:World):aD w w:=aM _ _
abbrev bF:=@aD.refl
theorem aD.trans(a:aD W h)(k:aD h n):aD W n:=pD a (dT k a.size)
abbrev aE:=@aD.trans
theorem aD.drew(w:World):aD w w.drew:=(aM _ _).drew
abbrev bU:=@aD.drew
abbrev bW(g:Nat)(w w':World):Prop:=w.grownBy w' (some g)
theorem bW.refl(g:Nat)(w:World):bW g w w:=Az w _
theorem bW.trans(a:bW g W h)(k:bW g h n):bW g W n:=OX a k
abbrev nG:=@bW.trans
theorem bW.drew(g:Nat)(w:World):bW g w w.drew:=⟨rfl,rfl,rfl,aG _,λ_ _ _=>rfl⟩
theorem bW.of_new(a:aD W h):bW g W h:=⟨a.os,a.tape,a.output,a.size,λk c _=>a.block k c⟩
abbrev mG:=@bW.of_new
theorem bW.below(f:Below B W h)(e:bW g h n)(d:B<=g)(b:B<=W.heap.size):Below B W n:=eI f e d b
abbrev mF:=@bW.below
theorem aD.far(a:aD W h)(k:bW g h n)(d:W.heap.size<=g):aD W n:=mF a k d (aG _)
variable{i:Nat}{r:List (Bool × Nat)}{a:Act}{w:World}{o:Oper}{v:Value}
theorem fO(h:Q .normal a w):sS P ops R Q [] a w:=h
section
variable{dst:Option Tmp}{op:Op}{ty:TypeId}{pos:String}{af:Array Edge}{gd:Option (Nat × Bool)}
theorem dK(b:ops[i]? =some ⟨dst,op,ty,pos,af,gd⟩)(d:Region.wanted ⟨dst,op,ty,pos,af,gd⟩ (yielded ops a.tmps)=true)(c:∀w',R w w'->(execOp a.eval ⟨dst,op,ty,pos,af,gd⟩).run P w'= .ok (.value v) w')(h:sS P ops R Q r (a.put dst v) w):sS P ops R Q ((true,i)::r) a w:=⟨_,v,b,.inl ⟨d,c⟩,h⟩
theorem uX(c:ops[i]? =some ⟨dst,op,ty,pos,af,gd⟩)(d:Region.wanted ⟨dst,op,ty,pos,af,gd⟩ (yielded ops a.tmps)=false)(h:sS P ops R Q r (a.put dst undef) w):sS P ops R Q ((l,i)::r) a w:=by cases l;exact⟨_,c,by rw[if_neg (by simp[d])];exact h⟩;exact⟨_,undef,c,.inr ⟨d,rfl⟩,h⟩
theorem eP(d:ops[i]? =some ⟨dst,op,ty,pos,af,gd⟩)(e:Region.wanted ⟨dst,op,ty,pos,af,gd⟩ (yielded ops a.tmps)=true)(h:∀K:Act->World->Prop,(∀a' w',R w w'->sS P ops R Q r a' w'->K a' w')->Oper.wp P ⟨dst,op,ty,pos,af,gd⟩ a w K (NoPanic Q)):sS P ops R Q ((false,i)::r) a w:=⟨_,d,by rw[if_pos e];exact h _ λ_ _ b c=>⟨b,c⟩⟩
end
end
theorem Own.at0{base:Nat}{e:TypeId}(h:Own W base e (.slice (some ⟨g,0,none⟩) m i) a)(hi:B<m):∃u,a[B]? =some u/\base<=g/\g<W.heap.size/\W.cell? ⟨g,B,none⟩=some u/\W.frozen? ⟨g,B,none⟩=false/\ ∀u':Value,Own (W.setCell ⟨g,B,none⟩ u') base e (.slice (some ⟨g,0,none⟩) m i) (a.set B u'):=by obtain⟨o,u,p,d,f,j,k,l,q⟩:=h.at_ hi;injection p with p;injection p with p;subst p;exact⟨u,j,d,f,k,l,q⟩
theorem Own.num0{base:Nat}{e:TypeId}{k:IntKind}(h:Own W base e (.slice (some ⟨g,0,none⟩) m B) (aK k f))(hi:i<m):base<=g/\g<W.heap.size/\W.cell? ⟨g,i,none⟩=some (.int k ((f.getD i 0:Nat):Int))/\W.frozen? ⟨g,i,none⟩=false/\ ∀y:Nat,Own (W.setCell ⟨g,i,none⟩ (.int k (y:Int))) base e (.slice (some ⟨g,0,none⟩) m B) (aK k (f.set i y)):=by have o:=h.len;rw[aS] at o;obtain⟨u,a,b,d,p,j,q⟩:=h.at0 hi;rw[EV k f i (by omega)] at a;injection a with a;subst a;exact⟨b,d,p,j,λy=>by rw[<-X0];exact q _⟩
theorem VI(a b:Nat)(c:a<=9223372036854775807):IntKind.i64.wrap ((a:Int)/(b:Int))=((a/b:Nat):Int):=by rw[<-Int.natCast_ediv];have:a/b<=a:=Um _ _;generalize a/b=q at*;exact zZ _ (by omega)
theorem Er(a:Nat)(b:a<=9223372036854775807):∃q r:Nat,Hid (q=a/8/\r=a%8)/\8*q<=a/\r<8/\a<8*q+8/\IntKind.i64.wrap ((a:Int)/8)=(q:Int)/\(a:Int).tmod 8=(r:Int):=⟨a/8,a%8,aB ⟨rfl,rfl⟩,by omega,by omega,by omega,VI a 8 b,by rw[tp (by omega)];omega⟩
theorem RJ(y j:Nat)(b:y<=18446744073709551615):∃t:Nat,Hid (t=y/2^j%2)/\t<=1/\bits .and .u64 ((y:Int)/2^j) 1=(t:Int)/\IntKind.u8.wrap (t:Int)=(t:Int):=by refine⟨y/2^j%2,aB rfl,by omega,?_,by rw[vB];omega⟩;have a:y/2^j<=y:=Um _ _;have:=u64_and_nat (y/2^j) 1 (by omega) (by omega);rw[Nat.and_one_is_mod] at this;rw[<-this];congr 1
theorem YZ{P:Nat->Prop}(h:∀x∈f,P x)(a:m<f.length):P (f.getD m 0):=by rw[aZ,bN a];exact h _ (eL a)
theorem FB(b r q:Nat)(c:b<2^r)(d:q<=1)(h:r<8):bits .or .u8 (b:Int) ((q:Int)*2^r%256)=((b+q*2^r:Nat):Int):=by have f:2^r<=2^7:=sV (by omega) (by omega);have g:q*2^r<=1*2^r:=mV _ d;(have e:((q:Int)*2^r%256)=((q*2^r:Nat):Int):=by(have a:((q*2^r:Nat):Int)=(q:Int)*2^r:=by simp);rw[<-a];omega);rw[e,u8_or_nat _ _ (by omega) (by omega),Hp,<-jY (2^r),<-OT c,Hh]
structure bP(T:List Nat)(w w':World):Prop where
 os:w'.os=w.os
 tape:w'.tape=w.tape
 output:w'.output=w.output
 size:w.heap.size<=w'.heap.size
 block:∀k,k<w.heap.size->k∉T->w'.heap[k]? =w.heap[k]?
section
variable{T T':List Nat}{w w' w2:World}
theorem bP.refl(T:List Nat)(w:World):bP T w w:=⟨rfl,rfl,rfl,aG _,λ_ _ _=>rfl⟩
abbrev wV:=@bP.refl
theorem bP.trans(h:bP T w w')(k:bP T w' w2):bP T w w2:=⟨k.os.trans h.os,k.tape.trans h.tape,k.output.trans h.output,cS h.size k.size,λi b a=>(k.block i (mU b h.size) a).trans (h.block i b a)⟩
abbrev At:=@bP.trans
theorem bP.more(h:bP T w w')(c:∀x∈T,x∈T'):bP T' w w':=⟨h.os,h.tape,h.output,h.size,λi b a=>h.block i b λd=>a (c i d)⟩
theorem bP.of_new(h:Below w.heap.size w w'):bP T w w':=⟨h.os,h.tape,h.output,h.size,λk a _=>h.block k a⟩
abbrev Hs:=@bP.of_new
theorem bP.of_far(h:w.grownBy w' (some g))(b:g∈T):bP T w w':=⟨h.os,h.tape,h.output,h.size,λk c a=>h.block k c (λe=>by injection e with e;subst e;exact a b)⟩
abbrev Ar:=@bP.of_far
theorem bP.of_none(h:w.grownBy w' none):bP T w w':=⟨h.os,h.tape,h.output,h.size,λk a _=>h.block k a (by simp)⟩
abbrev Ht:=@bP.of_none
theorem bP.drew(T:List Nat)(w:World):bP T w w.drew:=⟨rfl,rfl,rfl,aG _,λ_ _ _=>rfl⟩
theorem bP.drewN(T:List Nat)(w:World)(n:Nat):bP T w (w.drewN n):=⟨rfl,rfl,rfl,aG _,λ_ _ _=>rfl⟩
theorem bP.setCell{g i:Nat}(u:Value)(b:g∈T)(w:World):bP T w (w.setCell ⟨g,i,none⟩ u):=⟨rfl,rfl,rfl,by simp[World.setCell],λk _ a=>pY _ _ _ _ (by rintro rfl;exact a b)⟩
theorem bP.below(h:Below B W w)(k:bP T w w')(b:∀x∈T,B<=x)(e:B<=W.heap.size):Below B W w':=⟨k.os.trans h.os,k.tape.trans h.tape,k.output.trans h.output,cS h.size k.size,λi c=>(k.block i (by have:=h.size;omega) (λd=>by have:=b i d;omega)).trans (h.block i c)⟩
theorem bP.new(k:bP T w w')(a:∀x∈T,w.heap.size<=x):Below w.heap.size w w':=k.below (aM _ _) a (aG _)
theorem aI.touch{t:TypeId}{cs:Array Value}(h:aI w g t cs)(k:bP T w w')(a:g∉T):aI w' g t cs:=(k.block g h.lt a).trans h
theorem Own.touch{base:Nat}{n:TypeId}(h:Own w base n e a)(k:bP T w w')(i:∀x∈T,e.ownBlock≠some x):Own w' base n e a:=by refine⟨h.1,?_⟩;rcases h.2 with l|⟨g,b,c,rfl,d,m,rest⟩;exact .inl l;refine .inr ⟨g,b,c,rfl,d,?_,rest⟩;rw[k.block g (zY.1 m).1 (λj=>i g j rfl)];exact m
theorem aF.touch{size:Nat}(h:aF w B size b m a)(k:bP T w w')(f:∀x∈T,B<=x)(d:B<=w.heap.size):aF w' B size b m a:=h.keep λp e=>World.cell?_of_block (k.block p.block (by omega) (λc=>by have:=f _ c;omega))
theorem bP.far(h:bP [g] w w'):w.grownBy w' (some g):=⟨h.os,h.tape,h.output,h.size,λk c a=>h.block k c (by intro b;simp at b;subst b;exact a rfl)⟩
end
theorem Own.row{base:Nat}{k:TypeId}(h:Own W base k e a):∀g,e.ownBlock=some g-> ∃cs,aI W g k cs:=by intro g b;rcases h.2 with⟨rfl,_⟩|⟨d,c,j,rfl,_,f,_⟩;simp[Value.ownBlock] at b;(have:d=g:=by simpa[Value.ownBlock] using b);subst this;exact⟨j,f⟩
theorem aI.push{w':World}{t i:TypeId}{cs:Array Value}{base:Nat}(h:aI W g t cs)(o:Own W base i e a)(c:W.grownBy w' e.ownBlock)(f:i≠t):aI w' g t cs:=h.grown c (λb=>o.blk_ne h f b.symm)
theorem aF.litV(w:World)(e:TypeId)(cs:Array Value)(n:Nat)(a:List Value)(h:cs.toList=a)(b:n=a.length):aF (w.alloc (.cells cs e)) (w.alloc (.cells cs e)).heap.size 1 (some ⟨w.heap.size,0,none⟩) n a:=by subst b;refine⟨by simp,λ_=>⟨_,rfl,by simp,?_⟩⟩;have:=Hw (heap_alloc_new w (.cells cs e));rwa[h] at this
abbrev wQ:=@aF.litV
theorem aD.alloc{w w':World}(o:Obj)(h:Below (w.alloc o).heap.size (w.alloc o) w'):aD w w':=((aM _ w).alloc (aG _) o).trans (h.mono (by simp))
theorem Bo(w:World)(m n:Nat):(w.drewN m).drewN n=w.drewN (m+n):=by simp[World.drewN,Nat.add_assoc]
theorem rI(w:World)(k:Nat):aD w (w.drewN k):=⟨rfl,rfl,rfl,aG _,λ_ _=>rfl⟩
theorem aF.later(e:aF W W.heap.size g b m a)(d:Below W.heap.size W h):aF h h.heap.size g b m a:=(e.below d).more d.size
abbrev aO:=@aF.later
theorem Own.later{base:Nat}{d:TypeId}(f:Own W base d e a)(c:Below W.heap.size W h):Own h base d e a:=f.below c (aG _)
theorem SW(l:List Nat)(i j:Nat):(aH l).extract i j=aH ((l.drop i).take (j-i)):=by refine ByteArray.ext ?_;rw[ByteArray.data_extract];show((l.map UInt8.ofNat).toArray).extract i j=(((l.drop i).take (j-i)).map UInt8.ofNat).toArray;simp
theorem SX(l:List Nat)(i:Nat):(aH l).extract i l.length=aH (l.drop i):=by rw[SW,gY (by rw[dL];omega)]
theorem SY(l:List Nat)(k:Nat)(c:∀x∈l,x<256)(hk:k<(aH l).size):((aH l)[k]'hk).toNat=l.getD k 0:=by(have b:k<l.length:=by rwa[iP] at hk);show(((l.map UInt8.ofNat).toArray)[k]'(by simpa using b)).toNat=_;simp only[List.getElem_toArray,Uh,Ut];rw[aZ,bN b,kG];exact pZ (c _ (eL b))
section
variable{P:Program}{t:TypeId}
theorem Ld(c:P.underlying t=some .string)(l:List Nat)(b:∀x∈l,x<256)(k:Nat)(d:k<l.length)(w:World):(Instr.index t (.string (aH l)) (.int .i64 (k:Int))).run P w= .ok (.int .u8 ((l.getD k 0:Nat):Int)) w:=by rw[run_index_string w t (aH l) .i64 (k:Int) c,dif_pos ⟨by omega,by rw[iP];omega⟩];rw[SY l _ b];simp
theorem JP(b:P.underlying t=some .string)(l:List Nat)(k:Nat)(c:k<=l.length)(w:World):(Instr.slice t (.string (aH l)) (some (.int .i64 (k:Int))) none none).run P w= .ok (.string (aH (l.drop k))) w:=by rw[run_slice_string_from_if w t (aH l) .i64 (k:Int) b,if_pos ⟨by omega,by rw[iP];omega⟩,eQ,iP,SX]
end
theorem ni(l:List Nat)(b:∀x∈l,x<256):Lib.strCells (aH l)=aK .u8 l:=by unfold Lib.strCells aK;show((l.map UInt8.ofNat).toArray.toList).map _=_;simp only[lE];refine nI λx c=>?_;simp only[Function.comp,Ut];rw[pZ (by have:=b x c;omega)]
def jV(l:List (List Nat)):List Value:=l.map λs=> .string (aH s)
theorem Sv(l:List (List Nat)):(jV l).length=l.length:=by simp[jV]
theorem nq(l m:List (List Nat)):jV (l++m)=jV l++jV m:=by simp[jV]
theorem KU(l:List (List Nat))(i:Nat)(h:i<l.length):(jV l)[i]? =some (.string (aH (l.getD i []))):=by simp[jV,List.getElem?_eq_getElem h]
theorem aF.lenT(h:aF W B 1 b m (jV d)):m=d.length:=by have:=h.1;rw[Sv] at this;omega
theorem aF.str(h:aF W B 1 b m (jV d))(hi:i<m):∃ad,b=some ad/\ad.block<B/\W.cell? (ad.add i)=some (.string (aH (d.getD i []))):=by obtain⟨ad,u,e,c,a,g⟩:=h.at_ hi;(have f:i<d.length:=by have:=h.lenT;omega);rw[KU d i f] at a;injection a with a;subst a;exact⟨ad,e,c,g⟩
theorem Ca{Q:List Nat->Prop}(h:∀x∈d,Q x)(b:m<d.length):Q (d.getD m []):=by rw[aZ,bN b];exact h _ (eL b)
section
variable{P:Program}{ops:Array Oper}{rest:List Oper}{o:Oper}{a:Act}{Q:Exit->Act->World->Prop}
theorem xZ{t e C:TypeId}(E:eW P t e (.int .u8 0) 1 1)(u:P.underlying C=some .string)(r:o.guard=none)(s x:Operand)(L:o.op= .call {callee:= .builtin .append,args:= #[s,x],argTypes:= #[t,C]}){base:Nat}{l2:List Nat}(d:Own h base e (.slice b m g) (aK .u8 f))(G:∀x∈l2,x<256)(M:a.eval s= .slice b m g)(N:a.eval x= .string (aH l2))(H:Below B W h)(p:B<=base)(S:base<=h.heap.size)(K:m+l2.length<=140737488355328)(U:∀A' c' w',m+l2.length<=c'->c'<=maxLen->Own w' base e (.slice A' (m+l2.length) c') (aK .u8 (f++l2))->h.grownBy w' (Value.ownBlock (.slice b m g))->Below B W w'->wpList P ops Q rest (a.put o.dst (.slice A' (m+l2.length) c')) w'):wpList P ops Q (o::rest) a h:=by
 obtain⟨i,I,v,y,z⟩:=info_parts E.hi;have T:=d.len;rw[aS] at T;have j:h.ownsRow base e 1 (.slice b m g) m (aK .u8 f):=by unfold Own at d;rwa[aS,<-T] at d
 refine Lib.wpList_append_own_string h r s x t C L base e i E.ht u I v y z _ m _ M j (aH l2) N (by rw[iP];unfold maxLen;omega) (by rw[iP];exact K) S ?_;intro O w' D F _;rw[ni l2 G,<-wB,iP] at D;have R:Own w' base e O (aK .u8 (f++l2)):=by unfold Own;rw[aS,aN,<-T];exact D
 obtain⟨A',c',rfl,V,q⟩:=R.slice;rw[aS,aN,<-T] at V R⊢;exact U A' c' w' V q R F (H.grown F (cS p S) (λk J=>by have:=(d.lt k J).1;omega))
end
theorem UW:Ieee.double.fractionBits=52/\Ieee.double.exponentBits=11:=⟨rfl,rfl⟩
theorem Je:Ieee.double.leastPlace= -1074:=by decide
theorem Yr:Ieee.double.binade=4503599627370496:=by decide
theorem Ys:Ieee.double.infRung=9218868437227405312:=by decide
theorem Yt:Ieee.double.signWeight=9223372036854775808:=by decide
theorem Oi(a:Toward)(neg:Bool)(n d:Nat):a.cut neg (n*2^d) d=n:=by by_cases b:n=0;subst b;unfold Toward.cut;simp only[yP,Nat.zero_div,Nat.zero_mod];cases a<;> simp;(have e:d<=(n*2^d).log2:=by rw[Nat.le_log2 (by have:=qQ d;exact OR b (by omega))];exact Nat.le_mul_of_pos_left _ (by omega));have c:min d ((n*2^d).log2+2)=d:=pG (by omega);unfold Toward.cut;simp only[c,Nat.one_shiftLeft,Nat.mul_div_cancel _ (qQ d),Nat.mul_mod_left];have f:=qQ d;cases a<;> simp<;> omega
theorem Q0(h:m≠0)(k:Nat):(m*2^k).log2=m.log2+k:=by
 have d:=qQ k;have b:2^(m.log2+k)<=m*2^k:=by rw[lF];exact mV _ (Nat.log2_self_le h)
 have c:m*2^k<2^(m.log2+k+1):=by rw[show m.log2+k+1=(m.log2+1)+k by omega,lF];exact OQ (Nat.lt_log2_self) d
 have a:m*2^k≠0:=OR h (by omega);have e:=(Nat.le_log2 a).2 b;have f:=(Nat.log2_lt a).2 c;omega
theorem IV(f:Format)(s:Bool)(R:Nat)(a:R<f.signWeight):f.read (f.word s R)=if R<f.binade then .number s R f.leastPlace else if R<f.infRung then .number s (f.binade+R%f.binade) (f.leastPlace+(R/f.binade-1:Nat)) else if R=f.infRung then .infinity s else .nan s (R-f.infRung):=by
 have b:(f.word s R/f.signWeight%2==1)=s:=by unfold Format.word;cases s with|false=>rw[if_neg (by simp),Hi a];rfl|true=>rw[if_pos rfl,Nat.add_div_left _ (by omega),Hi a];rfl
 have c:f.word s R%f.signWeight=R:=by unfold Format.word;cases s with|false=>rw[if_neg (by simp),pZ a]|true=>rw[if_pos rfl,Nat.add_mod_left,pZ a]
 unfold Format.read;simp only[b,c]
theorem fu(s:Bool)(n k:Nat)(v:n<9007199254740992):∃h:Nat,Ieee.double.read (Ieee.double.nearest s (n*2^k) (-(k:Int)))= .number s (n*2^h) (-(h:Int)):=by
 by_cases c:n=0;subst c;obtain⟨j,q⟩:∃j:Nat,Ieee.double.leastPlace= -(j:Int):=⟨1074,by rw[Je];rfl⟩;refine⟨j,?_⟩;rw[yP,yP,Format.nearest,if_pos rfl,IV _ _ _ (by rw[Yt];omega),if_pos (by rw[Yr];omega),q];have w:=qQ k;have f:n*2^k≠0:=OR c (by omega);have e:n.log2<=52:=by have:=(Nat.log2_lt c).2 (show n<2^53 by omega);omega
 have g:(-(k:Int))+((n*2^k).log2:Nat)-(52:Nat)=(n.log2:Int)-52:=by rw[Q0 c];omega
 obtain⟨d,l⟩:∃d,d=52-n.log2:=⟨_,rfl⟩;have b:max ((-(k:Int))+((n*2^k).log2:Nat)-(Ieee.double.fractionBits:Nat)) Ieee.double.leastPlace= -(d:Int):=by rw[UW.1,g,Je];omega
 have a:Toward.even.cut s ((n*2^k) <<< ((-(k:Int))- -(d:Int)).toNat) (-(d:Int)- -(k:Int)).toNat=n*2^d:=by by_cases r:k<=d;rw[show((-(k:Int))- -(d:Int)).toNat=d-k by omega,show(-(d:Int)- -(k:Int)).toNat=0 by omega,OS,Dw,<-lF,show k+(d-k)=d by omega];have:=Oi .even s (n*2^d) 0;rwa[Up,fT] at this;rw[show((-(k:Int))- -(d:Int)).toNat=0 by omega,show(-(d:Int)- -(k:Int)).toNat=k-d by omega,OS,Up,fT];have:=Oi .even s (n*2^d) (k-d);rwa[Dw,<-lF,show d+(k-d)=k by omega] at this
 have t:4503599627370496<=n*2^d:=by have:=mV (2^d) (Nat.log2_self_le c);rw[<-lF,show n.log2+d=52 by omega] at this;exact cS (by decide) this
 have p:n*2^d<9007199254740992:=by have:=OQ (Nat.lt_log2_self (n:=n)) (qQ d);rw[<-lF,show n.log2+1+d=53 by omega] at this;exact mU this (by decide)
 refine⟨d,?_⟩;have o:d<=52:=by omega
 have y:Ieee.double.nearest s (n*2^k) (-(k:Int))=Ieee.double.word s (min ((-(d:Int)-Ieee.double.leastPlace).toNat*Ieee.double.binade+n*2^d) Ieee.double.infRung):=by unfold Format.nearest;rw[if_neg f];simp only[b,a]
 clear b a e g l f w c v;generalize Ieee.double.nearest s (n*2^k) (-(k:Int))=V at*;generalize n*2^d=K at*;rw[y,IV _ _ _ (by rw[Yt,Ys];omega)];have i:(-(d:Int)-Ieee.double.leastPlace).toNat=1074-d:=by rw[Je];omega
 rw[i,Yr,Ys,Je];generalize E:1074-d=m;have u:m<=1074/\1022<=m:=by omega
 have x:min (m*4503599627370496+K) 9218868437227405312=m*4503599627370496+K:=pG (by omega);rw[x];have z: ¬m*4503599627370496+K<4503599627370496:=by omega
 have A:m*4503599627370496+K<9218868437227405312:=by omega
 have B:4503599627370496+(m*4503599627370496+K)%4503599627370496=K:=by omega
 have C:(m*4503599627370496+K)/4503599627370496-1=m:=by omega
 have D:(-1074:Int)+(m:Int)= -(d:Int):=by omega
 rw[if_neg z,if_pos A,B,C,D]
def lG(x:Int)(d:Datum):Prop:=∃(s:Bool) (k:Nat),d= .number s (x.natAbs*2^k) (-(k:Int))/\(x≠0->s=decide (x<0))
def oQ(x:Int)(b:Nat):Prop:=lG x (Ieee.double.read b)
theorem Sf(h:c≠0->l=decide (c<0))(k u:Nat):Ieee.signed l (c.natAbs*2^k) u=c*((2^(k+u):Nat):Int):=by(have e:(c.natAbs*2^k) <<< u=c.natAbs*2^(k+u):=by rw[OS,Dw,<-lF]);unfold Ieee.signed;rw[e];generalize 2^(k+u)=p;by_cases a:c=0;subst a;cases l<;> simp;by_cases b:c<0;rw[h a,decide_eq_true b,if_pos rfl,sT,show((c.natAbs:Nat):Int)= -c by omega,Int.neg_mul,Int.neg_neg];rw[h a,decide_eq_false b,if_neg (by simp),sT,show((c.natAbs:Nat):Int)=c by omega]
theorem lG.write{x:Int}{d:Datum}(h:lG x d)(c:x.natAbs<9007199254740992):oQ x (Ieee.double.write d):=by obtain⟨s,k,rfl,b⟩:=h;obtain⟨j,a⟩:=fu s x.natAbs k c;exact⟨s,j,a,b⟩
theorem lG.opposite{x:Int}{d:Datum}(h:lG x d):lG (-x) d.opposite:=by obtain⟨s,k,rfl,b⟩:=h;refine⟨!s,k,?_,λc=>?_⟩;rw[Int.natAbs_neg];rfl;rw[b (by omega)];by_cases a:x<0;rw[decide_eq_true a,decide_eq_false (by omega)];rfl;rw[decide_eq_false a,decide_eq_true (by omega)];rfl
theorem lG.product{x y:Int}{d e:Datum}(h:lG x d)(l:lG y e):∃r,d.product e=some r/\lG (x*y) r:=by
 obtain⟨s,k,rfl,m⟩:=h;obtain⟨t,j,rfl,n⟩:=l;refine⟨_,rfl,s ^^ t,k+j,?_,λc=>?_⟩;rw[Tz,lF];congr 1;generalize 2^k=p;generalize 2^j=q;simp only[Dw,Mp,jY];omega;have a:x≠0:=by rintro rfl;simp at c
 have b:y≠0:=by rintro rfl;simp at c
 rw[m a,n b];rcases Int.lt_or_gt_of_ne a with a|a<;> rcases Int.lt_or_gt_of_ne b with b|b;have:=Int.mul_pos_of_neg_of_neg a b;simp[a,b];omega;have:=tm a b;simp[a,this];omega;have:=Int.mul_neg_of_pos_of_neg a b;simp[b,this];omega;have:=Int.mul_pos a b;have f: ¬x<0:=by omega
 have g: ¬y<0:=by omega
 have i: ¬x*y<0:=by omega
 simp[f,g,i]
theorem lG.sum{x y:Int}{d e:Datum}(h:lG x d)(g:lG y e):∃r,d.sum e=some r/\lG (x+y) r:=by
 obtain⟨s,k,rfl,o⟩:=h;obtain⟨t,j,rfl,c⟩:=g;obtain⟨m,u⟩:∃m,m=max k j:=⟨_,rfl⟩;have i:min (-(k:Int)) (-(j:Int))= -(m:Int):=by omega
 have n:k+(-(k:Int)- -(m:Int)).toNat=m:=by omega
 have l:j+(-(j:Int)- -(m:Int)).toNat=m:=by omega
 have c:Ieee.signed s (x.natAbs*2^k) (-(k:Int)- -(m:Int)).toNat+Ieee.signed t (y.natAbs*2^j) (-(j:Int)- -(m:Int)).toNat=(x+y)*((2^m:Nat):Int):=by rw[Sf o,Sf c,n,l,Int.add_mul]
 have w:0<2^m:=qQ m;refine⟨_,rfl,?_⟩;simp only[i,c];generalize x+y=z;refine⟨if z*((2^m:Nat):Int)=0 then s&&t else decide (z*((2^m:Nat):Int)<0),m,?_,λf=>?_⟩;rw[Tz,Int.natAbs_natCast];have q: ¬z*((2^m:Nat):Int)=0:=by rw[Int.mul_eq_zero];rintro(a|a);exact f a;omega
 rw[if_neg q];have b:(0:Int)<((2^m:Nat):Int):=by omega
 generalize((2^m:Nat):Int)=p at*;congr 1;rw[eq_iff_iff];constructor;intro a;exact OC λv=>by have:=Mg (show 0<=z by omega) (show 0<=p by omega);omega
 intro a;exact tm a b
theorem lG.toInt{x:Int}{d:Datum}(h:lG x d):d.toInt .zero=some x:=by
 obtain⟨s,k,rfl,e⟩:=h;have b:(-(k:Int)).toNat=0:=by omega
 have c:(-(-(k:Int))).toNat=k:=by omega
 have a:=Sf e 0 0;rw[Up,fT] at a;simp only[Datum.toInt,Datum.integral,b,c,Nat.shiftLeft_zero,Oi];rw[a];simp
theorem JA(n:Int)(h:n.natAbs<9007199254740992):oQ n (floatOfInt .f64 n):=by have:lG n (.number (n<0) n.natAbs 0):=⟨decide (n<0),0,by simp,λ_=>rfl⟩;exact this.write h
theorem La(h:oQ c m)(i:oQ j g)(f:(c*j).natAbs<9007199254740992):∃r,floatBits .mul .f64 m g=some r/\oQ (c*j) r:=by obtain⟨r,d,e⟩:=lG.product h i;exact⟨Ieee.double.write r,by show((Ieee.double.read m).product (Ieee.double.read g)).map Ieee.double.write=_;rw[d];rfl,e.write f⟩
theorem gn(h:oQ c m)(i:oQ j g)(f:(c+j).natAbs<9007199254740992):∃r,floatBits .add .f64 m g=some r/\oQ (c+j) r:=by obtain⟨r,d,e⟩:=lG.sum h i;exact⟨Ieee.double.write r,by show((Ieee.double.read m).sum (Ieee.double.read g)).map Ieee.double.write=_;rw[d];rfl,e.write f⟩
theorem Rs(h:oQ c m)(i:oQ j g)(f:(c-j).natAbs<9007199254740992):∃r,floatBits .sub .f64 m g=some r/\oQ (c-j) r:=by obtain⟨r,d,e⟩:=lG.sum h (lG.opposite i);exact⟨Ieee.double.write r,by show((Ieee.double.read m).sum (Ieee.double.read g).opposite).map Ieee.double.write=_;rw[d];rfl,e.write f⟩
theorem Rr(h:oQ c m)(d: -9223372036854775808<=c/\c<=9223372036854775807):floatToIntVal .f64 m .i64=some c:=by have b:(FloatKind.f64.decode m).toInt .zero=some c:=lG.toInt h;unfold floatToIntVal;rw[b];exact if_pos d
def qS(x y:Int)(a b:Nat):Prop:=oQ x a/\oQ y b
theorem gh(h:qS c j m g)(e:qS o p i B)(M:(c*o).natAbs<9007199254740992)(n:(j*p).natAbs<9007199254740992)(N:(c*o-j*p).natAbs<9007199254740992)(O:(c*p).natAbs<9007199254740992)(q:(j*o).natAbs<9007199254740992)(r:(c*p+j*o).natAbs<9007199254740992):∃re im,cMulBits m g i B=some (re,im)/\qS (c*o-j*p) (c*p+j*o) re im:=by obtain⟨E,f,s⟩:=La h.1 e.1 M;obtain⟨F,J,t⟩:=La h.2 e.2 n;obtain⟨C,K,w⟩:=Rs s t N;obtain⟨G,L,z⟩:=La h.1 e.2 O;obtain⟨H,k,A⟩:=La h.2 e.1 q;obtain⟨D,l,I⟩:=gn z A r;exact⟨C,D,by simp[cMulBits,f,J,K,L,k,l],w,I⟩
theorem gj(h:qS c j m g)(e:qS o p i B)(r:(c-o).natAbs<9007199254740992)(s:(j-p).natAbs<9007199254740992):∃re im,cSumBits .sub .f64 m g i B=some (re,im)/\qS (c-o) (j-p) re im:=by obtain⟨t,f,k⟩:=Rs h.1 e.1 r;obtain⟨n,q,l⟩:=Rs h.2 e.2 s;exact⟨t,n,by simp[cSumBits,f,q],k,l⟩
theorem fv(f:Format)(b:Nat):f.read (b ^^^ 2^(f.exponentBits+f.fractionBits))=(f.read b).opposite:=by
 have k:f.signWeight=2^(f.exponentBits+f.fractionBits):=rfl;generalize m:f.exponentBits+f.fractionBits=n at*;have l:=qQ n;have i:((b ^^^ 2^n)/2^n%2==1)= !(b/2^n%2==1):=by rw[Nat.xor_div_two_pow,Nat.div_self l];generalize b/2^n=c;(have e:(c ^^^ 1)%2=(c%2) ^^^ 1:=by have:= @Nat.xor_mod_two_pow c 1 1;simpa using this);rw[e];rcases Nat.mod_two_eq_zero_or_one c with h|h;rw[h];rfl;rw[h];rfl
 have j:(b ^^^ 2^n)%2^n=b%2^n:=by rw[Nat.xor_mod_two_pow,Nat.mod_self,Nat.xor_zero]
 unfold Format.read;rw[k];simp only[i,j];generalize b%2^n=R;by_cases a:R<f.binade;rw[if_pos a,if_pos a];rfl;rw[if_neg a,if_neg a];by_cases d:R<f.infRung;rw[if_pos d,if_pos d];rfl;rw[if_neg d,if_neg d];by_cases g:R=f.infRung;rw[if_pos g,if_pos g];rfl;rw[if_neg g,if_neg g];rfl
theorem gp(h:oQ c m):oQ (-c) (Op.negFloat .f64 m):=by have:=lG.opposite h;rw[<-fv] at this;exact this
theorem pu(k:FloatKind)(b:Nat):Op.unary .neg (.float k b)=pure (.float k (Op.negFloat k b)):=rfl
theorem gi(h:qS c j m g)(o: -2097152<=c/\c<=2097152)(d: -2097152<=j/\j<=2097152):∃re im,cMulBits m g m (Op.negFloat .f64 g)=some (re,im)/\floatToIntVal .f64 re .i64=some (c*c+j*j):=by
 have q:∀u v:Int,-2097152<=u/\u<=2097152-> -2097152<=v/\v<=2097152-> -4398046511104<=u*v/\u*v<=4398046511104:=by intro u v s n;(have f:(u*v).natAbs<=2097152*2097152:=by rw[Tz];exact qP (by omega) (by omega));omega
 have f:=q c c o o;have r:=q j (-j) d (by omega);have k:=q c (-j) o (by omega);have l:=q j c d o;have e:j* -j= -(j*j):=by rw[Int.mul_neg]
 obtain⟨re,im,p,i⟩:=gh h ⟨h.1,gp h.2⟩ (by omega) (by omega) (by omega) (by omega) (by omega) (by omega);refine⟨re,im,p,?_⟩;have:=Rr i.1 (by omega);rw[this,e,Int.sub_neg]
end Go.Hm
