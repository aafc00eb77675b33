import Derived.Deep.Onto
import Derived.LoopIn
import Derived.LoopNIn
import Derived.OwnWalkIn
import Derived.RangeFuncBound
import Derived.RangeFuncNested
import Derived.Shelf.RegionOpen
import Derived.Test.YtbahbnbpmfgimaaGreatDoorBun19
set_option maxHeartbeats 4000000
set_option maxRecDepth 100000
namespace Go.Hm
def seg(l:List Nat)(a b:Nat):List Nat:=(l.drop a).take (b-a)
theorem zut{l:List Nat}{a b:Nat}(h:b<=l.length):(seg l a b).length=b-a:=by unfold seg;rw[qqx,qqw];omega
def zcu(l:List Nat)(f a:Nat):List (Nat × Nat):=
 if _h:l.length<=a then(if f<l.length then [(f,l.length)] else [])
 else if 4<=st (l.drop a) then(if f<a then [(f,a)] else [])++((a,a+st (l.drop a))::zcu l (a+st (l.drop a)) (a+st (l.drop a)))
 else zcu l f (a+st (l.drop a))
termination_by l.length-a
decreasing_by
 ·have:=zoj (l:=l.drop a) (by rw[qqw];omega)
  omega
 ·have:=zoj (l:=l.drop a) (by rw[qqw];omega)
  omega
theorem zka{l:List Nat}{f a:Nat}(h:l.length<=a):zcu l f a=if f<l.length then [(f,l.length)] else []:=by rw[zcu,dif_pos h]
theorem znm{l:List Nat}{f a:Nat}(h:a<l.length)(b:4<=st (l.drop a)):zcu l f a=(if f<a then [(f,a)] else [])++((a,a+st (l.drop a))::zcu l (a+st (l.drop a)) (a+st (l.drop a))):=by rw[zcu,dif_neg (by omega),if_pos b]
theorem zlh{l:List Nat}{f a:Nat}(h:a<l.length)(b: ¬4<=st (l.drop a)):zcu l f a=zcu l f (a+st (l.drop a)):=by rw[zcu,dif_neg (by omega),if_neg b]
theorem qfx{l:List Nat}{f a k:Nat}(h:f<=a):seg l f a++(l.drop a).take k=seg l f (a+k):=by
 unfold seg;have e:(l.drop f).take (a+k-f)=(l.drop f).take (a-f)++((l.drop f).drop (a-f)).take k:=by rw[show a+k-f=(a-f)+k by omega,qu3]
 rw[e,qth,show f+(a-f)=a by omega]
theorem z93{l:List Nat}{a:Nat}:seg l a a=[]:=by simp[seg]
theorem z40{l:List Nat}:∀(k f a:Nat),l.length-a<=k->f<=a->a<=l.length->(zcu l f a).map (fun p=>seg l p.1 p.2)=z2d (seg l f a) (l.drop a):=by
 intro k;induction k with
 |zero=>
  intro f a j c e;obtain rfl:a=l.length:=by omega
  have m:(seg l f l.length).length=l.length-f:=zut (qq0 _);rw[zka (qq0 _),qvi,zur];unfold zwt;by_cases h:f<l.length
  ·rw[if_pos h,if_neg (by omega)]
   rfl
  ·rw[if_neg h,if_pos (by omega)]
   rfl
 |succ k d=>
  intro f a j c e;by_cases i:a=l.length
  ·subst i
   exact d f l.length (by omega) c (qq0 _)
  have o:(l.drop a).length=l.length-a:=qqw;have q:=zoj (l:=l.drop a) (by omega);have n:=(zf1 (l.drop a)).1;by_cases b:4<=st (l.drop a)
  ·rw[znm (by omega) b,zus (by omega) b,que,qrj,d _ _ (by omega) (qq0 _) (by omega),z93,qth]
   have g:seg l a (a+st (l.drop a))=(l.drop a).take (st (l.drop a)):=by unfold seg;rw[qvj]
   have m:(seg l f a).length=a-f:=zut e;rw[g];unfold zwt;by_cases h:f<a
   ·rw[if_pos h,if_neg (by omega)]
    rfl
   ·rw[if_neg h,if_pos (by omega)]
    rfl
  ·rw[zlh (by omega) b,zqr (by omega) b,d _ _ (by omega) (by omega) (by omega),qfx c,qth]
theorem z41(l:List Nat):(zcu l 0 0).map (fun p=>seg l p.1 p.2)=pcs l:=by have:=z40 (l:=l) l.length 0 0 (by omega) (qq0 _) (qq1 _);rw[z93,qu9] at this;exact this
abbrev Sp(n:Nat):={p:Nat × Nat // p.1<=p.2/\p.2<=n}
end Go.Hm
namespace Go.Proofs.Y
open Go.RowKit Go.Hm Go.Shelf
attribute [local go_sem] Oper.semAt_some
def slV(A:Option Addr)(c f t:Nat):Value:= .slice (if c=f then A else A.map (·.add f)) (t-f) (c-f)
theorem zqv{w:World}{A:Option Addr}{c f t B:Nat}{L:List Nat}(h:Reads w B 1 A L.length (zar .u64 L))(e:L.length<=c)(g:f<=t)(d:t<=L.length):Reads w B 1 (if c=f then A else A.map (·.add f)) (seg L f t).length (zar .u64 (seg L f t)):=by have a:=h.cut (k:=f) (cap:=c) (by omega) e;rw[zeq] at a;have b:=a.take (k:=t-f) (by omega);rw[zfa] at b;simp only[qq7] at b;rw[zut d];exact b
def KB(n0 bo:Nat)(W W':World):Prop:=W.heap.size<=W'.heap.size/\ ∀k,k<n0->k≠bo->W'.heap[k]? =W.heap[k]?
theorem KB.refl(n0 bo:Nat)(W:World):KB n0 bo W W:=⟨qq0 _,fun _ _ _=>rfl⟩
theorem KB.trans{n0 bo:Nat}{a b c:World}(h:KB n0 bo a b)(k:KB n0 bo b c):KB n0 bo a c:=⟨qqs h.1 k.1,fun i d e=>(k.2 i d e).trans (h.2 i d e)⟩
theorem KB.new{n0 bo:Nat}{W a:World}(h:New W a)(c:n0<=W.heap.size):KB n0 bo W a:=⟨h.size,fun k b _=>h.block k (by omega)⟩
abbrev qxq:=@KB.new
theorem KB.cell{n0 bo:Nat}{W a:World}(h:KB n0 bo W a){p:Addr}(b:p.block<n0)(c:p.block≠bo):a.cell? p=W.cell? p:=World.cell?_of_block (h.2 _ b c)
theorem KB.reads{n0 bo n:Nat}{W a:World}{A:Option Addr}{xs:List Value}(h:KB n0 bo W a)(r:Reads W n0 1 A n xs)(d:0<n-> ∀ad,A=some ad->ad.block≠bo):Reads a n0 1 A n xs:=
 ⟨r.1,fun c=>by obtain⟨ad,e,b,f⟩:=r.2 c;exact⟨ad,e,b,fun j u g=>(h.cell (by rw[zam];exact b) (by rw[zam];exact d c ad e)).trans (f j u g)⟩⟩
theorem z42{w w':World}(h:New w w'):w.grownBy w' none:=⟨h.os,h.tape,h.output,h.size,fun k a _=>h.block k a⟩
theorem qfy{L:List Nat}{a:Nat}:seg L a L.length=L.drop a:=by unfold seg;exact qru (by rw[qqw];exact qq0 _)
def qna{n:Nat}(L:List Nat)(J Jx:List (Sp n)->World->Prop)(e:Ending)(W':World):Prop:=
 (∃v,e= .returned v)/\((∃ys:List (Sp n),ys.map Subtype.val=zcu L 0 0/\J ys W')\/(∃pre,Jx pre W'))
theorem z43{m l k bo n0 c:Nat}{A:Option Addr}{L:List Nat}(hm:1<=m)(hc:L.length<=c)(hL:L.length<=1000000)(J Jx:List (Sp L.length)->World->Prop)(hJ:∀s W W',J s W->New W W'->J s W')
 (hY:∀pre x W,J pre W->pre.length<(zcu L 0 0).length->YieldAt Fence.wide (m-1) Tryz.prog l #[slV A c x.1.1 x.1.2] W fun e W'=>
  (e= .returned (.bool true)/\J (pre++[x]) W'/\KB n0 bo W W')\/(e= .returned (.bool false)/\Jx (pre++[x]) W'))
 (W:World)(a7:n0<=W.heap.size)(M:k<n0)(K:k≠bo)(U:0<L.length-> ∀ad,A=some ad->ad.block≠bo)(P:W.cell? ⟨k,0,none⟩=some (.slice A L.length c))(hr:Reads W n0 1 A L.length (zar .u64 L))(h0:J [] W):
 CallsIn Fence.wide m Tryz.prog 206 #[.func (.yield l) #[] #[],.pointer (some ⟨k,0,none⟩)] W (qna L J Jx):=by
 have HJ:=qwk hJ;have HY:=qwk hY;have HR:=qwk hr;have HA:=qwk U;clear hJ hY hr U;refine callsIn_of_wp Tryz.func206 rfl trivial ?_ rfl;simp only[Tryz.ntmps206,qrt,qr1,qub,Nat.reduceAdd,Nat.reduceSub,Array.replicate_succ,Array.replicate_zero,List.push_toArray,List.append_toArray,qrr,qr0]
 gi_wp2
 gi_loopw [3,4] (fun vf va wr=>∃(f a:Nat) (pre:List (Sp L.length)),vf= .int .i64 (f:Int)/\va= .int .i64 (a:Int)/\f<=a/\a<=L.length/\Hid (pre.map Subtype.val++zcu L f a=zcu L 0 0)/\Hid (J pre wr)/\KB n0 bo W wr)
  (fun _ va _=>L.length-(intOf va).toNat)
 case atStart=>exact⟨0,0,[],rfl,rfl,qq0 _,qq1 _,qwk rfl,qwk h0,KB.refl _ _ _⟩
 case round=>
  obtain⟨f,a,pre,rfl,rfl,a9,a8,i,u,o⟩:=hrel;have a6:wr.cell? ⟨k,0,none⟩=some (.slice A L.length c):=(o.cell (p:=⟨k,0,none⟩) M K).trans P;by_cases a2:a<L.length
  ·have hp:=zoj (l:=L.drop a) (by rw[qqw];omega)
   have hb:=(zf1 (L.drop a)).1;rw[qqw] at hb;have sr:=znm (l:=L) (f:=f) a2;have ss:=zlh (l:=L) (f:=f) a2;obtain⟨ad,U,-⟩:=HR.out.2 (by omega);subst U;have B:n0<=wr.heap.size:=qqs a7 o.1;have N: ¬c=a:=by omega
   have rs:=zqv ((o.reads HR.out HA.out).more B) hc (f:=a) (t:=L.length) (by omega) (qq0 _);rw[if_neg N,qfy] at rs;have C:=zqu (c:=c-a) rs (by rw[qqw];omega);rw[qqw] at C;have C:=qwk (show CallsIn Fence.wide (m-1) Tryz.prog 207 #[.slice (some (ad.add a)) (L.length-a) (c-a)] wr _ from callsIn_wide.2 C);have O: ¬c=f:=by omega
   obtain⟨n1,R⟩:∃n,n=st (L.drop a):=⟨_,rfl⟩;rw[<-R] at hp hb sr ss C;have a4:=qwk R;have SR:=qwk sr;have SS:=qwk ss;clear R sr ss rs;by_cases h4:4<=n1
   ·have d4:decide ((4:Int)<=(n1:Int))=true:=decide_eq_true (by omega)
    have d:=SR.out h4;by_cases hf:f<a
    ·rw[if_pos hf] at d
     have b:=qwk (show pre.map Subtype.val++[(f,a)]++[(a,a+n1)]++zcu L (a+n1) (a+n1)=zcu L 0 0 by rw[<-i.out,d,qrc,qrc];rfl)
     clear d
     gi_wp2_with fail
     refine⟨trivial,?_⟩;refine C.out.mono ?_;rintro e X ⟨rfl,z⟩;have r:=HJ.out _ _ _ u.out z;have Z:X.cell? ⟨k,0,none⟩=some (.slice (some ad) L.length c):=(qwu z (p:=⟨k,0,none⟩) (by show k<wr.heap.size;omega)).trans a6;have S:pre.length<(zcu L 0 0).length:=by have:=congrArg List.length b.out;simp only[qrp,qtl,qr1,qub] at this;omega
     obtain⟨fn,a3,assign,body,D,hR⟩:=HY.out pre ⟨(f,a),by omega,by omega⟩ X r S;unfold slV at D;rw[if_neg O] at D;dsimp only[Option.map_some] at D;have j:=o.trans (qxq z B)
     gi_wp2_with fail
     refine hR.mono ?_;rintro e w3 (⟨rfl,G,a1⟩|⟨rfl,v⟩);rotate_left
     ·gi_wp2
      refine⟨fun _ h=>(by cases h),?_⟩
      gi_wp2
      refine bodyPost_ret (results_none rfl _ _ _) rfl ?_;exact⟨⟨_,rfl⟩,.inr ⟨_,v⟩⟩
     have Y:=j.trans a1;clear D hR Z;have a0:w3.cell? ⟨k,0,none⟩=some (.slice (some ad) L.length c):=(Y.cell (p:=⟨k,0,none⟩) M K).trans P;have y:(pre++[(⟨(f,a),by omega,by omega⟩:Sp L.length)]).length<(zcu L 0 0).length:=by have:=congrArg List.length b.out;simp only[qrp,qtl,qr1,qub] at this⊢;omega
     obtain⟨a5,T,q,F,g,I⟩:=HY.out (pre++[(⟨(f,a),by omega,by omega⟩:Sp L.length)]) ⟨(a,a+n1),by omega,by omega⟩ w3 G y;unfold slV at g;rw[if_neg N] at g;dsimp only[Option.map_some] at g;rw[qvj] at g
     gi_wp2_with fail
     refine I.mono ?_;rintro e w4 (⟨rfl,H,Q⟩|⟨rfl,w⟩)
     ·have E:=Y.trans Q
      gi_wp2
      go_roundw
      case rel=>exact⟨a+n1,a+n1,_,by go_num,by go_num,qq0 _,by omega,qwk (by simpa using b.out),qwk H,E⟩
      case measure=>simp[intOf];omega
     ·gi_wp2
      refine bodyPost_ret (results_none rfl _ _ _) rfl ?_;exact⟨⟨_,rfl⟩,.inr ⟨_,w⟩⟩
    ·rw[if_neg hf] at d
     have b:=qwk (show pre.map Subtype.val++[(a,a+n1)]++zcu L (a+n1) (a+n1)=zcu L 0 0 by rw[<-i.out,d,qrc];rfl)
     clear d
     gi_wp2_with fail
     refine⟨trivial,?_⟩;refine C.out.mono ?_;rintro e X ⟨rfl,z⟩;have r:=HJ.out _ _ _ u.out z;have j:=o.trans (qxq z B);have a0:X.cell? ⟨k,0,none⟩=some (.slice (some ad) L.length c):=(j.cell (p:=⟨k,0,none⟩) M K).trans P;have y:(pre).length<(zcu L 0 0).length:=by have:=congrArg List.length b.out;simp only[qrp,qtl,qr1,qub] at this⊢;omega
     obtain⟨a5,T,q,F,g,I⟩:=HY.out (pre) ⟨(a,a+n1),by omega,by omega⟩ X r y;unfold slV at g;rw[if_neg N] at g;dsimp only[Option.map_some] at g;rw[qvj] at g
     gi_wp2_with fail
     refine⟨fun _ h=>(by cases h),?_⟩
     gi_wp2_with fail
     refine I.mono ?_;rintro e w4 (⟨rfl,H,Q⟩|⟨rfl,w⟩)
     ·have E:=j.trans Q
      gi_wp2
      go_roundw
      case rel=>exact⟨a+n1,a+n1,_,by go_num,by go_num,qq0 _,by omega,qwk (by simpa using b.out),qwk H,E⟩
      case measure=>simp[intOf];omega
     ·gi_wp2
      refine bodyPost_ret (results_none rfl _ _ _) rfl ?_;exact⟨⟨_,rfl⟩,.inr ⟨_,w⟩⟩
   ·have d:=qwk (show pre.map Subtype.val++zcu L f (a+n1)=zcu L 0 0 by rw[<-SS.out h4];exact i.out)
    have d4:decide ((4:Int)<=(n1:Int))=false:=decide_eq_false (by omega)
    gi_wp2_with fail
    refine⟨trivial,?_⟩;refine C.out.mono ?_;rintro e X ⟨rfl,z⟩;have r:=qwk (HJ.out _ _ _ u.out z);have j:=qwk (o.trans (qxq z B));clear SR SS a4 z C i
    gi_wp2
    go_roundw
    case rel=>exact⟨f,a+n1,pre,rfl,by go_num,by omega,by omega,d,r,j.out⟩
    case measure=>simp[intOf];omega
  ·obtain rfl:a=L.length:=by omega
   have V:=zka (l:=L) (f:=f) (qq0 _);by_cases hf:f<L.length
   ·rw[if_pos hf] at V
    have b:=qwk (show pre.map Subtype.val++[(f,L.length)]=zcu L 0 0 by rw[<-V];exact i.out);have S:pre.length<(zcu L 0 0).length:=by have:=congrArg List.length b.out;simp only[qrp,qtl,qr1,qub] at this;omega
    obtain⟨ad,U,-⟩:=HR.out.2 (by omega);subst U;have O: ¬c=f:=by omega
    obtain⟨fn,a3,assign,body,D,hR⟩:=HY.out pre ⟨(f,L.length),by omega,by omega⟩ wr u.out S;unfold slV at D;rw[if_neg O] at D;dsimp only[Option.map_some] at D;clear V i
    gi_wp2_with fail
    refine hR.mono ?_;rintro e W3 (⟨rfl,G,a1⟩|⟨rfl,v⟩)
    ·gi_wp2
     go_end0
     exact⟨⟨_,rfl⟩,.inl ⟨_,by simpa using b.out,G⟩⟩
    ·gi_wp2
     go_end0
     exact⟨⟨_,rfl⟩,.inr ⟨_,v⟩⟩
   ·rw[if_neg hf] at V
    have b:=qwk (show pre.map Subtype.val=zcu L 0 0 by rw[<-i.out,V,qra]);clear V i
    gi_wp2
    go_end0
    exact⟨⟨_,rfl⟩,.inl ⟨_,b.out,u.out⟩⟩
def z44(A:Option Addr)(n c:Nat)(w:World)(e:Ending)(w':World):Prop:=e= .returned (.func (.func 206) #[] #[.pointer (some ⟨w.heap.size,0,none⟩)])/\w'=w.alloc (.cells #[.slice A n c] 201)
theorem z45(A:Option Addr)(n c:Nat)(w:World):Calls Tryz.prog 190 #[.slice A n c] w (z44 A n c w):=by
 have d:∀(b:Fn) (first a:Array Value) (w:World),(Instr.makeFunc b first a).run Tryz.prog w= .ok (.func b first a) w:=fun _ _ _ _=>rfl
 go_enter Tryz.func190,Tryz.ntmps190
 go_wp2
 go_ret
 exact⟨by simp,rfl⟩
theorem zwu{m a bo n0 c:Nat}{A:Option Addr}{L:List Nat}(hm:1<=m)(C:L.length<=c)(z:L.length<=1000000){w:World}(i:n0<=w.heap.size)(f:a<n0)(d:a≠bo)(v:0<L.length-> ∀ad,A=some ad->ad.block≠bo)(g:w.cell? ⟨a,0,none⟩=some (.slice A L.length c))(F:Reads w n0 1 A L.length (zar .u64 L)):
 SeqStopsK Fence.wide m Tryz.prog 206 #[.pointer (some ⟨a,0,none⟩)] (fun x:Sp L.length=> #[slV A c x.1.1 x.1.2]) (KB n0 bo) (fun ys=>ys.map Subtype.val=zcu L 0 0) (fun _=>True) (zcu L 0 0).length w:=fun l J n W b y _ B r=>by
 refine(z43 (n0:=n0) (bo:=bo) hm C z J n (fun s o q D E=>y s o q none D (z42 E) (fun _ e=>by cases e)) B W (qqs i b.size) f d v ((b.cell (p:=⟨a,0,none⟩) (by show a<_;omega)).trans g) (F.keep fun p H=>b.cell (by omega)) r).mono ?_;rintro e G ⟨k,⟨ys,t,u⟩|⟨j,h⟩⟩
 ·exact⟨k,.inl ⟨ys,t,u⟩⟩
 ·exact⟨k,.inr ⟨j,trivial,h⟩⟩
open Go.RowKit Go.Hm Go.Shelf
attribute [local go_sem] Oper.semAt_some
theorem KB.of_below{n0 bo:Nat}{W a:World}(h:Below n0 W a):KB n0 bo W a:=⟨h.size,fun k b _=>h.block k b⟩
theorem z47{L:List Nat}:∀(k f a:Nat),L.length-a<=k->f<=a->a<=L.length->(zcu L f a).length<=2*(L.length-a)+1:=by
 intro k;induction k with
 |zero=>
  intro f a i h d;rw[zka (by omega)];split<;> simp
 |succ k c=>
  intro f a i h d;by_cases g:L.length<=a
  ·rw[zka g]
   split<;> simp
  have j:=zoj (l:=L.drop a) (by rw[qqw];omega);have e:=(zf1 (L.drop a)).1;rw[qqw] at e;by_cases b:4<=st (L.drop a)
  ·rw[znm (by omega) b,qrp,qr1]
   have:=c (a+st (L.drop a)) (a+st (L.drop a)) (by omega) (qq0 _) (by omega);split<;> simp<;> omega
  ·rw[zlh (by omega) b]
   have:=c f (a+st (L.drop a)) (by omega) (by omega) (by omega);omega
end Go.Proofs.Y
namespace Go.Hm
open Go.RowKit
section
variable{P:Program}{ops:Array Oper}{Q:Exit->Act->World->Prop}{l n:Nat}
theorem qk6{o:Oper}{a:Act}{K:Act->World->Prop}:∀{r:Result Next},o.upon P a K Q r->o.uponIn (Fence.wide.inRound l) n P a K Q r
 | .ok (.value _) _,h=>h
 | .ok .skip _,h=>h
 | .ok (.defer _) _,h=>h
 | .ok (.enter _ _) _,h=>⟨fun e=>(by cases e),CallsIn.inRound l (callsIn_wide.2 h)⟩
 | .ok (.row _ _) _,h=>⟨fun e=>(by cases e),fun c b _=>(match h c b with|⟨v,w',r,s⟩=>⟨v,w',r,stepsIn_wide.2 s⟩)⟩
 | .ok (.round _ _ _ _ _) _,h=>h.elim
 | .halt (.panic _) _,h=>h
 | .halt (.unsupported _) _,h=>h.elim
 | .halt .blocked _,h=>h.elim
 | .halt .waiting _,h=>h.elim
 | .halt _ _,h=>by
   revert h
   rename_i x w;cases x<;> intro h<;> first|exact h|exact h.elim
def qfz(ops:Array Oper):Bool:=ops.all fun o=>match o.op with
 | .defer _=>false
 |_=>true
theorem z48(h:qfz ops=true){i:Nat}{o:Oper}(hi:ops[i]? =some o):∀c,o.op≠ .defer c:=by intro c b;unfold qfz at h;rw[Array.all_eq_true] at h;obtain⟨a,rfl⟩:=qq2.1 hi;have:=h i a;rw[b] at this;cases this
theorem qo4{o:Oper}{a:Act}{w:World}{K:Act->World->Prop}(b:∀c,o.op≠ .defer c)(h:o.wp P a w K Q):o.wpIn (Fence.wide.inRound l) n P a w K Q:=
 ⟨fun _ _=>trivial,by rw[Oper.semAt_plain _ _ _ b];exact qk6 h⟩
theorem z2g{md:Region.Mode}(hno: ¬LetsOut Q)(hd:qfz ops=true):∀(b:Nat) (c:Array Bool) (a:Act) (w:World),wpAny P md ops Q b c a w->wpAnyIn (Fence.wide.inRound l) n P md ops Q b c a w
 |0,_,_,_,h=>h
 |b+1,c,a,w,h=>⟨h.1,fun i f=>by
  have d:=h.2 i f;unfold wpOp at d;unfold wpOpIn;cases ho:ops[i]? with
  |none=>
   rw[ho] at d;exact z2g hno hd b _ _ _ d
  |some o=>
   rw[ho] at d;dsimp only at d⊢;split
   ·rename_i e
    rw[if_pos e] at d;rcases d with d|d
    ·exact Oper.wpIn_mono (fun a w h=>z2g hno hd b _ a w h) (qo4 (z48 hd ho) d)
    ·exact absurd d.2 hno
   ·rename_i e
    rw[if_neg e] at d;exact⟨fun _ _=>trivial,z2g hno hd b _ _ _ d⟩⟩
theorem zgv{q:Nat}{a:Act}{w:World}(R:World->World->Prop)(k:Nat)(b:List (Nat × Nat))(d:∀w,R w w)(c:∀{x y z},R x y->R y z->R x z)(hm:P.follows .mixedOrders=true)
 (f:∀a w,¬Q .outgrown a w)(m:qfz ops=true)(o:Region.noSelect ops=true)(e:(decide (b.length<=ops.size)&&b.all fun x=>decide (x.2<ops.size))=true)(g:zr6 ops k (Array.replicate ops.size false) b=true)(h:zlx P ops R Q k b false a w.drew):(Code.region q ops true).wpIn (Fence.wide.inRound l) n P Q a w:=by
 simp only[qsl,decide_eq_true_eq,qs9] at e;refine wpIn_mono (wpIn_region_any (Q:=NoPanic Q) hm (z2g ?_ m _ _ _ _ (znc _ _ _ _ (zn8 d c o b ops.size _ false a _ (by simp) ?_ e.1 g h)))) NoPanic.imp
 ·rintro⟨a,w,h⟩
  exact f a w h
 ·intro i j
  simp only[qqu] at j;obtain⟨x,p,rfl⟩:=j;rw[Array.size_replicate];exact e.2 x p
end
end Go.Hm
namespace Go.Proofs.Y
open Go.RowKit Go.Hm
def restB(L:List Nat):List Nat:=wid L::low (pk (wid L) L) ((wid L*L.length+7)/8)
theorem zz2{w:World}{A:Option Addr}{c:Nat}{L:List Nat}(h:Reads w w.heap.size 1 A L.length (zar .u64 L))(d:∀x∈L,x<=18446744073709551615)(g:L.length<=65536):
 Calls Tryz.prog 192 #[.slice A L.length c] w (OptB (some (restB L)) w):=by
 have W:=qwk (zl8 (c:=c) h d (by omega));have i:=zk2 L d;have f:=zge L (wid L) i g (qq0 _);have D:(wid L*L.length+7)/8<=524288:=by have:=quy i g;omega
 have K:=qwk (zo7 (c:=c) (wid L:Int) h d (by omega) (by omega) (by omega));rw[f] at K;have a:(low (pk (wid L) L) ((wid L*L.length+7)/8)).length=(wid L*L.length+7)/8:=za0 _ _;have p:Hid (restB L=[wid L]++low (pk (wid L) L) ((wid L*L.length+7)/8)):=qwk rfl;clear f d;generalize restB L=C at*;generalize low (pk (wid L) L) ((wid L*L.length+7)/8)=B at*;generalize(wid L*L.length+7)/8=m at*;generalize wid L=q at*;subst a;go_enter Tryz.func192,Tryz.ntmps192
 go_wp2_with fail
 refine W.out.mono ?_;rintro e E ⟨rfl,rfl⟩;go_wp2_with fail
 refine K.out.mono ?_;rintro e y ⟨z,u,c2,rfl,j,b⟩;obtain rfl:u=B.length:=by have:=j.len;rwa[zaa] at this
 clear W K;have t:IntKind.u8.wrap (q:Int)=(q:Int):=by rw[qwl];omega
 go_wp2_with (first
  |(refine zaq elB rfl (.tmp 17) (.tmp 18) rfl (W:=w) (B:=w.heap.size) (k:= .u8) (l:=[q]) (l2:=B) (c2:=c2) (World.ownsRow_lit (e:=5) (size:=1) (base:=w.heap.size) y #[.int .u8 (q:Int)] 1 b.size (by decide) rfl) ((j.reads.alloc (qq0 _) _).more (by simp)) rfl rfl (b.alloc b.size _) (qq0 _) (by have:=b.size;simp;omega) (by omega) (by simp only[maxLen];omega) ?_
    intro o s F _ _ v _ r _))
 go_ret2
 refine⟨o,_,s,rfl,?_,r⟩;rw[p.out];exact v
end Go.Proofs.Y
