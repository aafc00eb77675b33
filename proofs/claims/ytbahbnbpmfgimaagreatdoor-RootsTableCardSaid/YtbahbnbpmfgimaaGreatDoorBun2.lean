import Derived.Shelf.Strconv.Itoa0
import Derived.Test.YtbahbnbpmfgimaaGreatDoorBun1
import Derived.Test.YtbahbnbpmfgimaaGreatDoorRows
set_option maxHeartbeats 200000
namespace Go.Proofs.Y
open Go.Shelf
def zyz:Go.Shelf.Ren:=⟨fun|129=>120|n=>n,fun|53=>138|3=>3|4=>4|46=>170|5=>5|9=>9|n=>n,fun|n=>n⟩
theorem qjn:Go.Proofs.Lays.n129 Tryz.prog zyz:={
 mixed:=by kernel_rfl
 f129:=Tryz.func120.trans (congrArg some (by kernel_rfl))
 t3:=Tryz.underlying3
 a3:=Tryz.isAgg3
 z3:=Tryz.sizeOf3
 v3:=Tryz.zeroValue3
 t4:=Tryz.underlying4
 a4:=Tryz.isAgg4
 z4:=Tryz.sizeOf4
 v4:=Tryz.zeroValue4
 t5:=Tryz.underlying5
 a5:=Tryz.isAgg5
 z5:=Tryz.sizeOf5
 v5:=Tryz.zeroValue5
 t9:=Tryz.underlying9
 a9:=Tryz.isAgg9
 z9:=Tryz.sizeOf9
 v9:=Tryz.zeroValue9
 t46:=Tryz.underlying170
 a46:=Tryz.isAgg170
 z46:=Tryz.sizeOf170
 v46:=Tryz.zeroValue170
 t53:=Tryz.underlying138
 a53:=Tryz.isAgg138
 z53:=Tryz.sizeOf138
 v53:=Tryz.zeroValue138}
theorem bits_Len64(x:Int)(w:World)(a:0<=x)(b:x<=18446744073709551615):
 Calls Tryz.prog 120 #[.int .u64 x] w fun e w'=>e= .returned (.int .i64 (Lib.bitLen x.toNat))/\w'=w:=Any.bits_Len64 qjn x w a b
open Go.Hm
theorem Tryz.own:ownKnob Tryz.prog.godebug=none:=by kernel_rfl
theorem Tryz.laidOut:laidOutB Tryz.prog=true:=by kernel_rfl
theorem elB:ElT Tryz.prog 24 5 (.int .u8 0) 1 1:=⟨by kernel_rfl,by kernel_rfl,rfl,by omega⟩
theorem elW:ElT Tryz.prog 201 138 (.int .u64 0) 1 8:=⟨by kernel_rfl,by kernel_rfl,rfl,by omega⟩
theorem elI:ElT Tryz.prog 57 3 (.int .i64 0) 1 8:=⟨by kernel_rfl,by kernel_rfl,rfl,by omega⟩
theorem zjz{w:World}{B n c:Nat}{A:Option Addr}{l:List Nat}(h:Reads w B 1 A n (zar .u8 l)):(convert 24 9 (.slice A n c)).run Tryz.prog w= .ok (.string (zaf l)) w:=
 qjm (e:=5) (by kernel_rfl) (by kernel_rfl) (by kernel_rfl) h
end Go.Proofs.Y
namespace Go.Hm
open Go.RowKit
section
variable{P:Program}{ops:Array Oper}{Q:Exit->Act->World->Prop}{md:Region.Mode}{S:World->Prop}{t0:Nat}
def zlw(P:Program)(md:Region.Mode)(ops:Array Oper)(Q:Exit->Act->World->Prop)(t0:Nat)(S:World->Prop):Nat->Array Bool->Act->World->Prop
 |0,listed,a,w=>Region.ready md ops listed=[]/\Q .normal a w
 |fuel+1,listed,a,w=>(Region.ready md ops listed=[]->Q .normal a w)/\
  ∀i∈Region.ready md ops listed,wpOp P ops Q i (fun a' w'=>((listed.setIfInBounds i true).getD t0 false=true\/S w')/\zlw P md ops Q t0 S fuel (listed.setIfInBounds i true) a' w') a w
theorem znc:∀(b:Nat) (c:Array Bool) (a:Act) (w:World),zlw P md ops Q t0 S b c a w->wpAny P md ops Q b c a w
 |0,_,_,_,h=>h
 |b+1,_,_,_,h=>⟨h.1,fun i g=>wpOp_mono (fun e j f=>znc b _ e j f.2) (h.2 i g)⟩
theorem zcd{l:Array Bool}{i t:Nat}(h:l.getD t false=true):(l.setIfInBounds i true).getD t false=true:=by
 rw[qs4] at h⊢;rw[qs5];split
 ·split
  ·rfl
  ·rename_i e b;subst e;rw[qq5 (by omega)] at h;simp at h
 ·exact h
theorem zhh{l:Array Bool}{i t:Nat}(b:i≠t):(l.setIfInBounds i true).getD t false=l.getD t false:=by rw[qs4,qs4,qs5,if_neg b]
theorem zih{S':World->Prop}:∀(c:Nat) (b:Array Bool) (a:Act) (w:World),(b.getD t0 false=true\/ ∀w,S w->S' w)->zlw P md ops Q t0 S c b a w->zlw P md ops Q t0 S' c b a w
 |0,_,_,_,_,e=>e
 |c+1,b,_,_,h,e=>⟨e.1,fun i k=>wpOp_mono (fun j g f=>⟨by
  rcases h with h|h
  ·exact .inl (zcd h)
  ·exact f.1.imp id (h g),zih c _ j g (h.imp zcd id) f.2⟩) (e.2 i k)⟩
theorem zv3{i:Nat}{C:Oper}{v:Value}(hi:ops[i]? =some C)(W:i≠t0)(y:∀(j:Nat) (o:Oper) cs b,ops[j]? =some o->o.op≠ .select cs b)
 (hQ:∀c a w,Q (.panic c) (a.put C.dst v) w->Q (.panic c) a w)(V:World->Prop)
 (t:(∀w,V w)\/((∀w,S w->V w)/\ ∃ot,ops[t0]? =some ot/\ ∃e∈ot.after,Region.binds md e=true/\e.on=i)):
 ∀(fuel:Nat) (f:Array Bool) (a:Act) (w:World),
  (∀j oj,ops[j]? =some oj->j≠i->f.getD j true=false->(∀e∈oj.after,Region.binds md e=true->e.on≠i)->C.apart ops oj=true)->
  i∈Region.ready md ops f->YieldsIf P ops V C v a->(f.getD t0 false=true\/S w)->((∀w,V w)\/f.getD t0 false=false)->
  zlw P md ops Q t0 S fuel (f.setIfInBounds i true) (a.put C.dst v) w->zlw P md ops Q t0 S (fuel+1) f a w:=by
 have E:∀(f:Array Bool) (w:World),(f.getD t0 false=true\/S w)->((∀w,V w)\/f.getD t0 false=false)->V w:=by
  intro f w l m;rcases m with m|m
  ·exact m w
  ·rcases l with l|l
   ·rw[m] at l;cases l
   ·rcases t with t|t
    ·exact t w
    ·exact t.1 w l
 intro fuel;induction fuel with
 |zero=>
  intro f a w _ B M l m H;refine⟨fun h=>(by rw[h] at B;cases B),fun j L=>?_⟩;by_cases g:j=i
  ·subst g
   exact M.wpOp hi (E f w l m) ⟨l.imp zcd id,H⟩
  ·have:=ready_mono L g
   rw[H.1] at this;cases this
 |succ fuel ih=>
  intro f a w n B M l m H;refine⟨fun h=>(by rw[h] at B;cases B),fun j L=>?_⟩;by_cases g:j=i
  ·subst g
   exact M.wpOp hi (E f w l m) ⟨l.imp zcd id,H⟩
  ·have z:=H.2 j (ready_mono L g)
   obtain⟨u,oj,q,F⟩:=mem_ready.1 L;have x:∀e∈oj.after,Region.binds md e=true->e.on≠i:=fun e U T A=>by
    have z:=F e U T;have h0:=(mem_ready.1 B).1;rw[A] at z;rcases qq4 i f.size with N|N
    ·simp[N] at h0 z;rw[h0] at z;cases z
    ·simp[Array.getElem?_eq_none N] at z
   have h2:=wpOp_putIf q (n j oj q g u x) (fun cs b=>y i C cs b hi) (fun cs b=>y j oj cs b q) hQ M z;have p:∀k J,ops[k]? =some J->k≠i->(f.setIfInBounds j true).getD k true=false->
    (∀e∈J.after,Region.binds md e=true->e.on≠i)->C.apart ops J=true:=fun k J hk Y I Z=>by
    refine n k J hk Y ?_ Z;by_cases G:j=k
    ·subst G;exact u
    ·rw[getD_set_ne true G] at I;exact I
   have a0:(∀w,V w)\/(f.setIfInBounds j true).getD t0 false=false:=by
    rcases t with t|⟨_,ot,s,e,U,T,A⟩
    ·exact .inl t
    ·refine m.imp id fun m=>?_
     have X:j≠t0:=by rintro rfl;rw[q] at s;injection s with s;subst s;exact x e U T A
     rw[zhh X];exact m
   refine wpOp_mono (fun a' w' O=>?_) h2;have D:(f.setIfInBounds j true).getD t0 false=true\/S w':=by refine O.2.1.imp (fun h4=>?_) id;rw[qs6 _ _ (fun e=>g e.symm),zhh W] at h4;exact h4
   refine⟨D,ih (f.setIfInBounds j true) a' w' p (ready_mono B (qs7 g)) O.1 D a0 ?_⟩;rw[qs6 _ _ g];exact O.2.2
theorem zpx{i:Nat}{f:Oper}{v:Value}{fuel:Nat}{b:Array Bool}{a:Act}{w:World}(V:World->Prop)(hi:ops[i]? =some f)(g:i≠t0)
 (p:Region.noSelect ops=true)(m:Region.free md ops b i=true)(n:(Region.ready md ops b).contains i=true)
 (j:∀c a w,Q (.panic c) (a.put f.dst v) w->Q (.panic c) a w)
 (l:(∀w,V w)\/((∀w,S w->V w)/\ ∃ot,ops[t0]? =some ot/\ ∃e∈ot.after,Region.binds md e=true/\e.on=i))
 (s:YieldsIf P ops V f v a)(k:b.getD t0 false=true\/S w)(q:(∀w,V w)\/b.getD t0 false=false)
 (h:zlw P md ops Q t0 S fuel (b.setIfInBounds i true) (a.put f.dst v) w):zlw P md ops Q t0 S (fuel+1) b a w:=
 zv3 hi g (Region.noSelect_spec p) j V l fuel b a w (Region.free_spec hi m) (by simpa using n) s k q h
def z7y(md:Region.Mode)(ops:Array Oper)(t0 i:Nat):Bool:=match ops[t0]? with
 |some ot=>ot.after.any fun e=>Region.binds md e&&e.on==i
 |none=>false
def zr6(ops:Array Oper)(t0:Nat):Array Bool->List (Nat × Nat)->Bool
 |listed,[]=>(Region.ready .any ops listed).isEmpty
 |listed,(0,i)::r=>(Region.ready .any ops listed).contains i&&(Region.free .any ops listed i&&(z7y .any ops t0 i&&(decide (i≠t0)&&(!listed.getD t0 false&&zr6 ops t0 (listed.setIfInBounds i true) r))))
 |listed,(1,i)::r=>(Region.ready .any ops listed).contains i&&(Region.free .any ops listed i&&(decide (i≠t0)&&zr6 ops t0 (listed.setIfInBounds i true) r))
 |listed,(_,i)::r=>decide (Region.ready .any ops listed=[i])&&zr6 ops t0 (listed.setIfInBounds i true) r
def zlx(P:Program)(ops:Array Oper)(R:World->World->Prop)(Q:Exit->Act->World->Prop)(t0:Nat):List (Nat × Nat)->Bool->Act->World->Prop
 | [],_,a,w=>Q .normal a w
 |(0,i)::r,d,a,w=>∃o v,ops[i]? =some o/\((Region.wanted o (yielded ops a.tmps)=true/\ ∀w',R w w'->(execOp a.eval o).run P w'= .ok (.value v) w')\/(Region.wanted o (yielded ops a.tmps)=false/\v=undef))/\zlx P ops R Q t0 r d (a.put o.dst v) w
 |(1,i)::r,d,a,w=>∃o v,ops[i]? =some o/\((Region.wanted o (yielded ops a.tmps)=true/\ ∀w',(execOp a.eval o).run P w'= .ok (.value v) w')\/(Region.wanted o (yielded ops a.tmps)=false/\v=undef))/\zlx P ops R Q t0 r d (a.put o.dst v) w
 |(_,i)::r,d,a,w=>∃o,ops[i]? =some o/\if Region.wanted o (yielded ops a.tmps) then o.wp P a w (fun a' w'=>(d=true\/i=t0\/R w w')/\zlx P ops R Q t0 r (d||i==t0) a' w') (NoPanic Q) else zlx P ops R Q t0 r (d||i==t0) (a.put o.dst undef) w
variable{R:World->World->Prop}
theorem zy4{i:Nat}(h:z7y md ops t0 i=true):∃ot,ops[t0]? =some ot/\ ∃e∈ot.after,Region.binds md e=true/\e.on=i:=by
 unfold z7y at h;split at h
 ·rename_i ot b
  rw[Array.any_eq_true] at h;obtain⟨j,c,h⟩:=h;simp only[qsl,beq_iff_eq] at h;exact⟨ot,b,ot.after[j],Array.getElem_mem c,h.1,h.2⟩
 ·cases h
theorem zn8(g:∀w,R w w)(p:∀{x y z},R x y->R y z->R x z)(hs:Region.noSelect ops=true):
 ∀(m:List (Nat × Nat)) (fuel:Nat) (c:Array Bool) (d:Bool) (a:Act) (w:World),(d=true->c.getD t0 false=true)->(∀i∈m.map (·.2),i<c.size)->m.length<=fuel->zr6 ops t0 c m=true->zlx P ops R Q t0 m d a w->zlw P .any ops (NoPanic Q) t0 (R w) fuel c a w:=by
 intro m;induction m with
 |nil=>
  intro fuel c d a w _ _ _ f h;have B:Region.ready .any ops c=[]:=by simpa[zr6] using f
  cases fuel with
  |zero=>exact⟨B,qwm h⟩
  |succ fuel=>exact⟨fun _=>qwm h,by rw[B];simp⟩
 |cons x r J=>
  obtain⟨b,i⟩:=x;intro fuel c d a w H F hl f h;obtain⟨fuel,rfl⟩:∃k,fuel=k+1:=⟨fuel-1,by simp at hl;omega⟩;have n:r.length<=fuel:=by simp at hl;omega
  have l:∀k∈r.map (·.2),k<(c.setIfInBounds i true).size:=fun k Z=>by rw[Array.size_setIfInBounds];exact F k (by simp at Z⊢;exact .inr Z)
  have O:i<c.size:=F i (by simp)
  match b with
  |0=>
   obtain⟨o,v,E,U,B⟩:=h;simp only[zr6,qsl,decide_eq_true_eq,Bool.not_eq_true'] at f;obtain⟨u,M,A,N,h5,h6⟩:=f;exact zpx (R w) E N hs M u (fun _ _ _ T=>T) (.inr ⟨fun _ q=>q,zy4 A⟩) U (.inr (g w)) (.inr h5) (J fuel _ d _ w (fun e=>zcd (H e)) l n h6 B)
  |1=>
   obtain⟨o,v,E,U,B⟩:=h;simp only[zr6,qsl,decide_eq_true_eq] at f;obtain⟨u,M,A,N⟩:=f;exact zpx (fun _=>True) E A hs M u (fun _ _ _ T=>T) (.inl fun _=>trivial) (U.imp (fun q=>⟨q.1,fun C _=>q.2 C⟩) id) (.inr (g w)) (.inl fun _=>trivial) (J fuel _ d _ w (fun e=>zcd (H e)) l n N B)
  |b+2=>
   obtain⟨o,E,G⟩:=h;simp only[zr6,qsl,decide_eq_true_eq] at f;obtain⟨u,A⟩:=f;refine⟨fun W=>(by rw[u] at W;cases W),fun j Y=>?_⟩;rw[u] at Y;obtain rfl:j=i:=by simpa using Y
   have t:(d||j==t0)=true->(c.setIfInBounds j true).getD t0 false=true:=by
    intro e;rw[qs8,beq_iff_eq] at e;rcases e with e|rfl
    ·exact zcd (H e)
    ·rw[qs4,qs5,if_pos rfl,if_pos O];rfl
   unfold wpOp;simp only[E];split
   ·rename_i V
    rw[if_pos V] at G;refine .inl (Oper.wp_mono (fun L C q=>?_) G);obtain⟨s,q⟩:=q;have X:=J fuel _ _ L C t l n A q;by_cases I:(c.setIfInBounds j true).getD t0 false=true
    ·exact⟨.inl I,zih fuel _ L C (.inl I) X⟩
    ·have D:R w C:=by
      rcases s with s|s|s
      ·exact absurd (zcd (H s)) I
      ·exact absurd (t (by simp[s])) I
      ·exact s
     exact⟨.inr D,zih fuel _ L C (.inr fun z hz=>p D hz) X⟩
   ·rename_i V
    rw[if_neg V] at G;exact⟨.inr (g w),J fuel _ _ _ w t l n A G⟩
theorem zc6{m:Nat}{a:Act}{w:World}(R:World->World->Prop)(t0:Nat)(b:List (Nat × Nat))(e:∀w,R w w)(c:∀{x y z},R x y->R y z->R x z)(hm:P.follows .mixedOrders=true)
 (k:Region.noSelect ops=true)(f:(decide (b.length<=ops.size)&&b.all fun x=>decide (x.2<ops.size))=true)(g:zr6 ops t0 (Array.replicate ops.size false) b=true)(h:zlx P ops R Q t0 b false a w.drew):(Code.region m ops true).wp P Q a w:=by
 simp only[qsl,decide_eq_true_eq,qs9] at f;refine wp_region_noPanic (wp_region_any hm (znc _ _ _ _ (zn8 e c k b ops.size _ false a _ (by simp) ?_ f.1 g h)));intro i j;simp only[qqu] at j;obtain⟨x,l,rfl⟩:=j;rw[Array.size_replicate];exact f.2 x l
variable{i:Nat}{r:List (Nat × Nat)}{a:Act}{w:World}{d:Bool}{v:Value}
theorem zgm(h:Q .normal a w):zlx P ops R Q t0 [] d a w:=h
section
variable{dst:Option Tmp}{op:Op}{ty:TypeId}{pos:String}{af:Array Edge}{gd:Option (Nat × Bool)}
theorem zc7(b:ops[i]? =some ⟨dst,op,ty,pos,af,gd⟩)(e:Region.wanted ⟨dst,op,ty,pos,af,gd⟩ (yielded ops a.tmps)=true)(c:∀w',R w w'->(execOp a.eval ⟨dst,op,ty,pos,af,gd⟩).run P w'= .ok (.value v) w')(h:zlx P ops R Q t0 r d (a.put dst v) w):zlx P ops R Q t0 ((0,i)::r) d a w:=
 ⟨_,v,b,.inl ⟨e,c⟩,h⟩
theorem zb8(b:ops[i]? =some ⟨dst,op,ty,pos,af,gd⟩)(e:Region.wanted ⟨dst,op,ty,pos,af,gd⟩ (yielded ops a.tmps)=true)(c:∀w',(execOp a.eval ⟨dst,op,ty,pos,af,gd⟩).run P w'= .ok (.value v) w')(h:zlx P ops R Q t0 r d (a.put dst v) w):zlx P ops R Q t0 ((1,i)::r) d a w:=
 ⟨_,v,b,.inl ⟨e,c⟩,h⟩
theorem zbh(e:ops[i]? =some ⟨dst,op,ty,pos,af,gd⟩)(f:Region.wanted ⟨dst,op,ty,pos,af,gd⟩ (yielded ops a.tmps)=true)(h:∀K:Act->World->Prop,(∀a' w',(d=true\/i=t0\/R w w')->zlx P ops R Q t0 r (d||i==t0) a' w'->K a' w')->Oper.wp P ⟨dst,op,ty,pos,af,gd⟩ a w K (NoPanic Q)):zlx P ops R Q t0 ((2,i)::r) d a w:=
 ⟨_,e,by rw[if_pos f];exact h _ fun _ _ b c=>⟨b,c⟩⟩
end
end
section
variable{P:Program}{o:Oper}{a:Act}{Q:Exit->Act->World->Prop}{K:Act->World->Prop}
theorem zly{w:World}{t e:TypeId}{z:Value}{b:Nat}(E:ElT P t e z 1 b)(s x:Operand)
 (ho:o.op= .call {callee:= .builtin .append,args:= #[s,x],argTypes:= #[t,t]})
 {W:World}{B base m c:Nat}{v:Value}{xs news:List Value}{C:Addr}(n:Own w base e v xs)(N:Reads w w.heap.size 1 (some C) m news)(H:0<m)(hs:a.eval s=v)(hx:a.eval x= .slice (some C) m c)
 (U:Below B W w)(F:B<=base)(g:base<=w.heap.size)(T:∀u∈news,u.oneCell'=true)
 (hn:(xs.length+m)*b<=140737488355328)(hm:xs.length+m<=maxLen)
 (h:∀A' c' w',xs.length+m<=c'->c'<=maxLen->Own w' base e (.slice A' (xs.length+m) c') (xs++news)->w.grownBy w' v.ownBlock->Below B W w'->K (a.put o.dst (.slice A' (xs.length+m) c')) w'):
 Oper.wp P o a w K Q:=by
 obtain⟨i,X,I,J,L⟩:=info_parts E.hi;have Z:news.length=m:=by have:=N.1;omega
 have l:∀j u,news[j]? =some u->w.cell? (C.add j)=some u:=by intro j u hu;obtain⟨O,D,_,V⟩:=N.2 H;injection D with D;subst D;exact V j u hu
 obtain⟨v',w',y,p,M,_,_⟩:=run_append_own_at (P:=P) w base t o.type e i z 1 b E.ht X I J L E.hz (by omega) v xs.length xs n C m c news (by omega) l T hm hn g;have A:(xs++news).length=xs.length+m:=by simp[Z]
 have f:Own w' base e v' (xs++news):=by unfold Own;rw[A];exact p
 obtain⟨A',c',rfl,q,G⟩:=f.slice;rw[A] at q f y;unfold Oper.wp execOp;simp only[ho,resolve,invoke,builtin,qwg,qwh,qwi,qri,qrj,qrk,hs,hx,y];exact h A' c' w' q G f M (U.grown M (qqs F g) (fun k Y=>by have:=(n.lt k Y).1;omega))
end
def pk(w:Nat):List Nat->Nat
 | []=>0
 |x::l=>x+2^w*pk w l
theorem z78(w:Nat)(l:List Nat)(x:Nat):pk w (l++[x])=pk w l+2^(w*l.length)*x:=by
 induction l with
 |nil=>simp[pk]
 |cons a l b=>
  simp only[qr0,pk,b,qr1];rw[qr2,qtx,qss];simp only[qrl,qr3,qqr]
theorem qmr(w:Nat)(l:List Nat)(h:∀x∈l,x<2^w):pk w l<2^(w*l.length):=by
 induction l with
 |nil=>simp[pk]
 |cons a l d=>
  have b:=d fun x c=>h x (by simp[c])
  have e:=h a (by simp);simp only[pk,qr1];rw[qtx,qss,qrl (2^(w*l.length))];have:2^w*(pk w l+1)<=2^w*2^(w*l.length):=qty _ b;rw[qr2] at this;omega
def zr3(w:Nat):Nat->Nat->List Nat
 |0,_=>[]
 |n+1,B=>zr3 w n B++[B/2^(w*n)%2^w]
theorem zfc(w n B:Nat):(zr3 w n B).length=n:=by induction n<;> simp_all[zr3]
theorem qj3(w n B:Nat):∀x∈zr3 w n B,x<2^w:=by
 induction n with
 |zero=>intro x a;simp[zr3] at a
 |succ n b=>
  intro x a;simp only[zr3,qr5,qr6] at a;rcases a with a|a
  ·exact b x a
  ·subst a;exact qr7 _ (qsn w)
theorem z79(w n B i:Nat)(h:i<n):(zr3 w n B).getD i 0=B/2^(w*i)%2^w:=by
 induction n with
 |zero=>omega
 |succ n b=>
  rw[zr3,qsh];by_cases a:i<n
  ·rw[qs2 (by rw[zfc];exact a),<-qsh,b a]
  ·obtain rfl:i=n:=by omega
   rw[qtp (by rw[zfc];exact qq0 _),zfc];simp
theorem qj4(w n B:Nat):pk w (zr3 w n B)=B%2^(w*n):=by
 induction n with
 |zero=>simp[zr3,pk,Nat.mod_one]
 |succ n a=>rw[zr3,z78,a,zfc,qtx,qss,Nat.mod_mul]
theorem qj5(w:Nat)(l:List Nat)(h:∀x∈l,x<2^w)(B:Nat)(o:B%2^(w*l.length)=pk w l):zr3 w l.length B=l:=by
 have d:∀(m:List Nat),(∀x∈m,x<2^w)-> ∀i,i<m.length->pk w m/2^(w*i)%2^w=m.getD i 0:=by
  intro m;induction m with
  |nil=>intro _ i c;simp at c
  |cons a m r=>
   intro g i c;have f:=g a (by simp);cases i with
   |zero=>simp[pk,Nat.add_mul_mod_self_left,Nat.mod_eq_of_lt f]
   |succ i=>
    rw[pk,qtx,qse (w*i),qss,<-qt0,qt1 _ _ (qsn w),qt2 f,qrs,r (fun x q=>g x (by simp[q])) i (by simpa using c)];simp
 refine qre (zfc _ _ _) fun i n b=>?_
 have j:(zr3 w l.length B).getD i 0=(zr3 w l.length B)[i]:=by rw[qsh,qqt n];rfl
 have k:l.getD i 0=l[i]:=by rw[qsh,qqt b];rfl
 rw[<-j,<-k,z79 w l.length B i b,<-d l h i b,<-o];have p:w*l.length=w*i+(w+w*(l.length-i-1)):=by
  have e:l.length=i+(1+(l.length-i-1)):=by omega
  conv=>lhs;rw[e]
  rw[qr2,qr2,qq7]
 rw[p,qss,qt3,qss,Nat.mod_mul_right_mod]
theorem zl2(X s i:Nat)(h:i<s):(low X s).getD i 0=X/256^i%256:=by
 induction s with
 |zero=>omega
 |succ s b=>
  rw[low,qsh];by_cases a:i<s
  ·rw[qs2 (by rw[za0];exact a),<-qsh,b a]
  ·obtain rfl:i=s:=by omega
   rw[qtp (by rw[za0];exact qq0 _),za0];simp
theorem zub(b:List Nat)(h:∀x∈b,x<256):low (num b) b.length=b:=by
 have e:∀(m:List Nat),(∀x∈m,x<256)-> ∀i,i<m.length->num m/256^i%256=m.getD i 0:=by
  intro m;induction m with
  |nil=>intro _ i d;simp at d
  |cons a m n=>
   intro f i d;have o:=f a (by simp);cases i with
   |zero=>simp[num];omega
   |succ i=>
    rw[num,qrx,qrl (256^i),<-qt0,show(a+256*num m)/256=num m by omega,n (fun x l=>f x (by simp[l])) i (by simpa using d)];simp
 refine qre (za0 _ _) fun i k c=>?_
 have g:(low (num b) b.length).getD i 0=(low (num b) b.length)[i]:=by rw[qsh,qqt k];rfl
 have j:b.getD i 0=b[i]:=by rw[qsh,qqt c];rfl
 rw[<-g,<-j,zl2 _ _ _ c,e b h i c]
theorem z1l(b:List Nat)(h:∀x∈b,x<256)(i:Nat)(hi:i<b.length):b.getD i 0=num b/256^i%256:=by have:=zl2 (num b) b.length i hi;rwa[zub b h] at this
theorem qef(s:Nat):low 0 s=List.replicate s 0:=by
 induction s with
 |zero=>rfl
 |succ s a=>rw[low,a,qt4];simp
theorem qj6(k:Nat):(256:Nat)^k=2^(8*k):=by rw[show(256:Nat)=2^8 from rfl,<-qsp]
theorem qj7(X s a c:Nat)(x:a<8*s)(p:X<2^a)(j:c<=1):
 (low X s).set (a/8) ((low X s).getD (a/8) 0+c*2^(a%8))=low (X+c*2^a) s/\(low X s).getD (a/8) 0<2^(a%8)/\(low X s).getD (a/8) 0+c*2^(a%8)<256:=by
 have v:a/8<s:=by omega
 have g:2^a=256^(a/8)*2^(a%8):=by rw[qj6,<-qss];congr 1;omega
 have y:2^(a%8)<=2^7:=qsb (by omega) (by omega);have o:X/256^(a/8)<2^(a%8):=by apply qrz;rw[<-g];exact p
 have e:(low X s).getD (a/8) 0=X/256^(a/8):=by rw[zl2 _ _ _ v];exact qr8 (by omega)
 have r:c*2^(a%8)<=2^(a%8):=by
  calc c*2^(a%8)<=1*2^(a%8):=qqz _ j
   _=_:=qt5 _
 have d:X/256^(a/8)+c*2^(a%8)<256:=by omega
 refine⟨?_,by rw[e];exact o,by rw[e];exact d⟩;refine qre (by simp[za0]) fun i w h=>?_
 have b:i<s:=by rwa[za0] at h
 have h1':i<(low X s).length:=by rwa[za0]
 have m:(low (X+c*2^a) s)[i]=(X+c*2^a)/256^i%256:=by rw[<-zl2 _ _ _ b,qsh,qqt h];rfl
 have l:(low X s)[i]'h1'=X/256^i%256:=by rw[<-zl2 _ _ _ b,qsh,qqt h1'];rfl
 rw[m,List.getElem_set];by_cases f:a/8=i
 ·subst f
  rw[if_pos rfl,e,g,show c*(256^(a/8)*2^(a%8))=256^(a/8)*(c*2^(a%8)) from qr3 _ _ _,qt1 _ _ (qry (by omega)),qr8 d]
 ·rw[if_neg f,l]
  rcases Nat.lt_or_gt_of_ne f with k|t
  ·have u:2^(a+1)<=256^i:=by rw[qj6];exact qsb (by omega) (by omega)
   have q:c*2^a<=2^a:=by
    calc c*2^a<=1*2^a:=qqz _ j
     _=_:=qt5 _
   rw[qrx] at u;rw[qt2 (by omega),qt2 (by omega)]
  ·have n:2^a=256^i*(256*2^(a-8*(i+1))):=by
    rw[qj6,show(256:Nat)=2^8 from rfl,<-qss,<-qss];congr 1;omega
   rw[n,show c*(256^i*(256*2^(a-8*(i+1))))=256^i*(256*(c*2^(a-8*(i+1)))) by simp only[qr3],qt1 _ _ (qry (by omega)),qtz]
theorem zod(y j:Nat):y%2^(j+1)=y%2^j+2^j*(y/2^j%2):=by rw[qrx,Nat.mod_mul]
theorem qj8{X m:Nat}(y j:Nat)(c:X<2^m):X+y%2^j*2^m<2^(m+j):=by have a:y%2^j<2^j:=qr7 _ (qsn _);have b:(y%2^j+1)*2^m<=2^j*2^m:=qqz _ a;rw[qsw,qt5] at b;rw[qss,qrl (2^m)];omega
theorem z8a{X m:Nat}(s y j a q r t:Nat)(c:X<2^m)(b:a=m+j)(e:a<8*s)(d:q=a/8/\r=a%8)(f:t=y/2^j%2):
 (low (X+y%2^j*2^m) s).getD q 0<2^r/\(low (X+y%2^j*2^m) s).set q ((low (X+y%2^j*2^m) s).getD q 0+t*2^r)=low (X+y%2^(j+1)*2^m) s:=by
 obtain⟨rfl,rfl⟩:=d;have h:=qj7 (X+y%2^j*2^m) s a t e (by rw[b];exact qj8 y j c) (by omega);refine⟨h.2.1,h.1.trans ?_⟩;congr 1
 rw[zod,qsw,f,b,qss,qqr];congr 2
 rw[qrl (2^m),<-qsx,qrl (y/2^j%2)]
end Go.Hm
