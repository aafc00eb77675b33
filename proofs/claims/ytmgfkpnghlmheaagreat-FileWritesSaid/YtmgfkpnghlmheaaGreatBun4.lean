import Derived.Shelf.Strconv.Itoa0
import Derived.Test.YtmgfkpnghlmheaaGreatBun3
import Derived.Test.YtmgfkpnghlmheaaGreatRows
set_option maxHeartbeats 1000000
set_option maxRecDepth 100000
namespace Go.Hm
open Go.Proofs Go.Proofs.Tryz Go.RowKit Go.ChangeShapes Go.Shelf Go.WideShapes
variable{w W:World}{B f n:Nat}{a o:Value}{b:Act->World->Prop}{x l:Int}{c:Ending}{d:Array Bool}{e:Option (List Nat)}{g:Act}{h:List Value}{m:Oper}
def L7:Go.Shelf.Ren:=⟨λ|129=>151|n=>n,λ|53=>87|3=>3|4=>4|46=>66|5=>5|9=>9|n=>n,λ|n=>n⟩
theorem L5:Go.Proofs.Lays.n129 Tryz.prog L7:={
 mixed:=by kernel_rfl
 f129:=Tryz.func151.trans (congrArg some (by kernel_rfl))
 t3:=Tryz.underlying3
 a3:=Tryz.isAgg3
 z3:=Tryz.sizeOf3
 v3:=Tryz.zeroValue3
 t4:=Tryz.underlying4
 a4:=Tryz.isAgg4
 z4:=Tryz.sizeOf4
 v4:=Tryz.zeroValue4
 t5:=Tryz.underlying5
 a5:=Tryz.isAgg5
 z5:=Tryz.sizeOf5
 v5:=Tryz.zeroValue5
 t9:=Tryz.underlying9
 a9:=Tryz.isAgg9
 z9:=Tryz.sizeOf9
 v9:=Tryz.zeroValue9
 t46:=Tryz.underlying66
 a46:=Tryz.isAgg66
 z46:=Tryz.sizeOf66
 v46:=Tryz.zeroValue66
 t53:=Tryz.underlying87
 a53:=Tryz.isAgg87
 z53:=Tryz.sizeOf87
 v53:=Tryz.zeroValue87}
theorem bits_Len64(x:Int)(w:World)(a:0<=x)(b:x<=18446744073709551615):Calls prog 151 #[.int .u64 x] w λe w'=>e= .returned (.int .i64 (Lib.bitLen x.toNat))/\w'=w:=Any.bits_Len64 L5 x w a b
theorem Tryz.own:ownKnob prog.godebug=none:=by kernel_rfl
theorem Tryz.laidOut:laidOutB prog=true:=by kernel_rfl
theorem cG:eW prog 31 5 (.int .u8 0) 1 1:=⟨by kernel_rfl,by kernel_rfl,rfl,by omega⟩
theorem rB:eW prog 146 87 (.int .u64 0) 1 8:=⟨by kernel_rfl,by kernel_rfl,rfl,by omega⟩
theorem rY:eW prog 26 3 (.int .i64 0) 1 8:=⟨by kernel_rfl,by kernel_rfl,rfl,by omega⟩
theorem Cw{c:Nat}{A:Option Addr}{l:List Nat}(h:aF w B 1 A n (aK .u8 l)):(convert 31 9 (.slice A n c)).run prog w= .ok (.string (aH l)) w:=Sb (e:=5) (by kernel_rfl) (by kernel_rfl) (by kernel_rfl) h
def kR(l:List Nat)(w:World)(e:Ending)(w':World):Prop:=∃A n c,e= .returned (.slice A n c)/\Own w' w.heap.size 5 (.slice A n c) (aK .u8 l)/\Below w.heap.size w w'
def pk(w:Nat):List Nat->Nat| []=>0|x::l=>x+2^w*pk w l
theorem Ra(w:Nat)(l:List Nat)(x:Nat):pk w (l++[x])=pk w l+2^(w*l.length)*x:=by induction l with|nil=>simp[pk]|cons a l b=>simp only[lM,pk,b,cJ];rw[An,yO,lF];simp only[jY,Mp,Dt]
theorem Qz(w:Nat)(l:List Nat)(h:∀x∈l,x<2^w):pk w l<2^(w*l.length):=by induction l with|nil=>simp[pk]|cons a l d=>have b:=d λx c=>h x (by simp[c]);have e:=h a (by simp);simp only[pk,cJ];rw[yO,lF,jY (2^(w*l.length))];have:2^w*(pk w l+1)<=2^w*2^(w*l.length):=Mo _ b;rw[An] at this;omega
def lT(w:Nat):Nat->Nat->List Nat|0,_=>[]|n+1,B=>lT w n B++[B/2^(w*n)%2^w]
theorem tM(w n B:Nat):(lT w n B).length=n:=by induction n<;> simp_all[lT]
theorem qd(w n B:Nat):∀x∈lT w n B,x<2^w:=by induction n with|zero=>intro x a;simp[lT] at a|succ n b=>intro x a;simp only[lT,cN,gE] at a;rcases a with a|a;exact b x a;subst a;exact Mm _ (qQ w)
theorem qc(w n B i:Nat)(h:i<n):(lT w n B).getD i 0=B/2^(w*i)%2^w:=by induction n with|zero=>omega|succ n b=>rw[lT,aZ];by_cases a:i<n;rw[Hd (by rw[tM];exact a),<-aZ,b a];(obtain rfl:i=n:=by omega);rw[Ah (by rw[tM];exact aG _),tM];simp
theorem cz(w n B:Nat):pk w (lT w n B)=B%2^(w*n):=by induction n with|zero=>simp[lT,pk,Nat.mod_one]|succ n a=>rw[lT,Ra,a,tM,yO,lF,Nat.mod_mul]
theorem qe(w:Nat)(l:List Nat)(h:∀x∈l,x<2^w)(B:Nat)(o:B%2^(w*l.length)=pk w l):lT w l.length B=l:=by
 have d:∀(m:List Nat),(∀x∈m,x<2^w)-> ∀i,i<m.length->pk w m/2^(w*i)%2^w=m.getD i 0:=by intro m;induction m with|nil=>intro _ i c;simp at c|cons a m r=>intro g i c;have f:=g a (by simp);cases i with|zero=>simp[pk,Nat.add_mul_mod_self_left,Nat.mod_eq_of_lt f]|succ i=>rw[pk,yO,Hh (w*i),lF,<-Ml,OM _ _ (qQ w),Hi f,sW,r (λx q=>g x (by simp[q])) i (by simpa using c)];simp
 refine yJ (tM _ _ _) λi n b=>?_;have j:(lT w l.length B).getD i 0=(lT w l.length B)[i]:=by rw[aZ,bN n];rfl
 have k:l.getD i 0=l[i]:=by rw[aZ,bN b];rfl
 rw[<-j,<-k,qc w l.length B i b,<-d l h i b,<-o];have p:w*l.length=w*i+(w+w*(l.length-i-1)):=by(have e:l.length=i+(1+(l.length-i-1)):=by omega);(conv=>lhs;rw[e]);rw[An,An,fT]
 rw[p,lF,tu,lF,Nat.mod_mul_right_mod]
theorem Fb(X s i:Nat)(h:i<s):(bO X s).getD i 0=X/256^i%256:=by induction s with|zero=>omega|succ s b=>rw[bO,aZ];by_cases a:i<s;rw[Hd (by rw[fQ];exact a),<-aZ,b a];(obtain rfl:i=s:=by omega);rw[Ah (by rw[fQ];exact aG _),fQ];simp
theorem Kd(b:List Nat)(h:∀x∈b,x<256):bO (num b) b.length=b:=by
 have e:∀(m:List Nat),(∀x∈m,x<256)-> ∀i,i<m.length->num m/256^i%256=m.getD i 0:=by intro m;induction m with|nil=>intro _ i d;simp at d|cons a m n=>intro f i d;have o:=f a (by simp);cases i with|zero=>simp[num];omega|succ i=>rw[num,tV,jY (256^i),<-Ml,show(a+256*num m)/256=num m by omega,n (λx l=>f x (by simp[l])) i (by simpa using d)];simp
 refine yJ (fQ _ _) λi k c=>?_;have g:(bO (num b) b.length).getD i 0=(bO (num b) b.length)[i]:=by rw[aZ,bN k];rfl
 have j:b.getD i 0=b[i]:=by rw[aZ,bN c];rfl
 rw[<-g,<-j,Fb _ _ _ c,e b h i c]
theorem EO(b:List Nat)(h:∀x∈b,x<256)(i:Nat)(hi:i<b.length):b.getD i 0=num b/256^i%256:=by have:=Fb (num b) b.length i hi;rwa[Kd b h] at this
theorem DZ(s:Nat):bO 0 s=List.replicate s 0:=by induction s with|zero=>rfl|succ s a=>rw[bO,a,Mj];simp
theorem zN(k:Nat):(256:Nat)^k=2^(8*k):=by rw[show(256:Nat)=2^8 from rfl,<-Mr]
theorem Q1(X s a c:Nat)(x:a<8*s)(p:X<2^a)(j:c<=1):
 (bO X s).set (a/8) ((bO X s).getD (a/8) 0+c*2^(a%8))=bO (X+c*2^a) s/\(bO X s).getD (a/8) 0<2^(a%8)/\(bO X s).getD (a/8) 0+c*2^(a%8)<256:=by
 have v:a/8<s:=by omega
 have g:2^a=256^(a/8)*2^(a%8):=by rw[zN,<-lF];congr 1;omega
 have y:2^(a%8)<=2^7:=sV (by omega) (by omega);have o:X/256^(a/8)<2^(a%8):=by apply Hj;rw[<-g];exact p
 have e:(bO X s).getD (a/8) 0=X/256^(a/8):=by rw[Fb _ _ _ v];exact pZ (by omega)
 have r:c*2^(a%8)<=2^(a%8):=by
  calc c*2^(a%8)<=1*2^(a%8):=mV _ j
   _=_:=Ho _
 have d:X/256^(a/8)+c*2^(a%8)<256:=by omega
 refine⟨?_,by rw[e];exact o,by rw[e];exact d⟩;refine yJ (by simp[fQ]) fun i w h=>?_
 have b:i<s:=by rwa[fQ] at h
 have h1':i<(bO X s).length:=by rwa[fQ]
 have m:(bO (X+c*2^a) s)[i]=(X+c*2^a)/256^i%256:=by rw[<-Fb _ _ _ b,aZ,bN h];rfl
 have l:(bO X s)[i]'h1'=X/256^i%256:=by rw[<-Fb _ _ _ b,aZ,bN h1'];rfl
 rw[m,List.getElem_set];by_cases f:a/8=i
 ·subst f
  rw[if_pos rfl,e,g,show c*(256^(a/8)*2^(a%8))=256^(a/8)*(c*2^(a%8)) from Mp _ _ _,OM _ _ (Nat.pow_pos (by omega)),pZ d]
 ·rw[if_neg f,l]
  rcases Nat.lt_or_gt_of_ne f with k|t
  ·have u:2^(a+1)<=256^i:=by rw[zN];exact sV (by omega) (by omega)
   have q:c*2^a<=2^a:=by
    calc c*2^a<=1*2^a:=mV _ j
     _=_:=Ho _
   rw[tV] at u;rw[Hi (by omega),Hi (by omega)]
  ·have n:2^a=256^i*(256*2^(a-8*(i+1))):=by
    rw[zN,show(256:Nat)=2^8 from rfl,<-lF,<-lF];congr 1;omega
   rw[n,show c*(256^i*(256*2^(a-8*(i+1))))=256^i*(256*(c*2^(a-8*(i+1)))) by simp only[Mp],OM _ _ (Nat.pow_pos (by omega)),tr]
theorem EI(y j:Nat):y%2^(j+1)=y%2^j+2^j*(y/2^j%2):=by rw[tV,Nat.mod_mul]
theorem ay(y j:Nat)(c:B<2^f):B+y%2^j*2^f<2^(f+j):=by have a:y%2^j<2^j:=Mm _ (qQ _);have b:(y%2^j+1)*2^f<=2^j*2^f:=mV _ a;rw[Ul,Ho] at b;rw[lF,jY (2^f)];omega
theorem FO(s y j a q r t:Nat)(c:B<2^f)(b:a=f+j)(e:a<8*s)(d:q=a/8/\r=a%8)(g:t=y/2^j%2):(bO (B+y%2^j*2^f) s).getD q 0<2^r/\(bO (B+y%2^j*2^f) s).set q ((bO (B+y%2^j*2^f) s).getD q 0+t*2^r)=bO (B+y%2^(j+1)*2^f) s:=by obtain⟨rfl,rfl⟩:=d;have h:=Q1 (B+y%2^j*2^f) s a t e (by rw[b];exact ay y j c) (by omega);refine⟨h.2.1,h.1.trans ?_⟩;congr 1;rw[EI,Ul,g,b,lF,Dt];congr 2;rw[jY (2^f),<-Dw,jY (y/2^j%2)]
theorem qI:prog.underlying 9=some .string:=by kernel_rfl
theorem Zc:eW prog 174 9 (.string ⟨#[]⟩) 1 16:=⟨by kernel_rfl,by kernel_rfl,rfl,by omega⟩
def Ea(v:Value)(w:World)(e:Ending)(w':World):Prop:=e= .returned v/\ ∃k,w'=w.drewN k
def cB(v:Value)(w:World)(e:Ending)(w':World):Prop:=e= .returned v/\aD w w'
def nZ(v:Value)(w:World)(e:Ending)(w':World):Prop:=e= .returned v/\w=w'
theorem Ea.new(h:Ea a w c W):cB a w c W:=by obtain⟨b,k,rfl⟩:=h;exact⟨b,rI w k⟩
def dP(o:Option (List Nat))(w:World)(e:Ending)(w':World):Prop:=match o with|none=>e= .returned (.tuple #[.slice none 0 0,.bool false])/\Below w.heap.size w w'|some l=>∃A n c,e= .returned (.tuple #[.slice A n c,.bool true])/\Own w' w.heap.size 5 (.slice A n c) (aK .u8 l)/\Below w.heap.size w w'
theorem dP.u(h:dP e w c W):∃A n b,c= .returned (.tuple #[.slice A n b,.bool e.isSome])/\Own W w.heap.size 5 (.slice A n b) (aK .u8 (e.getD []))/\Below w.heap.size w W:=by cases e with|none=>exact⟨none,0,0,h.1,eR,h.2⟩|some l=>exact h
def yX(o:Option (List Nat))(w:World)(e:Ending)(w':World):Prop:=match o with|none=>e= .returned (.tuple #[.slice none 0 0,.bool false])/\Below w.heap.size w w'|some l=>∃A n c,e= .returned (.tuple #[.slice A n c,.bool true])/\Own w' w.heap.size 87 (.slice A n c) (aK .u64 l)/\Below w.heap.size w w'
theorem yX.u(h:yX e w c W):∃A n b,c= .returned (.tuple #[.slice A n b,.bool e.isSome])/\Own W w.heap.size 87 (.slice A n b) (aK .u64 (e.getD []))/\Below w.heap.size w W:=by cases e with|none=>exact⟨none,0,0,h.1,eR,h.2⟩|some l=>exact h
def Vc(o:Option (List (List Nat)))(w:World)(e:Ending)(w':World):Prop:=match o with|none=>e= .returned (.tuple #[.slice none 0 0,.bool false])/\Below w.heap.size w w'|some l=>∃A n c,e= .returned (.tuple #[.slice A n c,.bool true])/\Own w' w.heap.size 9 (.slice A n c) (jV l)/\Below w.heap.size w w'
theorem Vc.u{o:Option (List (List Nat))}(h:Vc o w c W):∃A n b,c= .returned (.tuple #[.slice A n b,.bool o.isSome])/\Own W w.heap.size 9 (.slice A n b) (jV (o.getD []))/\Below w.heap.size w W:=by cases o with|none=>exact⟨none,0,0,h.1,eR,h.2⟩|some l=>exact h
set_option maxRecDepth 100000
def Vi(w:World)(e:Ending)(w':World):Prop:=e= .returned (.bool true)/\Below w.heap.size w w'
section
variable{P:Program}{ops:Array Oper}{Q:Exit->Act->World->Prop}{md:Region.Mode}{S:World->Prop}{t0:Nat}
def qK(P:Program)(md:Region.Mode)(ops:Array Oper)(Q:Exit->Act->World->Prop)(t0:Nat)(S:World->Prop):Nat->Array Bool->Act->World->Prop|0,listed,a,w=>Region.ready md ops listed=[]/\Q .normal a w|fuel+1,listed,a,w=>(Region.ready md ops listed=[]->Q .normal a w)/\ ∀i∈Region.ready md ops listed,wpOp P ops Q i (λa' w'=>((listed.setIfInBounds i true).getD t0 false=true\/S w')/\qK P md ops Q t0 S fuel (listed.setIfInBounds i true) a' w') a w
theorem Ly:∀(b:Nat) (c:Array Bool) (a:Act) (w:World),qK P md ops Q t0 S b c a w->wpAny P md ops Q b c a w|0,_,_,_,h=>h|b+1,_,_,_,h=>⟨h.1,λi g=>wpOp_mono (λe j f=>Ly b _ e j f.2) (h.2 i g)⟩
theorem oW(h:d.getD f false=true):(d.setIfInBounds B true).getD f false=true:=by rw[Gv] at h⊢;rw[Tt];split;split;rfl;rename_i e b;subst e;rw[Me (by omega)] at h;simp at h;exact h
theorem Ew(b:B≠f):(d.setIfInBounds B true).getD f false=d.getD f false:=by rw[Gv,Gv,Tt,if_neg b]
theorem Gn{S':World->Prop}:∀(c:Nat) (b:Array Bool) (a:Act) (w:World),(b.getD t0 false=true\/ ∀w,S w->S' w)->qK P md ops Q t0 S c b a w->qK P md ops Q t0 S' c b a w|0,_,_,_,_,e=>e|c+1,b,_,_,h,e=>⟨e.1,λi k=>wpOp_mono (λj g f=>⟨by rcases h with h|h;exact .inl (oW h);exact f.1.imp id (h g),Gn c _ j g (h.imp oW id) f.2⟩) (e.2 i k)⟩
theorem rh(hi:ops[B]? =some m)(X:B≠t0)(z:∀(j:Nat) (o:Oper) cs b,ops[j]? =some o->o.op≠ .select cs b)(hQ:∀c r w,Q (.panic c) (r.put m.dst a) w->Q (.panic c) r w)(V:World->Prop)(u:(∀w,V w)\/((∀w,S w->V w)/\ ∃ot,ops[t0]? =some ot/\ ∃e∈ot.after,Region.binds md e=true/\e.on=B)):∀(l:Nat) (f:Array Bool) (r:Act) (w:World),(∀j oj,ops[j]? =some oj->j≠B->f.getD j true=false->(∀e∈oj.after,Region.binds md e=true->e.on≠B)->m.apart ops oj=true)->B∈Region.ready md ops f->YieldsIf P ops V m a r->(f.getD t0 false=true\/S w)->((∀w,V w)\/f.getD t0 false=false)->qK P md ops Q t0 S l (f.setIfInBounds B true) (r.put m.dst a) w->qK P md ops Q t0 S (l+1) f r w:=by(have F:∀(f:Array Bool) (w:World),(f.getD t0 false=true\/S w)->((∀w,V w)\/f.getD t0 false=false)->V w:=by intro f w K n;rcases n with n|n;exact n w;rcases K with K|K;rw[n] at K;cases K;rcases u with u|u;exact u w;exact u.1 w K);intro l;induction l with|zero=>intro f r w _ C N K n H;refine⟨λh=>(by rw[h] at C;cases C),λj M=>?_⟩;by_cases g:j=B;subst g;exact N.wpOp hi (F f w K n) ⟨K.imp oW id,H⟩;have:=ready_mono M g;rw[H.1] at this;cases this|succ l ih=>intro f r w p C N K n H;refine⟨λh=>(by rw[h] at C;cases C),λj M=>?_⟩;by_cases g:j=B;subst g;exact N.wpOp hi (F f w K n) ⟨K.imp oW id,H⟩;have A:=H.2 j (ready_mono M g);obtain⟨x,oj,s,G⟩:=mem_ready.1 M;(have y:∀e∈oj.after,Region.binds md e=true->e.on≠B:=λe W U d=>by have A:=G e W U;have h0:=(mem_ready.1 C).1;rw[d] at A;rcases vE B f.size with O|O;simp[O] at h0 A;rw[h0] at A;cases A;simp[Array.getElem?_eq_none O] at A);have h2:=wpOp_putIf s (p j oj s g x y) (λcs b=>z B m cs b hi) (λcs b=>z j oj cs b s) hQ N A;(have q:∀k L,ops[k]? =some L->k≠B->(f.setIfInBounds j true).getD k true=false->(∀e∈L.after,Region.binds md e=true->e.on≠B)->m.apart ops L=true:=λk L hk Z J a0=>by refine p k L hk Z ?_ a0;by_cases I:j=k;subst I;exact x;rw[getD_set_ne true I] at J;exact J);(have a1:(∀w,V w)\/(f.setIfInBounds j true).getD t0 false=false:=by rcases u with u|⟨_,ot,t,e,W,U,d⟩;exact .inl u;refine n.imp id λn=>?_;(have Y:j≠t0:=by rintro rfl;rw[s] at t;injection t with t;subst t;exact y e W U d);rw[Ew Y];exact n);refine wpOp_mono (λa' w' T=>?_) h2;(have E:(f.setIfInBounds j true).getD t0 false=true\/S w':=by refine T.2.1.imp (λh4=>?_) id;rw[Tu _ _ (λe=>g e.symm),Ew X] at h4;exact h4);refine⟨E,ih (f.setIfInBounds j true) a' w' q (ready_mono C (Ne.symm g)) T.1 E a1 ?_⟩;rw[Tu _ _ g];exact T.2.2
theorem MR(V:World->Prop)(hi:ops[B]? =some m)(j:B≠t0)(q:Region.noSelect ops=true)(n:Region.free md ops d B=true)(p:(Region.ready md ops d).contains B=true)(k:∀c g w,Q (.panic c) (g.put m.dst a) w->Q (.panic c) g w)(o:(∀w,V w)\/((∀w,S w->V w)/\ ∃ot,ops[t0]? =some ot/\ ∃e∈ot.after,Region.binds md e=true/\e.on=B))(t:YieldsIf P ops V m a g)(l:d.getD t0 false=true\/S w)(s:(∀w,V w)\/d.getD t0 false=false)(h:qK P md ops Q t0 S f (d.setIfInBounds B true) (g.put m.dst a) w):qK P md ops Q t0 S (f+1) d g w:=rh hi j (Region.noSelect_spec q) k V o f d g w (Region.free_spec hi n) (by simpa using p) t l s h
def Ti(md:Region.Mode)(ops:Array Oper)(t0 i:Nat):Bool:=match ops[t0]? with|some ot=>ot.after.any λe=>Region.binds md e&&e.on==i|none=>false
def uW(ops:Array Oper)(t0:Nat):Array Bool->List (Nat × Nat)->Bool|listed,[]=>(Region.ready .any ops listed).isEmpty|listed,(0,i)::r=>(Region.ready .any ops listed).contains i&&(Region.free .any ops listed i&&(Ti .any ops t0 i&&(decide (i≠t0)&&(!listed.getD t0 false&&uW ops t0 (listed.setIfInBounds i true) r))))|listed,(1,i)::r=>(Region.ready .any ops listed).contains i&&(Region.free .any ops listed i&&(decide (i≠t0)&&uW ops t0 (listed.setIfInBounds i true) r))|listed,(_,i)::r=>decide (Region.ready .any ops listed=[i])&&uW ops t0 (listed.setIfInBounds i true) r
def pC(P:Program)(ops:Array Oper)(R:World->World->Prop)(Q:Exit->Act->World->Prop)(t0:Nat):List (Nat × Nat)->Bool->Act->World->Prop| [],_,a,w=>Q .normal a w|(0,i)::r,d,a,w=>∃o v,ops[i]? =some o/\((Region.wanted o (yielded ops a.tmps)=true/\ ∀w',R w w'->(execOp a.eval o).run P w'= .ok (.value v) w')\/(Region.wanted o (yielded ops a.tmps)=false/\v=undef))/\pC P ops R Q t0 r d (a.put o.dst v) w|(1,i)::r,d,a,w=>∃o v,ops[i]? =some o/\((Region.wanted o (yielded ops a.tmps)=true/\ ∀w',(execOp a.eval o).run P w'= .ok (.value v) w')\/(Region.wanted o (yielded ops a.tmps)=false/\v=undef))/\pC P ops R Q t0 r d (a.put o.dst v) w|(_,i)::r,d,a,w=>∃o,ops[i]? =some o/\if Region.wanted o (yielded ops a.tmps) then o.wp P a w (λa' w'=>(d=true\/i=t0\/R w w')/\pC P ops R Q t0 r (d||i==t0) a' w') (NoPanic Q) else pC P ops R Q t0 r (d||i==t0) (a.put o.dst undef) w
variable{R:World->World->Prop}
theorem qw(h:Ti md ops t0 B=true):∃ot,ops[t0]? =some ot/\ ∃e∈ot.after,Region.binds md e=true/\e.on=B:=by unfold Ti at h;split at h;rename_i ot b;rw[Array.any_eq_true] at h;obtain⟨j,c,h⟩:=h;simp only[lD,beq_iff_eq] at h;exact⟨ot,b,ot.after[j],NY c,h.1,h.2⟩;cases h
theorem MQ(l:∀w,R w w)(q:∀{x y z},R x y->R y z->R x z)(hs:Region.noSelect ops=true):∀(n:List (Nat × Nat)) (f:Nat) (c:Array Bool) (d:Bool) (a:Act) (w:World),(d=true->c.getD t0 false=true)->(∀i∈n.map (·.2),i<c.size)->n.length<=f->uW ops t0 c n=true->pC P ops R Q t0 n d a w->qK P .any ops (NoPanic Q) t0 (R w) f c a w:=by intro n;induction n with|nil=>intro f c d a w _ _ _ g h;(have C:Region.ready .any ops c=[]:=by simpa[uW] using g);(cases f with|zero=>exact⟨C,NoPanic.normal h⟩|succ f=>exact⟨λ_=>NoPanic.normal h,by rw[C];simp⟩)|cons x r L=>obtain⟨b,i⟩:=x;intro f c d a w I G hl g h;obtain⟨f,rfl⟩:∃k,f=k+1:=⟨f-1,by simp at hl;omega⟩;(have p:r.length<=f:=by simp at hl;omega);(have m:∀k∈r.map (·.2),k<(c.setIfInBounds i true).size:=λk hk=>by rw[tl];exact G k (by simp at hk⊢;exact .inr hk));have T:i<c.size:=G i (by simp);match b with|0=>obtain⟨o,v,F,V,C⟩:=h;simp only[uW,lD,decide_eq_true_eq,Bool.not_eq_true'] at g;obtain⟨A,N,B,O,h5,h6⟩:=g;exact MR (R w) F O hs N A (λ_ _ _ U=>U) (.inr ⟨λ_ s=>s,qw B⟩) V (.inr (l w)) (.inr h5) (L f _ d _ w (λe=>oW (I e)) m p h6 C)|1=>obtain⟨o,v,F,V,C⟩:=h;simp only[uW,lD,decide_eq_true_eq] at g;obtain⟨A,N,B,O⟩:=g;exact MR (λ_=>True) F B hs N A (λ_ _ _ U=>U) (.inl λ_=>trivial) (V.imp (λs=>⟨s.1,λD _=>s.2 D⟩) id) (.inr (l w)) (.inl λ_=>trivial) (L f _ d _ w (λe=>oW (I e)) m p O C)|b+2=>obtain⟨o,F,H⟩:=h;simp only[uW,lD,decide_eq_true_eq] at g;obtain⟨A,B⟩:=g;refine⟨λX=>(by rw[A] at X;cases X),λj Z=>?_⟩;rw[A] at Z;(obtain rfl:j=i:=by simpa using Z);(have u:(d||j==t0)=true->(c.setIfInBounds j true).getD t0 false=true:=by intro e;rw[Dk,beq_iff_eq] at e;rcases e with e|rfl;exact oW (I e);rw[Gv,Tt,if_pos rfl,if_pos T];rfl);unfold wpOp;simp only[F];split;rename_i W;rw[if_pos W] at H;refine .inl (Ur (λM D s=>?_) H);obtain⟨t,s⟩:=s;have Y:=L f _ _ M D u m p B s;by_cases J:(c.setIfInBounds j true).getD t0 false=true;exact⟨.inl J,Gn f _ M D (.inl J) Y⟩;(have E:R w D:=by rcases t with t|t|t;exact absurd (oW (I t)) J;exact absurd (u (by simp[t])) J;exact t);exact⟨.inr E,Gn f _ M D (.inr λz hz=>q E hz) Y⟩;rename_i W;rw[if_neg W] at H;exact⟨.inr (l w),L f _ _ _ w u m p B H⟩
theorem Dg(R:World->World->Prop)(t0:Nat)(b:List (Nat × Nat))(e:∀w,R w w)(c:∀{x y z},R x y->R y z->R x z)(k:P.follows .mixedOrders=true)(l:Region.noSelect ops=true)(f:(decide (b.length<=ops.size)&&b.all λx=>decide (x.2<ops.size))=true)(d:uW ops t0 (Array.replicate ops.size false) b=true)(h:pC P ops R Q t0 b false g w.drew):(Code.region n ops true).wp P Q g w:=by simp only[lD,decide_eq_true_eq,iI] at f;refine wp_region_noPanic (wp_region_any k (Ly _ _ _ _ (MQ e c l b ops.size _ false g _ (by simp) ?_ f.1 d h)));intro i j;simp only[bS] at j;obtain⟨x,m,rfl⟩:=j;rw[NZ];exact f.2 x m
variable{i:Nat}{r:List (Nat × Nat)}{a:Act}{w:World}{d:Bool}{v:Value}
theorem tN(h:Q .normal a w):pC P ops R Q t0 [] d a w:=h
section
variable{dst:Option Tmp}{op:Op}{ty:TypeId}{pos:String}{af:Array Edge}{gd:Option (Nat × Bool)}
theorem sO(b:ops[i]? =some ⟨dst,op,ty,pos,af,gd⟩)(e:Region.wanted ⟨dst,op,ty,pos,af,gd⟩ (yielded ops a.tmps)=true)(c:∀w',R w w'->(execOp a.eval ⟨dst,op,ty,pos,af,gd⟩).run P w'= .ok (.value v) w')(h:pC P ops R Q t0 r d (a.put dst v) w):pC P ops R Q t0 ((0,i)::r) d a w:=⟨_,v,b,.inl ⟨e,c⟩,h⟩
theorem mE(b:ops[i]? =some ⟨dst,op,ty,pos,af,gd⟩)(e:Region.wanted ⟨dst,op,ty,pos,af,gd⟩ (yielded ops a.tmps)=true)(c:∀w',(execOp a.eval ⟨dst,op,ty,pos,af,gd⟩).run P w'= .ok (.value v) w')(h:pC P ops R Q t0 r d (a.put dst v) w):pC P ops R Q t0 ((1,i)::r) d a w:=⟨_,v,b,.inl ⟨e,c⟩,h⟩
theorem iH(e:ops[i]? =some ⟨dst,op,ty,pos,af,gd⟩)(f:Region.wanted ⟨dst,op,ty,pos,af,gd⟩ (yielded ops a.tmps)=true)(h:∀K:Act->World->Prop,(∀a' w',(d=true\/i=t0\/R w w')->pC P ops R Q t0 r (d||i==t0) a' w'->K a' w')->Oper.wp P ⟨dst,op,ty,pos,af,gd⟩ a w K (NoPanic Q)):pC P ops R Q t0 ((2,i)::r) d a w:=⟨_,e,by rw[if_pos f];exact h _ λ_ _ b c=>⟨b,c⟩⟩
end
end
section
variable{P:Program}{o:Oper}{a:Act}{Q:Exit->Act->World->Prop}{K:Act->World->Prop}
theorem ru{t e:TypeId}{z:Value}(E:eW P t e z 1 f)(s x:Operand)(T:o.op= .call {callee:= .builtin .append,args:= #[s,x],argTypes:= #[t,t]}){base:Nat}{v u:Value}(g:Own w base e v h)(U:a.eval s=v)(V:a.eval x= .slice (some ⟨w.heap.size,0,none⟩) 1 1)(J:Below B W w)(q:B<=base)(j:base<=w.heap.size)(I:u.oneCell'=true)(O:(h.length+1)*f<=140737488355328)(N:h.length+1<=maxLen)(d:∀A' c' w',h.length+1<=c'->c'<=maxLen->Own w' base e (.slice A' (h.length+1) c') (h++[u])->w.grownBy w' v.ownBlock->Below B W w'->w.heap.size<w'.heap.size->K (a.put o.dst (.slice A' (h.length+1) c')) w'):Oper.wp P o a (w.alloc (.cells #[u] e)) K Q:=by
 obtain⟨i,L,C,D,F⟩:=info_parts E.hi;obtain⟨X,w',H,l,G,_,_⟩:=run_append_own_at (P:=P) (w.alloc (.cells #[u] e)) base t o.type e i z 1 f E.ht L C D F E.hz (by omega) v h.length h (Mt g _) ⟨w.heap.size,0,none⟩ 1 1 [u] rfl (cell_one_new _ _ _) (by simpa using I) N O (by simp;omega);have p:(h++[u]).length=h.length+1:=by simp
 have c:Own w' base e X (h++[u]):=by unfold Own;rw[p];exact l
 obtain⟨A',c',rfl,m,y⟩:=c.slice;rw[p] at m c H;have n:w.grownBy w' v.ownBlock:=(vG w (.cells #[u] e) v.ownBlock).trans G;have A:=G.size;simp at A;unfold Oper.wp execOp;simp only[T,resolve,invoke,builtin,wT,wU,wS,yM,cZ,kQ,U,V,H];exact d A' c' w' m y c n (J.grown n (cS q j) (λk M=>by have:=(g.lt k M).1;omega)) (by omega)
theorem Mc{t e:TypeId}{z:Value}(E:eW P t e z 1 f)(s x:Operand)(ho:o.op= .call {callee:= .builtin .append,args:= #[s,x],argTypes:= #[t,t]}){base c:Nat}{v:Value}{news:List Value}{D:Addr}(p:Own w base e v h)(O:aF w w.heap.size 1 (some D) n news)(I:0<n)(hs:a.eval s=v)(hx:a.eval x= .slice (some D) n c)(V:Below B W w)(G:B<=base)(l:base<=w.heap.size)(U:∀u∈news,u.oneCell'=true)(hn:(h.length+n)*f<=140737488355328)(hm:h.length+n<=maxLen)(r:∀A' c' w',h.length+n<=c'->c'<=maxLen->Own w' base e (.slice A' (h.length+n) c') (h++news)->w.grownBy w' v.ownBlock->Below B W w'->K (a.put o.dst (.slice A' (h.length+n) c')) w'):Oper.wp P o a w K Q:=by
 obtain⟨i,Y,J,L,M⟩:=info_parts E.hi;have hl:news.length=n:=by have:=O.1;omega
 have R:∀j u,news[j]? =some u->w.cell? (D.add j)=some u:=by intro j u hu;obtain⟨T,F,_,X⟩:=O.2 I;injection F with F;subst F;exact X j u hu
 obtain⟨v',w',A,q,N,_,_⟩:=run_append_own_at (P:=P) w base t o.type e i z 1 f E.ht Y J L M E.hz (by omega) v h.length h p D n c news (by omega) R U hm hn l;have C:(h++news).length=h.length+n:=by simp[hl]
 have d:Own w' base e v' (h++news):=by unfold Own;rw[C];exact q
 obtain⟨A',c',rfl,y,H⟩:=d.slice;rw[C] at y d A;unfold Oper.wp execOp;simp only[ho,resolve,invoke,builtin,wT,wU,wS,yM,cZ,kQ,hs,hx,A];exact r A' c' w' y H d N (V.grown N (cS G l) (λk Z=>by have:=(p.lt k Z).1;omega))
end
def dC(x y:Int):Int:=if x<y then-1 else if y<x then 1 else 0
theorem E7:Calls prog 198 #[.int .i64 x] w (nZ (.bool false) w):=by go_enter func198,ntmps198;go_wp2;go_ret;exact⟨by simp,rfl⟩
theorem Xh:Calls prog 175 #[.int .i64 x,.int .i64 l] w (nZ (.int .i64 (dC x l)) w):=by
 have P:=λz:Int=>aB (E7 (w:=w) (x:=z));have b:=aB (λ(h:x<l)=>show dC x l= -1 by rw[dC,if_pos h]);have c:=aB (λ(h:l<x)=>show dC x l=1 by rw[dC,if_neg (by omega),if_pos h]);have d:=aB (λ(h: ¬x<l) (f: ¬l<x)=>show dC x l=0 by rw[dC,if_neg h,if_neg f]);generalize dC x l=O at*;by_cases g:x<l;·have a:=aB (b g);clear b c d;go_enter func175,ntmps175;go_wp2_with (first|(go_at_call 198;refine((P _).out).mono ?_;rintro e i ⟨rfl,rfl⟩));go_ret;exact⟨by rw[a.o];rfl,rfl⟩
 by_cases f:l<x;·have a:=aB (c f);clear b c d;go_enter func175,ntmps175;go_wp2_with (first|(go_at_call 198;refine((P _).out).mono ?_;rintro e i ⟨rfl,rfl⟩));go_ret;exact⟨by rw[a.o];rfl,rfl⟩
 ·have a:=aB (d g f);clear b c d;go_enter func175,ntmps175;go_wp2_with (first|(go_at_call 198;refine((P _).out).mono ?_;rintro e i ⟨rfl,rfl⟩));go_ret;exact⟨by rw[a.o];rfl,rfl⟩
def Kf(x y:Int):Bool:=decide (-2097152<=x)&&decide (x<=2097152)&&decide (-2097152<=y)&&decide (y<=2097152)
theorem T8:Kf x l=true↔(-2097152<=x/\x<=2097152)/\(-2097152<=l/\l<=2097152):=by simp[Kf];omega
def uZ:Int × Int->List (Int × Int)->Option (List (Int × Int))|_,[]=>some []|h,s::r=>if Kf s.1 s.2&&inBox (h.1+s.1) (h.2+s.2) then(uZ (h.1+s.1,h.2+s.2) r).map ((h.1+s.1,h.2+s.2):: ·) else none
def lK:Int × Int->List (Int × Int)->Option (List (Int × Int))|_,[]=>some []|h,p::r=>if inBox p.1 p.2 then(lK p r).map ((p.1-h.1,p.2-h.2):: ·) else none
theorem vZ:inBox x l=true↔(-1048576<=x/\x<=1048576)/\(-1048576<=l/\l<=1048576):=by simp[inBox];omega
section
variable{P:Program}{ops:Array Oper}{rest:List Oper}{o:Oper}{a:Act}{Q:Exit->Act->World->Prop}
theorem R8(z:Value)(b:z.oneCell'=true)(n:Nat):madeCells z.cells n=(List.replicate n z).toArray:=by(have c:z.cells= #[z]:=by revert b;unfold Value.oneCell' Value.cells;cases z<;> simp);rw[c];apply Array.toList_inj.1;rw[toList_madeCells_one]
theorem JQ{t e:TypeId}{z:Value}(E:eW P t e z 1 B){kl kc:IntKind}(n:Nat)(l:z.oneCell'=true)(q:n*B<=140737488355328)(p:n<=maxLen):(Instr.makeSlice t (.int kl (n:Int)) (.int kc (n:Int))).run P w= .ok (.slice (some ⟨w.heap.size,0,none⟩) n n) (w.alloc (.cells (List.replicate n z).toArray e)):=by
 obtain⟨i,m,k,j,d⟩:=info_parts E.hi;have g:(n:Int)<=9223372036854775807:=by have h:=p;simp only[maxLen] at h;omega
 have f:(i.bytes:Int)*(n:Int)<=281474976710656:=by(have h:((i.bytes*n:Nat):Int)<=281474976710656:=by rw[d,jY];omega);rwa[sT] at h
 have c:=run_make (P:=P) w t e i z E.ht m k kl kc (n:Int) (n:Int) (by omega) (by omega) f g;rw[eQ,j,fT,R8 z l] at c;exact c
theorem MX{t e:TypeId}{z:Value}(E:eW P t e z 1 B)(d:o.guard=none)(i g:Operand)(s:o.op=Op.makeSlice t i g){kl kc:IntKind}(n:Nat)(p:a.eval i= .int kl x)(m:a.eval g= .int kc l)(u:x=(n:Int))(j:l=(n:Int))(f:z.oneCell'=true)(r:n*B<=140737488355328)(q:n<=maxLen)(h:∀w',aI w' w.heap.size e (List.replicate n z).toArray->aD w w'->w'.heap.size=w.heap.size+1->wpList P ops Q rest (a.put o.dst (.slice (some ⟨w.heap.size,0,none⟩) n n)) w'):wpList P ops Q (o::rest) a w:=by subst u j;have c:=JQ (w:=w) E (kl:=kl) (kc:=kc) n f r q;refine wpList_plain d λK k=>?_;unfold Oper.wp;simp[execOp,s,p,m,c,Result.andThen];exact k _ _ (h _ (by simpa using aQ w e (List.replicate n z).toArray) ((aM _ _).alloc (aG _) _) (by simp))
theorem yD{t e:TypeId}{z:Value}(E:eW P t e z 1 B)(g f:Operand)(q:o.op=Op.makeSlice t g f){kl kc:IntKind}(n:Nat)(r:a.eval g= .int kl x)(k:a.eval f= .int kc l)(j:x=(n:Int))(i:l=(n:Int))(d:z.oneCell'=true)(p:n*B<=140737488355328)(m:n<=maxLen)(h:∀w',aI w' w.heap.size e (List.replicate n z).toArray->aD w w'->w'.heap.size=w.heap.size+1->b (a.put o.dst (.slice (some ⟨w.heap.size,0,none⟩) n n)) w'):o.wp P a w b Q:=by subst j i;have c:=JQ (w:=w) E (kl:=kl) (kc:=kc) n d p m;unfold Oper.wp;simp[execOp,q,r,k,c,Result.andThen];exact h _ (by simpa using aQ w e (List.replicate n z).toArray) ((aM _ _).alloc (aG _) _) (by simp)
theorem jz{ty t:TypeId}{u:Value}{cs:Array Value}(d:aI w B t cs)(b:f<cs.size)(hi:(P.info? ty).map (·.size)=some 1)(c:u.oneCell'=true):(storeVar ty ⟨B,f,none⟩ u).run P w= .ok () (w.setCell ⟨B,f,none⟩ u):=by(have h:u.cells= #[u]:=by cases u<;> first|rfl|cases c);have:=run_storeCells_cells (P:=P) B f [u] 0 w (λj e=>by(obtain rfl:j=0:=by simpa using e);rw[d.cell,yN,Ts b];rfl) (λj e=>d.frozen _) (λv l=>by simp at l;subst l;exact c);cases hq:P.info? ty with|none=>simp[hq] at hi|some x=>(have k:x.size=1:=by simpa[hq] using hi);simp only[yN] at this;simp[storeVar,sizeOf,typeInfo,hq,h,k,this];rfl
theorem Gr(ty:TypeId)(x y:Operand)(j:o.op= .store ty x y)(g i:Nat)(u:Value)(l:a.eval x= .pointer (some ⟨g,i,none⟩))(m:a.eval y=u){t:TypeId}{cs:Array Value}(d:aI w g t cs)(n:i<cs.size)(hi:(P.info? ty).map (·.size)=some 1)(f:u.oneCell'=true)(h:∀W,aI W g t (cs.setIfInBounds i u)->w.grownBy W (some g)->W.heap.size=w.heap.size->b (a.put o.dst undef) W):o.wp P a w b Q:=by unfold Oper.wp execOp;simp only[j,l,m,Instr.storeAt,Instr.sureAddr,wT,wU,wS,jz d n hi f];refine h _ (d.set_ i u) ⟨rfl,rfl,rfl,by simp[World.setCell],λk _ c=>pY _ _ _ _ (λe=>c (by rw[e]))⟩ (by simp[World.setCell])
theorem Df(c:o.guard=none)(ty:TypeId)(x y:Operand)(k:o.op= .store ty x y)(g i:Nat)(u:Value)(l:a.eval x= .pointer (some ⟨g,i,none⟩))(m:a.eval y=u){t:TypeId}{cs:Array Value}(f:aI w g t cs)(d:i<cs.size)(hi:(P.info? ty).map (·.size)=some 1)(e:u.oneCell'=true)(h:∀W,aI W g t (cs.setIfInBounds i u)->w.grownBy W (some g)->W.heap.size=w.heap.size->wpList P ops Q rest (a.put o.dst undef) W):wpList P ops Q (o::rest) a w:=wpList_plain c λ_ j=>Gr ty x y k g i u l m f d hi e (λW b g s=>j _ _ (h W b g s))
end
inductive iV where
 |done
 |quiet (i:Nat) (p:iV)
 |alone (i:Nat) (p:iV)
 |two (i:Nat) (p:iV) (j:Nat) (q:iV)
 |three (i:Nat) (p:iV) (j:Nat) (q:iV) (k:Nat) (r:iV)
section
variable{P:Program}{ops:Array Oper}{Q:Exit->Act->World->Prop}
def iV.ok(ops:Array Oper):Array Bool->iV->Bool|listed,.done=>(Region.ready .any ops listed).isEmpty|listed,.quiet i p=>(Region.ready .any ops listed).contains i&&(Region.free .any ops listed i&&p.ok ops (listed.setIfInBounds i true))|listed,.alone i p=>decide (Region.ready .any ops listed=[i])&&p.ok ops (listed.setIfInBounds i true)|listed,.two i p j q=>decide (Region.ready .any ops listed=[i,j])&&(p.ok ops (listed.setIfInBounds i true)&&q.ok ops (listed.setIfInBounds j true))|listed,.three i p j q k r=>decide (Region.ready .any ops listed=[i,j,k])&&(p.ok ops (listed.setIfInBounds i true)&&(q.ok ops (listed.setIfInBounds j true)&&r.ok ops (listed.setIfInBounds k true)))
def iV.size:iV->Nat| .done=>0| .quiet _ p=>p.size+1| .alone _ p=>p.size+1| .two _ p _ q=>Nat.max p.size q.size+1| .three _ p _ q _ r=>Nat.max p.size (Nat.max q.size r.size)+1
def qG(P:Program)(ops:Array Oper)(R:World->World->Prop)(Q:Exit->Act->World->Prop)(i:Nat)(K:Act->World->Prop)(a:Act)(w:World):Prop:=∃o,ops[i]? =some o/\if Region.wanted o (yielded ops a.tmps) then o.wp P a w (λa' w'=>R w w'/\K a' w') (NoPanic Q) else K (a.put o.dst undef) w
def lC(P:Program)(ops:Array Oper)(R:World->World->Prop)(Q:Exit->Act->World->Prop):iV->Act->World->Prop| .done,a,w=>Q .normal a w| .quiet i p,a,w=>∃o v,ops[i]? =some o/\((Region.wanted o (yielded ops a.tmps)=true/\ ∀w',R w w'->(execOp a.eval o).run P w'= .ok (.value v) w')\/(Region.wanted o (yielded ops a.tmps)=false/\v=undef))/\lC P ops R Q p (a.put o.dst v) w| .alone i p,a,w=>qG P ops R Q i (lC P ops R Q p) a w| .two i p j q,a,w=>qG P ops R Q i (lC P ops R Q p) a w/\qG P ops R Q j (lC P ops R Q q) a w| .three i p j q k r,a,w=>qG P ops R Q i (lC P ops R Q p) a w/\(qG P ops R Q j (lC P ops R Q q) a w/\qG P ops R Q k (lC P ops R Q r) a w)
variable{R:World->World->Prop}
theorem rf(m:∀w,R w w)(s:∀{x y z},R x y->R y z->R x z)(T:Region.noSelect ops=true):∀(p:iV) (b:Nat) (c:Array Bool) (a:Act) (w:World),p.size<=b->p.ok ops c=true->lC P ops R Q p a w->wpAnyH P .any ops (NoPanic Q) (R w) b c a w:=by(have g:∀(p:iV),(∀(b:Nat) (c:Array Bool) (a:Act) (w:World),p.size<=b->p.ok ops c=true->lC P ops R Q p a w->wpAnyH P .any ops (NoPanic Q) (R w) b c a w)-> ∀(j:Nat) (b:Nat) (c:Array Bool) (a:Act) (w:World),p.size<=b->p.ok ops (c.setIfInBounds j true)=true->qG P ops R Q j (lC P ops R Q p) a w->wpOp P ops (NoPanic Q) j (λF E=>R w E/\wpAnyH P .any ops (NoPanic Q) (R w) b (c.setIfInBounds j true) F E) a w:=by intro p D j b c a w e n C;obtain⟨o,I,C⟩:=C;unfold wpOp;simp only[I];split;rename_i J;rw[if_pos J] at C;exact .inl (Ur (λF E H=>⟨H.1,Tk (λz V=>s H.1 V) b _ F E (D b _ F E e n H.2)⟩) C);rename_i J;rw[if_neg J] at C;exact⟨m w,D b _ _ w e n C⟩);intro p;induction p with|done=>intro b c a w _ d h;exact wpAnyH_done (by simpa[iV.ok] using d) (NoPanic.normal h) b|quiet i p D=>intro b c a w e d h;obtain⟨b,rfl⟩:∃k,b=k+1:=⟨b-1,by simp[iV.size] at e;omega⟩;obtain⟨o,v,I,U,S⟩:=h;simp only[iV.ok,lD] at d;obtain⟨t,L,n⟩:=d;exact wpAnyH_take I T L t (λ_ _ _ O=>O) U (m w) (D b _ _ w (by simp[iV.size] at e;omega) n S)|alone i p D=>intro b c a w e d h;obtain⟨b,rfl⟩:∃k,b=k+1:=⟨b-1,by simp[iV.size] at e;omega⟩;simp only[iV.ok,lD,decide_eq_true_eq] at d;obtain⟨t,n⟩:=d;refine wpAnyH_all t (by simp) ?_;intro j N;(obtain rfl:j=i:=by simpa using N);exact g p D j b c a w (by simp[iV.size] at e;omega) n h|two i p j q A B=>intro b c a w e d h;obtain⟨b,rfl⟩:∃k,b=k+1:=⟨b-1,by simp[iV.size] at e;omega⟩;simp only[iV.ok,lD,decide_eq_true_eq] at d;obtain⟨t,n,G⟩:=d;(have f:Nat.max p.size q.size<=b:=by simp[iV.size] at e;exact e);refine wpAnyH_all t (by simp) ?_;intro k u;(have u:k=i\/k=j:=by simpa using u);rcases u with rfl|rfl;exact g p A k b c a w (cS (OO _ _) f) n h.1;exact g q B k b c a w (cS (Un _ _) f) G h.2|three i p j q l r A B K=>intro b c a w e d h;obtain⟨b,rfl⟩:∃k,b=k+1:=⟨b-1,by simp[iV.size] at e;omega⟩;simp only[iV.ok,lD,decide_eq_true_eq] at d;obtain⟨t,n,G,M⟩:=d;(have f:Nat.max p.size (Nat.max q.size r.size)<=b:=by simp[iV.size] at e;exact e);refine wpAnyH_all t (by simp) ?_;intro k u;(have u:k=i\/k=j\/k=l:=by simpa using u);rcases u with rfl|rfl|rfl;exact g p A k b c a w (cS (OO _ _) f) n h.1;exact g q B k b c a w (cS (cS (OO _ _) (Un _ _)) f) G h.2.1;exact g r K k b c a w (cS (cS (Un _ _) (Un _ _)) f) M h.2.2
theorem NB(R:World->World->Prop)(p:iV)(c:∀w,R w w)(b:∀{x y z},R x y->R y z->R x z)(f:P.follows .mixedOrders=true)(i:Region.noSelect ops=true)(e:decide (p.size<=ops.size)=true)(d:p.ok ops (Array.replicate ops.size false)=true)(h:lC P ops R Q p g w.drew):(Code.region B ops true).wp P Q g w:=wp_region_noPanic (wp_region_held f (rf c b i p ops.size _ g _ (by simpa using e) d h))
variable{i j:Nat}{p q:iV}{a:Act}{w:World}{v:Value}
theorem xS(h:Q .normal a w):lC P ops R Q .done a w:=h
section
variable{dst:Option Tmp}{op:Op}{ty:TypeId}{pos:String}{af:Array Edge}{gd:Option (Nat × Bool)}
theorem uM(b:ops[i]? =some ⟨dst,op,ty,pos,af,gd⟩)(d:Region.wanted ⟨dst,op,ty,pos,af,gd⟩ (yielded ops a.tmps)=true)(c:∀w',R w w'->(execOp a.eval ⟨dst,op,ty,pos,af,gd⟩).run P w'= .ok (.value v) w')(h:lC P ops R Q p (a.put dst v) w):lC P ops R Q (.quiet i p) a w:=⟨_,v,b,.inl ⟨d,c⟩,h⟩
theorem jP(e:ops[i]? =some ⟨dst,op,ty,pos,af,gd⟩)(f:Region.wanted ⟨dst,op,ty,pos,af,gd⟩ (yielded ops a.tmps)=true)(h:∀K:Act->World->Prop,(∀a' w',R w w'->b a' w'->K a' w')->Oper.wp P ⟨dst,op,ty,pos,af,gd⟩ a w K (NoPanic Q)):qG P ops R Q i b a w:=⟨_,e,by rw[if_pos f];exact h _ λ_ _ c d=>⟨c,d⟩⟩
theorem pA(h:qG P ops R Q i (lC P ops R Q p) a w):lC P ops R Q (.alone i p) a w:=h
theorem Ky(h:qG P ops R Q i (lC P ops R Q p) a w)(b:qG P ops R Q j (lC P ops R Q q) a w):lC P ops R Q (.two i p j q) a w:=⟨h,b⟩
theorem dp{r:iV}(h:qG P ops R Q i (lC P ops R Q p) a w)(b:qG P ops R Q j (lC P ops R Q q) a w)(c:qG P ops R Q B (lC P ops R Q r) a w):lC P ops R Q (.three i p j q B r) a w:=⟨h,b,c⟩
end
end
end Go.Hm
