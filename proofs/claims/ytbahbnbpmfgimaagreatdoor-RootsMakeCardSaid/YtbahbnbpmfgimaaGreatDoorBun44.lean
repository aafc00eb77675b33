import Derived.Test.YtbahbnbpmfgimaaGreatDoorBun35
import Derived.Test.YtbahbnbpmfgimaaGreatDoorBun36
import Derived.Test.YtbahbnbpmfgimaaGreatDoorBun43
set_option maxHeartbeats 2000000
set_option maxRecDepth 100000
namespace Go.Proofs.Y
open Go Go.RowKit Go.Hm
def Tells(A B:List (List Nat)):Prop:=∃x∈A,∃y∈B,x≠y/\zi9 x=zi9 y
theorem Tells.mono{A B A' B':List (List Nat)}(h:Tells A B)(ha:∀x∈A,x∈A')(hb:∀x∈B,x∈B'):Tells A' B':=by obtain⟨x,hx,y,hy,h⟩:=h;exact⟨x,ha x hx,y,hb y hy,h⟩
theorem zia(k n:Int)(d:List Nat):leafP k n d=[low (u64N_tren k) 8,low (u64N_tren n) 8,d]:=rfl
theorem z1b(s:List Nat)(X:List (List (List Nat))):Digs (X.map (ovD s)):=fun d hd=>by obtain⟨x,_,rfl⟩:=qly.1 hd;exact zfy _ _
theorem zwg(C:List (List (List (List Nat)))):Digs (C.map zqy):=fun d hd=>by obtain⟨x,_,rfl⟩:=qly.1 hd;exact zz6 _
theorem zwh:∀(C:List (List zbc)) (x:List Nat),(zcm C x).map List.length=C.map List.length
 | [],_=>rfl
 |l::C,x=>by rw[zcm,qmp,qmp,zjp,zwh C]
theorem zp6:∀(G:List za9) (x:List Nat),(zfx G x).map (fun X=>X.map List.length)=G.map (fun g=>g.2.map List.length)
 | [],_=>rfl
 |g::G,x=>by rw[zfx,qmp,qmp,zwh,zp6 G]
def zwi(G:List za9)(b own:List Nat):List (List Nat):=qap (zfx G (b.drop 4))++zjx own (z4x (zfx G (b.drop 4)))
def zyz(G:List za9)(b own:List Nat):List Nat:=zqz own (z4x (zfx G (b.drop 4)))
open Go Go.RowKit Go.Hm
def wG(X:List (List (List Nat))):Nat:=2*X.flatten.length+3*X.length+1
def wA(C:List (List (List (List Nat)))):Nat:=(C.map wG).sum
theorem zmv(X:List (List (List Nat))):(X.flatMap (ovF zbx)).length<=2*X.flatten.length+X.length:=by
 induction X with
 |nil=>simp
 |cons x X ih=>
  have:=zme zbx x;rw[qpe,qmv,qpw,qmv,qm9];omega
theorem qds(X:List (List (List Nat))):(zrj X).length<=wG X:=by have h1:=zmv X;have h2:=zme zcc (X.map (ovD zbx));rw[qos] at h2;unfold zrj wG;rw[qmv];omega
theorem zke(C:List (List (List (List Nat)))):(C.flatMap zrj).length<=wA C:=by
 induction C with
 |nil=>simp
 |cons X C ih=>
  have:=qds X;unfold wA at ih⊢;rw[qpe,qmv,qmp,qpf];omega
theorem qhj{C:List (List (List (List Nat)))}{k:Nat}(hk:k<C.length):wA (C.take (k+1))=wA (C.take k)+wG (C.getD k []):=by unfold wA;rw[zae C k [] hk,qpj,qpi];simp
theorem qkl(C:List (List (List (List Nat))))(k:Nat):wA (C.take k)<=wA C:=by
 unfold wA;conv=>rhs;rw[<-qoz k C,qpj,qpi]
 omega
theorem qhk{X:List (List (List Nat))}{j:Nat}(hj:j<X.length):(X.take (j+1)).flatten.length=(X.take j).flatten.length+(X.getD j []).length:=by rw[zae X j [] hj,qpm,qmv];simp
theorem qkm(X:List (List (List Nat)))(j:Nat):(X.take j).flatten.length<=X.flatten.length:=by
 conv=>rhs;rw[<-qoz j X,qpm,qmv]
 omega
theorem qjd{X:List (List (List Nat))}(h:∀x∈X,1<=x.length):X.length<=X.flatten.length:=by
 induction X with
 |nil=>simp
 |cons x X ih=>
  have h1:=h x (by simp);have h2:=ih fun y hy=>h y (by simp[hy])
  rw[qpw,qmv,qm9];omega
theorem qje{C:List (List (List (List Nat)))}(h:∀X∈C,∀x∈X,1<=x.length):wA C<=5*C.flatten.flatten.length+C.length:=by
 induction C with
 |nil=>simp[wA]
 |cons X C ih=>
  have h1:=qjd (h X (by simp));have h2:=ih fun Y hY=>h Y (by simp[hY])
  unfold wA wG at h2⊢;rw[qmp,qpf,qpw,qpm,qmv,qm9];omega
theorem qff:∀{l:List zbc},(∀p∈l,1<=p.1)->l.length<=szL l
 | [],_=>by simp
 |p::l,h=>by
  have h1:=h p (by simp);have h2:=qff (l:=l) fun q hq=>h q (by simp[hq])
  rw[zlo,qm9];omega
theorem qfg:∀{C:List (List zbc)},(∀l∈C,∀p∈l,1<=p.1)->(C.map List.length).sum<=szC C
 | [],_=>by simp
 |l::C,h=>by
  have h1:=qff (h l (by simp));have h2:=qfg (C:=C) fun q hq=>h q (by simp[hq])
  rw[zlp,qmp,qpf];omega
theorem qfh:∀{G:List za9},(∀g∈G,∀l∈g.2,∀p∈l,1<=p.1)->(G.map fun g=>(g.2.map List.length).sum).sum<=szG G
 | [],_=>by simp
 |g::G,h=>by
  have h1:=qfg (h g (by simp));have h2:=qfh (G:=G) fun q hq=>h q (by simp[hq])
  rw[zlq,qmp,qpf];omega
theorem z89(C:List (List (List (List Nat)))):C.flatten.flatten.length=(C.map fun X=>(X.map List.length).sum).sum:=by
 induction C with
 |nil=>rfl
 |cons X C ih=>rw[qpw,qpm,qmv,qmp,qpf,ih,List.length_flatten]
theorem qfi{α:Type}{l:List α}{x:α}(d:α)(h:x∈l):∃i,i<l.length/\x=l.getD i d:=by obtain⟨i,hi,rfl⟩:=qo4 h;exact⟨i,hi,by rw[qnp,qlx hi];rfl⟩
theorem z1d{F:FootS}(b:List Nat)(h:zb0 F):wA (zfx F.groups (b.drop 4))<=5*(zfx F.groups (b.drop 4)).flatten.flatten.length+65536/\(zfx F.groups (b.drop 4)).flatten.flatten.length<=szG F.groups/\(zfx F.groups (b.drop 4)).length<=65536/\(∀X∈zfx F.groups (b.drop 4),X.length<=64/\ ∀x∈X,x.length<=65536/\ ∀p∈x,p.length<=b.length):=by
 have hp:=zlt h;obtain⟨n1,n2,n3⟩:=z1c h;have shp:=zp6 F.groups (b.drop 4);have hlen:(zfx F.groups (b.drop 4)).length=F.groups.length:=zjq _ _;have hat:∀X∈zfx F.groups (b.drop 4),X.length<=64/\ ∀x∈X,x.length<=65536/\1<=x.length:=by
  intro X hX;obtain⟨k,hk,rfl⟩:=qfi [] hX;rw[zjq] at hk;obtain⟨m1,m2⟩:=n3 k hk;rw[zi1 _ _ _ hk];refine⟨by rw[zlr,m1];exact n2,fun x hx=>?_⟩;obtain⟨j,hj,rfl⟩:=qfi [] hx;rw[zlr] at hj;rw[cutC_at _ _ _ hj,zjp];have m3:=m2 j (by omega);unfold za0 at m3;refine⟨m3,?_⟩;have hck:=(zjo h hk (c:=j) (by omega)).1;have hg1:=(h.2.1 _ (zax zaq hk)).1;have:=hck.2;have e0:∀l:List zbc,1<=zmq l->1<=l.length:=fun l hl=>by
   cases l with
   |nil=>simp[zmq] at hl
   |cons a l=>simp
  exact e0 (za0 F.groups k j) (by omega)
 have hw:=qje (C:=zfx F.groups (b.drop 4)) fun X hX x hx=>((hat X hX).2 x hx).2
 have hge:=qfh (G:=F.groups) fun g hg l hl p hp'=>(hp g hg l hl p hp').1
 have hfl:(zfx F.groups (b.drop 4)).flatten.flatten.length=(F.groups.map fun g=>(g.2.map List.length).sum).sum:=by rw[z89];have e:=congrArg (fun z=>(z.map List.sum).sum) shp;simpa[List.map_map,Function.comp_def] using e
 refine⟨by omega,by omega,by omega,fun X hX=>⟨(hat X hX).1,fun x hx=>⟨((hat X hX).2 x hx).1,fun p hp'=>?_⟩⟩⟩;have:=(zn9 (G:=F.groups) (x:=b.drop 4) (p:=p) (by rw[qqh];exact⟨x,by rw[qqh];exact⟨X,hX,hx⟩,hp'⟩)).2
 rw[ql0] at this;omega
def zy0(b:List Nat):Prop:=b.length<=140737488351232/\ ∀F s,openO b=some (F,s)->s.length<=9000000/\(zfx F.groups (b.drop 4)).flatten.flatten.length<=1000000/\ ∀p∈(zfx F.groups (b.drop 4)).flatten.flatten,p.length<=9000000
theorem zkf{b:List Nat}(h8:∀x∈b,x<256)(hb:b.length<=1000000):zy0 b:=by refine⟨by omega,fun F s ho=>?_⟩;obtain⟨a1,a2,a3,a4,a5,a6,a7⟩:=zoc h8 (by omega) ho;obtain⟨f1,f2,f3,f4⟩:=z1d b a1;refine⟨by omega,by omega,fun p hp=>?_⟩;have:=(zn9 hp).2;rw[ql0] at this;omega
open Go.RowKit Go.Hm
section
variable{ops:Array Oper}{rest:List Oper}{o:Oper}{a:Act}{Q:Exit->Act->World->Prop}
theorem zkg{w:World}(hgd:o.guard=none)(s x:Operand)(ho:o.op= .call {callee:= .builtin .append,args:= #[s,x],argTypes:= #[tS,tS]})
 {base n m c:Nat}{v:Value}{xs:List Value}{P:List (List Nat)}{A:Option Addr}(hown:w.ownsRow base tD 32 v n xs)(hr:Reads w w.heap.size 32 A m (recs zfh P))(hs:a.eval s=v)(hx:a.eval x= .slice A m c)
 (hbase:base<=w.heap.size)(hn:n+m<=100000)
 (h:∀A' c' w',n+m<=c'->c'<=maxLen->w'.ownsRow base tD 32 (.slice A' (n+m) c') (n+m) (xs++recs zfh P)->w.grownBy w' v.ownBlock->wpList Tryz.prog ops Q rest (a.put o.dst (.slice A' (n+m) c')) w'):
 wpList Tryz.prog ops Q (o::rest) a w:=
 wpList_plain hgd fun _ hK=>zxm elD s x ho hown hr hs hx (qq8 0 w) (ql7 _) hbase (qbu _) (by omega) (by simp only[maxLen];omega) fun A' c' w' a1 a2 a3 a4 _=>hK _ _ (h A' c' w' a1 a2 a3 a4)
end
def ChSt(w0:World)(base g:Nat)(V:Value)(v:Value)(F P:List (List Nat))(W:World):Prop:=
 ∃V',LogOf tL W base g V' F/\(V'.ownBlock=V.ownBlock\/ ∃h,V'.ownBlock=some h/\w0.heap.size<=h)/\Turns (g::zbg V) w0 W/\W.ownsRow w0.heap.size tD 32 v P.length (recs zfh P)
theorem qdz{W W':World}{base base' g n:Nat}{V v:Value}{F:List (List Nat)}{xs:List Value}(o:W.ownsRow base' tD 32 v n xs)(l:LogOf tL W base g V F)(t:Turns (g::zbg V) W W'):W'.ownsRow base' tD 32 v n xs:=by
 refine zkw o t (fun x hx=>?_);obtain⟨A,n,c,D,rfl,hg,ho,_⟩:=l;rcases qnu.1 hx with rfl|hx
 ·exact zav o hg (by decide)
 ·exact zh1 o ho (by decide) x hx
theorem qd0{W W':World}{base base' g n:Nat}{V v:Value}{F:List (List Nat)}{xs:List Value}(l:LogOf tL W base g V F)(o:W.ownsRow base' tD 32 v n xs)(gr:W.grownBy W' v.ownBlock):LogOf tL W' base g V F:=by have T1:Turns (zbg v) W W':=qsi gr;obtain⟨Al,nl,cl,D,rfl,hg,ho,hp,hD⟩:=l;have l:LogOf tL W base g (.slice Al nl cl) F:=⟨Al,nl,cl,D,rfl,hg,ho,hp,hD⟩;exact l.turn T1 (zer o hg (by decide)) (zh1 ho o (by decide)) (fun x hx _ cs hB=>zer o hB (by decide) hx)
section
variable{w0 W W':World}{base g:Nat}{V v:Value}{F F2 P:List (List Nat)}
theorem ChSt.first(h:LogOf tL w0 base g V F):ChSt w0 base g V (.slice none 0 0) F [] w0:=⟨V,h,.inl rfl,qr7 _ _,⟨rfl,.inl ⟨rfl,rfl⟩⟩⟩
theorem ChSt.turn(h:ChSt w0 base g V v F P W){V1 V2:Value}(l1:LogOf tL W base g V1 F)(l2:LogOf tL W' base g V2 F2)(a2:V2.ownBlock=V1.ownBlock\/ ∃h,V2.ownBlock=some h/\W.heap.size<=h)(t2:Turns (g::zbg V1) W W'):ChSt w0 base g V v F2 P W':=by obtain⟨V',l,a,t,o⟩:=h;obtain rfl:=zxq l l1;exact⟨V2,l2,zdz t.size a a2,zbm t a t2,qdz o l1 t2⟩
theorem ChSt.new(h:ChSt w0 base g V v F P W)(k:New W W'):ChSt w0 base g V v F P W':=by obtain⟨V',l,a,t,o⟩:=h;exact⟨V',l.new k,a,t.trans (qr9 k),za8 o k⟩
theorem ChSt.push(h:ChSt w0 base g V v F P W){A':Option Addr}{c' n:Nat}{P2:List (List Nat)}(o':W'.ownsRow w0.heap.size tD 32 (.slice A' n c') n (recs zfh P2))(hn:n=P2.length)(gr:W.grownBy W' v.ownBlock):ChSt w0 base g V (.slice A' n c') F P2 W':=by subst hn;obtain⟨V',l,a,t,o⟩:=h;exact⟨V',qd0 l o gr,a,zuw t (qsi gr) (fun x hx=>(zma o x hx).1),o'⟩
theorem ChSt.join{w1:World}{vc:Value}{P1:List (List Nat)}(h:ChSt w0 base g V v F P w1){V1:Value}(l1:LogOf tL w1 base g V1 F)(k:ChSt w1 base g V1 vc F2 P1 W):ChSt w0 base g V v F2 P W:=by obtain⟨V',l,a,t,o⟩:=k;exact h.turn l1 l a t
end
theorem z9g{w w':World}{A:Option Addr}{b:List Nat}{T:List Nat}{r:zi3}(hT:∀x∈T,x<w.heap.size)(hfar:0<b.length-> ∀ad,A=some ad->ad.block∉T)(h1:RowBIn w' r/\ ∀ad,r.1=some ad->w.heap.size<=ad.block)(h2:∀d∈r.2.2,PieceOf A w' d)
 (h3:∀d∈r.2.2,(∀x∈d.2.2,x<256)/\d.2.2.length<=b.length/\d.2.2.length<=9000000):DataF w' r.1 r.2.2 T:=by
 refine⟨h1.1,fun _ ad ha hm=>?_,fun d hd=>?_⟩
 ·have:=h1.2 ad ha
  have:=hT _ hm;omega
 ·obtain⟨⟨p1,p2,p3⟩,p4⟩:=h2 d hd
  obtain⟨q1,q2,q3⟩:=h3 d hd;refine⟨p1,fun h0 ad ha hm=>?_,p2,p3,q1,q3⟩;obtain⟨a0,e1,e2⟩:=p4 ad ha;rw[e2] at hm;exact hfar (by omega) a0 e1 hm
theorem qd1{W:World}{base base' g n c:Nat}{V:Value}{F:List (List Nat)}{A:Option Addr}{xs:List Value}(h:Go.Hm.Own W base 5 (.slice A n c) xs)(l:LogOf tL W base' g V F):0<xs.length-> ∀ad,A=some ad->ad.block∉g::zbg V:=by
 intro h0 ad ha;subst ha;unfold Go.Hm.Own at h;rcases h.2 with⟨e,h2⟩|⟨g',cap,cur,hv,_,hg,_⟩
 ·omega
 ·injection hv with e1 e2 e3
  injection e1 with e1;subst e1;exact l.notT (show Blk W g' 5 cur from hg) (by decide) (by decide)
theorem zhv{P:Program}{fn:Func}{p q:Tmp}{ty:TypeId}(h:fn.results= #[.cell p ty,.tmp q])(tmps:Array Value)(w:World)(g:Nat)(t:TypeId)(cs:Array Value)(fr:Nat × Nat)(d:TypeDesc)
 (hp:tmps.getD p undef= .pointer (some ⟨g,0,none⟩))(hg:w.heap[g]? =some (.cells cs t fr))
 (hu:P.underlying ty=some d)(hd:(match d with| .struct _| .array _ _=>true|_=>false)=true)(hi:(P.info? ty).map (·.size)=some cs.size):
 (results fn tmps).run P w= .ok (.tuple #[.agg cs,tmps.getD q undef]) w:=by
 have hp':tmps[p]?.getD undef= .pointer (some ⟨g,0,none⟩):=by simpa using hp
 simp[results,h,hp',asAddr,run_loadVar_row w g t ty cs fr d hg hu hd hi]
noncomputable def z4z(b:List Nat):List Nat:=match openO b with|none=>List.replicate 32 0|some x=>zyz x.1.groups b x.2
noncomputable def qau(b:List Nat):Int:=match openO b with|none=>2|some _=>0
noncomputable def zxe(b:List Nat):List (List Nat):=match openO b with|none=>[]|some x=>zwi x.1.groups b x.2
theorem zoe(b:List Nat):zim (z4z b):=by
 unfold z4z;split
 ·exact⟨rfl,fun x hx=>by have:=(qoa.1 hx).2;omega⟩
 ·exact zbu _ _
theorem z9h{b:List Nat}{F:FootS}{s:List Nat}(ho:openO b=some (F,s)):qau b=0/\z4z b=zyz F.groups b s/\zxe b=zwi F.groups b s:=by unfold qau z4z zxe;rw[ho];exact⟨rfl,rfl,rfl⟩
theorem z1h{b:List Nat}(ho:openO b=none):z4z b=List.replicate 32 0/\qau b=2/\zxe b=[]:=by unfold z4z qau zxe;rw[ho];exact⟨rfl,rfl,rfl⟩
def qfj(b:List Nat)(base g:Nat)(V:Value)(F:List (List Nat))(w:World):Ending->World->Prop:=zc3 tL (.tuple #[dV (z4z b),.int .i64 (qau b)]) base g V (F++zxe b) w
def RhSt(w0:World)(base g:Nat)(V:Value)(v:Value)(F P:List (List Nat))(W:World):Prop:=
 ∃V',LogOf tR W base g V' F/\(V'.ownBlock=V.ownBlock\/ ∃h,V'.ownBlock=some h/\w0.heap.size<=h)/\Turns (g::zbg V) w0 W/\W.ownsRow w0.heap.size tD 32 v P.length (recs zfh P)
theorem qd2{W W':World}{base base' g n:Nat}{V v:Value}{F:List (List Nat)}{xs:List Value}(o:W.ownsRow base' tD 32 v n xs)(l:LogOf tR W base g V F)(t:Turns (g::zbg V) W W'):W'.ownsRow base' tD 32 v n xs:=by
 refine zkw o t (fun x hx=>?_);obtain⟨A,n,c,D,rfl,hg,ho,_⟩:=l;rcases qnu.1 hx with rfl|hx
 ·exact zav o hg (by decide)
 ·exact zh1 o ho (by decide) x hx
theorem qd3{W W':World}{base base' g n:Nat}{V v:Value}{F:List (List Nat)}{xs:List Value}(l:LogOf tR W base g V F)(o:W.ownsRow base' tD 32 v n xs)(gr:W.grownBy W' v.ownBlock):LogOf tR W' base g V F:=by have T1:Turns (zbg v) W W':=qsi gr;obtain⟨Al,nl,cl,D,rfl,hg,ho,hp,hD⟩:=l;have l:LogOf tR W base g (.slice Al nl cl) F:=⟨Al,nl,cl,D,rfl,hg,ho,hp,hD⟩;exact l.turn T1 (zer o hg (by decide)) (zh1 ho o (by decide)) (fun x hx _ cs hB=>zer o hB (by decide) hx)
theorem z1i{W:World}{base g:Nat}{V V1:Value}{F F1:List (List Nat)}(l:LogOf tR W base g V F)(l1:LogOf tR W base g V1 F1):V1=V:=by obtain⟨A,n,c,D,rfl,hg,_⟩:=l;obtain⟨A1,n1,c1,D1,rfl,hg1,_⟩:=l1;have:=hg.symm.trans hg1;simp at this;obtain⟨rfl,rfl,rfl⟩:=this;rfl
section
variable{w0 W W':World}{base g:Nat}{V v:Value}{F F2 P:List (List Nat)}
theorem RhSt.first(h:LogOf tR w0 base g V F):RhSt w0 base g V (.slice none 0 0) F [] w0:=⟨V,h,.inl rfl,qr7 _ _,⟨rfl,.inl ⟨rfl,rfl⟩⟩⟩
theorem RhSt.turn(h:RhSt w0 base g V v F P W){V1 V2:Value}(l1:LogOf tR W base g V1 F)(l2:LogOf tR W' base g V2 F2)(a2:V2.ownBlock=V1.ownBlock\/ ∃h,V2.ownBlock=some h/\W.heap.size<=h)(t2:Turns (g::zbg V1) W W'):RhSt w0 base g V v F2 P W':=by obtain⟨V',l,a,t,o⟩:=h;obtain rfl:=z1i l l1;exact⟨V2,l2,zdz t.size a a2,zbm t a t2,qd2 o l1 t2⟩
theorem RhSt.new(h:RhSt w0 base g V v F P W)(k:New W W'):RhSt w0 base g V v F P W':=by obtain⟨V',l,a,t,o⟩:=h;exact⟨V',l.new k,a,t.trans (qr9 k),za8 o k⟩
theorem RhSt.push(h:RhSt w0 base g V v F P W){A':Option Addr}{c' n:Nat}{P2:List (List Nat)}(o':W'.ownsRow w0.heap.size tD 32 (.slice A' n c') n (recs zfh P2))(hn:n=P2.length)(gr:W.grownBy W' v.ownBlock):RhSt w0 base g V (.slice A' n c') F P2 W':=by subst hn;obtain⟨V',l,a,t,o⟩:=h;exact⟨V',qd3 l o gr,a,zuw t (qsi gr) (fun x hx=>(zma o x hx).1),o'⟩
end
def zlx(P:List (List Nat))(base g:Nat)(V:Value)(F:List (List Nat))(w:World)(e:Ending)(w':World):Prop:=
 ∃v,e= .returned v/\w'.ownsRow w.heap.size tD 32 v P.length (recs zfh P)/\ ∃V',LogOf tR w' base g V' F/\(V'.ownBlock=V.ownBlock\/ ∃h,V'.ownBlock=some h/\w.heap.size<=h)/\Turns (g::zbg V) w w'
theorem zib{w:World}{base g:Nat}{V:Value}{F:List (List Nat)}(hL:LogOf tR w base g V F)(hbs:base<=w.heap.size){s:List Nat}{A:Option Addr}{c:Nat}{D:List zgp}(hs8:∀x∈s,x<256)(hs:s.length<=140737488351232)(hD:DataF w A D (g::zbg V))(hD6:D.length<=65536)(hF:F.length+D.length<=9000000):
 Calls Tryz.prog 11 #[.pointer (some ⟨g,0,none⟩),.string (zai s),.slice A D.length c] w (zlx (lvD s (D.map (·.2.2))) base g V (F++lvF s (D.map (·.2.2))) w):=by
 obtain⟨Dl,hDl⟩:∃Dl,Dl=D.map (·.2.2):=⟨_,rfl⟩;rw[<-hDl];have hdl:Dl.length=D.length:=by rw[hDl,qos]
 have HD:=qrf hD;have HB:=qrf hbs;have HDl:=qrf hDl;have HSs:=qrf (qok hs8 hs);have hdn:=qrf hdl;have S0:Hid (RhSt w base g V (.slice none 0 0) (F++zuu s Dl 0) (zsy s Dl 0) w):=qrf (by simpa[zuu,zsy] using RhSt.first hL);have h0:lvD s Dl=zsy s Dl D.length:=by unfold lvD zsy;rw[hdl]
 have h1:lvF s Dl=zuu s Dl D.length:=by unfold lvF zuu;rw[hdl]
 rw[h0,h1];clear hD hL hbs hDl hs8 hs hdl h0 h1;go_enter Tryz.func11,Tryz.ntmps11
 go_wp2_with fail
 go_loopw [7,8] (fun v i wr=>∃k:Nat,k<=D.length/\i= .int .i64 (k:Int)/\Hid (RhSt w base g V v (F++zuu s Dl k) (zsy s Dl k) wr)) (fun _ i _=>D.length-(intOf i).toNat)
 case atStart=>exact⟨0,ql7 _,rfl,S0⟩
 case round=>
  obtain⟨k,hk,rfl,HS⟩:=hrel;clear S0;by_cases hlt:k<D.length
  ·obtain⟨V1,l1,a1,t1,o1⟩:=HS.out
   have hD1:=HD.out.turn t1 (T':=g::zbg V1) (fun x hx hm=>zmb hm hx a1);obtain⟨ad,rfl,hb,hc⟩:=zz9 hD1.row hlt;obtain⟨p1,p2,p3,p4,p5,p6⟩:=hD1.at_ _ (zd4 (none,0,[]) hlt);have hfl:(F++zuu s Dl k).length<=10000000:=by have:=zz5 s Dl k;rw[qmv];omega
   have hg:Dl.getD k []=(D.getD k (none,0,[])).2.2:=by rw[HDl.out,qnp,qou,qlx hlt,qnp,qlx hlt];rfl
   have LF:=z6f (k:=(k:Int)) (n:=(D.length:Int)) (s:=s) l1 (qlw HB.out t1.size) hfl HSs.out.1 HSs.out.2 p1 p2 p5 p6 p3 p4;rw[zgg] at LF;have e1:=zuv s Dl k;have e2:=zo1 s Dl k;have hPl:=zz4 s Dl k;rw[hdn.out,hg] at e1 e2;have E1:=qrf e1;have E2:=qrf e2;clear hg;generalize D.getD k (none,0,[])=d at*;obtain⟨da,dc,db⟩:=d;dsimp only at hc LF E1 E2;have hHd:=zbu s (leafP (k:Int) (D.length:Int) db);have hki:(k:Int)<(D.length:Int):=by omega
   generalize zb4 s (leafP (k:Int) (D.length:Int) db)=hd at*;generalize(za5 s (leafP (k:Int) (D.length:Int) db)).toList=fr at*;generalize hP7:zsy s Dl k=P7 at*;generalize hF7:F++zuu s Dl k=F7 at*;have HP7:=qrf (show P7.length<=65536 by omega);have HF7:=qrf hF7;have HDS:Hid (Digs [hd]):=qrf (fun y hy=>by obtain rfl:=qne.1 hy;exact hHd);have LF:=qrf LF;have l1:=qrf l1;clear hD1 hb p1 p2 p3 p4 p5 p6 hfl e1 e2 hPl hP7 hF7 t1 a1 o1;go_wp2_with fail
   refine LF.out.mono ?_;rintro e w8 ⟨rfl,V8,l8,a8,t8⟩;have S8:=HS.out.turn l1.out l8 a8 t8;have n8:=zac w8 (.cells (recs zfh [hd]).toArray 35);have S9:=qrf (S8.new n8);obtain⟨_,_,_,t9,o9⟩:=S9.out;have O9:=qrf o9;have LV:=qrf (zmc (w:=w8) HDS.out (T:=[]) (by simp)).row;have B9:=qrf t9.size;clear S8 n8 o9 t9 l8 a8 t8 LF hc;go_wp2_with (first
    |(refine zj7 rfl 1 _ rfl [hd] HDS.out rfl (by omega) (by omega) (by rw[qmp,qmq,qpn];rfl) ?_)
    |(refine zkg rfl (.tmp 15) (.tmp 26) rfl O9.out LV.out rfl rfl B9.out (by have:=HP7.out;rw[qp7];omega) ?_
      intro A9 c9 w10 _ _ o10 g10;rw[<-za7] at o10;have S10:=S9.out.push o10 (by rw[qmv]) g10;rw[<-E1.out,<-HF7.out,qmi,<-E2.out] at S10;have S10:=qrf S10;clear o10 g10))
   go_roundw
   case rel=>exact⟨k+1,by omega,by go_num,S10⟩
   case measure=>simp[intOf];omega
  ·obtain rfl:k=D.length:=by omega
   go_wp2_with fail
   go_ret
   obtain⟨V1,l1,a1,t1,o1⟩:=HS.out;exact⟨_,rfl,o1,V1,l1,a1,t1⟩
def z9i(L:List (List Nat))(w:World)(e:Ending)(w':World):Prop:=
 ∃A c D,e= .returned (.slice A D.length c)/\D.length<=c/\c<=maxLen/\D.map (·.2.2)=L/\New w w'/\Reads w' w'.heap.size 1 A D.length (recs zgq D)/\(∀ad,A=some ad->w.heap.size<=ad.block)/\ ∀d∈D,BytIn w' d/\(∀ad,d.1=some ad->w.heap.size<=ad.block)/\d.2.2.length<=d.2.1/\d.2.1<=maxLen
def zly(w W:World)(d:zgp):Prop:=Go.Hm.Own W w.heap.size 5 (.slice d.1 d.2.2.length d.2.1) (zah .u8 d.2.2)
theorem qd4{W:World}{g base:Nat}{e:TypeId}(h:Blk W g e #[])(hb:base<=g):Go.Hm.Own W base e (.slice (some ⟨g,0,none⟩) 0 0) []:=by refine⟨rfl,.inr ⟨g,0,#[],rfl,hb,h,ql6 _,by simp only[maxLen];omega,by simp,by simp⟩⟩
theorem zse{w:World}{A:Option Addr}{c:Nat}{L:List (List Nat)}(hR:Reads w w.heap.size 32 A L.length (recs zfh L))(hD:Digs L)(hL6:L.length<=65536):
 Calls Tryz.prog 39 #[.slice A L.length c] w (z9i L w):=by
 have LI:=qrf (show LeafIn w A L [] from⟨hR,hD,fun _ _ _ h=>nomatch h⟩);have HD:=qrf hD;clear hR hD;go_enter Tryz.func39,Tryz.ntmps39
 go_wp2_with fail
 go_loopw [3,4] (fun v i wr=>∃(k:Nat) (A2:Option Addr) (c2:Nat) (P:List zgp),k<=L.length/\i= .int .i64 (k:Int)/\v= .slice A2 P.length c2/\Hid (Go.Hm.Own wr w.heap.size 24 (.slice A2 P.length c2) (recs zgq P))/\Hid (P.map (·.2.2)=L.take k)/\Hid (∀d∈P,zly w wr d)/\New w wr) (fun _ i _=>L.length-(intOf i).toNat)
 case atStart=>exact⟨0,none,0,[],ql7 _,rfl,rfl,qrf qru,qrf rfl,qrf (by simp),qrz _⟩
 case round=>
  obtain⟨k,A2,c2,P,hk,rfl,rfl,OP,HP,HPI,bw⟩:=hrel;by_cases hlt:k<L.length
  ·obtain⟨ad,rfl,hc⟩:=(LI.out.turn (qr9 bw) (fun x _ h=>h) (T':=[])).at_ hlt
   have hdd:=HD.out _ (zgu hlt);have e1:L.take (k+1)=L.take k++[L.getD k []]:=zae L k [] hlt;generalize L.getD k []=d at*;have HC:=qrf hc;have I32L:=qrf (qkf hdd.1);obtain⟨cs,ecs,I32,ZS,ONE,hcs⟩:=zex hdd;have hPl:=congrArg List.length HP.out;rw[qos,ql2] at hPl;have hki:(k:Int)<(L.length:Int):=by omega
   have HE1:=qrf e1;have HCS:=qrf hcs;have I32:=qrf I32;have ZS:=qrf ZS;have ONE:=qrf ONE;have HDD:=qrf hdd;have hP6:P.length<=65536:=by omega
   clear hc e1 ecs hdd hcs hPl;have WZ:=qrf (HC.out wr (qrz _));have n1:=zac wr (.cells cs 35);have B1:=qrv wr 35 cs;have hs1:(wr.alloc (.cells cs 35)).heap.size=wr.heap.size+1:=qrq _ _;obtain⟨W1,hW1⟩:∃W,W=wr.alloc (.cells cs 35):=⟨_,rfl⟩;rw[<-hW1] at n1 B1 hs1;have n2:=zac W1 (.cells #[] 5);have B2:=qrv W1 5 #[];have hs2:(W1.alloc (.cells #[] 5)).heap.size=W1.heap.size+1:=qrq _ _;obtain⟨W2,hW2⟩:∃W,W=W1.alloc (.cells #[] 5):=⟨_,rfl⟩;rw[<-hW2] at n2 B2 hs2;have b2:=qr0 n1 n2;have hbw:=bw.size;have RD:Reads W2 W2.heap.size 1 (some ⟨wr.heap.size,0,none⟩) 32 (zah .u8 d):=by have:=zd0 (l:=d) (B1.below n2 B1.lt) (by rw[HCS.out]);rwa[HDD.out.1] at this
   rw[hs1] at B2;have OZ:=qd4 (base:=w.heap.size) B2 (by omega);have RD:=qrf RD;have OZ:=qrf OZ;have BW2:=qrf (qr0 bw b2);have B12:=qrf b2;have HW1:=qrf hW1;have HW2:=qrf hW2;have HS:=qrf (qok hs1 (qok hs2 hbw));have ONED:=qrf (show∀u∈zah .u8 d,u.oneCell'=true from fun u hu=>by obtain⟨x,_,rfl⟩:=qly.1 hu;rfl);clear n1 B1 hs1 n2 B2 hs2 b2 hbw hW1 hW2;go_upto_region 6 with(first
    |(refine zg4 rfl 35 (.tmp 14) rfl rfl WZ.out zbp rfl I32L.out ?_
      rw[<-HCS.out])
    |(refine wpList_store_row rfl 35 (.tmp 5) (.tmp 15) rfl wr.heap.size cs rfl rfl _ _ (heap_alloc_new _ _) I32.out ZS.out ONE.out ?_;rw[zbb]))
   rw[<-HW1.out];have hd32:=HDD.out.1;have HVL:=qrf (zp8 P);have HD32:=qrf hd32;clear hd32;go_wp2_with (first
    |(rw[<-HW2.out,HS.out.1]
      refine zf2 elB rfl (.tmp 17) (.tmp 18) rfl (W:=w) (B:=w.heap.size) (news:=zah .u8 d) OZ.out RD.out rfl rfl BW2.out (ql6 _) BW2.out.size ONED.out (by show(0+32)*1<=_;omega) (by simp only[maxLen,qpg];omega) ?_;intro A3 c3 w3 _ _ o3 g3 b3 _;have O3:=qrf (show Go.Hm.Own w3 w.heap.size 5 (.slice A3 32 c3) (zah .u8 d) from o3);have B3:=qrf b3;have g3:W2.grownBy w3 (some (wr.heap.size+1)):=g3;have n3:New wr w3:=zbo B12.out g3 (qp0 _) (ql6 _);have OP3:=qrf (OP.out.later n3);have HPI3:Hid (∀d∈P,zly w w3 d):=qrf (fun d hd=>(HPI.out d hd).later n3);rw[show([]:List Value).length+32=32 from rfl];clear o3 g3 n3 b3)
    |(refine zgc qk2 rfl (.tmp 16) (.tmp 20) rfl (W:=w) (B:=w.heap.size) (u:= .slice A3 32 c3) OP3.out rfl rfl B3.out (ql6 _) B3.out.size rfl (by rw[HVL.out];omega) (by rw[HVL.out];simp only[maxLen];omega) ?_
      intro A4 c4 w4 _ _ o4 g4 b4 _ _;have T4:=qsi g4;have hnew:zly w w4 (A3,c3,d):=by show Go.Hm.Own w4 w.heap.size 5 (.slice A3 d.length c3) (zah .u8 d);rw[HD32.out];exact O3.out.touch T4 (zh1 O3.out OP3.out (by decide))
      have HPI4:Hid (∀x∈P++[((A3,c3,d):zgp)],zly w w4 x):=qrf (fun x hx=>by
       rcases qnd.1 hx with hx|hx
       ·exact Own.touch (HPI3.out x hx) T4 (zh1 (HPI3.out x hx) OP3.out (by decide))
       ·obtain rfl:=qne.1 hx
        exact hnew)
      have hv:recs zgq (P++[((A3,c3,d):zgp)])=recs zgq P++[.slice A3 32 c3]:=by rw[za7];show recs zgq P++[Value.slice A3 d.length c3]=_;rw[HD32.out]
      have hl4:(P++[((A3,c3,d):zgp)]).length=(recs zgq P).length+1:=by rw[qmv,HVL.out];rfl
      rw[<-hv,<-hl4] at o4;rw[<-hl4];have O4:=qrf o4;have HP4:=qrf (show(P++[((A3,c3,d):zgp)]).map (·.2.2)=L.take (k+1) by rw[qpj,HP.out,HE1.out];rfl);have BW4:=b4;generalize P++[((A3,c3,d):zgp)]=P4 at*;clear T4 hnew hv hl4 o4 g4 b4))
   go_roundw
   case rel=>exact⟨k+1,A4,c4,P4,by omega,by go_num,rfl,O4,HP4,HPI4,BW4⟩
   case measure=>simp[intOf];omega
  ·obtain rfl:k=L.length:=by omega
   go_wp2_with fail
   go_ret
   have hP:=HP.out;rw[qp1] at hP;have hcap:=OP.out.cap;have hO:Go.Hm.Own wr w.heap.size 24 (.slice A2 P.length c2) (recs zgq P):=OP.out;have hr:=hO.reads;refine⟨A2,c2,P,rfl,hcap.1,hcap.2,hP,bw,hr,fun ad ha=>?_,fun d hd=>?_⟩
   ·subst ha
    exact(qln hO _ rfl).1
   ·have hd2:=HPI.out d hd
    unfold zly at hd2;have hc:=hd2.cap;have hr2:=hd2.reads;obtain⟨da,dc,dl⟩:=d;refine⟨hr2,fun ad ha=>?_,hc.1,hc.2⟩;dsimp only at ha hd2;subst ha;exact(qln hd2 _ rfl).1
noncomputable def z92(F:FootS)(b:List Nat):List (List Nat):=(zfx F.groups (b.drop 4)).flatten.flatten
theorem z1r{n:Nat}:∀{C:List (List zbc)},(∀l∈C,l.length<=n)->C.flatten.length<=C.length*n
 | [],_=>by simp
 |l::C,h=>by
  have h1:=h l (by simp);have h2:=z1r (C:=C) fun q hq=>h q (by simp[hq])
  rw[qpw,qmv,qm9,qn2];omega
theorem z1s{cols:List zbi}(hc:cols.length<=64):∀{G:List za9} (x:List Nat),(∀g∈G,GroupOk cols g)->((zfx G x).flatten.flatten.length:Int)<=64*(G.map (·.1)).sum
 | [],x,_=>by simp[zfx]
 |g::G,x,h=>by
  obtain⟨h1,h2,h3⟩:=h g (by simp);have ih:=z1s hc (G:=G) (x.drop (szC g.2)) fun q hq=>h q (by simp[hq])
  obtain⟨n,hn⟩:=qn1 (show 0<=g.1 by omega);have h4:∀l∈g.2,l.length<=n:=fun l hl=>by obtain⟨i,hi,rfl⟩:=qo4 hl;obtain⟨a,b⟩:=h3 i (by omega);rw[qnp,qlx hi] at a b;have a2:=zfv a;simp only[qnq] at a2 b;omega
  have h5:=z1r h4;have h6:g.2.length*n<=64*n:=ql4 _ (by omega);rw[zfx,qpw,qpm,qmv,zls,qmp,qpf,hn];omega
theorem z4k{F:FootS}(h:zb0 F)(b:List Nat):(z92 F b).length<=4194304:=by have h1:=z1s h.1.1 (b.drop 4) h.2.1;have h2:=h.2.2.1;have h3:=h.2.2.2.1;unfold z92;omega
section
variable{L:List zbi}{E:List Int}{D:List (List zab)}{pr:Int}
def pgF(L:List zbi)(E:List Int)(D:List (List zab))(c:Nat)(q:Int × Int):List Nat:=(zik L E D c q).2
def zua(L:List zbi)(E:List Int)(D:List (List zab))(l:List (Int × Int))(cs:List Nat):List (List (List Nat)):=cs.map fun c=>l.map (pgF L E D c)
def zqt(L:List zbi)(E:List Int)(D:List (List zab))(pr:Int)(l:List (Int × Int)):List (List (List (List Nat))):=l.map fun s=>zua L E D (zd5 s.1 s.2 pr) (List.range L.length)
theorem z1t{c:Nat}:∀(l:List (Int × Int)) {y x:List (List Nat) × Int},chW L E D c (some y) l=some x->x.1=y.1++l.map (pgF L E D c)/\ ∀q∈l,(zik L E D c q).1=0
 | [],y,x,h=>by
   injection h with h;subst h;simp
 |q::l,y,x,h=>by
  have e:chW L E D c (some y) (q::l)=chW L E D c (pgW L E D c (some y) q) l:=rfl;rw[e] at h;cases hp:pgW L E D c (some y) q with
  |none=>rw[hp,zjv] at h;cases h
  |some z=>
   rw[hp] at h;obtain⟨h1,h2⟩:=z1t l h;unfold pgW at hp;dsimp only at hp;split at hp
   ·rename_i hc
    injection hp with hp;subst hp;refine⟨by rw[h1];simp[pgF],fun q' hq'=>?_⟩;rcases qnu.1 hq' with rfl|hq'
    ·exact hc.1
    ·exact h2 _ hq'
   ·cases hp
theorem z1u{s:Int × Int}:∀(k:Nat) {y x:List (List Nat) × Int},gpW L E D pr s (some y) k=some x->x.1=y.1++(zua L E D (zd5 s.1 s.2 pr) (List.range k)).flatten/\ ∀c,c<k-> ∀q∈zd5 s.1 s.2 pr,(zik L E D c q).1=0
 |0,y,x,h=>by
  injection h with h;subst h;simp[zua]
 |k+1,y,x,h=>by
  rw[gpW] at h;cases hp:gpW L E D pr s (some y) k with
  |none=>rw[hp,zjv] at h;cases h
  |some z=>
   rw[hp] at h;obtain⟨h1,h2⟩:=z1t _ h;obtain⟨h3,h4⟩:=z1u k hp;refine⟨by rw[h1,h3,qpp];simp[zua],fun c hc q hq=>?_⟩;rcases qma c k with h5|h5
   ·exact h4 c h5 q hq
   ·obtain rfl:c=k:=by omega
    exact h2 q hq
theorem zw2:∀(l:List (Int × Int)) {y x:List (List Nat) × Int},l.foldl (grW L E D pr) (some y)=some x->x.1=y.1++(zqt L E D pr l).flatten.flatten/\ ∀s∈l,∀c,c<L.length-> ∀q∈zd5 s.1 s.2 pr,(zik L E D c q).1=0
 | [],y,x,h=>by
   injection h with h;subst h;simp[zqt]
 |s::l,y,x,h=>by
  rw[qp3] at h;cases hp:grW L E D pr (some y) s with
  |none=>rw[hp,zqi] at h;cases h
  |some z=>
   rw[hp] at h;obtain⟨h1,h2⟩:=zw2 l h;obtain⟨h3,h4⟩:=z1u _ hp;refine⟨by rw[h1,h3];simp[zqt],fun s' hs'=>?_⟩;rcases qnu.1 hs' with rfl|hs'
   ·exact h4
   ·exact h2 _ hs'
theorem qfm(c:Nat):∀(l:List (Int × Int)) (r:List Nat),z3q (l.map (zeh L E D c)) ((l.map (pgF L E D c)).flatten++r)=l.map (pgF L E D c)/\(l.map (pgF L E D c)).flatten.length=szL (l.map (zeh L E D c))
 | [],r=>⟨rfl,rfl⟩
 |q::l,r=>by
  obtain⟨h1,h2⟩:=qfm c l r;have e:(zeh L E D c q).1.toNat=(pgF L E D c q).length:=by unfold zeh pgF;simp
  rw[qmp,qmp,z3q,qpw,qmi,e,List.take_left,qq4,h1,zlo,e,qmv,h2];exact⟨rfl,rfl⟩
theorem qfn(l:List (Int × Int)):∀(cs:List Nat) (r:List Nat),zcm (cs.map fun c=>l.map (zeh L E D c)) ((zua L E D l cs).flatten.flatten++r)=zua L E D l cs/\(zua L E D l cs).flatten.flatten.length=szC (cs.map fun c=>l.map (zeh L E D c))
 | [],r=>⟨rfl,rfl⟩
 |c::cs,r=>by
  obtain⟨h1,h2⟩:=qfn l cs r;obtain⟨h3,h4⟩:=qfm (L:=L) (E:=E) (D:=D) c l ((zua L E D l cs).flatten.flatten++r);have e:zua L E D l (c::cs)=l.map (pgF L E D c)::zua L E D l cs:=rfl;rw[e,qmp,zcm,qpw,qpm,qmi,h3,<-h4,qq4,h1,zlp,<-h4,qmv,h2];exact⟨rfl,rfl⟩
theorem z94:∀(l:List (Int × Int)) (r:List Nat),zfx (l.map (zd7 L E D pr)) ((zqt L E D pr l).flatten.flatten.flatten++r)=zqt L E D pr l/\(zqt L E D pr l).flatten.flatten.flatten.length=szG (l.map (zd7 L E D pr))
 | [],r=>⟨rfl,rfl⟩
 |s::l,r=>by
  obtain⟨h1,h2⟩:=z94 l r;obtain⟨h3,h4⟩:=qfn (L:=L) (E:=E) (D:=D) (zd5 s.1 s.2 pr) (List.range L.length) ((zqt L E D pr l).flatten.flatten.flatten++r);have e:zqt L E D pr (s::l)=zua L E D (zd5 s.1 s.2 pr) (List.range L.length)::zqt L E D pr l:=rfl;have e2:(zd7 L E D pr s).2=(List.range L.length).map fun c=>(zd5 s.1 s.2 pr).map (zeh L E D c):=rfl
  rw[e,qmp,zfx,e2,qpw,qpm,qpm,qmi,h3,<-h4,qq4,h1,zlq,e2,<-h4,qmv,h2];exact⟨rfl,rfl⟩
end
theorem zqm(l:List zab){f t s:Nat}(hs:0<s):∀k,k<=zh8 f t s->(((zgw f t s).take k).map fun q=>(l.drop q.1.toNat).take (q.2-q.1).toNat).flatten=(l.drop f).take (atN f t s k-f)
 |0,_=>by simp[atN];omega
 |k+1,hk=>by
  have ih:=zqm l (f:=f) (t:=t) hs k (by omega);have hk2:=(zgx (f:=f) (t:=t) hs k).1 (by omega);obtain⟨a1,a2,a3⟩:=z01 hk2;have hle:f<=atN f t s k:=by rw[a1];omega
  rw[zpr (f:=f) (t:=t) (s:=s) (k:=k) (by omega),qpj,qpm,ih,a3];simp only[qmp,qmq,qpw,qpx,qmg,qmt];have e1:(((atN f t s (k+1):Nat):Int)-((atN f t s k:Nat):Int)).toNat=atN f t s (k+1)-atN f t s k:=by omega
  have e2:atN f t s (k+1)-f=(atN f t s k-f)+(atN f t s (k+1)-atN f t s k):=by omega
  rw[e1,e2,qqi,qoq];congr 3
  omega
theorem z95(l:List zab){f t:Nat}{s:Int}(h:f<=t)(ht:t<=65536)(hs:1<=s):((zd5 (f:Int) (t:Int) s).map fun q=>(l.drop q.1.toNat).take (q.2-q.1).toNat).flatten=(l.drop f).take (t-f):=by
 obtain⟨n,rfl⟩:=qn1 (show 0<=s by omega);rcases qma f t with hlt|hge
 ·rw[z02 hlt ht (by omega)]
  have:=zqm l (f:=f) (t:=t) (s:=n) (by omega) (zh8 f t n) (ql6 _);have e:(zgw f t n).take (zh8 f t n)=zgw f t n:=qm0 (by rw[zgb];exact ql6 _);rw[e] at this;rw[this];congr 1
  have hn: ¬(f+zh8 f t n*n<t):=fun q=>by have:=(zgx (f:=f) (t:=t) (s:=n) (by omega) (zh8 f t n)).2 q;omega
  unfold atN;omega
 ·rw[zvv (by omega)]
  have:t-f=0:=by omega
  rw[this];simp
theorem z1v{f t:Nat}{s:Int}{q:Int × Int}(h:q∈zd5 (f:Int) (t:Int) s):∃a b:Nat,q=((a:Int),(b:Int))/\f<=a/\a<=b/\b<=t:=by
 unfold zd5 at h;split at h
 ·cases h
 ·rename_i hc
  unfold zgw at h;obtain⟨i,hi,rfl⟩:=qly.1 h;rw[qot] at hi;have:=(zgx (f:=(f:Int).toNat) (t:=(t:Int).toNat) (s:=s.toNat) (by omega) i).1 hi;refine⟨_,_,rfl,?_,?_,?_⟩
  ·omega
  ·rw[qn2];omega
  ·omega
noncomputable def zw8(b:List Nat)(F:FootS)(g c p:Int):Option (List Nat):=
 if zfc F g c p<0\/(F.groups.length:Int)<=g then none
 else if(b.length:Int)<4+zfc F g c p+((za0 F.groups g.toNat c.toNat).getD p.toNat zb1).1 then none
 else some ((b.drop (4+(zfc F g c p).toNat)).take ((za0 F.groups g.toNat c.toNat).getD p.toNat zb1).1.toNat)
theorem qaf{F:FootS}{g c p:Int}(h:0<=zfc F g c p)(hg:g<(F.groups.length:Int)):
 zb0 F/\ ∃gk ck pk:Nat,g=(gk:Int)/\c=(ck:Int)/\p=(pk:Int)/\gk<F.groups.length/\ck<F.cols.length/\pk<(za0 F.groups gk ck).length:=by
 unfold zfc at h;split at h
 ·rename_i hc
  rw[qnt,qof,qnt] at hc;obtain⟨h1,h2⟩:=hc;have hok:zb0 F:=by unfold zfw at h1;simpa using h1
  rcases h2 with h2|⟨h2,h3⟩
  ·unfold qdn at h2
   simp only[decide_eq_true_eq] at h2;omega
  ·obtain⟨gk,ck,rfl,rfl,h4,h5⟩:=z8u h2
   unfold pgB at h3;simp only[decide_eq_true_eq,qmt] at h3;exact⟨hok,gk,ck,p.toNat,rfl,rfl,by omega,h4,h5,by omega⟩
 ·omega
theorem z1x{F:FootS}(h:zb0 F){gk ck pk:Nat}(h1:gk<F.groups.length)(h2:ck<F.cols.length)(h3:pk<(za0 F.groups gk ck).length):zfc F (gk:Int) (ck:Int) (pk:Int)=zc8 F.groups gk ck pk:=by
 unfold zfc;have e:zfw F=true:=by unfold zfw;simpa using h
 have e1:inB F.cols.length F.groups.length (gk:Int) (ck:Int)=true:=by unfold inB;simp;omega
 have e2:pgB (za0 F.groups gk ck).length (pk:Int)=true:=by unfold pgB;simp;omega
 simp only[e,e1,qmt,e2,qpk,Bool.or_true,if_true]
def qem(o:Option (List Nat))(w:World)(e:Ending)(w':World):Prop:=
 New w w'/\match o with
 |none=>e= .returned (.tuple #[.slice none 0 0,.bool false])
 |some x=>∃A n c,e= .returned (.tuple #[.slice A n c,.bool true])/\Go.Hm.Own w' w.heap.size 5 (.slice A n c) (zah .u8 x)
theorem qen{w:World}{A:Option Addr}{cb:Nat}{b:List Nat}{Ac:Option Addr}{cc:Nat}{L:List zbi}{r:Int}{Ag:Option Addr}{cg:Nat}{G:List GrD}{g c p:Int}
 (hb:Reads w w.heap.size 1 A b.length (zah .u8 b))(hbc:b.length<=cb)
 (h:FootIn w Ac cc L Ag G)(hp:∀g∈G,∀x∈g.2.2.2,∀p∈x.2.2,zep p.2.2):
 Calls Tryz.prog 33 #[.slice A b.length cb,zln Ac cc L r Ag cg G,.int .i64 g,.int .i64 c,.int .i64 p] w (qem (zw8 b (zb5 L r G) g c p) w):=by
 have b0:New w (w.alloc (.cells #[.slice Ac L.length cc,.int .i64 r,.slice Ag G.length cg] 79)):=(qq8 _ _).alloc (ql6 _) _;have B0:=qrv w 79 #[.slice Ac L.length cc,.int .i64 r,.slice Ag G.length cg];have PL:=qrf (fun(W:World) (hW:New w W)=>zv8 (r:=r) (cc:=cc) (cg:=cg) (g:=g) (c:=c) (p:=p) (h.later hW) hp);have hy:= @qaf (zb5 L r G) g c p;have hgl:(zb5 L r G).groups.length=G.length:=by unfold zb5;simp
 obtain⟨X,hX⟩:∃X,X=zw8 b (zb5 L r G) g c p:=⟨_,rfl⟩;rw[<-hX];unfold zw8 at hX;rw[hgl] at hX hy;generalize hV:zfc (zb5 L r G) g c p=V at*;unfold zln at PL⊢;obtain⟨x0,x1,x2⟩:=zar B0;replace hX:=qrf hX;replace hy:=qrf hy;replace hV:=qrf hV;have HF:=qrf h;have HR:=qrf hb;clear h hb hp;go_enter Tryz.func33,Tryz.ntmps33
 go_wp2_with fail
 refine(PL.out _ b0).mono ?_;rintro e w1 ⟨rfl,b1⟩;have b01:=qr0 b0 b1;have B1:=B0.below b1 B0.lt;clear PL x0 x1 x2 B0 b0 b1;obtain⟨x0,x1,x2⟩:=zar B1;by_cases hlt:V<0
 ·have hN:X=none:=by rw[hX.out,if_pos (.inl hlt)]
  subst hN;clear hX hy hV HF HR hgl;go_wp2_with fail
  go_ret2
  exact⟨b01,rfl⟩
 ·by_cases hg:(G.length:Int)<=g
  ·have hN:X=none:=by rw[hX.out,if_pos (.inr hg)]
   subst hN;have hlt2:0<=V:=by omega
   clear hX hy hV HF HR hlt hgl;go_wp2_with fail
   go_ret2
   exact⟨b01,rfl⟩
  ·have hx:=hX.out
   rw[if_neg (by omega)] at hx;obtain⟨hok,gk,ck,pk,rfl,rfl,rfl,h1,h2,h3⟩:=hy.out (by omega) (by omega);have hv0:=hV.out;rw[z1x hok (by rw[hgl];exact h1) h2 h3] at hv0;have hv:=zkd hok (by rw[hgl];exact h1) h2 h3;rw[hv0] at hv;have hcl:(G.getD gk grZ).2.2.2.length=L.length:=by have:=(zc5 hok (k:=gk) (by rw[hgl];exact h1)).2.1;unfold zb5 at this;dsimp only at this;rw[zbw grP G grZ zaq h1] at this;unfold grP at this;simpa using this
   have h2:ck<L.length:=h2;have hpa:za0 (zb5 L r G).groups gk ck=((G.getD gk grZ).2.2.2.getD ck chZ).2.2:=by unfold za0 zb5;dsimp only;rw[zbw grP G grZ zaq h1];exact zbw (fun x:ChD=>x.2.2) (G.getD gk grZ).2.2.2 chZ [] (by omega)
   simp only[qmt] at hx;rw[hpa] at hx h3 hv;have FI:=HF.out.later b01;have RB:=qsg HR.out b01;have hgm:G.getD gk grZ∈G:=zax grZ h1;obtain⟨rch,_⟩:=FI.chunks _ hgm;have hcm:(G.getD gk grZ).2.2.2.getD ck chZ∈(G.getD gk grZ).2.2.2:=zax chZ (by omega);obtain⟨rpg,_⟩:=FI.pages _ hgm _ hcm;obtain⟨ag,rfl,_,g0,g1⟩:=FI.groups.gr2 h1;have hl5:=FI.few2;generalize G.getD gk grZ=gd at*;obtain⟨gr,Ach,cch,D⟩:=gd;dsimp only at rch hcl hcm rpg g0 g1 hx hv h3;obtain⟨ac,rfl,_,d0⟩:=rch.ch1 (i:=ck) (by omega);generalize D.getD ck chZ=cd at*;obtain⟨Ap,cp,P⟩:=cd;dsimp only at rpg d0 hx hv h3;obtain⟨ap,rfl,_,p0,_⟩:=rpg.page14 h3;have hpl:P.length<=4611686018427387903:=by omega
   generalize(P.getD pk zb1).1=sz at*;obtain⟨vn,rfl⟩:=qn1 (show 0<=V by omega);obtain⟨sn,rfl⟩:=qn1 (show 0<=sz by omega);have k1:vn+sn<=1073741824:=by have:=hv.2.1;have:=hv.2.2.1;omega
   simp only[qmt] at hx;have HX:=qrf hx;have HCM:=qrf hcm;have hck:ck<D.length:=by omega
   have hcd:D.length<=4611686018427387903:=by have:=FI.few;omega
   have j1:(0:Int)<=(vn:Int):=by omega
   have j2:(gk:Int)<(G.length:Int):=by omega
   have j3:(ck:Int)<(D.length:Int):=by omega
   have j4:(pk:Int)<(P.length:Int):=by omega
   have j5:(vn:Int)+(sn:Int)<=1073741824:=by omega
   replace RB:=qrf RB;clear hX hy hV HF HR hgl hv hv0 hok hpa hx hcm FI rch rpg hgm hcl;by_cases hs:(b.length:Int)<4+(vn:Int)+(sn:Int)
   ·have hN:X=none:=by rw[HX.out,if_pos hs]
    subst hN;have B01:=qrf b01;clear hlt hg RB HX HCM h1 h2 h3 hbc hpl hck hcd k1 hl5 b01;go_wp2_with fail
    go_ret2
    exact⟨B01.out,rfl⟩
   ·have hN:X=some ((b.drop (4+vn)).take sn):=by rw[HX.out,if_neg hs]
    subst hN;have hs2:4+(vn:Int)+(sn:Int)<=(b.length:Int):=by omega
    have S1:(Instr.sliceAt 24 (.slice A b.length cb) (some (.int .i64 (4+(vn:Int)))) (some (.int .i64 (4+(vn:Int)+(sn:Int)))) none).run Tryz.prog w1= .ok (.slice (if cb=4+vn then A else A.map (·.add ((4+vn)*1))) sn (cb-(4+vn))) w1:=by have:=zhu zwl zwm A b.length cb (4+vn) (4+vn+sn) (by omega) (by omega) w1;rwa[show((4+vn:Nat):Int)=4+(vn:Int) by omega,show((4+vn+sn:Nat):Int)=4+(vn:Int)+(sn:Int) by omega,show 4+vn+sn-(4+vn)=sn by omega] at this
    have R1:Reads w1 w1.heap.size 1 (if cb=4+vn then A else A.map (·.add ((4+vn)*1))) sn (zah .u8 ((b.drop (4+vn)).take sn)):=by have:=(RB.out.cut (k:=4+vn) (cap:=cb) (by omega) hbc).take (k:=sn) (by omega);simpa only[qmd,zei,ze2] using this
    have CL:=qrf (zhk (c:=cb-(4+vn)) R1 (by omega));generalize(if cb=4+vn then A else A.map (·.add ((4+vn)*1)))=A2 at*;generalize cb-(4+vn)=c2 at*;have B01:=qrf b01;clear hlt hg RB HX HCM h1 h2 h3 hbc hpl hck hcd k1 hl5 b01 R1 hs;go_wp2_with fail
    refine CL.out.mono ?_;rintro e w2 ⟨A3,n3,c3,rfl,o3,b2⟩;clear CL S1;go_wp2_with fail
    go_ret2
    exact⟨qr0 B01.out b2,A3,n3,c3,rfl,o3.base_le B01.out.size⟩
end Go.Proofs.Y
