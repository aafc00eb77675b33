import Derived.Test.YtbahbnbpmfgimaaGreatDoorBun27
import Derived.Test.YtbahbnbpmfgimaaGreatDoorBun29
set_option maxHeartbeats 2000000
set_option maxRecDepth 100000
namespace Go.Proofs.Y
open Go Go.RowKit Go.Hm
def zcp:List Nat:=[112,97,103,101]
def zfk:List Nat:=[99,104,117,110,107]
def ze4:List Nat:=[103,114,111,117,112]
def zfp:List Nat:=[102,105,108,101]
def lvD(s:List Nat)(D:List (List Nat)):List (List Nat):=(List.range D.length).map fun(k:Nat)=>zca s (leafP (k:Int) (D.length:Int) (D.getD k []))
def lvF(s:List Nat)(D:List (List Nat)):List (List Nat):=(List.range D.length).flatMap fun(k:Nat)=>(za9 s (leafP (k:Int) (D.length:Int) (D.getD k []))).toList
theorem znh(s:List Nat)(D:List (List Nat)):(lvD s D).length=D.length:=by simp[lvD]
theorem zzg(s:List Nat)(D:List (List Nat)):(lvF s D).length<=D.length:=by
 unfold lvF;have:∀n,((List.range n).flatMap fun(k:Nat)=>(za9 s (leafP (k:Int) (D.length:Int) (D.getD k []))).toList).length<=n:=fun n=>by
  induction n with
  |zero=>simp
  |succ n a=>
   rw[quo,quf,qrp];have:(([n].flatMap fun(k:Nat)=>(za9 s (leafP (k:Int) (D.length:Int) (D.getD k []))).toList)).length<=1:=by simp only[qt6,qut,qra];cases za9 s (leafP (n:Int) (D.length:Int) (D.getD n []))<;> simp
   omega
 exact this D.length
def z4n(s:List Nat)(D:List (List Nat))(k:Nat):List (List Nat):=(List.range k).map fun(i:Nat)=>zca s (leafP (i:Int) (D.length:Int) (D.getD i []))
def qdv(s:List Nat)(D:List (List Nat))(k:Nat):List (List Nat):=(List.range k).flatMap fun(i:Nat)=>(za9 s (leafP (i:Int) (D.length:Int) (D.getD i []))).toList
theorem qew(s:List Nat)(D:List (List Nat))(k:Nat):(z4n s D k).length=k:=by simp[z4n]
theorem z8y(s:List Nat)(D:List (List Nat))(k:Nat):z4n s D (k+1)=z4n s D k++[zca s (leafP (k:Int) (D.length:Int) (D.getD k []))]:=by unfold z4n;rw[quo,que];rfl
theorem zwf(s:List Nat)(D:List (List Nat))(k:Nat):qdv s D (k+1)=qdv s D k++(za9 s (leafP (k:Int) (D.length:Int) (D.getD k []))).toList:=by unfold qdv;rw[quo,quf];simp
theorem qex(s:List Nat)(D:List (List Nat))(k:Nat):(qdv s D k).length<=k:=by
 induction k with
 |zero=>simp[qdv]
 |succ k a=>
  rw[zwf,qrp];have:(za9 s (leafP (k:Int) (D.length:Int) (D.getD k []))).toList.length<=1:=by cases za9 s (leafP (k:Int) (D.length:Int) (D.getD k []))<;> simp
  omega
theorem zil(s:List Nat)(D:List (List Nat)):Digs (lvD s D):=by intro d a;unfold lvD at a;obtain⟨k,_,rfl⟩:=qqu.1 a;exact zcg _ _
def ovD(s:List Nat)(D:List (List Nat)):List Nat:=(zc9 (lvD s D)).1
def ovF(s:List Nat)(D:List (List Nat)):List (List Nat):=lvF s D++(zc9 (lvD s D)).2
theorem zni(s:List Nat)(D:List (List Nat)):zna (ovD s D):=zd7 _ (zil s D)
theorem zug(s:List Nat)(D:List (List Nat)):(ovF s D).length<=2*D.length+1:=by have a:=zzg s D;have b:=z8w (zil s D);have c:=znh s D;unfold ovF;rw[qrp];omega
def znj(X:List (List (List Nat))):List Nat:=ovD zfk (X.map (ovD zcp))
def zqb(X:List (List (List Nat))):List (List Nat):=X.flatMap (ovF zcp)++ovF zfk (X.map (ovD zcp))
def zwg(C:List (List (List (List Nat)))):List Nat:=ovD ze4 (C.map znj)
def z1u(C:List (List (List (List Nat)))):List (List Nat):=C.flatMap zqb++ovF ze4 (C.map znj)
def z4o(own:List Nat)(d:List Nat):List Nat:=zca zfp [own,d]
def zqc(own:List Nat)(d:List Nat):List (List Nat):=[zb2 zfp [own,d]]
theorem z1v(X:List (List (List Nat))):zna (znj X):=zni _ _
theorem zj3(C:List (List (List (List Nat)))):zna (zwg C):=zni _ _
end Go.Proofs.Y
namespace Go.Hm
open Go Go.RowKit
end Go.Hm
namespace Go.Proofs.Y
open Go.RowKit Go.Hm
structure TabOwn(w:World)(B:Nat)(Ac:Option Addr)(cc:Nat)(L:List za2)(Ad:Option Addr)(cd:Nat)(D:List zdw):Prop where
 cols:w.ownsRow B 71 3 (.slice Ac L.length cc) L.length (recs zle L)
 data:w.ownsRow B 76 1 (.slice Ad D.length cd) D.length (recs zjl D)
 rows:RowsIn w B D
section
variable{w w':World}{B:Nat}{Ac:Option Addr}{cc:Nat}{L:List za2}{Ad:Option Addr}{cd:Nat}{D:List zdw}
theorem TabOwn.later(h:TabOwn w B Ac cc L Ad cd D)(a:New w w'):TabOwn w' B Ac cc L Ad cd D:=⟨zba h.cols a,zba h.data a,h.rows.later a⟩
theorem TabOwn.far{g:Nat}(h:TabOwn w B Ac cc L Ad cd D)(a:w.grownBy w' (some g))(c:g<B):TabOwn w' B Ac cc L Ad cd D:=
 ⟨qqi h.cols a (.inr (fun e=>by have:=(qqj h.cols _ e).1;omega)),qqi h.data a (.inr (fun e=>by have:=(qqj h.data _ e).1;omega)),
  fun d b=>qqi (h.rows d b) a (.inr (fun e=>by have:=(qqj (h.rows d b) _ e).1;omega))⟩
theorem TabPost.own{a:Int}{r:Int}{C:List (List zab)}{e:Ending}(h:TabPost a L r C w e w'):
 ∃(Ac Ad:Option Addr) (cc cd:Nat) (D:List zdw),e= .returned (.tuple #[.agg #[.slice Ac L.length cc,.int .i64 r,.slice Ad D.length cd],.int .i64 a])/\TabOwn w' w.heap.size Ac cc L Ad cd D/\D.map (·.2.2)=C/\New w w':=by
 obtain⟨Ac,Ad,cc,cd,D,rfl,b,c,d,f,g⟩:=h;exact⟨Ac,Ad,cc,cd,D,rfl,⟨b,c,d⟩,f,g⟩
end
end Go.Proofs.Y
namespace Go.Hm
open Go Go.RowKit
inductive Plan3 where
 |done
 |quiet (i:Nat) (p:Plan3)
 |alone (i:Nat) (p:Plan3)
 |two (i:Nat) (p:Plan3) (j:Nat) (q:Plan3)
 |three (i:Nat) (p:Plan3) (j:Nat) (q:Plan3) (k:Nat) (r:Plan3)
section
variable{P:Program}{ops:Array Oper}{Q:Exit->Act->World->Prop}
def Plan3.ok(ops:Array Oper):Array Bool->Plan3->Bool
 |listed,.done=>(Region.ready .any ops listed).isEmpty
 |listed,.quiet i p=>(Region.ready .any ops listed).contains i&&(Region.free .any ops listed i&&p.ok ops (listed.setIfInBounds i true))
 |listed,.alone i p=>decide (Region.ready .any ops listed=[i])&&p.ok ops (listed.setIfInBounds i true)
 |listed,.two i p j q=>decide (Region.ready .any ops listed=[i,j])&&(p.ok ops (listed.setIfInBounds i true)&&q.ok ops (listed.setIfInBounds j true))
 |listed,.three i p j q k r=>decide (Region.ready .any ops listed=[i,j,k])&&(p.ok ops (listed.setIfInBounds i true)&&(q.ok ops (listed.setIfInBounds j true)&&r.ok ops (listed.setIfInBounds k true)))
def Plan3.size:Plan3->Nat
 | .done=>0
 | .quiet _ p=>p.size+1
 | .alone _ p=>p.size+1
 | .two _ p _ q=>Nat.max p.size q.size+1
 | .three _ p _ q _ r=>Nat.max p.size (Nat.max q.size r.size)+1
def zg0(P:Program)(ops:Array Oper)(R:World->World->Prop)(Q:Exit->Act->World->Prop)(i:Nat)(K:Act->World->Prop)(a:Act)(w:World):Prop:=
 ∃o,ops[i]? =some o/\if Region.wanted o (yielded ops a.tmps) then o.wp P a w (fun a' w'=>R w w'/\K a' w') (NoPanic Q) else K (a.put o.dst undef) w
def zdj(P:Program)(ops:Array Oper)(R:World->World->Prop)(Q:Exit->Act->World->Prop):Plan3->Act->World->Prop
 | .done,a,w=>Q .normal a w
 | .quiet i p,a,w=>∃o v,ops[i]? =some o/\((Region.wanted o (yielded ops a.tmps)=true/\ ∀w',R w w'->(execOp a.eval o).run P w'= .ok (.value v) w')\/(Region.wanted o (yielded ops a.tmps)=false/\v=undef))/\zdj P ops R Q p (a.put o.dst v) w
 | .alone i p,a,w=>zg0 P ops R Q i (zdj P ops R Q p) a w
 | .two i p j q,a,w=>zg0 P ops R Q i (zdj P ops R Q p) a w/\zg0 P ops R Q j (zdj P ops R Q q) a w
 | .three i p j q k r,a,w=>zg0 P ops R Q i (zdj P ops R Q p) a w/\(zg0 P ops R Q j (zdj P ops R Q q) a w/\zg0 P ops R Q k (zdj P ops R Q r) a w)
variable{R:World->World->Prop}
theorem zrp(g:∀w,R w w)(n:∀{x y z},R x y->R y z->R x z)(S:Region.noSelect ops=true):
 ∀(p:Plan3) (fuel:Nat) (b:Array Bool) (a:Act) (w:World),p.size<=fuel->p.ok ops b=true->zdj P ops R Q p a w->wpAnyH P .any ops (NoPanic Q) (R w) fuel b a w:=by
 have f:∀(p:Plan3),(∀(fuel:Nat) (b:Array Bool) (a:Act) (w:World),p.size<=fuel->p.ok ops b=true->zdj P ops R Q p a w->wpAnyH P .any ops (NoPanic Q) (R w) fuel b a w)->
  ∀(j:Nat) (fuel:Nat) (b:Array Bool) (a:Act) (w:World),p.size<=fuel->p.ok ops (b.setIfInBounds j true)=true->zg0 P ops R Q j (zdj P ops R Q p) a w->
   wpOp P ops (NoPanic Q) j (fun E D=>R w D/\wpAnyH P .any ops (NoPanic Q) (R w) fuel (b.setIfInBounds j true) E D) a w:=by
  intro p C j fuel b a w d m B;obtain⟨o,H,B⟩:=B;unfold wpOp;simp only[H];split
  ·rename_i I
   rw[if_pos I] at B;exact .inl (Oper.wp_mono (fun E D G=>⟨G.1,zie (fun z U=>n G.1 U) fuel _ E D (C fuel _ E D d m G.2)⟩) B)
  ·rename_i I
   rw[if_neg I] at B;exact⟨g w,C fuel _ _ w d m B⟩
 intro p;induction p with
 |done=>
  intro fuel b a w _ c h;exact wpAnyH_done (by simpa[Plan3.ok] using c) (qwm h) fuel
 |quiet i p C=>
  intro fuel b a w d c h;obtain⟨fuel,rfl⟩:∃k,fuel=k+1:=⟨fuel-1,by simp[Plan3.size] at d;omega⟩;obtain⟨o,v,H,T,O⟩:=h;simp only[Plan3.ok,qsl] at c;obtain⟨s,K,m⟩:=c;exact wpAnyH_take H S K s (fun _ _ _ N=>N) T (g w) (C fuel _ _ w (by simp[Plan3.size] at d;omega) m O)
 |alone i p C=>
  intro fuel b a w d c h;obtain⟨fuel,rfl⟩:∃k,fuel=k+1:=⟨fuel-1,by simp[Plan3.size] at d;omega⟩;simp only[Plan3.ok,qsl,decide_eq_true_eq] at c;obtain⟨s,m⟩:=c;refine wpAnyH_all s (by simp) ?_;intro j M;obtain rfl:j=i:=by simpa using M
  exact f p C j fuel b a w (by simp[Plan3.size] at d;omega) m h
 |two i p j q u A=>
  intro fuel b a w d c h;obtain⟨fuel,rfl⟩:∃k,fuel=k+1:=⟨fuel-1,by simp[Plan3.size] at d;omega⟩;simp only[Plan3.ok,qsl,decide_eq_true_eq] at c;obtain⟨s,m,F⟩:=c;have e:Nat.max p.size q.size<=fuel:=by simp[Plan3.size] at d;exact d
  refine wpAnyH_all s (by simp) ?_;intro k t;have t:k=i\/k=j:=by simpa using t
  rcases t with rfl|rfl
  ·exact f p u k fuel b a w (qqs (qv5 _ _) e) m h.1
  ·exact f q A k fuel b a w (qqs (qv6 _ _) e) F h.2
 |three i p j q l r u A J=>
  intro fuel b a w d c h;obtain⟨fuel,rfl⟩:∃k,fuel=k+1:=⟨fuel-1,by simp[Plan3.size] at d;omega⟩;simp only[Plan3.ok,qsl,decide_eq_true_eq] at c;obtain⟨s,m,F,L⟩:=c;have e:Nat.max p.size (Nat.max q.size r.size)<=fuel:=by simp[Plan3.size] at d;exact d
  refine wpAnyH_all s (by simp) ?_;intro k t;have t:k=i\/k=j\/k=l:=by simpa using t
  rcases t with rfl|rfl|rfl
  ·exact f p u k fuel b a w (qqs (qv5 _ _) e) m h.1
  ·exact f q A k fuel b a w (qqs (qqs (qv5 _ _) (qv6 _ _)) e) F h.2.1
  ·exact f r J k fuel b a w (qqs (qqs (qv6 _ _) (qv6 _ _)) e) L h.2.2
theorem zrq{g:Nat}{a:Act}{w:World}(R:World->World->Prop)(p:Plan3)(c:∀w,R w w)(b:∀{x y z},R x y->R y z->R x z)(hm:P.follows .mixedOrders=true)
 (f:Region.noSelect ops=true)(e:decide (p.size<=ops.size)=true)(d:p.ok ops (Array.replicate ops.size false)=true)(h:zdj P ops R Q p a w.drew):(Code.region g ops true).wp P Q a w:=
 wp_region_noPanic (wp_region_held hm (zrp c b f p ops.size _ a _ (by simpa using e) d h))
variable{i j:Nat}{p q:Plan3}{a:Act}{w:World}{v:Value}
theorem zty(h:Q .normal a w):zdj P ops R Q .done a w:=h
section
variable{dst:Option Tmp}{op:Op}{ty:TypeId}{pos:String}{af:Array Edge}{gd:Option (Nat × Bool)}
theorem zlq(b:ops[i]? =some ⟨dst,op,ty,pos,af,gd⟩)(d:Region.wanted ⟨dst,op,ty,pos,af,gd⟩ (yielded ops a.tmps)=true)(c:∀w',R w w'->(execOp a.eval ⟨dst,op,ty,pos,af,gd⟩).run P w'= .ok (.value v) w')(h:zdj P ops R Q p (a.put dst v) w):zdj P ops R Q (.quiet i p) a w:=
 ⟨_,v,b,.inl ⟨d,c⟩,h⟩
theorem zkq{b:Act->World->Prop}(e:ops[i]? =some ⟨dst,op,ty,pos,af,gd⟩)(f:Region.wanted ⟨dst,op,ty,pos,af,gd⟩ (yielded ops a.tmps)=true)(h:∀K:Act->World->Prop,(∀a' w',R w w'->b a' w'->K a' w')->Oper.wp P ⟨dst,op,ty,pos,af,gd⟩ a w K (NoPanic Q)):zg0 P ops R Q i b a w:=
 ⟨_,e,by rw[if_pos f];exact h _ fun _ _ c d=>⟨c,d⟩⟩
theorem zi2(h:zg0 P ops R Q i (zdj P ops R Q p) a w):zdj P ops R Q (.alone i p) a w:=h
theorem qcj(h:zg0 P ops R Q i (zdj P ops R Q p) a w)(b:zg0 P ops R Q j (zdj P ops R Q q) a w):zdj P ops R Q (.two i p j q) a w:=⟨h,b⟩
end
end
end Go.Hm
namespace Go.Proofs.Y
open Go Go.RowKit Go.Hm
def fz:FootS:=⟨[],0,[]⟩
theorem qnz:zbs fz:=⟨(zdv []).1 (by decide),by simp[fz],by simp[fz],by simp[fz],by simp[fz]⟩
end Go.Proofs.Y
namespace Go.Hm
open Go Go.RowKit
theorem zyo{w:World}{g n sz:Nat}{e:TypeId}{xs:List Value}(h:Blk w g e xs.toArray)(a:xs.length=n*sz)(hm:n<=maxLen):w.ownsRow g e sz (.slice (some ⟨g,0,none⟩) n n) n xs:=
 ⟨a,.inr ⟨g,n,xs.toArray,rfl,qq0 _,h,qq0 _,hm,by simpa using a,by rw[qru (by simp[a])]⟩⟩
end Go.Hm
namespace Go.Proofs.Y
open Go.RowKit Go.Hm
structure DataF(w:World)(A:Option Addr)(D:List zju)(T:List Nat):Prop where
 row:Reads w w.heap.size 1 A D.length (recs zjb D)
 far:0<D.length-> ∀ad,A=some ad->ad.block∉T
 at_:∀d∈D,BytIn w d/\(0<d.2.2.length-> ∀ad,d.1=some ad->ad.block∉T)/\d.2.2.length<=d.2.1/\d.2.1<=9223372036854775807/\(∀x∈d.2.2,x<256)/\d.2.2.length<=9000000
theorem DataF.turn{w w':World}{A:Option Addr}{D:List zju}{T T':List Nat}(h:DataF w A D T)(k:Turns T w w')(l:∀x,x<w.heap.size->x∉T->x∉T'):DataF w' A D T':=by
 refine⟨zhs h.row k h.far,fun b c a=>?_,fun d q=>?_⟩
 ·obtain⟨f,e,g,_⟩:=h.row.2 b
  rw[a] at e;injection e with e;subst e;exact l _ g (h.far b c a)
 ·obtain⟨i,j,m,n,o,p⟩:=h.at_ d q
  refine⟨zhs i k j,fun b c a=>?_,m,n,o,p⟩;obtain⟨f,e,g,_⟩:=i.2 b;rw[a] at e;injection e with e;subst e;exact l _ g (j b c a)
theorem LogOf.keepB{t u:TypeId}{w w':World}{base g x:Nat}{V:Value}{L:List (List Nat)}{cs:Array Value}(h:LogOf t w base g V L)(B:Blk w x u cs)(d:t≠u)(f:24≠u)(i:5≠u)(k:w.grownBy w' (some x)):LogOf t w' base g V L:=by
 have b:=h.notT B d f;refine h.turn (T:=[x]) (qxf k (by simp)) (fun l=>?_) (fun y a e=>?_) (fun y a _ c j=>?_)
 ·obtain rfl:=qr6.1 l
  exact b (by simp)
 ·obtain rfl:=qr6.1 a
  exact b (quq _ (z1s e))
 ·obtain rfl:=qr6.1 a
  exact qw2 j B i rfl
theorem Turns.behind{w b c:World}{T:List Nat}{x:Nat}(h:Turns T w b)(k:b.grownBy c (some x))(f:w.heap.size<=x):Turns T w c:=
 ⟨k.os.trans h.os,k.tape.trans h.tape,k.output.trans h.output,qqs h.size k.size,fun i a d=>(k.block i (qqv a h.size) (fun e=>by injection e with e;omega)).trans (h.block i a d)⟩
def z7c:List Value:=List.replicate 32 (.int .u8 0)
def qpl(w:World)(base g go:Nat)(V:Value)(F:List (List Nat))(s:List Nat)(Dl:List (List Nat))(k:Nat)(W:World):Prop:=
 ∃V',LogOf tL W base g V' (F++qdv s Dl k)/\(V'.ownBlock=V.ownBlock\/ ∃h,V'.ownBlock=some h/\w.heap.size<=h)/\Turns (g::zbt V) w W/\Blk W go tD (recs zi6 (z4n s Dl k)++(List.replicate (Dl.length-k) z7c).flatten).toArray
theorem zt1{w:World}{base g:Nat}{V:Value}{F:List (List Nat)}(hL:LogOf tL w base g V F)(B:base<=w.heap.size){s:List Nat}{A:Option Addr}{c:Nat}{D:List zju}(G:∀x∈s,x<256)(hs:s.length<=140737488351232)(hD:DataF w A D (g::zbt V))(hF:F.length+D.length<=9000000)(hC:∀w',Turns (g::zbt V) w w'->ConstIn w'):
 Calls Tryz.prog 10 #[.pointer (some ⟨g,0,none⟩),.string (zaf s),.slice A D.length c] w (z3r (lvD s (D.map (·.2.2))) base g V (F++lvF s (D.map (·.2.2))) w):=by
 obtain⟨a,p⟩:∃a,a=D.map (·.2.2):=⟨_,rfl⟩;rw[<-p];have C:a.length=D.length:=by rw[p,qtl]
 have M:=qwk hD;have O:=qwk hL;have L:=qwk hC;have HB:=qwk B;have N:=qwk p;have o:=qwk (qtc G hs);have b:=qwk C;clear hD hL hC B p G hs C;go_enter Tryz.func10,Tryz.ntmps10
 go_wp2_with (refine z7b elD (by simp) rfl (.tmp 11) (.tmp 11) rfl D.length rfl rfl rfl rfl (by omega) (by simp only[maxLen];omega) ?_
              intro w1 h n1 z1)
 have b:=b;have I:qpl w base g w.heap.size V F s a 0 w1:=by
  refine⟨V,by simpa[qdv] using O.out.new n1,.inl rfl,qxe n1,?_⟩;have e:recs zi6 (z4n s a 0)++(List.replicate (a.length-0) z7c).flatten=(List.replicate D.length (Array.replicate 32 (Value.int .u8 0)).toList).flatten:=by rw[b.out];simp[z4n,recs,z7c]
  rw[e];exact h
 have I:=qwk I;have HF:=hF;clear h z1 n1;go_wp2_with fail
 go_loopw [15] (fun i wr=>∃k:Nat,k<=D.length/\i= .int .i64 (k:Int)/\Hid (qpl w base g w.heap.size V F s a k wr)) (fun i _=>D.length-(intOf i).toNat)
 case atStart=>exact⟨0,qq1 _,rfl,I⟩
 case round=>
  obtain⟨k,hk,rfl,H⟩:=hrel;clear I;by_cases r:k<D.length
  ·obtain⟨Q,t,m,l,h⟩:=H.out
   have v:=M.out.turn l (T':=g::zbt Q) (fun x hx hm=>zue hm hx m);obtain⟨ad,rfl,hb,hc⟩:=qbo v.row r;obtain⟨p1,p2,p3,p4,p5,p6⟩:=v.at_ _ (zdt (none,0,[]) r);have E:(F++qdv s a k).length<=10000000:=by have:=qex s a k;rw[qrp];omega
   have hg:a.getD k []=(D.getD k (none,0,[])).2.2:=by rw[N.out,qsh,qtk,qqt r,qsh,qqt r];rfl
   have z:=z1p (k:=(k:Int)) (n:=(D.length:Int)) (s:=s) t (qqs HB.out l.size) E o.out.1 o.out.2 p1 p5 p6 p3 p4 (fun w' q=>L.out w' (zbw l m q));rw[zlb] at z;have T:=z8y s a k;have U:=zwf s a k;rw[b.out,hg] at T U;have J:=qwk T;have K:=qwk U;clear hg;generalize D.getD k (none,0,[])=d at*;obtain⟨da,dc,S⟩:=d;dsimp only at hc z J K;have j:=zcg s (leafP (k:Int) (D.length:Int) S);have a0:(k:Int)<(D.length:Int):=by omega
   generalize zca s (leafP (k:Int) (D.length:Int) S)=Y at*;generalize(za9 s (leafP (k:Int) (D.length:Int) S)).toList=fr at*;have z:=qwk z;have h:=qwk h;have t:=qwk t;have l:=qwk l;have m:=qwk m;have j:=qwk j;clear v hb p1 p2 p3 p4 p5 p6 E T U;go_wp2_with fail
   refine z.out.mono ?_;rintro e w2 ⟨rfl,V2,l2,a2,t2⟩;have y:=h.out.touch t2 (t.out.notT h.out (by decide) (by decide));have e4:D.length-k=(D.length-(k+1))+1:=by omega
   rw[b.out,e4,qs0,qvg] at y;have Z:(recs zi6 (z4n s a k)).length=k*32:=by rw[zaw (sz:=32) zft,qew]
   have X:=qwk t;have y:=qwk y;clear z h e4
   go_wp2_with (refine zvr rfl tD (.tmp 29) (.tmp 28) rfl w.heap.size (zar .u8 Y).toArray rfl rfl y.out Z (by simp[z7c,zar,j.out.1]) (qkf j.out.1) (z4i _) ?_
                intro W3 B3 W z3)
   have u:qpl w base g w.heap.size V F s a (k+1) W3:=by
    refine⟨V2,?_,zgq l.out.size m.out a2,Turns.behind (zbw l.out m.out t2) W (qq0 _),?_⟩
    ·rw[K.out,<-qrc]
     exact l2.keepB y.out (by decide) (by decide) (by decide) W
    ·have e5:recs zi6 (z4n s a (k+1))++(List.replicate (a.length-(k+1)) z7c).flatten=recs zi6 (z4n s a k)++((zar .u8 Y).toArray.toList++(List.replicate (D.length-(k+1)) z7c).flatten):=by
      rw[J.out,b.out,zbe,qrc];congr 2
      show zi6 Y++[]=_;rw[qra,zzd j.out.1]
     rw[e5];exact B3
   have u:=qwk u;clear H M O L o l2 a2 t2 y B3 W z3 X l m J K;go_wp2_with fail
   go_roundw
   case rel=>exact⟨k+1,by omega,by go_num,u⟩
   case measure=>simp[intOf];omega
  ·obtain rfl:k=D.length:=by omega
   obtain⟨Q,t,m,l,h⟩:=H.out;have f:(lvD s a).length=D.length:=by rw[znh,b.out]
   have e6:z4n s a D.length=lvD s a:=by unfold z4n lvD;rw[b.out]
   have e7:qdv s a D.length=lvF s a:=by unfold qdv lvF;rw[b.out]
   rw[b.out,qsz,qup,qv0,qra,e6] at h;rw[e7] at t;have R:=zyo (n:=(lvD s a).length) (sz:=32) h (by rw[zaw (sz:=32) zft]) (by rw[f];simp only[maxLen];omega);have R:=qwk R;have P:=qwk (qtc t (qtc m l));have f:=qwk f;clear H M O L o h t m l e6 e7;go_wp2_with fail
   go_ret
   exact⟨_,rfl,by have:=R.out;rw[f.out] at this⊢;exact this,Q,P.out.1,P.out.2.1,P.out.2.2⟩
theorem RestIn.keep{w W d:World}{g a:Nat}{V:Value}{R:List (List Nat)}(h:RestIn w g V a R W)(k:∀cs,Blk W a tS cs->Blk d a tS cs):RestIn w g V a R d:=by obtain⟨A,c,b,r⟩:=h;exact⟨A,c,k _ b,r⟩
end Go.Proofs.Y
namespace Go.Hm
open Go Go.RowKit
abbrev qma:List Nat:=[112,97,103,101]
def dA:List Nat:=zca qma (leafP 0 2 [120])
end Go.Hm
namespace Go.Proofs.Y
open Go.RowKit Go.Hm
theorem zyr(W:World)(a:ConstIn W):Calls Tryz.prog 31 #[.string ⟨#[110,111,110,101]⟩,.slice none 0 0] W (zap (dV (zca zbz [])) W):=by have h:=z1n (s:=zbz) (z8v W) (by omega) (by decide) (by decide) (by simp[bytesOf,zik]) (by simp[bytesOf]) a;rw[show bytesOf []=[] from rfl,zlb] at h;exact h
theorem LogOf.made(w:World)(base:Nat):LogOf tL (w.alloc (.cells #[.slice none 0 0] 86)) base w.heap.size (.slice none 0 0) []:=⟨none,0,0,[],rfl,qw1 _ _ _,qw0,(fun _ a=>nomatch a),rfl⟩
def LogSk(w:World)(g:Nat)(W:World)(F:List (List Nat)):Prop:=∃V,LogOf tL W w.heap.size g V F/\New w W
theorem LogSk.new{w W a:World}{g:Nat}{F:List (List Nat)}(h:LogSk w g W F)(n:New W a):LogSk w g a F:=by obtain⟨V,l,b⟩:=h;exact⟨V,l.new n,qw5 b n⟩
theorem LogSk.news{w W:World}{g:Nat}{F:List (List Nat)}(h:LogSk w g W F):New w W:=h.elim fun _ h=>h.2
def DigsIn(w W:World)(A:Option Addr)(L:List (List Nat)):Prop:=
 Digs L/\(Reads w w.heap.size 32 A L.length (recs zi6 L)\/(Reads W W.heap.size 32 A L.length (recs zi6 L)/\(0<L.length-> ∀ad,A=some ad-> ∃cs,Blk W ad.block tD cs)))
theorem DigsIn.keep{w W d:World}{A:Option Addr}{L:List (List Nat)}(h:DigsIn w W A L)(k:KeepC W d):DigsIn w d A L:=by
 refine⟨h.1,h.2.imp id fun⟨r,b⟩=>⟨⟨r.1,fun c=>?_⟩,fun c a m=>?_⟩⟩
 ·obtain⟨a,e,p,n⟩:=r.2 c
  obtain⟨i,B⟩:=b c a e;have f:=k.2 _ _ _ (by decide) (by decide) B;refine⟨a,e,f.lt,fun j u o=>?_⟩;have l:d.heap[(a.add j).block]? =W.heap[(a.add j).block]? :=by rw[zam];exact Eq.trans f (Eq.symm B)
  rw[World.cell?_of_block l];exact n j u o
 ·obtain⟨i,B⟩:=b c a m
  exact⟨i,k.2 _ _ _ (by decide) (by decide) B⟩
theorem DigsIn.arg{w W:World}{A:Option Addr}{L:List (List Nat)}(a:Digs L)(h:Reads w w.heap.size 32 A L.length (recs zi6 L)):DigsIn w W A L:=⟨a,.inl h⟩
theorem DigsIn.nil(w W:World):DigsIn w W none []:=⟨(fun _ h=>nomatch h),.inl qwy⟩
theorem DigsIn.row{w W:World}{B n c:Nat}{A:Option Addr}{L:List (List Nat)}(i:Digs L)(h:W.ownsRow B tD 32 (.slice A n c) n (recs zi6 L))(k:n=L.length):DigsIn w W A L:=by
 subst k;refine⟨i,.inr ⟨qwz h,fun q m f=>?_⟩⟩;subst f;rcases h.2 with⟨e,r⟩|⟨g,d,a,l,_,j,_⟩
 ·omega
 ·injection l with b o p
  injection b with b;subst b;exact⟨a,j⟩
theorem DigsIn.lit{w W:World}{b:Nat}{L:List (List Nat)}{cs:Array Value}(d:Digs L)(h:Blk W b tD cs)(c:cs=(recs zi6 L).toArray):DigsIn w W (some ⟨b,0,none⟩) L:=by
 subst c;refine⟨d,.inr ⟨⟨zaw (sz:=32) zft L,fun _=>⟨_,rfl,h.lt,?_⟩⟩,fun _ e a=>?_⟩⟩
 ·have:=qwe h
  simpa using this
 ·injection a with a
  subst a;exact⟨_,h⟩
theorem z3y{w:World}{B c d hi:Nat}{A:Option Addr}{L:List (List Nat)}(h:Reads w B 32 A L.length (recs zi6 L))(i:d<=hi)(e:hi<=L.length)(f:L.length<=c):Reads w B 32 (if c=d then A else A.map (·.add (d*32))) (sl L d hi).length (recs zi6 (sl L d hi)):=by have a:=h.cut (k:=d) (cap:=c) (by omega) f;rw[zpz (sz:=32) zft L d (by omega)] at a;have b:=a.take (k:=hi-d) (by omega);rw[zjd (sz:=32) zft _ _ (by rw[qqw];omega)] at b;rw[qje e];exact b
theorem DigsIn.sl{w W:World}{A:Option Addr}{L:List (List Nat)}(h:DigsIn w W A L){e hi c:Nat}(i:e<=hi)(f:hi<=L.length)(j:L.length<=c):DigsIn w W (if c=e then A else A.map (·.add (e*32))) (sl L e hi):=by
 refine⟨h.1.sl e hi,h.2.imp (fun r=>z3y r i f j) fun⟨r,b⟩=>⟨z3y r i f j,fun l k d=>?_⟩⟩;rw[qje f] at l;split at d
 ·exact b (by omega) k d
 ·cases A with
  |none=>cases d
  |some a=>
   simp only[qtw,qqh] at d;rw[<-d,zam];exact b (by omega) a rfl
theorem DigsIn.take{w W:World}{A:Option Addr}{L:List (List Nat)}(h:DigsIn w W A L){k:Nat}(a:k<=L.length):DigsIn w W A (L.take k):=by
 have d:(L.take k).length=k:=by rw[qqx];omega
 have c:∀{W:World} {B:Nat},Reads W B 32 A L.length (recs zi6 L)->Reads W B 32 A (L.take k).length (recs zi6 (L.take k)):=fun r=>by have:=r.take a;rw[zjd (sz:=32) zft L k a] at this;rwa[d]
 exact⟨h.1.take k,h.2.imp (fun r=>c r) fun⟨r,b⟩=>⟨c r,fun e=>b (by omega)⟩⟩
section
variable{w W:World}{g:Nat}{F:List (List Nat)}
def PrPost(w:World)(g:Nat)(F P:List (List Nat))(W:World)(e:Ending)(W':World):Prop:=∃A c,e= .returned (.slice A P.length c)/\P.length<=c/\c<=9223372036854775807/\DigsIn w W' A P/\LogSk w g W' F/\KeepC W W'
end
theorem PrPost.u{w:World}{g:Nat}{F P:List (List Nat)}{W:World}{e:Ending}{a:World}(h:PrPost w g F P W e a):∃A c,e= .returned (.slice A P.length c)/\P.length<=c/\c<=9223372036854775807/\DigsIn w a A P/\LogSk w g a F/\KeepC W a:=h
end Go.Proofs.Y
