/- Merged. -/
import Derived.Test.YtbahbnbpmfgimaaGreatDoorBun29
import Derived.Test.YtbahbnbpmfgimaaGreatDoorBun30
import Derived.Test.YtbahbnbpmfgimaaGreatDoorBun31
set_option maxHeartbeats 200000
namespace Go.Hm
open Go Go.RowKit
theorem zzo{k n:Int}{d:List Nat}(h:∀x∈d,x<256):∀p∈leafP k n d,∀x∈p,x<256:=by
 intro p hp;unfold leafP at hp;simp only[List.mem_cons,List.not_mem_nil,or_false] at hp;rcases hp with rfl|rfl|rfl
 ·exact zg0 _ _
 ·exact zg0 _ _
 ·exact h
end Go.Hm
namespace Go.Proofs.Y
open Go.RowKit Go.Hm
theorem z51{a b:List Nat}(ha:zlr a)(hb:zlr b):∀f,za4 zcl [a,b]=some f->(∀x∈f,x<256)/\f.length<=10000000:=fun f hf=>
 ⟨zf3 (by decide) (by intro p hp;simp at hp;rcases hp with rfl|rfl;exact ha.2;exact hb.2) hf,ze1 hf (by simp[zhq,ha.1,hb.1])⟩
theorem z13{L:List (List Nat)}(h:Digs L):GoodF (zcw L).2:=by
 intro f hf;by_cases h0:L.length=0
 ·obtain rfl:=List.eq_nil_of_length_eq_zero h0
  rw[zih] at hf;obtain rfl:=List.mem_singleton.1 hf;exact⟨zf3 (by decide) (by simp) zlz,ze1 zlz (by simp[zhq])⟩
 ·obtain⟨a,b,ha,hb,e⟩:=(zhp L h (by omega)).2 f hf
  exact z51 ha hb f e
theorem GoodF.app{F G:List (List Nat)}(h:GoodF F)(k:GoodF G):GoodF (F++G):=fun p hp=>(List.mem_append.1 hp).elim (h p) (k p)
set_option maxRecDepth 100000 in
theorem qjr{a b:List Nat}(ha:zlr a)(hb:zlr b)(W:World):(binOp .eql 35 (dV a) (dV b)).run Tryz.prog W= .ok (.bool (decide (a=b))) W:=by
 have h:=zok (P:=Tryz.prog) (k:= .u8) zcd (by kernel_rfl) (by kernel_rfl) (by kernel_rfl) (by kernel_rfl) (a.map fun n:Nat=>(n:Int)) (b.map fun n:Nat=>(n:Int)) (by simp[ha.1]) (by simp[hb.1]) W;have e:((a.map fun n:Nat=>(n:Int))==(b.map fun n:Nat=>(n:Int)))=decide (a=b):=by
  rw[Bool.eq_iff_iff];simp only[beq_iff_eq,decide_eq_true_eq];constructor
  ·intro h
   have:=congrArg (List.map Int.toNat) h;simpa[List.map_map,Function.comp_def] using this
  ·rintro rfl;rfl
 rw[e] at h;simpa[dV,zao,za0,List.map_map,Function.comp_def] using h
set_option maxRecDepth 100000 in
theorem zgm{d:List Nat}(h:zlr d):∃cs:Array Value,dV d= .agg cs/\(Tryz.prog.info? 35).map (·.size)=some cs.size/\(za0 .u8 zat).toArray.size=cs.size/\cs.all (·.oneCell')=true/\cs=(zao .u8 d).toArray:=by refine⟨(zao .u8 d).toArray,rfl,qfz h.1,by simp[za0,zao,zat,h.1],z1y _,rfl⟩
section
variable{ops:Array Oper}{rest:List Oper}{o:Oper}{a:Act}{Q:Exit->Act->World->Prop}
set_option maxRecDepth 100000 in
theorem zc8(hw:Region.wanted o (yielded ops a.tmps)=true){w:World}(x:Operand)(ho:o.op= .load 35 x)(g:Nat)(cs:Array Value)(hx:a.eval x= .pointer (some ⟨g,0,none⟩))(B:Blk w g 35 cs)(hi:(Tryz.prog.info? 35).map (·.size)=some cs.size)
 (h:wpList Tryz.prog ops Q rest (a.put o.dst (.agg cs)) w):wpList Tryz.prog ops Q (o::rest) a w:=
 wpList_step fun K hK=>by simp only[hw,if_true];unfold Oper.wp execOp;simp only[ho,hx,Instr.loadAt,Instr.sureAddr,Sem.run_bind,Sem.run_pure,Result.andThen_ok,run_loadVar_row w g 35 35 cs (0,0) _ B zcd (by simp) hi];exact hK _ _ h
end
theorem LogOf.beside{t u:TypeId}(ht:24≠t)(hu:24≠u)(hu8:u≠5){w w':World}{base base' g g':Nat}{V V':Value}{L L':List (List Nat)}(h:LogOf t w base g V L)(h':LogOf u w base' g' V' L')(hne:g≠g')(hd:∀x∈zbm V',V.ownBlock≠some x)(k:Turns (g'::zbm V') w w'):LogOf t w' base g V L:=by
 refine h.turn k (fun hx=>?_) (fun x hx=>?_) (h'.noB hu8)
 ·rcases List.mem_cons.1 hx with e|hx
  ·exact hne e
  ·obtain⟨A,n,c,D,rfl,h1,h2,_⟩:=h
   obtain⟨A',n',c',D',rfl,h1',h2',_⟩:=h';exact ze2 h2' h1 ht hx
 ·rcases List.mem_cons.1 hx with rfl|hx
  ·obtain⟨A,n,c,D,rfl,h1,h2,_⟩:=h
   obtain⟨A',n',c',D',rfl,h1',h2',_⟩:=h';exact h2.blk_ne h1' hu
  ·exact hd x hx
theorem z14{w:World}{V V1 V':Value}(h:∀x∈zbm V',V.ownBlock≠some x)(hl:∀x∈zbm V',x<w.heap.size)(a:V1.ownBlock=V.ownBlock\/ ∃h,V1.ownBlock=some h/\w.heap.size<=h):∀x∈zbm V',V1.ownBlock≠some x:=fun x hx e=>by
 rcases a with a|⟨h1,a1,a2⟩
 ·exact h x hx (a▸e)
 ·rw[a1] at e
  injection e with e;have:=hl x hx;omega
theorem zq2{V V':Value}(h:∀x∈zbm V',V.ownBlock≠some x):∀x∈zbm V,V'.ownBlock≠some x:=fun x hx e=>by
 have hv:V.ownBlock=some x:=by
  unfold zbm at hx;cases hq:V.ownBlock with
  |none=>rw[hq] at hx;simp at hx
  |some y=>rw[hq] at hx;simp at hx;rw[hx]
 exact h x (zzn e) hv
theorem Digs.at_{L:List (List Nat)}(h:Digs L){k:Nat}(hk:k<L.length):zlr (L.getD k []):=h _ (zfp hk)
def LogSt(w:World)(g:Nat)(W:World)(F:List (List Nat))(K:List (Nat × Array Value)):Prop:=
 ∃V,LogOf tL W w.heap.size g V F/\New w W/\ ∀p∈K,Blk W p.1 35 p.2
theorem LogSt.new{w W W':World}{g:Nat}{F:List (List Nat)}{K:List (Nat × Array Value)}(h:LogSt w g W F K)(n:New W W'):LogSt w g W' F K:=by obtain⟨V,l,b,k⟩:=h;exact⟨V,l.new n,New.trans b n,fun p hp=>(k p hp).below n (k p hp).lt⟩
theorem LogSt.news{w W:World}{g:Nat}{F:List (List Nat)}{K:List (Nat × Array Value)}(h:LogSt w g W F K):New w W:=h.elim fun _ h=>h.2.1
theorem LogSt.blk{w W:World}{g:Nat}{F:List (List Nat)}{K:List (Nat × Array Value)}(h:LogSt w g W F K){b:Nat}{cs:Array Value}(hp:(b,cs)∈K):Blk W b 35 cs:=h.elim fun _ h=>h.2.2 _ hp
theorem LogSt.add{w W:World}{g:Nat}{F:List (List Nat)}{K:List (Nat × Array Value)}(h:LogSt w g W F K)(cs:Array Value):LogSt w g (W.alloc (.cells cs 35)) F ((W.heap.size,cs)::K):=by
 obtain⟨V,l,b,k⟩:=h.new (zah W (.cells cs 35));refine⟨V,l,b,fun p hp=>?_⟩;rcases List.mem_cons.1 hp with rfl|hp
 ·exact Blk.new _ _ _
 ·exact k p hp
open Go Go.RowKit Go.Hm
def zcg:List Nat:=[112,97,103,101]
def zew:List Nat:=[99,104,117,110,107]
def zei:List Nat:=[103,114,111,117,112]
def ze3:List Nat:=[102,105,108,101]
def lvD(s:List Nat)(D:List (List Nat)):List (List Nat):=(List.range D.length).map fun(k:Nat)=>zb2 s (leafP (k:Int) (D.length:Int) (D.getD k []))
def lvF(s:List Nat)(D:List (List Nat)):List (List Nat):=(List.range D.length).flatMap fun(k:Nat)=>(za4 s (leafP (k:Int) (D.length:Int) (D.getD k []))).toList
theorem zl0(s:List Nat)(D:List (List Nat)):(lvD s D).length=D.length:=by simp[lvD]
theorem zxf(s:List Nat)(D:List (List Nat)):(lvF s D).length<=D.length:=by
 unfold lvF;have:∀n,((List.range n).flatMap fun(k:Nat)=>(za4 s (leafP (k:Int) (D.length:Int) (D.getD k []))).toList).length<=n:=fun n=>by
  induction n with
  |zero=>simp
  |succ n ih=>
   rw[List.range_succ,List.flatMap_append,List.length_append];have:(([n].flatMap fun(k:Nat)=>(za4 s (leafP (k:Int) (D.length:Int) (D.getD k []))).toList)).length<=1:=by simp only[List.flatMap_cons,List.flatMap_nil,List.append_nil];cases za4 s (leafP (n:Int) (D.length:Int) (D.getD n []))<;> simp
   omega
 exact this D.length
def z15(s:List Nat)(D:List (List Nat))(k:Nat):List (List Nat):=(List.range k).map fun(i:Nat)=>zb2 s (leafP (i:Int) (D.length:Int) (D.getD i []))
def qaa(s:List Nat)(D:List (List Nat))(k:Nat):List (List Nat):=(List.range k).flatMap fun(i:Nat)=>(za4 s (leafP (i:Int) (D.length:Int) (D.getD i []))).toList
theorem qba(s:List Nat)(D:List (List Nat))(k:Nat):(z15 s D k).length=k:=by simp[z15]
theorem z52(s:List Nat)(D:List (List Nat))(k:Nat):z15 s D (k+1)=z15 s D k++[zb2 s (leafP (k:Int) (D.length:Int) (D.getD k []))]:=by unfold z15;rw[List.range_succ,List.map_append];rfl
theorem zuk(s:List Nat)(D:List (List Nat))(k:Nat):qaa s D (k+1)=qaa s D k++(za4 s (leafP (k:Int) (D.length:Int) (D.getD k []))).toList:=by unfold qaa;rw[List.range_succ,List.flatMap_append];simp
theorem qbb(s:List Nat)(D:List (List Nat))(k:Nat):(qaa s D k).length<=k:=by
 induction k with
 |zero=>simp[qaa]
 |succ k ih=>
  rw[zuk,List.length_append];have:(za4 s (leafP (k:Int) (D.length:Int) (D.getD k []))).toList.length<=1:=by cases za4 s (leafP (k:Int) (D.length:Int) (D.getD k []))<;> simp
  omega
theorem zhr(s:List Nat)(D:List (List Nat)):Digs (lvD s D):=by intro d hd;unfold lvD at hd;obtain⟨k,_,rfl⟩:=List.mem_map.1 hd;exact zb7 _ _
def ovD(s:List Nat)(D:List (List Nat)):List Nat:=(zcw (lvD s D)).1
def ovF(s:List Nat)(D:List (List Nat)):List (List Nat):=lvF s D++(zcw (lvD s D)).2
theorem zl1(s:List Nat)(D:List (List Nat)):zlr (ovD s D):=zdn _ (zhr s D)
theorem zsj(s:List Nat)(D:List (List Nat)):(ovF s D).length<=2*D.length+1:=by have h1:=zxf s D;have h2:=z50 (zhr s D);have h3:=zl0 s D;unfold ovF;rw[List.length_append];omega
def zl2(X:List (List (List Nat))):List Nat:=ovD zew (X.map (ovD zcg))
def zon(X:List (List (List Nat))):List (List Nat):=X.flatMap (ovF zcg)++ovF zew (X.map (ovD zcg))
def zul(C:List (List (List (List Nat)))):List Nat:=ovD zei (C.map zl2)
def zzp(C:List (List (List (List Nat)))):List (List Nat):=C.flatMap zon++ovF zei (C.map zl2)
def z16(own:List Nat)(d:List Nat):List Nat:=zb2 ze3 [own,d]
def zoo(own:List Nat)(d:List Nat):List (List Nat):=[zbv ze3 [own,d]]
theorem zzq(X:List (List (List Nat))):zlr (zl2 X):=zl1 _ _
theorem zi5(C:List (List (List (List Nat)))):zlr (zul C):=zl1 _ _
end Go.Proofs.Y
namespace Go.Hm
open Go Go.RowKit
def szL(l:List za2):Nat:=(l.map fun p=>p.1.toNat).sum
def szC(C:List (List za2)):Nat:=(C.map szL).sum
def szG(G:List za1):Nat:=(G.map fun g=>szC g.2).sum
def z28:List za2->List Nat->List (List Nat)
 | [],_=>[]
 |p::l,x=>x.take p.1.toNat::z28 l (x.drop p.1.toNat)
def zcb:List (List za2)->List Nat->List (List (List Nat))
 | [],_=>[]
 |l::C,x=>z28 l x::zcb C (x.drop (szL l))
def zet:List za1->List Nat->List (List (List (List Nat)))
 | [],_=>[]
 |g::G,x=>zcb g.2 x::zet G (x.drop (szC g.2))
theorem zlc(p:za2)(l:List za2):szL (p::l)=p.1.toNat+szL l:=by simp[szL]
theorem zld(l:List za2)(C:List (List za2)):szC (l::C)=szL l+szC C:=by simp[szC]
theorem zle(g:za1)(G:List za1):szG (g::G)=szC g.2+szG G:=by simp[szG]
theorem zji:∀(l:List za2) (x:List Nat),(z28 l x).length=l.length
 | [],_=>rfl
 |p::l,x=>by simp[z28,zji l]
theorem zlf:∀(C:List (List za2)) (x:List Nat),(zcb C x).length=C.length
 | [],_=>rfl
 |l::C,x=>by simp[zcb,zlf C]
theorem zjj:∀(G:List za1) (x:List Nat),(zet G x).length=G.length
 | [],_=>rfl
 |g::G,x=>by simp[zet,zjj G]
theorem zyf:∀(l:List za2) (x:List Nat) (q:Nat),q<l.length->(z28 l x).getD q []=(x.drop (szL (l.take q))).take (l.getD q zbr).1.toNat
 | [],_,_,h=>by simp at h
 |p::l,x,0,_=>by simp[z28,szL]
 |p::l,x,q+1,h=>by
  simp only[z28,List.getD_cons_succ,List.take_succ_cons,zlc];rw[zyf l _ q (by simpa using h),List.drop_drop]
theorem cutC_at:∀(C:List (List za2)) (x:List Nat) (j:Nat),j<C.length->(zcb C x).getD j []=z28 (C.getD j []) (x.drop (szC (C.take j)))
 | [],_,_,h=>by simp at h
 |l::C,x,0,_=>by simp[zcb,szC]
 |l::C,x,j+1,h=>by
  simp only[zcb,List.getD_cons_succ,List.take_succ_cons,zld];rw[cutC_at C _ j (by simpa using h),List.drop_drop]
theorem ziu:∀(G:List za1) (x:List Nat) (k:Nat),k<G.length->(zet G x).getD k []=zcb (G.getD k zak).2 (x.drop (szG (G.take k)))
 | [],_,_,h=>by simp at h
 |g::G,x,0,_=>by simp[zet,szG]
 |g::G,x,k+1,h=>by
  simp only[zet,List.getD_cons_succ,List.take_succ_cons,zle];rw[ziu G _ k (by simpa using h),List.drop_drop]
theorem z0o{l:List za2}{q:Nat}(h:q<l.length):szL (l.take (q+1))=szL (l.take q)+(l.getD q zbr).1.toNat:=by rw[zac _ q zbr h];unfold szL;rw[List.map_append,List.sum_append];simp
theorem ztl{C:List (List za2)}{j:Nat}(h:j<C.length):szC (C.take (j+1))=szC (C.take j)+szL (C.getD j []):=by rw[zac _ j [] h];unfold szC;rw[List.map_append,List.sum_append];simp
theorem ztm{G:List za1}{k:Nat}(h:k<G.length):szG (G.take (k+1))=szG (G.take k)+szC (G.getD k zak).2:=by rw[zac _ k zak h];unfold szG;rw[List.map_append,List.sum_append];simp
theorem qen(l:List za2)(q:Nat):szL (l.take q)<=szL l:=by
 have e:szL l=szL (l.take q)+szL (l.drop q):=by unfold szL;rw[<-List.sum_append,<-List.map_append,List.take_append_drop]
 omega
theorem qeo(C:List (List za2))(q:Nat):szC (C.take q)<=szC C:=by
 have e:szC C=szC (C.take q)+szC (C.drop q):=by unfold szC;rw[<-List.sum_append,<-List.map_append,List.take_append_drop]
 omega
theorem qep(G:List za1)(q:Nat):szG (G.take q)<=szG G:=by
 have e:szG G=szG (G.take q)+szG (G.drop q):=by unfold szG;rw[<-List.sum_append,<-List.map_append,List.take_append_drop]
 omega
theorem zvr:∀(l:List za2) (x:List Nat),(z28 l x).flatten=x.take (szL l)
 | [],x=>by simp[z28,szL]
 |p::l,x=>by
  rw[z28,List.flatten_cons,zvr l,zlc,List.take_add]
theorem zvs:∀(C:List (List za2)) (x:List Nat),(zcb C x).flatten.flatten=x.take (szC C)
 | [],x=>by simp[zcb,szC]
 |l::C,x=>by
  rw[zcb,List.flatten_cons,List.flatten_append,zvr,zvs C,zld,List.take_add]
theorem zlg:∀(G:List za1) (x:List Nat),(zet G x).flatten.flatten.flatten=x.take (szG G)
 | [],x=>by simp[zet,szG]
 |g::G,x=>by
  rw[zet,List.flatten_cons,List.flatten_append,List.flatten_append,zvs,zlg G,zle,List.take_add]
theorem zm4{α:Type}{p:List α}:∀{L:List (List α)},p∈L->p.length<=L.flatten.length
 | [],h=>by cases h
 |q::L,h=>by
  rw[List.flatten_cons,List.length_append];rcases List.mem_cons.1 h with rfl|h
  ·omega
  ·have:=zm4 h
   omega
theorem zlh{G:List za1}{x p:List Nat}(h:p∈(zet G x).flatten.flatten):(∀y∈p,y∈x)/\p.length<=x.length:=by
 have e:=zlg G x;refine⟨fun y hy=>?_,?_⟩
 ·have:y∈(zet G x).flatten.flatten.flatten:=List.mem_flatten.2 ⟨p,h,hy⟩
  rw[e] at this;exact List.mem_of_mem_take this
 ·have h1:p.length<=(zet G x).flatten.flatten.flatten.length:=zm4 h
  rw[e,List.length_take] at h1;omega
theorem zli:∀(C:List (List za2)) (x:List Nat),(zcb C x).flatten.length=C.flatten.length
 | [],_=>rfl
 |l::C,x=>by
  rw[zcb,List.flatten_cons,List.length_append,zli C,zji,List.flatten_cons,List.length_append]
theorem z79{l:List za2}(h:∀p∈l,0<=p.1):(szL l:Int)=zcm l:=by
 induction l with
 |nil=>rfl
 |cons p l ih=>
  have h1:=h p (by simp);have h2:=ih fun q hq=>h q (by simp[hq])
  rw[zlc,zj6];omega
theorem z8a{C:List (List za2)}(h:∀l∈C,∀p∈l,0<=p.1):(szC C:Int)=(C.map zcm).sum:=by
 induction C with
 |nil=>rfl
 |cons l C ih=>
  have h1:=z79 (h l (by simp));have h2:=ih fun q hq=>h q (by simp[hq])
  rw[zld,List.map_cons,List.sum_cons];omega
theorem zyg{G:List za1}(h:∀g∈G,∀l∈g.2,∀p∈l,0<=p.1):(szG G:Int)=(G.map zcf).sum:=by
 induction G with
 |nil=>rfl
 |cons g G ih=>
  have h1:=z8a (h g (by simp));have h2:=ih fun q hq=>h q (by simp[hq])
  rw[zle,List.map_cons,List.sum_cons];unfold zcf;unfold zcf at h2;omega
theorem zlj{F:FootS}(h:zbq F):∀g∈F.groups,∀l∈g.2,∀p∈l,1<=p.1/\p.1<=268435456/\1<=p.2.1/\p.2.1<=65536:=by intro g hg l hl p hp;obtain⟨h1,h2,h3⟩:=h.2.1 g hg;obtain⟨i,hi,rfl⟩:=List.getElem_of_mem hl;have:=(h3 i (by omega)).1 p (by rw[List.getD_eq_getElem?_getD,List.getElem?_eq_getElem hi];exact hp);have:=(pageB_most.1 this).1;omega
end Go.Hm
namespace Go.Proofs.Y
open Go Go.RowKit Go.Hm
theorem z29{F:FootS}(h:zbq F){k j q:Nat}(hk:k<F.groups.length)(hj:j<F.cols.length):
 zcz F.groups k j q=((szG (F.groups.take k)+szC ((F.groups.getD k zak).2.take j)+szL ((zav F.groups k j).take q):Nat):Int):=by
 have hp:=zlj h;have hgk:F.groups.getD k zak∈F.groups:=zai zak hk;have hlen:=(zcr h hk).2.1;have h1:=zyg (G:=F.groups.take k) (fun g hg l hl p hpp=>by have:=hp g (List.mem_of_mem_take hg) l hl p hpp;omega);have h2:=z8a (C:=(F.groups.getD k zak).2.take j) (fun l hl p hpp=>by have:=hp _ hgk l (List.mem_of_mem_take hl) p hpp;omega);have h3:=z79 (l:=(zav F.groups k j).take q) (fun p hpp=>by have hm:zav F.groups k j∈(F.groups.getD k zak).2:=zai [] (by omega);have:=hp _ hgk _ hm p (List.mem_of_mem_take hpp);omega)
 unfold zcz zvn zrj;omega
theorem z3a{F:FootS}(h:zbq F):zcz F.groups F.groups.length 0 0=(szG F.groups:Int):=by have h1:=zyg (G:=F.groups) (fun g hg l hl p hpp=>by have:=zlj h g hg l hl p hpp;omega);unfold zcz zvn zrj;rw[List.take_length];simp only[List.take_zero,List.map_nil,List.sum_nil];have:zcm []=0:=rfl;omega
end Go.Proofs.Y
namespace Go.Hm
open Go Go.RowKit
abbrev ziy:=Option Addr × Nat × List zix
def zpu(d:ziy):List Value:=[.slice d.1 d.2.2.length d.2.1]
def RowBIn(w:World)(d:ziy):Prop:=Reads w w.heap.size 1 d.1 d.2.2.length (recs zib d.2.2)
theorem RowBIn.later{w w':World}{d:ziy}(h:RowBIn w d)(hb:New w w'):RowBIn w' d:=Reads.later h hb
theorem zvz(D:List zix):(recs zib D).length=D.length:=by rw[zau (sz:=1) (fun _=>rfl)];omega
theorem z8n(D:List zix):∀u∈recs zib D,u.oneCell'=true:=by intro u hu;unfold recs at hu;obtain⟨d,_,hd⟩:=List.mem_flatMap.1 hu;obtain rfl:=List.mem_singleton.1 hd;rfl
end Go.Hm
namespace Go.Proofs.Y
open Go.RowKit Go.Hm
theorem qkn:ElT Tryz.prog 22 24 (.slice none 0 0) 1 24:=⟨by kernel_rfl,by kernel_rfl,rfl,by omega⟩
end Go.Proofs.Y
namespace Go.Hm
open Go Go.RowKit
abbrev zmh:=Option Addr × Nat × List ziy
def zv0(d:zmh):List Value:=[.slice d.1 d.2.2.length d.2.1]
def byP(d:zix):List Nat:=d.2.2
def rwP(r:ziy):List (List Nat):=r.2.2.map byP
def gpP(g:zmh):List (List (List Nat)):=g.2.2.map rwP
def PieceIn(w:World)(d:zix):Prop:=BytIn w d/\d.2.2.length<=d.2.1/\d.2.1<=9223372036854775807
theorem PieceIn.later{w w':World}{d:zix}(h:PieceIn w d)(hb:New w w'):PieceIn w' d:=⟨h.1.later hb,h.2⟩
def PieceOf(A:Option Addr)(w:World)(d:zix):Prop:=PieceIn w d/\ ∀ad,d.1=some ad-> ∃a0,A=some a0/\ad.block=a0.block
theorem PieceOf.later{A:Option Addr}{w w':World}{d:zix}(h:PieceOf A w d)(hb:New w w'):PieceOf A w' d:=⟨h.1.later hb,h.2⟩
theorem z8q{A:Option Addr}{k:Nat}{p:Prop}[Decidable p]:∀ad,(if p then A else A.map (·.add k))=some ad-> ∃a0,A=some a0/\ad.block=a0.block:=by
 intro ad h;split at h
 ·exact⟨ad,h,rfl⟩
 ·cases A with
  |none=>cases h
  |some a0=>
   injection h with h;subst h;exact⟨a0,rfl,zaj _ _⟩
theorem zpv{α:Type}{f:α->List Value}(hf:∀x,(f x).length=1)(X:List α)(x:α)(k m:Nat)(h:X.length=k){z v:Value}(hv:f x=[v]):
 (recs f X++List.replicate (m+1) z).toArray.setIfInBounds k v=(recs f (X++[x])++List.replicate m z).toArray:=by
 have h2:(recs f X).length=k:=by rw[zau (sz:=1) hf];omega
 rw[List.setIfInBounds_toArray,List.set_append_right _ _ (by omega),h2,Nat.sub_self,List.replicate_succ,List.set_cons_zero,zbb,List.append_assoc];congr 2
 simp[recs,hv]
theorem zhd{α:Type}{f:α->List Value}(hf:∀x,(f x).length=1)(X:List α)(m:Nat)(z:Value):(recs f X++List.replicate m z).toArray.size=X.length+m:=by rw[List.size_toArray,List.length_append,zau (sz:=1) hf,List.length_replicate,Nat.mul_one]
end Go.Hm
namespace Go.Proofs.Y
open Go.RowKit Go.Hm
def RowBAt(W:World)(lo:Nat)(r:ziy):Prop:=∃k,lo<k/\r.1=some ⟨k,0,none⟩/\r.2.1=r.2.2.length/\Blk W k 24 (recs zib r.2.2).toArray
def RowRAt(W:World)(lo:Nat)(g:zmh):Prop:=∃k,lo<k/\g.1=some ⟨k,0,none⟩/\g.2.1=g.2.2.length/\Blk W k 22 (recs zpu g.2.2).toArray/\ ∀r∈g.2.2,RowBAt W k r
theorem RowBAt.below{W W':World}{lo B:Nat}{r:ziy}(h:RowBAt W lo r)(hb:Below B W W')(hB:W.heap.size<=B):RowBAt W' lo r:=by obtain⟨k,h1,h2,h3,h4⟩:=h;exact⟨k,h1,h2,h3,h4.below hb (by have:=h4.lt;omega)⟩
theorem RowRAt.below{W W':World}{lo B:Nat}{g:zmh}(h:RowRAt W lo g)(hb:Below B W W')(hB:W.heap.size<=B):RowRAt W' lo g:=by obtain⟨k,h1,h2,h3,h4,h5⟩:=h;exact⟨k,h1,h2,h3,h4.below hb (by have:=h4.lt;omega),fun r hr=>(h5 r hr).below hb hB⟩
theorem RowBAt.far{W W':World}{lo g:Nat}{r:ziy}(h:RowBAt W lo r)(hg:W.grownBy W' (some g))(hl:g<=lo):RowBAt W' lo r:=by obtain⟨k,h1,h2,h3,h4⟩:=h;exact⟨k,h1,h2,h3,h4.grown hg (by intro e;injection e with e;omega)⟩
theorem RowRAt.far{W W':World}{lo g:Nat}{r:zmh}(h:RowRAt W lo r)(hg:W.grownBy W' (some g))(hl:g<=lo):RowRAt W' lo r:=by obtain⟨k,h1,h2,h3,h4,h5⟩:=h;exact⟨k,h1,h2,h3,h4.grown hg (by intro e;injection e with e;omega),fun r hr=>(h5 r hr).far hg (by omega)⟩
theorem RowBAt.mv{W W':World}{lo hi:Nat}{r:ziy}(h:RowBAt W lo r)(hw:W.heap.size<=hi)(kp:∀k,lo<k->k<hi->W'.heap[k]? =W.heap[k]?):RowBAt W' lo r:=by obtain⟨k,h1,h2,h3,h4⟩:=h;exact⟨k,h1,h2,h3,(kp k h1 (by have:=h4.lt;omega)).trans h4⟩
theorem RowRAt.mv{W W':World}{lo hi:Nat}{g:zmh}(h:RowRAt W lo g)(hw:W.heap.size<=hi)(kp:∀k,lo<k->k<hi->W'.heap[k]? =W.heap[k]?):RowRAt W' lo g:=by obtain⟨k,h1,h2,h3,h4,h5⟩:=h;exact⟨k,h1,h2,h3,(kp k h1 (by have:=h4.lt;omega)).trans h4,fun r hr=>(h5 r hr).mv hw (fun j hj=>kp j (by omega))⟩
theorem zgx{W:World}{k:Nat}{t:TypeId}{cs:List Value}{n:Nat}(h:Blk W k t cs.toArray)(hn:n=cs.length):Reads W W.heap.size 1 (some ⟨k,0,none⟩) n cs:=by subst hn;refine⟨by simp,fun _=>⟨_,rfl,h.lt,fun j u hu=>?_⟩⟩;rw[Addr.add_mid,Nat.zero_add,h.cell,List.getElem?_toArray,hu]
theorem RowBAt.inn{W:World}{lo:Nat}{r:ziy}(h:RowBAt W lo r):RowBIn W r:=by obtain⟨k,h1,h2,h3,h4⟩:=h;unfold RowBIn;rw[h2];exact zgx h4 (by rw[zau (sz:=1) (fun _=>rfl),Nat.mul_one])
theorem RowRAt.inn{W:World}{lo:Nat}{g:zmh}(h:RowRAt W lo g):Reads W W.heap.size 1 g.1 g.2.2.length (recs zpu g.2.2)/\ ∀r∈g.2.2,RowBIn W r:=by obtain⟨k,h1,h2,h3,h4,h5⟩:=h;rw[h2];exact⟨zgx h4 (by rw[zau (sz:=1) (fun _=>rfl),Nat.mul_one]),fun r hr=>(h5 r hr).inn⟩
def SheCutPostA(A0:Option Addr)(G:List za1)(b:List Nat)(w:World)(e:Ending)(w':World):Prop:=
 ∃A X,e= .returned (.slice A X.length X.length)/\New w w'/\(Reads w' w'.heap.size 1 A X.length (recs zv0 X)/\ ∀ad,A=some ad->w.heap.size<=ad.block)/\(∀g∈X,g.2.1=g.2.2.length/\(Reads w' w'.heap.size 1 g.1 g.2.2.length (recs zpu g.2.2)/\ ∀ad,g.1=some ad->w.heap.size<=ad.block)/\ ∀r∈g.2.2,r.2.1=r.2.2.length/\(RowBIn w' r/\ ∀ad,r.1=some ad->w.heap.size<=ad.block)/\ ∀d∈r.2.2,PieceOf A0 w' d)/\X.map gpP=zet G (b.drop 4)
def z3l(G:List za1)(b:List Nat)(w:World)(e:Ending)(w':World):Prop:=
 ∃A X,e= .returned (.slice A X.length X.length)/\New w w'/\Reads w' w'.heap.size 1 A X.length (recs zv0 X)/\(∀g∈X,g.2.1=g.2.2.length/\Reads w' w'.heap.size 1 g.1 g.2.2.length (recs zpu g.2.2)/\ ∀r∈g.2.2,r.2.1=r.2.2.length/\RowBIn w' r/\ ∀d∈r.2.2,PieceIn w' d)/\X.map gpP=zet G (b.drop 4)
theorem SheCutPostA.post{A0:Option Addr}{G:List za1}{b:List Nat}{w:World}{e:Ending}{w':World}(h:SheCutPostA A0 G b w e w'):z3l G b w e w':=by obtain⟨A,X,h1,h2,h3,h4,h5⟩:=h;exact⟨A,X,h1,h2,h3.1,fun g hg=>⟨(h4 g hg).1,(h4 g hg).2.1.1,fun r hr=>⟨((h4 g hg).2.2 r hr).1,((h4 g hg).2.2 r hr).2.1.1,fun d hd=>(((h4 g hg).2.2 r hr).2.2 d hd).1⟩⟩,h5⟩
def znu(G:List za1)(k j q:Nat):Nat:=4+szG (G.take k)+szC ((G.getD k zak).2.take j)+szL ((zav G k j).take q)
theorem z8r(G:List za1):znu G 0 0 0=4:=by simp[znu,szG,szC,szL]
theorem zv1{F:FootS}{b:List Nat}(hs:4+szG F.groups<=b.length){k j q:Nat}(hk:k<F.groups.length)(hj:j<(F.groups.getD k zak).2.length)(hq:q<(zav F.groups k j).length):
 znu F.groups k j (q+1)=znu F.groups k j q+((zav F.groups k j).getD q zbr).1.toNat/\znu F.groups k j (q+1)<=b.length
  /\(((zet F.groups (b.drop 4)).getD k []).getD j []).getD q []=(b.drop (znu F.groups k j q)).take ((zav F.groups k j).getD q zbr).1.toNat:=by
 have h1:=z0o hq;have h2:=qen (zav F.groups k j) (q+1);have h3:=ztl hj;have h4:=qeo (F.groups.getD k zak).2 (j+1);have h5:=ztm hk;have h6:=qep F.groups (k+1);refine⟨by unfold znu;omega,?_,?_⟩
 ·unfold znu
  have e:szL ((F.groups.getD k zak).2.getD j [])=szL (zav F.groups k j):=rfl;omega
 ·rw[ziu _ _ _ hk,cutC_at _ _ _ hj]
  have hq':q<((F.groups.getD k zak).2.getD j []).length:=hq;rw[zyf _ _ _ hq',List.drop_drop,List.drop_drop,List.drop_drop];unfold znu zav;congr 2
  omega
theorem z3m{G:List za1}{k j:Nat}(hj:j<(G.getD k zak).2.length):znu G k j (zav G k j).length=znu G k (j+1) 0:=by have h3:=ztl hj;unfold znu;rw[List.take_length,List.take_zero,show szL []=0 from rfl,h3];unfold zav;omega
theorem z3n{G:List za1}{k:Nat}(hk:k<G.length):znu G k (G.getD k zak).2.length 0=znu G (k+1) 0 0:=by have h5:=ztm hk;unfold znu;rw[List.take_length,List.take_zero,List.take_zero,List.take_zero,show szL []=0 from rfl,show szC []=0 from rfl,h5];omega
theorem z0t{F:FootS}(h:zbq F):F.groups.length<=65536/\F.cols.length<=64/\ ∀k,k<F.groups.length->(F.groups.getD k zak).2.length=F.cols.length/\ ∀j,j<F.cols.length->(zav F.groups k j).length<=65536:=by obtain⟨r1,r2⟩:=zns h.2.1;have h3:=h.2.2.1;have h4:=h.2.2.2.1;refine⟨by omega,h.1.1,fun k hk=>⟨(zcr h hk).2.1,fun j hj=>?_⟩⟩;obtain⟨hc,_⟩:=zjh h hk hj;have a:=zfe hc.1;have b:=hc.2;have c:=r2 _ (zai zak hk);omega
end Go.Proofs.Y
namespace Go.Hm
open Go Go.RowKit
section
variable{P:Program}{o:Oper}{a:Act}{Q:Exit->Act->World->Prop}{K:Act->World->Prop}
theorem qdo{w:World}{t e:TypeId}{z:Value}{sz bytes:Nat}(E:ElT P t e z sz bytes)(s x:Operand)
 (ho:o.op= .call {callee:= .builtin .append,args:= #[s,x],argTypes:= #[t,t]})
 {W:World}{B base n m c:Nat}{v:Value}{xs news:List Value}{A:Option Addr}(hown:w.ownsRow base e sz v n xs)(hr:Reads w w.heap.size sz A m news)(hs:a.eval s=v)(hx:a.eval x= .slice A m c)
 (hb:Below B W w)(hbB:B<=base)(hbase:base<=w.heap.size)(h1:∀u∈news,u.oneCell'=true)
 (hn:(n+m)*bytes<=140737488355328)(hm:n+m<=maxLen)
 (h:∀A' c' w',n+m<=c'->c'<=maxLen->w'.ownsRow base e sz (.slice A' (n+m) c') (n+m) (xs++news)->w.grownBy w' v.ownBlock->Below B W w'->(Value.ownBlock (.slice A' (n+m) c')=v.ownBlock\/ ∃g,Value.ownBlock (.slice A' (n+m) c')=some g/\w.heap.size<=g)->K (a.put o.dst (.slice A' (n+m) c')) w'):
 Oper.wp P o a w K Q:=by
 obtain⟨i,hi,hz0,hz1,hz2⟩:=info_parts E.hi;rcases A with _|ad
 ·have hm0:m=0:=by
   rcases Nat.eq_zero_or_pos m with h0|h0
   ·exact h0
   ·obtain⟨ad,h',_⟩:=hr.2 h0
    cases h'
  subst hm0;have hn0:news=[]:=List.eq_nil_of_length_eq_zero (by have:=hr.1;omega);subst hn0;have hrun:∀ty,(Builtin.append_ #[t,t] ty #[v,.slice none 0 c]).run P w= .ok v w:=by
   intro ty;rcases hown.2 with⟨rfl,hx0⟩|⟨g,cap,cur,rfl,_,_,hnc,_⟩
   ·simp[Builtin.append_,run_underlying E.ht,sizeOf,typeInfo,hi,Builtin.lenOf,Builtin.firstCells]
   ·simp[Builtin.append_,run_underlying E.ht,sizeOf,typeInfo,hi,Builtin.lenOf,Builtin.firstCells,hnc,storeCells]
  obtain⟨A',c',rfl,hc1,hc2⟩:=zd8 hown;unfold Oper.wp execOp;simp only[ho,resolve,invoke,builtin,Sem.run_bind,Sem.run_pure,Result.andThen_ok,List.map_toArray,List.map_cons,List.map_nil,hs,hx,hrun];exact h A' c' w hc1 hc2 (by simpa using hown) (World.grownBy.refl w _) hb (.inl rfl)
 ·have hl:news.length=m*sz:=hr.1
  have hcells:∀j u,news[j]? =some u->w.cell? (ad.add j)=some u:=by
   intro j u hu;rcases Nat.eq_zero_or_pos m with h0|h0
   ·subst h0
    have hn:news=[]:=List.eq_nil_of_length_eq_zero (by omega);subst hn;simp at hu
   ·obtain⟨ad',h',_,hc⟩:=hr.2 h0
    injection h' with h';subst h';exact hc j u hu
  obtain⟨v',w',hr',hown',hg,_,hat⟩:=run_append_own_at (P:=P) w base t o.type e i z sz bytes E.ht hi hz0 hz1 hz2 E.hz E.hs v n xs hown ad m c news hl hcells h1 hm hn hbase;obtain⟨A',c',rfl,hc1,hc2⟩:=zd8 hown';unfold Oper.wp execOp;simp only[ho,resolve,invoke,builtin,Sem.run_bind,Sem.run_pure,Result.andThen_ok,List.map_toArray,List.map_cons,List.map_nil,hs,hx,hr'];exact h A' c' w' hc1 hc2 hown' hg (hb.grown hg (Nat.le_trans hbB hbase) (fun k hk=>by have:=(World.ownsRow.lt hown k hk).1;omega)) (hat.imp id (fun e=>⟨_,e,Nat.le_refl _⟩))
end
open Go Go.RowKit
theorem z9w{T T':List Nat}{w W W2:World}(h:Turns T w W)(k:Turns T' W W2)(hT:∀x∈T',w.heap.size<=x):Turns T w W2:=
 ⟨k.os.trans h.os,k.tape.trans h.tape,k.output.trans h.output,Nat.le_trans h.size k.size,fun j hj hn=>(k.block j (Nat.lt_of_lt_of_le hj h.size) (fun hm=>by have:=hT _ hm;omega)).trans (h.block j hj hn)⟩
theorem qd0(l:List (List Nat)):∀u∈recs zh4 l,u.oneCell'=true:=by intro u hu;obtain⟨x,_,hx⟩:=List.mem_flatMap.1 hu;simp only[zh4,List.mem_map,List.mem_range] at hx;obtain⟨i,_,rfl⟩:=hx;rfl
end Go.Hm
namespace Go.Proofs.Y
open Go.RowKit Go.Hm
abbrev tS:TypeId:=23
abbrev tD:TypeId:=35
set_option maxRecDepth 100000 in
theorem elD:ElT Tryz.prog tS tD (.agg (Array.replicate 32 (.int .u8 0))) 32 32:=⟨by kernel_rfl,by kernel_rfl,rfl,by omega⟩
def KeepX(B bo:Nat)(W W':World):Prop:=W.heap.size<=W'.heap.size/\ ∀t b cs,t≠tL->t≠24->(t≠tD\/b<B)->b≠bo->Blk W b t cs->Blk W' b t cs
theorem KeepX.refl(B bo:Nat)(W:World):KeepX B bo W W:=⟨Nat.le_refl _,fun _ _ _ _ _ _ _ h=>h⟩
theorem KeepX.trans{B bo:Nat}{a b c:World}(h:KeepX B bo a b)(k:KeepX B bo b c):KeepX B bo a c:=⟨Nat.le_trans h.1 k.1,fun t x cs h1 h2 h3 h4 hb=>k.2 t x cs h1 h2 h3 h4 (h.2 t x cs h1 h2 h3 h4 hb)⟩
theorem KeepX.new{B bo:Nat}{W W':World}(h:New W W'):KeepX B bo W W':=⟨h.size,fun _ _ _ _ _ _ _ hb=>hb.below h hb.lt⟩
def KeepL(B:Nat)(W W':World):Prop:=W.heap.size<=W'.heap.size/\ ∀t b cs,t≠tL->t≠24->(t≠tD\/b<B)->Blk W b t cs->Blk W' b t cs
theorem KeepL.refl{B:Nat}(W:World):KeepL B W W:=⟨Nat.le_refl _,fun _ _ _ _ _ _ h=>h⟩
theorem KeepL.trans{B:Nat}{a b c:World}(h:KeepL B a b)(k:KeepL B b c):KeepL B a c:=⟨Nat.le_trans h.1 k.1,fun t x cs h1 h2 h3 hb=>k.2 t x cs h1 h2 h3 (h.2 t x cs h1 h2 h3 hb)⟩
theorem KeepL.new{B:Nat}{W W':World}(h:New W W'):KeepL B W W':=⟨h.size,fun _ _ _ _ _ _ hb=>hb.below h hb.lt⟩
theorem KeepL.x{B bo:Nat}{W W':World}(h:KeepL B W W'):KeepX B bo W W':=⟨h.1,fun t b cs h1 h2 h3 _=>h.2 t b cs h1 h2 h3⟩
theorem KeepL.row{B n:Nat}{v:Value}{xs:List Value}{W W':World}(o:W.ownsRow B tD 32 v n xs)(gr:W.grownBy W' v.ownBlock):KeepL B W W':=
 ⟨gr.size,fun _ b _ _ _ h3 hb=>hb.touch (Turns.row gr) (by
  rcases h3 with h3|h3
  ·exact ze2 o hb (Ne.symm h3)
  ·exact fun hm=>by have:=(zoh o b hm).1;omega)⟩
def KeepC(W W':World):Prop:=W.heap.size<=W'.heap.size/\ ∀t b cs,t≠tL->t≠24->Blk W b t cs->Blk W' b t cs
theorem KeepC.refl(W:World):KeepC W W:=⟨Nat.le_refl _,fun _ _ _ _ _ h=>h⟩
theorem KeepC.trans{a b c:World}(h:KeepC a b)(k:KeepC b c):KeepC a c:=⟨Nat.le_trans h.1 k.1,fun t x cs h1 h2 hb=>k.2 t x cs h1 h2 (h.2 t x cs h1 h2 hb)⟩
theorem KeepC.new{W W':World}(h:New W W'):KeepC W W':=⟨h.size,fun _ _ _ _ _ hb=>hb.below h hb.lt⟩
theorem KeepC.l{B:Nat}{W W':World}(h:KeepC W W'):KeepL B W W':=⟨h.1,fun t b cs h1 h2 _=>h.2 t b cs h1 h2⟩
theorem KeepC.log{base g:Nat}{V:Value}{F:List (List Nat)}{W W':World}(l:LogOf tL W base g V F)(t:Turns (g::zbm V) W W'):KeepC W W':=
 ⟨t.size,fun _ _ _ h1 h2 hb=>hb.touch t (l.notT hb (Ne.symm h1) (Ne.symm h2))⟩
theorem KeepC.row{base n:Nat}{v:Value}{xs:List Value}{W W':World}(o:W.ownsRow base tD 32 v n xs)(k:KeepC W W'):W'.ownsRow base tD 32 v n xs:=by
 refine⟨o.1,?_⟩;rcases o.2 with hn|⟨g,cap,cur,rfl,hbg,hgg,rest⟩
 ·exact .inl hn
 ·exact .inr ⟨g,cap,cur,rfl,hbg,k.2 tD g cur (by decide) (by decide) hgg,rest⟩
def DrSt(w:World)(B base g:Nat)(V0:Value)(bo:Nat)(F P:List (List Nat))(W:World):Prop:=
 ∃V v,LogOf tL W base g V F/\(V.ownBlock=V0.ownBlock\/ ∃h,V.ownBlock=some h/\w.heap.size<=h)/\Turns (g::zbm V0) w W/\(w.heap.size<=B/\B<=bo)/\Blk W bo tS #[v]/\W.ownsRow B tD 32 v P.length (recs zh4 P)
section
variable{w W:World}{B base g bo:Nat}{V0:Value}{F P:List (List Nat)}
theorem DrSt.new(h:DrSt w B base g V0 bo F P W){W':World}(k:New W W'):DrSt w B base g V0 bo F P W':=by obtain⟨V,v,l,a,t,hb,Bb,o⟩:=h;exact⟨V,v,l.new k,a,t.trans (Turns.of_new k),hb,Bb.below k Bb.lt,za5 o k⟩
theorem DrSt.turns(h:DrSt w B base g V0 bo F P W):Turns (g::zbm V0) w W:=by obtain⟨V,v,l,a,t,hb,Bb,o⟩:=h;exact t
def qje(x:Value)(w:World)(B base g:Nat)(V0:Value)(bo:Nat)(F P:List (List Nat))(W:World)(e:Ending)(W':World):Prop:=e= .returned x/\DrSt w B base g V0 bo F P W'/\KeepC W W'
theorem DrSt.call(h:DrSt w B base g V0 bo F P W){x:Value}{F2:List (List Nat)}{e:Ending}{W':World}{V:Value}(hv:∀V1,LogOf tL W base g V1 F->V1=V)(p:zfk tL x base g V F2 W e W'):qje x w B base g V0 bo F2 P W e W':=by
 obtain⟨V1,v,l1,a,t,hb,Bb,o⟩:=h;obtain rfl:=hv V1 l1;obtain⟨rfl,V',l',a',t'⟩:=p;refine⟨rfl,⟨V',v,l',zf5 t.size a a',zbp t a t',hb,Bb.touch t' (l1.notT Bb (by decide) (by decide)),zoi o t' (fun x hx=>?_)⟩,KeepC.log l1 t'⟩;obtain⟨A,n,c,D,rfl,hg,ho,_⟩:=l1;rcases List.mem_cons.1 hx with rfl|hx
 ·exact zas o hg (by decide)
 ·exact zoj o ho (by decide) x hx
theorem z9x{V V1:Value}(l:LogOf tL W base g V F){F1:List (List Nat)}(l1:LogOf tL W base g V1 F1):V1=V:=by obtain⟨A,n,c,D,rfl,hg,_⟩:=l;obtain⟨A1,n1,c1,D1,rfl,hg1,_⟩:=l1;have:=hg.symm.trans hg1;simp at this;obtain⟨rfl,rfl,rfl⟩:=this;rfl
end
end Go.Proofs.Y
namespace Go.Hm
open Go Go.RowKit
abbrev qhm:List Nat:=[112,97,103,101]
def dA:List Nat:=zb2 qhm (leafP 0 2 [120])
end Go.Hm
namespace Go.Proofs.Y
open Go.RowKit Go.Hm
set_option maxRecDepth 100000 in
theorem zwv(W:World)(hC:ConstIn W):Calls Tryz.prog 31 #[.string ⟨#[110,111,110,101]⟩,.slice none 0 0] W (zal (dV (zb2 zbs [])) W):=by have h:=zzj (s:=zbs) (z5z W) (by omega) (by decide) (by decide) (by simp[bytesOf,zhq]) (by simp[bytesOf]) hC;rw[show bytesOf []=[] from rfl,zj2] at h;exact h
theorem LogOf.made(w:World)(base:Nat):LogOf tL (w.alloc (.cells #[.slice none 0 0] 86)) base w.heap.size (.slice none 0 0) []:=⟨none,0,0,[],rfl,Blk.new _ _ _,Own.nil_,(fun _ hd=>nomatch hd),rfl⟩
end Go.Proofs.Y
