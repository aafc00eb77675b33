/- Merged. -/
import Derived.Test.YtbahbnbpmfgimaaGreatDoorBun35
import Derived.Test.YtbahbnbpmfgimaaGreatDoorBun37
import Derived.Test.YtbahbnbpmfgimaaGreatDoorBun43
set_option maxHeartbeats 2000000
namespace Go.Proofs.Y
open Go Go.RowKit Go.Hm
def Tells(A B:List (List Nat)):Prop:=∃x∈A,∃y∈B,x≠y/\sumI x=sumI y
theorem Tells.mono{A B A' B':List (List Nat)}(h:Tells A B)(ha:∀x∈A,x∈A')(hb:∀x∈B,x∈B'):Tells A' B':=by obtain⟨x,hx,y,hy,h⟩:=h;exact⟨x,ha x hx,y,hb y hy,h⟩
theorem z8k{α:Type}{X Y:List α}(d:α)(h:X.length=Y.length)(hne:X≠Y):∃i,i<X.length/\X.getD i d≠Y.getD i d:=by
 refine Classical.byContradiction fun hc=>hne (List.ext_getElem h fun i h1 h2=>?_)
 refine Classical.byContradiction fun hd=>hc ⟨i,h1,?_⟩
 rwa[List.getD_eq_getElem?_getD,List.getD_eq_getElem?_getD,List.getElem?_eq_getElem h1,List.getElem?_eq_getElem h2]
theorem zrs{s t:List Nat}{p q:List (List Nat)}(hs:1<=s.length/\s.length<=255)(ht:1<=t.length/\t.length<=255)(hp:p.length<=255)(hq:q.length<=255)(hp2:∀x∈p,x.length<18446744073709551616)(hq2:∀x∈q,x.length<18446744073709551616)
 (h:zb2 s p=zb2 t q)(hne: ¬(s=t/\p=q)):Tells [zbv s p] [zbv t q]:=by
 have e1:za4 s p=some (zbv s p):=if_pos ⟨hs.1,hs.2,hp⟩;have e2:za4 t q=some (zbv t q):=if_pos ⟨ht.1,ht.2,hq⟩;refine⟨_,List.mem_singleton.2 rfl,_,List.mem_singleton.2 rfl,fun hf=>hne ((zod hp2 hq2 e1 e2).1 hf),?_⟩;have hh:=zue h;unfold zee at hh;rw[e1,e2] at hh;exact hh
theorem zc1(k n:Int)(d:List Nat):leafP k n d=[low (u64N_tren k) 8,low (u64N_tren n) 8,d]:=rfl
theorem zrt{k n:Int}{d:List Nat}(hd:d.length<18446744073709551616):∀x∈leafP k n d,x.length<18446744073709551616:=by
 intro x hx;rw[zc1] at hx;simp only[List.mem_cons,List.not_mem_nil,or_false] at hx;rcases hx with rfl|rfl|rfl
 ·rw[za6];omega
 ·rw[za6];omega
 ·exact hd
theorem qer{s:List Nat}{D:List (List Nat)}{i:Nat}(hs:1<=s.length/\s.length<=255)(hi:i<D.length):zbv s (leafP (i:Int) (D.length:Int) (D.getD i []))∈lvF s D:=by unfold lvF;rw[List.mem_flatMap];refine⟨i,List.mem_range.2 hi,?_⟩;rw[show za4 s (leafP (i:Int) (D.length:Int) (D.getD i []))=some (zbv s (leafP (i:Int) (D.length:Int) (D.getD i []))) from if_pos ⟨hs.1,hs.2,by rw[zc1];simp⟩];simp
theorem qes{s:List Nat}{D:List (List Nat)}{i:Nat}(hi:i<D.length):(lvD s D).getD i []=zb2 s (leafP (i:Int) (D.length:Int) (D.getD i [])):=by unfold lvD;rw[List.getD_eq_getElem?_getD,List.getElem?_map,List.getElem?_range hi];rfl
def ztp(D:List (List Nat)):Prop:=∀d∈D,d.length<18446744073709551616
theorem z0r{D:List (List Nat)}(h:ztp D){i:Nat}(hi:i<D.length):(D.getD i []).length<18446744073709551616:=h _ (zfp hi)
theorem zjk{D:List (List Nat)}(h:Digs D):ztp D:=fun d hd=>by rw[(h d hd).1];omega
theorem zps{s:List Nat}{D E:List (List Nat)}(hs:1<=s.length/\s.length<=255)(hD:ztp D)(hE:ztp E)(hl:D.length=E.length)(h:ovD s D=ovD s E)(hne:D≠E):Tells (ovF s D) (ovF s E):=by
 unfold ovD at h;unfold ovF;by_cases hv:lvD s D=lvD s E
 ·obtain⟨i,hi,hd⟩:=z8k [] hl hne
  have hi2:i<E.length:=by omega
  have e:=congrArg (fun l=>l.getD i []) hv;rw[qes hi,qes hi2] at e;refine(zrs hs hs (by rw[zc1];simp) (by rw[zc1];simp) (zrt (z0r hD hi)) (zrt (z0r hE hi2)) e (fun hc=>?_)).mono ?_ ?_
  ·have:=hc.2
   rw[zc1,zc1] at this;simp only[List.cons.injEq,and_true] at this;exact hd this.2.2
  ·intro x hx
   obtain rfl:=List.mem_singleton.1 hx;exact List.mem_append_left _ (qer hs hi)
  ·intro x hx
   obtain rfl:=List.mem_singleton.1 hx;exact List.mem_append_left _ (qer hs hi2)
 ·obtain⟨x,hx,y,hy,k⟩:=zw6 _ (zhr s D) _ (zhr s E) (by rw[zl0,zl0];exact hl.symm) h hv
  exact⟨x,List.mem_append_right _ hx,y,List.mem_append_right _ hy,k⟩
theorem znt(s:List Nat)(X:List (List (List Nat))):Digs (X.map (ovD s)):=fun d hd=>by obtain⟨x,_,rfl⟩:=List.mem_map.1 hd;exact zl1 _ _
theorem zlm(C:List (List (List (List Nat)))):Digs (C.map zl2):=fun d hd=>by obtain⟨x,_,rfl⟩:=List.mem_map.1 hd;exact zzq _
theorem zds{α β:Type}(f:α->β)(X:List α)(a:α)(b:β){i:Nat}(hi:i<X.length):(X.map f).getD i b=f (X.getD i a):=by rw[List.getD_eq_getElem?_getD,List.getElem?_map,List.getElem?_eq_getElem hi,List.getD_eq_getElem?_getD,List.getElem?_eq_getElem hi];rfl
theorem z3g{X Y:List (List (List Nat))}(hX:∀x∈X,ztp x)(hY:∀x∈Y,ztp x)(hl:X.map List.length=Y.map List.length)(h:zl2 X=zl2 Y)(hne:X≠Y):Tells (zon X) (zon Y):=by
 have hll:X.length=Y.length:=by simpa using congrArg List.length hl
 unfold zl2 at h;unfold zon;by_cases hv:X.map (ovD zcg)=Y.map (ovD zcg)
 ·obtain⟨i,hi,hd⟩:=z8k [] hll hne
  have hi2:i<Y.length:=by omega
  have e:=congrArg (fun l=>l.getD i []) hv;rw[zds _ X [] [] hi,zds _ Y [] [] hi2] at e;have e2:=congrArg (fun l=>l.getD i 0) hl;rw[zds _ X [] 0 hi,zds _ Y [] 0 hi2] at e2;exact(zps ⟨by decide,by decide⟩ (hX _ (zai _ hi)) (hY _ (zai _ hi2)) e2 e hd).mono
   (fun x hx=>List.mem_append_left _ (List.mem_flatMap.2 ⟨_,zai _ hi,hx⟩)) (fun x hx=>List.mem_append_left _ (List.mem_flatMap.2 ⟨_,zai _ hi2,hx⟩))
 ·exact(zps ⟨by decide,by decide⟩ (zjk (znt _ _)) (zjk (znt _ _)) (by rw[List.length_map,List.length_map];exact hll) h hv).mono (fun x hx=>List.mem_append_right _ hx) (fun x hx=>List.mem_append_right _ hx)
theorem z3h{C E:List (List (List (List Nat)))}(hC:∀X∈C,∀x∈X,ztp x)(hE:∀X∈E,∀x∈X,ztp x)(hl:C.map (fun X=>X.map List.length)=E.map (fun X=>X.map List.length))(h:zul C=zul E)(hne:C≠E):Tells (zzp C) (zzp E):=by
 have hll:C.length=E.length:=by simpa using congrArg List.length hl
 unfold zul at h;unfold zzp;by_cases hv:C.map zl2=E.map zl2
 ·obtain⟨i,hi,hd⟩:=z8k [] hll hne
  have hi2:i<E.length:=by omega
  have e:=congrArg (fun l=>l.getD i []) hv;rw[zds _ C [] [] hi,zds _ E [] [] hi2] at e;have e2:=congrArg (fun l=>l.getD i []) hl;rw[zds _ C [] [] hi,zds _ E [] [] hi2] at e2;exact(z3g (hC _ (zai _ hi)) (hE _ (zai _ hi2)) e2 e hd).mono
   (fun x hx=>List.mem_append_left _ (List.mem_flatMap.2 ⟨_,zai _ hi,hx⟩)) (fun x hx=>List.mem_append_left _ (List.mem_flatMap.2 ⟨_,zai _ hi2,hx⟩))
 ·exact(zps ⟨by decide,by decide⟩ (zjk (zlm _)) (zjk (zlm _)) (by rw[List.length_map,List.length_map];exact hll) h hv).mono (fun x hx=>List.mem_append_right _ hx) (fun x hx=>List.mem_append_right _ hx)
theorem zvx:∀(C:List (List za2)) (x:List Nat),(zcb C x).map List.length=C.map List.length
 | [],_=>rfl
 |l::C,x=>by rw[zcb,List.map_cons,List.map_cons,zji,zvx C]
theorem ziw:∀(G:List za1) (x:List Nat),(zet G x).map (fun X=>X.map List.length)=G.map (fun g=>g.2.map List.length)
 | [],_=>rfl
 |g::G,x=>by rw[zet,List.map_cons,List.map_cons,zvx,ziw G]
theorem zru{F:FootS}{b:List Nat}(hb:b.length<=140737488351232):∀X∈zet F.groups (b.drop 4),∀x∈X,ztp x:=by
 intro X hX x hx d hd;have:=(zlh (G:=F.groups) (x:=b.drop 4) (p:=d) (by rw[List.mem_flatten];exact⟨x,by rw[List.mem_flatten];exact⟨X,hX,hx⟩,hd⟩)).2
 rw[List.length_drop] at this;omega
def zne(G:List za1)(b own:List Nat):List (List Nat):=zzp (zet G (b.drop 4))++zoo own (zul (zet G (b.drop 4)))
def zpt(G:List za1)(b own:List Nat):List Nat:=z16 own (zul (zet G (b.drop 4)))
theorem z3i{a b:List Nat}{F G:FootS}{s:List Nat}(ha:openO a=some (F,s))(hb:openO b=some (G,s)):F=G:=by
 have key:∀{a:List Nat} {F:FootS},openO a=some (F,s)->znd (fun r=>r) s=some F:=by
  intro a F h;unfold openO at h;split at h
  ·cases h
  ·split at h
   ·cases h
   ·rename_i s' hs F' hF
    split at h
    ·injection h with h
     injection h with h1 h2;subst h1 h2;exact hF
    ·cases h
 have h1:=key ha;rw[key hb] at h1;injection h1 with h1;exact h1.symm
theorem zyn{a b:List Nat}{F G:FootS}{s t:List Nat}(ha8:∀x∈a,x<256)(hb8:∀x∈b,x<256)(hla:a.length<=140737488351232)(hlb:b.length<=140737488351232)(ha:openO a=some (F,s))(hb:openO b=some (G,t))
 (h:zpt F.groups a s=zpt G.groups b t)(hne:a≠b):Tells (zne F.groups a s) (zne G.groups b t):=by
 have la:=(zfs ha8 hla ha).2.2.2.2.1;have lb:=(zfs hb8 hlb hb).2.2.2.2.1;unfold zpt z16 at h;by_cases hv: [s,zul (zet F.groups (a.drop 4))]=[t,zul (zet G.groups (b.drop 4))]
 ·simp only[List.cons.injEq,and_true] at hv
  obtain⟨rfl,hv⟩:=hv;obtain rfl:=z3i ha hb;refine(z3h (zru hla) (zru hlb) (by rw[ziw,ziw]) hv (fun hc=>hne (z3f ha8 hb8 hla hlb ha hb hc))).mono (fun x hx=>List.mem_append_left _ hx) (fun x hx=>List.mem_append_left _ hx)
 ·refine(zrs ⟨by decide,by decide⟩ ⟨by decide,by decide⟩ (by simp) (by simp) ?_ ?_ h (fun hc=>hv hc.2)).mono (fun x hx=>List.mem_append_right _ hx) (fun x hx=>List.mem_append_right _ hx)
  ·intro x hx
   simp only[List.mem_cons,List.not_mem_nil,or_false] at hx;rcases hx with rfl|rfl
   ·omega
   ·rw[(zi5 _).1];omega
  ·intro x hx
   simp only[List.mem_cons,List.not_mem_nil,or_false] at hx;rcases hx with rfl|rfl
   ·omega
   ·rw[(zi5 _).1];omega
open Go Go.RowKit Go.Hm
def wG(X:List (List (List Nat))):Nat:=2*X.flatten.length+3*X.length+1
def wA(C:List (List (List (List Nat)))):Nat:=(C.map wG).sum
theorem zmi(X:List (List (List Nat))):(X.flatMap (ovF zcg)).length<=2*X.flatten.length+X.length:=by
 induction X with
 |nil=>simp
 |cons x X ih=>
  have:=zsj zcg x;rw[List.flatMap_cons,List.length_append,List.flatten_cons,List.length_append,List.length_cons];omega
theorem qc7(X:List (List (List Nat))):(zon X).length<=wG X:=by have h1:=zmi X;have h2:=zsj zew (X.map (ovD zcg));rw[List.length_map] at h2;unfold zon wG;rw[List.length_append];omega
theorem zh0(C:List (List (List (List Nat)))):(C.flatMap zon).length<=wA C:=by
 induction C with
 |nil=>simp
 |cons X C ih=>
  have:=qc7 X;unfold wA at ih⊢;rw[List.flatMap_cons,List.length_append,List.map_cons,List.sum_cons];omega
theorem qgx{C:List (List (List (List Nat)))}{k:Nat}(hk:k<C.length):wA (C.take (k+1))=wA (C.take k)+wG (C.getD k []):=by unfold wA;rw[zac C k [] hk,List.map_append,List.sum_append];simp
theorem qjv(C:List (List (List (List Nat))))(k:Nat):wA (C.take k)<=wA C:=by
 unfold wA;conv=>rhs;rw[<-List.take_append_drop k C,List.map_append,List.sum_append]
 omega
theorem qgy{X:List (List (List Nat))}{j:Nat}(hj:j<X.length):(X.take (j+1)).flatten.length=(X.take j).flatten.length+(X.getD j []).length:=by rw[zac X j [] hj,List.flatten_append,List.length_append];simp
theorem qjw(X:List (List (List Nat)))(j:Nat):(X.take j).flatten.length<=X.flatten.length:=by
 conv=>rhs;rw[<-List.take_append_drop j X,List.flatten_append,List.length_append]
 omega
theorem qir{X:List (List (List Nat))}(h:∀x∈X,1<=x.length):X.length<=X.flatten.length:=by
 induction X with
 |nil=>simp
 |cons x X ih=>
  have h1:=h x (by simp);have h2:=ih fun y hy=>h y (by simp[hy])
  rw[List.flatten_cons,List.length_append,List.length_cons];omega
theorem qis{C:List (List (List (List Nat)))}(h:∀X∈C,∀x∈X,1<=x.length):wA C<=5*C.flatten.flatten.length+C.length:=by
 induction C with
 |nil=>simp[wA]
 |cons X C ih=>
  have h1:=qir (h X (by simp));have h2:=ih fun Y hY=>h Y (by simp[hY])
  unfold wA wG at h2⊢;rw[List.map_cons,List.sum_cons,List.flatten_cons,List.flatten_append,List.length_append,List.length_cons];omega
theorem qet:∀{l:List za2},(∀p∈l,1<=p.1)->l.length<=szL l
 | [],_=>by simp
 |p::l,h=>by
  have h1:=h p (by simp);have h2:=qet (l:=l) fun q hq=>h q (by simp[hq])
  rw[zlc,List.length_cons];omega
theorem qeu:∀{C:List (List za2)},(∀l∈C,∀p∈l,1<=p.1)->(C.map List.length).sum<=szC C
 | [],_=>by simp
 |l::C,h=>by
  have h1:=qet (h l (by simp));have h2:=qeu (C:=C) fun q hq=>h q (by simp[hq])
  rw[zld,List.map_cons,List.sum_cons];omega
theorem qev:∀{G:List za1},(∀g∈G,∀l∈g.2,∀p∈l,1<=p.1)->(G.map fun g=>(g.2.map List.length).sum).sum<=szG G
 | [],_=>by simp
 |g::G,h=>by
  have h1:=qeu (h g (by simp));have h2:=qev (G:=G) fun q hq=>h q (by simp[hq])
  rw[zle,List.map_cons,List.sum_cons];omega
theorem z8s(C:List (List (List (List Nat)))):C.flatten.flatten.length=(C.map fun X=>(X.map List.length).sum).sum:=by
 induction C with
 |nil=>rfl
 |cons X C ih=>rw[List.flatten_cons,List.flatten_append,List.length_append,List.map_cons,List.sum_cons,ih,List.length_flatten]
theorem qew{α:Type}{l:List α}{x:α}(d:α)(h:x∈l):∃i,i<l.length/\x=l.getD i d:=by obtain⟨i,hi,rfl⟩:=List.getElem_of_mem h;exact⟨i,hi,by rw[List.getD_eq_getElem?_getD,List.getElem?_eq_getElem hi];rfl⟩
theorem ztq{F:FootS}(b:List Nat)(h:zbq F):wA (zet F.groups (b.drop 4))<=5*(zet F.groups (b.drop 4)).flatten.flatten.length+65536/\(zet F.groups (b.drop 4)).flatten.flatten.length<=szG F.groups/\(zet F.groups (b.drop 4)).length<=65536/\(∀X∈zet F.groups (b.drop 4),X.length<=64/\ ∀x∈X,x.length<=65536/\ ∀p∈x,p.length<=b.length):=by
 have hp:=zlj h;obtain⟨n1,n2,n3⟩:=z0t h;have shp:=ziw F.groups (b.drop 4);have hlen:(zet F.groups (b.drop 4)).length=F.groups.length:=zjj _ _;have hat:∀X∈zet F.groups (b.drop 4),X.length<=64/\ ∀x∈X,x.length<=65536/\1<=x.length:=by
  intro X hX;obtain⟨k,hk,rfl⟩:=qew [] hX;rw[zjj] at hk;obtain⟨m1,m2⟩:=n3 k hk;rw[ziu _ _ _ hk];refine⟨by rw[zlf,m1];exact n2,fun x hx=>?_⟩;obtain⟨j,hj,rfl⟩:=qew [] hx;rw[zlf] at hj;rw[cutC_at _ _ _ hj,zji];have m3:=m2 j (by omega);unfold zav at m3;refine⟨m3,?_⟩;have hck:=(zjh h hk (c:=j) (by omega)).1;have hg1:=(h.2.1 _ (zai zak hk)).1;have:=hck.2;have e0:∀l:List za2,1<=zmc l->1<=l.length:=fun l hl=>by
   cases l with
   |nil=>simp[zmc] at hl
   |cons a l=>simp
  exact e0 (zav F.groups k j) (by omega)
 have hw:=qis (C:=zet F.groups (b.drop 4)) fun X hX x hx=>((hat X hX).2 x hx).2
 have hge:=qev (G:=F.groups) fun g hg l hl p hp'=>(hp g hg l hl p hp').1
 have hfl:(zet F.groups (b.drop 4)).flatten.flatten.length=(F.groups.map fun g=>(g.2.map List.length).sum).sum:=by rw[z8s];have e:=congrArg (fun z=>(z.map List.sum).sum) shp;simpa[List.map_map,Function.comp_def] using e
 refine⟨by omega,by omega,by omega,fun X hX=>⟨(hat X hX).1,fun x hx=>⟨((hat X hX).2 x hx).1,fun p hp'=>?_⟩⟩⟩;have:=(zlh (G:=F.groups) (x:=b.drop 4) (p:=p) (by rw[List.mem_flatten];exact⟨x,by rw[List.mem_flatten];exact⟨X,hX,hx⟩,hp'⟩)).2
 rw[List.length_drop] at this;omega
def zv2(b:List Nat):Prop:=b.length<=140737488351232/\ ∀F s,openO b=some (F,s)->s.length<=9000000/\(zet F.groups (b.drop 4)).flatten.flatten.length<=1000000/\ ∀p∈(zet F.groups (b.drop 4)).flatten.flatten,p.length<=9000000
theorem zgd{b:List Nat}(h8:∀x∈b,x<256)(hb:b.length<=1000000):zv2 b:=by refine⟨by omega,fun F s ho=>?_⟩;obtain⟨a1,a2,a3,a4,a5,a6,a7⟩:=zfs h8 (by omega) ho;obtain⟨f1,f2,f3,f4⟩:=ztq b a1;refine⟨by omega,by omega,fun p hp=>?_⟩;have:=(zlh hp).2;rw[List.length_drop] at this;omega
open Go.RowKit Go.Hm
noncomputable def zwq(b:List Nat)(F:FootS)(g c p:Int):Option (List Nat):=
 if ze0 F g c p<0\/(F.groups.length:Int)<=g then none
 else if(b.length:Int)<4+ze0 F g c p+((zav F.groups g.toNat c.toNat).getD p.toNat zbr).1 then none
 else some ((b.drop (4+(ze0 F g c p).toNat)).take ((zav F.groups g.toNat c.toNat).getD p.toNat zbr).1.toNat)
theorem z9u{F:FootS}{g c p:Int}(h:0<=ze0 F g c p)(hg:g<(F.groups.length:Int)):
 zbq F/\ ∃gk ck pk:Nat,g=(gk:Int)/\c=(ck:Int)/\p=(pk:Int)/\gk<F.groups.length/\ck<F.cols.length/\pk<(zav F.groups gk ck).length:=by
 unfold ze0 at h;split at h
 ·rename_i hc
  rw[Bool.and_eq_true,Bool.or_eq_true,Bool.and_eq_true] at hc;obtain⟨h1,h2⟩:=hc;have hok:zbq F:=by unfold zff at h1;simpa using h1
  rcases h2 with h2|⟨h2,h3⟩
  ·unfold qc1 at h2
   simp only[decide_eq_true_eq] at h2;omega
  ·obtain⟨gk,ck,rfl,rfl,h4,h5⟩:=z78 h2
   unfold pgB at h3;simp only[decide_eq_true_eq,Int.toNat_natCast] at h3;exact⟨hok,gk,ck,p.toNat,rfl,rfl,by omega,h4,h5,by omega⟩
 ·omega
theorem z1b{F:FootS}(h:zbq F){gk ck pk:Nat}(h1:gk<F.groups.length)(h2:ck<F.cols.length)(h3:pk<(zav F.groups gk ck).length):ze0 F (gk:Int) (ck:Int) (pk:Int)=zcz F.groups gk ck pk:=by
 unfold ze0;have e:zff F=true:=by unfold zff;simpa using h
 have e1:inB F.cols.length F.groups.length (gk:Int) (ck:Int)=true:=by unfold inB;simp;omega
 have e2:pgB (zav F.groups gk ck).length (pk:Int)=true:=by unfold pgB;simp;omega
 simp only[e,e1,Int.toNat_natCast,e2,Bool.true_and,Bool.or_true,if_true]
def qdv(o:Option (List Nat))(w:World)(e:Ending)(w':World):Prop:=
 New w w'/\match o with
 |none=>e= .returned (.tuple #[.slice none 0 0,.bool false])
 |some x=>∃A n c,e= .returned (.tuple #[.slice A n c,.bool true])/\Go.Hm.Own w' w.heap.size 5 (.slice A n c) (zao .u8 x)
set_option maxRecDepth 100000 in
theorem qdw{w:World}{A:Option Addr}{cb:Nat}{b:List Nat}{Ac:Option Addr}{cc:Nat}{L:List zbc}{r:Int}{Ag:Option Addr}{cg:Nat}{G:List GrD}{g c p:Int}
 (hb:Reads w w.heap.size 1 A b.length (zao .u8 b))(hbc:b.length<=cb)
 (h:FootIn w Ac cc L Ag G)(hp:∀g∈G,∀x∈g.2.2.2,∀p∈x.2.2,zec p.2.2):
 Calls Tryz.prog 33 #[.slice A b.length cb,zlb Ac cc L r Ag cg G,.int .i64 g,.int .i64 c,.int .i64 p] w (qdv (zwq b (zbt L r G) g c p) w):=by
 have b0:New w (w.alloc (.cells #[.slice Ac L.length cc,.int .i64 r,.slice Ag G.length cg] 79)):=(Below.refl _ _).alloc (Nat.le_refl _) _;have B0:=Blk.new w 79 #[.slice Ac L.length cc,.int .i64 r,.slice Ag G.length cg];have PL:=Hz (fun(W:World) (hW:New w W)=>zvq (r:=r) (cc:=cc) (cg:=cg) (g:=g) (c:=c) (p:=p) (h.later hW) hp);have hy:= @z9u (zbt L r G) g c p;have hgl:(zbt L r G).groups.length=G.length:=by unfold zbt;simp
 obtain⟨X,hX⟩:∃X,X=zwq b (zbt L r G) g c p:=⟨_,rfl⟩;rw[<-hX];unfold zwq at hX;rw[hgl] at hX hy;generalize hV:ze0 (zbt L r G) g c p=V at*;unfold zlb at PL⊢;obtain⟨x0,x1,x2⟩:=zan B0;replace hX:=Hz hX;replace hy:=Hz hy;replace hV:=Hz hV;have HF:=Hz h;have HR:=Hz hb;clear h hb hp;go_enter Tryz.func33,Tryz.ntmps33
 go_wp2_with fail
 refine(PL.out _ b0).mono ?_;rintro e w1 ⟨rfl,b1⟩;have b01:=New.trans b0 b1;have B1:=B0.below b1 B0.lt;clear PL x0 x1 x2 B0 b0 b1;obtain⟨x0,x1,x2⟩:=zan B1;by_cases hlt:V<0
 ·have hN:X=none:=by rw[hX.out,if_pos (.inl hlt)]
  subst hN;clear hX hy hV HF HR hgl;go_wp2_with fail
  go_ret2
  exact⟨b01,rfl⟩
 ·by_cases hg:(G.length:Int)<=g
  ·have hN:X=none:=by rw[hX.out,if_pos (.inr hg)]
   subst hN;have hlt2:0<=V:=by omega
   clear hX hy hV HF HR hlt hgl;go_wp2_with fail
   go_ret2
   exact⟨b01,rfl⟩
  ·have hx:=hX.out
   rw[if_neg (by omega)] at hx;obtain⟨hok,gk,ck,pk,rfl,rfl,rfl,h1,h2,h3⟩:=hy.out (by omega) (by omega);have hv0:=hV.out;rw[z1b hok (by rw[hgl];exact h1) h2 h3] at hv0;have hv:=zj7 hok (by rw[hgl];exact h1) h2 h3;rw[hv0] at hv;have hcl:(G.getD gk grZ).2.2.2.length=L.length:=by have:=(zcr hok (k:=gk) (by rw[hgl];exact h1)).2.1;unfold zbt at this;dsimp only at this;rw[zbk grP G grZ zak h1] at this;unfold grP at this;simpa using this
   have h2:ck<L.length:=h2;have hpa:zav (zbt L r G).groups gk ck=((G.getD gk grZ).2.2.2.getD ck chZ).2.2:=by unfold zav zbt;dsimp only;rw[zbk grP G grZ zak h1];exact zbk (fun x:ChD=>x.2.2) (G.getD gk grZ).2.2.2 chZ [] (by omega)
   simp only[Int.toNat_natCast] at hx;rw[hpa] at hx h3 hv;have FI:=HF.out.later b01;have RB:=Reads.later HR.out b01;have hgm:G.getD gk grZ∈G:=zai grZ h1;obtain⟨rch,_⟩:=FI.chunks _ hgm;have hcm:(G.getD gk grZ).2.2.2.getD ck chZ∈(G.getD gk grZ).2.2.2:=zai chZ (by omega);obtain⟨rpg,_⟩:=FI.pages _ hgm _ hcm;obtain⟨ag,rfl,_,g0,g1⟩:=FI.groups.gr2 h1;have hl5:=FI.few2;generalize G.getD gk grZ=gd at*;obtain⟨gr,Ach,cch,D⟩:=gd;dsimp only at rch hcl hcm rpg g0 g1 hx hv h3;obtain⟨ac,rfl,_,d0⟩:=rch.ch1 (i:=ck) (by omega);generalize D.getD ck chZ=cd at*;obtain⟨Ap,cp,P⟩:=cd;dsimp only at rpg d0 hx hv h3;obtain⟨ap,rfl,_,p0,_⟩:=rpg.page14 h3;have hpl:P.length<=4611686018427387903:=by omega
   generalize(P.getD pk zbr).1=sz at*;obtain⟨vn,rfl⟩:=Int.eq_ofNat_of_zero_le (show 0<=V by omega);obtain⟨sn,rfl⟩:=Int.eq_ofNat_of_zero_le (show 0<=sz by omega);have k1:vn+sn<=1073741824:=by have:=hv.2.1;have:=hv.2.2.1;omega
   simp only[Int.toNat_natCast] at hx;have HX:=Hz hx;have HCM:=Hz hcm;have hck:ck<D.length:=by omega
   have hcd:D.length<=4611686018427387903:=by have:=FI.few;omega
   have j1:(0:Int)<=(vn:Int):=by omega
   have j2:(gk:Int)<(G.length:Int):=by omega
   have j3:(ck:Int)<(D.length:Int):=by omega
   have j4:(pk:Int)<(P.length:Int):=by omega
   have j5:(vn:Int)+(sn:Int)<=1073741824:=by omega
   replace RB:=Hz RB;clear hX hy hV HF HR hgl hv hv0 hok hpa hx hcm FI rch rpg hgm hcl;by_cases hs:(b.length:Int)<4+(vn:Int)+(sn:Int)
   ·have hN:X=none:=by rw[HX.out,if_pos hs]
    subst hN;have B01:=Hz b01;clear hlt hg RB HX HCM h1 h2 h3 hbc hpl hck hcd k1 hl5 b01;go_wp2_with fail
    go_ret2
    exact⟨B01.out,rfl⟩
   ·have hN:X=some ((b.drop (4+vn)).take sn):=by rw[HX.out,if_neg hs]
    subst hN;have hs2:4+(vn:Int)+(sn:Int)<=(b.length:Int):=by omega
    have S1:(Instr.sliceAt 24 (.slice A b.length cb) (some (.int .i64 (4+(vn:Int)))) (some (.int .i64 (4+(vn:Int)+(sn:Int)))) none).run Tryz.prog w1= .ok (.slice (if cb=4+vn then A else A.map (·.add ((4+vn)*1))) sn (cb-(4+vn))) w1:=by have:=zhe zwe zwf A b.length cb (4+vn) (4+vn+sn) (by omega) (by omega) w1;rwa[show((4+vn:Nat):Int)=4+(vn:Int) by omega,show((4+vn+sn:Nat):Int)=4+(vn:Int)+(sn:Int) by omega,show 4+vn+sn-(4+vn)=sn by omega] at this
    have R1:Reads w1 w1.heap.size 1 (if cb=4+vn then A else A.map (·.add ((4+vn)*1))) sn (zao .u8 ((b.drop (4+vn)).take sn)):=by have:=(RB.out.cut (k:=4+vn) (cap:=cb) (by omega) hbc).take (k:=sn) (by omega);simpa only[Nat.mul_one,zd6,zen] using this
    have CL:=Hz (zg4 (c:=cb-(4+vn)) R1 (by omega));generalize(if cb=4+vn then A else A.map (·.add ((4+vn)*1)))=A2 at*;generalize cb-(4+vn)=c2 at*;have B01:=Hz b01;clear hlt hg RB HX HCM h1 h2 h3 hbc hpl hck hcd k1 hl5 b01 R1 hs;go_wp2_with fail
    refine CL.out.mono ?_;rintro e w2 ⟨A3,n3,c3,rfl,o3,b2⟩;clear CL S1;go_wp2_with fail
    go_ret2
    exact⟨New.trans B01.out b2,A3,n3,c3,rfl,o3.base_le B01.out.size⟩
open Go.RowKit Go.Hm
section
variable{ops:Array Oper}{rest:List Oper}{o:Oper}{a:Act}{Q:Exit->Act->World->Prop}
theorem zp9{w:World}(hgd:o.guard=none)(s x:Operand)(ho:o.op= .call {callee:= .builtin .append,args:= #[s,x],argTypes:= #[tS,tS]})
 {base n m c:Nat}{v:Value}{xs:List Value}{P:List (List Nat)}{A:Option Addr}(hown:w.ownsRow base tD 32 v n xs)(hr:Reads w w.heap.size 32 A m (recs zh4 P))(hs:a.eval s=v)(hx:a.eval x= .slice A m c)
 (hbase:base<=w.heap.size)(hn:n+m<=100000)
 (h:∀A' c' w',n+m<=c'->c'<=maxLen->w'.ownsRow base tD 32 (.slice A' (n+m) c') (n+m) (xs++recs zh4 P)->w.grownBy w' v.ownBlock->wpList Tryz.prog ops Q rest (a.put o.dst (.slice A' (n+m) c')) w'):
 wpList Tryz.prog ops Q (o::rest) a w:=
 wpList_plain hgd fun _ hK=>zw8 elD s x ho hown hr hs hx (Below.refl 0 w) (Nat.zero_le _) hbase (qd0 _) (by omega) (by simp only[maxLen];omega) fun A' c' w' a1 a2 a3 a4 _=>hK _ _ (h A' c' w' a1 a2 a3 a4)
end
def ChSt(w0:World)(base g:Nat)(V:Value)(v:Value)(F P:List (List Nat))(W:World):Prop:=
 ∃V',LogOf tL W base g V' F/\(V'.ownBlock=V.ownBlock\/ ∃h,V'.ownBlock=some h/\w0.heap.size<=h)/\Turns (g::zbm V) w0 W/\W.ownsRow w0.heap.size tD 32 v P.length (recs zh4 P)
theorem qd3{W W':World}{base base' g n:Nat}{V v:Value}{F:List (List Nat)}{xs:List Value}(o:W.ownsRow base' tD 32 v n xs)(l:LogOf tL W base g V F)(t:Turns (g::zbm V) W W'):W'.ownsRow base' tD 32 v n xs:=by
 refine zoi o t (fun x hx=>?_);obtain⟨A,n,c,D,rfl,hg,ho,_⟩:=l;rcases List.mem_cons.1 hx with rfl|hx
 ·exact zas o hg (by decide)
 ·exact zoj o ho (by decide) x hx
theorem qd4{W W':World}{base base' g n:Nat}{V v:Value}{F:List (List Nat)}{xs:List Value}(l:LogOf tL W base g V F)(o:W.ownsRow base' tD 32 v n xs)(gr:W.grownBy W' v.ownBlock):LogOf tL W' base g V F:=by have T1:Turns (zbm v) W W':=Turns.row gr;obtain⟨Al,nl,cl,D,rfl,hg,ho,hp,hD⟩:=l;have l:LogOf tL W base g (.slice Al nl cl) F:=⟨Al,nl,cl,D,rfl,hg,ho,hp,hD⟩;exact l.turn T1 (ze2 o hg (by decide)) (zoj ho o (by decide)) (fun x hx _ cs hB=>ze2 o hB (by decide) hx)
section
variable{w0 W W':World}{base g:Nat}{V v:Value}{F F2 P:List (List Nat)}
theorem ChSt.first(h:LogOf tL w0 base g V F):ChSt w0 base g V (.slice none 0 0) F [] w0:=⟨V,h,.inl rfl,Turns.refl _ _,⟨rfl,.inl ⟨rfl,rfl⟩⟩⟩
theorem ChSt.turn(h:ChSt w0 base g V v F P W){V1 V2:Value}(l1:LogOf tL W base g V1 F)(l2:LogOf tL W' base g V2 F2)(a2:V2.ownBlock=V1.ownBlock\/ ∃h,V2.ownBlock=some h/\W.heap.size<=h)(t2:Turns (g::zbm V1) W W'):ChSt w0 base g V v F2 P W':=by obtain⟨V',l,a,t,o⟩:=h;obtain rfl:=z9x l l1;exact⟨V2,l2,zf5 t.size a a2,zbp t a t2,qd3 o l1 t2⟩
theorem ChSt.new(h:ChSt w0 base g V v F P W)(k:New W W'):ChSt w0 base g V v F P W':=by obtain⟨V',l,a,t,o⟩:=h;exact⟨V',l.new k,a,t.trans (Turns.of_new k),za5 o k⟩
theorem ChSt.push(h:ChSt w0 base g V v F P W){A':Option Addr}{c' n:Nat}{P2:List (List Nat)}(o':W'.ownsRow w0.heap.size tD 32 (.slice A' n c') n (recs zh4 P2))(hn:n=P2.length)(gr:W.grownBy W' v.ownBlock):ChSt w0 base g V (.slice A' n c') F P2 W':=by subst hn;obtain⟨V',l,a,t,o⟩:=h;exact⟨V',qd4 l o gr,a,z9w t (Turns.row gr) (fun x hx=>(zoh o x hx).1),o'⟩
theorem ChSt.join{w1:World}{vc:Value}{P1:List (List Nat)}(h:ChSt w0 base g V v F P w1){V1:Value}(l1:LogOf tL w1 base g V1 F)(k:ChSt w1 base g V1 vc F2 P1 W):ChSt w0 base g V v F2 P W:=by obtain⟨V',l,a,t,o⟩:=k;exact h.turn l1 l a t
end
theorem z91{w w':World}{A:Option Addr}{b:List Nat}{T:List Nat}{r:ziy}(hT:∀x∈T,x<w.heap.size)(hfar:0<b.length-> ∀ad,A=some ad->ad.block∉T)(h1:RowBIn w' r/\ ∀ad,r.1=some ad->w.heap.size<=ad.block)(h2:∀d∈r.2.2,PieceOf A w' d)
 (h3:∀d∈r.2.2,(∀x∈d.2.2,x<256)/\d.2.2.length<=b.length/\d.2.2.length<=9000000):DataF w' r.1 r.2.2 T:=by
 refine⟨h1.1,fun _ ad ha hm=>?_,fun d hd=>?_⟩
 ·have:=h1.2 ad ha
  have:=hT _ hm;omega
 ·obtain⟨⟨p1,p2,p3⟩,p4⟩:=h2 d hd
  obtain⟨q1,q2,q3⟩:=h3 d hd;refine⟨p1,fun h0 ad ha hm=>?_,p2,p3,q1,q3⟩;obtain⟨a0,e1,e2⟩:=p4 ad ha;rw[e2] at hm;exact hfar (by omega) a0 e1 hm
theorem qd5{W:World}{base base' g n c:Nat}{V:Value}{F:List (List Nat)}{A:Option Addr}{xs:List Value}(h:Go.Hm.Own W base 5 (.slice A n c) xs)(l:LogOf tL W base' g V F):0<xs.length-> ∀ad,A=some ad->ad.block∉g::zbm V:=by
 intro h0 ad ha;subst ha;unfold Go.Hm.Own at h;rcases h.2 with⟨e,h2⟩|⟨g',cap,cur,hv,_,hg,_⟩
 ·omega
 ·injection hv with e1 e2 e3
  injection e1 with e1;subst e1;exact l.notT (show Blk W g' 5 cur from hg) (by decide) (by decide)
theorem zhh{P:Program}{fn:Func}{p q:Tmp}{ty:TypeId}(h:fn.results= #[.cell p ty,.tmp q])(tmps:Array Value)(w:World)(g:Nat)(t:TypeId)(cs:Array Value)(fr:Nat × Nat)(d:TypeDesc)
 (hp:tmps.getD p undef= .pointer (some ⟨g,0,none⟩))(hg:w.heap[g]? =some (.cells cs t fr))
 (hu:P.underlying ty=some d)(hd:(match d with| .struct _| .array _ _=>true|_=>false)=true)(hi:(P.info? ty).map (·.size)=some cs.size):
 (results fn tmps).run P w= .ok (.tuple #[.agg cs,tmps.getD q undef]) w:=by
 have hp':tmps[p]?.getD undef= .pointer (some ⟨g,0,none⟩):=by simpa using hp
 simp[results,h,hp',asAddr,run_loadVar_row w g t ty cs fr d hg hu hd hi]
noncomputable def zr6(b:List Nat):List Nat:=match openO b with|none=>List.replicate 32 0|some x=>zpt x.1.groups b x.2
noncomputable def znz(b:List Nat):Int:=match openO b with|none=>2|some _=>0
noncomputable def zn0(b:List Nat):List (List Nat):=match openO b with|none=>[]|some x=>zne x.1.groups b x.2
theorem zgs(b:List Nat):zlr (zr6 b):=by
 unfold zr6;split
 ·exact⟨rfl,fun x hx=>by have:=(List.mem_replicate.1 hx).2;omega⟩
 ·exact zb7 _ _
theorem z1h{b:List Nat}(h:znz b=0):∃F s,openO b=some (F,s)/\zr6 b=zpt F.groups b s/\zn0 b=zne F.groups b s:=by
 unfold znz at h;cases ho:openO b with
 |none=>rw[ho] at h;cases h
 |some x=>exact⟨x.1,x.2,rfl,by unfold zr6;rw[ho],by unfold zn0;rw[ho]⟩
theorem z92{b:List Nat}{F:FootS}{s:List Nat}(ho:openO b=some (F,s)):znz b=0/\zr6 b=zpt F.groups b s/\zn0 b=zne F.groups b s:=by unfold znz zr6 zn0;rw[ho];exact⟨rfl,rfl,rfl⟩
theorem z1i{b:List Nat}(ho:openO b=none):zr6 b=List.replicate 32 0/\znz b=2/\zn0 b=[]:=by unfold zr6 znz zn0;rw[ho];exact⟨rfl,rfl,rfl⟩
def qe6(b:List Nat)(base g:Nat)(V:Value)(F:List (List Nat))(w:World):Ending->World->Prop:=zfk tL (.tuple #[dV (zr6 b),.int .i64 (znz b)]) base g V (F++zn0 b) w
end Go.Proofs.Y
