/- Merged. -/
import Derived.Test.YtmgfkpnghlmheaaGreatBun48
import Derived.Test.YtmgfkpnghlmheaaGreatBun49
set_option maxHeartbeats 4000000
namespace Go.Proofs.Y
open Go Go.RowKit Go.Hm
theorem z0z:∀(l:List (List Nat)) (a:List Nat),∀s∈l,s.length<=a.length+(zkx a l).length
 | [],_,_,h=>by cases h
 |t::l,a,s,h=>by
  have h1:=zhx a t;have h2:t.length<=a.length+(fpiece a t).length:=by unfold fpiece;simp only[List.length_append,List.length_drop];omega
  have e:(zkx a (t::l)).length=(fpiece a t).length+(zkx t l).length:=by rw[zkx,List.length_append]
  rcases List.mem_cons.1 h with rfl|h
  ·omega
  ·have:=z0z l t s h
   omega
theorem zwh{l:List zab}{c:zab}(h:c∈l):c.2.2.1.length<=(plB 2 l).length:=by
 unfold plB;rw[if_neg (by omega)];induction l with
 |nil=>cases h
 |cons x l ih=>
  rw[List.flatMap_cons,List.length_append];rcases List.mem_cons.1 h with rfl|h
  ·have:(plE 2 c).length=(vp c.2.2.1.length).length+c.2.2.1.length:=by simp[plE]
   omega
  ·have:=ih h
   omega
theorem qgm{e:Int}{l:List zab}{b:List Nat}(hf:fitsV 2 e=true)(h:zdh 2 e l=some b):∀c∈l,c.2.2.1.length<=b.length:=by
 intro c hc;have he:e=0\/e=1\/e=4:=by unfold fitsV at hf;rw[decide_eq_true_eq] at hf;omega
 unfold zdh at h;rcases he with rfl|rfl|rfl
 ·rw[if_pos rfl] at h
  unfold plO at h;split at h
  ·injection h with h
   subst h;exact zwh hc
  ·cases h
 ·rw[if_neg (by omega),if_pos rfl] at h
  unfold zg2 at h;split at h
  ·cases h
  ·rename_i V hV
   split at h
   ·injection h with h
    subst h;unfold plO at hV;split at hV
    ·injection hV with hV
     have:=zwh ((zgd l c).2 hc);rw[hV] at this;simp only[List.length_append];omega
    ·cases hV
   ·cases h
 ·rw[if_neg (by omega),if_neg (by omega)] at h
  split at h
  ·rw[if_neg (by omega),if_neg (by omega)] at h
   unfold ztt at h;split at h
   ·injection h with h
    subst h;have:=z0z (zbi l) [] c.2.2.1 (List.mem_map.2 ⟨c,hc,rfl⟩);simpa using this
   ·cases h
  ·cases h
theorem z9d{c:zab}{t:Int}{nu:Bool}(h:zac c t nu=true)(ht:c.1=true\/t≠2):c.2.2.1=[]:=by
 unfold zac at h;split at h
 ·simp at h
  exact h.2.2.1
 ·rename_i h1
  have ht:=ht.resolve_left h1;split at h
  ·simp at h;exact h.1
  ·split at h
   ·simp at h;exact h.1.1
   ·split at h
    ·simp at h;exact h.1.2
    ·cases h
theorem qdl{t:Int}{nu:Bool}{e:Int}{l:List zab}{b:List Nat}(h:pgE t nu e l=(0,b)):∀c∈l,c.2.2.1.length<=b.length:=by
 intro c hc;obtain⟨-,-,hr,hf,d,hd,rfl⟩:=zg7 h;by_cases h2:c.1=true\/t≠2
 ·rw[z9d (hr c hc) h2]
  simp
 ·rw[not_or,Decidable.not_not] at h2
  obtain⟨h3,rfl⟩:=h2;have hv:c∈zbz l:=List.mem_filter.2 ⟨hc,by simpa using h3⟩;have:=qgm hf hd c hv;simp only[List.length_cons,List.length_append];omega
theorem z9e{t:Int}{nu:Bool}{p:zay}{b:List Nat}{l:List zab}(h:SheOk t nu p b l):∀y∈l,zac y t nu=true/\y.2.2.1.length<=b.length/\zai y:=by obtain⟨⟨e,_,hB⟩,hd⟩:=h.1.sound l rfl;exact fun y hy=>⟨(zg7 hB).2.2.1 y hy,qdl hB y hy,hd y hy⟩
def OkC(cols:List za2)(M:Nat)(rowf:Nat->Int)(S:TSt):Prop:=
 ∀D R,S=some (D,R)->D.length=cols.length/\(∀b∈R,b.length<=M)/\ ∀j,j<cols.length->((D.getD j []).length:Int)=rowf j/\ ∀y∈D.getD j [],zac y (cols.getD j zc4).2.1 (cols.getD j zc4).2.2=true/\y.2.2.1.length<=M/\zai y
section
variable{cols:List za2}{M:Nat}
theorem OkC.none_{rowf:Nat->Int}:OkC cols M rowf none:=fun _ _ h=>by cases h
theorem qgn{j:Nat}(hj:j<cols.length){p:zay}{rowf:Nat->Int}:∀{S:TSt},OkC cols M rowf S->OkC cols M (fun i=>if i=j then rowf i+p.2.1 else rowf i) (pgT (cols.getD j zc4) j S p)
 |none,_=>OkC.none_
 |some (D,[]),_=>OkC.none_
 |some (D,b::P),hS=>by
  obtain⟨h1,h2,h3⟩:=hS D (b::P) rfl;unfold pgT;dsimp only;cases hs:z9n (cols.getD j zc4).2.1 (cols.getD j zc4).2.2 p b with
  |none=>exact OkC.none_
  |some l=>
   have hok:=z76 hs;have hc:=z9e hok;intro D' R hDR;injection hDR with hDR;injection hDR with e1 e2;subst e1 e2;refine⟨by rw[List.length_set];exact h1,fun x hx=>h2 x (by simp[hx]),fun i hi=>?_⟩;by_cases hij:i=j
   ·subst hij
    have e:(D.set i (D.getD i []++l)).getD i []=D.getD i []++l:=by rw[List.getD_eq_getElem?_getD,List.getElem?_set_self (by omega)];rfl
    obtain⟨k1,k2⟩:=h3 i hi;rw[e];dsimp only;rw[if_pos rfl];refine⟨by rw[List.length_append];have:=hok.2.2.1;omega,fun y hy=>?_⟩;rcases List.mem_append.1 hy with hy|hy
    ·exact k2 y hy
    ·obtain⟨r1,r2,r3⟩:=hc y hy
     exact⟨r1,by have:=h2 b (by simp);omega,r3⟩
   ·have e:(D.set j (D.getD j []++l)).getD i []=D.getD i []:=by
     rw[List.getD_eq_getElem?_getD,List.getElem?_set_ne (by omega),List.getD_eq_getElem?_getD]
    rw[e];dsimp only;rw[if_neg hij];exact h3 i hi
theorem OkC.congr{f g:Nat->Int}{S:TSt}(h:OkC cols M f S)(e:∀j,j<cols.length->f j=g j):OkC cols M g S:=fun D R hS=>by obtain⟨h1,h2,h3⟩:=h D R hS;exact⟨h1,h2,fun j hj=>⟨by rw[<-e j hj];exact(h3 j hj).1,(h3 j hj).2⟩⟩
theorem z9f{j:Nat}(hj:j<cols.length):∀(l:List zay) {rowf:Nat->Int} {S:TSt},OkC cols M rowf S->OkC cols M (fun i=>if i=j then rowf i+zk3 l else rowf i) (chT (cols.getD j zc4) j S l)
 | [],rowf,S,h=>h.congr fun i _=>by simp[zk3]
 |p::l,rowf,S,h=>(z9f hj l (qgn hj h)).congr fun i _=>by
  rw[zfm];split<;> omega
theorem z00:∀(C:List (List zay)) (j:Nat) {rowf:Nat->Int} {S:TSt},j+C.length<=cols.length->OkC cols M rowf S->OkC cols M (fun i=>if j<=i/\i<j+C.length then rowf i+zk3 (C.getD (i-j) []) else rowf i) (zp9 cols j C S)
 | [],j,rowf,S,_,h=>h.congr fun i _=>by rw[if_neg (by rintro⟨h1,h2⟩;simp at h2;omega)]
 |l::C,j,rowf,S,hj,h=>by
  rw[List.length_cons] at hj;refine(z00 C (j+1) (by omega) (z9f (j:=j) (by omega) l h)).congr fun i _=>?_
  rw[List.length_cons];by_cases h1:i=j
  ·subst h1
   rw[if_neg (by omega),if_pos rfl,if_pos (by omega),Nat.sub_self];rfl
  ·by_cases h2:j+1<=i/\i<j+1+C.length
   ·rw[if_pos h2,if_neg h1,if_pos (by omega),show i-j=(i-(j+1))+1 by omega,List.getD_cons_succ]
   ·rw[if_neg h2,if_neg h1,if_neg (by omega)]
theorem qgo{g:za4}(hg:GroupOk cols g){a:Int}{S:TSt}(h:OkC cols M (fun _=>a) S):OkC cols M (fun _=>a+g.1) (grT cols S g):=by
 refine(z00 g.2 0 (by have:=hg.2.1;omega) h).congr fun i hi=>?_
 rw[if_pos (by have:=hg.2.1;omega),Nat.sub_zero];have:=(hg.2.2 i hi).2;omega
theorem z9g:∀(G:List za4),(∀g∈G,GroupOk cols g)-> ∀{a:Int} {S:TSt},OkC cols M (fun _=>a) S->OkC cols M (fun _=>a+(G.map (·.1)).sum) (G.foldl (grT cols) S)
 | [],_,a,S,h=>h.congr fun i _=>by simp
 |g::G,hG,a,S,h=>(z9g G (fun q hq=>hG q (by simp[hq])) (qgo (hG g (by simp)) h)).congr fun i _=>by
  rw[List.map_cons,List.sum_cons];omega
end
theorem zr6{F:FootS}{P:List (List Nat)}{D:List (List zab)}{M:Nat}(h:z0g F P=some D)(hM:∀b∈P,b.length<=M):
 zbj F/\D.length=F.cols.length/\ ∀j,j<F.cols.length->((D.getD j []).length:Int)=F.rows/\ ∀y∈D.getD j [],zac y (F.cols.getD j zc4).2.1 (F.cols.getD j zc4).2.2=true/\y.2.2.1.length<=M/\zai y:=by
 unfold z0g at h;split at h
 ·rename_i hr
  have hF:zbj F:=by unfold zdl at hr;simpa using hr
  have h0:OkC F.cols M (fun _=>0) (some (List.replicate F.cols.length [],P)):=fun D R e=>by
   injection e with e;injection e with e1 e2;subst e1 e2;refine⟨by rw[List.length_replicate],hM,fun j hj=>?_⟩;have e:(List.replicate F.cols.length ([]:List zab)).getD j []=[]:=by rw[List.getD_eq_getElem?_getD,List.getElem?_replicate,if_pos hj];rfl
   rw[e];exact⟨rfl,fun y hy=>by cases hy⟩
  have h1:=z9g F.groups hF.2.1 h0;unfold qd8 at h;have e:ztw F P F.groups.length=F.groups.foldl (grT F.cols) (some (List.replicate F.cols.length [],P)):=by unfold ztw;rw[List.take_length]
  rw[e] at h;split at h
  ·rename_i D' hD'
   injection h with h;subst h;obtain⟨a1,a2,a3⟩:=h1 _ _ hD';refine⟨hF,a1,fun j hj=>⟨?_,(a3 j hj).2⟩⟩;have h5:=(a3 j hj).1;dsimp only at h5;have h6:=hF.2.2.1;omega
  ·cases h
 ·cases h
theorem z3n{F:FootS}{P:List (List Nat)}{D:List (List zab)}{M:Nat}{DD:List zdy}(h:z0g F P=some D)(hM:∀b∈P,b.length<=M)(hD:DD.map (·.2.2)=D):tabCk F.cols F.rows DD=0:=by
 obtain⟨hF,h1,h2⟩:=zr6 h hM;have hl:DD.length=F.cols.length:=by rw[<-h1,<-hD,List.length_map]
 have hrow:0<=F.rows:=by have h3:=zfn (fun g:za4=>g.1) F.groups (fun g hg=>by have:=(hF.2.1 g hg).1;omega);have:=hF.2.2.1;omega
 have hat:∀k,k<DD.length->(DD.getD k (none,0,[])).2.2=D.getD k []:=fun k hk=>by rw[<-hD,zba (fun d:zdy=>d.2.2) DD (none,0,[]) [] hk]
 unfold tabCk;rw[if_neg (by rw[(zdt F.cols).2 hF.1];simp),if_neg,if_pos]
 ·refine zps hl fun k hk=>?_
  rw[hat k hk];exact List.all_eq_true.2 fun y hy=>((h2 k (by omega)).2 y hy).1
 ·rw[Decidable.not_not]
  unfold zc0;rw[if_neg (by have:=hF.2.2.2.1;omega),if_neg (by omega),if_neg];rintro⟨d,hd,hne⟩;obtain⟨k,hk,rfl⟩:=List.getElem_of_mem hd;have e:DD[k]=DD.getD k (none,0,[]):=by rw[List.getD_eq_getElem?_getD,List.getElem?_eq_getElem hk];rfl
  rw[e,hat k hk] at hne;exact hne (h2 k (by omega)).1
open Go Go.RowKit Go.Hm
theorem z3o{c:zab}{t:Int}{nu:Bool}(h:zac c t nu=true)(hd:zai c):CellFine c:=by
 cases h0:c.1 with
 |false=>exact zp0 (zj5 (zjc h) h0) hd
 |true=>
  unfold zac at h;rw[if_pos h0] at h;simp at h;refine⟨hd.1,hd.2,?_⟩;rw[h.2.2.2.1,h.2.2.2.2];omega
theorem qdm{t:Int}{s:zc9}{M:Nat}(h1:s.2.2.1.2.2.1.length<=M)(h2:s.2.2.2.2.2.1.length<=M):(Go.Hm.putS [] t s).length<=70+2*M:=by
 unfold Go.Hm.putS;split
 ·rename_i h
  have hn:=(zi8 h).2;have v1:=zaj (n:=s.1.toNat) (by omega);split
  ·rename_i hh
   obtain⟨r1,r2,-⟩:=zi9 h hh;have a:=zln r1;have b:=zln r2;have he:(zjj t s).length<=40+2*M:=by
    unfold zjj plB;split
    ·rw[zbg];simp;omega
    ·simp only[List.flatMap_cons,List.flatMap_nil,List.append_nil,List.length_append]
     omega
   have h3:=zng h hh;have v3:=zaj (n:=(zjj t s).length) (by omega);simp only[List.length_append,List.length_cons,List.length_nil];omega
  ·simp only[List.length_append,List.length_cons,List.length_nil]
   omega
 ·simp
theorem qdn{t:Int}{l:List zab}{M:Nat}(h:∀y∈l,y.2.2.1.length<=M):(zjl t l).2.2.1.2.2.1.length<=M/\(zjl t l).2.2.2.2.2.1.length<=M:=by
 have hs:=zjd t l;cases hh:(zjl t l).2.1 with
 |true=>exact⟨h _ (hs.least hh).1.1,h _ (hs.most hh).1.1⟩
 |false=>
  obtain⟨e1,e2⟩:=hs.none hh;rw[e1,e2];exact⟨Nat.zero_le _,Nat.zero_le _⟩
theorem zwi{M:Nat}:∀l:List zab,(∀y∈l,y.2.2.1.length<=M)->fsum (zbi l)<=l.length*M
 | [],_=>by simp[zbi,fsum]
 |y::l,h=>by
  have h1:=h y (by simp);have h2:=zwi l fun z hz=>h z (by simp[hz])
  show fsum (y.2.2.1::zbi l)<=_;rw[zfx,List.length_cons,Nat.succ_mul];omega
set_option maxRecDepth 10000 in
theorem z3p{F:FootS}{DD:List zdy}(h0:tabCk F.cols F.rows DD=0)(hF:zbj F)(hnm:∀c∈F.cols,∀z∈c.1,z<256)(hd:∀d∈DD,∀y∈d.2.2,zai y/\y.2.2.1.length<=2500)(hr:F.rows<=2000):
 WrOk F.cols F.rows (DD.map (·.2.2)) 7 3/\zdg 7 3 (List.replicate F.cols.length 0) F.cols=0/\ ∃y,zf3 F.cols F.rows DD 7 3 (List.replicate F.cols.length 0)=(0,y):=by
 obtain⟨a1,a2,a3,a4,a5⟩:=zld h0;have hok:WrOk F.cols F.rows (DD.map (·.2.2)) 7 3:=⟨hF.1,hnm,by rw[List.length_map];exact a1,⟨a2,a3⟩,fun l hl=>by
  obtain⟨d,hd,rfl⟩:=List.mem_map.1 hl;exact a5 d hd,fun l hl c hc=>by
  obtain⟨d,hd1,rfl⟩:=List.mem_map.1 hl;exact(hd d hd1 c hc).1,by omega⟩
 have hz:∀i,i<F.cols.length->(List.replicate F.cols.length (0:Int)).getD i 0=0:=fun i hi=>by rw[List.getD_eq_getElem?_getD,List.getElem?_replicate,if_pos hi];rfl
 have h1:zdg 7 3 (List.replicate F.cols.length 0) F.cols=0:=by unfold zdg;rw[if_neg (by simp),if_pos];intro i hi;rw[List.length_replicate] at hi;rw[hz i hi];have:=hF.1.2.1 _ (zan zc4 hi);right;show fitsV (F.cols.getD i zc4).2.1 0=true;unfold fitsV;rw[decide_eq_true_eq];omega
 refine⟨hok,h1,?_⟩;have hri:=z9b h0;have hE:=(z9a h1).2;have hlen:=hok.len;have hcol:∀c,c<F.cols.length->((DD.map (·.2.2)).getD c []).length<=2000/\ ∀y∈(DD.map (·.2.2)).getD c [],y.2.2.1.length<=2500:=fun c hc=>by have hm:=zan [] (show c<(DD.map (·.2.2)).length by omega);refine⟨by have:=hok.all _ hm;omega,fun y hy=>?_⟩;obtain⟨d,hd1,e⟩:=List.mem_map.1 hm;rw[<-e] at hy;exact(hd d hd1 y hy).2
 have hs:∀c,c<F.cols.length->fsum (zbi ((DD.map (·.2.2)).getD c []))<=5000000:=fun c hc=>by have k1:=zwi _ (hcol c hc).2;have k2:((DD.map (·.2.2)).getD c []).length*2500<=2000*2500:=Nat.mul_le_mul_right _ (hcol c hc).1;omega
 have hp:=fun s q c h1 h2 h3=> @qic F.cols F.rows (List.replicate F.cols.length 0) (DD.map (·.2.2)) 7 3 hok hE hri (fun c hc=>by have:=hs c hc;omega) s q c h1 h2 h3
 have hcl:∀c,c<F.cols.length-> ∀q:Int × Int,(zao (DD.map (·.2.2)) c q).length<=2000:=fun c hc q=>by have:=(hcol c hc).1;unfold zao;rw[List.length_take,List.length_drop];omega
 have hpl:∀s∈zbr 0 F.rows 7,∀c,c<F.cols.length-> ∀q∈zbr s.1 s.2 3,(zfo F.cols (List.replicate F.cols.length 0) (DD.map (·.2.2)) c q).2.length<=16777216:=fun s hs2 c hc2 q hq=>by have h2:=(hp s q c hs2 hc2 hq).2;have h3:=hs c hc2;have h4:=qeh (DD.map (·.2.2)) c q;have h5:=hcl c hc2 q;unfold Wt at h2;unfold pgF at h2;omega
 have hWs:((DD.map (·.2.2)).map Wt).sum<=396800000:=by
  have k:=z9c (f:=Wt) (k:=6200000) (DD.map (·.2.2)) fun l hl=>by
   obtain⟨i,hi,e⟩:=List.getElem_of_mem hl;have e2:(DD.map (·.2.2)).getD i []=l:=by rw[List.getD_eq_getElem?_getD,List.getElem?_eq_getElem hi,e];rfl
   have k1:=hcol i (by omega);have k2:=hs i (by omega);rw[e2] at k1 k2;unfold Wt;omega
  have k2:(DD.map (·.2.2)).length<=64:=by omega
  generalize((DD.map (·.2.2)).map Wt).sum=x at*;generalize(DD.map (·.2.2)).length=y at*;clear hs hcol hpl hcl hp;omega
 refine z0v hok h0 h1 hri (fun s hs2 c hc2 q hq=>⟨(hp s q c hs2 hc2 hq).1,by have:=hpl s hs2 c hc2 q hq;omega⟩) ?_ ?_
 ·have:=qgl (E:=List.replicate F.cols.length 0) hok (fun s hs2 c hc2 q hq=>(hp s q c hs2 hc2 hq).2)
  omega
 ·have:=z89 (E:=List.replicate F.cols.length 0) (K:=5100) hok (fun t g hg l hl p hpp=>by
   obtain⟨s,hs2,rfl⟩:=List.mem_map.1 hg;obtain⟨c,hc2,rfl⟩:=List.mem_map.1 hl;obtain⟨q,hq,rfl⟩:=List.mem_map.1 hpp;have hc2:=List.mem_range.1 hc2;have h6:=hpl s hs2 c hc2 q hq;have h7:=hcl c hc2 q;have h8:=qdn (t:=(F.cols.getD c zc4).2.1) (l:=zao (DD.map (·.2.2)) c q) (M:=2500) fun y hy=>by unfold zao at hy;exact(hcol c hc2).2 y (List.mem_of_mem_drop (List.mem_of_mem_take hy))
   have h9:=qdm (t:=t) h8.1 h8.2;unfold zen zbu;dsimp only;have v1:=zaj (n:=((zfo F.cols (List.replicate F.cols.length 0) (DD.map (·.2.2)) c q).2.length:Int).toNat) (by omega);have v2:=zaj (n:=((zao (DD.map (·.2.2)) c q).length:Int).toNat) (by omega);simp only[List.length_append];omega)
  have h10:((DD.map (·.2.2)).map List.length).sum<=64*2000:=by
   have k:=z9c (f:=List.length) (k:=2000) (DD.map (·.2.2)) fun l hl=>by have:=hok.all l hl;omega
   have k2:(DD.map (·.2.2)).length*2000<=64*2000:=Nat.mul_le_mul_right _ (by omega);omega
  have h11:((DD.map (·.2.2)).map List.length).sum*5100<=64*2000*5100:=Nat.mul_le_mul_right _ h10;omega
theorem z9h{F:FootS}{P:List (List Nat)}{D:List (List zab)}{DD:List zdy}(h:z0g F P=some D)(hM:∀b∈P,b.length<=2500)(hD:DD.map (·.2.2)=D):
 tabCk F.cols F.rows DD=0/\ ∀d∈DD,∀y∈d.2.2,CellFine y/\zai y/\y.2.2.1.length<=2500:=by
 refine⟨z3n h hM hD,fun d hd y hy=>?_⟩;obtain⟨hF,h1,h2⟩:=zr6 h hM;obtain⟨k,hk,rfl⟩:=List.getElem_of_mem hd;have e:D.getD k []=DD[k].2.2:=by rw[<-hD,zba (fun d:zdy=>d.2.2) DD (none,0,[]) [] hk,List.getD_eq_getElem?_getD,List.getElem?_eq_getElem hk];rfl
 have hkn:k<F.cols.length:=by rw[<-h1,<-hD,List.length_map];exact hk
 obtain⟨r1,r2,r3⟩:=(h2 k hkn).2 y (by rw[e];exact hy);exact⟨z3o r1 r3,r3,r2⟩
open Go.RowKit Go.Hm
theorem z9i{b:List Nat}{F:FootS}{C:List (List zab)}(h8:∀x∈b,x<256)(hb:b.length<=2500)(h:readO b=some (F,C)):
 ∃own,openO b=some (F,own)/\zbj F/\zel F/\zdz F=own/\(∀p∈zlg F b,p.length<=2500)/\z0g F (zlg F b)=some C:=by
 unfold readO at h;split at h
 ·cases h
 ·rename_i x hx
  obtain⟨F',own⟩:=x;dsimp only at h;split at h
  ·cases h
  ·rename_i C' hC
   injection h with h;injection h with e1 e2;subst e1 e2;obtain⟨a1,a2,a3,-⟩:=znt h8 (by omega) hx;refine⟨own,hx,a1,a2,a3,fun p hp=>?_,hC⟩;have:=(z0o hp).2;rw[List.length_drop] at this;omega
set_option maxRecDepth 100000 in
theorem zp6{w:World}{A:Option Addr}{c:Nat}{b:List Nat}(h:Reads w w.heap.size 1 A b.length (za3 .u8 b))(h8:∀x∈b,x<256)(hc:b.length<=c)(hc2:c<=9223372036854775807)(hl:b.length<=140737488355328):
 Calls Tryz.prog 6 #[.slice A b.length c] w (zuc w):=by
 have SM:=Hz (zyk w);have HR:=Hz (fun(W:World) (hW:New w W)=>Reads.later h hW);have H8:=Hz h8;have HC:=Hz (And.intro hc hc2);by_cases hbig:2500<b.length
 ·have t0:decide (2500<(b.length:Int))=true:=by simp;omega
  clear h h8 hc;go_enter Tryz.func6,Tryz.ntmps6
  go_wp2_with fail
  refine SM.out.mono ?_;rintro e w1 ⟨rfl,n1⟩;go_wp2_with fail
  go_ret
  exact⟨rfl,n1⟩
 ·have t0:decide (2500<(b.length:Int))=false:=by simp;omega
  have RD:=Hz (fun(W:World) (hW:New w W)=>zlh (c:=c) (Reads.later h hW) h8 (by omega) hc hc2);have OP:=Hz (fun(W:World) (hW:New w W)=>ztc (c:=c) (Reads.later h hW) h8 (by omega) hc hc2);have RS:=Hz (fun F C=>z9i (F:=F) (C:=C) h8 (by omega));clear h h8 hc;go_enter Tryz.func6,Tryz.ntmps6
  go_wp2_with fail
  refine SM.out.mono ?_;rintro e w1 ⟨rfl,n1⟩;have R1:=Hz (RD.out w1 n1);have n1:=Hz n1;clear SM;go_wp2_with fail
  refine R1.out.mono ?_;intro e w2 hq;unfold zjg at hq;cases hrd:readO b with
  |none=>
   rw[hrd] at hq;have hq:TabPost 2 [] 0 [] w1 e w2:=hq;obtain⟨Ac,Ad,cc,cd,D,rfl,-,-,-,-,b2⟩:=hq;have n2:=New.trans n1.out b2;have ba:New w2 (w2.alloc (.cells #[.slice Ac 0 cc,.int .i64 0,.slice Ad D.length cd] 25)):=(Below.refl _ _).alloc (Nat.le_refl _) _;have BX:=Blk.new w2 25 #[.slice Ac 0 cc,.int .i64 0,.slice Ad D.length cd];obtain⟨W3,hW3⟩:∃W,W=w2.alloc (.cells #[.slice Ac 0 cc,.int .i64 0,.slice Ad D.length cd] 25):=⟨_,rfl⟩;rw[<-hW3] at ba BX;have n3:=Hz (New.trans n2 ba);have O3:=Hz (OP.out W3 n3.out);have BX:=Hz BX;have HW3:=Hz hW3;clear R1 hrd n1 n2 b2 ba hW3 RD OP RS;go_wp2_with fail
   rw[<-HW3.out];refine O3.out.mono ?_;intro e w4 hq;unfold znu at hq;have hq2:New W3 w4/\ ∃(A1:Option Addr) (m1 k1:Nat) (r1:Int) (A2:Option Addr) (m2 k2:Nat) (A4:Option Addr) (n4 c4:Nat) (er:Int),e= .returned (.tuple #[.agg #[.slice A1 m1 k1,.int .i64 r1,.slice A2 m2 k2],.slice A4 n4 c4,.int .i64 er]):=by
    obtain⟨b4,hq⟩:=hq;refine⟨b4,?_⟩;cases ho:openO b with
    |none=>rw[ho] at hq;exact⟨none,0,0,0,none,0,0,none,0,0,2,hq⟩
    |some x=>
     rw[ho] at hq;obtain⟨Ac,cc,L,r,Ag,cg,G,A,n,c,rfl,-⟩:=hq;exact⟨Ac,L.length,cc,r,Ag,G.length,cg,A,n,c,0,rfl⟩
   obtain⟨b4,A1,m1,k1,r1,A2,m2,k2,A4,n4,c4,er,rfl⟩:=hq2;clear hq O3;have ba:New w4 (w4.alloc (.cells #[.slice A1 m1 k1,.int .i64 r1,.slice A2 m2 k2] 38)):=(Below.refl _ _).alloc (Nat.le_refl _) _;obtain⟨z0,z1,z2⟩:=zaf ((BX.out.below b4 BX.out.lt).below ba (BX.out.below b4 BX.out.lt).lt);have n5:=Hz (New.trans n3.out (New.trans b4 ba));clear ba b4 BX;go_wp2_with fail
   go_ret
   exact⟨rfl,n5.out⟩
  |some x=>
   obtain⟨F,C⟩:=x;rw[hrd] at hq;obtain⟨A2,B2,c2,d2,D2,rfl,TO,hD2,b2⟩:=(show TabPost 0 F.cols F.rows C w1 e w2 from hq).own;obtain⟨own,hop,hF,hFd,hfl,hM,hT⟩:=RS.out F C hrd;obtain⟨hck,hdat⟩:=z9h hT hM hD2;have h64:=zld hck;have hcol:∀x∈F.cols,ztl x:=fun x hx=>⟨hFd.1 x hx,by have:=(hF.1.2.1 x hx).2.1;omega⟩
   have n2:=New.trans n1.out b2;have T2:=TO.tabIn (by omega) (by omega) hcol (fun d hd y hy=>(hdat d hd y hy).1.1);have HT:=Hz (fun(W:World) (hW:New w2 W)=>T2.later hW);have ba:New w2 (w2.alloc (.cells #[.slice A2 F.cols.length c2,.int .i64 F.rows,.slice B2 D2.length d2] 25)):=(Below.refl _ _).alloc (Nat.le_refl _) _;have BX:=Blk.new w2 25 #[.slice A2 F.cols.length c2,.int .i64 F.rows,.slice B2 D2.length d2];obtain⟨W3,hW3⟩:∃W,W=w2.alloc (.cells #[.slice A2 F.cols.length c2,.int .i64 F.rows,.slice B2 D2.length d2] 25):=⟨_,rfl⟩;rw[<-hW3] at ba BX;have n3:=Hz (New.trans n2 ba);have O3:=Hz (OP.out W3 n3.out);have XF:=Hz (fun(W:World) (hW:New W3 W)=>zaf (BX.below hW BX.lt));have HT:=Hz (fun(W:World) (hW:New W3 W)=>HT.out W (New.trans ba hW));have HW3:=Hz hW3;replace hck:=Hz hck;replace hdat:=Hz hdat;replace hF:=Hz hF;replace hFd:=Hz hFd;replace hop:=Hz hop;replace hfl:=Hz hfl;have hL64:=Hz (show F.cols.length<=64/\D2.length=F.cols.length/\0<=F.rows from⟨h64.2.2.2.1,h64.1,h64.2.1⟩);replace hcol:=Hz hcol;replace hD2:=Hz hD2;clear R1 hrd n1 n2 b2 ba hW3 OP RS hq TO BX T2 h64 hM hT;go_wp2_with fail
   rw[<-HW3.out];refine O3.out.mono ?_;intro e w4 hq;unfold znu at hq;rw[hop.out] at hq;obtain⟨b4,hq⟩:=hq;obtain⟨Ac4,cc4,L4,r4,Ag,cg,Gs,A4,m4,c4,rfl,hP,FI,hcg,o4⟩:=hq;dsimp only at hP o4;subst hP;obtain rfl:m4=own.length:=by have:=o4.len;rwa[zaa] at this
   unfold zh9;have ba:New w4 (w4.alloc (.cells #[.slice Ac4 L4.length cc4,.int .i64 r4,.slice Ag Gs.length cg] 38)):=(Below.refl _ _).alloc (Nat.le_refl _) _;have BX:=Blk.new w4 38 #[.slice Ac4 L4.length cc4,.int .i64 r4,.slice Ag Gs.length cg];obtain⟨W5,hW5⟩:∃W,W=w4.alloc (.cells #[.slice Ac4 L4.length cc4,.int .i64 r4,.slice Ag Gs.length cg] 38):=⟨_,rfl⟩;rw[<-hW5] at ba BX;have hfc:(za5 L4 r4 Gs).cols=L4:=rfl;have hfr:(za5 L4 r4 Gs).rows=r4:=rfl;have FF:=Hz (fun(W:World) (hW:New W5 W)=>zaf (BX.below hW BX.lt));have n45:=New.trans b4 ba;have XF:=Hz (fun(W:World) (hW:New W5 W)=>XF.out W (New.trans n45 hW));have HT:=Hz (fun(W:World) (hW:New W5 W)=>HT.out W (New.trans n45 hW));have FI5:=Hz (fun(W:World) (hW:New W5 W)=>FI.later (New.trans ba hW));have OB:=Hz (fun(W:World) (hW:New W5 W)=>Reads.later o4.reads (New.trans ba hW));have EN:=zpb (r:=r4) (cc:=cc4) (cg:=cg) (FI5.out W5 (New.refl _)) (z8n hF.out hFd.out);unfold zpa at EN;rw[if_pos hF.out,hfl.out] at EN;have EN:Calls Tryz.prog 21 #[.agg #[.slice Ac4 L4.length cc4,.int .i64 r4,.slice Ag Gs.length cg]] W5 (OptB (some own) W5):=EN;have EN:=Hz EN;have n5:=Hz (New.trans n3.out n45);have HW5:=Hz hW5;rw[hfc,hfr] at*;obtain⟨x0,x1,x2⟩:=XF.out W5 (New.refl _);rw[hW5] at x0 x1 x2;obtain⟨f0,f1,f2⟩:=FF.out W5 (New.refl _);rw[hW5] at f0 f1 f2;clear O3 b4 ba BX hW5 n45 FI o4 n3 hcg hfc hfr;go_wp2_with fail
   rw[<-HW5.out];refine EN.out.mono ?_;intro e w6 hq;obtain⟨A6,m6,c6,rfl,o6,b6⟩:=hq;obtain rfl:m6=own.length:=by have:=o6.len;rwa[zaa] at this
   have HSt:=Hz (fun(W:World) (hW:New w6 W)=>And.intro (zeu (c:=c6) (Reads.later o6.reads hW)) (zeu (c:=c4) (OB.out W (New.trans b6 hW))));have hT6:=HT.out w6 b6;have CK:=zv2 (r:=r4) (cc:=c2) (cd:=d2) hT6.cols hT6.fine hT6.cap hT6.few hT6.data hT6.few2 hT6.within;rw[show tabCk L4 r4 D2=0 from hck.out] at CK;have CK:=Hz CK;have n6:=Hz b6;clear x0 x1 x2 f0 f1 f2 EN o6 b6 OB hT6 hop hfl;obtain⟨x0,x1,x2⟩:=XF.out w6 n6.out;go_wp2_with fail
   refine CK.out.mono ?_;rintro e w7 ⟨rfl,b7⟩;have n7:=Hz (New.trans n6.out b7);obtain⟨S1,S2⟩:=HSt.out w7 b7;have SC:=Hz (zmz (c:=cc4) (c2:=c2) (FI5.out w7 n7.out).cols (HT.out w7 n7.out).cols (by have:L4.length<=64:=hL64.out.1;omega));clear x0 x1 x2 CK b7 HSt n6;obtain⟨x0,x1,x2⟩:=XF.out w7 n7.out;obtain⟨f0,f1,f2⟩:=FF.out w7 n7.out;go_wp2_with fail
   refine SC.out.mono ?_;rintro e w8 ⟨rfl,b8⟩;have n8:=Hz (New.trans n7.out b8);clear x0 x1 x2 f0 f1 f2 SC b8 S1 S2 n7 FF FI5;obtain⟨x0,x1,x2⟩:=XF.out w8 n8.out;by_cases hr:2000<r4
   ·go_wp2_with fail
    go_ret
    exact⟨rfl,New.trans n5.out n8.out⟩
   ·obtain⟨hok,hcf,y,hy⟩:=z3p (F:=za5 L4 r4 Gs) hck.out hF.out hFd.out.1 (fun d hd z hz=>(hdat.out d hd z hz).2) (show r4<=2000 by omega)
    have hok:WrOk L4 r4 (D2.map (·.2.2)) 7 3:=hok;have hcf:zdg 7 3 (List.replicate L4.length 0) L4=0:=hcf;have hy:zf3 L4 r4 D2 7 3 (List.replicate L4.length 0)=(0,y):=hy;obtain⟨-,-,-,-,-,-,t7,t8,t9⟩:=z0t hok hy (show tabCk L4 r4 D2=0 from hck.out) hcf;have HY:=Hz (And.intro t7 (And.intro t8 t9));have WRW:=Hz (fun(W:World) (Ae:Option Addr) (ce:Nat) (hW:New W5 W) (he:Reads W W.heap.size 1 Ae L4.length (zep .i64 (List.replicate L4.length 0)))=>show Calls Tryz.prog 11 #[.agg #[.slice A2 L4.length c2,.int .i64 r4,.slice B2 D2.length d2],.agg #[.int .i64 7,.int .i64 3,.slice Ae L4.length ce]] W (zgn (0,y) W) by have:=zjh (w:=W) ⟨A2,c2,L4,r4,B2,d2,D2,7,3,Ae,ce,List.replicate L4.length 0⟩ (HT.out W hW) (by dsimp only;rw[List.length_replicate];exact he) (fun d hd z hz=>(hdat.out d hd z hz).1) (by dsimp only;rw[List.length_replicate];have:L4.length<=64:=hL64.out.1;omega);dsimp only at this;rw[hy,List.length_replicate] at this;exact this)
    have hln:L4.length<=64:=hL64.out.1;have z8:=n8.out.size;clear hok hcf hy t7 t8 t9;go_wp2_with ((refine zb7 elI rfl (.tmp 94) (.tmp 94) rfl (W:=W5) (B:=W5.heap.size) L4.length L4.length rfl rfl rfl rfl (Nat.le_refl _) n8.out z8 rfl (by omega) (by simp only[maxLen];omega) ?_;intro w9 o9 g9 b9 z9;clear z9 x0 x1 x2;have n10:=New.trans b9 ((Below.refl _ w9).alloc (Nat.le_refl _) (.cells #[.int .i64 7,.int .i64 3,.slice (some ⟨w8.heap.size,0,none⟩) L4.length L4.length] 28));obtain⟨x0,x1,x2⟩:=XF.out _ n10;obtain⟨k0,k1,k2⟩:=zaf (Blk.new w9 28 #[.int .i64 7,.int .i64 3,.slice (some ⟨w8.heap.size,0,none⟩) L4.length L4.length])))
    have W1:=Hz (WRW.out _ (some ⟨w8.heap.size,0,none⟩) L4.length n10 (Reads.later (by have:=o9.reads;unfold zep;rw[List.map_replicate];exact this) ((Below.refl _ w9).alloc (Nat.le_refl _) _)));clear WRW o9 g9;refine W1.out.mono ?_;rintro e w11 ⟨A11,m11,c11,rfl,o11,b11⟩;obtain rfl:m11=y.length:=by have:=o11.len;rwa[zaa] at this
    have n11:=Hz (New.trans n10 b11);have hcap:=o11.cap;have R11:=Hz (zlh (c:=c11) o11.reads HY.out.2.1 (by have:=HY.out.2.2;omega) hcap.1 (by have:=hcap.2;simp only[maxLen] at this;omega));clear x0 x1 x2 k0 k1 k2 W1 o11 b11 n10 b9 hcap;go_wp2_with fail
    refine R11.out.mono ?_;intro e w12 hq;unfold zjg at hq;rw[HY.out.1] at hq;obtain⟨A12,B12,c12,d12,D12,rfl,TO,hD12,b12⟩:=(show TabPost 0 L4 r4 (D2.map (·.2.2)) w11 e w12 from hq).own;have n12:=New.trans n11.out b12;have hl12:D12.length=D2.length:=by have:=congrArg List.length hD12;rwa[List.length_map,List.length_map] at this
    have T12:=TO.tabIn (by omega) (by have:L4.length<=64/\D2.length=L4.length/\0<=r4:=hL64.out;omega) hcol.out (fun d hd z hz=>by
     have:d.2.2∈D2.map (·.2.2):=by rw[<-hD12];exact List.mem_map.2 ⟨d,hd,rfl⟩
     obtain⟨d',hd',e⟩:=List.mem_map.1 this;exact(hdat.out d' hd' z (by rw[e];exact hz)).1.1)
    have ba:New w12 (w12.alloc (.cells #[.slice A12 L4.length c12,.int .i64 r4,.slice B12 D12.length d12] 25)):=(Below.refl _ _).alloc (Nat.le_refl _) _;have BX:=Blk.new w12 25 #[.slice A12 L4.length c12,.int .i64 r4,.slice B12 D12.length d12];have n13:=New.trans n12 ba;obtain⟨z0,z1,z2⟩:=zaf BX;obtain⟨x0,x1,x2⟩:=XF.out _ n13;have S13:=Hz (zju (r:=r4) (c1:=c2) (k1:=d2) (c2:=c12) (k2:=d12) (HT.out _ n13) (T12.later ba) hD12.symm);have n13:=Hz n13;clear hq R11 TO hD12 b12 n12 hl12 T12 ba BX;go_wp2_with fail
    refine S13.out.mono ?_;rintro e w14 ⟨rfl,b14⟩;clear x0 x1 x2 z0 z1 z2 S13;go_wp2_with fail
    go_ret
    exact⟨rfl,New.trans n5.out (New.trans n13.out b14)⟩
set_option maxRecDepth 100000 in
open Go.WideShapes Go.ChangeShapes in
theorem zkc{H:Type}{enc:TypeId × Value->H}(W:World)(base:Nat)(args:Array Value)(ds:List (DataW H))(ps:List MemPlace)
 (hval:∀(j:Nat) t v,Tryz.f6.params[j]? =some t->args[j]? =some v->Value.okWide Tryz.prog W .any base t v)
 (hA:DataW.TrodAll enc Tryz.prog W 0 (fun _=>true) true Tryz.f6.params.toList args.toList ds ps)(hlt:∀p∈ps,p.block<W.heap.size)
 (hsz:(DataW.weightsEach Tryz.prog Tryz.f6.params.toList ds).all (· <=reachBytes)=true):
 Calls Tryz.prog 6 args W fun e W'=>e= .returned (.bool true)/\Below W.heap.size W W':=by
 rw[Tryz.params6] at hA hval hsz;obtain⟨v0,d0,rfl,rfl,h0⟩:=trodAll_one hA;obtain⟨A_b,c_b,b,rfl,hc_b,hm_b,hr_b,hl_b⟩:=qg5 (hval 0 _ _ rfl rfl) h0 hlt (qaf hsz (j:=0) rfl rfl);exact zp6 hr_b hl_b hc_b (by omega) (by omega)
end Go.Proofs.Y
