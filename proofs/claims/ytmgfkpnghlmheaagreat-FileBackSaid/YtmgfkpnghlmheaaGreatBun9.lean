/- Texts merged and made short: CellR, RunM, FrontM, CellQ, CellD. -/
import Derived.Lib.Bytealg
import Derived.Test.YtmgfkpnghlmheaaGreatBun1
import Derived.Test.YtmgfkpnghlmheaaGreatBun2
import Derived.Test.YtmgfkpnghlmheaaGreatBun4
import Derived.Test.YtmgfkpnghlmheaaGreatBun5
import Derived.Test.YtmgfkpnghlmheaaGreatBun6
set_option maxHeartbeats 2000000
namespace Go.Proofs.YtmgfkpnghlmheaaGreat
open Go.RowKit Go.Hm
theorem zwx(w:World)(a b:Obj):New w ((w.alloc a).alloc b):=New.trans ((Below.refl _ _).alloc (Nat.le_refl _) _) ((Below.refl _ _).alloc (Nat.le_refl _) _)
theorem zpy{s:List Nat}:(zae s).toList=[]↔s=[]:=by
 rw[zfm];simp
set_option maxRecDepth 100000 in
theorem zfh{w:World}{b:Bool}{n:Int}{s:List Nat}{x y:Int}{cn:List Nat}{t:Int}{nu:Bool}(hs:s.length≤140737488351232):
 Calls Tryz.prog 52 #[.agg #[.bool b,.int .i64 n,.string (zae s),.int .i64 x,.int .i64 y],.agg #[.string (zae cn),.int .i64 t,.bool nu]] w (zap (.bool (zac (b,n,s,x,y) t nu)) w):=by
 have z1:=zbf s;generalize hO:zac (b,n,s,x,y) t nu=O;have HO:=Hz hO;have Z:=Hz (zpy (s:=s));clear hO;have B0:=Blk.new w 61 #[.bool b,.int .i64 n,.string (zae s),.int .i64 x,.int .i64 y];have B1:=Blk.new (w.alloc (.cells #[.bool b,.int .i64 n,.string (zae s),.int .i64 x,.int .i64 y] 61)) 70 #[.string (zae cn),.int .i64 t,.bool nu];obtain⟨x0,x1,x2,x3,x4⟩:=zcm (B0.alloc (.cells #[.string (zae cn),.int .i64 t,.bool nu] 70));obtain⟨y0,y1,y2⟩:=zaf B1;clear B0 B1
 go_enter Tryz.func52,Tryz.ntmps52
 go_wp2_with (first
  |(go_at_call 91;refine(zld x y).mono ?_;rintro e w' ⟨rfl,b1⟩))
 all_goals go_ret
 all_goals try refine⟨?_,zwx w _ _⟩
 all_goals try refine⟨?_,New.trans (zwx w _ _) (by assumption)⟩
 all_goals
  rw[←HO.out];have Z:=Z.out;clear x0 x1 x2 x3 x4 y0 y1 y2 HO
  simp_all[zac]
 ·by_cases h1:n=1<;> simp[*]
 ·omega
end Go.Proofs.YtmgfkpnghlmheaaGreat
namespace Go.Hm
def st(l:List Nat):Nat:=(l.takeWhile fun y=>y==l.getD 0 0).length
theorem qg8(p:Nat→Bool):∀(l:List Nat) (n:Nat),n≤l.length→(∀i,i<n→p (l.getD i 0)=true)→(n=l.length∨p (l.getD n 0)=false)→(l.takeWhile p).length=n
 | [],n,h1,_,_=>by simp at h1;simp[h1]
 |x::r,0,_,_,h3=>by
  rcases h3 with h3|h3
  ·simp at h3
  ·have:p x=false:=by simpa using h3
   simp[this]
 |x::r,n+1,h1,h2,h3=>by
  have hx:p x=true:=by simpa using h2 0 (by omega)
  rw[List.takeWhile_cons,if_pos hx,List.length_cons,qg8 p r n (by simpa using h1) (fun i hi=>by simpa using h2 (i+1) (by omega)) (by simpa using h3)]
theorem qar{l:List Nat}{n:Nat}(h1:n≤l.length)(h2:∀i,i<n→l.getD i 0=l.getD 0 0)(h3:n=l.length∨l.getD n 0≠l.getD 0 0):st l=n:=
 qg8 _ l n h1 (fun i hi=>by simpa using h2 i hi) (h3.imp id fun h=>by simpa using h)
theorem z42(p:Nat→Bool):∀l:List Nat,(l.takeWhile p).length≤l.length∧(∀i,i<(l.takeWhile p).length→p (l.getD i 0)=true)∧((l.takeWhile p).length=l.length∨p (l.getD (l.takeWhile p).length 0)=false)
 | []=>by simp
 |x::r=>by
  obtain⟨a,b,c⟩:=z42 p r;by_cases hx:p x=true
  ·rw[List.takeWhile_cons,if_pos hx,List.length_cons]
   refine⟨by simpa using a,fun i hi=>?_,by simpa using c⟩
   cases i with
   |zero=>simpa using hx
   |succ i=>simpa using b i (by omega)
  ·rw[List.takeWhile_cons,if_neg hx]
   refine⟨by simp,by simp,.inr (by simpa using hx)⟩
theorem ze9(l:List Nat):st l≤l.length∧(∀i,i<st l→l.getD i 0=l.getD 0 0)∧(st l=l.length∨l.getD (st l) 0≠l.getD 0 0):=by
 obtain⟨a,b,c⟩:=z42 (fun y=>y==l.getD 0 0) l;exact⟨a,fun i hi=>by simpa using b i hi,c.imp id fun h=>by unfold st;simpa using h⟩
theorem zmb{l:List Nat}(h:0<l.length):1≤st l:=by
 obtain⟨a,b,c⟩:=ze9 l;rcases Nat.eq_zero_or_pos (st l) with h0|h0
 ·rw[h0] at c
  rcases c with c|c
  ·omega
  ·exact absurd rfl c
 ·exact h0
theorem zi1{l m:List Nat}{i:Nat}(h:i<l.length):(l++m).getD i 0=l.getD i 0:=by
 simp[List.getD_eq_getElem?_getD,List.getElem?_append_left h]
theorem zqi{l:List Nat}{i k:Nat}(h:i<k):(l.take k).getD i 0=l.getD i 0:=by
 simp[List.getD_eq_getElem?_getD,h]
theorem qg9{l m:List Nat}(h:st (l++m)≤l.length)(h0:0<l.length):st l=st (l++m):=by
 obtain⟨a,b,c⟩:=ze9 (l++m);refine qar h (fun i hi=>?_) ?_
 ·have:=b i hi
  rwa[zi1 (by omega),zi1 h0] at this
 ·by_cases e:st (l++m)=l.length
  ·exact .inl e
  ·rcases c with c|c
   ·rw[c,List.length_append] at h e
    omega
   ·rw[zi1 (by omega),zi1 h0] at c
    exact .inr c
theorem z43{l m:List Nat}:st l≤st (l++m):=by
 rcases Nat.eq_zero_or_pos l.length with h0|h0
 ·have:=(ze9 l).1
  omega
 by_cases h:st (l++m)≤l.length
 ·exact Nat.le_of_eq (qg9 h h0)
 ·have:=(ze9 l).1
  omega
theorem qfg(l:List Nat):st (l.take (st l))=st l:=by
 obtain⟨a,b,c⟩:=ze9 l
 have hl:(l.take (st l)).length=st l:=by rw[List.length_take];omega
 rcases Nat.eq_zero_or_pos (st l) with h0|h0
 ·have:=(ze9 (l.take (st l))).1
  omega
 ·refine qar (by omega) (fun i hi=>?_) (.inl hl.symm)
  rw[zqi hi,zqi h0];exact b i hi
theorem qfh{p:List Nat}(h:st p=p.length):p=List.replicate p.length (p.getD 0 0):=by
 obtain⟨a,b,c⟩:=ze9 p
 refine List.ext_getElem (by simp) fun i h1 h2=>?_
 have:=b i (by omega);rw[List.getD_eq_getElem?_getD,List.getElem?_eq_getElem h1] at this;simpa using this
def zy7(rest l:List Nat):List (List Nat):=
 if _h:l.length=0 then(if rest.length=0 then [] else [rest])
 else if 4≤st l then(if rest.length=0 then [] else [rest])++(l.take (st l)::zy7 [] (l.drop (st l)))
 else zy7 (rest++l.take (st l)) (l.drop (st l))
termination_by l.length
decreasing_by
 ·have:=zmb (l:=l) (by omega)
  rw[List.length_drop];omega
 ·have:=zmb (l:=l) (by omega)
  rw[List.length_drop];omega
def pcs(l:List Nat):List (List Nat):=zy7 [] l
def zt9(rest:List Nat):List (List Nat):=if rest.length=0 then [] else [rest]
theorem zr8(rest:List Nat):zy7 rest []=zt9 rest:=by rw[zy7];rfl
theorem zr9{rest l:List Nat}(h0:0<l.length)(h:4≤st l):zy7 rest l=zt9 rest++(l.take (st l)::zy7 [] (l.drop (st l))):=by
 rw[zy7,dif_neg (by omega),if_pos h];rfl
theorem zn6{rest l:List Nat}(h0:0<l.length)(h: ¬4≤st l):zy7 rest l=zy7 (rest++l.take (st l)) (l.drop (st l)):=by
 rw[zy7,dif_neg (by omega),if_neg h]
theorem z44{C:List Nat→List Nat→Prop}(h0:∀rest,C rest [])
 (h1:∀rest l,0<l.length→4≤st l→C [] (l.drop (st l))→C rest l)
 (h2:∀rest l,0<l.length→ ¬4≤st l→C (rest++l.take (st l)) (l.drop (st l))→C rest l):∀rest l,C rest l:=by
 intro rest l
 induction hn:l.length using Nat.strongRecOn generalizing rest l with
 |_ n ih=>
  rcases Nat.eq_zero_or_pos l.length with hz|hz
  ·obtain rfl:=List.eq_nil_of_length_eq_zero hz
   exact h0 rest
  ·have hp:=zmb hz
   have hd:(l.drop (st l)).length<n:=by rw[List.length_drop];omega
   by_cases h:4≤st l
   ·exact h1 rest l hz h (ih _ hd _ _ rfl)
   ·exact h2 rest l hz h (ih _ hd _ _ rfl)
theorem zqj(rest:List Nat):(zt9 rest).flatten=rest:=by
 unfold zt9;split
 ·rename_i h
  exact(List.eq_nil_of_length_eq_zero h).symm
 ·simp
theorem z45:∀rest l,(zy7 rest l).flatten=rest++l:=by
 refine z44 ?_ ?_ ?_
 ·intro rest
  rw[zr8,zqj,List.append_nil]
 ·intro rest l h0 h ih
  rw[zr9 h0 h,List.flatten_append,zqj,List.flatten_cons,ih,List.nil_append,List.take_append_drop]
 ·intro rest l h0 h ih
  rw[zn6 h0 h,ih,List.append_assoc,List.take_append_drop]
def zn7(p:List Nat):Prop:=0<p.length∧(4≤st p→st p=p.length)
theorem qfi:∀rest l,(rest=[]∨st (rest++l)<4)→∀p∈zy7 rest l,zn7 p:=by
 have hr:∀rest l:List Nat,(rest=[]∨st (rest++l)<4)→∀p∈zt9 rest,zn7 p:=by
  intro rest l hc p hp;unfold zt9 at hp;split at hp
  ·cases hp
  ·rename_i hl
   obtain rfl:=List.mem_singleton.1 hp;refine⟨by omega,fun h4=>?_⟩;rcases hc with rfl|hc
   ·simp at hl
   ·have:=z43 (l:=p) (m:=l)
    omega
 refine z44 ?_ ?_ ?_
 ·intro rest hc p hp
  rw[zr8] at hp;exact hr rest [] hc p hp
 ·intro rest l h0 h ih hc p hp
  rw[zr9 h0 h] at hp;rcases List.mem_append.1 hp with hp|hp
  ·exact hr rest l hc p hp
  ·rcases List.mem_cons.1 hp with rfl|hp
   ·have hl:(l.take (st l)).length=st l:=by have:=(ze9 l).1;rw[List.length_take];omega
    exact⟨by omega,fun _=>by rw[qfg,hl]⟩
   ·exact ih (.inl rfl) p hp
 ·intro rest l h0 h ih hc p hp
  rw[zn6 h0 h] at hp;refine ih (.inr ?_) p hp;rw[List.append_assoc,List.take_append_drop];rcases hc with rfl|hc
  ·simpa using h
  ·exact hc
theorem z47(l:List Nat):∀p∈pcs l,zn7 p:=qfi [] l (.inl rfl)
theorem zkk(l:List Nat):(pcs l).flatten=l:=z45 [] l
end Go.Hm
namespace Go.Hm
def shr:List Nat→List Nat→Nat
 |a::l,b::m=>if a=b then shr l m+1 else 0
 |_,_=>0
theorem zjw:∀a b:List Nat,shr a b≤a.length
 | [],_=>by simp[shr]
 |_::_,[]=>by simp[shr]
 |a::l,b::m=>by
  simp only[shr];split
  ·have:=zjw l m;simp;exact this
  ·simp
theorem zgf:∀a b:List Nat,shr a b≤b.length
 | [],_=>by simp[shr]
 |_::_,[]=>by simp[shr]
 |a::l,b::m=>by
  simp only[shr];split
  ·have:=zgf l m;simp;exact this
  ·simp
theorem zsf:∀a b:List Nat,a.take (shr a b)=b.take (shr a b)
 | [],_=>by simp[shr]
 |_::_,[]=>by simp[shr]
 |a::l,b::m=>by
  simp only[shr];split
  ·rename_i e;subst e;simp[zsf l m]
  ·simp
theorem qdq:∀(a b:List Nat) (n:Nat),n≤a.length→n≤b.length→a.take n=b.take n→(n=a.length∨n=b.length∨ ¬a.getD n 0=b.getD n 0)→shr a b=n
 | [],_,n,h1,_,_,_=>by simp at h1;simp[shr,h1]
 |_::_,[],n,_,h2,_,_=>by simp at h2;simp[shr,h2]
 |a::l,b::m,0,_,_,_,h=>by
  simp only[shr];rcases h with h|h|h
  ·simp at h
  ·simp at h
  ·simp at h;rw[if_neg h]
 |a::l,b::m,n+1,h1,h2,h3,h=>by
  simp only[List.take_succ_cons,List.cons.injEq] at h3;simp only[shr];rw[if_pos h3.1,qdq l m n (by simpa using h1) (by simpa using h2) h3.2 (by simpa using h)]
def fsum(l:List (List Nat)):Nat:=(l.map List.length).sum
theorem zft(s:List Nat)(l:List (List Nat)):fsum (s::l)=s.length+fsum l:=by simp[fsum]
theorem zes(l m:List (List Nat)):fsum (l++m)=fsum l+fsum m:=by simp[fsum]
theorem zue(l:List (List Nat))(k:Nat):fsum (l.take k)≤fsum l:=by
 conv=>rhs;rw[←List.take_append_drop k l,zes]
 omega
def z5j(l:List (List Nat)):Bool:=decide (l.length≤65536∧(∀s∈l,s.length≤65536)∧fsum l≤16777216)
theorem zel(l:List (List Nat)):z5j l=true↔l.length≤65536∧(∀s∈l,s.length≤65536)∧fsum l≤16777216:=by simp[z5j]
theorem qa2{l:List (List Nat)}(h:65536<l.length):z5j l=false:=by
 rw[Bool.eq_false_iff,Ne,zel];omega
theorem qa3{l:List (List Nat)}{k:Nat}(hk:k<l.length)(h:65536<(l.getD k []).length):z5j l=false:=by
 rw[Bool.eq_false_iff,Ne,zel];rintro⟨_,h2,_⟩;have:=h2 (l.getD k []) (by rw[List.getD_eq_getElem?_getD,List.getElem?_eq_getElem hk];exact List.getElem_mem hk);omega
theorem qa4{l:List (List Nat)}{k:Nat}(h:16777216<fsum (l.take k)):z5j l=false:=by
 rw[Bool.eq_false_iff,Ne,zel];rintro⟨_,_,h3⟩;have:=zue l k;omega
theorem qa5{l:List (List Nat)}(h1:l.length≤65536)(h2:∀s∈l,s.length≤65536)(h3:fsum l≤16777216):z5j l=true:=(zel l).2 ⟨h1,h2,h3⟩
theorem zuf(l:List (List Nat))(s:List Nat):fsum (l++[s])=fsum l+s.length:=by simp[fsum]
def fpiece(a s:List Nat):List Nat:=vp (shr a s)++vp (s.length-shr a s)++s.drop (shr a s)
def zmv:List Nat→List (List Nat)→List Nat
 |_,[]=>[]
 |a,s::l=>fpiece a s++zmv s l
def zp0(a:List Nat)(l:List (List Nat)):List Nat:=l.getLast?.getD a
theorem z1s(a s:List Nat)(l:List (List Nat)):zp0 a (l++[s])=s:=by simp[zp0]
theorem z5k(a s:List Nat)(l:List (List Nat)):zmv a (l++[s])=zmv a l++fpiece (zp0 a l) s:=by
 induction l generalizing a with
 |nil=>simp[zmv,zp0]
 |cons x l ih=>
  rw[List.cons_append,zmv,ih x,zmv,List.append_assoc]
  congr 3
  cases l with
  |nil=>simp[zp0]
  |cons y l=>simp[zp0,List.getLast?_eq_some_getLast]
theorem zsg(a:List Nat)(l:List (List Nat))(h:∀s∈l,s.length≤65536):(zmv a l).length≤20*l.length+fsum l:=by
 induction l generalizing a with
 |nil=>simp[zmv]
 |cons s l ih=>
  have h1:=ih s (fun x hx=>h x (by simp[hx]));have h2:=h s (by simp);have k2:=zgf a s;have v1:=zaj (n:=shr a s) (by omega);have v2:=zaj (n:=s.length-shr a s) (by omega);rw[zmv,fpiece,zft,List.length_cons];simp only[List.length_append,List.length_drop];omega
theorem zug{Q:List Nat→Prop}{a:List Nat}(l:List (List Nat))(ha:Q a)(h:∀s∈l,Q s):Q (zp0 a l):=by
 unfold zp0
 cases hl:l.getLast? with
 |none=>exact ha
 |some x=>exact h x (List.mem_of_getLast? hl)
def zuh(l:List (List Nat)):Option (List Nat):=if z5j l then some (zmv [] l) else none
def zef(a:List Nat)(room:Int)(S:St):List Nat × List Nat × Int × St:=
 if shr a (a.take (lenS a.length S).1++(zbv (lenS (65536-((lenS a.length S).1:Int)) (lenS a.length S).2).1 (lenS (65536-((lenS a.length S).1:Int)) (lenS a.length S).2).2).1)=(lenS a.length S).1∧
  ((a.take (lenS a.length S).1++(zbv (lenS (65536-((lenS a.length S).1:Int)) (lenS a.length S).2).1 (lenS (65536-((lenS a.length S).1:Int)) (lenS a.length S).2).2).1).length:Int)≤room then
  (a.take (lenS a.length S).1++(zbv (lenS (65536-((lenS a.length S).1:Int)) (lenS a.length S).2).1 (lenS (65536-((lenS a.length S).1:Int)) (lenS a.length S).2).2).1,
   a.take (lenS a.length S).1++(zbv (lenS (65536-((lenS a.length S).1:Int)) (lenS a.length S).2).1 (lenS (65536-((lenS a.length S).1:Int)) (lenS a.length S).2).2).1,
   room-((a.take (lenS a.length S).1++(zbv (lenS (65536-((lenS a.length S).1:Int)) (lenS a.length S).2).1 (lenS (65536-((lenS a.length S).1:Int)) (lenS a.length S).2).2).1).length:Int),
   (zbv (lenS (65536-((lenS a.length S).1:Int)) (lenS a.length S).2).1 (lenS (65536-((lenS a.length S).1:Int)) (lenS a.length S).2).2).2)
 else([],a,room,none)
theorem z1t(a:List Nat)(room:Int)(S:St)(hS:S.ok):
 (zef a room S).2.2.2=none∨∃s r,S=some (fpiece a s++r)∧s.length≤65536∧(s.length:Int)≤room∧zef a room S=(s,s,room-s.length,some r):=by
 unfold zef;split
 ·rename_i hc
  obtain⟨h1,h2⟩:=hc;rcases zbo (a.length:Int) S hS with e1|⟨k,r1,rfl,hk,_,e1⟩
  ·left;simp only[e1,zgu,zdt]
  ·rw[e1] at h1 h2⊢
   simp only at h1 h2⊢
   have hr1:St.ok (some r1):=St.ok_some fun x hx=>hS _ rfl x (by simp[hx])
   rcases zbo (65536-(k:Int)) (some r1) hr1 with e2|⟨m,r2,hr,hm,_,e2⟩
   ·left;simp only[e2,zdt]
   ·rw[e2] at h1 h2⊢
    simp only at h1 h2⊢;injection hr with hr;subst hr;rcases zb9 (m:Int) (some r2) with e3|⟨l,hl,hm1,hm2,e3⟩
    ·left;simp only[e3]
    ·rw[e3] at h1 h2⊢
     simp only[Int.toNat_natCast] at h1 h2⊢;injection hl with hl;subst hl
     have hka:k≤a.length:=by omega
     have hlen:(a.take k++r2.take m).length=k+m:=by
      rw[List.length_append,List.length_take,List.length_take];omega
     refine .inr ⟨a.take k++r2.take m,r2.drop m,?_,by omega,h2,rfl⟩;rw[fpiece,h1,hlen,show k+m-k=m by omega,List.drop_left' (by rw[List.length_take];omega)];simp
 ·exact .inl rfl
theorem z5l(a s r:List Nat)(room:Int)(hs:s.length≤65536)(hr:(s.length:Int)≤room)(ha:a.length≤65536):zef a room (some (fpiece a s++r))=(s,s,room-s.length,some r):=by
 have k1:=zjw a s;have k2:=zgf a s
 have e1:lenS (a.length:Int) (some (fpiece a s++r))=(shr a s,some (vp (s.length-shr a s)++(s.drop (shr a s)++r))):=by
  rw[fpiece,List.append_assoc,List.append_assoc];exact zb2 _ _ (by omega) (by omega)
 have e2:lenS (65536-(shr a s:Int)) (some (vp (s.length-shr a s)++(s.drop (shr a s)++r)))=(s.length-shr a s,some (s.drop (shr a s)++r)):=zb2 _ _ (by omega) (by omega)
 have e3:zbv ((s.length-shr a s:Nat):Int) (some (s.drop (shr a s)++r))=(s.drop (shr a s),some r):=by
  have:=zdf (s.drop (shr a s)) r;rwa[List.length_drop] at this
 have e4:a.take (shr a s)++s.drop (shr a s)=s:=by rw[zsf,List.take_append_drop]
 unfold zef;simp only[e1,e2,e3,e4];rw[if_pos ⟨trivial,hr⟩]
theorem z5m(a:List Nat)(room:Int)(S:St)(hS:S.ok)(ha:a.length≤65536)(h8:∀x∈a,x<256)(h0:0≤room)(h1:room≤16777216):
 (zef a room S).2.1.length≤65536∧(∀x∈(zef a room S).2.1,x<256)∧0≤(zef a room S).2.2.1∧(zef a room S).2.2.1≤16777216∧(zef a room S).1.length≤65536∧(∀x∈(zef a room S).1,x<256):=by
 have hk0:=zb0 (m:=a.length) S (by omega) hS;have hS1:=za5 (m:=a.length) hS;have hm0:=zb0 (m:=65536-((lenS a.length S).1:Int)) (lenS a.length S).2 (by omega) hS1;have hS2:=za5 (m:=65536-((lenS a.length S).1:Int)) hS1;have hr8:=(zcr (n:=((lenS (65536-((lenS a.length S).1:Int)) (lenS a.length S).2).1:Int)) hS2).2;have hrl:=zej (n:=((lenS (65536-((lenS a.length S).1:Int)) (lenS a.length S).2).1:Int)) (S:=(lenS (65536-((lenS a.length S).1:Int)) (lenS a.length S).2).2) (by omega);unfold zef;generalize lenS a.length S=p1 at*;generalize lenS (65536-(p1.1:Int)) p1.2=p2 at*;generalize zbv (p2.1:Int) p2.2=p3 at*
 have ht8:∀x∈a.take p1.1++p3.1,x<256:=by
  intro x hx;rcases List.mem_append.1 hx with hx|hx
  ·exact h8 x (List.mem_of_mem_take hx)
  ·exact hr8 x hx
 have htl:(a.take p1.1++p3.1).length≤65536:=by
  rw[List.length_append,List.length_take];omega
 split
 ·rename_i hc
  exact⟨htl,ht8,by simp only;omega,by simp only;omega,htl,ht8⟩
 ·exact⟨ha,h8,h0,h1,by simp,by simp⟩
def zlc:Nat→List Nat→Int→St→List (List Nat) × St
 |0,_,_,S=>([],S)
 |n+1,a,room,S=>if S=none then([],none) else
   ((zef a room S).1::(zlc n (zef a room S).2.1 (zef a room S).2.2.1 (zef a room S).2.2.2).1,(zlc n (zef a room S).2.1 (zef a room S).2.2.1 (zef a room S).2.2.2).2)
theorem z5n(n:Nat)(a:List Nat)(room:Int):(zlc n a room none).2=none:=by cases n<;> simp[zlc]
theorem z5o:∀(n:Nat) (a:List Nat) (room:Int) (S:St) (r:List Nat),S.ok→0≤room→a.length≤65536→(zlc n a room S).2=some r→
 S=some (zmv a (zlc n a room S).1++r)∧(zlc n a room S).1.length=n∧(∀s∈(zlc n a room S).1,s.length≤65536)∧(fsum (zlc n a room S).1:Int)≤room:=by
 intro n
 induction n with
 |zero=>
  intro a room S r _ h0 _ h;simp only[zlc] at h⊢;subst h;simp[zmv,fsum,h0]
 |succ n ih=>
  intro a room S r hS h0 ha h;by_cases hn:S=none
  ·simp[zlc,hn] at h
  ·simp only[zlc,if_neg hn] at h⊢
   rcases z1t a room S hS with e|⟨s,r1,rfl,h1,h2,e⟩
   ·rw[e,z5n] at h;cases h
   ·rw[e] at h⊢
    simp only at h⊢
    have hr1:St.ok (some r1):=St.ok_some fun x hx=>hS _ rfl x (by simp[hx])
    obtain⟨g1,g2,g3,g4⟩:=ih s (room-s.length) (some r1) r hr1 (by omega) h1 h;injection g1 with g1;refine⟨?_,by simp[g2],?_,?_⟩
    ·rw[zmv,List.append_assoc,←g1]
    ·intro x hx
     rcases List.mem_cons.1 hx with rfl|hx
     ·exact h1
     ·exact g3 x hx
    ·rw[zft];omega
theorem qa6:∀(l:List (List Nat)) (a:List Nat) (room:Int) (r:List Nat),a.length≤65536→(∀s∈l,s.length≤65536)→(fsum l:Int)≤room→zlc l.length a room (some (zmv a l++r))=(l,some r):=by
 intro l
 induction l with
 |nil=>intro a room r _ _ _;simp[zlc,zmv]
 |cons s l ih=>
  intro a room r ha hl hs;rw[zft] at hs;have h1:=hl s (by simp);simp only[List.length_cons,zlc,zmv];rw[if_neg (by simp),List.append_assoc,z5l a s _ room h1 (by omega) ha];simp only;rw[ih s (room-s.length) r h1 (fun x hx=>hl x (by simp[hx])) (by omega)]
theorem zui(n:Nat)(a:List Nat)(room:Int){S:St}(h:n=0∨S=none):zlc n a room S=([],S):=by
 rcases h with rfl|rfl
 ·rfl
 ·cases n<;> simp[zlc]
theorem z5p(n:Nat)(a:List Nat)(room:Int)(S:St)(h:S≠none):zlc (n+1) a room S=((zef a room S).1::(zlc n (zef a room S).2.1 (zef a room S).2.2.1 (zef a room S).2.2.2).1,(zlc n (zef a room S).2.1 (zef a room S).2.2.1 (zef a room S).2.2.2).2):=by
 simp only[zlc,if_neg h]
def ztp(b:List Nat)(n:Int):Option (List (List Nat)):=
 if 0≤n∧n≤65536 then(if zpw (zlc n.toNat [] 16777216 (some b)).2 then some (zlc n.toNat [] 16777216 (some b)).1 else none) else none
theorem zm7{b:List Nat}{n:Int}{l:List (List Nat)}(h8:∀x∈b,x<256):ztp b n=some l↔(l.length:Int)=n∧zuh l=some b:=by
 constructor
 ·intro h
  unfold ztp at h;split at h
  ·rename_i hn
   split at h
   ·rename_i he
    injection h with h;simp only[zpw,decide_eq_true_eq] at he;obtain⟨g1,g2,g3,g4⟩:=z5o n.toNat [] 16777216 (some b) [] (St.ok_some h8) (by omega) (by simp) he;rw[h] at g1 g2 g3 g4;injection g1 with g1;rw[List.append_nil] at g1;refine⟨by omega,?_⟩;unfold zuh;rw[if_pos,←g1];rw[zel];exact⟨by omega,g3,by omega⟩
   ·cases h
  ·cases h
 ·rintro⟨rfl,h⟩
  unfold zuh at h;split at h
  ·rename_i hf
   rw[zel] at hf;injection h with h;have:=qa6 l [] 16777216 [] (by simp) hf.2.1 (by have:=hf.2.2;omega);rw[List.append_nil,h] at this;unfold ztp;rw[if_pos ⟨by omega,by omega⟩,Int.toNat_natCast,this];simp[zpw]
  ·cases h
theorem z1u{a:List Nat}{l:List (List Nat)}(ha:∀x∈a,x<256)(h:∀x∈zmv a l,x<256):∀s∈l,∀x∈s,x<256:=by
 induction l generalizing a with
 |nil=>simp
 |cons s l ih=>
  rw[zmv,fpiece] at h
  have hs:∀x∈s,x<256:=by
   intro x hx;rw[←List.take_append_drop (shr a s) s,List.mem_append] at hx;rcases hx with hx|hx
   ·rw[←zsf] at hx
    exact ha x (List.mem_of_mem_take hx)
   ·exact h x (by simp[hx])
  intro t ht;rcases List.mem_cons.1 ht with rfl|ht
  ·exact hs
  ·exact ih hs (fun x hx=>h x (by simp[hx])) t ht
theorem qdr{b:List Nat}{n:Int}(h8:∀x∈b,x<256):(∀s∈(ztp b n).getD [],∀x∈s,x<256)∧((ztp b n).getD []).length≤65536∧∀s∈(ztp b n).getD [],s.length≤65536:=by
 cases h:ztp b n with
 |none=>simp
 |some l=>
  obtain⟨_,h2⟩:=(zm7 h8).1 h;unfold zuh at h2;split at h2
  ·rename_i hf
   injection h2 with h2;obtain⟨f1,f2,_⟩:=(zel l).1 hf;exact⟨z1u (a:=[]) (by simp) (by show∀x∈zmv [] l,x<256;rw[h2];exact h8),f1,f2⟩
  ·cases h2
theorem zzf:∀(k n:Nat),n≤k→∀x∈vp n,x<256:=by
 intro k
 induction k using Nat.strongRecOn with
 |ind k ih=>
  intro n hk x hx;by_cases hn:n<128
  ·rw[ze0 hn] at hx;simp at hx;omega
  ·rw[zfn hn,List.mem_cons] at hx
   rcases hx with hx|hx
   ·omega
   ·exact ih (n/128) (by omega) (n/128) (Nat.le_refl _) x hx
theorem qfn(a:List Nat)(l:List (List Nat))(h:∀s∈l,∀x∈s,x<256):∀x∈zmv a l,x<256:=by
 induction l generalizing a with
 |nil=>simp[zmv]
 |cons s l ih=>
  intro x hx;rw[zmv,fpiece] at hx;simp only[List.mem_append] at hx;rcases hx with((hx|hx)|hx)|hx
  ·exact zzf _ _ (Nat.le_refl _) x hx
  ·exact zzf _ _ (Nat.le_refl _) x hx
  ·exact h s (by simp) x (List.mem_of_mem_drop hx)
  ·exact ih s (fun y hy=>h y (by simp[hy])) x hx
theorem qfo{l:List (List Nat)}{b:List Nat}(h:∀s∈l,∀x∈s,x<256)(hb:zuh l=some b):∀x∈b,x<256:=by
 unfold zuh at hb;split at hb
 ·injection hb with hb
  rw[←hb];exact qfn [] l h
 ·cases hb
end Go.Hm
namespace Go.Hm
open Go Go.RowKit
def qa7(a b:List Nat):Int:=Lib.compareBytes (a.map UInt8.ofNat) (b.map UInt8.ofNat)
def z3l(a b:Bool):Int:=if a&&b then 0 else if a then-1 else 1
def qhb(t:Int)(a b:zab):Int:=if a.1||b.1 then z3l a.1 b.1 else if t=0∨t=1 then zia a.2.1 b.2.1 else if t=2 then qa7 a.2.2.1 b.2.2.1 else 0
end Go.Hm
namespace Go.Proofs.YtmgfkpnghlmheaaGreat
open Go.RowKit Go.Hm
set_option maxRecDepth 100000 in
theorem bstrCmp_any{w:World}{a b:List Nat}:Calls Tryz.prog 199 #[.string (zae a),.string (zae b)] w (zdx (.int .i64 (qa7 a b)) w):=by
 go_enter Tryz.func199,Tryz.ntmps199
 go_wp2
 rw[run_callFunc_extern Tryz.func219 (by kernel_rfl) (by kernel_rfl) (by kernel_rfl) (e:=Extern.BytealgCompare.compare) (by kernel_rfl),Lib.run_compareString];simp only[Result.andThen];rw[Oper.upon_value]
 go_wp2
 go_ret
 exact⟨rfl,rfl⟩
set_option maxRecDepth 100000 in
theorem strCmp_any{w:World}{a b:List Nat}:Calls Tryz.prog 176 #[.string (zae a),.string (zae b)] w (zdx (.int .i64 (qa7 a b)) w):=by
 go_enter Tryz.func176,Tryz.ntmps176
 go_wp2_with (go_at_call 199;refine bstrCmp_any.mono ?_;rintro e w' ⟨rfl,rfl⟩)
 go_ret
 exact⟨rfl,rfl⟩
set_option maxRecDepth 100000 in
theorem cmpNulls_any{w:World}{a b:Bool}{n m:Int}{s r:ByteArray}{x y x2 y2:Int}:
 Calls Tryz.prog 174 #[.agg #[.bool a,.int .i64 n,.string s,.int .i64 x,.int .i64 y],.agg #[.bool b,.int .i64 m,.string r,.int .i64 x2,.int .i64 y2]] w (zap (.int .i64 (z3l a b)) w):=by
 have B0:=Blk.new w 61 #[.bool a,.int .i64 n,.string s,.int .i64 x,.int .i64 y];have B1:=Blk.new (w.alloc (.cells #[.bool a,.int .i64 n,.string s,.int .i64 x,.int .i64 y] 61)) 61 #[.bool b,.int .i64 m,.string r,.int .i64 x2,.int .i64 y2];obtain⟨x0,_⟩:=zcm (B0.alloc (.cells #[.bool b,.int .i64 m,.string r,.int .i64 x2,.int .i64 y2] 61));obtain⟨y0,_⟩:=zcm B1;clear B0 B1
 go_enter Tryz.func174,Tryz.ntmps174
 cases a<;> cases b
 all_goals
  go_wp2
  go_ret
  exact⟨rfl,zwx w _ _⟩
set_option maxRecDepth 100000 in
theorem zw8{w:World}{t:Int}{a b:Bool}{n m:Int}{s r:List Nat}{x y x2 y2:Int}(h3: ¬(t=3∧a=false∧b=false)):
 Calls Tryz.prog 152 #[.int .i64 t,.agg #[.bool a,.int .i64 n,.string (zae s),.int .i64 x,.int .i64 y],.agg #[.bool b,.int .i64 m,.string (zae r),.int .i64 x2,.int .i64 y2]] w (zap (.int .i64 (qhb t (a,n,s,x,y) (b,m,r,x2,y2))) w):=by
 have B0:=Blk.new w 61 #[.bool a,.int .i64 n,.string (zae s),.int .i64 x,.int .i64 y];have B1:=Blk.new (w.alloc (.cells #[.bool a,.int .i64 n,.string (zae s),.int .i64 x,.int .i64 y] 61)) 61 #[.bool b,.int .i64 m,.string (zae r),.int .i64 x2,.int .i64 y2];obtain⟨x0,x1,x2',x3,x4⟩:=zcm (B0.alloc (.cells #[.bool b,.int .i64 m,.string (zae r),.int .i64 x2,.int .i64 y2] 61));obtain⟨y0,y1,y2',y3,y4⟩:=zcm B1;generalize hO:qhb t (a,n,s,x,y) (b,m,r,x2,y2)=O;have HO:=Hz hO;have H3:=Hz h3;clear B0 B1 hO h3;cases a<;> cases b
 case' false.false=>have h3: ¬t=3:=fun e=>H3.out ⟨e,rfl,rfl⟩
 all_goals
  clear H3
  go_enter Tryz.func152,Tryz.ntmps152
  go_wp2_with (first
   |(go_at_call 174;refine cmpNulls_any.mono ?_;rintro e w' ⟨rfl,b1⟩)
   |(go_at_call 175;refine cmpI_any.mono ?_;rintro e w' ⟨rfl,rfl⟩)
   |(go_at_call 176;refine strCmp_any.mono ?_;rintro e w' ⟨rfl,rfl⟩))
 all_goals go_ret
 all_goals try refine⟨?_,zwx w _ _⟩
 all_goals try refine⟨?_,New.trans (zwx w _ _) (by assumption)⟩
 all_goals
  rw[←HO.out];clear x0 x1 x2' x3 x4 y0 y1 y2' y3 y4 HO
  simp_all[qhb]
end Go.Proofs.YtmgfkpnghlmheaaGreat
namespace Go.Hm
open Go Go.RowKit
def zjc(t:Int)(a b:zab):Int:=if a.1||b.1 then z3l a.1 b.1 else if t=0∨t=1 then zia a.2.1 b.2.1 else if t=2 then qa7 a.2.2.1 b.2.2.1 else if t=3 then cmpP a.2.2.2.1 a.2.2.2.2 b.2.2.2.1 b.2.2.2.2 else 0
theorem qhe{t:Int}{a b:zab}(h: ¬(t=3∧a.1=false∧b.1=false)):zjc t a b=qhb t a b:=by
 unfold zjc qhb;by_cases h1:(a.1||b.1)=true
 ·rw[if_pos h1,if_pos h1]
 ·rw[if_neg h1,if_neg h1]
  have h3: ¬t=3:=fun e=>h ⟨e,by simp_all,by simp_all⟩
  simp[h3]
def qfr(x y u v:Int):Prop:=(-2097152≤x∧x≤2097152)∧(-2097152≤y∧y≤2097152)∧(-2097152≤u∧u≤2097152)∧(-2097152≤v∧v≤2097152)
end Go.Hm
namespace Go.Proofs.YtmgfkpnghlmheaaGreat
open Go.RowKit Go.Hm
set_option maxRecDepth 100000 in
theorem zuo{w:World}{t:Int}{a b:Bool}{n m:Int}{s r:List Nat}{x y x2 y2:Int}(hp:qfr x y x2 y2):
 Calls Tryz.prog 152 #[.int .i64 t,.agg #[.bool a,.int .i64 n,.string (zae s),.int .i64 x,.int .i64 y],.agg #[.bool b,.int .i64 m,.string (zae r),.int .i64 x2,.int .i64 y2]] w (zap (.int .i64 (zjc t (a,n,s,x,y) (b,m,r,x2,y2))) w):=by
 by_cases h3:t=3∧a=false∧b=false
 ·obtain⟨rfl,rfl,rfl⟩:=h3
  have hO:zjc 3 (false,n,s,x,y) (false,m,r,x2,y2)=cmpP x y x2 y2:=by simp[zjc]
  rw[hO];have P:=Hz (fun(W:World)=>zun (w:=W) hp.1 hp.2.1 hp.2.2.1 hp.2.2.2);have B0:=Blk.new w 61 #[.bool false,.int .i64 n,.string (zae s),.int .i64 x,.int .i64 y];have B1:=Blk.new (w.alloc (.cells #[.bool false,.int .i64 n,.string (zae s),.int .i64 x,.int .i64 y] 61)) 61 #[.bool false,.int .i64 m,.string (zae r),.int .i64 x2,.int .i64 y2];obtain⟨x0,x1,x2',x3,x4⟩:=zcm (B0.alloc (.cells #[.bool false,.int .i64 m,.string (zae r),.int .i64 x2,.int .i64 y2] 61));obtain⟨y0,y1,y2',y3,y4⟩:=zcm B1;clear B0 B1 hO hp
  go_enter Tryz.func152,Tryz.ntmps152
  go_wp2_with (go_at_call 177;refine(P.out _).mono ?_;rintro e w' ⟨rfl,b1⟩)
  go_ret
  exact⟨rfl,New.trans (zwx w _ _) b1⟩
 ·rw[qhe h3]
  exact zw8 h3
end Go.Proofs.YtmgfkpnghlmheaaGreat
