import PyProof.Rows.All
import Wide.All
import OpenK.AllK
import Wide.FinOn
import Lean
import PyProof.EqAt
import PyProof.EqKinds
import PyProof.TupleCall
import KE.KSortAsk
import PyProof.Rows.SortRuns
import KE.KSortTup
import PySem.Str
import PySem.Eval
import PySem.Challenge.RW_markedties_k08_whole_each_pair_once
set_option linter.all false
set_option maxRecDepth 100000
set_option Elab.async false
set_option maxHeartbeats 4000000
namespace MT
abbrev Tie:=Int×Int
def gstep(g:List Int)(t:Tie):List Int:=g.map λx=>if x=g.getD t.2.toNat 0 then g.getD t.1.toNat 0 else x
def g0(n:Nat):List Int:=(List.range n).map λk:Nat=>(k:Int)
def groups(n:Nat)(ts:List Tie):List Int:=ts.foldl gstep (g0 n)
def isWhole(n:Nat)(ts:List Tie):Bool:=(groups n ts).count ((groups n ts).getD 0 0)==n
def InR(n:Nat)(t:Tie):Prop:=0<=t.1/\t.1<t.2/\t.2<(n:Int)
instance(n t):Decidable (InR n t):=by unfold InR;infer_instance
inductive Conn(ts:List Tie):Int->Int->Prop
 | refl (i:Int):Conn ts i i
 | step {i j k:Int}:Conn ts i j->((j,k)∈ts\/(k,j)∈ts)->Conn ts i k
theorem Conn.trans{ts:List Tie}{i j k:Int}(a:Conn ts i j)(b:Conn ts j k):Conn ts i k:=by
 induction b with
 | refl=>exact a
 | step _ h ih=>exact ih.step h
theorem Conn.edge{ts:List Tie}{j k:Int}(h:(j,k)∈ts\/(k,j)∈ts):Conn ts j k:=(Conn.refl j).step h
theorem Conn.symm{ts:List Tie}{i j:Int}(a:Conn ts i j):Conn ts j i:=by
 induction a with
 | refl=>exact .refl _
 | step _ h ih=>exact(Conn.edge h.symm).trans ih
theorem Conn.mono{ts us:List Tie}(hs: ∀t∈ts,t∈us){i j:Int}(a:Conn ts i j):Conn us i j:=by
 induction a with
 | refl=>exact .refl _
 | step _ h ih=>exact ih.step (h.elim (λz=> .inl (hs _ z)) λz=> .inr (hs _ z))
theorem z5G(g:List Int)(t:Tie):(gstep g t).length=g.length:=by simp[gstep]
theorem z37(n:Nat)(ts:List Tie)(t:Tie):groups n (ts++[t])=gstep (groups n ts) t:=by simp[groups,List.foldl_append]
theorem z8i(n:Nat):groups n []=g0 n:=rfl
theorem z0x(n:Nat):(g0 n).length=n:=by simp[g0]
theorem z2H(ts:List Tie): ∀g:List Int,(ts.foldl gstep g).length=g.length:=by
 induction ts with
 | nil=>intro g;rfl
 | cons t r ih=>intro g;rw[List.foldl_cons,ih,z5G]
theorem z1j(n:Nat)(ts:List Tie):(groups n ts).length=n:=by rw[groups,z2H,z0x]
theorem z8N{n i:Nat}(h:i<n):(g0 n).getD i 0=(i:Int):=by
 simp[g0,List.getD_eq_getElem?_getD,h]
theorem z8j{g:List Int}{t:Tie}{i:Nat}(h:i<g.length):
  (gstep g t).getD i 0=if g.getD i 0=g.getD t.2.toNat 0 then g.getD t.1.toNat 0 else g.getD i 0:=by
 simp[gstep,List.getD_eq_getElem?_getD,h]
theorem zAS{α:Type}{P:List α->Prop}(h0:P [])(hs: ∀l a,P l->P (l++[a]))(l:List α):P l:=by
 have: ∀l:List α,P l.reverse:=by
  intro l
  induction l with
  | nil=>exact h0
  | cons a r ih=>rw[List.reverse_cons];exact hs _ _ ih
 have:=this l.reverse
 rwa [List.reverse_reverse]at this
theorem z38(n:Nat)(ts:List Tie):(∀t∈ts,InR n t)-> ∀i j:Nat,i<n->j<n->((groups n ts).getD i 0=(groups n ts).getD j 0↔Conn ts (i:Int) (j:Int)):=by
 induction ts using zAS with
 | h0=>
  intro _ i j hi hj
  rw[z8i,z8N hi,z8N hj]
  constructor
  ·intro e;rw[e];exact .refl _
  ·intro c
   cases c with
   | refl=>rfl
   | step _ h=>simp at h
 | hs ts t ih=>
  intro hr i j hi hj
  have hr': ∀u∈ts,InR n u:=λu hu=>hr u (List.mem_append_left _ hu)
  have ih:=ih hr'
  have ht:InR n t:=hr t (by simp)
  obtain⟨a,b⟩:=t
  obtain⟨h1,h2,h3⟩:=ht
  dsimp only at h1 h2 h3
  obtain⟨a,rfl⟩: ∃k:Nat,a=(k:Int):=⟨a.toNat,by lia⟩
  obtain⟨b,rfl⟩: ∃k:Nat,b=(k:Int):=⟨b.toNat,by lia⟩
  have ha:a<n:=by omega
  have hb:b<n:=by omega
  have gl:=z1j n ts
  have mono: ∀{x y:Int},Conn ts x y->Conn (ts++[((a:Int),(b:Int))]) x y:=λc=>c.mono λu hu=>List.mem_append_left _ hu
  have edge:Conn (ts++[((a:Int),(b:Int))]) (a:Int) (b:Int):= .edge (.inl (by simp))
  have val: ∀k,k<n->(groups n (ts++[((a:Int),(b:Int))])).getD k 0=if(groups n ts).getD k 0=(groups n ts).getD b 0 then(groups n ts).getD a 0 else(groups n ts).getD k 0:=λk hk=>by
   rw[z37,z8j (by rw[gl];exact hk)];simp
  constructor
  ·rw[val i hi,val j hj]
   intro e
   by_cases c1:(groups n ts).getD i 0=(groups n ts).getD b 0
   ·have d1:=mono ((ih i b hi hb).mp c1)
    by_cases c2:(groups n ts).getD j 0=(groups n ts).getD b 0
    ·exact d1.trans (mono ((ih j b hj hb).mp c2)).symm
    ·rw[if_pos c1,if_neg c2]at e
     exact d1.trans (edge.symm.trans (mono ((ih a j ha hj).mp e)))
   ·by_cases c2:(groups n ts).getD j 0=(groups n ts).getD b 0
    ·rw[if_neg c1,if_pos c2]at e
     exact(mono ((ih i a hi ha).mp e)).trans (edge.trans (mono ((ih j b hj hb).mp c2)).symm)
    ·rw[if_neg c1,if_neg c2]at e
     exact mono ((ih i j hi hj).mp e)
  ·have key: ∀x y:Int,Conn (ts++[((a:Int),(b:Int))]) x y-> ∀i j:Nat,x=(i:Int)->y=(j:Int)->i<n->j<n->
    (groups n (ts++[((a:Int),(b:Int))])).getD i 0=(groups n (ts++[((a:Int),(b:Int))])).getD j 0:=by
    intro x y c
    induction c with
    | refl=>intro i j e1 e2 _ _;rw[show i=j by lia]
    | step c h ih2=>
     rename_i y z
     intro i j e1 e2 hi hj
     have hy:0<=y/\y<n:=by
      rcases h with h|h
      ·have:=hr _ h;unfold InR at this;dsimp only at this;omega
      ·have:=hr _ h;unfold InR at this;dsimp only at this;omega
     have hyk:=ih2 i y.toNat e1 (by omega) hi (by omega)
     rw[hyk]
     have hz:y.toNat<n:=by omega
     have step1: ∀u v:Nat,u<n->v<n->(((u:Int),(v:Int))∈ts++[((a:Int),(b:Int))])->(groups n (ts++[((a:Int),(b:Int))])).getD u 0=(groups n (ts++[((a:Int),(b:Int))])).getD v 0:=by
      intro u v hu hv hm
      rcases List.mem_append.mp hm with hm|hm
      ·have e:=(ih u v hu hv).mpr (.edge (.inl hm))
       rw[val u hu,val v hv,e]
      ·have e:=List.mem_singleton.mp hm
       have e1:u=a:=by have:=congrArg Prod.fst e;dsimp only at this;lia
       have e2:v=b:=by have:=congrArg Prod.snd e;dsimp only at this;lia
       subst e1;subst e2
       rw[val u hu,val v hv,if_pos rfl]
       split<;>rfl
     have ey:y=((y.toNat:Nat):Int):=by omega
     rcases h with h|h
     ·exact step1 _ _ hz hj (by rw[<-ey,<-e2];exact h)
     ·exact(step1 _ _ hj hz (by rw[<-ey,<-e2];exact h)).symm
   exact λc=>key _ _ c i j rfl rfl hi hj
theorem z8O{l:List Int}{x:Int}:l.count x=l.length↔ ∀y∈l,y=x:=by
 rw[List.count_eq_length]
 constructor
 ·intro h y hy;exact(h y hy).symm
 ·intro h y hy;exact(h y hy).symm
theorem z39{n:Nat}{ts:List Tie}(hn:0<n)(hr: ∀t∈ts,InR n t):isWhole n ts=true↔ ∀i:Nat,i<n->Conn ts (i:Int) 0:=by
 have gl:=z1j n ts
 unfold isWhole
 rw[beq_iff_eq]
 have e:(groups n ts).count ((groups n ts).getD 0 0)=n↔ ∀y∈groups n ts,y=(groups n ts).getD 0 0:=by
  rw[<-z8O,gl]
 rw[e]
 constructor
 ·intro h i hi
  have:=h ((groups n ts).getD i 0) (by rw[List.getD_eq_getElem?_getD];simp[gl,hi])
  exact(z38 n ts hr i 0 hi hn).mp this
 ·intro h y hy
  obtain⟨i,hi,rfl⟩:=List.mem_iff_getElem.mp hy
  rw[gl]at hi
  have:=(z38 n ts hr i 0 hi hn).mpr (h i hi)
  rw[<-this]
  simp[List.getD_eq_getElem?_getD,gl,hi]
structure Come(n:Nat)(ts:List Tie)(c:List Int):Prop where
 nd:c.Nodup
 rg: ∀x∈c,0<=x/\x<(n:Int)
 rc: ∀x∈c,Conn ts x 0
 z:0∈c
end MT
namespace MT
def tlt(a b:Tie):Prop:=a.1<b.1\/(a.1=b.1/\a.2<b.2)
def tle(a b:Tie):Prop:=a.1<b.1\/(a.1=b.1/\a.2<=b.2)
instance(a b):Decidable (tlt a b):=by unfold tlt;infer_instance
instance(a b):Decidable (tle a b):=by unfold tle;infer_instance
theorem z5H{a b:Tie}(h:tle a b)(ne:a≠b):tlt a b:=by
 obtain⟨a1,a2⟩:=a;obtain⟨b1,b2⟩:=b
 unfold tle at h;unfold tlt;dsimp only at h ⊢
 rcases h with h|⟨h1,h2⟩
 ·exact .inl h
 ·right
  refine⟨h1,?_⟩
  rcases Int.lt_or_eq_of_le h2 with h|h
  ·exact h
  ·exact absurd (by rw[h1,h]) ne
theorem z2s(a:Tie): ¬tlt a a:=λh=>h.elim (Int.lt_irrefl _) λz=>Int.lt_irrefl _ z.2
theorem z5I{a b c:Tie}(h:tlt a b)(k:tlt b c):tlt a c:=by
 rcases h with h|⟨h1,h2⟩<;>rcases k with k|⟨k1,k2⟩
 ·exact .inl (Int.lt_trans h k)
 ·exact .inl (by rw[<-k1];exact h)
 ·exact .inl (by rw[h1];exact k)
 ·exact .inr ⟨h1.trans k1,Int.lt_trans h2 k2⟩
theorem tlt.le{a b:Tie}(h:tlt a b):tle a b:=h.imp id λz=>⟨z.1,Int.le_of_lt z.2⟩
theorem z5J{a b:Tie}(h:tle a b)(k:tle b a):a=b:=by
 obtain⟨a1,a2⟩:=a;obtain⟨b1,b2⟩:=b
 unfold tle at h k;dsimp only at h k
 have e1:a1=b1:=by lia
 have e2:a2=b2:=by lia
 rw[e1,e2]
abbrev Rising(ts:List Tie):Prop:=ts.Pairwise tlt
theorem z3z{ts:List Tie}(h:ts.Pairwise tle)(nd:ts.Nodup):Rising ts:=by
 have:=List.nodup_iff_pairwise_ne.mp nd
 exact List.Pairwise.imp₂ (λa b q r=>z5H q r) h this
def Each(k:Nat)(names:List Int):Prop:=names.Perm (g0 k)
theorem z4P(k:Nat):g0 (k+1)=g0 k++[(k:Int)]:=by simp[g0,List.range_succ]
theorem z0K{n:Nat}{x:Int}:x∈g0 n↔0<=x/\x<(n:Int):=by
 unfold g0
 rw[List.mem_map]
 constructor
 ·rintro⟨k,hk,rfl⟩;rw[List.mem_range]at hk;omega
 ·intro h;exact⟨x.toNat,by rw[List.mem_range];omega,by lia⟩
theorem z1T(n:Nat):(g0 n).Nodup:=by
 unfold g0
 rw[List.nodup_iff_pairwise_ne,List.pairwise_map]
 exact List.Pairwise.imp (λ{a b}h e=>h (by lia)) (List.nodup_iff_pairwise_ne.mp List.nodup_range)
theorem Each.insert{k:Nat}{names:List Int}(h:Each k names)(i:Nat):Each (k+1) (names.take i++(k:Int)::names.drop i):=by
 unfold Each at*
 rw[z4P]
 have e1:(names.take i++(k:Int)::names.drop i).Perm ((k:Int)::(names.take i++names.drop i)):=List.perm_middle
 rw[List.take_append_drop]at e1
 exact e1.trans ((List.Perm.cons _ h).trans (List.perm_append_singleton _ _).symm)
theorem Each.len{k:Nat}{names:List Int}(h:Each k names):names.length=k:=by rw[List.Perm.length_eq h,z0x]
theorem Each.nd{k:Nat}{names:List Int}(h:Each k names):names.Nodup:=(List.Perm.nodup_iff h).mpr (z1T k)
theorem Each.mem{k:Nat}{names:List Int}(h:Each k names){x:Int}:x∈names↔0<=x/\x<(k:Int):=by rw[List.Perm.mem_iff h,z0K]
def tieOf(x y:Int):Tie:=(min x y,max x y)
theorem z0O(x y:Int):(tieOf x y=(x,y))\/(tieOf x y=(y,x)):=by
 unfold tieOf
 rcases Int.le_total x y with h|h
 ·left;rw[Int.min_eq_left h,Int.max_eq_right h]
 ·right;rw[Int.min_eq_right h,Int.max_eq_left h]
def Order(n:Nat)(ts:List Tie):Prop:= ∃names us,Each n names/\ts.Perm us/\ ∀j,j+1<n-> ∃e x y,e<=j/\names[j+1]? = some x/\names[e]? = some y/\us[j]? = some (tieOf x y)
structure Valid(n:Nat)(ts:List Tie):Prop where
 pos:0<n
 len:ts.length+1=n
 rg: ∀t∈ts,InR n t
 ris:Rising ts
 whole:isWhole n ts=true
structure VT(n:Nat)(ts:List Tie):Prop extends Valid n ts where
 ord:Order n ts
structure Grown(n:Nat)(names:List Int)(k:Nat)(us:List Tie):Prop where
 pos:0<k
 len:us.length+1=k
 rg: ∀t∈us,InR n t
 ends: ∀t∈us,∀i,k<=i-> ∀x,names[i]? = some x->t.1≠x/\t.2≠x
 nd:us.Nodup
 conn: ∀i,i<k-> ∀x z,names[i]? = some x->names[0]? = some z->Conn us x z
 nth: ∀j,j+1<k-> ∃e x y,e<=j/\names[j+1]? = some x/\names[e]? = some y/\us[j]? = some (tieOf x y)
theorem Grown.start(n:Nat)(names:List Int):Grown n names 1 [] where
 pos:=by decide
 len:=rfl
 rg:=λt ht=>by simp at ht
 ends:=λt ht=>by simp at ht
 nd:=List.nodup_nil
 conn:=λi hi x z h1 h2=>by
  have:i=0:=by lia
  subst this;rw[h1]at h2;cases h2;exact .refl _
 nth:=λj hj=>absurd hj (by omega)
theorem Grown.step{n k e:Nat}{names:List Int}{us:List Tie}{x y:Int}(hE:Each n names)(G:Grown n names k us)(hx:names[k]? = some x)(hy:names[e]? = some y)(he:e<k):Grown n names (k+1) (us++[tieOf x y]):=by
 have nd:=hE.nd
 have apart: ∀{i j:Nat}{a b:Int},names[i]? = some a->names[j]? = some b->i≠j->a≠b:=by
  intro i j a b h1 h2 hne e
  subst e
  obtain⟨hi,h1⟩:=List.getElem?_eq_some_iff.mp h1
  obtain⟨hj,h2⟩:=List.getElem?_eq_some_iff.mp h2
  exact hne ((List.getElem_inj nd).mp (h1.trans h2.symm))
 have hxy:x≠y:=apart hx hy (by omega)
 have rx:=hE.mem.mp (List.mem_of_getElem? hx)
 have ry:=hE.mem.mp (List.mem_of_getElem? hy)
 have hn:k<n:=by obtain⟨h,_⟩:=List.getElem?_eq_some_iff.mp hx;rw[hE.len]at h;exact h
 have edge:(x,y)∈us++[tieOf x y]\/(y,x)∈us++[tieOf x y]:=by
  rcases z0O x y with h|h
  ·left;rw[h];simp
  ·right;rw[h];simp
 have mono: ∀{a b:Int},Conn us a b->Conn (us++[tieOf x y]) a b:=λc=>c.mono λu hu=>List.mem_append_left _ hu
 have ends': ∀i,k+1<=i-> ∀z,names[i]? = some z->(tieOf x y).1≠z/\(tieOf x y).2≠z:=by
  intro i hi z hz
  have h1:x≠z:=apart hx hz (by omega)
  have h2:y≠z:=apart hy hz (by lia)
  rcases z0O x y with h|h<;>rw[h]
  ·exact⟨h1,h2⟩
  ·exact⟨h2,h1⟩
 refine⟨by lia,by simp[G.len],?_,?_,?_,?_,λj hj=> ?nth⟩
 case nth=>
  have hl:=G.len
  by_cases hj':j+1<k
  ·obtain⟨e',x',y',h1,h2,h3,h4⟩:=G.nth j hj'
   exact⟨e',x',y',h1,h2,h3,by rw[List.getElem?_append_left (List.getElem?_eq_some_iff.mp h4).1];exact h4⟩
  ·have e1:j=us.length:=by omega
   have e2:j+1=k:=by omega
   exact⟨e,x,y,by omega,by rw[e2];exact hx,hy,by rw[e1,List.getElem?_append_right (Nat.le_refl _),Nat.sub_self];rfl⟩
 ·intro t ht
  rcases List.mem_append.mp ht with ht|ht
  ·exact G.rg t ht
  ·rw[List.mem_singleton.mp ht]
   unfold InR tieOf
   dsimp only
   lia
 ·intro t ht i hi z hz
  rcases List.mem_append.mp ht with ht|ht
  ·exact G.ends t ht i (by omega) z hz
  ·rw[List.mem_singleton.mp ht];exact ends' i hi z hz
 ·rw[List.nodup_append]
  refine⟨G.nd,by simp,λt ht u hu e=> ?_⟩
  rw[List.mem_singleton.mp hu]at e
  subst e
  have q:=G.ends _ ht k (Nat.le_refl _) x hx
  rcases z0O x y with h|h<;>rw[h]at q
  ·exact q.1 rfl
  ·exact q.2 rfl
 ·intro i hi a z ha hz
  by_cases hik:i<k
  ·exact mono (G.conn i hik a z ha hz)
  ·have:i=k:=by lia
   subst this
   rw[hx]at ha;cases ha
   exact(Conn.edge edge).trans (mono (G.conn e he y z hy hz))
theorem Grown.valid{n:Nat}{names:List Int}{us vs:List Tie}(hE:Each n names)(G:Grown n names n us)(hp:vs.Perm us)(hs:vs.Pairwise tle):VT n vs:=by
 have rg: ∀t∈vs,InR n t:=λt ht=>G.rg t ((List.Perm.mem_iff hp).mp ht)
 refine⟨⟨G.pos,by rw[List.Perm.length_eq hp];exact G.len,rg,z3z hs ((List.Perm.nodup_iff hp).mpr G.nd),?_⟩,names,us,hE,hp,G.nth⟩
 rw[z39 G.pos rg]
 intro i hi
 have get: ∀x:Int,0<=x->x<(n:Int)-> ∃j,j<n/\names[j]? = some x:=λx h0 h1=>by
  obtain⟨j,hj⟩:=List.mem_iff_getElem?.mp (hE.mem.mpr ⟨h0,h1⟩)
  refine⟨j,?_,hj⟩
  obtain⟨h,_⟩:=List.getElem?_eq_some_iff.mp hj
  rw[hE.len]at h;exact h
 obtain⟨z,hz⟩: ∃z,names[0]? = some z:=by
  have:0<names.length:=by rw[hE.len];exact G.pos
  exact⟨names[0],by simp[this]⟩
 obtain⟨j,hj,ej⟩:=get i (by lia) (by omega)
 obtain⟨l,hl,el⟩:=get 0 (by lia) (by have:=G.pos;omega)
 have c1:=G.conn j hj _ z ej hz
 have c2:=G.conn l hl _ z el hz
 exact(c1.trans c2.symm).mono λt ht=>(List.Perm.mem_iff hp).mpr ht
end MT
namespace MT
def at_(N:List Int)(i:Int):Int:=N.getD i.toNat 0
structure Eld(nm:List Int)(k:Nat)(us:List Tie)(el:Nat->Nat)(here:Nat):Prop where
 tie: ∀j,j+1<k->el (j+1)<=j/\us[j]? = some (tieOf (at_ nm ((j+1:Nat):Int)) (at_ nm (el (j+1):Int)))
 step: ∀j,j+2<k->el (j+2)=el (j+1)\/el (j+2)=j+1
 now:here=k-1\/(2<=k/\here=el (k-1))
theorem Eld.start(nm:List Int):Eld nm 1 [] (λ_=>0) 0:=⟨λj h=>absurd h (by omega),λj h=>absurd h (by omega),.inl rfl⟩
theorem zCi{nm:List Int}{i:Nat}{z:Int}(h:nm[i]? = some z):at_ nm (i:Int)=z:=by
 unfold at_
 rw[Int.toNat_natCast,List.getD_eq_getElem?_getD,h]
 rfl
theorem Eld.push{nm:List Int}{k here:Nat}{us:List Tie}{el:Nat->Nat}{x y:Int}(E:Eld nm k us el here)(hk:0<k)(hl:us.length+1=k)(hh:here<k)(hx:nm[k]? = some x)(hy:nm[here]? = some y)(b:Bool):Eld nm (k+1) (us++[tieOf x y]) (λi=>if i=k then here else el i) (if b then k else here):=by
 refine⟨λj hj=> ?_,λj hj=> ?_,?_⟩
 ·by_cases e:j+1=k
  ·rw[if_pos e,e,zCi hx,zCi hy,show j=us.length by omega,List.getElem?_append_right (Nat.le_refl _),Nat.sub_self]
   exact⟨by omega,rfl⟩
  ·rw[if_neg e,List.getElem?_append_left (by omega)]
   exact E.tie j (by omega)
 ·rw[if_neg (show ¬j+1=k by omega)]
  by_cases e:j+2=k
  ·rw[if_pos e]
   rcases E.now with h|⟨_,h⟩
   ·exact .inr (by omega)
   ·rw[show k-1=j+1 by omega]at h
    exact .inl h
  ·rw[if_neg e]
   exact E.step j (by omega)
 ·cases b with
  | true=>exact .inl rfl
  | false=>
   refine .inr ⟨by omega,?_⟩
   show here=if k+1-1=k then here else el (k+1-1)
   rw[if_pos (by omega)]
end MT
namespace MT
theorem z3A: ∀{l l':List Int},l.Perm l'->l.Pairwise (· <= ·)->l'.Pairwise (· <= ·)->l=l'
 | [],l',p,_,_=>by rw[List.Perm.eq_nil p.symm]
 | a::l,l',p,h,h'=>by
  cases l' with
  | nil=>exact absurd (List.Perm.eq_nil p) (by simp)
  | cons b l'=>
   have ha:=(List.pairwise_cons.mp h).1
   have hb:=(List.pairwise_cons.mp h').1
   have e:a=b:=by
    have m1:a∈b::l':=(List.Perm.mem_iff p).mp (by simp)
    have m2:b∈a::l:=(List.Perm.mem_iff p).mpr (by simp)
    rcases List.mem_cons.mp m1 with e|m1
    ·exact e
    ·rcases List.mem_cons.mp m2 with e|m2
     ·exact e.symm
     ·have:=ha b m2;have:=hb a m1;lia
   subst e
   rw[z3A (List.Perm.cons_inv p) (List.pairwise_cons.mp h).2 (List.pairwise_cons.mp h').2]
theorem z5K(n:Nat):(g0 n).Pairwise (· <= ·):=by
 unfold g0
 rw[List.pairwise_map]
 exact List.Pairwise.imp (λ{a b}h=>by omega) List.pairwise_lt_range
theorem z6G{n:Nat}{ns ns':List Int}(p:ns'.Perm ns)(h:ns'.Pairwise (· <= ·)):ns'=g0 n↔Each n ns:=by
 unfold Each
 constructor
 ·rintro rfl;exact p.symm
 ·intro q;exact z3A (p.trans q) h (z5K n)
instance(n ns):Decidable (Each n ns):=by unfold Each;infer_instance
def absI(i:Int):Int:=if i<0 then -i else i
def diff(m:List Int)(t:Tie):Int:=absI (m.getD t.1.toNat 0-m.getD t.2.toNat 0)
def diffs(m:List Int)(ts:List Tie):List Int:=ts.map (diff m)
theorem z2I{n:Nat}{m:List Int}(h:Each n m){i:Int}(h0:0<=i)(h1:i<(n:Int)):0<=m.getD i.toNat 0/\m.getD i.toNat 0<(n:Int):=by
 have hl:=h.len
 have hi:i.toNat<m.length:=by omega
 have e:m.getD i.toNat 0=m[i.toNat]:=by simp[hi]
 rw[e]
 exact h.mem.mp (List.getElem_mem hi)
theorem z8P{n:Nat}{m:List Int}(h:Each n m){i j:Int}(h0:0<=i)(hij:i<j)(h1:j<(n:Int)):m.getD i.toNat 0≠m.getD j.toNat 0:=by
 have hl:=h.len
 have hi:i.toNat<m.length:=by omega
 have hj:j.toNat<m.length:=by omega
 have e1:m.getD i.toNat 0=m[i.toNat]:=by simp[hi]
 have e2:m.getD j.toNat 0=m[j.toNat]:=by simp[hj]
 rw[e1,e2]
 intro e
 have:=(List.getElem_inj h.nd).mp e
 omega
end MT
namespace MT
def risingB:List Tie->Bool
 | []=>true
 | [_]=>true
 | a::b::r=>decide (tlt a b)&&risingB (b::r)
theorem z44: ∀ts:List Tie,risingB ts=true↔Rising ts
 | []=>by simp[risingB]
 | [a]=>by simp[risingB]
 | a::b::r=>by
  unfold risingB
  rw[Bool.and_eq_true,decide_eq_true_eq,z44 (b::r)]
  constructor
  ·rintro⟨h1,h2⟩
   refine List.pairwise_cons.mpr ⟨λx hx=> ?_,h2⟩
   rcases List.mem_cons.mp hx with rfl|hx
   ·exact h1
   ·exact z5I h1 ((List.pairwise_cons.mp h2).1 x hx)
  ·intro h
   have:=List.pairwise_cons.mp h
   exact⟨this.1 b (by simp),this.2⟩
def steps(ts:List Tie):List Bool:=(List.range (ts.length-1)).map λk=>decide (tlt (ts.getD k (0,0)) (ts.getD (k+1) (0,0)))
theorem z5L: ∀ts:List Tie,(steps ts).all (λb=>b)=risingB ts
 | []=>rfl
 | [a]=>rfl
 | a::b::r=>by
  have ih:=z5L (b::r)
  unfold risingB
  rw[<-ih]
  unfold steps
  have e:(a::b::r).length-1=((b::r).length-1)+1:=by simp
  rw[e,List.range_succ_eq_map,List.map_cons,List.all_cons,List.map_map]
  rfl
def lower(ts:List Tie)(p:Int):List Int:=(ts.filter λt=>decide (t.2=p)).map (·.1)
def higher(ts:List Tie)(p:Int):List Int:=(ts.filter λt=>decide (t.1=p)).map (·.2)
end MT
namespace MT
theorem z8Q{n:Nat}{p:Int}{ts:List Tie}(hr: ∀t∈ts,InR n t)(h:Rising ts):(lower ts p++higher ts p).Pairwise (· < ·):=by
 rw[List.pairwise_append]
 refine⟨?_,?_,?_⟩
 ·unfold lower
  rw[List.pairwise_map]
  refine List.Pairwise.imp_of_mem (λ{a b}ha hb q=> ?_) (h.filter _)
  have e1:a.2=p:=of_decide_eq_true (List.mem_filter.mp ha).2
  have e2:b.2=p:=of_decide_eq_true (List.mem_filter.mp hb).2
  unfold tlt at q;omega
 ·unfold higher
  rw[List.pairwise_map]
  refine List.Pairwise.imp_of_mem (λ{a b}ha hb q=> ?_) (h.filter _)
  have e1:a.1=p:=of_decide_eq_true (List.mem_filter.mp ha).2
  have e2:b.1=p:=of_decide_eq_true (List.mem_filter.mp hb).2
  unfold tlt at q;omega
 ·intro x hx y hy
  unfold lower at hx
  unfold higher at hy
  obtain⟨a,ha,rfl⟩:=List.mem_map.mp hx
  obtain⟨b,hb,rfl⟩:=List.mem_map.mp hy
  have e1:a.2=p:=of_decide_eq_true (List.mem_filter.mp ha).2
  have e2:b.1=p:=of_decide_eq_true (List.mem_filter.mp hb).2
  have h1:=hr a (List.mem_filter.mp ha).1
  have h2:=hr b (List.mem_filter.mp hb).1
  unfold InR at h1 h2
  omega
def cnt(m:List Int):Nat:=m.countP λx=>decide (0<=x)
structure Zig(n:Nat)(m:List Int)(low high turn:Int):Prop where
 len:m.length=n
 lo:1<=low
 tn:turn=0\/turn=1
 eq:(cnt m:Int)=low+((n:Int)-1-high)
end MT
namespace MT
def told(ts:List Tie)(ms:List Int):List Int:=(ts.filter λt=>decide (t.2<(ms.length:Int))).map (diff ms)
def grow(B:List Int)(ms met:List Int)(k:Int):List Int:=met++B.map λp=>absI (ms.getD p.toNat 0-k)
def stepOf(B:List Int)(ms met:List Int)(k:Int):Option (List Int×List Int):=if k∈ms then none else if(grow B ms met k).Nodup then some (ms++[k],grow B ms met k)else none
def stepsP(n:Nat)(B:List Int)(ms met:List Int):List (List Int×List Int):=(g0 n).filterMap (stepOf B ms met)
theorem z3u{α:Type}(p q r:α->Bool): ∀(l:List α),(∀a∈l,r a=(p a||q a))->(∀a∈l,¬(p a=true/\q a=true))->(l.filter p++l.filter q).Perm (l.filter r)
 | [],_,_=> .refl _
 | a::l,h1,h2=>by
  have ih:=z3u p q r l (λx hx=>h1 x (List.mem_cons_of_mem _ hx)) λx hx=>h2 x (List.mem_cons_of_mem _ hx)
  have ha:=h1 a List.mem_cons_self
  have hb:=h2 a List.mem_cons_self
  cases hp:p a<;>cases hq:q a
  ·rw[hp,hq]at ha;simp only[List.filter_cons,hp,hq,ha];simpa using ih
  ·rw[hp,hq]at ha;simp only[List.filter_cons,hp,hq,ha]
   simp only[Bool.false_eq_true,if_false,Bool.or_true,if_true]
   exact List.perm_middle.trans (ih.cons a)
  ·rw[hp,hq]at ha;simp only[List.filter_cons,hp,hq,ha]
   simpa using ih.cons a
  ·exact absurd ⟨hp,hq⟩ hb
theorem z3B{ms:List Int}{k:Int}{i:Nat}(h:i<ms.length):(ms++[k]).getD i 0=ms.getD i 0:=by
 simp[List.getD_eq_getElem?_getD,List.getElem?_append_left h]
theorem z8R{ms:List Int}{k:Int}:(ms++[k]).getD ms.length 0=k:=by
 simp[List.getD_eq_getElem?_getD]
theorem z3C{n:Nat}{ts:List Tie}(hr: ∀t∈ts,InR n t)(ms:List Int)(k:Int):(told ts ms++(lower ts (ms.length:Int)).map λp=>absI (ms.getD p.toNat 0-k)).Perm (told ts (ms++[k])):=by
 have hp:=z3u (λt:Tie=>decide (t.2<(ms.length:Int))) (λt=>decide (t.2=(ms.length:Int))) (λt=>decide (t.2<((ms++[k]).length:Int))) ts (λa _=>by
  rw[Bool.eq_iff_iff]
  simp only[Bool.or_eq_true,decide_eq_true_eq,List.length_append,List.length_singleton]
  omega) (λa _=>by simp only[decide_eq_true_eq];lia)
 have:=hp.map (diff (ms++[k]))
 refine List.Perm.trans (List.Perm.of_eq ?_) this
 rw[List.map_append]
 congr 1
 ·unfold told
  refine List.map_congr_left λt ht=> ?_
  rw[List.mem_filter,decide_eq_true_eq]at ht
  have hI:=hr t ht.1
  have h1:=hI.1
  have h2:=hI.2.1
  unfold diff
  rw[z3B (by omega),z3B (by omega)]
 ·unfold lower
  rw[List.map_map]
  refine List.map_congr_left λt ht=> ?_
  rw[List.mem_filter,decide_eq_true_eq]at ht
  have hI:=hr t ht.1
  have h1:=hI.1
  have h2:=hI.2.1
  have e:t.2.toNat=ms.length:=by lia
  unfold diff
  simp only[Function.comp]
  rw[z3B (by omega),e,z8R]
theorem z6H{n:Nat}{ms:List Int}(nd:ms.Nodup)(rg: ∀x∈ms,0<=x/\x<(n:Int))(hl:ms.length=n):Each n ms:=by
 have sub:ms ⊆ g0 n:=λx hx=>z0K.mpr (rg x hx)
 refine(List.perm_ext_iff_of_nodup nd (z1T n)).mpr λx=>⟨λhx=>sub hx,λhx=> ?_⟩
 refine Decidable.byContradiction λhn=> ?_
 have:=List.Nodup.length_le_of_subset (List.nodup_cons.mpr ⟨hn,nd⟩) (List.cons_subset.mpr ⟨hx,sub⟩)
 rw[List.length_cons,z0x,hl]at this
 lia
theorem z8k{ms:List Int}{k:Int}(h:ms.Nodup)(hk:k∉ms):(ms++[k]).Nodup:=by
 rw[List.nodup_append]
 refine⟨h,by simp,λa ha b hb=> ?_⟩
 rw[List.mem_singleton]at hb
 subst hb
 intro z;exact hk (z▸ha)
end MT
namespace MT
def nb(ts:List Tie)(p:Int):List Int:=lower ts p++higher ts p
theorem z3D{ts:List Tie}{p x:Int}:x∈nb ts p↔(x,p)∈ts\/(p,x)∈ts:=by
 unfold nb lower higher
 rw[List.mem_append,List.mem_map,List.mem_map]
 constructor
 ·rintro(⟨t,ht,rfl⟩|⟨t,ht,rfl⟩)
  ·obtain⟨h1,h2⟩:=List.mem_filter.mp ht
   rw[<-of_decide_eq_true h2];exact .inl h1
  ·obtain⟨h1,h2⟩:=List.mem_filter.mp ht
   rw[<-of_decide_eq_true h2];exact .inr h1
 ·rintro(h|h)
  ·exact .inl ⟨(x,p),List.mem_filter.mpr ⟨h,decide_eq_true rfl⟩,rfl⟩
  ·exact .inr ⟨(p,x),List.mem_filter.mpr ⟨h,decide_eq_true rfl⟩,rfl⟩
theorem z4Q{ts:List Tie}{p x:Int}(h:x∈nb ts p):p∈nb ts x:=z3D.mpr (z3D.mp h).symm
theorem z4R{n:Nat}{ts:List Tie}{p:Int}(V:Valid n ts):(nb ts p).Nodup:=(z8Q V.rg V.ris).imp λh=>Int.ne_of_lt h
theorem z2J{n:Nat}{ts:List Tie}{p x:Int}(V:Valid n ts)(h:x∈nb ts p):0<=x/\x<(n:Int):=by
 rcases z3D.mp h with h|h
 ·have:=V.rg _ h;unfold InR at this;dsimp only at this;omega
 ·have:=V.rg _ h;unfold InR at this;dsimp only at this;omega
theorem z8S{n:Nat}{ts:List Tie}{p x:Int}(V:Valid n ts)(h:x∈nb ts p):tieOf p x∈ts:=by
 rcases z3D.mp h with h|h
 ·have:=V.rg _ h;unfold InR at this;dsimp only at this
  rw[show tieOf p x=(x,p) by unfold tieOf;rw[Int.min_eq_right (by omega),Int.max_eq_left (by omega)]];exact h
 ·have:=V.rg _ h;unfold InR at this;dsimp only at this
  rw[show tieOf p x=(p,x) by unfold tieOf;rw[Int.min_eq_left (by omega),Int.max_eq_right (by omega)]];exact h
theorem z2K{a b c d:Int}(h:tieOf a b=tieOf c d):(a=c/\b=d)\/(a=d/\b=c):=by
 rcases z0O a b with e|e<;>rcases z0O c d with f|f<;>rw[e,f]at h<;>cases h
 ·exact .inl ⟨rfl,rfl⟩
 ·exact .inr ⟨rfl,rfl⟩
 ·exact .inr ⟨rfl,rfl⟩
 ·exact .inl ⟨rfl,rfl⟩
def innerL(n:Nat)(ts:List Tie):List Int:=(g0 n).filter λp=>decide (2<=(nb ts p).length)
def inNb(n:Nat)(ts:List Tie)(p:Int):List Int:=(nb ts p).filter λx=>decide (x∈innerL n ts)
def isComb(n:Nat)(ts:List Tie):Bool:=(innerL n ts).all λp=>decide ((inNb n ts p).length<=2)
def rowEnd(n:Nat)(ts:List Tie):Int:=((innerL n ts).find? λp=>decide ((inNb n ts p).length<=1)).getD 0
theorem z1C{n:Nat}{ts:List Tie}{p x:Int}:x∈inNb n ts p↔x∈nb ts p/\x∈innerL n ts:=by
 unfold inNb;rw[List.mem_filter,decide_eq_true_eq]
theorem z45{n:Nat}{ts:List Tie}{p:Int}(V:Valid n ts):(inNb n ts p).Nodup:=(z4R V).filter _
theorem leaf{n:Nat}{ts:List Tie}{p a b:Int}(h:p∉innerL n ts)(hp:0<=p/\p<(n:Int))(ha:a∈nb ts p)(hb:b∈nb ts p):a=b:=by
 have hl:(nb ts p).length<2:=Nat.lt_of_not_le λz=>h (List.mem_filter.mpr ⟨z0K.mpr hp,decide_eq_true z⟩)
 match hn:nb ts p,ha,hb with
 | [c],ha,hb=>rw[List.mem_singleton.mp ha,List.mem_singleton.mp hb]
 | c::d::r,_,_=>rw[hn]at hl;simp only[List.length_cons]at hl;lia
theorem zCj{l:List Int}{c:Int}(nd:l.Nodup)(h: ∀y∈l,y=c):l.length<=1:=by
 match l,nd,h with
 | [],_,_=>exact Nat.zero_le _
 | [a],_,_=>exact Nat.le_refl _
 | a::b::r,nd,h=>
  have e:a=b:=(h a List.mem_cons_self).trans (h b (List.mem_cons_of_mem _ List.mem_cons_self)).symm
  exact absurd (e▸List.mem_cons_self) (List.nodup_cons.mp nd).1
theorem zEm{n:Nat}{ts:List Tie}(V:VT n ts)(all: ∀p∈innerL n ts,2<=(inNb n ts p).length):innerL n ts=[]:=by
 obtain⟨names,us,hE,hp,nth⟩:=V.ord
 have nd:=hE.nd
 have ul:us.length+1=n:=by rw[<-hp.length_eq];exact V.len
 have same: ∀{i j:Nat}{a:Int},names[i]? = some a->names[j]? = some a->i=j:=λ{i j a}h1 h2=>by
  obtain⟨hi,h1⟩:=List.getElem?_eq_some_iff.mp h1
  obtain⟨hj,h2⟩:=List.getElem?_eq_some_iff.mp h2
  exact(List.getElem_inj nd).mp (h1.trans h2.symm)
 have key: ∀(m i:Nat)(v:Int),n-i<=m->names[i]? = some v->v∉innerL n ts:=by
  intro m
  induction m with
  | zero=>
   intro i v hi hv
   have:=(List.getElem?_eq_some_iff.mp hv).1
   rw[hE.len]at this
   omega
  | succ m ih=>
   intro i v hi hv hin
   obtain⟨c,hc⟩: ∃c:Int,∀j x' y',j+1=i->us[j]? = some (tieOf x' y')->x'=v->y'=c:=by
    cases i with
    | zero=>exact⟨0,λj _ _ h=>nomatch h⟩
    | succ i=>
     have hil:=(List.getElem?_eq_some_iff.mp hv).1
     rw[hE.len]at hil
     obtain⟨e0,x0,y0,_,h2,_,h4⟩:=nth i hil
     refine⟨y0,λj x' y' hj hu hx=> ?_⟩
     have ej:j=i:=by lia
     rw[ej,h4]at hu
     rw[h2]at hv
     have e1:x0=v:=Option.some.inj hv
     rcases z2K (Option.some.inj hu)with⟨_,e⟩|⟨e,f⟩
     ·exact e.symm
     ·rw[<-e,e1,f,hx]
   have:(inNb n ts v).length<=1:=zCj (c:=c) (z45 V.1) λy hy=>by
    obtain⟨h1,h2⟩:=z1C.mp hy
    obtain⟨j,hj⟩:=List.mem_iff_getElem?.mp (hp.mem_iff.mp (z8S V.1 h1))
    have jl:=(List.getElem?_eq_some_iff.mp hj).1
    obtain⟨e,x',y',g1,g2,g3,g4⟩:=nth j (by lia)
    have hu:=g4
    rw[hj]at g4
    rcases z2K (Option.some.inj g4)with⟨e1,e2⟩|⟨e1,e2⟩
    ·rw[e2]
     exact hc j x' y' (same g2 (by rw[<-e1];exact hv)) hu e1.symm
    ·have ei:e=i:=same g3 (by rw[<-e1];exact hv)
     exact absurd h2 (ih (j+1) y (by omega) (by rw[e2];exact g2))
   have:=all v hin
   lia
 rw[List.eq_nil_iff_forall_not_mem]
 intro v hv
 have hr:0<=v/\v<(n:Int):=z0K.mp (List.mem_filter.mp hv).1
 obtain⟨i,hi⟩:=List.mem_iff_getElem?.mp (hE.mem.mpr hr)
 exact key n i v (Nat.sub_le _ _) hi hv
theorem zEn{n:Nat}{ts:List Tie}(V:VT n ts):(inNb n ts (rowEnd n ts)).length<=1/\(innerL n ts≠[]->rowEnd n ts∈innerL n ts)/\0<=rowEnd n ts/\rowEnd n ts<(n:Int):=by
 unfold rowEnd
 cases h:(innerL n ts).find? λp=>decide ((inNb n ts p).length<=1)with
 | some p=>
  have hm:=List.mem_of_find?_eq_some h
  have hd:=List.find?_some h
  exact⟨of_decide_eq_true hd,λ_=>hm,z0K.mp (List.mem_filter.mp hm).1⟩
 | none=>
  have no:innerL n ts=[]:=zEm V λp hp=>by
   have:=List.find?_eq_none.mp h p hp
   rw[decide_eq_true_eq]at this
   lia
  refine⟨?_,λz=>absurd no z,Int.le_refl _,by have:=V.pos;show(0:Int)<n;omega⟩
  have:inNb n ts ((none:Option Int).getD 0)=[]:=by
   unfold inNb
   rw[List.filter_eq_nil_iff]
   intro x _ hx
   rw[decide_eq_true_eq,no]at hx
   cases hx
  rw[this];exact Nat.zero_le _
def walk(n:Nat)(ts:List Tie):Nat->List Int->List Int->List Int
 | 0,row,_=>row
 | _+1,row,[]=>row
 | f+1,row,x::_=>walk n ts f (row++[x]) ((inNb n ts x).filter λy=>decide (y∉row++[x]))
def Ch(ts:List Tie):List Int->Prop
 | a::b::r=>b∈nb ts a/\Ch ts (b::r)
 | _=>True
theorem Ch.snoc{ts:List Tie}{l x:Int}: ∀{r:List Int},Ch ts (r++[l])->x∈nb ts l->Ch ts (r++[l]++[x])
 | [],_,hx=>⟨hx,trivial⟩
 | [a],h,hx=>⟨h.1,hx,trivial⟩
 | a::b::r,h,hx=>⟨h.1,Ch.snoc (r:=b::r) h.2 hx⟩
structure Wk(n:Nat)(ts:List Tie)(pre:List Int)(l:Int)(onward:List Int):Prop where
 nd:(pre++[l]).Nodup
 rg: ∀x∈pre++[l],0<=x/\x<(n:Int)
 closed: ∀r∈pre,∀y∈inNb n ts r,y∈pre++[l]
 onw:onward=(inNb n ts l).filter λy=>decide (y∉pre++[l])
 one:onward.length<=1
 inn:innerL n ts≠[]->l∈innerL n ts
 ch:Ch ts (pre++[l])
theorem Wk.start{n:Nat}{ts:List Tie}(V:VT n ts):Wk n ts [] (rowEnd n ts) (inNb n ts (rowEnd n ts)):=by
 obtain⟨h1,h2,h3⟩:=zEn V
 refine⟨by simp,λx hx=>by rw[List.mem_singleton.mp hx];exact h3,λr hr=>(nomatch hr),?_,h1,h2,trivial⟩
 rw[List.filter_eq_self.mpr]
 intro y hy
 rw[decide_eq_true_eq,List.nil_append,List.mem_singleton]
 intro e
 have:=(z1C.mp hy).1
 rw[e]at this
 rcases z3D.mp this with z|z
 ·have:=V.rg _ z;unfold InR at this;dsimp only at this;omega
 ·have:=V.rg _ z;unfold InR at this;dsimp only at this;omega
theorem Wk.step{n:Nat}{ts:List Tie}{pre rest:List Int}{l x:Int}(V:VT n ts)(hc:isComb n ts=true)(w:Wk n ts pre l (x::rest)):Wk n ts (pre++[l]) x ((inNb n ts x).filter λy=>decide (y∉pre++[l]++[x])):=by
 have hx:x∈(inNb n ts l).filter λy=>decide (y∉pre++[l]):=by rw[<-w.onw];exact List.mem_cons_self
 obtain⟨hx1,hx2⟩:=List.mem_filter.mp hx
 rw[decide_eq_true_eq]at hx2
 obtain⟨hx3,hx4⟩:=z1C.mp hx1
 have ll:l∈inNb n ts x:=z1C.mpr ⟨z4Q hx3,w.inn (List.ne_nil_of_mem hx4)⟩
 refine⟨?_,λy hy=> ?_,λr hr y hy=> ?_,rfl,?_,λ_=>hx4,w.ch.snoc hx3⟩
 ·rw[List.nodup_append]
  exact⟨w.nd,by simp,λa ha b hb e=>hx2 (by rw[<-List.mem_singleton.mp hb,<-e];exact ha)⟩
 ·rcases List.mem_append.mp hy with hy|hy
  ·exact w.rg y hy
  ·rw[List.mem_singleton.mp hy];exact z2J V.1 hx3
 ·rcases List.mem_append.mp hr with hr|hr
  ·exact List.mem_append_left _ (w.closed r hr y hy)
  ·rw[List.mem_singleton.mp hr]at hy
   by_cases hm:y∈pre++[l]
   ·exact List.mem_append_left _ hm
   ·have:y∈x::rest:=by rw[w.onw];exact List.mem_filter.mpr ⟨hy,decide_eq_true hm⟩
    have hl:=w.one
    match rest,hl,this with
    | [],_,this=>rw[List.mem_singleton.mp this];exact List.mem_append_right _ List.mem_cons_self
    | _::_,hl,_=>simp only[List.length_cons]at hl;lia
 ·have h2:(inNb n ts x).length<=2:=of_decide_eq_true (List.all_eq_true.mp hc x hx4)
  have:((inNb n ts x).filter λy=>decide (y∉pre++[l]++[x])).length<(inNb n ts x).length:=List.length_filter_lt_length_iff_exists.mpr ⟨l,ll,λz=>of_decide_eq_true z (List.mem_append_left _ (List.mem_append_right _ List.mem_cons_self))⟩
  lia
structure Row(n:Nat)(ts:List Tie)(row:List Int):Prop where
 ne:row≠[]
 nd:row.Nodup
 rg: ∀x∈row,0<=x/\x<(n:Int)
 closed: ∀r∈row,∀y∈inNb n ts r,y∈row
 ch:Ch ts row
theorem z3E{n:Nat}{l:List Int}(nd:l.Nodup)(rg: ∀x∈l,0<=x/\x<(n:Int)):l.length<=n:=by
 have:=List.Nodup.length_le_of_subset nd (l₂:=g0 n) λx hx=>z0K.mpr (rg x hx)
 rw[z0x]at this;exact this
theorem Wk.row{n:Nat}{ts:List Tie}(V:VT n ts)(hc:isComb n ts=true): ∀(f:Nat)(pre:List Int)(l:Int)(onward:List Int),Wk n ts pre l onward->n<f+(pre++[l]).length->Row n ts (walk n ts f (pre++[l]) onward)
 | 0,pre,l,_,w,h=>by have:=z3E w.nd w.rg;lia
 | f+1,pre,l,[],w,h=>by
  refine⟨show pre++[l]≠[] by simp,w.nd,w.rg,λr hr y hy=> ?_,w.ch⟩
  rcases List.mem_append.mp hr with hr|hr
  ·exact w.closed r hr y hy
  ·rw[List.mem_singleton.mp hr]at hy
   refine Decidable.byContradiction λhm=> ?_
   have:y∈([]:List Int):=by rw[w.onw];exact List.mem_filter.mpr ⟨hy,decide_eq_true hm⟩
   cases this
 | f+1,pre,l,x::rest,w,h=>Wk.row V hc f (pre++[l]) x _ (w.step V hc) (by rw[List.length_append,List.length_singleton];lia)
theorem Row.cover{n:Nat}{ts:List Tie}{row:List Int}(V:Valid n ts)(R:Row n ts row){x:Int}(hx:0<=x/\x<(n:Int)):x∈row\/ ∃r∈row,x∈nb ts r:=by
 have conn:=(z39 V.pos V.rg).mp V.whole
 obtain⟨r0,hr0⟩:=List.exists_mem_of_ne_nil _ R.ne
 have c: ∀y,0<=y/\y<(n:Int)->Conn ts y 0:=λy hy=>by
  have:=conn y.toNat (by omega)
  rwa [Int.toNat_of_nonneg hy.1]at this
 have path:Conn ts r0 x:=(c r0 (R.rg r0 hr0)).trans (c x hx).symm
 clear c conn hx
 induction path with
 | refl=>exact .inl hr0
 | step _ e ih=>
  rename_i y z h0
  have hz:z∈nb ts y:=z3D.mpr e.symm
  rcases ih with hy|⟨r,hr,hy⟩
  ·exact .inr ⟨y,hy,hz⟩
  ·by_cases hm:y∈row
   ·exact .inr ⟨y,hm,hz⟩
   ·have ni:y∉innerL n ts:=λq=>hm (R.closed r hr y (z1C.mpr ⟨hy,q⟩))
    rw[leaf ni (z2J V hy) hz (z4Q hy)]
    exact .inl hr
def hang(ts:List Tie)(row:List Int)(r:Int):List Int:=(nb ts r).filter λx=>decide (x∉row)
theorem Row.places{n:Nat}{ts:List Tie}{row:List Int}(V:Valid n ts)(R:Row n ts row):(row++row.flatMap (hang ts row)).Perm (g0 n):=by
 refine(List.perm_ext_iff_of_nodup ?_ (z1T n)).mpr λx=> ?_
 ·rw[List.nodup_append]
  refine⟨R.nd,?_,λa ha b hb e=> ?_⟩
  ·rw[List.nodup_iff_pairwise_ne,List.pairwise_flatMap]
   refine⟨λr _=>(z4R V).filter _,List.Pairwise.imp_of_mem (λ{r q}hr hq ne x hx y hy e=>ne ?_) R.nd⟩
   subst e
   obtain⟨h1,h2⟩:=List.mem_filter.mp hx
   obtain⟨h3,_⟩:=List.mem_filter.mp hy
   rw[decide_eq_true_eq]at h2
   exact leaf (n:=n) (λq=>h2 (R.closed r hr x (z1C.mpr ⟨h1,q⟩))) (z2J V h1) (z4Q h1) (z4Q h3)
  ·obtain⟨r,_,hr⟩:=List.mem_flatMap.mp hb
   have:=(List.mem_filter.mp hr).2
   rw[decide_eq_true_eq,<-e]at this
   exact this ha
 ·rw[z0K,List.mem_append]
  constructor
  ·rintro(h|h)
   ·exact R.rg x h
   ·obtain⟨r,_,hr⟩:=List.mem_flatMap.mp h
    exact z2J V (List.mem_filter.mp hr).1
  ·intro h
   by_cases hm:x∈row
   ·exact .inl hm
   ·rcases R.cover V h with q|⟨r,hr,q⟩
    ·exact absurd q hm
    ·exact .inr (List.mem_flatMap.mpr ⟨r,hr,List.mem_filter.mpr ⟨q,decide_eq_true hm⟩⟩)
def metL(ts:List Tie)(row:List Int)(r:Int)(rest:List Int):List Int:=hang ts row r++rest.take 1
def sidesF(ts:List Tie)(row:List Int):List Int->Bool->List Int->List Int->List Int×List Int
 | [],_,hi,lo=>(hi,lo)
 | r::rest,true,hi,lo=>sidesF ts row rest false hi (lo++metL ts row r rest)
 | r::rest,false,hi,lo=>sidesF ts row rest true (hi++metL ts row r rest) lo
def disc(ts:List Tie)(row:List Int):List Int->List (Int×Int)
 | []=>[]
 | r::rest=>(metL ts row r rest).map (λx=>(r,x))++disc ts row rest
theorem z5M{ts:List Tie}{row:List Int}: ∀rest:List Int,((disc ts row rest).map (·.2)).Perm (rest.flatMap (hang ts row)++rest.tail)
 | []=> .refl _
 | r::rest=>by
  have e:(disc ts row (r::rest)).map (·.2)=metL ts row r rest++(disc ts row rest).map (·.2):=by
   show((metL ts row r rest).map (λx=>(r,x))++disc ts row rest).map (·.2)=_
   rw[List.map_append,List.map_map]
   congr 1
   exact List.map_id _
  have e2:rest.take 1++rest.tail=rest:=by cases rest<;>rfl
  rw[e,List.flatMap_cons,List.tail_cons]
  unfold metL
  refine((z5M rest).append_left _).trans ?_
  rw[List.append_assoc,List.append_assoc]
  refine List.Perm.append_left _ ?_
  have q:(rest.take 1++(rest.flatMap (hang ts row)++rest.tail)).Perm (rest.flatMap (hang ts row)++(rest.take 1++rest.tail)):=by
   rw[<-List.append_assoc,<-List.append_assoc];exact List.perm_append_comm.append_right _
  rw[e2]at q
  exact q
theorem z3h{ts:List Tie}{row:List Int}: ∀(rest:List Int)(par:Bool)(hi lo:List Int),((sidesF ts row rest par hi lo).1++(sidesF ts row rest par hi lo).2).Perm (hi++lo++(disc ts row rest).map (·.2))
 | [],par,hi,lo=>by cases par<;>(show(hi++lo).Perm (hi++lo++[]);rw[List.append_nil])
 | r::rest,par,hi,lo=>by
  have e:(disc ts row (r::rest)).map (·.2)=metL ts row r rest++(disc ts row rest).map (·.2):=by
   show((metL ts row r rest).map (λx=>(r,x))++disc ts row rest).map (·.2)=_
   rw[List.map_append,List.map_map]
   congr 1
   exact List.map_id _
  rw[e]
  cases par with
  | true=>
   refine(z3h rest false hi (lo++metL ts row r rest)).trans ?_
   rw[List.append_assoc,List.append_assoc,List.append_assoc]
  | false=>
   refine(z3h rest true (hi++metL ts row r rest) lo).trans ?_
   rw[List.append_assoc hi lo,<-List.append_assoc lo,List.append_assoc hi,<-List.append_assoc hi,<-List.append_assoc hi]
   refine List.Perm.append_right _ ?_
   rw[List.append_assoc]
   exact List.Perm.append_left _ List.perm_append_comm
theorem z0P{ts:List Tie}{row:List Int}: ∀(rest:List Int)(par:Bool)(hi lo:List Int),hi<+:(sidesF ts row rest par hi lo).1/\lo<+:(sidesF ts row rest par hi lo).2
 | [],par,hi,lo=>by cases par<;>exact⟨List.prefix_rfl,List.prefix_rfl⟩
 | r::rest,true,hi,lo=>⟨(z0P rest false hi (lo++metL ts row r rest)).1,(List.prefix_append _ _).trans (z0P rest false hi (lo++metL ts row r rest)).2⟩
 | r::rest,false,hi,lo=>⟨(List.prefix_append _ _).trans (z0P rest true (hi++metL ts row r rest) lo).1,(z0P rest true (hi++metL ts row r rest) lo).2⟩
theorem z4S{l m:List Int}{i:Nat}{x:Int}(h:l<+:m)(hx:l[i]? = some x):m[i]? = some x:=by
 obtain⟨r,rfl⟩:=h
 rw[List.getElem?_append_left (List.getElem?_eq_some_iff.mp hx).1];exact hx
theorem z3F{ts:List Tie}{row:List Int}: ∀(rest:List Int)(par:Bool)(hi lo:List Int),(∀r r',rest=r::r'->(par=true-> ∃h0,hi=h0++[r])/\(par=false-> ∃l0,lo=l0++[r]))-> ∀(i:Nat)(a b:Int),(disc ts row rest)[i]? = some (a,b)->
  ∃p q,(((sidesF ts row rest par hi lo).1[p]? = some a/\(sidesF ts row rest par hi lo).2[q]? = some b)\/((sidesF ts row rest par hi lo).2[q]? = some a/\(sidesF ts row rest par hi lo).1[p]? = some b))/\p+q+1=hi.length+lo.length+i
 | [],_,_,_,_,i,a,b,h=>by cases h
 | r::rest,par,hi,lo,hl,i,a,b,h=>by
  obtain⟨h1,h2⟩:=hl r rest rfl
  have hd:((metL ts row r rest).map (λx=>(r,x))++disc ts row rest)[i]? = some (a,b):=h
  have hlast: ∀(l:List Int)(r':Int)(rest':List Int),rest=r'::rest'-> ∃l0,l++metL ts row r rest=l0++[r']:=λl r' rest' e=>by
   subst e
   exact⟨l++hang ts row r,by unfold metL;rw[List.append_assoc];rfl⟩
  by_cases hm:i<(metL ts row r rest).length
  ·rw[List.getElem?_append_left (by rw[List.length_map];exact hm),List.getElem?_map,Option.map_eq_some_iff]at hd
   obtain⟨x,hx,e⟩:=hd
   cases e
   cases par with
   | true=>
    obtain⟨h0,e⟩:=h1 rfl
    have pr:=z0P (ts:=ts) (row:=row) rest false hi (lo++metL ts row r rest)
    refine⟨h0.length,lo.length+i,.inl ⟨z4S pr.1 (by rw[e,List.getElem?_append_right (Nat.le_refl _),Nat.sub_self];rfl),z4S pr.2 (by rw[List.getElem?_append_right (Nat.le_add_right _ _),Nat.add_sub_cancel_left];exact hx)⟩,?_⟩
    rw[e,List.length_append,List.length_singleton];lia
   | false=>
    obtain⟨l0,e⟩:=h2 rfl
    have pr:=z0P (ts:=ts) (row:=row) rest true (hi++metL ts row r rest) lo
    refine⟨hi.length+i,l0.length,.inr ⟨z4S pr.2 (by rw[e,List.getElem?_append_right (Nat.le_refl _),Nat.sub_self];rfl),z4S pr.1 (by rw[List.getElem?_append_right (Nat.le_add_right _ _),Nat.add_sub_cancel_left];exact hx)⟩,?_⟩
    rw[e,List.length_append,List.length_singleton];lia
  ·rw[List.getElem?_append_right (by rw[List.length_map];exact Nat.le_of_not_lt hm),List.length_map]at hd
   cases par with
   | true=>
    obtain⟨p,q,hpq,e⟩:=z3F rest false hi (lo++metL ts row r rest) (λr' rest' e=>⟨λz=>(nomatch z),λ_=>hlast lo r' rest' e⟩) _ a b hd
    exact⟨p,q,hpq,by rw[e,List.length_append];omega⟩
   | false=>
    obtain⟨p,q,hpq,e⟩:=z3F rest true (hi++metL ts row r rest) lo (λr' rest' e=>⟨λ_=>hlast hi r' rest' e,λz=>(nomatch z)⟩) _ a b hd
    exact⟨p,q,hpq,by rw[e,List.length_append];omega⟩
theorem z8T{ts:List Tie}{row:List Int}: ∀{rest:List Int},Ch ts rest-> ∀ab∈disc ts row rest,ab.2∈nb ts ab.1
 | [],_,ab,h=>by cases h
 | r::rest,hc,ab,h=>by
  rcases List.mem_append.mp (show ab∈(metL ts row r rest).map (λx=>(r,x))++disc ts row rest from h)with h|h
  ·obtain⟨x,hx,rfl⟩:=List.mem_map.mp h
   rcases List.mem_append.mp hx with hx|hx
   ·exact(List.mem_filter.mp hx).1
   ·cases rest with
    | nil=>cases hx
    | cons r' rest'=>rw[List.mem_singleton.mp hx];exact hc.1
  ·refine z8T (rest:=rest) ?_ ab h
   cases rest with
   | nil=>trivial
   | cons r' rest'=>exact hc.2
def putN(m L:List Int)(f:Nat->Int):Nat->List Int
 | 0=>m
 | k+1=>(putN m L f k).set (L.getD k 0).toNat (f k)
theorem z1U{m L:List Int}{f:Nat->Int}: ∀k,(putN m L f k).length=m.length
 | 0=>rfl
 | k+1=>by show((putN m L f k).set _ _).length=_;rw[List.length_set,z1U k]
theorem z75{m L:List Int}{f:Nat->Int}{j:Nat}: ∀k,k<=L.length->(∀x∈L,x.toNat≠j)->(putN m L f k)[j]? = m[j]?
 | 0,_,_=>rfl
 | k+1,hk,h=>by
  show((putN m L f k).set _ _)[j]? = _
  have:(L.getD k 0)∈L:=by rw[List.getD_eq_getElem?_getD,List.getElem?_eq_getElem hk];exact List.getElem_mem _
  rw[List.getElem?_set_ne (h _ this)]
  exact z75 k (Nat.le_of_lt hk) h
theorem z6I{m L:List Int}{f:Nat->Int}(nd:L.Nodup)(hp: ∀x∈L,0<=x): ∀(k i:Nat)(x:Int),k<=L.length->i<k->L[i]? = some x->x.toNat<m.length->(putN m L f k)[x.toNat]? = some (f i)
 | 0,i,x,_,hi,_,_=>absurd hi (Nat.not_lt_zero _)
 | k+1,i,x,hk,hi,hx,hl=>by
  show((putN m L f k).set _ _)[x.toNat]? = _
  have ek:L[k]? = some (L.getD k 0):=by rw[List.getD_eq_getElem?_getD,List.getElem?_eq_getElem hk];rfl
  by_cases e:i=k
  ·subst e
   rw[hx]at ek
   rw[<-Option.some.inj ek,List.getElem?_set_self (by rw[z1U];exact hl)]
  ·rw[List.getElem?_set_ne,z6I nd hp k i x (Nat.le_of_lt hk) (by lia) hx hl]
   intro z
   obtain⟨h1,g1⟩:=List.getElem?_eq_some_iff.mp hx
   obtain⟨h2,g2⟩:=List.getElem?_eq_some_iff.mp ek
   have q1:=hp x (List.mem_of_getElem? hx)
   have q2:=hp _ (List.mem_of_getElem? ek)
   exact e ((List.getElem_inj nd).mp (g1.trans ((show x=L.getD k 0 by lia).trans g2.symm)))
def combM(n:Nat)(HI LO:List Int):List Int:=putN (putN (List.replicate n 0) HI (λk=>(n:Int)-1-k) HI.length) LO (λk=>(k:Int)) LO.length
structure Parts(n:Nat)(HI LO:List Int):Prop where
 perm:(HI++LO).Perm (g0 n)
theorem Parts.nd{n:Nat}{HI LO:List Int}(P:Parts n HI LO):HI.Nodup/\LO.Nodup/\ ∀a∈HI,∀b∈LO,a≠b:=List.nodup_append.mp (P.perm.nodup_iff.mpr (z1T n))
theorem Parts.rg{n:Nat}{HI LO:List Int}(P:Parts n HI LO){x:Int}(h:x∈HI\/x∈LO):0<=x/\x<(n:Int):=z0K.mp (P.perm.mem_iff.mp (List.mem_append.mpr h))
theorem Parts.len{n:Nat}{HI LO:List Int}(P:Parts n HI LO):HI.length+LO.length=n:=by
 have:=P.perm.length_eq
 rw[List.length_append,z0x]at this;exact this
theorem Parts.hi{n:Nat}{HI LO:List Int}(P:Parts n HI LO){p:Nat}{x:Int}(h:HI[p]? = some x):(combM n HI LO)[x.toNat]? = some ((n:Int)-1-p):=by
 have hx:=List.mem_of_getElem? h
 have r:=P.rg (.inl hx)
 unfold combM
 rw[z75 _ (Nat.le_refl _) λy hy e=>P.nd.2.2 x hx y hy (by have:=P.rg (.inr hy);omega)]
 exact z6I P.nd.1 (λy hy=>(P.rg (.inl hy)).1) _ p x (Nat.le_refl _) (List.getElem?_eq_some_iff.mp h).1 h (by rw[List.length_replicate];omega)
theorem Parts.lo{n:Nat}{HI LO:List Int}(P:Parts n HI LO){q:Nat}{x:Int}(h:LO[q]? = some x):(combM n HI LO)[x.toNat]? = some (q:Int):=by
 have r:=P.rg (.inr (List.mem_of_getElem? h))
 exact z6I P.nd.2.1 (λy hy=>(P.rg (.inr hy)).1) _ q x (Nat.le_refl _) (List.getElem?_eq_some_iff.mp h).1 h (by rw[z1U,List.length_replicate];omega)
theorem z2L{n:Nat}{HI LO:List Int}:(combM n HI LO).length=n:=by unfold combM;rw[z1U,z1U,List.length_replicate]
theorem Parts.at{n:Nat}{HI LO:List Int}(P:Parts n HI LO){i:Nat}(h:i<n):(∃p:Nat,HI[p]? = some (i:Int)/\(combM n HI LO)[i]? = some ((n:Int)-1-p)/\p<HI.length)\/ ∃q:Nat,LO[q]? = some (i:Int)/\(combM n HI LO)[i]? = some (q:Int)/\q<LO.length:=by
 have:(i:Int)∈HI++LO:=P.perm.mem_iff.mpr (z0K.mpr ⟨by lia,by omega⟩)
 rcases List.mem_append.mp this with h|h
 ·obtain⟨p,hp⟩:=List.mem_iff_getElem?.mp h
  exact .inl ⟨p,hp,by have:=P.hi hp;rwa [Int.toNat_natCast]at this,(List.getElem?_eq_some_iff.mp hp).1⟩
 ·obtain⟨q,hq⟩:=List.mem_iff_getElem?.mp h
  exact .inr ⟨q,hq,by have:=P.lo hq;rwa [Int.toNat_natCast]at this,(List.getElem?_eq_some_iff.mp hq).1⟩
theorem Parts.each{n:Nat}{HI LO:List Int}(P:Parts n HI LO):Each n (combM n HI LO):=by
 have hl:=P.len
 refine z6H ?_ (λx hx=> ?_) z2L
 ·rw[List.nodup_iff_pairwise_ne,List.pairwise_iff_getElem]
  intro i j hi hj hij e
  have ni:i<n:=by rw[z2L]at hi;exact hi
  have nj:j<n:=by rw[z2L]at hj;exact hj
  have ei:(combM n HI LO)[i]? = some (combM n HI LO)[i]:=List.getElem?_eq_getElem hi
  have ej:(combM n HI LO)[j]? = some (combM n HI LO)[i]:=by rw[e];exact List.getElem?_eq_getElem hj
  rcases P.at ni with⟨p,h1,h2,h3⟩|⟨p,h1,h2,h3⟩<;>rcases P.at nj with⟨q,g1,g2,g3⟩|⟨q,g1,g2,g3⟩<;>rw[ei]at h2<;>rw[ej]at g2
  ·have:p=q:=by have:=(Option.some.inj h2).symm.trans (Option.some.inj g2);omega
   subst this
   rw[h1]at g1
   have:=Option.some.inj g1
   omega
  ·have:=(Option.some.inj h2).symm.trans (Option.some.inj g2);omega
  ·have:=(Option.some.inj h2).symm.trans (Option.some.inj g2);omega
  ·have:p=q:=by have:=(Option.some.inj h2).symm.trans (Option.some.inj g2);omega
   subst this
   rw[h1]at g1
   have:=Option.some.inj g1
   omega
 ·obtain⟨i,hi⟩:=List.mem_iff_getElem?.mp hx
  have ni:i<n:=by have:=(List.getElem?_eq_some_iff.mp hi).1;rw[z2L]at this;exact this
  rcases P.at ni with⟨p,_,h2,h3⟩|⟨p,_,h2,h3⟩
  ·rw[hi]at h2;have:=Option.some.inj h2;omega
  ·rw[hi]at h2;have:=Option.some.inj h2;omega
theorem z76{l m:List Tie}(nd:l.Nodup)(ndm:m.Nodup)(sub: ∀x∈l,x∈m)(len:m.length<=l.length):l.Perm m:=by
 refine(List.perm_ext_iff_of_nodup nd ndm).mpr λx=>⟨sub x,λhx=> ?_⟩
 refine Decidable.byContradiction λhn=> ?_
 have:=List.Nodup.length_le_of_subset (List.nodup_cons.mpr ⟨hn,nd⟩) (List.cons_subset.mpr ⟨hx,λy hy=>sub y hy⟩)
 rw[List.length_cons]at this
 lia
theorem z3v{ts:List Tie}(h:Rising ts):ts.Nodup:=by
 rw[List.nodup_iff_pairwise_ne]
 exact List.Pairwise.imp (λ{a b}q(e:a=b)=>z2s b (by rw[e]at q;exact q)) h
theorem zAT(m:List Int)(a b:Int):diff m (tieOf a b)=absI (m.getD a.toNat 0-m.getD b.toNat 0):=by
 rcases z0O a b with e|e<;>rw[e]
 ·rfl
 ·unfold diff absI
  dsimp only
  split<;>split<;>lia
structure Comb(n:Nat)(ts:List Tie)(HI LO:List Int):Prop where
 parts:Parts n HI LO
 good:(diffs (combM n HI LO) ts).Nodup
 side: ∀t∈ts,((combM n HI LO).getD t.1.toNat 0<(LO.length:Int)/\ ¬(combM n HI LO).getD t.2.toNat 0<(LO.length:Int))\/(¬(combM n HI LO).getD t.1.toNat 0<(LO.length:Int)/\(combM n HI LO).getD t.2.toNat 0<(LO.length:Int))
theorem Row.comb{n:Nat}{ts:List Tie}{r0:Int}{tl:List Int}(V:Valid n ts)(R:Row n ts (r0::tl)):Comb n ts (sidesF ts (r0::tl) (r0::tl) true [r0] []).1 (sidesF ts (r0::tl) (r0::tl) true [r0] []).2:=by
 have sp:=z3h (ts:=ts) (row:=r0::tl) (r0::tl) true [r0] []
 have sum:=z3F (ts:=ts) (row:=r0::tl) (r0::tl) true [r0] [] (λr r' e=>by cases e;exact⟨λ_=>⟨[],rfl⟩,λz=>(nomatch z)⟩)
 have dn:=z8T (ts:=ts) (row:=r0::tl) R.ch
 have dp:=z5M (ts:=ts) (row:=r0::tl) (r0::tl)
 generalize (sidesF ts (r0::tl) (r0::tl) true [r0] []).1=HI at sp sum ⊢
 generalize (sidesF ts (r0::tl) (r0::tl) true [r0] []).2=LO at sp sum ⊢
 generalize disc ts (r0::tl) (r0::tl)=D at sp sum dn dp
 have P:Parts n HI LO:=⟨sp.trans (List.Perm.trans (by
  refine((dp.append_left _).trans ?_)
  rw[List.append_nil,List.tail_cons]
  exact(List.perm_append_comm.append_left [r0])) (R.places V))⟩
 have hD:D.length+1=n:=by
  have:=sp.length_eq
  rw[List.length_append,P.len,List.length_append,List.length_append,List.length_map,List.length_singleton,List.length_nil]at this
  lia
 have hl:=P.len
 have get: ∀{x:Int}{v:Int},(combM n HI LO)[x.toNat]? = some v->(combM n HI LO).getD x.toNat 0=v:=λh=>by rw[List.getD_eq_getElem?_getD,h];rfl
 have pair: ∀(i:Nat)(a b:Int),D[i]? = some (a,b)-> ∃p q:Nat,p<HI.length/\q<LO.length/\p+q=i/\(((combM n HI LO).getD a.toNat 0=(n:Int)-1-p/\(combM n HI LO).getD b.toNat 0=q)\/((combM n HI LO).getD a.toNat 0=q/\(combM n HI LO).getD b.toNat 0=(n:Int)-1-p)):=λi a b h=>by
  obtain⟨p,q,hpq,e⟩:=sum i a b h
  rw[List.length_singleton,List.length_nil]at e
  rcases hpq with⟨h1,h2⟩|⟨h1,h2⟩
  ·exact⟨p,q,(List.getElem?_eq_some_iff.mp h1).1,(List.getElem?_eq_some_iff.mp h2).1,by omega,.inl ⟨get (P.hi h1),get (P.lo h2)⟩⟩
  ·exact⟨p,q,(List.getElem?_eq_some_iff.mp h2).1,(List.getElem?_eq_some_iff.mp h1).1,by omega,.inr ⟨get (P.lo h1),get (P.hi h2)⟩⟩
 have dval: ∀(i:Nat)(ab:Int×Int),D[i]? = some ab->diff (combM n HI LO) (tieOf ab.1 ab.2)=(n:Int)-1-i:=λi ab h=>by
  obtain⟨p,q,h1,h2,h3,h4⟩:=pair i ab.1 ab.2 h
  rw[zAT]
  unfold absI
  rcases h4 with⟨e1,e2⟩|⟨e1,e2⟩<;>rw[e1,e2]<;>split<;>lia
 have ndD:(D.map λab=>tieOf ab.1 ab.2).Nodup:=by
  rw[List.nodup_iff_pairwise_ne,List.pairwise_iff_getElem]
  intro i j hi hj hij e
  rw[List.getElem_map,List.getElem_map]at e
  have h1:=dval i _ (List.getElem?_eq_getElem (by rw[List.length_map]at hi;exact hi))
  have h2:=dval j _ (List.getElem?_eq_getElem (by rw[List.length_map]at hj;exact hj))
  rw[e]at h1
  have:=h1.symm.trans h2
  omega
 have pD:(D.map λab=>tieOf ab.1 ab.2).Perm ts:=z76 ndD (z3v V.ris) (λx hx=>by
  obtain⟨ab,hab,rfl⟩:=List.mem_map.mp hx
  exact z8S V (dn ab hab)) (by rw[List.length_map];have:=V.len;lia)
 refine⟨P,?_,λt ht=> ?_⟩
 ·have:=pD.map (diff (combM n HI LO))
  refine this.nodup_iff.mp ?_
  rw[List.map_map,List.nodup_iff_pairwise_ne,List.pairwise_iff_getElem]
  intro i j hi hj hij e
  rw[List.getElem_map,List.getElem_map]at e
  have h1:=dval i _ (List.getElem?_eq_getElem (by rw[List.length_map]at hi;exact hi))
  have h2:=dval j _ (List.getElem?_eq_getElem (by rw[List.length_map]at hj;exact hj))
  have:=h1.symm.trans (e.trans h2)
  omega
 ·obtain⟨ab,hab,rfl⟩:=List.mem_map.mp (pD.mem_iff.mpr ht)
  obtain⟨i,hi⟩:=List.mem_iff_getElem?.mp hab
  obtain⟨p,q,h1,h2,_,h4⟩:=pair i ab.1 ab.2 hi
  rcases z0O ab.1 ab.2 with e|e<;>rw[e]<;>dsimp only<;>rcases h4 with⟨e1,e2⟩|⟨e1,e2⟩<;>rw[e1,e2]
  ·exact .inr ⟨by omega,by omega⟩
  ·exact .inl ⟨by omega,by omega⟩
  ·exact .inl ⟨by omega,by omega⟩
  ·exact .inr ⟨by omega,by omega⟩
end MT
namespace MT
open PySem PySem.W PyProof.Rows
section
variable{n:Nat}{r:Nat->Int}
def POk(n:Nat)(p:Array Nat):Prop:=p.toList.Perm (List.range n)
theorem POk.size{p:Array Nat}(h:POk n p):p.size=n:=by
 have:=h.length_eq
 simpa using this
def rk(r:Nat->Int)(p:Array Nat)(i:Nat):Int:=r (p.getD i 0)
def Srt(r:Nat->Int)(p:Array Nat)(k:Nat):Prop:= ∀i j,i<=j->j<k->rk r p i<=rk r p j
abbrev ltR(r:Nat->Int)(i j:Nat):Bool:=decide (r i<r j)
end
end MT
namespace Tim
open PySem PyProof.Rows
abbrev SM:=StateT SortSt Sem
abbrev AK:=Array Keyed
abbrev LK:=List Keyed
abbrev KI:=Keyed->Int
abbrev KP:=Keyed->Prop
abbrev ON:=Option (Option Nat)
def gal:Bool->Keyed->AK->Nat->Nat->Nat->SM (Option Nat):=sortPriv% PySem.Builtin.gallop
def byd(left:Bool)(key:Keyed)(arr:AK)(base i:Nat):SM (Option Bool):=do
 let x <-elem' arr (base+i)
 if left then lt' x key else return (<-lt' key x).map (!·)
theorem zEo(left:Bool)(key:Keyed)(arr:AK)(base n hint:Nat):gal left key arr base n hint=(do
 let mut lastofs:=0
 let mut ofs:=1
 let mut lo:=0
 let mut hi:=0
 let some right <-byd left key arr base hint|return none
 if right then
  let maxofs:=n-hint
  for _ in [0:n] do
   if ofs>=maxofs then break
   let some more <-byd left key arr base (hint+ofs)|return none
   if !more then break
   lastofs:=ofs
   ofs:=2*ofs+1
  lo:=hint+lastofs+1
  hi:=hint+min ofs maxofs
 else
  let maxofs:=hint+1
  for _ in [0:n] do
   if ofs>=maxofs then break
   let some found <-byd left key arr base (hint-ofs)|return none
   if found then break
   lastofs:=ofs
   ofs:=2*ofs+1
  lo:=hint+1-min ofs maxofs
  hi:=hint-lastofs
 for _ in [0:n] do
  if lo>=hi then break
  let m:=lo+(hi-lo)/2
  let some more <-byd left key arr base m|return none
  if more then lo:=m+1 else hi:=m
 return some hi):=rfl
variable{M:Model}{A:Around}{E:Value->Shared->Prop}{s:Shared}
structure LtOk(M:Model)(A:Around)(E:Value->Shared->Prop)(s:Shared)(κ:SortKind)(ρ:KI)(Dm:KP):Prop where
 lt: ∀{x y:Keyed}{st:SortSt}{Q:Option Bool->SortSt->Prop},Dm x->Dm y->kindOf st=κ->Q (some (decide (ρ x<ρ y))) st->wpS M A E s (lt' x y) Q st
variable{κ:SortKind}{ρ:KI}{Dm:KP}
theorem z06{arr:AK}{i:Nat}{x:Keyed}{st:SortSt}{Q:Keyed->SortSt->Prop}(h:arr[i]? = some x)(q:Q x st):wpS M A E s (elem' arr i) Q st:=by
 rw[elem'_eq,h];exact wpS_pure q
def bB(ρ:KI)(left:Bool)(key:Keyed)(x:Keyed):Bool:=if left then decide (ρ x<ρ key)else !decide (ρ key<ρ x)
theorem zFV(L:LtOk M A E s κ ρ Dm){left:Bool}{key x:Keyed}{arr:AK}{base i:Nat}{st:SortSt}{Q:Option Bool->SortSt->Prop}(hk:kindOf st=κ)(hx:arr[base+i]? = some x)(d1:Dm key)(d2:Dm x)
  (q:Q (some (bB ρ left key x)) st):wpS M A E s (byd left key arr base i) Q st:=by
 unfold byd
 refine wpS_bind (z06 hx ?_)
 cases left
 ·exact wpS_bind (L.lt d1 d2 hk (wpS_pure q))
 ·exact L.lt d2 d1 hk q
def Bd(B:Nat->Bool)(n k:Nat):Prop:=k<=n/\(∀i,i<k->B i=true)/\ ∀i,k<=i->i<n->B i=false
theorem zEp(L:LtOk M A E s κ ρ Dm){left:Bool}{key:Keyed}{arr:AK}{base n hint:Nat}{st:SortSt}{Q:Option Nat->SortSt->Prop}(B:Nat->Bool)(hk:kindOf st=κ)(d1:Dm key)
  (hB: ∀i,i<n-> ∃x,arr[base+i]? = some x/\Dm x/\bB ρ left key x=B i) (hm: ∀i j,i<=j->j<n->B j=true->B i=true) (hn:hint<n)
  (q: ∀k,Bd B n k->Q (some k) st):wpS M A E s (gal left key arr base n hint) Q st:=by
 have by_: ∀{i:Nat}{Q:Option Bool->SortSt->Prop},i<n->Q (some (B i)) st->wpS M A E s (byd left key arr base i) Q st:=λ{i Q}hi h=>by
  obtain⟨x,e1,e2,e3⟩:=hB i hi
  exact zFV L hk e1 d1 e2 (by rw[e3];exact h)
 have hm': ∀i j,i<=j->j<n->B i=false->B j=false:=λi j h1 h2 h3=>by
  cases h:B j
  ·rfl
  ·rw[hm i j h1 h2 h]at h3;cases h3
 have fin: ∀{f:Nat->ON×Nat×Nat->SM (ForInStep (ON×Nat×Nat))}{g:ON×Nat×Nat->SM (Option Nat)}(lo hi:Nat),
   (∀x lo hi Q,lo>=hi->Q (.done (none,lo,hi)) st->wpS M A E s (f x (none,lo,hi)) Q st)->
   (∀x lo hi Q,lo<hi->hi<=n->Q (.yield (if B (lo+(hi-lo)/2)=true then(none,lo+(hi-lo)/2+1,hi)else(none,lo,lo+(hi-lo)/2))) st->wpS M A E s (f x (none,lo,hi)) Q st)->
   (∀k,g (none,k,k)=pure (some k))->
   lo<=hi->hi<=n->(∀i,i<lo->B i=true)->(∀i,hi<=i->i<n->B i=false)->wpS M A E s (forIn [:n] (none,lo,hi) f >>= g) Q st:=by
  intro f g lo hi f1 f2 g1 h1 h2 h3 h4
  refine wpS_bind (wpS_mono (wpS_forRange (I:=λx c st'=>st'=st/\ ∃lo hi,c=(none,lo,hi)/\lo<=hi/\hi<=n/\(∀i,i<lo->B i=true)/\(∀i,hi<=i->i<n->B i=false)/\hi-lo<=n-x)
   (Q:=λc st'=>st'=st/\ ∃k,c=(none,k,k)/\Bd B n k) ?_ ?_ ⟨rfl,lo,hi,rfl,h1,h2,h3,h4,by omega⟩) ?_)
  ·rintro x c st' _ hx ⟨rfl,lo,hi,rfl,h1,h2,h3,h4,h5⟩
   by_cases hl:lo>=hi
   ·refine f1 x lo hi _ hl ?_
    obtain rfl:lo=hi:=by omega
    exact⟨rfl,lo,rfl,h2,h3,h4⟩
   ·refine f2 x lo hi _ (by omega) h2 ?_
    dsimp only
    cases hb:B (lo+(hi-lo)/2)
    ·rw[if_neg (by simp)]
     exact⟨rfl,_,_,rfl,by omega,by omega,h3,λi a b=>hm' _ i a b hb,by omega⟩
    ·rw[if_pos rfl]
     exact⟨rfl,_,_,rfl,by omega,by omega,λi a=>hm i (lo+(hi-lo)/2) (by omega) (by omega) hb,h4,by omega⟩
  ·rintro c st' ⟨rfl,lo,hi,rfl,h1,h2,h3,h4,h5⟩
   obtain rfl:lo=hi:=by omega
   exact⟨rfl,lo,rfl,h2,h3,h4⟩
  ·rintro c st' ⟨rfl,k,rfl,h⟩
   rw[g1]
   exact wpS_pure (q k h)
 rw[zEo]
 dsimp only
 refine wpS_bind (by_ hn ?_)
 dsimp only
 cases hb:B hint
 ·rw[if_neg (by simp)]
  refine wpS_bind (wpS_mono (wpS_forRange (I:=λx c st'=>st'=st/\ ∃l o,c=(none,l,o)/\l<o/\l<=hint/\B (hint-l)=false/\x+1<=o)
   (Q:=λc st'=>st'=st/\ ∃l o,c=(none,l,o)/\l<o/\l<=hint/\B (hint-l)=false/\(hint+1<=o\/B (hint-o)=true)) ?_ ?_ ⟨rfl,0,1,rfl,by omega,by omega,hb,by omega⟩) ?_)
  ·rintro x c st' _ hx ⟨rfl,l,o,rfl,h1,h2,h3,h4⟩
   dsimp only
   by_cases hl:o>=hint+1
   ·rw[if_pos hl]
    exact wpS_pure ⟨rfl,l,o,rfl,h1,h2,h3,.inl hl⟩
   ·rw[if_neg hl]
    refine wpS_bind (by_ (by omega) ?_)
    dsimp only
    cases hb:B (hint-o)
    ·rw[if_neg (by simp)]
     exact wpS_pure ⟨rfl,_,_,rfl,by omega,by omega,hb,by omega⟩
    ·rw[if_pos rfl]
     exact wpS_pure ⟨rfl,_,_,rfl,h1,h2,h3,.inr hb⟩
  ·rintro c st' ⟨rfl,l,o,rfl,h1,h2,h3,h4⟩
   exact⟨rfl,l,o,rfl,h1,h2,h3,.inl (by omega)⟩
  ·rintro c st' ⟨rfl,l,o,rfl,h1,h2,h3,h4⟩
   dsimp only
   refine fin (hint+1-min o (hint+1)) (hint-l) (λx lo hi Q h a=>by dsimp only;rw[if_pos h];exact wpS_pure a) (λx lo hi Q h h' a=>by
    dsimp only
    rw[if_neg (by omega)]
    refine wpS_bind (by_ (by omega) ?_)
    dsimp only
    cases hb:B (lo+(hi-lo)/2)<;>rw[hb]at a
    ·rw[if_neg (by simp)]at a ⊢;exact wpS_pure a
    ·rw[if_pos rfl]at a ⊢;exact wpS_pure a) (λk=>rfl) (by omega) (by omega) (λi hi=> ?_) λi a b=>hm' (hint-l) i a b h3
   rcases h4 with h4|h4
   ·omega
   ·exact hm i (hint-o) (by omega) (by omega) h4
 ·rw[if_pos rfl]
  refine wpS_bind (wpS_mono (wpS_forRange (I:=λx c st'=>st'=st/\ ∃l o,c=(none,l,o)/\l<o/\hint+l<n/\B (hint+l)=true/\x+1<=o)
   (Q:=λc st'=>st'=st/\ ∃l o,c=(none,l,o)/\l<o/\hint+l<n/\B (hint+l)=true/\(n-hint<=o\/B (hint+o)=false)) ?_ ?_ ⟨rfl,0,1,rfl,by omega,by omega,hb,by omega⟩) ?_)
  ·rintro x c st' _ hx ⟨rfl,l,o,rfl,h1,h2,h3,h4⟩
   dsimp only
   by_cases hl:o>=n-hint
   ·rw[if_pos hl]
    exact wpS_pure ⟨rfl,l,o,rfl,h1,h2,h3,.inl hl⟩
   ·rw[if_neg hl]
    refine wpS_bind (by_ (by omega) ?_)
    dsimp only
    cases hb:B (hint+o)
    ·rw[if_pos (by simp)]
     exact wpS_pure ⟨rfl,_,_,rfl,h1,h2,h3,.inr hb⟩
    ·rw[if_neg (by simp)]
     exact wpS_pure ⟨rfl,_,_,rfl,by omega,by omega,hb,by omega⟩
  ·rintro c st' ⟨rfl,l,o,rfl,h1,h2,h3,h4⟩
   exact⟨rfl,l,o,rfl,h1,h2,h3,.inl (by omega)⟩
  ·rintro c st' ⟨rfl,l,o,rfl,h1,h2,h3,h4⟩
   dsimp only
   refine fin (hint+l+1) (hint+min o (n-hint)) (λx lo hi Q h a=>by dsimp only;rw[if_pos h];exact wpS_pure a) (λx lo hi Q h h' a=>by
    dsimp only
    rw[if_neg (by omega)]
    refine wpS_bind (by_ (by omega) ?_)
    dsimp only
    cases hb:B (lo+(hi-lo)/2)<;>rw[hb]at a
    ·rw[if_neg (by simp)]at a ⊢;exact wpS_pure a
    ·rw[if_pos rfl]at a ⊢;exact wpS_pure a) (λk=>rfl) (by omega) (by omega) (λi hi=>hm i (hint+l) (by omega) (by omega) h3) λi a b=> ?_
   rcases h4 with h4|h4
   ·omega
   ·exact hm' (hint+o) i (by omega) b h4
end Tim
namespace Tim
open PySem PyProof.Rows
structure MI{α:Type}(R:α->α->Prop)(T out A B:List α):Prop where
 perm:(out++(A++B)).Perm T
 so:out.Pairwise R
 sa:A.Pairwise R
 sb:B.Pairwise R
 le: ∀x∈out,∀y∈A++B,R x y
section
variable{α:Type}{R:α->α->Prop}{T out A B C:List α}
theorem MI.swap(h:MI R T out A B):MI R T out B A:=
 ⟨(List.Perm.append_left _ List.perm_append_comm).trans h.perm,h.so,h.sb,h.sa,λx hx y hy=>h.le x hx y (by simpa [or_comm] using hy)⟩
theorem MI.take(h:MI R T out (C++A) B)(hc: ∀x∈C,∀y∈B,R x y):MI R T (out++C) A B:=by
 obtain⟨p,so,sa,sb,le⟩:=h
 rw[List.pairwise_append]at sa
 refine⟨?_,?_,sa.2.1,sb,?_⟩
 ·simpa [List.append_assoc] using p
 ·rw[List.pairwise_append]
  exact⟨so,sa.1,λx hx y hy=>le x hx y (by simp[hy])⟩
 ·intro x hx y hy
  rcases List.mem_append.mp hx with hx|hx
  ·exact le x hx y (by rcases List.mem_append.mp hy with hy|hy<;>simp[hy])
  ·rcases List.mem_append.mp hy with hy|hy
   ·exact sa.2.2 x hx y hy
   ·exact hc x hx y hy
def Res(R:α->α->Prop)(T r:List α):Prop:=r.Perm T/\r.Pairwise R
theorem MI.fin(h:MI R T out A []):Res R T (out++A):=by
 refine⟨by simpa using h.perm,?_⟩
 rw[List.pairwise_append]
 exact⟨h.so,h.sa,λx hx y hy=>h.le x hx y (by simpa using hy)⟩
theorem MI.last{z:α}(h:MI R T out [z] B)(hz: ∀y∈B,R y z):Res R T (out++B++[z]):=by
 have h':MI R T out (B++[]) [z]:=by simpa using h.swap
 exact(h'.take λx hx y hy=>by rw[List.mem_singleton.mp hy];exact hz x hx).swap.fin
theorem Res.symm_rev(h:Res (λx y=>R y x) T out):Res R T out.reverse:=⟨(List.reverse_perm _).trans h.1,by rw[List.pairwise_reverse];exact h.2⟩
end
def mLo:AK->AK->SM (AK):=sortPriv% PySem.Builtin.mergeLo
def mHi:AK->AK->SM (AK):=sortPriv% PySem.Builtin.mergeHi
def setG(g:Nat):SM Unit:=modify λst=>SortSt.mk' (kindOf st) (arrOf st) (pendingOf st) g (failedOf st)
abbrev T5:=Option (AK)×AK×Nat×Nat×Nat×Nat
abbrev T6:=Option (AK)×AK×Nat×Nat×Nat×Nat×Nat
abbrev T4:=Option (AK)×AK×Nat×Nat×Nat
section
variable(a b:AK)
def dn(out:AK)(ia ib:Nat):AK:=out++a.extract ia a.size++b.extract ib b.size
def la(out:AK)(ia ib:Nat):AK:=out++b.extract ib b.size++a.extract ia a.size
def lo1(mg:Nat)(o:AK)(i j ac bc:Nat):SM (ForInStep T5):=do
 let x <-elem' b j
 let y <-elem' a i
 let some w <-lt' x y|pure (.done (some (dn a b o i j),o,i,j,ac,bc))
 if w=true then do
   let x <-elem' b j
   if(j+1==b.size)=true then pure (.done (some (dn a b (o.push x) i (j+1)),o.push x,i,j+1,0,bc+1))
   else if bc+1>=mg then pure (.done (none,o.push x,i,j+1,0,bc+1))
   else pure (.yield (none,o.push x,i,j+1,0,bc+1))
 else do
   let x <-elem' a i
   if(i+1+1==a.size)=true then pure (.done (some (la a b (o.push x) (i+1) j),o.push x,i+1,j,ac+1,0))
   else if ac+1>=mg then pure (.done (none,o.push x,i+1,j,ac+1,0))
   else pure (.yield (none,o.push x,i+1,j,ac+1,0))
def lo4(mg ac bc:Nat)(out:AK)(ia ib:Nat):SM (ForInStep T6):=do
 let x <-elem' a ia
 if(ia+1+1==a.size)=true then pure (.done (some (la a b (out.push x) (ia+1) ib),out.push x,ia+1,ib,mg,ac,bc))
 else if(decide (ac<7)&&decide (bc<7))=true then pure (.done (none,out.push x,ia+1,ib,mg,ac,bc))
 else pure (.yield (none,out.push x,ia+1,ib,mg,ac,bc))
def lo3(mg ac bc:Nat)(out:AK)(ia ib:Nat):SM (ForInStep T6):=do
 let x <-elem' b ib
 if(ib+1==b.size)=true then pure (.done (some (dn a b (out.push x) ia (ib+1)),out.push x,ia,ib+1,mg,ac,bc))
 else do
  let y <-elem' a ia
  let some k <-gal true y b (ib+1) (b.size-(ib+1)) 0|pure (.done (some (dn a b (out.push x) ia (ib+1)),out.push x,ia,ib+1,mg,ac,bc))
  if k>0 then
    if(ib+1+k==b.size)=true then pure (.done (some (dn a b (out.push x++b.extract (ib+1) (ib+1+k)) ia (ib+1+k)),out.push x++b.extract (ib+1) (ib+1+k),ia,ib+1+k,mg,ac,k))
    else lo4 a b mg ac k (out.push x++b.extract (ib+1) (ib+1+k)) ia (ib+1+k)
  else lo4 a b mg ac k (out.push x) ia (ib+1)
def lo2(mg ac bc:Nat)(out:AK)(ia ib:Nat):SM (ForInStep T6):=do
 setG mg
 let x <-elem' b ib
 let some k <-gal false x a ia (a.size-ia) 0|pure (.done (some (dn a b out ia ib),out,ia,ib,mg,ac,bc))
 if k>0 then
   if(ia+k+1==a.size)=true then pure (.done (some (la a b (out++a.extract ia (ia+k)) (ia+k) ib),out++a.extract ia (ia+k),ia+k,ib,mg,k,bc))
   else if(ia+k==a.size)=true then pure (.done (some (dn a b (out++a.extract ia (ia+k)) (ia+k) ib),out++a.extract ia (ia+k),ia+k,ib,mg,k,bc))
   else lo3 a b mg k bc (out++a.extract ia (ia+k)) (ia+k) ib
 else lo3 a b mg k bc out ia ib
def lo5(c:T6):SM (ForInStep T6):=
 if c.2.2.2.2.1>1 then lo2 a b (c.2.2.2.2.1-1) c.2.2.2.2.2.1 c.2.2.2.2.2.2 c.2.1 c.2.2.1 c.2.2.2.1
 else lo2 a b c.2.2.2.2.1 c.2.2.2.2.2.1 c.2.2.2.2.2.2 c.2.1 c.2.2.1 c.2.2.2.1
def lo7(c:T6):SM (ForInStep T4):=match c.1 with
 | some r=>pure (.done (some r,c.2.1,c.2.2.1,c.2.2.2.1,c.2.2.2.2.1))
 | none=>do
  setG (c.2.2.2.2.1+1)
  pure (.yield (none,c.2.1,c.2.2.1,c.2.2.2.1,c.2.2.2.2.1+1))
def lo6(mg:Nat)(c:T5):SM (ForInStep T4):=match c.1 with
 | some r=>pure (.done (some r,c.2.1,c.2.2.1,c.2.2.2.1,mg))
 | none=>do
  rule "list.sort.gallop"
  let d <-forIn [:a.size+b.size] ((none,c.2.1,c.2.2.1,c.2.2.2.1,mg+1,c.2.2.2.2.1,c.2.2.2.2.2):T6) λ_ d=>lo5 a b d
  lo7 d
def lo8(c:T4):SM (ForInStep T4):=do
 let d <-forIn [:a.size+b.size] ((none,c.2.1,c.2.2.1,c.2.2.2.1,0,0):T5) λ_ d=>lo1 a b c.2.2.2.2 d.2.1 d.2.2.1 d.2.2.2.1 d.2.2.2.2.1 d.2.2.2.2.2
 lo6 a b c.2.2.2.2 d
end
theorem zEq(a b:AK):mLo a b=(do
 rule "list.sort.merge-lo"
 let total:=a.size+b.size
 let done (out:AK) (ia ib:Nat):=out++a.extract ia a.size++b.extract ib b.size
 let lastOfA (out:AK) (ia ib:Nat):=out++b.extract ib b.size++a.extract ia a.size
 let mut out:AK:= #[<-elem' b 0]
 let mut ia:=0
 let mut ib:=1
 if ib==b.size then return done out ia ib
 if ia+1==a.size then return lastOfA out ia ib
 let mut minGallop:=gallopOf (<-get)
 for _ in [0:total] do
  let mut acount:=0
  let mut bcount:=0
  for _ in [0:total] do
   let some bWins <-lt' (<-elem' b ib) (<-elem' a ia)|return done out ia ib
   if bWins then
    out:=out.push (<-elem' b ib);ib:=ib+1;bcount:=bcount+1;acount:=0
    if ib==b.size then return done out ia ib
    if bcount>=minGallop then break
   else
    out:=out.push (<-elem' a ia);ia:=ia+1;acount:=acount+1;bcount:=0
    if ia+1==a.size then return lastOfA out ia ib
    if acount>=minGallop then break
  rule "list.sort.gallop"
  minGallop:=minGallop+1
  for _ in [0:total] do
   if minGallop>1 then minGallop:=minGallop-1
   setG minGallop
   let some k <-gal false (<-elem' b ib) a ia (a.size-ia) 0|return done out ia ib
   acount:=k
   if k>0 then
    out:=out++a.extract ia (ia+k);ia:=ia+k
    if ia+1==a.size then return lastOfA out ia ib
    if ia==a.size then return done out ia ib
   out:=out.push (<-elem' b ib);ib:=ib+1
   if ib==b.size then return done out ia ib
   let some k <-gal true (<-elem' a ia) b ib (b.size-ib) 0|return done out ia ib
   bcount:=k
   if k>0 then
    out:=out++b.extract ib (ib+k);ib:=ib+k
    if ib==b.size then return done out ia ib
   out:=out.push (<-elem' a ia);ia:=ia+1
   if ia+1==a.size then return lastOfA out ia ib
   if acount<7&&bcount<7 then break
  minGallop:=minGallop+1
  setG minGallop
 unsupported "internal:list.sort.merge-bound"):=rfl
theorem zEr(a b:AK):mLo a b=(do
 rule "list.sort.merge-lo"
 let x <-elem' b 0
 if(1==b.size)=true then pure (dn a b #[x] 0 1)
 else if(0+1==a.size)=true then pure (la a b #[x] 0 1)
 else do
  let st <-get
  let c <-forIn [:a.size+b.size] ((none,#[x],0,1,gallopOf st):T4) λ_ c=>lo8 a b c
  match c.1 with
  | some r=>pure r
  | none=>liftM (unsupported (α:=AK) "internal:list.sort.merge-bound")):=by
 rw[zEq]
 dsimp only
 refine congrArg _ (funext λ_=> ?_)
 refine congrArg _ (funext λx=> ?_)
 refine congrArg _ ?_
 refine congrArg _ ?_
 refine congrArg _ (funext λst=> ?_)
 have key: ∀{m m':SM T4}{f f':T4->SM (AK)},m=m'->f=f'->m >>= f=m' >>= f':=λh1 h2=>by rw[h1,h2]
 refine key ?_ ?_
 ·refine congrArg _ (funext λ_=>funext λc=> ?_)
  unfold lo8
  have key: ∀{m m':SM T5}{f f':T5->SM (ForInStep T4)},m=m'->f=f'->m >>= f=m' >>= f':=λh1 h2=>by rw[h1,h2]
  refine key ?_ ?_
  ·refine congrArg _ (funext λ_=>funext λd=> ?_)
   unfold lo1
   rfl
  ·funext d
   unfold lo6
   cases h:d.1
   ·dsimp only
    refine congrArg _ (funext λ_=> ?_)
    have key: ∀{m m':SM T6}{f f':T6->SM (ForInStep T4)},m=m'->f=f'->m >>= f=m' >>= f':=λh1 h2=>by rw[h1,h2]
    refine key ?_ ?_
    ·refine congrArg _ (funext λ_=>funext λd=> ?_)
     unfold lo5
     rfl
    ·funext d
     unfold lo7
     obtain⟨r,d⟩:=d
     cases r<;>rfl
   ·rfl
 ·funext c
  obtain⟨r,c⟩:=c
  cases r<;>rfl
end Tim
namespace Tim
open PySem PyProof.Rows
variable{M:Model}{A:Around}{E:Value->Shared->Prop}{s:Shared}{κ:SortKind}{ρ:KI}{Dm:KP}
abbrev le(ρ:KI)(x y:Keyed):Prop:=ρ x<=ρ y
def Sm(st st':SortSt):Prop:=kindOf st'=kindOf st/\arrOf st'=arrOf st/\pendingOf st'=pendingOf st/\failedOf st'=failedOf st
theorem Sm.refl(st:SortSt):Sm st st:=⟨rfl,rfl,rfl,rfl⟩
theorem Sm.trans{a b c:SortSt}(h:Sm a b)(k:Sm b c):Sm a c:=⟨k.1.trans h.1,k.2.1.trans h.2.1,k.2.2.1.trans h.2.2.1,k.2.2.2.trans h.2.2.2⟩
theorem z77{g:Nat}{st:SortSt}{Q:Unit->SortSt->Prop}(h: ∀st',Sm st st'->Q () st'):wpS M A E s (setG g) Q st:=wpS_modify (h _ ⟨rfl,rfl,rfl,rfl⟩)
theorem z26{a:AK}{i:Nat}(h:i<a.size): ∃x,a[i]? = some x/\x∈a.toList.drop i/\a.toList.drop i=x::a.toList.drop (i+1):=by
 have e:=List.drop_eq_getElem_cons (l:=a.toList) (i:=i) (by simpa using h)
 refine⟨a[i],by simp[h],?_,by rw[e];simp⟩
 rw[e];simp
theorem z8l(a:AK)(i:Nat):(a.extract i a.size).toList=a.toList.drop i:=by
 rw[Array.toList_extract,List.extract_eq_drop_take]
 exact List.take_of_length_le (by simp)
theorem zCk(a:AK)(i k:Nat):(a.extract i (i+k)).toList=(a.toList.drop i).take k:=by
 simp[List.extract_eq_drop_take]
theorem l_at{a:AK}{i k:Nat}{x:Keyed}(h:a[i+k]? = some x):(a.toList.drop i)[k]? = some x:=by
 rw[List.getElem?_drop];simpa using h
structure LoC(ρ:KI)(Dm:KP)(a b:AK):Prop where
 da: ∀x∈a.toList,Dm x
 db: ∀x∈b.toList,Dm x
 lst: ∀z,a.toList.getLast? = some z-> ∀y∈b.toList,ρ y<=ρ z
abbrev LoR(ρ:KI)(a b:AK)(r:AK):Prop:=Res (le ρ) (a.toList++b.toList) r.toList
abbrev LoM(ρ:KI)(a b out:AK)(ia ib:Nat):Prop:=MI (le ρ) (a.toList++b.toList) out.toList (a.toList.drop ia) (b.toList.drop ib)
section
variable{a b out:AK}{ia ib:Nat}
theorem dn_b(h:LoM ρ a b out ia ib)(e:b.size<=ib):LoR ρ a b (dn a b out ia ib):=by
 unfold LoM at h
 rw[List.drop_eq_nil_of_le (as:=b.toList) (by simpa using e)]at h
 have:=h.fin
 unfold LoR dn
 rw[Array.toList_append,Array.toList_append,z8l,z8l,List.drop_eq_nil_of_le (as:=b.toList) (by simpa using e),List.append_nil]
 exact this
theorem dn_a(h:LoM ρ a b out ia ib)(e:a.size<=ia):LoR ρ a b (dn a b out ia ib):=by
 unfold LoM at h
 rw[List.drop_eq_nil_of_le (as:=a.toList) (by simpa using e)]at h
 have:=h.swap.fin
 unfold LoR dn
 rw[Array.toList_append,Array.toList_append,z8l,z8l,List.drop_eq_nil_of_le (as:=a.toList) (by simpa using e),List.append_nil]
 exact this
theorem la_a(C:LoC ρ Dm a b)(h:LoM ρ a b out ia ib)(e:ia+1=a.size):LoR ρ a b (la a b out ia ib):=by
 obtain⟨z,e1,e2,e3⟩:=z26 (a:=a) (i:=ia) (by omega)
 rw[List.drop_eq_nil_of_le (as:=a.toList) (i:=ia+1) (by simp;omega)]at e3
 unfold LoM at h
 rw[e3]at h
 unfold LoR la
 rw[Array.toList_append,Array.toList_append,z8l,z8l,e3]
 refine h.last λy hy=>C.lst z ?_ y (List.mem_of_mem_drop hy)
 rw[List.getLast?_eq_getElem?]
 have:a.toList.length-1=ia:=by simp;omega
 rw[this]
 simpa using e1
theorem LoM.head_le{x y:Keyed}(h:LoM ρ a b out ia ib)(hx:a[ia]? = some x)(hy:y∈a.toList.drop ia):ρ x<=ρ y:=by
 have hlt:ia<a.size:=by
  rcases Nat.lt_or_ge ia a.size with h|h
  ·exact h
  ·simp[h]at hx
 obtain⟨z,e1,e2,e3⟩:=z26 (a:=a) (i:=ia) hlt
 obtain rfl:z=x:=by rw[e1]at hx;exact Option.some.inj hx
 have hs:=h.sa
 rw[e3]at hs hy
 rcases List.mem_cons.mp hy with rfl|hy
 ·exact Int.le_refl _
 ·exact(List.pairwise_cons.mp hs).1 y hy
theorem LoM.head_leB{x y:Keyed}(h:LoM ρ a b out ia ib)(hx:b[ib]? = some x)(hy:y∈b.toList.drop ib):ρ x<=ρ y:=by
 have hlt:ib<b.size:=by
  rcases Nat.lt_or_ge ib b.size with h|h
  ·exact h
  ·simp[h]at hx
 obtain⟨z,e1,e2,e3⟩:=z26 (a:=b) (i:=ib) hlt
 obtain rfl:z=x:=by rw[e1]at hx;exact Option.some.inj hx
 have hs:=h.sb
 rw[e3]at hs hy
 rcases List.mem_cons.mp hy with rfl|hy
 ·exact Int.le_refl _
 ·exact(List.pairwise_cons.mp hs).1 y hy
theorem LoM.takeA{k:Nat}(h:LoM ρ a b out ia ib)(hc: ∀x∈(a.toList.drop ia).take k,∀y∈b.toList.drop ib,ρ x<=ρ y):LoM ρ a b (out++a.extract ia (ia+k)) (ia+k) ib:=by
 unfold LoM at h ⊢
 rw[<-List.take_append_drop k (a.toList.drop ia),List.drop_drop]at h
 have:=h.take hc
 rw[Array.toList_append,zCk]
 exact this
theorem LoM.takeB{k:Nat}(h:LoM ρ a b out ia ib)(hc: ∀x∈(b.toList.drop ib).take k,∀y∈a.toList.drop ia,ρ x<=ρ y):LoM ρ a b (out++b.extract ib (ib+k)) ia (ib+k):=by
 unfold LoM at h ⊢
 have h:=h.swap
 rw[<-List.take_append_drop k (b.toList.drop ib),List.drop_drop]at h
 have:=(h.take hc).swap
 rw[Array.toList_append,zCk]
 exact this
theorem LoM.pushA{x:Keyed}(h:LoM ρ a b out ia ib)(hx:a[ia]? = some x)(hc: ∀y∈b.toList.drop ib,ρ x<=ρ y):LoM ρ a b (out.push x) (ia+1) ib:=by
 have hlt:ia<a.size:=by
  rcases Nat.lt_or_ge ia a.size with h|h
  ·exact h
  ·simp[h]at hx
 obtain⟨z,e1,e2,e3⟩:=z26 (a:=a) (i:=ia) hlt
 obtain rfl:z=x:=by rw[e1]at hx;exact Option.some.inj hx
 unfold LoM at h ⊢
 rw[e3]at h
 rw[Array.toList_push]
 exact MI.take (C:=[z]) h λw hw y hy=>by rw[List.mem_singleton.mp hw];exact hc y hy
theorem LoM.pushB{x:Keyed}(h:LoM ρ a b out ia ib)(hx:b[ib]? = some x)(hc: ∀y∈a.toList.drop ia,ρ x<=ρ y):LoM ρ a b (out.push x) ia (ib+1):=by
 have hlt:ib<b.size:=by
  rcases Nat.lt_or_ge ib b.size with h|h
  ·exact h
  ·simp[h]at hx
 obtain⟨z,e1,e2,e3⟩:=z26 (a:=b) (i:=ib) hlt
 obtain rfl:z=x:=by rw[e1]at hx;exact Option.some.inj hx
 unfold LoM at h ⊢
 have h:=h.swap
 rw[e3]at h
 rw[Array.toList_push]
 exact(MI.take (C:=[z]) h λw hw y hy=>by rw[List.mem_singleton.mp hw];exact hc y hy).swap
structure LoI(ρ:KI)(a b:AK)(m:Nat)(out:AK)(ia ib:Nat):Prop where
 mi:LoM ρ a b out ia ib
 ha:ia+1<a.size
 hb:ib<b.size
 hm:m<=ia+ib
def P6(ρ:KI)(a b:AK)(m:Nat)(c:T6):Prop:=(∃r,c.1=some r/\LoR ρ a b r)\/(c.1=none/\LoI ρ a b m c.2.1 c.2.2.1 c.2.2.2.1)
def Y6(ρ:KI)(a b:AK)(m:Nat)(st:SortSt)(r:ForInStep T6)(st':SortSt):Prop:=Sm st st'/\match r with| .done c=>P6 ρ a b m c| .yield c=>c.1=none/\LoI ρ a b m c.2.1 c.2.2.1 c.2.2.2.1
theorem zEs(C:LoC ρ Dm a b){m mg ac bc:Nat}{st st₀:SortSt}(h:LoI ρ a b m out ia ib)(S:Sm st₀ st)(hx: ∀x,a[ia]? = some x-> ∀y∈b.toList.drop ib,ρ x<=ρ y):wpS M A E s (lo4 a b mg ac bc out ia ib) (Y6 ρ a b m st₀) st:=by
 obtain⟨x,e1,e2,e3⟩:=z26 (a:=a) (i:=ia) (by have:=h.ha;omega)
 have h':=h.mi.pushA e1 (hx x e1)
 have h1:=h.ha
 have h2:=h.hb
 have h3:=h.hm
 unfold lo4
 refine wpS_bind (z06 e1 ?_)
 by_cases c:(ia+1+1==a.size)=true
 ·rw[if_pos c]
  exact wpS_pure ⟨S,.inl ⟨_,rfl,la_a C h' (by simpa using c)⟩⟩
 ·rw[if_neg c]
  have i':LoI ρ a b m (out.push x) (ia+1) ib:=⟨h',by simp at c;omega,h2,by omega⟩
  by_cases d:(decide (ac<7)&&decide (bc<7))=true
  ·rw[if_pos d];exact wpS_pure ⟨S,.inr ⟨rfl,i'⟩⟩
  ·rw[if_neg d];exact wpS_pure ⟨S,rfl,i'⟩
theorem z0F{l:LK}{k:Nat}{x:Keyed}(h:x∈l.take k): ∃i,i<k/\l[i]? = some x:=by
 obtain⟨i,h1,h2⟩:=List.mem_iff_getElem.mp h
 have h3:i<k/\i<l.length:=by simp at h1;omega
 exact⟨i,h3.1,by rw[List.getElem_take]at h2;rw[<-h2];simp⟩
theorem z24{l:LK}(hs:l.Pairwise (le ρ)){i j:Nat}{x y:Keyed}(hij:i<=j)(hx:l[i]? = some x)(hy:l[j]? = some y):ρ x<=ρ y:=by
 obtain⟨h1,rfl⟩:=List.getElem?_eq_some_iff.mp hx
 obtain⟨h2,rfl⟩:=List.getElem?_eq_some_iff.mp hy
 rcases Nat.lt_or_ge i j with h|h
 ·exact List.pairwise_iff_getElem.mp hs i j h1 h2 h
 ·obtain rfl:i=j:=by omega
  exact Int.le_refl _
theorem z8U(L:LtOk M A E s κ ρ Dm){key:Keyed}{arr:AK}{base n hint:Nat}{st:SortSt}{Q:Option Nat->SortSt->Prop}(hk:kindOf st=κ)(d1:Dm key)(da: ∀x∈arr.toList,Dm x)(hz:base+n<=arr.size)(hn:hint<n)
  (hs: ∀i j x y,i<=j->j<n->arr[base+i]? = some x->arr[base+j]? = some y->ρ x<=ρ y)
  (q: ∀k,k<=n->(∀i x,i<k->arr[base+i]? = some x->ρ x<ρ key)->(∀i x,k<=i->i<n->arr[base+i]? = some x->ρ key<=ρ x)->Q (some k) st):wpS M A E s (gal true key arr base n hint) Q st:=by
 have at_: ∀i,i<n-> ∃x,arr[base+i]? = some x:=λi hi=>⟨arr[base+i]'(by omega),by simp⟩
 refine zEp L (λi=>decide (ρ (arr.getD (base+i) key)<ρ key)) hk d1 (λi hi=> ?_) (λi j hij hj hb=> ?_) hn λk hb=>q k hb.1 (λi x hi hx=> ?_) λi x h1 h2 hx=> ?_
 ·obtain⟨x,hx⟩:=at_ i hi
  exact⟨x,hx,da x (Array.mem_toList_iff.mpr (Array.mem_of_getElem? hx)),by unfold bB;rw[if_pos rfl];simp[Array.getD_eq_getD_getElem?,hx]⟩
 ·obtain⟨x,hx⟩:=at_ i (by omega)
  obtain⟨y,hy⟩:=at_ j hj
  simp only[Array.getD_eq_getD_getElem?,hx,hy,Option.getD_some,decide_eq_true_eq]at hb ⊢
  exact Int.lt_of_le_of_lt (hs i j x y hij hj hx hy) hb
 ·have:=hb.2.1 i hi
  simpa [Array.getD_eq_getD_getElem?,hx] using this
 ·have:=hb.2.2 i h1 h2
  simpa [Array.getD_eq_getD_getElem?,hx] using this
theorem z8V(L:LtOk M A E s κ ρ Dm){key:Keyed}{arr:AK}{base n hint:Nat}{st:SortSt}{Q:Option Nat->SortSt->Prop}(hk:kindOf st=κ)(d1:Dm key)(da: ∀x∈arr.toList,Dm x)(hz:base+n<=arr.size)(hn:hint<n)
  (hs: ∀i j x y,i<=j->j<n->arr[base+i]? = some x->arr[base+j]? = some y->ρ x<=ρ y)
  (q: ∀k,k<=n->(∀i x,i<k->arr[base+i]? = some x->ρ x<=ρ key)->(∀i x,k<=i->i<n->arr[base+i]? = some x->ρ key<ρ x)->Q (some k) st):wpS M A E s (gal false key arr base n hint) Q st:=by
 have at_: ∀i,i<n-> ∃x,arr[base+i]? = some x:=λi hi=>⟨arr[base+i]'(by omega),by simp⟩
 refine zEp L (λi=> !decide (ρ key<ρ (arr.getD (base+i) key))) hk d1 (λi hi=> ?_) (λi j hij hj hb=> ?_) hn λk hb=>q k hb.1 (λi x hi hx=> ?_) λi x h1 h2 hx=> ?_
 ·obtain⟨x,hx⟩:=at_ i hi
  exact⟨x,hx,da x (Array.mem_toList_iff.mpr (Array.mem_of_getElem? hx)),by unfold bB;rw[if_neg Bool.false_ne_true];simp[Array.getD_eq_getD_getElem?,hx]⟩
 ·obtain⟨x,hx⟩:=at_ i (by omega)
  obtain⟨y,hy⟩:=at_ j hj
  have:=hs i j x y hij hj hx hy
  simp[Array.getD_eq_getD_getElem?,hx,hy]at hb ⊢
  exact Int.le_trans this hb
 ·have:=hb.2.1 i hi
  simpa [Array.getD_eq_getD_getElem?,hx] using this
 ·have:=hb.2.2 i h1 h2
  simpa [Array.getD_eq_getD_getElem?,hx] using this
theorem zEt(L:LtOk M A E s κ ρ Dm)(C:LoC ρ Dm a b){m mg ac bc:Nat}{st st₀:SortSt}(h:LoI ρ a b m out ia ib)(S:Sm st₀ st)(hk:kindOf st₀=κ)(hx: ∀x y,b[ib]? = some x->a[ia]? = some y->ρ x<=ρ y):wpS M A E s (lo3 a b mg ac bc out ia ib) (Y6 ρ a b m st₀) st:=by
 have h1:=h.ha
 have h2:=h.hb
 have h3:=h.hm
 obtain⟨x,e1,e2,e3⟩:=z26 (a:=b) (i:=ib) h2
 obtain⟨y,f1,f2,f3⟩:=z26 (a:=a) (i:=ia) (by omega)
 have h':=h.mi.pushB e1 λz hz=>Int.le_trans (hx x y e1 f1) (h.mi.head_le f1 hz)
 unfold lo3
 refine wpS_bind (z06 e1 ?_)
 by_cases c:(ib+1==b.size)=true
 ·rw[if_pos c]
  exact wpS_pure ⟨S,.inl ⟨_,rfl,dn_b h' (by simp at c;omega)⟩⟩
 ·rw[if_neg c]
  have hb':ib+1<b.size:=by simp at c;omega
  refine wpS_bind (z06 f1 ?_)
  refine wpS_bind (z8U L (S.1.trans hk) (C.da y (List.mem_of_mem_drop f2)) C.db (by omega) (by omega) (λi j u v hij hj hu hv=>z24 h'.sb hij (l_at hu) (l_at hv)) λk k1 k2 k3=> ?_)
  dsimp only
  by_cases hk0:k>0
  ·rw[if_pos hk0]
   have h4:=h'.takeB (k:=k) λz hz w hw=>by
    obtain⟨i,g1,g2⟩:=z0F hz
    rw[List.getElem?_drop]at g2
    exact Int.le_trans (Int.le_of_lt (k2 i z g1 (by simpa using g2))) (h'.head_le f1 hw)
   by_cases d:(ib+1+k==b.size)=true
   ·rw[if_pos d]
    exact wpS_pure ⟨S,.inl ⟨_,rfl,dn_b h4 (by simp at d;omega)⟩⟩
   ·rw[if_neg d]
    have d':ib+1+k<b.size:=by simp at d;omega
    refine zEs C ⟨h4,h1,d',by omega⟩ S λu hu v hv=> ?_
    obtain rfl:y=u:=by rw[f1]at hu;exact Option.some.inj hu
    obtain⟨w,g1,g2,g3⟩:=z26 (a:=b) (i:=ib+1+k) d'
    exact Int.le_trans (k3 k w (Nat.le_refl _) (by omega) g1) (h4.head_leB g1 hv)
  ·rw[if_neg hk0]
   obtain rfl:k=0:=by omega
   refine zEs C ⟨h',h1,hb',by omega⟩ S λu hu v hv=> ?_
   obtain rfl:y=u:=by rw[f1]at hu;exact Option.some.inj hu
   obtain⟨w,g1,g2,g3⟩:=z26 (a:=b) (i:=ib+1) hb'
   exact Int.le_trans (k3 0 w (Nat.le_refl _) (by omega) g1) (h'.head_leB g1 hv)
theorem zEu(L:LtOk M A E s κ ρ Dm)(C:LoC ρ Dm a b){m mg ac bc:Nat}{st st₀:SortSt}(h:LoI ρ a b m out ia ib)(S:Sm st₀ st)(hk:kindOf st₀=κ):wpS M A E s (lo2 a b mg ac bc out ia ib) (Y6 ρ a b m st₀) st:=by
 have h1:=h.ha
 have h2:=h.hb
 have h3:=h.hm
 obtain⟨x,e1,e2,e3⟩:=z26 (a:=b) (i:=ib) h2
 unfold lo2
 refine wpS_bind (z77 λst1 S1=> ?_)
 have S:=S.trans S1
 refine wpS_bind (z06 e1 ?_)
 refine wpS_bind (z8V L (S.1.trans hk) (C.db x (List.mem_of_mem_drop e2)) C.da (by omega) (by omega) (λi j u v hij hj hu hv=>z24 h.mi.sa hij (l_at hu) (l_at hv)) λk k1 k2 k3=> ?_)
 dsimp only
 by_cases hk0:k>0
 ·rw[if_pos hk0]
  have h4:=h.mi.takeA (k:=k) λz hz w hw=>by
   obtain⟨i,g1,g2⟩:=z0F hz
   rw[List.getElem?_drop]at g2
   exact Int.le_trans (k2 i z g1 (by simpa using g2)) (h.mi.head_leB e1 hw)
  by_cases c:(ia+k+1==a.size)=true
  ·rw[if_pos c]
   exact wpS_pure ⟨S,.inl ⟨_,rfl,la_a C h4 (by simpa using c)⟩⟩
  ·rw[if_neg c]
   by_cases d:(ia+k==a.size)=true
   ·rw[if_pos d]
    exact wpS_pure ⟨S,.inl ⟨_,rfl,dn_a h4 (by simp at d;omega)⟩⟩
   ·rw[if_neg d]
    have d':ia+k+1<a.size:=by simp at c d;omega
    refine zEt L C ⟨h4,d',h2,by omega⟩ S hk λu v hu hv=> ?_
    obtain rfl:x=u:=by rw[e1]at hu;exact Option.some.inj hu
    exact Int.le_of_lt (k3 k v (Nat.le_refl _) (by omega) hv)
 ·rw[if_neg hk0]
  obtain rfl:k=0:=by omega
  refine zEt L C h S hk λu v hu hv=> ?_
  obtain rfl:x=u:=by rw[e1]at hu;exact Option.some.inj hu
  exact Int.le_of_lt (k3 0 v (Nat.le_refl _) (by omega) hv)
def P5(ρ:KI)(a b:AK)(m:Nat)(c:T5):Prop:=(∃r,c.1=some r/\LoR ρ a b r)\/(c.1=none/\LoI ρ a b m c.2.1 c.2.2.1 c.2.2.2.1)
def Y5(ρ:KI)(a b:AK)(m:Nat)(st:SortSt)(r:ForInStep T5)(st':SortSt):Prop:=st'=st/\match r with| .done c=>P5 ρ a b m c| .yield c=>c.1=none/\LoI ρ a b m c.2.1 c.2.2.1 c.2.2.2.1
theorem zFW(L:LtOk M A E s κ ρ Dm)(C:LoC ρ Dm a b){m mg ac bc:Nat}{st:SortSt}(hk:kindOf st=κ)(h:LoI ρ a b m out ia ib):wpS M A E s (lo1 a b mg out ia ib ac bc) (Y5 ρ a b (m+1) st) st:=by
 have h1:=h.ha
 have h2:=h.hb
 have h3:=h.hm
 obtain⟨x,e1,e2,e3⟩:=z26 (a:=b) (i:=ib) h2
 obtain⟨y,f1,f2,f3⟩:=z26 (a:=a) (i:=ia) (by omega)
 unfold lo1
 refine wpS_bind (z06 e1 (wpS_bind (z06 f1 ?_)))
 refine wpS_bind (L.lt (C.db x (List.mem_of_mem_drop e2)) (C.da y (List.mem_of_mem_drop f2)) hk ?_)
 dsimp only
 by_cases hw:ρ x<ρ y
 ·rw[decide_eq_true hw,if_pos rfl]
  refine wpS_bind (z06 e1 ?_)
  have h':=h.mi.pushB e1 λz hz=>Int.le_trans (Int.le_of_lt hw) (h.mi.head_le f1 hz)
  by_cases c:(ib+1==b.size)=true
  ·rw[if_pos c]
   exact wpS_pure ⟨rfl,.inl ⟨_,rfl,dn_b h' (by simp at c;omega)⟩⟩
  ·rw[if_neg c]
   have i':LoI ρ a b (m+1) (out.push x) ia (ib+1):=⟨h',h1,by simp at c;omega,by omega⟩
   by_cases d:bc+1>=mg
   ·rw[if_pos d];exact wpS_pure ⟨rfl,.inr ⟨rfl,i'⟩⟩
   ·rw[if_neg d];exact wpS_pure ⟨rfl,rfl,i'⟩
 ·rw[decide_eq_false hw,if_neg Bool.false_ne_true]
  refine wpS_bind (z06 f1 ?_)
  have h':=h.mi.pushA f1 λz hz=>Int.le_trans (by omega) (h.mi.head_leB e1 hz)
  by_cases c:(ia+1+1==a.size)=true
  ·rw[if_pos c]
   exact wpS_pure ⟨rfl,.inl ⟨_,rfl,la_a C h' (by simpa using c)⟩⟩
  ·rw[if_neg c]
   have i':LoI ρ a b (m+1) (out.push y) (ia+1) ib:=⟨h',by simp at c;omega,h2,by omega⟩
   by_cases d:ac+1>=mg
   ·rw[if_pos d];exact wpS_pure ⟨rfl,.inr ⟨rfl,i'⟩⟩
   ·rw[if_neg d];exact wpS_pure ⟨rfl,rfl,i'⟩
theorem LoI.mono{m m':Nat}(h:LoI ρ a b m out ia ib)(hm:m'<=m):LoI ρ a b m' out ia ib:=⟨h.mi,h.ha,h.hb,Nat.le_trans hm h.hm⟩
def Y4(ρ:KI)(a b:AK)(m:Nat)(st:SortSt)(r:ForInStep T4)(st':SortSt):Prop:=Sm st st'/\match r with| .done c=> ∃r,c.1=some r/\LoR ρ a b r| .yield c=>c.1=none/\LoI ρ a b m c.2.1 c.2.2.1 c.2.2.2.1
theorem zFX(L:LtOk M A E s κ ρ Dm)(C:LoC ρ Dm a b){m:Nat}{st st₀:SortSt}{c:T4}(S:Sm st₀ st)(hk:kindOf st₀=κ)(h:LoI ρ a b m c.2.1 c.2.2.1 c.2.2.2.1):wpS M A E s (lo8 a b c) (Y4 ρ a b (m+1) st₀) st:=by
 unfold lo8
 have h1:=h.ha
 refine wpS_bind (wpS_mono (wpS_forRange (I:=λx(c:T5)st'=>st'=st/\c.1=none/\LoI ρ a b (if x=0 then m else m+1) c.2.1 c.2.2.1 c.2.2.2.1) (Q:=λc st'=>st'=st/\P5 ρ a b (m+1) c) ?_ ?_ ⟨rfl,rfl,by rw[if_pos rfl];exact h⟩) ?_)
 ·rintro x d st' _ hx ⟨rfl,d1,d2⟩
  refine wpS_mono (zFW L C (S.1.trans hk) (d2.mono (m':=m) (by split<;>omega))) λr st' hr=> ?_
  obtain⟨rfl,hr⟩:=hr
  cases r with
  | done c=>exact⟨rfl,hr⟩
  | yield c=>exact⟨rfl,hr.1,by rw[if_neg (by omega)];exact hr.2⟩
 ·rintro d st' ⟨rfl,d1,d2⟩
  refine⟨rfl,.inr ⟨d1,?_⟩⟩
  rw[if_neg (by omega)]at d2
  exact d2
 ·rintro⟨d0,d⟩ st' ⟨rfl,hd⟩
  unfold lo6
  rcases hd with⟨r,rfl,hr⟩|⟨rfl,hi⟩
  ·exact wpS_pure ⟨S,_,rfl,hr⟩
  ·dsimp only at hi ⊢
   refine wpS_bind (wpS_lift (wpAny_rule ⟨rfl,?_⟩))
   refine wpS_bind (wpS_mono (wpS_forRange (I:=λx c st'=>Sm st₀ st'/\c.1=none/\LoI ρ a b (m+1) c.2.1 c.2.2.1 c.2.2.2.1) (Q:=λc st'=>Sm st₀ st'/\P6 ρ a b (m+1) c) ?_ ?_ ⟨S,rfl,hi⟩) ?_)
   ·rintro x d st' _ hx ⟨S',d1,d2⟩
    unfold lo5
    by_cases hg:d.2.2.2.2.1>1
    ·rw[if_pos hg]
     exact wpS_mono (zEu L C d2 S' hk) λr st'' hr=>by cases r<;>exact hr
    ·rw[if_neg hg]
     exact wpS_mono (zEu L C d2 S' hk) λr st'' hr=>by cases r<;>exact hr
   ·rintro d st' ⟨S',d1,d2⟩
    exact⟨S',.inr ⟨d1,d2⟩⟩
   ·rintro⟨e0,e⟩ st' ⟨S',he⟩
    unfold lo7
    rcases he with⟨r,rfl,hr⟩|⟨rfl,hi⟩
    ·exact wpS_pure ⟨S',_,rfl,hr⟩
    ·dsimp only
     refine wpS_bind (z77 λst1 S1=> ?_)
     exact wpS_pure ⟨S'.trans S1,rfl,hi⟩
theorem zFY(L:LtOk M A E s κ ρ Dm)(C:LoC ρ Dm a b){st:SortSt}{Q:AK->SortSt->Prop}(hk:kindOf st=κ)(ha:0<a.size)(hb:0<b.size)(sa:a.toList.Pairwise (le ρ))(sb:b.toList.Pairwise (le ρ))
  (h0: ∀x y,b[0]? = some x->a[0]? = some y->ρ x<=ρ y) (q: ∀r st',Sm st st'->LoR ρ a b r->Q r st'):wpS M A E s (mLo a b) Q st:=by
 rw[zEr]
 refine wpS_bind (wpS_lift (wpAny_rule ⟨rfl,?_⟩))
 obtain⟨x,e1,e2,e3⟩:=z26 (a:=b) (i:=0) hb
 obtain⟨y,f1,f2,f3⟩:=z26 (a:=a) (i:=0) ha
 refine wpS_bind (z06 e1 ?_)
 have m0:LoM ρ a b #[] 0 0:=⟨by simp,by simp,by simpa using sa,by simpa using sb,by simp⟩
 have h':=m0.pushB e1 λz hz=>Int.le_trans (h0 x y e1 f1) (m0.head_le f1 hz)
 have h':LoM ρ a b #[x] 0 1:=h'
 by_cases c:(1==b.size)=true
 ·rw[if_pos c]
  exact wpS_pure (q _ _ (Sm.refl _) (dn_b h' (by simp at c;omega)))
 ·rw[if_neg c]
  by_cases d:(0+1==a.size)=true
  ·rw[if_pos d]
   exact wpS_pure (q _ _ (Sm.refl _) (la_a C h' (by simpa using d)))
  ·rw[if_neg d]
   refine wpS_bind (wpS_get ?_)
   have c':1<b.size:=by simp at c;omega
   have d':1<a.size:=by simp at d;omega
   refine wpS_bind (wpS_mono (wpS_forRange (I:=λx c st'=>Sm st st'/\c.1=none/\LoI ρ a b (x+1) c.2.1 c.2.2.1 c.2.2.2.1) (Q:=λc st'=>Sm st st'/\ ∃r,c.1=some r/\LoR ρ a b r) ?_ ?_ ⟨Sm.refl _,rfl,⟨h',d',c',Nat.le_refl _⟩⟩) ?_)
   ·rintro x d st' _ hx ⟨S',d1,d2⟩
    exact wpS_mono (zFX L C S' hk d2) λr st'' hr=>by cases r<;>exact hr
   ·rintro d st' ⟨S',d1,d2⟩
    have h1:=d2.ha
    have h2:=d2.hb
    have h3:=d2.hm
    omega
   ·rintro⟨d0,d⟩ st' ⟨S',r,rfl,hr⟩
    exact wpS_pure (q r _ S' hr)
end
end Tim
namespace Tim
open PySem PyProof.Rows
abbrev U5:=Option (AK)×Nat×Nat×AK×Nat×Nat
abbrev U6:=Option (AK)×Nat×Nat×AK×Nat×Nat×Nat
abbrev U4:=Option (AK)×Nat×Nat×AK×Nat
section
variable(a b:AK)
def hd(out:AK)(na nb:Nat):AK:=a.extract 0 na++b.extract 0 nb++out.reverse
def hf(out:AK)(na nb:Nat):AK:=b.extract 0 nb++a.extract 0 na++out.reverse
def hi1(mg i j:Nat)(o:AK)(ac bc:Nat):SM (ForInStep U5):=do
 let x <-elem' b (j-1)
 let y <-elem' a (i-1)
 let some w <-lt' x y|pure (.done (some (hd a b o i j),i,j,o,ac,bc))
 if w=true then do
   let x <-elem' a (i-1)
   if(i-1==0)=true then pure (.done (some (hd a b (o.push x) (i-1) j),i-1,j,o.push x,ac+1,0))
   else if ac+1>=mg then pure (.done (none,i-1,j,o.push x,ac+1,0))
   else pure (.yield (none,i-1,j,o.push x,ac+1,0))
 else do
   let x <-elem' b (j-1)
   if(j-1==1)=true then pure (.done (some (hf a b (o.push x) i (j-1)),i,j-1,o.push x,0,bc+1))
   else if bc+1>=mg then pure (.done (none,i,j-1,o.push x,0,bc+1))
   else pure (.yield (none,i,j-1,o.push x,0,bc+1))
def hi4(mg ac bc:Nat)(out:AK)(na nb:Nat):SM (ForInStep U6):=do
 let x <-elem' a (na-1)
 if(na-1==0)=true then pure (.done (some (hd a b (out.push x) (na-1) nb),na-1,nb,out.push x,mg,ac,bc))
 else if(decide (ac<7)&&decide (bc<7))=true then pure (.done (none,na-1,nb,out.push x,mg,ac,bc))
 else pure (.yield (none,na-1,nb,out.push x,mg,ac,bc))
def hi3(mg ac bc:Nat)(out:AK)(na nb:Nat):SM (ForInStep U6):=do
 let x <-elem' b (nb-1)
 if(nb-1==1)=true then pure (.done (some (hf a b (out.push x) na (nb-1)),na,nb-1,out.push x,mg,ac,bc))
 else do
  let y <-elem' a (na-1)
  let some k <-gal true y b 0 (nb-1) (nb-1-1)|pure (.done (some (hd a b (out.push x) na (nb-1)),na,nb-1,out.push x,mg,ac,bc))
  if nb-1-k>0 then
    if(k==1)=true then pure (.done (some (hf a b (out.push x++(b.extract k (nb-1)).reverse) na k),na,k,out.push x++(b.extract k (nb-1)).reverse,mg,ac,nb-1-k))
    else if(k==0)=true then pure (.done (some (hd a b (out.push x++(b.extract k (nb-1)).reverse) na k),na,k,out.push x++(b.extract k (nb-1)).reverse,mg,ac,nb-1-k))
    else hi4 a b mg ac (nb-1-k) (out.push x++(b.extract k (nb-1)).reverse) na k
  else hi4 a b mg ac (nb-1-k) (out.push x) na (nb-1)
def hi2(mg ac bc:Nat)(out:AK)(na nb:Nat):SM (ForInStep U6):=do
 setG mg
 let x <-elem' b (nb-1)
 let some k <-gal false x a 0 na (na-1)|pure (.done (some (hd a b out na nb),na,nb,out,mg,ac,bc))
 if na-k>0 then
   if(k==0)=true then pure (.done (some (hd a b (out++(a.extract k na).reverse) k nb),k,nb,out++(a.extract k na).reverse,mg,na-k,bc))
   else hi3 a b mg (na-k) bc (out++(a.extract k na).reverse) k nb
 else hi3 a b mg (na-k) bc out na nb
def hi5(c:U6):SM (ForInStep U6):=
 if c.2.2.2.2.1>1 then hi2 a b (c.2.2.2.2.1-1) c.2.2.2.2.2.1 c.2.2.2.2.2.2 c.2.2.2.1 c.2.1 c.2.2.1
 else hi2 a b c.2.2.2.2.1 c.2.2.2.2.2.1 c.2.2.2.2.2.2 c.2.2.2.1 c.2.1 c.2.2.1
def hi7(c:U6):SM (ForInStep U4):=match c.1 with
 | some r=>pure (.done (some r,c.2.1,c.2.2.1,c.2.2.2.1,c.2.2.2.2.1))
 | none=>do
  setG (c.2.2.2.2.1+1)
  pure (.yield (none,c.2.1,c.2.2.1,c.2.2.2.1,c.2.2.2.2.1+1))
def hi6(mg:Nat)(c:U5):SM (ForInStep U4):=match c.1 with
 | some r=>pure (.done (some r,c.2.1,c.2.2.1,c.2.2.2.1,mg))
 | none=>do
  rule "list.sort.gallop"
  let d <-forIn [:a.size+b.size] ((none,c.2.1,c.2.2.1,c.2.2.2.1,mg+1,c.2.2.2.2.1,c.2.2.2.2.2):U6) λ_ d=>hi5 a b d
  hi7 d
def hi8(c:U4):SM (ForInStep U4):=do
 let d <-forIn [:a.size+b.size] ((none,c.2.1,c.2.2.1,c.2.2.2.1,0,0):U5) λ_ d=>hi1 a b c.2.2.2.2 d.2.1 d.2.2.1 d.2.2.2.1 d.2.2.2.2.1 d.2.2.2.2.2
 hi6 a b c.2.2.2.2 d
end
theorem zEv(a b:AK):mHi a b=(do
 rule "list.sort.merge-hi"
 let total:=a.size+b.size
 let done (out:AK) (na nb:Nat):=a.extract 0 na++b.extract 0 nb++out.reverse
 let firstOfB (out:AK) (na nb:Nat):=b.extract 0 nb++a.extract 0 na++out.reverse
 let mut na:=a.size-1
 let mut nb:=b.size
 let mut out:AK:= #[<-elem' a na]
 if na==0 then return done out na nb
 if nb==1 then return firstOfB out na nb
 let mut minGallop:=gallopOf (<-get)
 for _ in [0:total] do
  let mut acount:=0
  let mut bcount:=0
  for _ in [0:total] do
   let some aWins <-lt' (<-elem' b (nb-1)) (<-elem' a (na-1))|return done out na nb
   if aWins then
    na:=na-1;out:=out.push (<-elem' a na);acount:=acount+1;bcount:=0
    if na==0 then return done out na nb
    if acount>=minGallop then break
   else
    nb:=nb-1;out:=out.push (<-elem' b nb);bcount:=bcount+1;acount:=0
    if nb==1 then return firstOfB out na nb
    if bcount>=minGallop then break
  rule "list.sort.gallop"
  minGallop:=minGallop+1
  for _ in [0:total] do
   if minGallop>1 then minGallop:=minGallop-1
   setG minGallop
   let some at_ <-gal false (<-elem' b (nb-1)) a 0 na (na-1)|return done out na nb
   let k:=na-at_
   acount:=k
   if k>0 then
    out:=out++(a.extract at_ na).reverse;na:=at_
    if na==0 then return done out na nb
   nb:=nb-1;out:=out.push (<-elem' b nb)
   if nb==1 then return firstOfB out na nb
   let some at_ <-gal true (<-elem' a (na-1)) b 0 nb (nb-1)|return done out na nb
   let k:=nb-at_
   bcount:=k
   if k>0 then
    out:=out++(b.extract at_ nb).reverse;nb:=at_
    if nb==1 then return firstOfB out na nb
    if nb==0 then return done out na nb
   na:=na-1;out:=out.push (<-elem' a na)
   if na==0 then return done out na nb
   if acount<7&&bcount<7 then break
  minGallop:=minGallop+1
  setG minGallop
 unsupported "internal:list.sort.merge-bound"):=rfl
theorem zEw(a b:AK):mHi a b=(do
 rule "list.sort.merge-hi"
 let x <-elem' a (a.size-1)
 if(a.size-1==0)=true then pure (hd a b #[x] (a.size-1) b.size)
 else if(b.size==1)=true then pure (hf a b #[x] (a.size-1) b.size)
 else do
  let st <-get
  let c <-forIn [:a.size+b.size] ((none,a.size-1,b.size,#[x],gallopOf st):U4) λ_ c=>hi8 a b c
  match c.1 with
  | some r=>pure r
  | none=>liftM (unsupported (α:=AK) "internal:list.sort.merge-bound")):=by
 rw[zEv]
 dsimp only
 refine congrArg _ (funext λ_=> ?_)
 refine congrArg _ (funext λx=> ?_)
 refine congrArg _ ?_
 refine congrArg _ ?_
 refine congrArg _ (funext λst=> ?_)
 have key: ∀{m m':SM U4}{f f':U4->SM (AK)},m=m'->f=f'->m >>= f=m' >>= f':=λh1 h2=>by rw[h1,h2]
 refine key ?_ ?_
 ·refine congrArg _ (funext λ_=>funext λc=> ?_)
  unfold hi8
  have key: ∀{m m':SM U5}{f f':U5->SM (ForInStep U4)},m=m'->f=f'->m >>= f=m' >>= f':=λh1 h2=>by rw[h1,h2]
  refine key ?_ ?_
  ·refine congrArg _ (funext λ_=>funext λd=> ?_)
   unfold hi1
   rfl
  ·funext d
   unfold hi6
   obtain⟨r,d⟩:=d
   cases r
   ·dsimp only
    refine congrArg _ (funext λ_=> ?_)
    have key: ∀{m m':SM U6}{f f':U6->SM (ForInStep U4)},m=m'->f=f'->m >>= f=m' >>= f':=λh1 h2=>by rw[h1,h2]
    refine key ?_ ?_
    ·refine congrArg _ (funext λ_=>funext λd=> ?_)
     unfold hi5
     rfl
    ·funext d
     unfold hi7
     obtain⟨r,d⟩:=d
     cases r<;>rfl
   ·rfl
 ·funext c
  obtain⟨r,c⟩:=c
  cases r<;>rfl
end Tim
namespace Tim
open PySem PyProof.Rows
variable{M:Model}{A:Around}{E:Value->Shared->Prop}{s:Shared}{κ:SortKind}{ρ:KI}{Dm:KP}
abbrev ge(ρ:KI)(x y:Keyed):Prop:=ρ y<=ρ x
theorem z4l{a:AK}{n:Nat}(h0:0<n)(h:n<=a.size): ∃x,a[n-1]? = some x/\x∈a.toList.take n/\(a.toList.take n).reverse=x::(a.toList.take (n-1)).reverse:=by
 have hl:n-1<a.size:=by omega
 have e:a.toList.take n=a.toList.take (n-1)++[a[n-1]]:=by
  have:=List.take_append_getElem (l:=a.toList) (i:=n-1) (by simpa using hl)
  rw[show n-1+1=n by omega]at this
  rw[<-this];simp
 refine⟨a[n-1],by simp[hl],by rw[e];simp,by rw[e];simp⟩
theorem z8m(a:AK)(n:Nat):(a.extract 0 n).toList=a.toList.take n:=by
 rw[Array.toList_extract,List.extract_eq_drop_take];simp
theorem zCl(a:AK)(k n:Nat):((a.extract k n).reverse).toList=((a.toList.take n).drop k).reverse:=by
 rw[Array.toList_reverse,Array.toList_extract,List.extract_eq_drop_take,List.drop_take]
structure HiC(ρ:KI)(Dm:KP)(a b:AK):Prop where
 da: ∀x∈a.toList,Dm x
 db: ∀x∈b.toList,Dm x
 sa:a.toList.Pairwise (le ρ)
 sb:b.toList.Pairwise (le ρ)
 fst: ∀z,b[0]? = some z-> ∀y∈a.toList,ρ z<=ρ y
abbrev HiM(ρ:KI)(a b out:AK)(na nb:Nat):Prop:=MI (ge ρ) (a.toList++b.toList) out.toList (a.toList.take na).reverse (b.toList.take nb).reverse
section
variable{a b out:AK}{na nb:Nat}
theorem hd_a(h:HiM ρ a b out 0 nb):LoR ρ a b (hd a b out 0 nb):=by
 have h':Res (ge ρ) (a.toList++b.toList) (out.toList++(b.toList.take nb).reverse):=by
  have h:=h
  unfold HiM at h
  rw[List.take_zero,List.reverse_nil]at h
  exact h.swap.fin
 have:=Res.symm_rev (R:=le ρ) h'
 unfold LoR hd
 rw[Array.toList_append,Array.toList_append,z8m,z8m,Array.toList_reverse,List.take_zero,List.nil_append]
 rw[List.reverse_append,List.reverse_reverse]at this
 exact this
theorem hd_b(h:HiM ρ a b out na 0):LoR ρ a b (hd a b out na 0):=by
 have h':Res (ge ρ) (a.toList++b.toList) (out.toList++(a.toList.take na).reverse):=by
  have h:=h
  unfold HiM at h
  rw[List.take_zero,List.reverse_nil]at h
  exact h.fin
 have:=Res.symm_rev (R:=le ρ) h'
 unfold LoR hd
 rw[Array.toList_append,Array.toList_append,z8m,z8m,Array.toList_reverse,List.take_zero,List.append_nil]
 rw[List.reverse_append,List.reverse_reverse]at this
 exact this
theorem hf_b(C:HiC ρ Dm a b)(hb:1<=b.size)(h:HiM ρ a b out na 1):LoR ρ a b (hf a b out na 1):=by
 obtain⟨z,e1,e2,e3⟩:=z4l (a:=b) (n:=1) (by omega) hb
 rw[List.take_zero,List.reverse_nil]at e3
 have h':Res (ge ρ) (a.toList++b.toList) (out.toList++(a.toList.take na).reverse++[z]):=by
  have h:=h
  unfold HiM at h
  rw[e3]at h
  exact h.swap.last λy hy=>C.fst z e1 y (List.mem_of_mem_take (List.mem_reverse.mp hy))
 have:=Res.symm_rev (R:=le ρ) h'
 have e4:b.toList.take 1=[z]:=by have:=congrArg List.reverse e3;simpa using this
 unfold LoR hf
 rw[Array.toList_append,Array.toList_append,z8m,z8m,Array.toList_reverse,e4]
 rw[List.reverse_append,List.reverse_append,List.reverse_reverse]at this
 simpa using this
theorem z5N{n:Nat}{x y:Keyed}(hs:a.toList.Pairwise (le ρ))(hn:n<=a.size)(hx:a[n-1]? = some x)(hy:y∈a.toList.take n):ρ y<=ρ x:=by
 obtain⟨i,h1,h2⟩:=z0F hy
 exact z24 hs (show i<=n-1 by omega) h2 (by simpa using hx)
theorem HiM.pushA{x:Keyed}(h:HiM ρ a b out na nb)(h0:0<na)(hn:na<=a.size)(hx:a[na-1]? = some x)(hc: ∀y∈b.toList.take nb,ρ y<=ρ x):HiM ρ a b (out.push x) (na-1) nb:=by
 obtain⟨z,e1,e2,e3⟩:=z4l (a:=a) h0 hn
 obtain rfl:z=x:=by rw[e1]at hx;exact Option.some.inj hx
 unfold HiM at h ⊢
 rw[e3]at h
 rw[Array.toList_push]
 exact MI.take (C:=[z]) h λw hw y hy=>by rw[List.mem_singleton.mp hw];exact hc y (List.mem_reverse.mp hy)
theorem HiM.pushB{x:Keyed}(h:HiM ρ a b out na nb)(h0:0<nb)(hn:nb<=b.size)(hx:b[nb-1]? = some x)(hc: ∀y∈a.toList.take na,ρ y<=ρ x):HiM ρ a b (out.push x) na (nb-1):=by
 obtain⟨z,e1,e2,e3⟩:=z4l (a:=b) h0 hn
 obtain rfl:z=x:=by rw[e1]at hx;exact Option.some.inj hx
 unfold HiM at h ⊢
 have h:=h.swap
 rw[e3]at h
 rw[Array.toList_push]
 exact(MI.take (C:=[z]) h λw hw y hy=>by rw[List.mem_singleton.mp hw];exact hc y (List.mem_reverse.mp hy)).swap
theorem z46(l:LK){k n:Nat}(hk:k<=n):(l.take n).reverse=((l.take n).drop k).reverse++(l.take k).reverse:=by
 have e:l.take n=l.take k++(l.take n).drop k:=by
  have:=(List.take_append_drop k (l.take n)).symm
  rw[List.take_take,Nat.min_eq_left hk]at this
  exact this
 have:=congrArg List.reverse e
 rwa [List.reverse_append]at this
theorem HiM.takeA{k:Nat}(h:HiM ρ a b out na nb)(hk:k<=na)(hc: ∀x∈(a.toList.take na).drop k,∀y∈b.toList.take nb,ρ y<=ρ x):HiM ρ a b (out++(a.extract k na).reverse) k nb:=by
 unfold HiM at h ⊢
 rw[z46 _ hk]at h
 rw[Array.toList_append,zCl]
 exact h.take λx hx y hy=>hc x (List.mem_reverse.mp hx) y (List.mem_reverse.mp hy)
theorem HiM.takeB{k:Nat}(h:HiM ρ a b out na nb)(hk:k<=nb)(hc: ∀x∈(b.toList.take nb).drop k,∀y∈a.toList.take na,ρ y<=ρ x):HiM ρ a b (out++(b.extract k nb).reverse) na k:=by
 unfold HiM at h ⊢
 have h:=h.swap
 rw[z46 _ hk]at h
 rw[Array.toList_append,zCl]
 exact(h.take λx hx y hy=>hc x (List.mem_reverse.mp hx) y (List.mem_reverse.mp hy)).swap
theorem z8W{l:LK}{k n:Nat}{x:Keyed}(h:x∈(l.take n).drop k): ∃i,k<=i/\i<n/\l[i]? = some x:=by
 obtain⟨i,h1,h2⟩:=List.mem_iff_getElem.mp h
 have h3:i+k<n/\i+k<l.length:=by simp at h1;omega
 refine⟨k+i,by omega,by omega,?_⟩
 rw[List.getElem_drop,List.getElem_take]at h2
 rw[<-h2];simp
structure HiI(ρ:KI)(a b:AK)(m:Nat)(out:AK)(na nb:Nat):Prop where
 mi:HiM ρ a b out na nb
 ha:0<na
 ha':na<=a.size
 hb:1<nb
 hb':nb<=b.size
 hm:m+na+nb<=a.size+b.size
def O6(ρ:KI)(a b:AK)(m:Nat)(c:U6):Prop:=(∃r,c.1=some r/\LoR ρ a b r)\/(c.1=none/\HiI ρ a b m c.2.2.2.1 c.2.1 c.2.2.1)
def Z6(ρ:KI)(a b:AK)(m:Nat)(st:SortSt)(r:ForInStep U6)(st':SortSt):Prop:=Sm st st'/\match r with| .done c=>O6 ρ a b m c| .yield c=>c.1=none/\HiI ρ a b m c.2.2.2.1 c.2.1 c.2.2.1
theorem zEx(C:HiC ρ Dm a b){m mg ac bc:Nat}{st st₀:SortSt}(h:HiI ρ a b m out na nb)(S:Sm st₀ st)(hx: ∀x,a[na-1]? = some x-> ∀y∈b.toList.take nb,ρ y<=ρ x):wpS M A E s (hi4 a b mg ac bc out na nb) (Z6 ρ a b m st₀) st:=by
 have h1:=h.ha
 have h1':=h.ha'
 have h2:=h.hb
 have h2':=h.hb'
 have h3:=h.hm
 obtain⟨x,e1,e2,e3⟩:=z4l (a:=a) h1 h1'
 have h':=h.mi.pushA h1 h1' e1 (hx x e1)
 unfold hi4
 refine wpS_bind (z06 e1 ?_)
 by_cases c:(na-1==0)=true
 ·rw[if_pos c]
  have c':na-1=0:=by simpa using c
  exact wpS_pure ⟨S,.inl ⟨_,rfl,by rw[c']at h' ⊢;exact hd_a h'⟩⟩
 ·rw[if_neg c]
  have i':HiI ρ a b m (out.push x) (na-1) nb:=⟨h',by simp at c;omega,by omega,h2,h2',by omega⟩
  by_cases d:(decide (ac<7)&&decide (bc<7))=true
  ·rw[if_pos d];exact wpS_pure ⟨S,.inr ⟨rfl,i'⟩⟩
  ·rw[if_neg d];exact wpS_pure ⟨S,rfl,i'⟩
theorem zEy(L:LtOk M A E s κ ρ Dm)(C:HiC ρ Dm a b){m mg ac bc:Nat}{st st₀:SortSt}(h:HiI ρ a b m out na nb)(S:Sm st₀ st)(hk:kindOf st₀=κ)(hx: ∀x y,b[nb-1]? = some x->a[na-1]? = some y->ρ y<=ρ x):wpS M A E s (hi3 a b mg ac bc out na nb) (Z6 ρ a b m st₀) st:=by
 have h1:=h.ha
 have h1':=h.ha'
 have h2:=h.hb
 have h2':=h.hb'
 have h3:=h.hm
 obtain⟨x,e1,e2,e3⟩:=z4l (a:=b) (n:=nb) (by omega) h2'
 obtain⟨y,f1,f2,f3⟩:=z4l (a:=a) h1 h1'
 have h':=h.mi.pushB (by omega) h2' e1 λz hz=>Int.le_trans (z5N C.sa h1' f1 hz) (hx x y e1 f1)
 unfold hi3
 refine wpS_bind (z06 e1 ?_)
 by_cases c:(nb-1==1)=true
 ·rw[if_pos c]
  have c':nb-1=1:=by simpa using c
  exact wpS_pure ⟨S,.inl ⟨_,rfl,by rw[c']at h' ⊢;exact hf_b C (by omega) h'⟩⟩
 ·rw[if_neg c]
  have hb':1<nb-1:=by simp at c;omega
  refine wpS_bind (z06 f1 ?_)
  refine wpS_bind (z8U L (S.1.trans hk) (C.da y (List.mem_of_mem_take f2)) C.db (by omega) (by omega) (λi j u v hij hj hu hv=>z24 C.sb hij (by simpa using hu) (by simpa using hv)) λk k1 k2 k3=> ?_)
  simp only[Nat.zero_add]at k2 k3
  dsimp only
  by_cases hk0:nb-1-k>0
  ·rw[if_pos hk0]
   have h4:=h'.takeB (k:=k) k1 λz hz w hw=>by
    obtain⟨i,g1,g2,g3⟩:=z8W hz
    exact Int.le_trans (z5N C.sa h1' f1 hw) (k3 i z g1 g2 (by simpa using g3))
   by_cases d:(k==1)=true
   ·rw[if_pos d]
    obtain rfl:k=1:=by simpa using d
    exact wpS_pure ⟨S,.inl ⟨_,rfl,hf_b C (by omega) h4⟩⟩
   ·rw[if_neg d]
    by_cases d0:(k==0)=true
    ·rw[if_pos d0]
     obtain rfl:k=0:=by simpa using d0
     exact wpS_pure ⟨S,.inl ⟨_,rfl,hd_b h4⟩⟩
    ·rw[if_neg d0]
     have d':1<k:=by simp at d d0;omega
     refine zEx C ⟨h4,h1,h1',d',by omega,by omega⟩ S λu hu v hv=> ?_
     obtain rfl:y=u:=by rw[f1]at hu;exact Option.some.inj hu
     obtain⟨i,g1,g2⟩:=z0F hv
     exact Int.le_of_lt (k2 i v g1 (by simpa using g2))
  ·rw[if_neg hk0]
   obtain rfl:k=nb-1:=by omega
   refine zEx C ⟨h',h1,h1',hb',by omega,by omega⟩ S λu hu v hv=> ?_
   obtain rfl:y=u:=by rw[f1]at hu;exact Option.some.inj hu
   obtain⟨i,g1,g2⟩:=z0F hv
   exact Int.le_of_lt (k2 i v g1 (by simpa using g2))
theorem zEz(L:LtOk M A E s κ ρ Dm)(C:HiC ρ Dm a b){m mg ac bc:Nat}{st st₀:SortSt}(h:HiI ρ a b m out na nb)(S:Sm st₀ st)(hk:kindOf st₀=κ):wpS M A E s (hi2 a b mg ac bc out na nb) (Z6 ρ a b m st₀) st:=by
 have h1:=h.ha
 have h1':=h.ha'
 have h2:=h.hb
 have h2':=h.hb'
 have h3:=h.hm
 obtain⟨x,e1,e2,e3⟩:=z4l (a:=b) (n:=nb) (by omega) h2'
 unfold hi2
 refine wpS_bind (z77 λst1 S1=> ?_)
 have S:=S.trans S1
 refine wpS_bind (z06 e1 ?_)
 refine wpS_bind (z8V L (S.1.trans hk) (C.db x (List.mem_of_mem_take e2)) C.da (by omega) (by omega) (λi j u v hij hj hu hv=>z24 C.sa hij (by simpa using hu) (by simpa using hv)) λk k1 k2 k3=> ?_)
 simp only[Nat.zero_add]at k2 k3
 dsimp only
 by_cases hk0:na-k>0
 ·rw[if_pos hk0]
  have h4:=h.mi.takeA (k:=k) k1 λz hz w hw=>by
   obtain⟨i,g1,g2,g3⟩:=z8W hz
   exact Int.le_trans (z5N C.sb h2' e1 hw) (Int.le_of_lt (k3 i z g1 g2 (by simpa using g3)))
  by_cases c:(k==0)=true
  ·rw[if_pos c]
   obtain rfl:k=0:=by simpa using c
   exact wpS_pure ⟨S,.inl ⟨_,rfl,hd_a h4⟩⟩
  ·rw[if_neg c]
   have d':0<k:=by simp at c;omega
   refine zEy L C ⟨h4,d',by omega,h2,h2',by omega⟩ S hk λu v hu hv=> ?_
   obtain rfl:x=u:=by rw[e1]at hu;exact Option.some.inj hu
   exact k2 (k-1) v (by omega) hv
 ·rw[if_neg hk0]
  obtain rfl:k=na:=by omega
  refine zEy L C h S hk λu v hu hv=> ?_
  obtain rfl:x=u:=by rw[e1]at hu;exact Option.some.inj hu
  exact k2 (k-1) v (by omega) hv
def O5(ρ:KI)(a b:AK)(m:Nat)(c:U5):Prop:=(∃r,c.1=some r/\LoR ρ a b r)\/(c.1=none/\HiI ρ a b m c.2.2.2.1 c.2.1 c.2.2.1)
def Z5(ρ:KI)(a b:AK)(m:Nat)(st:SortSt)(r:ForInStep U5)(st':SortSt):Prop:=st'=st/\match r with| .done c=>O5 ρ a b m c| .yield c=>c.1=none/\HiI ρ a b m c.2.2.2.1 c.2.1 c.2.2.1
theorem zFZ(L:LtOk M A E s κ ρ Dm)(C:HiC ρ Dm a b){m mg ac bc:Nat}{st:SortSt}(hk:kindOf st=κ)(h:HiI ρ a b m out na nb):wpS M A E s (hi1 a b mg na nb out ac bc) (Z5 ρ a b (m+1) st) st:=by
 have h1:=h.ha
 have h1':=h.ha'
 have h2:=h.hb
 have h2':=h.hb'
 have h3:=h.hm
 obtain⟨x,e1,e2,e3⟩:=z4l (a:=b) (n:=nb) (by omega) h2'
 obtain⟨y,f1,f2,f3⟩:=z4l (a:=a) h1 h1'
 unfold hi1
 refine wpS_bind (z06 e1 (wpS_bind (z06 f1 ?_)))
 refine wpS_bind (L.lt (C.db x (List.mem_of_mem_take e2)) (C.da y (List.mem_of_mem_take f2)) hk ?_)
 dsimp only
 by_cases hw:ρ x<ρ y
 ·rw[decide_eq_true hw,if_pos rfl]
  refine wpS_bind (z06 f1 ?_)
  have h':=h.mi.pushA h1 h1' f1 λz hz=>Int.le_trans (z5N C.sb h2' e1 hz) (Int.le_of_lt hw)
  by_cases c:(na-1==0)=true
  ·rw[if_pos c]
   have c':na-1=0:=by simpa using c
   exact wpS_pure ⟨rfl,.inl ⟨_,rfl,by rw[c']at h' ⊢;exact hd_a h'⟩⟩
  ·rw[if_neg c]
   have i':HiI ρ a b (m+1) (out.push y) (na-1) nb:=⟨h',by simp at c;omega,by omega,h2,h2',by omega⟩
   by_cases d:ac+1>=mg
   ·rw[if_pos d];exact wpS_pure ⟨rfl,.inr ⟨rfl,i'⟩⟩
   ·rw[if_neg d];exact wpS_pure ⟨rfl,rfl,i'⟩
 ·rw[decide_eq_false hw,if_neg Bool.false_ne_true]
  refine wpS_bind (z06 e1 ?_)
  have h':=h.mi.pushB (by omega) h2' e1 λz hz=>Int.le_trans (z5N C.sa h1' f1 hz) (by omega)
  by_cases c:(nb-1==1)=true
  ·rw[if_pos c]
   have c':nb-1=1:=by simpa using c
   exact wpS_pure ⟨rfl,.inl ⟨_,rfl,by rw[c']at h' ⊢;exact hf_b C (by omega) h'⟩⟩
  ·rw[if_neg c]
   have i':HiI ρ a b (m+1) (out.push x) na (nb-1):=⟨h',h1,h1',by simp at c;omega,by omega,by omega⟩
   by_cases d:bc+1>=mg
   ·rw[if_pos d];exact wpS_pure ⟨rfl,.inr ⟨rfl,i'⟩⟩
   ·rw[if_neg d];exact wpS_pure ⟨rfl,rfl,i'⟩
theorem HiI.mono{m m':Nat}(h:HiI ρ a b m out na nb)(hm:m'<=m):HiI ρ a b m' out na nb:=⟨h.mi,h.ha,h.ha',h.hb,h.hb',by have:=h.hm;omega⟩
def Z4(ρ:KI)(a b:AK)(m:Nat)(st:SortSt)(r:ForInStep U4)(st':SortSt):Prop:=Sm st st'/\match r with| .done c=> ∃r,c.1=some r/\LoR ρ a b r| .yield c=>c.1=none/\HiI ρ a b m c.2.2.2.1 c.2.1 c.2.2.1
theorem zGa(L:LtOk M A E s κ ρ Dm)(C:HiC ρ Dm a b){m:Nat}{st st₀:SortSt}{c:U4}(S:Sm st₀ st)(hk:kindOf st₀=κ)(h:HiI ρ a b m c.2.2.2.1 c.2.1 c.2.2.1):wpS M A E s (hi8 a b c) (Z4 ρ a b (m+1) st₀) st:=by
 unfold hi8
 have h1:=h.ha
 have h1':=h.ha'
 refine wpS_bind (wpS_mono (wpS_forRange (I:=λx(c:U5)st'=>st'=st/\c.1=none/\HiI ρ a b (if x=0 then m else m+1) c.2.2.2.1 c.2.1 c.2.2.1) (Q:=λc st'=>st'=st/\O5 ρ a b (m+1) c) ?_ ?_ ⟨rfl,rfl,by rw[if_pos rfl];exact h⟩) ?_)
 ·rintro x d st' _ hx ⟨rfl,d1,d2⟩
  refine wpS_mono (zFZ L C (S.1.trans hk) (d2.mono (m':=m) (by split<;>omega))) λr st' hr=> ?_
  obtain⟨rfl,hr⟩:=hr
  cases r with
  | done c=>exact⟨rfl,hr⟩
  | yield c=>exact⟨rfl,hr.1,by rw[if_neg (by omega)];exact hr.2⟩
 ·rintro d st' ⟨rfl,d1,d2⟩
  refine⟨rfl,.inr ⟨d1,?_⟩⟩
  rw[if_neg (by omega)]at d2
  exact d2
 ·rintro⟨d0,d⟩ st' ⟨rfl,hd⟩
  unfold hi6
  rcases hd with⟨r,rfl,hr⟩|⟨rfl,hi⟩
  ·exact wpS_pure ⟨S,_,rfl,hr⟩
  ·dsimp only at hi ⊢
   refine wpS_bind (wpS_lift (wpAny_rule ⟨rfl,?_⟩))
   refine wpS_bind (wpS_mono (wpS_forRange (I:=λx(c:U6)st'=>Sm st₀ st'/\c.1=none/\HiI ρ a b (m+1) c.2.2.2.1 c.2.1 c.2.2.1) (Q:=λc st'=>Sm st₀ st'/\O6 ρ a b (m+1) c) ?_ ?_ ⟨S,rfl,hi⟩) ?_)
   ·rintro x d st' _ hx ⟨S',d1,d2⟩
    unfold hi5
    by_cases hg:d.2.2.2.2.1>1
    ·rw[if_pos hg]
     exact wpS_mono (zEz L C d2 S' hk) λr st'' hr=>by cases r<;>exact hr
    ·rw[if_neg hg]
     exact wpS_mono (zEz L C d2 S' hk) λr st'' hr=>by cases r<;>exact hr
   ·rintro d st' ⟨S',d1,d2⟩
    exact⟨S',.inr ⟨d1,d2⟩⟩
   ·rintro⟨e0,e⟩ st' ⟨S',he⟩
    unfold hi7
    rcases he with⟨r,rfl,hr⟩|⟨rfl,hi⟩
    ·exact wpS_pure ⟨S',_,rfl,hr⟩
    ·dsimp only
     refine wpS_bind (z77 λst1 S1=> ?_)
     exact wpS_pure ⟨S'.trans S1,rfl,hi⟩
theorem zGb(L:LtOk M A E s κ ρ Dm)(C:HiC ρ Dm a b){st:SortSt}{Q:AK->SortSt->Prop}(hk:kindOf st=κ)(ha:0<a.size)(hb:0<b.size)
  (h0: ∀x,a[a.size-1]? = some x-> ∀y∈b.toList,ρ y<=ρ x) (q: ∀r st',Sm st st'->LoR ρ a b r->Q r st'):wpS M A E s (mHi a b) Q st:=by
 rw[zEw]
 refine wpS_bind (wpS_lift (wpAny_rule ⟨rfl,?_⟩))
 obtain⟨x,e1,e2,e3⟩:=z4l (a:=a) (n:=a.size) ha (Nat.le_refl _)
 refine wpS_bind (z06 e1 ?_)
 have ta: ∀c:AK,c.toList.take c.size=c.toList:=λc=>List.take_of_length_le (by simp)
 have m0:HiM ρ a b #[] a.size b.size:=by
  refine⟨?_,by simp,?_,?_,by simp⟩
  ·rw[ta,ta];show(a.toList.reverse++b.toList.reverse).Perm _;exact List.Perm.append (List.reverse_perm _) (List.reverse_perm _)
  ·rw[ta,List.pairwise_reverse];exact C.sa
  ·rw[ta,List.pairwise_reverse];exact C.sb
 have h':HiM ρ a b #[x] (a.size-1) b.size:=m0.pushA ha (Nat.le_refl _) e1 λy hy=>h0 x e1 y (List.mem_of_mem_take hy)
 by_cases c:(a.size-1==0)=true
 ·rw[if_pos c]
  have c':a.size-1=0:=by simpa using c
  exact wpS_pure (q _ _ (Sm.refl _) (by rw[c']at h' ⊢;exact hd_a h'))
 ·rw[if_neg c]
  by_cases d:(b.size==1)=true
  ·rw[if_pos d]
   have d':b.size=1:=by simpa using d
   exact wpS_pure (q _ _ (Sm.refl _) (by rw[d']at h' ⊢;exact hf_b C (by omega) h'))
  ·rw[if_neg d]
   refine wpS_bind (wpS_get ?_)
   have c':0<a.size-1:=by simp at c;omega
   have d':1<b.size:=by simp at d;omega
   refine wpS_bind (wpS_mono (wpS_forRange (I:=λx(c:U4)st'=>Sm st st'/\c.1=none/\HiI ρ a b (x+1) c.2.2.2.1 c.2.1 c.2.2.1) (Q:=λc st'=>Sm st st'/\ ∃r,c.1=some r/\LoR ρ a b r) ?_ ?_ ⟨Sm.refl _,rfl,⟨h',c',Nat.sub_le _ _,d',Nat.le_refl _,by show 0+1+(a.size-1)+b.size<=_;omega⟩⟩) ?_)
   ·rintro x d st' _ hx ⟨S',d1,d2⟩
    exact wpS_mono (zGa L C S' hk d2) λr st'' hr=>by cases r<;>exact hr
   ·rintro d st' ⟨S',d1,d2⟩
    have h1:=d2.ha
    have h2:=d2.hb
    have h3:=d2.hm
    omega
   ·rintro⟨d0,d⟩ st' ⟨S',r,rfl,hr⟩
    exact wpS_pure (q r _ S' hr)
end
end Tim
namespace Tim
open PySem PyProof.Rows
variable{M:Model}{A:Around}{E:Value->Shared->Prop}{s:Shared}{κ:SortKind}{ρ:KI}{Dm:KP}
theorem zE0(i:Nat):mergeAt' i=(do
 let s <-get
 let (some (sa,na,power),some (sb,nb,_)):=((pendingOf s)[i]?,(pendingOf s)[i+1]?)|unsupported "internal:list.sort.pending"
 set (setPending s (((pendingOf s).setIfInBounds i (sa,na+nb,power)).eraseIdxIfInBounds (i+1)))
 let some k <-gal false (<-elem' (arrOf s) sb) (arrOf s) sa na 0|return false
 let (sa,na):=(sa+k,na-k)
 if na==0 then return true
 let some nb <-gal true (<-elem' (arrOf s) (sa+na-1)) (arrOf s) sb nb (nb-1)|return false
 if nb==0 then return true
 let x:=(arrOf s).extract sa sb
 let y:=(arrOf s).extract sb (sb+nb)
 let merged <-if na<=nb then mLo x y else mHi x y
 modify λs=>setArr s (merged.toList.zipIdx.foldl (λa(p,j)=>a.setIfInBounds (sa+j) p) (arrOf s))
 return (failedOf (<-get)).isNone):=rfl
theorem z8X(sa:Nat): ∀(l:LK)(j:Nat)(arr:AK)(U W V:LK),arr.toList=U++(W++V)->U.length=sa+j->W.length=l.length->
  ((l.zipIdx j).foldl (λa(p,j)=>a.setIfInBounds (sa+j) p) arr).toList=U++(l++V)
 | [],j,arr,U,W,V,h,hu,hw=>by
  obtain rfl:W=[]:=List.length_eq_zero_iff.mp hw
  exact h
 | x::l,j,arr,U,[],V,h,hu,hw=>by simp at hw
 | x::l,j,arr,U,w::W,V,h,hu,hw=>by
  rw[List.zipIdx_cons]
  have:=z8X sa l (j+1) (arr.setIfInBounds (sa+j) x) (U++[x]) W V (by
   rw[Array.toList_setIfInBounds,h,<-hu,List.set_append_right _ _ (Nat.le_refl _)];simp) (by simp;omega) (by simpa using hw)
  simpa using this
theorem zCm{arr:AK}{U A V:LK}(h:arr.toList=U++(A++V)){i:Nat}(hi:i<A.length):arr[U.length+i]? = A[i]? := by
 have:arr[U.length+i]? = arr.toList[U.length+i]? := by simp
 rw[this,h,List.getElem?_append_right (by omega),List.getElem?_append_left (by omega)]
 congr 1;omega
theorem z8Y{arr:AK}{U A V:LK}(h:arr.toList=U++(A++V)):(arr.extract U.length (U.length+A.length)).toList=A:=by
 rw[Array.toList_extract,List.extract_eq_drop_take,h]
 simp
theorem z78{R:Keyed->KP}{l l':LK}(h:l.Pairwise R)(h':l'.Pairwise R)(hh: ∀x∈l,∀y∈l',R x y):(l++l').Pairwise R:=List.pairwise_append.mpr ⟨h,h',hh⟩
theorem z8Z(L:LtOk M A E s κ ρ Dm){i p p':Nat}{st:SortSt}{U S B V:LK}{Q:Bool->SortSt->Prop}(hk:kindOf st=κ)(hf:failedOf st=none)(ha:(arrOf st).toList=U++(S++(B++V)))
  (hd: ∀x∈(arrOf st).toList,Dm x) (h1:(pendingOf st)[i]? = some (U.length,S.length,p)) (h2:(pendingOf st)[i+1]? = some (U.length+S.length,B.length,p')) (hS:S≠[]) (hB:B≠[]) (sS:S.Pairwise (le ρ)) (sB:B.Pairwise (le ρ))
  (q: ∀C st',C.Perm (S++B)->C.Pairwise (le ρ)->(arrOf st').toList=U++(C++V)->pendingOf st'=((pendingOf st).setIfInBounds i (U.length,S.length+B.length,p)).eraseIdxIfInBounds (i+1)->kindOf st'=κ->failedOf st'=none->Q true st'):
  wpS M A E s (mergeAt' i) Q st:=by
 have ha2:(arrOf st).toList=(U++S)++(B++V):=by rw[ha];simp
 have lUS:(U++S).length=U.length+S.length:=List.length_append
 have sz:(arrOf st).size=U.length+S.length+B.length+V.length:=by
  have:=congrArg List.length ha
  simp at this;omega
 have pS:0<S.length:=List.length_pos_iff.mpr hS
 have pB:0<B.length:=List.length_pos_iff.mpr hB
 have atS: ∀j,j<S.length->(arrOf st)[U.length+j]? = S[j]? := λj hj=>zCm ha hj
 have atB: ∀j,j<B.length->(arrOf st)[U.length+S.length+j]? = B[j]? := λj hj=>by rw[<-lUS];exact zCm ha2 hj
 have dmS: ∀x∈S,Dm x:=λx hx=>hd x (by rw[ha];simp[hx])
 have dmB: ∀x∈B,Dm x:=λx hx=>hd x (by rw[ha];simp[hx])
 rw[zE0]
 refine wpS_bind (wpS_get ?_)
 rw[h1,h2]
 dsimp only
 refine wpS_bind (wpS_modify (f:=λ_=>_) ?_)
 obtain⟨b0,hb0⟩: ∃b0,B[0]? = some b0:=⟨B[0],by simp[pB]⟩
 obtain⟨z,hz⟩: ∃z,S[S.length-1]? = some z:=⟨S[S.length-1],by simp⟩
 have lowB: ∀y∈B,ρ b0<=ρ y:=λy hy=>by
  obtain⟨j,hj,rfl⟩:=List.mem_iff_getElem.mp hy
  exact z24 sB (Nat.zero_le j) hb0 (by simp)
 have topS: ∀y∈S,ρ y<=ρ z:=λy hy=>by
  obtain⟨j,hj,rfl⟩:=List.mem_iff_getElem.mp hy
  exact z24 sS (show j<=S.length-1 by omega) (by simp) hz
 refine wpS_bind (z06 (x:=b0) (by have:=atB 0 pB;rw[Nat.add_zero]at this;rw[this];exact hb0) ?_)
 refine wpS_bind (z8V L hk (dmB b0 (List.mem_of_getElem? hb0)) hd (by omega) pS (λi j x y hij hj hx hy=>z24 sS hij (by rw[<-atS i (by omega)];exact hx) (by rw[<-atS j hj];exact hy)) λk k1 k2 k3=> ?_)
 dsimp only
 have k2': ∀x∈S.take k,ρ x<=ρ b0:=λx hx=>by
  obtain⟨j,g1,g2⟩:=z0F hx
  exact k2 j x g1 (by rw[atS j (by omega)];exact g2)
 by_cases c:(S.length-k==0)=true
 ·rw[if_pos c]
  have c':k=S.length:=by simp at c;omega
  refine wpS_pure (q (S++B) _ (List.Perm.refl _) (z78 sS sB λx hx y hy=>Int.le_trans (k2' x (by rw[c',List.take_length];exact hx)) (lowB y hy)) (by rw[List.append_assoc];exact ha) rfl hk hf)
 ·rw[if_neg c]
  have c':k<S.length:=by simp at c;omega
  refine wpS_bind (z06 (x:=z) (by have:=atS (S.length-1) (by omega);rw[show U.length+k+(S.length-k)-1=U.length+(S.length-1) by omega,this];exact hz) ?_)
  refine wpS_bind (z8U L hk (dmS z (List.mem_of_getElem? hz)) hd (by omega) (by omega) (λi j x y hij hj hx hy=>z24 sB hij (by rw[<-atB i (by omega)];exact hx) (by rw[<-atB j hj];exact hy)) λn n1 n2 n3=> ?_)
  dsimp only
  have n2': ∀x∈B.take n,ρ x<=ρ z:=λx hx=>by
   obtain⟨j,g1,g2⟩:=z0F hx
   exact Int.le_of_lt (n2 j x g1 (by rw[atB j (by omega)];exact g2))
  have n3': ∀x∈B.drop n,ρ z<=ρ x:=λx hx=>by
   obtain⟨j,hj,rfl⟩:=List.mem_iff_getElem.mp hx
   have hj':n+j<B.length:=by simp at hj;omega
   exact n3 (n+j) _ (by omega) hj' (by rw[atB _ hj',List.getElem_drop];simp)
  by_cases d:(n==0)=true
  ·rw[if_pos d]
   have d':n=0:=by simpa using d
   refine wpS_pure (q (S++B) _ (List.Perm.refl _) (z78 sS sB λx hx y hy=>Int.le_trans (topS x hx) (n3' y (by rw[d'];exact hy))) (by rw[List.append_assoc];exact ha) rfl hk hf)
  ·rw[if_neg d]
   have d':0<n:=by simp at d;omega
   have eX:((arrOf st).extract (U.length+k) (U.length+S.length)).toList=S.drop k:=by
    have h:=z8Y (arr:=arrOf st) (U:=U++S.take k) (A:=S.drop k) (V:=B++V) (by rw[ha,show S++(B++V)=(S.take k++S.drop k)++(B++V) by rw[List.take_append_drop]];simp only[List.append_assoc])
    have e1:(U++S.take k).length=U.length+k:=by simp;omega
    have e2:(U++S.take k).length+(S.drop k).length=U.length+S.length:=by simp;omega
    rw[e2,e1]at h;exact h
   have eY:((arrOf st).extract (U.length+S.length) (U.length+S.length+n)).toList=B.take n:=by
    have h:=z8Y (arr:=arrOf st) (U:=U++S) (A:=B.take n) (V:=B.drop n++V) (by rw[ha2,show B++V=(B.take n++B.drop n)++V by rw[List.take_append_drop]];simp only[List.append_assoc])
    have e2:(B.take n).length=n:=by simp;omega
    rw[e2,lUS]at h;exact h
   have szX:((arrOf st).extract (U.length+k) (U.length+S.length)).size=S.length-k:=by have:=congrArg List.length eX;simp at this ⊢;omega
   have szY:((arrOf st).extract (U.length+S.length) (U.length+S.length+n)).size=n:=by have:=congrArg List.length eY;simp at this ⊢;omega
   have fin: ∀(r:AK)st',Sm (setPending st (((pendingOf st).setIfInBounds i (U.length,S.length+B.length,p)).eraseIdxIfInBounds (i+1))) st'->Res (le ρ) (S.drop k++B.take n) r.toList->wpS M A E s (do
     modify λs=>setArr s (r.toList.zipIdx.foldl (λa(x:Keyed×Nat)=>a.setIfInBounds (U.length+k+x.2) x.1) (arrOf s))
     let s' <-get
     pure (failedOf s').isNone) Q st':=by
    intro r st' S' hr
    refine wpS_bind (wpS_modify (wpS_bind (wpS_get (wpS_pure ?_))))
    have hf':failedOf st'=none:=S'.2.2.2.trans hf
    show Q (failedOf st').isNone _
    rw[hf']
    have har:(arrOf st').toList=(U++S.take k)++((S.drop k++B.take n)++(B.drop n++V)):=by
     rw[S'.2.1]
     show(arrOf st).toList=_
     rw[ha,show S++(B++V)=(S.take k++S.drop k)++((B.take n++B.drop n)++V) by rw[List.take_append_drop,List.take_append_drop]]
     simp only[List.append_assoc]
    have hsz:(S.drop k++B.take n).length=r.toList.length:=hr.1.length_eq.symm
    have hset:=z8X (U.length+k) r.toList 0 (arrOf st') (U++S.take k) (S.drop k++B.take n) (B.drop n++V) har (by simp;omega) hsz
    have mem: ∀x∈r.toList,x∈S.drop k\/x∈B.take n:=λx hx=>List.mem_append.mp (hr.1.mem_iff.mp hx)
    refine q (S.take k++(r.toList++B.drop n)) _ ?_ ?_ ?_ S'.2.2.1 (S'.1.trans hk) hf'
    ·have:(S.take k++(r.toList++B.drop n)).Perm (S.take k++((S.drop k++B.take n)++B.drop n)):=List.Perm.append_left _ (List.Perm.append_right _ hr.1)
     refine this.trans (List.Perm.of_eq ?_)
     rw[show S++B=(S.take k++S.drop k)++(B.take n++B.drop n) by rw[List.take_append_drop,List.take_append_drop]]
     simp only[List.append_assoc]
    ·have sS':=sS
     rw[<-List.take_append_drop k S,List.pairwise_append]at sS'
     have sB':=sB
     rw[<-List.take_append_drop n B,List.pairwise_append]at sB'
     refine z78 sS'.1 (z78 hr.2 sB'.2.1 λx hx y hy=> ?_) λx hx y hy=> ?_
     ·rcases mem x hx with hx|hx
      ·exact Int.le_trans (topS x (List.mem_of_mem_drop hx)) (n3' y hy)
      ·exact sB'.2.2 x hx y hy
     ·rcases List.mem_append.mp hy with hy|hy
      ·rcases mem y hy with hy|hy
       ·exact sS'.2.2 x hx y hy
       ·exact Int.le_trans (k2' x hx) (lowB y (List.mem_of_mem_take hy))
      ·exact Int.le_trans (k2' x hx) (lowB y (List.mem_of_mem_drop hy))
    ·refine Eq.trans hset ?_
     simp
   have dX: ∀x∈((arrOf st).extract (U.length+k) (U.length+S.length)).toList,Dm x:=λx hx=>dmS x (by rw[eX]at hx;exact List.mem_of_mem_drop hx)
   have dY: ∀x∈((arrOf st).extract (U.length+S.length) (U.length+S.length+n)).toList,Dm x:=λx hx=>dmB x (by rw[eY]at hx;exact List.mem_of_mem_take hx)
   have pX:((arrOf st).extract (U.length+k) (U.length+S.length)).toList.Pairwise (le ρ):=by rw[eX];exact sS.drop
   have pY:((arrOf st).extract (U.length+S.length) (U.length+S.length+n)).toList.Pairwise (le ρ):=by rw[eY];exact sB.take
   have y0: ∀x,((arrOf st).extract (U.length+S.length) (U.length+S.length+n))[0]? = some x->x=b0:=λx hx=>by
    have:((arrOf st).extract (U.length+S.length) (U.length+S.length+n)).toList[0]? = some x:=by rw[Array.getElem?_toList];exact hx
    rw[eY,List.getElem?_take,if_pos d',hb0]at this
    exact(Option.some.inj this).symm
   have xs: ∀y∈((arrOf st).extract (U.length+k) (U.length+S.length)).toList,ρ b0<=ρ y:=λy hy=>by
    rw[eX]at hy
    obtain⟨j,hj,rfl⟩:=List.mem_iff_getElem.mp hy
    have hj':k+j<S.length:=by simp at hj;omega
    exact Int.le_of_lt (k3 (k+j) _ (by omega) hj' (by rw[atS _ hj',List.getElem_drop];simp))
   have xz: ∀w,((arrOf st).extract (U.length+k) (U.length+S.length)).toList.getLast? = some w->w=z:=λw hw=>by
    rw[eX,List.getLast?_eq_getElem?,List.getElem?_drop,List.length_drop,show k+(S.length-k-1)=S.length-1 by omega,hz]at hw
    exact(Option.some.inj hw).symm
   by_cases hle:S.length-k<=n
   ·rw[if_pos hle]
    refine wpS_bind (zFY L ⟨dX,dY,λw hw y hy=>by rw[xz w hw];exact n2' y (by rw[eY]at hy;exact hy)⟩ hk (by rw[szX];omega) (by rw[szY];omega) pX pY (λx y hx hy=> ?_) λr st' S' hr=> ?_)
    ·rw[y0 x hx];exact xs y (Array.mem_toList_iff.mpr (Array.mem_of_getElem? hy))
    ·exact fin r st' S' (by unfold LoR at hr;rw[eX,eY]at hr;exact hr)
   ·rw[if_neg hle]
    refine wpS_bind (zGb L ⟨dX,dY,pX,pY,λw hw y hy=>by rw[y0 w hw];exact xs y hy⟩ hk (by rw[szX];omega) (by rw[szY];omega) (λx hx y hy=> ?_) λr st' S' hr=> ?_)
    ·rw[xz x (by rw[List.getLast?_eq_getElem?,Array.length_toList,Array.getElem?_toList];exact hx)];exact n2' y (by rw[eY]at hy;exact hy)
    ·exact fin r st' S' (by unfold LoR at hr;rw[eX,eY]at hr;exact hr)
end Tim
namespace Tim
open PySem PyProof.Rows
variable{M:Model}{A:Around}{E:Value->Shared->Prop}{s:Shared}{κ:SortKind}{ρ:KI}{Dm:KP}
def rup(lo:Nat)(c:ON×Nat):SM (ForInStep (ON×Nat)):=do
 let some w <-ltAt' (lo+c.2) (lo+c.2-1)|pure (.done (some none,c.2))
 if w=true then pure (.done (none,c.2))else pure (.yield (none,c.2+1))
def rdn(lo:Nat)(c:ON×Nat×Nat):SM (ForInStep (ON×Nat×Nat)):=do
 let some w <-ltAt' (lo+c.2.1) (lo+c.2.1-1)|pure (.done (some none,c.2.1,c.2.2))
 if w=true then
  if c.2.2>0 then do
   reverseSlice' (lo+c.2.1-(c.2.2+1)) (lo+c.2.1)
   pure (.yield (none,c.2.1+1,0))
  else pure (.yield (none,c.2.1+1,0))
 else do
  let some v <-ltAt' (lo+c.2.1-1) (lo+c.2.1)|pure (.done (some none,c.2.1,c.2.2))
  if v=true then pure (.done (none,c.2.1,c.2.2))else pure (.yield (none,c.2.1+1,c.2.2+1))
def rend(lo nrem n:Nat):SM (Option Nat):=do
 reverseSlice' lo (lo+n)
 let c <-forIn [n:nrem] ((none,n):ON×Nat) λ_ c=>rup lo c
 match c.1 with
 | some r=>pure r
 | none=>pure (some c.2)
def rmid(lo nrem:Nat)(c:ON×Nat×Nat):SM (Option Nat):=match c.1 with
 | some r=>pure r
 | none=>if c.2.2>0 then do
   reverseSlice' (lo+c.2.1-(c.2.2+1)) (lo+c.2.1)
   rend lo nrem c.2.1
  else rend lo nrem c.2.1
def rfall(lo nrem n:Nat):SM (Option Nat):=do
 rule "list.sort.descending-run"
 let c <-forIn [n+1:nrem] ((none,n+1,0):ON×Nat×Nat) λ_ c=>rdn lo c
 rmid lo nrem c
theorem zC5(lo nrem:Nat):countRun' lo nrem=(do
  let c <-forIn [1:nrem] ((none,1):ON×Nat) λ_ c=>rup lo c
  match c.1 with
  | some r=>pure r
  | none=>
   if(c.2==nrem)=true then pure (some c.2)
   else if c.2>1 then do
    let some w <-ltAt' lo (lo+c.2-1)|pure none
    if w=true then pure (some c.2)else do
      reverseSlice' lo (lo+c.2)
      rfall lo nrem c.2
   else rfall lo nrem c.2):=by
 have key: ∀{α β:Type}{m m':SM α}{f f':α->SM β},m=m'->f=f'->m >>= f=m' >>= f':=λh1 h2=>by rw[h1,h2]
 rw[countRun'_eq]
 dsimp only
 refine key ?_ (funext λc=> ?_)
 ·refine congrArg _ (funext λ_=>funext λc=> ?_)
  unfold rup;rfl
 ·obtain⟨r,n⟩:=c
  cases r with
  | some r=>rfl
  | none=>
   dsimp only
   have e3: ∀(n:Nat)(f:Nat->ON×Nat->SM (ForInStep (ON×Nat)))(g:ON×Nat->SM (Option Nat)),f=(λ_ c=>rup lo c)->(∀c,g c=match c.1 with|some r=>pure r|none=>pure (some c.2))->(do
     reverseSlice' lo (lo+n)
     let c <-forIn [n:nrem] (none,n) f
     g c)=rend lo nrem n:=λn f g hf hg=>by
    subst hf
    unfold rend
    refine key rfl (funext λ_=>key rfl (funext λc=> ?_))
    rw[hg]
   refine congrArg _ ?_
   by_cases hn:n>1
   ·rw[if_pos hn,if_pos hn]
    refine key rfl (funext λx=> ?_)
    cases x with
    | none=>rfl
    | some w=>
     dsimp only
     refine congrArg _ (key rfl (funext λ_=> ?_))
     unfold rfall
     refine key rfl (funext λ_=>key ?_ (funext λc=> ?_))
     ·refine congrArg _ (funext λ_=>funext λc=> ?_)
      unfold rdn;rfl
     ·obtain⟨r,n,q⟩:=c
      cases r with
      | some r=>rfl
      | none=>
       unfold rmid
       dsimp only
       by_cases hq:q>0
       ·rw[if_pos hq,if_pos hq]
        refine key rfl (funext λ_=> ?_)
        exact e3 _ _ _ (funext λ_=>funext λc=>by unfold rup;rfl) λc=>by obtain⟨r,c⟩:=c;cases r<;>rfl
       ·rw[if_neg hq,if_neg hq]
        exact e3 _ _ _ (funext λ_=>funext λc=>by unfold rup;rfl) λc=>by obtain⟨r,c⟩:=c;cases r<;>rfl
   ·rw[if_neg hn,if_neg hn]
    unfold rfall
    refine key rfl (funext λ_=>key ?_ (funext λc=> ?_))
    ·refine congrArg _ (funext λ_=>funext λc=> ?_)
     unfold rdn;rfl
    ·obtain⟨r,n,q⟩:=c
     cases r with
     | some r=>rfl
     | none=>
      unfold rmid
      dsimp only
      by_cases hq:q>0
      ·rw[if_pos hq,if_pos hq]
       refine key rfl (funext λ_=> ?_)
       exact e3 _ _ _ (funext λ_=>funext λc=>by unfold rup;rfl) λc=>by obtain⟨r,c⟩:=c;cases r<;>rfl
      ·rw[if_neg hq,if_neg hq]
       exact e3 _ _ _ (funext λ_=>funext λc=>by unfold rup;rfl) λc=>by obtain⟨r,c⟩:=c;cases r<;>rfl
end Tim
namespace Tim
open PySem PyProof.Rows
variable{M:Model}{A:Around}{E:Value->Shared->Prop}{s:Shared}{κ:SortKind}{ρ:KI}{Dm:KP}
def ra(ρ:KI)(a:AK)(i:Nat):Int:=ρ (a.getD i (Value.none,Value.none))
theorem zAU{a:AK}{i:Nat}{x:Keyed}(h:a[i]? = some x):ra ρ a i=ρ x:=by
 unfold ra;rw[Array.getD_eq_getD_getElem?,h];rfl
theorem z2M{a b:AK}{i j:Nat}(h:a[i]? = b[j]?):ra ρ a i=ra ρ b j:=by
 unfold ra;rw[Array.getD_eq_getD_getElem?,Array.getD_eq_getD_getElem?,h]
structure BI(lo:Nat)(st₀ st:SortSt):Prop where
 kd:kindOf st=kindOf st₀
 pd:pendingOf st=pendingOf st₀
 fl:failedOf st=failedOf st₀
 perm:(arrOf st).Perm (arrOf st₀)
 pre: ∀i,i<lo->(arrOf st)[i]? = (arrOf st₀)[i]?
theorem BI.refl(lo:Nat)(st:SortSt):BI lo st st:=⟨rfl,rfl,rfl,Array.Perm.refl _,λ_ _=>rfl⟩
theorem BI.size{lo:Nat}{st₀ st:SortSt}(h:BI lo st₀ st):(arrOf st).size=(arrOf st₀).size:=by
 have:=(Array.perm_iff_toList_perm.mp h.perm).length_eq
 simpa using this
theorem BI.mem{lo:Nat}{st₀ st:SortSt}(h:BI lo st₀ st){x:Keyed}(hx:x∈(arrOf st).toList):x∈(arrOf st₀).toList:=(Array.perm_iff_toList_perm.mp h.perm).mem_iff.mp hx
theorem BI.set{lo:Nat}{st₀ st:SortSt}(h:BI lo st₀ st){xs:AK}(hp:xs.Perm (arrOf st))(he: ∀i,i<lo->xs[i]? = (arrOf st)[i]?):BI lo st₀ (setArr st xs):=
 ⟨h.kd,h.pd,h.fl,hp.trans h.perm,λi hi=>(he i hi).trans (h.pre i hi)⟩
section
variable{lo:Nat}{st₀ st:SortSt}
theorem z5O(L:LtOk M A E s κ ρ Dm)(hd: ∀x∈(arrOf st₀).toList,Dm x)(hk:kindOf st₀=κ)(B:BI lo st₀ st){i j:Nat}{Q:Option Bool->SortSt->Prop}(hi:i<(arrOf st₀).size)(hj:j<(arrOf st₀).size)
  (q:Q (some (decide (ra ρ (arrOf st) i<ra ρ (arrOf st) j))) st):wpS M A E s (ltAt' i j) Q st:=by
 have hz:=B.size
 obtain⟨x,hx⟩: ∃x,(arrOf st)[i]? = some x:=⟨(arrOf st)[i]'(by omega),by simp⟩
 obtain⟨y,hy⟩: ∃y,(arrOf st)[j]? = some y:=⟨(arrOf st)[j]'(by omega),by simp⟩
 rw[ltAt'_eq]
 refine wpS_bind (wpS_get ?_)
 dsimp only
 refine wpS_bind (z06 hx (wpS_bind (z06 hy ?_)))
 rw[zAU hx,zAU hy]at q
 exact L.lt (hd x (B.mem (Array.mem_toList_iff.mpr (Array.mem_of_getElem? hx)))) (hd y (B.mem (Array.mem_toList_iff.mpr (Array.mem_of_getElem? hy)))) (B.kd.trans hk) q
theorem zC6(B:BI lo st₀ st){i j:Nat}{Q:Unit->SortSt->Prop}(hi:lo<=i)(hj:j<=(arrOf st₀).size)
  (q: ∀st',BI lo st₀ st'->(∀k,ra ρ (arrOf st') k=if i<=k/\k<j then ra ρ (arrOf st) (i+j-1-k)else ra ρ (arrOf st) k)->Q () st'):wpS M A E s (reverseSlice' i j) Q st:=by
 have hj':j<=(arrOf st).size:=by rw[B.size];exact hj
 rw[reverseSlice'_eq]
 refine wpS_modify (q _ (B.set (mirror_perm _ _ _ _) λk hk=> ?_) λk=> ?_)
 ·rw[getElem?_mirror_all hj',if_neg (by omega)]
 ·have e:=getElem?_mirror_all (i:=i) hj' k
  show ra ρ (mirror (arrOf st) i j ((j-i)/2)) k=_
  by_cases h:i<=k/\k<j
  ·rw[if_pos h]at e ⊢;exact z2M e
  ·rw[if_neg h]at e ⊢;exact z2M e
def Up(ρ:KI)(a:AK)(lo n:Nat):Prop:= ∀i j,i<=j->j<n->ra ρ a (lo+i)<=ra ρ a (lo+j)
def Dw(ρ:KI)(a:AK)(lo n:Nat):Prop:= ∀i j,i<=j->j<n->ra ρ a (lo+j)<=ra ρ a (lo+i)
theorem Up.more{a:AK}{n:Nat}(h:Up ρ a lo n)(h1:1<=n)(e:ra ρ a (lo+n-1)<=ra ρ a (lo+n)):Up ρ a lo (n+1):=λi j hij hj=>by
 by_cases hjm:j<n
 ·exact h i j hij hjm
 ·obtain rfl:j=n:=by omega
  by_cases hi:i=j
  ·subst hi;exact Int.le_refl _
  ·have:=h i (j-1) (by omega) (by omega)
   rw[show lo+(j-1)=lo+j-1 by omega]at this
   exact Int.le_trans this e
theorem Dw.more{a:AK}{n:Nat}(h:Dw ρ a lo n)(h1:1<=n)(e:ra ρ a (lo+n)<=ra ρ a (lo+n-1)):Dw ρ a lo (n+1):=λi j hij hj=>by
 by_cases hjm:j<n
 ·exact h i j hij hjm
 ·obtain rfl:j=n:=by omega
  by_cases hi:i=j
  ·subst hi;exact Int.le_refl _
  ·have:=h i (j-1) (by omega) (by omega)
   rw[show lo+(j-1)=lo+j-1 by omega]at this
   exact Int.le_trans e this
theorem zCn(L:LtOk M A E s κ ρ Dm)(hd: ∀x∈(arrOf st₀).toList,Dm x)(hk:kindOf st₀=κ)(B:BI lo st₀ st){n nrem:Nat}{Q:ON×Nat->SortSt->Prop}(h1:1<=n)(hn:n<=nrem)(hz:lo+nrem<=(arrOf st₀).size)(hu:Up ρ (arrOf st) lo n)
  (q: ∀m,n<=m->m<=nrem->Up ρ (arrOf st) lo m->(m<nrem->ra ρ (arrOf st) (lo+m)<ra ρ (arrOf st) (lo+m-1))->Q (none,m) st):
  wpS M A E s (forIn [n:nrem] ((none,n):ON×Nat) λ_ c=>rup lo c) Q st:=by
 refine wpS_forRange (I:=λx c st'=>st'=st/\c=(none,x)/\Up ρ (arrOf st) lo x) ?_ ?_ ⟨rfl,rfl,hu⟩
 ·rintro x c st' h2 h3 ⟨rfl,rfl,hx⟩
  unfold rup
  dsimp only
  refine wpS_bind (z5O L hd hk B (by omega) (by omega) ?_)
  dsimp only
  by_cases c:ra ρ (arrOf st') (lo+x)<ra ρ (arrOf st') (lo+x-1)
  ·rw[decide_eq_true c,if_pos rfl]
   exact wpS_pure (q x h2 (by omega) hx λ_=>c)
  ·rw[decide_eq_false c,if_neg Bool.false_ne_true]
   exact wpS_pure ⟨rfl,rfl,hx.more (by omega) (by omega)⟩
 ·rintro c st' ⟨rfl,rfl,hx⟩
  rw[show max n nrem=nrem by omega]at hx ⊢
  exact q nrem hn (Nat.le_refl _) hx λh=>absurd h (Nat.lt_irrefl _)
theorem zCo(L:LtOk M A E s κ ρ Dm)(hd: ∀x∈(arrOf st₀).toList,Dm x)(hk:kindOf st₀=κ)(B:BI lo st₀ st){n nrem:Nat}{Q:Option Nat->SortSt->Prop}(h1:1<=n)(hn:n<=nrem)(hz:lo+nrem<=(arrOf st₀).size)(hw:Dw ρ (arrOf st) lo n)
  (q: ∀m st',BI lo st₀ st'->1<=m->m<=nrem->Up ρ (arrOf st') lo m->Q (some m) st'):wpS M A E s (rend lo nrem n) Q st:=by
 unfold rend
 refine wpS_bind (zC6 (ρ:=ρ) B (Nat.le_refl _) (by omega) λst' B' hr=> ?_)
 refine wpS_bind (zCn L hd hk B' h1 hn hz (λi j hij hj=> ?_) λm m1 m2 m3 _=>wpS_pure (q m st' B' (by omega) m2 m3))
 rw[hr,hr,if_pos (by omega),if_pos (by omega),show lo+(lo+n)-1-(lo+i)=lo+(n-1-i) by omega,show lo+(lo+n)-1-(lo+j)=lo+(n-1-j) by omega]
 exact hw _ _ (by omega) (by omega)
def Lk(ρ:KI)(a:AK)(lo n q:Nat):Prop:=q+1<=n/\ ∀k,n-(q+1)<=k->k<n->ra ρ a (lo+k)=ra ρ a (lo+n-1)
theorem zCp(B:BI lo st₀ st){n p:Nat}{Q:Unit->SortSt->Prop}(hj:lo+n<=(arrOf st₀).size)(hl:Lk ρ (arrOf st) lo n p)
  (q: ∀st',BI lo st₀ st'->(∀k,ra ρ (arrOf st') k=ra ρ (arrOf st) k)->Q () st'):wpS M A E s (reverseSlice' (lo+n-(p+1)) (lo+n)) Q st:=by
 have h1:=hl.1
 refine zC6 (ρ:=ρ) B (by omega) hj λst' B' hr=>q st' B' λk=> ?_
 rw[hr]
 by_cases h:lo+n-(p+1)<=k/\k<lo+n
 ·rw[if_pos h]
  have e1:=hl.2 (k-lo) (by omega) (by omega)
  have e2:=hl.2 (lo+n-(p+1)+(lo+n)-1-k-lo) (by omega) (by omega)
  rw[show lo+(k-lo)=k by omega]at e1
  rw[show lo+(lo+n-(p+1)+(lo+n)-1-k-lo)=lo+n-(p+1)+(lo+n)-1-k by omega]at e2
  rw[e1,e2]
 ·rw[if_neg h]
theorem z9a(L:LtOk M A E s κ ρ Dm)(hd: ∀x∈(arrOf st₀).toList,Dm x)(hk:kindOf st₀=κ)(B:BI lo st₀ st){n nrem:Nat}{Q:Option Nat->SortSt->Prop}(h1:1<=n)(hn:n<nrem)(hz:lo+nrem<=(arrOf st₀).size)(hw:Dw ρ (arrOf st) lo n)(hl:ra ρ (arrOf st) (lo+n)<ra ρ (arrOf st) (lo+n-1))
  (q: ∀m st',BI lo st₀ st'->1<=m->m<=nrem->Up ρ (arrOf st') lo m->Q (some m) st'):wpS M A E s (rfall lo nrem n) Q st:=by
 unfold rfall
 refine wpS_bind (wpS_lift (wpAny_rule ⟨rfl,?_⟩))
 refine wpS_bind (wpS_mono (wpS_forRange (I:=λx c st'=>BI lo st₀ st'/\ ∃p,c=(none,x,p)/\Dw ρ (arrOf st') lo x/\Lk ρ (arrOf st') lo x p)
  (Q:=λc st'=>BI lo st₀ st'/\ ∃n p,c=(none,n,p)/\1<=n/\n<=nrem/\Dw ρ (arrOf st') lo n/\Lk ρ (arrOf st') lo n p) ?_ ?_ ⟨B,0,rfl,hw.more h1 (Int.le_of_lt hl),by omega,λk a b=>by rw[show lo+k=lo+(n+1)-1 by omega]⟩) ?_)
 ·rintro x c st' h2 h3 ⟨B',p,rfl,dw,lk⟩
  have lk1:=lk.1
  unfold rdn
  dsimp only
  refine wpS_bind (z5O L hd hk B' (by omega) (by omega) ?_)
  dsimp only
  by_cases c:ra ρ (arrOf st') (lo+x)<ra ρ (arrOf st') (lo+x-1)
  ·rw[decide_eq_true c,if_pos rfl]
   by_cases hp:p>0
   ·rw[if_pos hp]
    refine wpS_bind (zCp B' (by omega) lk λst2 B2 e=>wpS_pure ⟨B2,0,rfl,λi j hij hj=> ?_,by omega,λk a b=>by rw[show lo+k=lo+(x+1)-1 by omega]⟩)
    rw[e,e]
    exact dw.more (by omega) (Int.le_of_lt c) i j hij hj
   ·rw[if_neg hp]
    exact wpS_pure ⟨B',0,rfl,dw.more (by omega) (Int.le_of_lt c),by omega,λk a b=>by rw[show lo+k=lo+(x+1)-1 by omega]⟩
  ·rw[decide_eq_false c,if_neg Bool.false_ne_true]
   refine wpS_bind (z5O L hd hk B' (by omega) (by omega) ?_)
   dsimp only
   by_cases d:ra ρ (arrOf st') (lo+x-1)<ra ρ (arrOf st') (lo+x)
   ·rw[decide_eq_true d,if_pos rfl]
    exact wpS_pure ⟨B',x,p,rfl,by omega,by omega,dw,lk⟩
   ·rw[decide_eq_false d,if_neg Bool.false_ne_true]
    have e:ra ρ (arrOf st') (lo+x)=ra ρ (arrOf st') (lo+x-1):=by omega
    refine wpS_pure ⟨B',p+1,rfl,dw.more (by omega) (Int.le_of_eq e),by omega,λk a b=> ?_⟩
    rw[show lo+(x+1)-1=lo+x by omega]
    by_cases hkx:k=x
    ·rw[hkx]
    ·rw[e];exact lk.2 k (by omega) (by omega)
 ·rintro c st' ⟨B',p,rfl,dw,lk⟩
  rw[show max (n+1) nrem=nrem by omega]at dw lk ⊢
  exact⟨B',nrem,p,rfl,by omega,Nat.le_refl _,dw,lk⟩
 ·rintro c st' ⟨B',n,p,rfl,g1,g2,dw,lk⟩
  unfold rmid
  dsimp only
  by_cases hp:p>0
  ·rw[if_pos hp]
   exact wpS_bind (zCp B' (by omega) lk λst2 B2 e=>zCo L hd hk B2 g1 g2 hz (λi j hij hj=>by rw[e,e];exact dw i j hij hj) q)
  ·rw[if_neg hp]
   exact zCo L hd hk B' g1 g2 hz dw q
theorem zC7(L:LtOk M A E s κ ρ Dm)(hd: ∀x∈(arrOf st₀).toList,Dm x)(hk:kindOf st₀=κ){nrem:Nat}{Q:Option Nat->SortSt->Prop}(h1:1<=nrem)(hz:lo+nrem<=(arrOf st₀).size)
  (q: ∀m st',BI lo st₀ st'->1<=m->m<=nrem->Up ρ (arrOf st') lo m->Q (some m) st'):wpS M A E s (countRun' lo nrem) Q st₀:=by
 have B:=BI.refl lo st₀
 rw[zC5]
 refine wpS_bind (zCn L hd hk B (Nat.le_refl 1) h1 hz (λi j hij hj=>by rw[show i=j by omega];exact Int.le_refl _) λn n1 n2 n3 n4=> ?_)
 dsimp only
 by_cases c:(n==nrem)=true
 ·rw[if_pos c]
  exact wpS_pure (q n st₀ B n1 n2 n3)
 ·rw[if_neg c]
  have c':n<nrem:=by simp at c;omega
  by_cases d:n>1
  ·rw[if_pos d]
   refine wpS_bind (z5O L hd hk B (by omega) (by omega) ?_)
   dsimp only
   by_cases r:ra ρ (arrOf st₀) lo<ra ρ (arrOf st₀) (lo+n-1)
   ·rw[decide_eq_true r,if_pos rfl]
    exact wpS_pure (q n st₀ B n1 n2 n3)
   ·rw[decide_eq_false r,if_neg Bool.false_ne_true]
    have al: ∀i,i<n->ra ρ (arrOf st₀) (lo+i)=ra ρ (arrOf st₀) (lo+n-1):=λi hi=>by
     have e1:=n3 0 i (by omega) hi
     have e2:=n3 i (n-1) (by omega) (by omega)
     rw[show lo+(n-1)=lo+n-1 by omega]at e2
     rw[Nat.add_zero]at e1
     omega
    refine wpS_bind (zC6 (ρ:=ρ) B (Nat.le_refl _) (by omega) λst' B' e=> ?_)
    have al': ∀i,i<n->ra ρ (arrOf st') (lo+i)=ra ρ (arrOf st₀) (lo+n-1):=λi hi=>by
     rw[e,if_pos (by omega),show lo+(lo+n)-1-(lo+i)=lo+(n-1-i) by omega]
     exact al _ (by omega)
    refine z9a L hd hk B' n1 c' hz (λi j hij hj=>by rw[al' i (by omega),al' j hj];exact Int.le_refl _) ?_ q
    have e1:=al' (n-1) (by omega)
    rw[show lo+(n-1)=lo+n-1 by omega]at e1
    rw[e1,e,if_neg (by omega)]
    exact n4 c'
  ·rw[if_neg d]
   obtain rfl:n=1:=by omega
   exact z9a L hd hk B n1 c' hz (λi j hij hj=>by rw[show i=j by omega];exact Int.le_refl _) (n4 c') q
end
end Tim
namespace Tim
open PySem PyProof.Rows
variable{M:Model}{A:Around}{E:Value->Shared->Prop}{s:Shared}{κ:SortKind}{ρ:KI}{Dm:KP}
variable{lo:Nat}{st₀ st:SortSt}
theorem zE1(B:BI lo st₀ st){k l:Nat}{Q:Unit->SortSt->Prop}(hl:l<=k)(hk:lo+k<(arrOf st₀).size)
  (q: ∀st',BI lo st₀ st'->(∀i,ra ρ (arrOf st') (lo+i)=if i=l then ra ρ (arrOf st) (lo+k)else if l<i/\i<=k then ra ρ (arrOf st) (lo+i-1)else ra ρ (arrOf st) (lo+i))->Q () st'):wpS M A E s (moveDown' (lo+k) (lo+l)) Q st:=by
 have hz:=B.size
 have e:=getElem?_bubble (xs:=arrOf st) (src:=lo+k) (by omega) (lo+k-(lo+l)) (by omega)
 rw[moveDown'_eq]
 refine wpS_modify (q _ (B.set (bubble_perm _ _ _) λi hi=> ?_) λi=> ?_)
 ·rw[e,if_neg (by omega),if_neg (by omega)]
 ·show ra ρ (bubble (arrOf st) (lo+k) (lo+k-(lo+l))) (lo+i)=_
  have e:=e (lo+i)
  by_cases h1:i=l
  ·rw[if_pos (by omega)]at e;rw[if_pos h1];exact z2M e
  ·rw[if_neg (by omega)]at e;rw[if_neg h1]
   by_cases h2:l<i/\i<=k
   ·rw[if_pos (by omega)]at e;rw[if_pos h2];exact z2M e
   ·rw[if_neg (by omega)]at e;rw[if_neg h2];exact z2M e
theorem zGc(L:LtOk M A E s κ ρ Dm)(hd: ∀x∈(arrOf st₀).toList,Dm x)(hk:kindOf st₀=κ)(B:BI lo st₀ st){n ok:Nat}{Q:Bool->SortSt->Prop}(hok:1<=ok)(hn:ok<=n)(hz:lo+n<=(arrOf st₀).size)(hu:Up ρ (arrOf st) lo ok)
  (q: ∀st',BI lo st₀ st'->Up ρ (arrOf st') lo n->Q true st'):wpS M A E s (binarySort' lo n ok) Q st:=by
 rw[binarySort'_eq]
 refine wpS_bind (wpS_mono (wpS_forRange (I:=λk c st'=>c=(none,())/\BI lo st₀ st'/\Up ρ (arrOf st') lo k) (Q:=λc st'=>c=(none,())/\BI lo st₀ st'/\Up ρ (arrOf st') lo n) ?_ ?_ ⟨rfl,B,by rw[show max ok 1=ok by omega];exact hu⟩) ?_)
 ·rintro k c st1 h1 h2 ⟨rfl,B1,u1⟩
  dsimp only
  refine wpS_bind (wpS_mono (wpS_forRange (I:=λx c st'=>st'=st1/\ ∃l r,c=(none,l,r)/\l<=r/\r<=k/\(∀i,i<l->ra ρ (arrOf st1) (lo+i)<=ra ρ (arrOf st1) (lo+k))/\(∀i,r<=i->i<k->ra ρ (arrOf st1) (lo+k)<=ra ρ (arrOf st1) (lo+i))/\r-l<=k-x)
   (Q:=λc st'=>st'=st1/\ ∃l,c=(none,l,l)/\l<=k/\(∀i,i<l->ra ρ (arrOf st1) (lo+i)<=ra ρ (arrOf st1) (lo+k))/\(∀i,l<=i->i<k->ra ρ (arrOf st1) (lo+k)<=ra ρ (arrOf st1) (lo+i))) ?_ ?_ ⟨rfl,0,k,rfl,by omega,by omega,λi hi=>by omega,λi a b=>by omega,by omega⟩) ?_)
  ·rintro x c st2 h3 h4 ⟨rfl,l,r,rfl,g1,g2,g3,g4,g5⟩
   dsimp only
   by_cases c:l>=r
   ·rw[if_pos c]
    obtain rfl:l=r:=by omega
    exact wpS_pure ⟨rfl,l,rfl,g2,g3,g4⟩
   ·rw[if_neg c]
    refine wpS_bind (z5O L hd hk B1 (by omega) (by omega) ?_)
    dsimp only
    by_cases d:ra ρ (arrOf st2) (lo+k)<ra ρ (arrOf st2) (lo+(l+r)/2)
    ·rw[decide_eq_true d,if_pos rfl]
     exact wpS_pure ⟨rfl,l,(l+r)/2,rfl,by omega,by omega,g3,λi a b=>Int.le_trans (Int.le_of_lt d) (u1 _ _ a b),by omega⟩
    ·rw[decide_eq_false d,if_neg Bool.false_ne_true]
     exact wpS_pure ⟨rfl,(l+r)/2+1,r,rfl,by omega,by omega,λi a=>Int.le_trans (u1 i ((l+r)/2) (by omega) (by omega)) (by omega),g4,by omega⟩
  ·rintro c st2 ⟨rfl,l,r,rfl,g1,g2,g3,g4,g5⟩
   obtain rfl:l=r:=by omega
   exact⟨rfl,l,rfl,g2,g3,g4⟩
  ·rintro c st2 ⟨rfl,l,rfl,g2,g3,g4⟩
   dsimp only
   refine wpS_bind (zE1 (ρ:=ρ) B1 g2 (by omega) λst3 B3 e=>wpS_pure ⟨rfl,B3,λi j hij hj=> ?_⟩)
   rw[e,e]
   by_cases i1:i=l
   ·rw[if_pos i1]
    by_cases j1:j=l
    ·rw[if_pos j1];exact Int.le_refl _
    ·rw[if_neg j1,if_pos (by omega),show lo+j-1=lo+(j-1) by omega]
     exact g4 _ (by omega) (by omega)
   ·rw[if_neg i1]
    by_cases i2:l<i/\i<=k
    ·rw[if_pos i2,if_neg (by omega),if_pos (by omega),show lo+i-1=lo+(i-1) by omega,show lo+j-1=lo+(j-1) by omega]
     exact u1 _ _ (by omega) (by omega)
    ·rw[if_neg i2]
     by_cases j1:j=l
     ·rw[if_pos j1];exact g3 i (by omega)
     ·rw[if_neg j1]
      by_cases j2:l<j/\j<=k
      ·rw[if_pos j2,show lo+j-1=lo+(j-1) by omega]
       exact u1 _ _ (by omega) (by omega)
      ·rw[if_neg j2]
       exact u1 _ _ hij (by omega)
 ·rintro c st' ⟨rfl,B',u'⟩
  rw[show max (max ok 1) n=n by omega]at u'
  exact⟨rfl,B',u'⟩
 ·rintro c st' ⟨rfl,B',u'⟩
  exact wpS_pure (q st' B' u')
end Tim
namespace Tim
open PySem PyProof.Rows
variable{M:Model}{A:Around}{E:Value->Shared->Prop}{s:Shared}{κ:SortKind}{ρ:KI}{Dm:KP}{T:LK}
def PR:Nat->List (Nat×Nat×Nat)->List (LK)->Prop
 | _,[],[]=>True
 | b,p::ps,r::rs=>p.1=b/\p.2.1=r.length/\PR (b+r.length) ps rs
 | _,_,_=>False
theorem PR.len: ∀{b:Nat}{ps:List (Nat×Nat×Nat)}{rs:List (LK)},PR b ps rs->ps.length=rs.length
 | _,[],[],_=>rfl
 | _,p::ps,r::rs,h=>congrArg (· + 1) h.2.2.len
 | _,[],_::_,h=>h.elim
 | _,_::_,[],h=>h.elim
theorem PR.push: ∀{b:Nat}{ps:List (Nat×Nat×Nat)}{rs:List (LK)}{r:LK}{w:Nat},PR b ps rs->PR b (ps++[(b+rs.flatten.length,r.length,w)]) (rs++[r])
 | b,[],[],r,w,_=>⟨rfl,rfl,trivial⟩
 | b,p::ps,q::rs,r,w,h=>by
  refine⟨h.1,h.2.1,?_⟩
  have:=h.2.2.push (r:=r) (w:=w)
  rw[List.flatten_cons,List.length_append,<-Nat.add_assoc]
  exact this
 | _,[],_::_,_,_,h=>h.elim
 | _,_::_,[],_,_,h=>h.elim
theorem PR.modify{f:Nat×Nat×Nat->Nat×Nat×Nat}(hf: ∀e,(f e).1=e.1/\(f e).2.1=e.2.1): ∀{b:Nat}{ps:List (Nat×Nat×Nat)}{rs:List (LK)}(k:Nat),PR b ps rs->PR b (ps.modify k f) rs
 | b,[],[],k,_=>by rw[List.modify_nil];trivial
 | b,p::ps,r::rs,0,h=>by rw[List.modify_zero_cons];exact⟨(hf p).1.trans h.1,(hf p).2.trans h.2.1,h.2.2⟩
 | b,p::ps,r::rs,k+1,h=>by rw[List.modify_succ_cons];exact⟨h.1,h.2.1,h.2.2.modify hf k⟩
 | _,[],_::_,_,h=>h.elim
 | _,_::_,[],_,h=>h.elim
theorem PR.split: ∀{b:Nat}{ps:List (Nat×Nat×Nat)}{rs:List (LK)}(i:Nat),PR b ps rs->i+1<ps.length-> ∃ps1 p q ps2 rs1 S B rs2,ps=ps1++p::q::ps2/\rs=rs1++S::B::rs2/\ps1.length=i/\p.1=b+rs1.flatten.length/\p.2.1=S.length/\q.1=b+rs1.flatten.length+S.length/\q.2.1=B.length/\
  ∀(C:LK)(w:Nat),C.length=S.length+B.length->PR b (ps1++(b+rs1.flatten.length,S.length+B.length,w)::ps2) (rs1++C::rs2)
 | b,p::q::ps,r::u::rs,0,h,_=>⟨[],p,q,ps,[],r,u,rs,rfl,rfl,rfl,h.1,h.2.1,h.2.2.1,h.2.2.2.1,λC w hC=>⟨rfl,hC.symm,by rw[hC,<-Nat.add_assoc];exact h.2.2.2.2⟩⟩
 | b,p::ps,r::rs,i+1,h,hi=>by
  obtain⟨ps1,p',q,ps2,rs1,S,B,rs2,e1,e2,e3,e4,e5,e6,e7,e8⟩:=h.2.2.split i (by simpa using hi)
  refine⟨p::ps1,p',q,ps2,r::rs1,S,B,rs2,by rw[e1];rfl,by rw[e2];rfl,by simp[e3],?_,e5,?_,e7,λC w hC=>⟨h.1,h.2.1,?_⟩⟩
  ·rw[e4,List.flatten_cons,List.length_append];omega
  ·rw[e6,List.flatten_cons,List.length_append];omega
  ·have:=e8 C w hC
   rw[List.flatten_cons,List.length_append,<-Nat.add_assoc]
   exact this
 | _,[],[],_,_,hi=>by simp at hi
 | _,[_],[_],0,_,hi=>by simp at hi
 | _,[_],_::_::_,0,h,hi=>by simp at hi
 | _,_::_::_,[_],0,h,hi=>h.2.2.elim
 | _,[],_::_,_,h,_=>h.elim
 | _,_::_,[],_,h,_=>h.elim
structure RI(ρ:KI)(T:LK)(κ:SortKind)(lo:Nat)(V:LK)(st:SortSt):Prop where
 kd:kindOf st=κ
 fl:failedOf st=none
 perm:(arrOf st).toList.Perm T
 run: ∃rs:List (LK),(arrOf st).toList=rs.flatten++V/\rs.flatten.length=lo/\PR 0 (pendingOf st).toList rs/\ ∀r∈rs,r≠[]/\r.Pairwise (le ρ)
theorem RI.pw{lo:Nat}{V:LK}{st:SortSt}(h:RI ρ T κ lo V st)(k:Nat)(f:Nat×Nat×Nat->Nat×Nat×Nat)(hf: ∀e,(f e).1=e.1/\(f e).2.1=e.2.1):RI ρ T κ lo V (setPending st ((pendingOf st).modify k f)):=by
 obtain⟨rs,h1,h2,h3,h4⟩:=h.run
 refine⟨h.kd,h.fl,h.perm,rs,h1,h2,?_,h4⟩
 show PR 0 ((pendingOf st).modify k f).toList rs
 rw[Array.toList_modify]
 exact h3.modify hf k
theorem RI.push{lo n:Nat}{V:LK}{st:SortSt}(h:RI ρ T κ lo V st)(h1:1<=n)(hn:n<=V.length)(hs:(V.take n).Pairwise (le ρ)):RI ρ T κ (lo+n) (V.drop n) (setPending st ((pendingOf st).push (lo,n,0))):=by
 obtain⟨rs,e1,e2,e3,e4⟩:=h.run
 refine⟨h.kd,h.fl,h.perm,rs++[V.take n],?_,?_,?_,?_⟩
 ·show(arrOf st).toList=_
  rw[e1];simp
 ·rw[List.flatten_append,List.length_append,e2];simp;omega
 ·show PR 0 ((pendingOf st).push (lo,n,0)).toList _
  rw[Array.toList_push]
  have:=e3.push (r:=V.take n) (w:=0)
  rw[List.length_take,Nat.min_eq_left hn,Nat.zero_add,e2]at this
  exact this
 ·intro r hr
  rcases List.mem_append.mp hr with hr|hr
  ·exact e4 r hr
  ·rw[List.mem_singleton.mp hr]
   refine⟨λhh=> ?_,hs⟩
   have:=congrArg List.length hh
   rw[List.length_take,List.length_nil]at this;omega
theorem z79(L:LtOk M A E s κ ρ Dm)(hd: ∀x∈T,Dm x){lo i:Nat}{V:LK}{st:SortSt}{Q:Bool->SortSt->Prop}(h:RI ρ T κ lo V st)(hi:i+1<(pendingOf st).size)
  (q: ∀st',RI ρ T κ lo V st'->(pendingOf st').size+1=(pendingOf st).size->Q true st'):wpS M A E s (mergeAt' i) Q st:=by
 obtain⟨rs,h1,h2,h3,h4⟩:=h.run
 obtain⟨ps1,p,p',ps2,rs1,S,B,rs2,e1,e2,e3,e4,e5,e6,e7,e8⟩:=h3.split i (by simpa using hi)
 subst e2
 obtain⟨pa,pn,pw⟩:=p
 obtain⟨qa,qn,qw⟩:=p'
 dsimp only at e4 e5 e6 e7
 rw[Nat.zero_add]at e4 e6
 subst e4 e5 e6 e7
 have hS:=h4 S (by simp)
 have hB:=h4 B (by simp)
 refine z8Z L (U:=rs1.flatten) (S:=S) (B:=B) (V:=rs2.flatten++V) (p:=pw) (p':=qw) h.kd h.fl (by rw[h1];simp) (λx hx=>hd x (h.perm.mem_iff.mp hx)) ?_ ?_ hS.1 hB.1 hS.2 hB.2 λC st' c1 c2 c3 c4 c5 c6=>q st' ?_ ?_
 ·rw[<-Array.getElem?_toList,e1,<-e3];simp
 ·rw[<-Array.getElem?_toList,e1,<-e3,List.getElem?_append_right (by omega),show ps1.length+1-ps1.length=1 by omega];rfl
 ·have hl:C.length=S.length+B.length:=by rw[c1.length_eq,List.length_append]
  refine⟨c5,c6,?_,rs1++C::rs2,by rw[c3];simp,?_,?_,λr hr=> ?_⟩
  ·refine(List.Perm.trans ?_ h.perm)
   rw[c3,h1]
   have:(rs1.flatten++(C++(rs2.flatten++V))).Perm (rs1.flatten++((S++B)++(rs2.flatten++V))):=List.Perm.append_left _ (List.Perm.append_right _ c1)
   refine this.trans (List.Perm.of_eq (by simp))
  ·rw[<-h2];simp[hl];omega
  ·rw[c4,Array.toList_eraseIdxIfInBounds,Array.toList_setIfInBounds,e1,<-e3,List.set_append_right _ _ (Nat.le_refl _),List.eraseIdx_append_of_length_le (by omega)]
   have:=e8 C pw hl
   rw[Nat.zero_add]at this
   simpa using this
  ·rcases List.mem_append.mp hr with hr|hr
   ·exact h4 r (by simp[hr])
   ·rcases List.mem_cons.mp hr with rfl|hr
    ·refine⟨λhh=> ?_,c2⟩
     have hz:=List.length_pos_iff.mpr hS.1
     rw[hh]at hl;simp at hl;omega
    ·exact h4 r (by simp[hr])
 ·rw[c4]
  have hz:(((pendingOf st).setIfInBounds i (rs1.flatten.length,S.length+B.length,pw)).eraseIdxIfInBounds (i+1)).size=(pendingOf st).size-1:=by
   rw[<-Array.length_toList,Array.toList_eraseIdxIfInBounds,List.length_eraseIdx,Array.toList_setIfInBounds,List.length_set,Array.length_toList,if_pos hi]
  rw[hz];omega
theorem Up.pw{a:AK}{lo n:Nat}{U V:LK}(h:Up ρ a lo n)(e:a.toList=U++V)(hl:U.length=lo):(V.take n).Pairwise (le ρ):=by
 rw[List.pairwise_iff_getElem]
 intro i j h1 h2 hij
 have h2':j<n/\j<V.length:=by simp at h2;omega
 have at_: ∀k,k<V.length->a[lo+k]? = V[k]? := λk hk=>by
  rw[<-Array.getElem?_toList,e,List.getElem?_append_right (by omega)];congr 1;omega
 have:=h i j (by omega) h2'.1
 rw[zAU (x:=V[i]'(by omega)) (by rw[at_ i (by omega)];simp),zAU (x:=V[j]'(by omega)) (by rw[at_ j (by omega)];simp)]at this
 rw[List.getElem_take,List.getElem_take]
 exact this
theorem RI.of{lo n:Nat}{V:LK}{st st':SortSt}(h:RI ρ T κ lo V st)(b:BI lo st st')(hu:Up ρ (arrOf st') lo n): ∃V',V'.length=V.length/\(V'.take n).Pairwise (le ρ)/\RI ρ T κ lo V' st':=by
 obtain⟨rs,e1,e2,e3,e4⟩:=h.run
 have hp:(arrOf st').toList.take lo=rs.flatten:=by
  apply List.ext_getElem?
  intro i
  by_cases hi:i<lo
  ·rw[List.getElem?_take,if_pos hi,Array.getElem?_toList,b.pre i hi,<-Array.getElem?_toList,e1,List.getElem?_append_left (by omega)]
  ·rw[List.getElem?_eq_none (by simp;omega),List.getElem?_eq_none (by omega)]
 have e:(arrOf st').toList=rs.flatten++(arrOf st').toList.drop lo:=by rw[<-hp,List.take_append_drop]
 have hz:=b.size
 have hz1:=congrArg List.length e1
 simp only[Array.length_toList,List.length_append]at hz1
 refine⟨(arrOf st').toList.drop lo,by simp;omega,hu.pw e e2,b.kd.trans h.kd,b.fl.trans h.fl,(Array.perm_iff_toList_perm.mp b.perm).trans h.perm,rs,e,e2,by rw[b.pd];exact e3,e4⟩
theorem z3E: ∀{rs:List (LK)},(∀r∈rs,r≠[]/\r.Pairwise (le ρ))->rs.length<=rs.flatten.length
 | [],_=>by simp
 | r::rs,h=>by
  have h1:=List.length_pos_iff.mpr (h r (by simp)).1
  have h2:=z3E λx hx=>h x (List.mem_cons_of_mem _ hx)
  simp at h2 ⊢;omega
theorem z8n(L:LtOk M A E s κ ρ Dm)(hd: ∀x∈T,Dm x){st:SortSt}{Q:Unit->SortSt->Prop}(hk:kindOf st=κ)(hf:failedOf st=none)(hp:pendingOf st= #[])(hT:(arrOf st).toList=T)
  (q: ∀st',failedOf st'=none->(arrOf st').toList.Perm T->(arrOf st').toList.Pairwise (le ρ)->Q () st'):wpS M A E s sortRuns' Q st:=by
 rw[sortRuns'_eq]
 refine wpS_bind (wpS_get ?_)
 dsimp only
 have hsz:(arrOf st).size=T.length:=by rw[<-hT];simp
 generalize (arrOf st).size=size at hsz ⊢
 subst hsz
 generalize minRun' T.length T.length 0=mr
 have R0:RI ρ T κ 0 T st:=⟨hk,hf,by rw[hT],[],by rw[hT];rfl,rfl,by rw[hp];trivial,by simp⟩
 have nx: ∀{lo x:Nat}(n:Nat){V2:LK}{st2:SortSt},1<=n->n<=V2.length->(V2.take n).Pairwise (le ρ)->x<=lo->RI ρ T κ lo V2 st2-> ∃lo' V',((none,lo+n):Option Unit×Nat)=(none,lo')/\x+1<=lo'/\RI ρ T κ lo' V' (setPending st2 ((pendingOf st2).push (lo,n,0))):=λ{lo x}n V2 st2 h1 h2 h3 h4 R2=>⟨lo+n,_,rfl,by omega,R2.push h1 h2 h3⟩
 refine wpS_bind (wpS_mono (wpS_forRange (I:=λx c st'=> ∃lo V,c=(none,lo)/\x<=lo/\RI ρ T κ lo V st') (Q:=λc st'=> ∃lo,c=(none,lo)/\RI ρ T κ lo [] st') ?_ ?_ ⟨0,T,rfl,Nat.le_refl _,R0⟩) ?_)
 ·rintro x c st1 _ hx ⟨lo,V,rfl,hxl,R⟩
  dsimp only
  obtain⟨rs,e1,e2,e3,e4⟩:=R.run
  have hl:lo+V.length=T.length:=by
   have h1:=R.perm.length_eq
   rw[e1,List.length_append,e2]at h1;exact h1
  have hz1:(arrOf st1).size=T.length:=by have:=R.perm.length_eq;simpa using this
  by_cases hlo:lo>=T.length
  ·rw[if_pos hlo]
   refine wpS_pure ⟨lo,rfl,?_⟩
   obtain rfl:V=[]:=List.length_eq_zero_iff.mp (by omega)
   exact R
  ·rw[if_neg hlo]
   have hd1: ∀x∈(arrOf st1).toList,Dm x:=λx hx=>hd x (R.perm.mem_iff.mp hx)
   refine wpS_bind (zC7 L hd1 R.kd (by omega) (by omega) λm st2 B2 m1 m2 u2=> ?_)
   dsimp only
   by_cases hm:m<mr
   focus
    rw[if_pos hm]
    refine wpS_bind (wpS_lift (wpAny_rule ⟨rfl,?_⟩))
    refine wpS_bind (zGc L hd1 R.kd B2 m1 (n:=min (T.length-lo) mr) (by omega) (by omega) u2 λst2 B2 u2=> ?_)
    have f1:1<=min (T.length-lo) mr:=by omega
    have f2:min (T.length-lo) mr<=T.length-lo:=by omega
    generalize min (T.length-lo) mr=n at f1 f2 u2 ⊢
    rw[if_neg (by simp)]
   rotate_left;focus
    rw[if_neg hm]
    have f1:=m1
    have f2:=m2
    obtain⟨n,rfl⟩: ∃n,n=m:=⟨_,rfl⟩
   all_goals
    obtain⟨V2,v1,v2,R2⟩:=R.of B2 u2
    have nx:=λ(st2:SortSt)(R2:RI ρ T κ lo V2 st2)=>nx (x:=x) n f1 (by omega) v2 hxl R2
    refine wpS_bind (wpS_get ?_)
    cases hbk:(pendingOf st2).back? with
    | none=>
     dsimp only
     exact wpS_bind (wpS_modify (wpS_pure (nx _ R2)))
    | some bk=>
     obtain⟨s1,n1,w1⟩:=bk
     dsimp only
     refine wpS_bind (wpS_mono (wpS_forRange (I:=λ_ c st'=>c=(none,())/\RI ρ T κ lo V2 st') (Q:=λc st'=>c=(none,())/\RI ρ T κ lo V2 st') ?_ (λ_ _ h=>h) ⟨rfl,R2⟩) ?_)
     ·rintro y c st3 _ _ ⟨rfl,R3⟩
      refine wpS_bind (wpS_get ?_)
      by_cases hp:(pendingOf st3).size>1
      ·rw[if_pos hp]
       obtain⟨e,he⟩: ∃e,(pendingOf st3)[(pendingOf st3).size-2]? = some e:=⟨(pendingOf st3)[(pendingOf st3).size-2]'(by omega),by simp⟩
       obtain⟨e1,e2,e3⟩:=e
       rw[he]
       dsimp only
       split
       ·exact wpS_pure ⟨rfl,R3⟩
       ·exact wpS_bind (z79 L hd R3 (by omega) λst4 R4 _=>by rw[if_neg (by simp)];exact wpS_pure ⟨rfl,R4⟩)
      ·rw[if_neg hp]
       exact wpS_pure ⟨rfl,R3⟩
     ·rintro c st3 ⟨rfl,R3⟩
      dsimp only
      exact wpS_bind (wpS_modify (wpS_bind (wpS_modify (wpS_pure (nx _ (R3.pw _ _ λe=>⟨rfl,rfl⟩))))))
 ·rintro c st1 ⟨lo,V,rfl,hxl,R⟩
  obtain⟨rs,e1,e2,e3,e4⟩:=R.run
  have hl:lo+V.length=T.length:=by
   have h1:=R.perm.length_eq
   rw[e1,List.length_append,e2]at h1;exact h1
  obtain rfl:V=[]:=List.length_eq_zero_iff.mp (by omega)
  exact⟨lo,rfl,R⟩
 ·rintro c st1 ⟨lo,rfl,R⟩
  dsimp only
  have ps: ∀{st':SortSt},RI ρ T κ lo [] st'->(pendingOf st').size<=T.length:=λ{st'}R=>by
   obtain⟨rs,e1,e2,e3,e4⟩:=R.run
   have h1:=e3.len
   have h2:=z3E e4
   have h3:=R.perm.length_eq
   rw[e1,List.append_nil]at h3
   simp at h1;omega
  have ix: ∀(c:Bool)(n:Nat),1<n->(if c=true then n-2-1 else n-2)+1<n:=λc n hn=>by split<;>omega
  refine wpS_bind (wpS_mono (wpS_forRange (I:=λx c st'=>c=(none,())/\RI ρ T κ lo [] st'/\(pendingOf st').size+x<=T.length+1) (Q:=λc st'=>c=(none,())/\RI ρ T κ lo [] st'/\(pendingOf st').size<=1) ?_ ?_ ⟨rfl,R,by have:=ps R;omega⟩) ?_)
  ·rintro x c st2 _ hx ⟨rfl,R2,hb⟩
   refine wpS_bind (wpS_get ?_)
   by_cases hp:(pendingOf st2).size<=1
   ·rw[if_pos hp]
    exact wpS_pure ⟨rfl,R2,hp⟩
   ·rw[if_neg hp]
    refine wpS_bind (z79 L hd R2 (ix _ _ (by omega)) λst3 R3 h3=> ?_)
    rw[if_neg (by simp)]
    exact wpS_pure ⟨rfl,R3,by omega⟩
  ·rintro c st2 ⟨rfl,R2,hb⟩
   exact⟨rfl,R2,by omega⟩
  ·rintro c st2 ⟨rfl,R2,hb⟩
   refine wpS_pure (q st2 R2.fl R2.perm ?_)
   obtain⟨rs,e1,e2,e3,e4⟩:=R2.run
   have h1:=e3.len
   rw[e1,List.append_nil]
   match rs,h1,e4 with
   | [],_,_=>exact List.Pairwise.nil
   | [r],_,e4=>simpa using(e4 r (by simp)).2
   | r::u::rs,h1,_=>simp at h1;omega
end Tim
namespace Tim
open PySem PySem.W PyProof.Rows MT
theorem zAV{α β:Type}{f:α->β}{l' m:List β}(h:l'.Perm m): ∀{l:List α},m=l.map f-> ∃p:List α,p.Perm l/\l'=p.map f:=by
 induction h with
 | nil=>intro l e;exact⟨[],by rw[List.map_eq_nil_iff.mp e.symm],rfl⟩
 | @cons x a b _ ih=>
  intro l e
  cases l with
  | nil=>cases e
  | cons y l=>
   obtain⟨rfl,e2⟩:=List.cons.inj e
   obtain⟨p,h1,h2⟩:=ih e2
   exact⟨y::p,h1.cons y,by rw[h2];rfl⟩
 | swap x y t=>
  intro l e
  cases l with
  | nil=>cases e
  | cons u l=>
   cases l with
   | nil=>cases e
   | cons v l=>
    obtain⟨rfl,e2⟩:=List.cons.inj e
    obtain⟨rfl,rfl⟩:=List.cons.inj e2
    exact⟨v::u::l,List.Perm.swap _ _ _,rfl⟩
 | trans _ _ ih1 ih2=>
  intro l e
  obtain⟨p,h1,h2⟩:=ih2 e
  obtain⟨p',h3,h4⟩:=ih1 h2
  exact⟨p',h3.trans h1,h4⟩
variable{prog:Program}{w:World}{A:Around}{E:Value->Shared->Prop}{s:Shared}{κ:SortKind}
theorem zC8{vs:List Value}{ρ:Value->Int}(hask: ∀i j C,i<vs.length->j<vs.length->C (ltR (λi=>ρ (vs.getD i Value.none)) i j) s->kas_ask prog w A κ vs i j C s):
  wpAny (model prog w) A ((sortRuns').run (SortSt.mk' κ (vs.toArray.zip vs.toArray) #[] 7 none)) (λr s'=> ∃p:Array Nat,arrOf r.2=p.map (kas_item (vs.toArray.zip vs.toArray))/\failedOf r.2=none/\s'=s/\POk vs.length p/\Srt (λi=>ρ (vs.getD i Value.none)) p vs.length) E s:=by
 have hz:(vs.toArray.zip vs.toArray).size=vs.length:=by simp
 have it_: ∀i,i<vs.length->(kas_item (vs.toArray.zip vs.toArray) i).1=vs.getD i Value.none:=λi hi=>by
  unfold kas_item
  rw[Array.getD_eq_getD_getElem?,List.getD_eq_getElem?_getD]
  simp[hi]
 have e0:(vs.toArray.zip vs.toArray).toList=(List.range vs.length).map (kas_item (vs.toArray.zip vs.toArray)):=by
  have e:=kas_range (vs.toArray.zip vs.toArray)
  rw[hz]at e
  conv=>lhs;rw[<-e]
  rw[Array.toList_map]
 have L:LtOk (model prog w) A E s κ (λk=>ρ k.1) (λk=>k∈(vs.toArray.zip vs.toArray).toList):=⟨λ{x y st Q}hx hy hk hq=>by
  rw[e0]at hx hy
  obtain⟨i,hi,rfl⟩:=List.mem_map.mp hx
  obtain⟨j,hj,rfl⟩:=List.mem_map.mp hy
  have hi:=List.mem_range.mp hi
  have hj:=List.mem_range.mp hj
  rw[lt'_eq]
  refine wpS_bind (wpS_get ?_)
  rw[hk]
  have hh:=hask i j (λb s'=>s'=s/\b=decide (ρ (vs.getD i Value.none)<ρ (vs.getD j Value.none))) hi hj ⟨rfl,rfl⟩
  unfold kas_ask at hh
  rw[it_ i hi,it_ j hj]
  refine wpS_bind (wpS_lift (wpAny_attempt (wpAny_mono hh (λb s' hb=>⟨hb.1,?_⟩) λ_ _ hF=>hF.elim)))
  rw[it_ i hi,it_ j hj]at hq
  rw[hb.2]
  exact wpS_pure hq⟩
 have run:=z8n L (T:=(vs.toArray.zip vs.toArray).toList) (λx hx=>hx) (st:=SortSt.mk' κ (vs.toArray.zip vs.toArray) #[] 7 none) (Q:=λ_ st'=>failedOf st'=none/\(arrOf st').toList.Perm (vs.toArray.zip vs.toArray).toList/\(arrOf st').toList.Pairwise (le λk=>ρ k.1)) rfl rfl rfl rfl λst' h1 h2 h3=>⟨h1,h2,h3⟩
 unfold wpS at run
 refine wpAny_mono run (λr s' h=> ?_) λ_ _ e=>e
 obtain⟨rfl,h1,h2,h3⟩:=h
 obtain⟨p,p1,p2⟩:=zAV h2 e0
 have hl:p.length=vs.length:=by have:=p1.length_eq;simpa using this
 refine⟨p.toArray,?_,h1,rfl,p1,λi j hij hj=> ?_⟩
 ·apply Array.toList_inj.mp
  rw[p2,Array.toList_map]
 ·unfold rk
  have g: ∀k,k<vs.length-> ∃q,p.toArray.getD k 0=q/\q<vs.length/\(arrOf r.2).toList[k]? = some (kas_item (vs.toArray.zip vs.toArray) q):=λk hk=>by
   have hk':k<p.length:=by omega
   refine⟨p[k],by simp[Array.getD,hk'],by have:=p1.mem_iff.mp (List.getElem_mem hk');simpa using this,by rw[p2];simp[hk']⟩
  obtain⟨a,a1,a2,a3⟩:=g i (by omega)
  obtain⟨b,b1,b2,b3⟩:=g j hj
  have:=z24 (ρ:=λk=>ρ k.1) h3 hij a3 b3
  rw[a1,b1]
  rw[it_ a a2,it_ b b2]at this
  exact this
end Tim
namespace L2
open PySem PySem.Spec PyProof.Rows
abbrev Key:=Sum Int Str
def keyIs:Key->Value->Bool
 | .inl k,v=>Value.isInt k v
 | .inr x,v=>Value.isStrOf x v
def keyH(w:World):Key->Int
 | .inl k=>hashInt k
 | .inr x=>hashStr w x
theorem z0z:∀{k:Key}{v:Value},keyIs k v=true->(∃i t,k=Sum.inl i/\v=Value.int i t)\/(∃x t,k=Sum.inr x/\v=Value.str x t)
 | .inl i,v,h=>by
  obtain⟨t,e⟩:=Value.isInt_shape (k:=i) (v:=v) h
  exact .inl ⟨i,t,rfl,e⟩
 | .inr x,v,h=>by
  obtain⟨t,e⟩:=Value.isStrOf_shape (x:=x) (v:=v) h
  exact .inr ⟨x,t,rfl,e⟩
theorem zE2(a b:Int):decide ((Sum.inl a:Key)=Sum.inl b)=(a==b):=by
 by_cases e:a=b
 ·subst e;simp
 ·have h:¬(Sum.inl a:Key)=Sum.inl b:=λq=>e (Sum.inl.inj q)
  rw[decide_eq_false h]
  exact(beq_eq_false_iff_ne.mpr e).symm
theorem zE3(a b:Str):decide ((Sum.inr a:Key)=Sum.inr b)=decide (a=b):=by
 by_cases e:a=b
 ·subst e;simp
 ·have h:¬(Sum.inr a:Key)=Sum.inr b:=λq=>e (Sum.inr.inj q)
  rw[decide_eq_false h,decide_eq_false e]
theorem zE4(a:Int)(b:Str):decide ((Sum.inl a:Key)=Sum.inr b)=false:=decide_eq_false (λq=>nomatch q)
theorem zE5(a:Str)(b:Int):decide ((Sum.inr a:Key)=Sum.inl b)=false:=decide_eq_false (λq=>nomatch q)
def mixKind(prog:Program)(w:World):PySem.KeyKind prog w Key where
 is:=keyIs
 hash:=keyH w
 inj:=λv a b ha hb=>by
  rcases z0z ha with⟨i,t,rfl,rfl⟩|⟨x,t,rfl,rfl⟩
  ·rcases z0z hb with⟨j,u,rfl,e⟩|⟨y,u,rfl,e⟩
   ·injection e with e1 _;rw[e1]
   ·exact nomatch e
  ·rcases z0z hb with⟨j,u,rfl,e⟩|⟨y,u,rfl,e⟩
   ·exact nomatch e
   ·injection e with e1 _;rw[e1]
 byValue:=λk v h=>by
  rcases z0z h with⟨i,t,rfl,rfl⟩|⟨x,t,rfl,rfl⟩<;>rfl
 pyHash:=λhv h=>by
  rcases z0z hv with⟨i,t,rfl,rfl⟩|⟨x,t,rfl,rfl⟩
  ·exact wpAny_pyHash_int h
  ·exact wpAny_pyHash_str h
 eqBool:=λhu hv h=>by
  rcases z0z hu with⟨i,t,rfl,rfl⟩|⟨x,t,rfl,rfl⟩
  ·rcases z0z hv with⟨j,u,rfl,rfl⟩|⟨y,u,rfl,rfl⟩
   ·rw[zE2]at h;exact wpAny_eqBool_int h
   ·rw[zE4]at h;exact SeqAt.EqAt.int_str i t y u _ _ _ _ h
  ·rcases z0z hv with⟨j,u,rfl,rfl⟩|⟨y,u,rfl,rfl⟩
   ·rw[zE5]at h;exact SeqAt.EqAt.str_int x t j u _ _ _ _ h
   ·rw[zE3]at h;exact wpAny_eqBool_str h
 «strs»:=λk x t v h=>by
  rcases z0z h with⟨i,u,rfl,e⟩|⟨y,u,rfl,e⟩
  ·exact nomatch e
  ·injection e with e1 _
   subst e1
   cases v<;>rfl
end L2
namespace L2
open PySem PySem.Spec PyProof.Rows
inductive V where
 | non|bl (b:Bool)|int (i:Int)|str (x:Str)|byt (b:Array UInt8)|flt (b:UInt64)|ref (a:Addr)|ty (n:String)
 deriving DecidableEq
def RelV:V->Value->Prop
 | .non,u=>u=Value.none
 | .bl b,u=>u=Value.bool b
 | .int i,u=>∃t,u=Value.int i t
 | .str x,u=>∃t,u=Value.str x t
 | .byt b,u=>∃t,u=Value.bytes b t
 | .flt b,u=>∃t,u=Value.float b t
 | .ref a,u=>u=Value.ref a
 | .ty n,u=>u=Value.type n
abbrev Vals:List V->List Value->Prop:=Paired RelV
theorem Vals.length{xs:List V}{us:List Value}(r:Vals xs us):xs.length=us.length:=Paired.length r
theorem Vals.get:∀{xs:List V}{us:List Value}{i:Nat}{x:V},Vals xs us->xs[i]? = some x-> ∃u,us[i]? = some u/\RelV x u
 | _,_,_,_,.nil,e=>by simp at e
 | _,_,0,_,.cons r _,e=>by simp at e;subst e;exact⟨_,rfl,r⟩
 | _,_,i+1,x,.cons _ t,e=>by
  obtain⟨u,h1,h2⟩:=Vals.get (i:=i) (x:=x) t (by simpa using e)
  exact⟨u,by simpa using h1,h2⟩
theorem Vals.set{x:V}{u:Value}(r:RelV x u):∀{xs:List V}{us:List Value}(i:Nat),Vals xs us->Vals (xs.set i x) (us.set i u)
 | _,_,_,.nil=>.nil
 | _,_,0,.cons _ t=>.cons r t
 | _,_,i+1,.cons q t=>.cons q (Vals.set r i t)
theorem Vals.append:∀{xs ys:List V}{us ws:List Value},Vals xs us->Vals ys ws->Vals (xs++ys) (us++ws)
 | _,_,_,_,.nil,s=>s
 | _,_,_,_,.cons r t,s=>.cons r (Vals.append t s)
theorem Vals.take:∀{xs:List V}{us:List Value}(n:Nat),Vals xs us->Vals (xs.take n) (us.take n)
 | _,_,0,_=>.nil
 | _,_,_+1,.nil=>.nil
 | _,_,n+1,.cons r t=>.cons r (Vals.take n t)
theorem Vals.drop:∀{xs:List V}{us:List Value}(n:Nat),Vals xs us->Vals (xs.drop n) (us.drop n)
 | _,_,0,r=>r
 | _,_,_+1,.nil=>.nil
 | _,_,n+1,.cons _ t=>Vals.drop n t
theorem Vals.none_of:∀{xs:List V}{us:List Value}{i:Nat},Vals xs us->xs[i]? = none->us[i]? = none:=λ{xs us i}r e=>by
 have h1:=r.length
 have h2:xs.length<=i:=List.getElem?_eq_none_iff.mp e
 exact List.getElem?_eq_none_iff.mpr (by lia)
def RelO:Option V->Option Value->Prop
 | some v,some u=>RelV v u
 | none,none=>True
 | _,_=>False
def KV{κ:Type}:List (κ×V)->List (κ×Value)->Prop:=Paired λ(p:κ×V)(q:κ×Value)=>p.1=q.1/\RelV p.2 q.2
def kV:Key->V
 | .inl i=>.int i
 | .inr x=>.str x
inductive HO where
 | lst (xs:List V)
 | tup (xs:List V)
 | dK (kvs:List (Key×V))|dT (kvs:List (List Key×V))
 | set (S:Int->Bool) (n:Nat)
 | ins (C dx:Addr) (fs:List (Str×V))
 | own (x:Addr)
 | xd (fs:List (Str×V))
 | met (f x:Addr)
 | rng (lo hi:Int)
 | frz (o:Obj) (u:HO)
 | tbl (ps:Array Value)
 | ext (φ:Heap->Prop)
abbrev Hp:=Addr->Option HO
def upd(H:Hp)(a:Addr)(o:HO):Hp:=λb=>if b=a then some o else H b
theorem z0m{H:Hp}{a:Addr}{o:HO}:upd H a o a=some o:=by unfold upd;rw[if_pos rfl]
theorem z0f{H:Hp}{a b:Addr}{o:HO}(h:b≠a):upd H a o b=H b:=by unfold upd;rw[if_neg h]
theorem zGd{H:Hp}{a b:Addr}{o u:HO}(h:H a=some o)(h':H b=some u)(d:o≠u):a≠b:=by
 intro e;subst e;rw[h]at h';exact d (Option.some.inj h')
theorem z0u{H:Hp}{a b:Addr}{o:HO}(h:H a=some o)(h':H b=none):a≠b:=by
 intro e;subst e;rw[h]at h';cases h'
section
variable(P:Program)(w:World)
def ObjOk(H:Hp)(h:Heap)(a:Addr):HO->Prop
 | .lst xs=>xs.length<=sizeLine/\ ∃(its:List Value)(n:Nat),Vals xs its/\h.get? a=some {cls:=.type "list",data:=.seq its.toArray n}
 | .tup xs=>xs.length<=sizeLine/\ ∃its:List Value,Vals xs its/\IsTup h a its.toArray
 | .dK kvs=>kvs.length<=sizeLine/\(a==sysModules)=false/\ ∃vs,KV kvs vs/\h.DictOf (mixKind P w) a vs
 | .dT kvs=>kvs.length<=sizeLine/\(a==sysModules)=false/\ ∃xs:List (List Key×Addr×Value),
   Paired (λ(p:List Key×V)(q:List Key×Addr×Value)=>p.1=q.1/\H q.2.1=some (.tup (p.1.map kV))/\RelV p.2 q.2.2) kvs xs/\
   ∃o es ep,h.get? a=some o/\o.ExactDict/\o.data= .dict es ep/\es.toList=xs.map (entryOfKey (tupleKind (mixKind P w)))/\(xs.map (·.1)).Nodup
 | .set S n=>h.SetOf (intKind P w) a S n
 | .ins C dx fs=>H dx=some (.own a)/\fs.length<=1000/\dx≠a/\h.get? a=some (PySem.W.instObj C dx)/\
   ∃mA,h.Ns1 dx mA/\(∀f,RelO (fs.lookup f) (mA f))/\PySem.Within mA (fs.map (·.1))
 | .own _=>∃o,h.get? a=some o
 | .xd fs=>∃mA,h.Ns1 a mA/\ ∀f,RelO (fs.lookup f) (mA f)
 | .rng lo hi=>∃t u v,h.get? a=some {cls:=.type "range",data:=.fields #[.int lo t,.int hi u,.int 1 v]}
 | .frz o u=>h.get? a=some o/\ObjOk H h a u
 | .tbl ps=>h.get? a=some {cls:=.none,data:=.fields ps}
 | .met f x=>h.get? a=some (PySem.W.methodObj (.ref f) (.ref x))
 | .ext φ=>φ h/\(∃o,h.get? a=some o)/\ ∀h1 h2:Heap,φ h1->(∀o,h1.get? a=some o->h2.get? a=some o)->φ h2
def HOk(H:Hp)(h:Heap):Prop:=∀a o,H a=some o->ObjOk P w H h a o
end
section
variable{P:Program}{w:World}{H H':Hp}{h h':Heap}{a:Addr}{o:HO}
theorem ObjOk.lt(x:ObjOk P w H h a o):a<h.objs.size:=by
 cases o with
 | lst xs=>obtain⟨_,_,_,_,e⟩:=x;exact Heap.lt_size e
 | tup xs=>obtain⟨_,_,_,p⟩:=x;exact p.lt
 | dK kvs=>obtain⟨_,_,_,_,o,_,_,e,_⟩:=x;exact Heap.lt_size e
 | dT kvs=>obtain⟨_,_,_,_,o,_,_,e,_⟩:=x;exact Heap.lt_size e
 | set S n=>obtain⟨o,_,_,_,e,_⟩:=x;exact Heap.lt_size e
 | ins C dx fs=>obtain⟨_,_,_,e,_⟩:=x;exact Heap.lt_size e
 | own y=>obtain⟨_,e⟩:=x;exact Heap.lt_size e
 | xd fs=>obtain⟨_,⟨_,_,_,e,_⟩,_⟩:=x;exact Heap.lt_size e
 | rng lo hi=>obtain⟨_,_,_,e⟩:=x;exact Heap.lt_size e
 | frz ob u=>obtain⟨e,_⟩:=x;exact Heap.lt_size e
 | tbl ps=>exact Heap.lt_size (show h.get? a=some _ from x)
 | met f y=>exact Heap.lt_size (show h.get? a=some _ from x)
 | ext φ=>obtain⟨_,⟨_,e⟩,_⟩:=x;exact Heap.lt_size e
theorem Paired.mapP{α β:Type}{F G:α->β->Prop}:∀{l₁:List α}{l₂:List β},Paired F l₁ l₂->(∀a b,F a b->G a b)->Paired G l₁ l₂
 | _,_,.nil,_=>.nil
 | _,_,.cons r t,f=>.cons (f _ _ r) (Paired.mapP t f)
theorem ObjOk.stay(x:ObjOk P w H h a o)(k:∀b u,(b=a\/H b=some (.own a))->h.get? b=some u->h'.get? b=some u)
  (ho:∀b,H b=some (.own a)->H' b=some (.own a)) (ht:∀b xs,H b=some (.tup xs)->H' b=some (.tup xs)):ObjOk P w H' h' a o:=by
 induction o with
 | lst xs=>obtain⟨z,its,n,r,e⟩:=x;exact⟨z,its,n,r,k _ _ (.inl rfl) e⟩
 | tup xs=>obtain⟨z,its,r,ob,e,c⟩:=x;exact⟨z,its,r,ob,k _ _ (.inl rfl) e,c⟩
 | dK kvs=>obtain⟨z,y,vs,r,ob,es,ep,e,c⟩:=x;exact⟨z,y,vs,r,ob,es,ep,k _ _ (.inl rfl) e,c⟩
 | dT kvs=>
  obtain⟨z,y,xs,r,ob,es,ep,e,c⟩:=x
  exact⟨z,y,xs,Paired.mapP r λp q z=>⟨z.1,ht _ _ z.2.1,z.2.2⟩,ob,es,ep,k _ _ (.inl rfl) e,c⟩
 | set S n=>obtain⟨ob,es,ep,t,e,c⟩:=x;exact⟨ob,es,ep,t,k _ _ (.inl rfl) e,c⟩
 | ins C dx fs=>
  obtain⟨d,z,ne,e,mA,⟨od,es,ep,e2,c⟩,r⟩:=x
  exact⟨ho _ d,z,ne,k _ _ (.inl rfl) e,mA,⟨od,es,ep,k _ _ (.inr d) e2,c⟩,r⟩
 | own y=>obtain⟨ob,e⟩:=x;exact⟨ob,k _ _ (.inl rfl) e⟩
 | xd fs=>obtain⟨mA,⟨od,es,ep,e,c⟩,r⟩:=x;exact⟨mA,⟨od,es,ep,k _ _ (.inl rfl) e,c⟩,r⟩
 | rng lo hi=>obtain⟨t,u,v,e⟩:=x;exact⟨t,u,v,k _ _ (.inl rfl) e⟩
 | frz ob u ih=>obtain⟨e,q⟩:=x;exact⟨k _ _ (.inl rfl) e,ih q⟩
 | tbl ps=>
  have e:h.get? a=some {cls:=.none,data:=.fields ps}:=x
  show h'.get? a=some {cls:=.none,data:=.fields ps}
  exact k a _ (.inl rfl) e
 | met f y=>
  have e:h.get? a=some (PySem.W.methodObj (.ref f) (.ref y)):=x
  show h'.get? a=some (PySem.W.methodObj (.ref f) (.ref y))
  exact k a _ (.inl rfl) e
 | ext φ=>obtain⟨p,⟨o,e⟩,st⟩:=x;exact⟨st _ _ p λo q=>k _ _ (.inl rfl) q,⟨o,k _ _ (.inl rfl) e⟩,st⟩
theorem HOk.lt(x:HOk P w H h)(e:H a=some o):a<h.objs.size:=(x a o e).lt
theorem HOk.fresh(x:HOk P w H h)(e:h.objs.size<=a):H a=none:=by
 cases q:H a with
 | none=>rfl
 | some u=>exact absurd (Nat.lt_of_lt_of_le (x.lt q) e) (Nat.lt_irrefl _)
theorem HOk.kept(x:HOk P w H h)(k:∀b u,h.get? b=some u->h'.get? b=some u):HOk P w H h':=λa o e=>
 (x a o e).stay (λb u _ q=>k b u q) (λ_ q=>q) λ_ _ q=>q
theorem HOk.laid(x:HOk P w H h)(k:∀b u,h.get? b=some u->h'.get? b=some u)(hp:h.objs.size<=a)(new:ObjOk P w (upd H a o) h' a o):HOk P w (upd H a o) h':=λb u e=>by
 have hn:=x.fresh hp
 by_cases hb:b=a
 ·subst hb;rw[z0m]at e;cases e;exact new
 ·rw[z0f hb]at e
  exact(x b u e).stay (λc v _ q=>k c v q) (λc q=>by rw[z0f (z0u q hn)];exact q) λc xs q=>by rw[z0f (z0u q hn)];exact q
end
def Rd(H:Hp)(a:Addr)(u:HO):Prop:=H a=some u\/ ∃o,H a=some (.frz o u)
theorem Rd.ok{P:Program}{w:World}{H:Hp}{h:Heap}{a:Addr}{u:HO}(r:Rd H a u)(x:HOk P w H h):ObjOk P w H h a u:=by
 rcases r with r|⟨o,r⟩
 ·exact x a u r
 ·obtain⟨_,q⟩:=x a _ r
  exact q
def Mut:Option HO->Prop
 | some (.lst _)=>True
 | some (.dK _)=>True
 | some (.dT _)=>True
 | some (.set _ _)=>True
 | some (.ins _ _ _)=>True
 | some (.ext _)=>True
 | _=>False
section
variable{P:Program}{w:World}{H:Hp}{h h':Heap}{x e:Addr}{o':HO}
theorem HOk.write(ok:HOk P w H h)(mu:Mut (H x))(he:e=x\/H e=some (.own x))(k:∀b u,b≠e->h.get? b=some u->h'.get? b=some u)(heo:∃u,h'.get? e=some u)
  (new:ObjOk P w (upd H x o') h' x o'):HOk P w (upd H x o') h':=λb u q=>by
 have nown:∀c y,H c=some (.own y)->c≠x:=λc y r z=>by subst z;rw[r]at mu;exact mu
 have ntup:∀c xs,H c=some (.tup xs)->c≠x:=λc xs r z=>by subst z;rw[r]at mu;exact mu
 by_cases hb:b=x
 ·subst hb;rw[z0m]at q;cases q;exact new
 ·rw[z0f hb]at q
  by_cases hbe:b=e
  ·have q':H b=some (.own x):=by
    rcases he with z|z
    ·exact absurd (hbe.trans z) hb
    ·rw[hbe];exact z
   rw[q]at q';cases q'
   obtain⟨v,hv⟩:=heo
   exact⟨v,by rw[hbe];exact hv⟩
  ·refine(ok b u q).stay (λc v hc r=>k c v ?_ r) (λc r=>by rw[z0f (nown c b r)];exact r) λc xs r=>by rw[z0f (ntup c xs r)];exact r
   rcases hc with rfl|hc
   ·exact hbe
   ·rintro rfl
    rcases he with z|z
    ·exact nown c b hc z
    ·rw[hc]at z;cases z;exact hb rfl
end
structure Un(fs ex:List Addr)(H H':Hp)(h h':Heap):Prop where
 keep:∀b o,h.get? b=some o->H b=none->b∉fs->b∉ex->h'.get? b=some o
 slot:∀b o,h.get? b=some o->H b=none->b∈fs->b∉ex-> ∃sl,h'.get? b=some {o with slots:=sl}
 free:∀b o,h.get? b=some o->H b=none->b∉ex->H' b=none
 there:∀b o,h.get? b=some o->b∉ex-> ∃o',h'.get? b=some o'
 tups:∀b xs,H b=some (.tup xs)->H' b=some (.tup xs)
 frzs:∀b o u,H b=some (.frz o u)->H' b=some (.frz o u)
 tbls:∀b ps,H b=some (.tbl ps)-> ∃more,H' b=some (.tbl (ps++more))
section
variable{fs fs' ex ex':List Addr}{H H1 H2:Hp}{h h1 h2 h':Heap}{a x e:Addr}{o:HO}
theorem Un.any(u:Un fs ex H H1 h h1){b:Addr}{ob:Obj}(q:h.get? b=some ob)(n:H b=none)(hx:b∉ex):∃sl,h1.get? b=some {ob with slots:=sl}:=by
 by_cases hb:b∈fs
 ·exact u.slot b ob q n hb hx
 ·exact⟨ob.slots,u.keep b ob q n hb hx⟩
theorem Un.kept(k:∀b u,h.get? b=some u->h'.get? b=some u):Un fs ex H H h h':=
 ⟨λb ob q _ _ _=>k b ob q,λb ob q _ _ _=>⟨ob.slots,k b ob q⟩,λ_ _ _ n _=>n,λb ob q _=>⟨ob,k b ob q⟩,λ_ _ q=>q,λ_ _ _ q=>q,λ_ ps q=>⟨#[],by rw[q];simp⟩⟩
theorem Un.refl:Un fs ex H H h h:=Un.kept λ_ _ q=>q
theorem Un.laid(k:∀b u,h.get? b=some u->h'.get? b=some u)(hp:h.objs.size<=a)(hn:H a=none):Un fs ex H (upd H a o) h h' where
 keep:=λb u q _ _ _=>k b u q
 slot:=λb u q _ _ _=>⟨u.slots,k b u q⟩
 free:=λb u q n _=>by rw[z0f (Nat.ne_of_lt (Nat.lt_of_lt_of_le (Heap.lt_size q) hp))];exact n
 there:=λb u q _=>⟨u,k b u q⟩
 tups:=λb xs q=>by rw[z0f (z0u q hn)];exact q
 frzs:=λb u xs q=>by rw[z0f (z0u q hn)];exact q
 tbls:=λb ps q=>⟨#[],by rw[z0f (z0u q hn),q];simp⟩
theorem Un.write(mu:Mut (H x))(he:e=x\/H e=some (.own x))(k:∀b u,b≠e->h.get? b=some u->h'.get? b=some u)(heo:∃u,h'.get? e=some u):Un fs ex H (upd H x o) h h':=by
 have hx:∀b,H b=none->b≠x:=λb n z=>by subst z;rw[n]at mu;exact mu
 have hb:∀b,H b=none->b≠e:=λb n z=>by
  subst z
  rcases he with r|r
  ·exact hx b n r
  ·rw[n]at r;cases r
 have hm:∀b u,H b=some u-> ¬Mut (some u)->b≠x:=λb u q nm z=>by subst z;rw[q]at mu;exact nm mu
 refine⟨λb u q n _ _=>k b u (hb b n) q,λb u q n _ _=>⟨u.slots,k b u (hb b n) q⟩,λb u q n _=>by rw[z0f (hx b n)];exact n,λb u q _=>?_,
  λb xs q=>by rw[z0f (hm b _ q λz=>z)];exact q,λb u xs q=>by rw[z0f (hm b _ q λz=>z)];exact q,λb ps q=>⟨#[],by rw[z0f (hm b _ q λz=>z),q];simp⟩⟩
 by_cases hbe:b=e
 ·subst hbe;exact heo
 ·exact⟨u,k b u hbe q⟩
end
def trk(h:Heap)(H:Hp):List Addr:=(List.range h.objs.size).filter λa=>(H a).isSome
def hidT(h:Heap)(H:Hp):Heap:=PySem.W.hideAll h (trk h H)
theorem z9b(h:Heap)(H:Hp):(hidT h H).objs.size=h.objs.size:=PySem.W.hideAll_size _ _
theorem zAW{h:Heap}{H:Hp}{b:Addr}{o:Obj}(e:h.get? b=some o)(n:H b=none):(hidT h H).get? b=some o:=
 PySem.W.hideAll_get _ e λhm=>by
  have q:(H b).isSome=true:=(List.mem_filter.mp hm).2
  rw[n]at q;simp at q
theorem zC9{h:Heap}{H:Hp}{b:Addr}{o:Obj}(e:(hidT h H).get? b=some o):h.get? b=some o/\H b=none:=by
 have e':h.get? b=some o:=PySem.W.of_hideAll (trk h H) e
 refine⟨e',?_⟩
 cases q:H b with
 | none=>rfl
 | some x=>
  have hm:b∈trk h H:=List.mem_filter.mpr ⟨List.mem_range.mpr (Heap.lt_size e'),by simp[q]⟩
  have z:(hidT h H).get? b=none:=PySem.W.hideAll_none (trk h H) hm
  rw[z]at e;cases e
end L2
namespace L2
open PySem PySem.Spec PyProof.Rows
structure Mod(K:PySem.W.Frag)(mg:Str->Option Value)(base:Heap):Prop where
 kin:K.In base
 glob:base.Ns mainGlobals mg
 blt:∃mb,base.Ns builtinsNs mb/\ ∀x:Str,x≠"__name__"->mb x=bootBuiltins x
 nolimit:base.NoLimit
structure Cx where
 prog:Program
 w:World
 K:PySem.W.Frag
 mg:Str->Option Value
 base:Heap
 A:Around
 N:List Str
 s₀:Shared
 H₀:Hp
 env:Env
 outer:List Env
 stack:List Env
 ex:List Addr
 fn:Str->Bool
 calm:Bool
 pn:List (Addr×Obj)
 xe:Value->Shared->Prop
def frs(l:List Env):List Addr:=l.filterMap (·.frame)
abbrev Cx.fs(X:Cx):List Addr:=frs X.outer
def Vis(sc:Scope)(x:Str):Prop:=sc.names.lookup x=some .local\/sc.names.lookup x=some .cell\/sc.names.lookup x=some .free
def Loc(sc:Scope)(x:Str):Prop:=sc.names.lookup x=some .local\/sc.names.lookup x=some .cell
def Look(env:Env)(h:Heap)(m:Str->Option Value)(x:Str)(u:Value):Prop:=
 (env.kindOf x=some .local/\m x=some u)\/((env.kindOf x=some .cell\/env.kindOf x=some .free)/\ ∃c,env.cells.lookup x=some c/\h.IsCell c (some u))
structure Cx.Ok(X:Cx):Prop where
 mod:Mod X.K X.mg X.base
 kind:X.env.scope.kind= .function
 glob:X.env.globals=mainGlobals
 blt:X.env.builtins=builtinsNs
 above:X.s₀.heap.objs.size<=X.env.locals
 inj:∀x y c,X.env.cells.lookup x=some c->X.env.cells.lookup y=some c->x=y
 has:∀x,(X.env.kindOf x=some .cell\/X.env.kindOf x=some .free)-> ∃c,X.env.cells.lookup x=some c
 cab:∀x c,X.fn x=true->X.env.cells.lookup x=some c->X.s₀.heap.objs.size<=c
 hd:X.calm=true->X.A.handled=none
 frames:X.A.frames=some X.stack
 stk:X.stack=X.outer\/(X.stack=X.env::X.outer/\X.env.frame=some X.env.locals)
 exf:∀b∈X.ex,b≠X.env.locals/\ ∀x c,X.env.cells.lookup x=some c->c≠b
 bs:∀b o,X.base.get? b=some o->X.s₀.heap.get? b=some o/\X.H₀ b=none
 bsz:X.base.objs.size<=X.s₀.heap.objs.size
 noex:∀b o,X.base.get? b=some o->b∉X.ex
 exfs:∀b∈X.ex,b∉X.fs
 funs:X.s₀.heap.FunFrames X.base X.outer
 frf:∀b∈X.fs,X.H₀ b=none
structure Inv(X:Cx)(pins:List (Addr×Obj))(σ:List (Option V))(H:Hp)(s:Shared):Prop where
 ok:X.Ok
 os:s.os=X.s₀.os
 bare:AllBare s.gens
 base:Un X.fs X.ex X.H₀ H X.s₀.heap s.heap
 loc:∃m,s.heap.Ns X.env.locals m/\ ∀(i:Nat)(x:Str)(v:V),X.N[i]? = some x->σ[i]? = some (some v)->Vis X.env.scope x-> ∃u,RelV v u/\Look X.env s.heap m x u
 cell:∀x c,X.env.cells.lookup x=some c-> ∃v,s.heap.IsCell c v
 free:H X.env.locals=none
 freeC:∀x c,X.env.cells.lookup x=some c->H c=none
 pin:∀p∈X.pn++pins,s.heap.get? p.1=some p.2/\H p.1=none/\p.1≠X.env.locals/\p.1∉X.fs/\ ∀v,p.2.data≠ .cell v
 hok:HOk X.prog X.w H s.heap
 len:σ.length=X.N.length
section
variable{X:Cx}{pins:List (Addr×Obj)}{σ:List (Option V)}{H H':Hp}{s:Shared}{h':Heap}
theorem Cx.Ok.nofr(ok:X.Ok){b:Addr}{o:Obj}(e:X.base.get? b=some o):b∉X.fs:=λhb=>by
 have:=(ok.funs.mem hb).1
 rw[e]at this;cases this
theorem Inv.bs(I:Inv X pins σ H s):∀b o,X.base.get? b=some o->s.heap.get? b=some o/\H b=none:=λb o e=>
 ⟨I.base.keep b o (I.ok.bs b o e).1 (I.ok.bs b o e).2 (I.ok.nofr e) (I.ok.noex b o e),I.base.free b o (I.ok.bs b o e).1 (I.ok.bs b o e).2 (I.ok.noex b o e)⟩
theorem Inv.bk(I:Inv X pins σ H s):∀b o,X.base.get? b=some o->s.heap.get? b=some o:=λb o e=>(I.bs b o e).1
theorem Inv.mod(I:Inv X pins σ H s):Mod X.K X.mg X.base:=I.ok.mod
theorem Inv.kIn(I:Inv X pins σ H s):X.K.In s.heap:=I.ok.mod.kin.keeps I.bk
theorem Inv.lt(I:Inv X pins σ H s):X.env.locals<s.heap.objs.size:=let ⟨_,hn,_⟩:=I.loc;hn.lt
theorem Inv.sz(I:Inv X pins σ H s):X.s₀.heap.objs.size<=s.heap.objs.size:=Nat.le_trans I.ok.above (Nat.le_of_lt I.lt)
theorem Inv.nofs(I:Inv X pins σ H s){a:Addr}(h:s.heap.objs.size<=a):a∉X.fs:=λhb=>by
 obtain⟨_,o,ho,_⟩:=I.ok.funs.mem hb
 exact absurd (Nat.lt_of_lt_of_le (Heap.lt_size ho) (Nat.le_trans I.sz h)) (Nat.lt_irrefl _)
theorem Inv.cne(I:Inv X pins σ H s):∀x c,X.env.cells.lookup x=some c->c≠X.env.locals:=λx c e z=>by
 obtain⟨v,o,ho,hd⟩:=I.cell x c e
 obtain⟨m,⟨o',es,ep,ho',hd',_⟩,_⟩:=I.loc
 rw[z,ho']at ho;cases ho;rw[hd']at hd;cases hd
theorem Inv.funs(I:Inv X pins σ H s):s.heap.FunFrames X.base X.outer:=by
 have all:∀(l:List Env),(∀b∈frs l,b∈X.fs)->X.s₀.heap.FunFrames X.base l->s.heap.FunFrames X.base l:=by
  intro l
  induction l with
  | nil=>intro _ _;trivial
  | cons env r ih=>
   intro hs hl
   obtain⟨hk,⟨L,o,hf,hn,ho,hd⟩,hr⟩:=hl
   have hL:L∈X.fs:=hs L (by unfold frs;rw[List.filterMap_cons,hf];exact List.mem_cons_self)
   obtain⟨sl,e⟩:=I.base.slot L o ho (I.ok.frf L hL) hL λz=>I.ok.exfs L z hL
   exact⟨hk,⟨L,_,hf,hn,e,hd⟩,ih (λb hb=>hs b (by unfold frs;rw[List.filterMap_cons,hf];exact List.mem_cons_of_mem _ hb)) hr⟩
 exact all X.outer (λ_ hb=>hb) I.ok.funs
theorem Inv.stack(I:Inv X pins σ H s):s.heap.FunFrames X.base X.stack:=by
 rcases I.ok.stk with e|⟨e,hf⟩
 ·rw[e];exact I.funs
 ·rw[e]
  obtain⟨m,hn,_⟩:=I.loc
  refine .cons (by rw[I.ok.kind];decide) hf hn ?_ I.funs
  exact Heap.get?_none_of_le (Nat.le_trans I.ok.bsz I.ok.above)
theorem Inv.stkSub(I:Inv X pins σ H s):∀b∈frs X.stack,b∈X.env.locals::X.fs:=λb hb=>by
 rcases I.ok.stk with e|⟨e,hf⟩
 ·rw[e]at hb;exact List.mem_cons_of_mem _ hb
 ·rw[e]at hb
  unfold frs at hb
  rw[List.filterMap_cons,hf]at hb
  exact hb
theorem Inv.stkFree(I:Inv X pins σ H s):∀b∈frs X.stack,H b=none:=λb hb=>by
 rcases List.mem_cons.mp (I.stkSub b hb)with e|hb
 ·rw[e];exact I.free
 ·obtain⟨_,o,ho,_⟩:=I.ok.funs.mem hb
  exact I.base.free b o ho (I.ok.frf b hb) λz=>I.ok.exfs b z hb
theorem Inv.step{g':Array GenState}{t':Nat}{d':Drawn}{ch:List Addr}(I:Inv X pins σ H s)
  (hch:∀b∈ch,(b∈X.ex\/X.s₀.heap.objs.size<=b)/\b≠X.env.locals/\(∀x c,X.env.cells.lookup x=some c->c≠b)/\ ∀p∈X.pn++pins,p.1≠b)
  (keep:∀b o,b≠X.env.locals->b∉X.fs->b∉ch->s.heap.get? b=some o->H b=none->h'.get? b=some o)
  (slot:∀b o,b≠X.env.locals->b∈X.fs->b∉ch->s.heap.get? b=some o->H b=none-> ∃sl,h'.get? b=some {o with slots:=sl}) (free:∀b o,b∉ch->s.heap.get? b=some o->H b=none->H' b=none)
  (there:∀b o,b∉ch->s.heap.get? b=some o-> ∃o',h'.get? b=some o')
  (tups:∀b xs,H b=some (.tup xs)->H' b=some (.tup xs)) (frzs:∀b o u,H b=some (.frz o u)->H' b=some (.frz o u)) (tbls:∀b ps,H b=some (.tbl ps)-> ∃more,H' b=some (.tbl (ps++more)))
  (ns:∀m,s.heap.Ns X.env.locals m->h'.Ns X.env.locals m) (hok:HOk X.prog X.w H' h') (hg:AllBare g'):
  Inv X pins σ H' {s with heap:=h',gens:=g',drawn:=d',toks:=t'}:=by
 have neL:∀b o,X.s₀.heap.get? b=some o->b≠X.env.locals:=λb o e=>Nat.ne_of_lt (Nat.lt_of_lt_of_le (Heap.lt_size e) I.ok.above)
 have neC:∀b o,X.s₀.heap.get? b=some o->b∉X.ex->b∉ch:=λb o e hx hb=>by
  rcases(hch b hb).1 with z|z
  ·exact hx z
  ·exact absurd (Nat.lt_of_lt_of_le (Heap.lt_size e) z) (Nat.lt_irrefl _)
 have cellK:∀x c,X.env.cells.lookup x=some c-> ∀v,s.heap.IsCell c v->h'.IsCell c v:=λx c e v⟨o,ho,hd⟩=>by
  have nch:c∉ch:=λz=>(hch c z).2.2.1 x c e rfl
  by_cases hc:c∈X.fs
  ·obtain⟨sl,q⟩:=slot c o (I.cne x c e) hc nch ho (I.freeC x c e)
   exact⟨_,q,hd⟩
  ·exact⟨o,keep c o (I.cne x c e) hc nch ho (I.freeC x c e),hd⟩
 refine⟨I.ok,I.os,hg,⟨λb o e n hb hx=>?_,λb o e n hb hx=>?_,λb o e n hx=>?_,λb o e hx=>?_,λb xs e=>tups b xs (I.base.tups b xs e),λb o xs e=>frzs b o xs (I.base.frzs b o xs e),λb ps e=>?_⟩,?_,λx c e=>?_,?_,λx c e=>?_,λp hp=>?_,hok,I.len⟩
 ·exact keep b o (neL b o e) hb (neC b o e hx) (I.base.keep b o e n hb hx) (I.base.free b o e n hx)
 ·obtain⟨sl,e1⟩:=I.base.slot b o e n hb hx
  obtain⟨sl',e2⟩:=slot b _ (neL b o e) hb (neC b o e hx) e1 (I.base.free b o e n hx)
  exact⟨sl',e2⟩
 ·obtain⟨o',e1⟩:=I.base.there b o e hx
  exact free b o' (neC b o e hx) e1 (I.base.free b o e n hx)
 ·obtain⟨o',e1⟩:=I.base.there b o e hx
  exact there b o' (neC b o e hx) e1
 ·obtain⟨m1,e1⟩:=I.base.tbls b ps e
  obtain⟨m2,e2⟩:=tbls b _ e1
  exact⟨m1++m2,by rw[e2,Array.append_assoc]⟩
 ·obtain⟨m,hn,hl⟩:=I.loc
  refine⟨m,ns m hn,λi x v e1 e2 e3=>?_⟩
  obtain⟨u,r,l⟩:=hl i x v e1 e2 e3
  refine⟨u,r,?_⟩
  rcases l with l|⟨k,c,e,z⟩
  ·exact .inl l
  ·exact .inr ⟨k,c,e,cellK x c e _ z⟩
 ·obtain⟨v,z⟩:=I.cell x c e
  exact⟨v,cellK x c e v z⟩
 ·obtain⟨m,⟨o,_,_,ho,_⟩,_⟩:=I.loc
  exact free _ o (λz=>(hch _ z).2.1 rfl) ho I.free
 ·obtain⟨v,o,ho,hd⟩:=I.cell x c e
  exact free c o (λz=>(hch c z).2.2.1 x c e rfl) ho (I.freeC x c e)
 ·obtain⟨e,n,ne,nf,d⟩:=I.pin p hp
  have nch:p.1∉ch:=λz=>(hch p.1 z).2.2.2 p hp rfl
  exact⟨keep p.1 p.2 ne nf nch e n,free p.1 p.2 nch e n,ne,nf,d⟩
theorem Inv.un{t':Nat}(I:Inv X pins σ H s)(u:Un X.fs [] H H' s.heap h')(hok:HOk X.prog X.w H' h'):Inv X pins σ H' {s with heap:=h',toks:=t'}:=by
 obtain⟨m,⟨o,es,ep,ho,r⟩,_⟩:=id I.loc
 obtain⟨sl,hL⟩:=u.any ho I.free (by simp)
 exact I.step (g':=s.gens) (d':=s.drawn) (ch:=[]) (λ_ z=>nomatch z) (λb o _ hb _ e n=>u.keep b o e n hb (by simp)) (λb o _ hb _ e n=>u.slot b o e n hb (by simp)) (λb o _ e n=>u.free b o e n (by simp)) (λb o _ e=>u.there b o e (by simp)) u.tups u.frzs u.tbls (λm' hm=>by
  obtain⟨o',es',ep',ho',r'⟩:=hm
  rw[ho]at ho';cases ho'
  exact⟨_,es',ep',hL,r'⟩) hok I.bare
theorem Inv.call{g':Array GenState}{t':Nat}{d':Drawn}{ch:List Addr}(I:Inv X pins σ H s)(u:Un (frs X.stack) ch H H' s.heap h')(hok:HOk X.prog X.w H' h')(hg:AllBare g')
  (hch:∀b∈ch,(b∈X.ex\/X.s₀.heap.objs.size<=b)/\b≠X.env.locals/\(∀x c,X.env.cells.lookup x=some c->c≠b)/\ ∀p∈X.pn++pins,p.1≠b):
  Inv X pins σ H' {s with heap:=h',gens:=g',drawn:=d',toks:=t'}:=by
 obtain⟨m,⟨o,es,ep,ho,r⟩,_⟩:=id I.loc
 obtain⟨sl,hL⟩:=u.any ho I.free λz=>(hch _ z).2.1 rfl
 exact I.step (ch:=ch) hch (λb o hL hb hc e n=>u.keep b o e n (λz=>(List.mem_cons.mp (I.stkSub b z)).elim hL hb) hc) (λb o _ _ hc e n=>u.any e n hc) (λb o hc e n=>u.free b o e n hc) (λb o hc e=>u.there b o e hc) u.tups u.frzs u.tbls (λm' hm=>by
  obtain⟨o',es',ep',ho',r'⟩:=hm
  rw[ho]at ho';cases ho'
  exact⟨_,es',ep',hL,r'⟩) hok hg
theorem Inv.turned{t':Nat}{it:Addr}(I:Inv X pins σ H s)(k:∀b o,b≠it->s.heap.get? b=some o->h'.get? b=some o)(hn:H it=none)(hL:it≠X.env.locals)
  (h1:it∈X.ex\/X.s₀.heap.objs.size<=it) (h2:∀x c,X.env.cells.lookup x=some c->c≠it) (h3:∀p∈X.pn++pins,p.1≠it):Inv X pins σ H {s with heap:=h',toks:=t'}:=by
 have nit:∀b u,H b=some u->b≠it:=λb u e z=>by rw[z,hn]at e;cases e
 refine I.step (g':=s.gens) (d':=s.drawn) (ch:=[it]) (λb hb=>?_) (λb o _ _ hc e _=>k b o (λz=>hc (by simp[z])) e) (λb o _ _ hc e _=>⟨o.slots,k b o (λz=>hc (by simp[z])) e⟩) (λ_ _ _ _ n=>n)
  (λb o hc e=>⟨o,k b o (λz=>hc (by simp[z])) e⟩) (λ_ _ e=>e) (λ_ _ _ e=>e) (λb ps e=>⟨#[],by rw[e];simp⟩) (λm hm=>?_) (λb u e=>?_) I.bare
 ·have e:b=it:=by simpa using hb
  subst e
  exact⟨h1,hL,h2,h3⟩
 ·obtain⟨o,es,ep,ho,r⟩:=hm
  exact⟨o,es,ep,k _ o (Ne.symm hL) ho,r⟩
 ·refine(I.hok b u e).stay (λc v hc q=>k c v ?_ q) (λ_ q=>q) λ_ _ q=>q
  rcases hc with z|z
  ·rw[z];exact nit b u e
  ·exact nit c _ z
theorem Inv.tok(I:Inv X pins σ H s)(t:Nat):Inv X pins σ H {s with toks:=t}:=I.un (h':=s.heap) (t':=t) Un.refl I.hok
theorem Inv.kept{t':Nat}(I:Inv X pins σ H s)(k:∀b u,s.heap.get? b=some u->h'.get? b=some u):Inv X pins σ H {s with heap:=h',toks:=t'}:=I.un (Un.kept k) (I.hok.kept k)
theorem Inv.laid{a:Addr}{o:HO}{t':Nat}(I:Inv X pins σ H s)(k:∀b u,s.heap.get? b=some u->h'.get? b=some u)(hp:s.heap.objs.size<=a)(new:ObjOk X.prog X.w (upd H a o) h' a o):
  Inv X pins σ (upd H a o) {s with heap:=h',toks:=t'}:=I.un (Un.laid k hp (I.hok.fresh hp)) (I.hok.laid k hp new)
theorem Inv.write{x e:Addr}{o:HO}{t':Nat}(I:Inv X pins σ H s)(mu:Mut (H x))(he:e=x\/H e=some (.own x))(k:∀b u,b≠e->s.heap.get? b=some u->h'.get? b=some u)(heo:∃u,h'.get? e=some u)
  (new:ObjOk X.prog X.w (upd H x o) h' x o):Inv X pins σ (upd H x o) {s with heap:=h',toks:=t'}:=I.un (Un.write mu he k heo) (I.hok.write mu he k heo new)
theorem Inv.pins_of{pins':List (Addr×Obj)}(I:Inv X pins σ H s)(h:∀p∈pins',s.heap.get? p.1=some p.2/\H p.1=none/\p.1≠X.env.locals/\p.1∉X.fs/\ ∀v,p.2.data≠ .cell v):Inv X pins' σ H s:=
 ⟨I.ok,I.os,I.bare,I.base,I.loc,I.cell,I.free,I.freeC,λp hp=>(List.mem_append.mp hp).elim (λz=>I.pin p (List.mem_append_left _ z)) (h p),I.hok,I.len⟩
theorem z7A{N:List Str}(hN:N.Nodup){i j:Nat}{x:Str}(a:N[i]? = some x)(b:N[j]? = some x):i=j:=by
 obtain⟨h1,e1⟩:=List.getElem?_eq_some_iff.mp a
 obtain⟨h2,e2⟩:=List.getElem?_eq_some_iff.mp b
 exact(List.getElem_inj hN).mp (e1.trans e2.symm)
theorem z5P{M:Model}{A:Around}{E:Value->Shared->Prop}{i:Nat}{x:Str}{v:V}{u:Value}{Q:Unit->Shared->Prop}(I:Inv X pins σ H s)(hN:X.N.Nodup)(hi:X.N[i]? = some x)(hx:Loc X.env.scope x)(r:RelV v u)
  (h:∀s',Inv X pins (σ.set i (some v)) H s'->(∃a,Heap.SameBut a s.heap s'.heap/\(a=X.env.locals\/X.env.cells.lookup x=some a))->Q () s') (hf:X.fn x=true\/X.env.scope.names.lookup x=some .local:=by first|exact .inl rfl|exact .inr rfl|assumption):wpAny M A (storeName X.env x u) Q E s:=by
 obtain⟨m,hn,hl⟩:=id I.loc
 have hcls:(X.env.scope.kind== .class||(X.env.scope.kind== .module&&X.env.locals != X.env.globals))=false:=by rw[I.ok.kind];rfl
 have hiσ:i<σ.length:=by rw[I.len];exact(List.getElem?_eq_some_iff.mp hi).1
 have cne:=I.cne
 have tracked:∀{a:Addr}{h':Heap},(∃o,s.heap.get? a=some o/\H a=none)->Heap.SameBut a s.heap h'->HOk X.prog X.w H h':=λ{a h'}ha hs b ob e=>by
  obtain⟨_,_,hfree⟩:=ha
  refine(I.hok b ob e).stay (λc w' hc q=>(hs.2 c ?_).trans q) (λ_ q=>q) λ_ _ q=>q
  rintro rfl
  rcases hc with rfl|hc
  ·rw[hfree]at e;cases e
  ·rw[hfree]at hc;cases hc
 rcases hx with hk|hk
 ·refine wpAny_storeName_local hk hn (λh' hn' hs=>?_) hcls
  obtain⟨oL,_,_,hoL,_⟩:=id hn
  refine h _ ⟨I.ok,I.os,I.bare,⟨λb o e n hb hx=>?_,λb o e n hb hx=>?_,I.base.free,λb o e hx=>?_,I.base.tups,I.base.frzs,I.base.tbls⟩,⟨_,hn',λj y v' e1 e2 e3=>?_⟩,λy c e=>?_,I.free,I.freeC,λp hp=>?_,tracked ⟨oL,hoL,I.free⟩ hs,by simpa using I.len⟩ ⟨_,hs,.inl rfl⟩
  ·exact(hs.2 b (Nat.ne_of_lt (Nat.lt_of_lt_of_le (Heap.lt_size e) I.ok.above))).trans (I.base.keep b o e n hb hx)
  ·obtain⟨sl,e1⟩:=I.base.slot b o e n hb hx
   exact⟨sl,(hs.2 b (Nat.ne_of_lt (Nat.lt_of_lt_of_le (Heap.lt_size e) I.ok.above))).trans e1⟩
  ·obtain⟨o',e1⟩:=I.base.there b o e hx
   exact⟨o',(hs.2 b (Nat.ne_of_lt (Nat.lt_of_lt_of_le (Heap.lt_size e) I.ok.above))).trans e1⟩
  ·by_cases hj:j=i
   ·subst hj
    rw[hi]at e1;cases e1
    rw[List.getElem?_set_self hiσ]at e2
    cases e2
    exact⟨u,r,.inl ⟨hk,by simp⟩⟩
   ·rw[List.getElem?_set_ne (Ne.symm hj)]at e2
    obtain⟨u',r',q⟩:=hl j y v' e1 e2 e3
    refine⟨u',r',?_⟩
    rcases q with⟨k,e⟩|⟨k,c,e,z⟩
    ·refine .inl ⟨k,?_⟩
     have:y≠x:=λe=>hj (z7A hN e1 (e▸hi))
     simp[this,e]
    ·exact .inr ⟨k,c,e,z.sameBut hs (cne y c e)⟩
  ·obtain⟨w',z⟩:=I.cell y c e
   exact⟨w',z.sameBut hs (cne y c e)⟩
  ·obtain⟨e,n,ne,nf,d⟩:=I.pin p hp
   exact⟨(hs.2 p.1 ne).trans e,n,ne,nf,d⟩
 ·have hfn:X.fn x=true:=by
   rcases hf with z|z
   ·exact z
   ·rw[z]at hk;cases hk
  obtain⟨c,hc⟩:=I.ok.has x (.inl hk)
  obtain⟨w',z⟩:=I.cell x c hc
  refine wpAny_storeName_cell I.ok.kind hk hc z (λh' hc' hs=>?_)
  obtain⟨oc,hoc,hocd⟩:=id z
  refine h {s with heap:=h'} ⟨I.ok,I.os,I.bare,⟨λb o e n hb hx=>?_,λb o e n hb hx=>?_,I.base.free,λb o e hx=>?_,I.base.tups,I.base.frzs,I.base.tbls⟩,⟨m,hn.sameBut hs (Ne.symm (cne x c hc)),λj y v' e1 e2 e3=>?_⟩,λy c' e=>?_,I.free,I.freeC,λp hp=>?_,tracked ⟨oc,hoc,I.freeC x c hc⟩ hs,by simpa using I.len⟩ ⟨c,hs,.inr hc⟩
  ·exact(hs.2 b (Nat.ne_of_lt (Nat.lt_of_lt_of_le (Heap.lt_size e) (I.ok.cab x c hfn hc)))).trans (I.base.keep b o e n hb hx)
  ·obtain⟨sl,e1⟩:=I.base.slot b o e n hb hx
   exact⟨sl,(hs.2 b (Nat.ne_of_lt (Nat.lt_of_lt_of_le (Heap.lt_size e) (I.ok.cab x c hfn hc)))).trans e1⟩
  ·obtain⟨o',e1⟩:=I.base.there b o e hx
   exact⟨o',(hs.2 b (Nat.ne_of_lt (Nat.lt_of_lt_of_le (Heap.lt_size e) (I.ok.cab x c hfn hc)))).trans e1⟩
  ·by_cases hj:j=i
   ·subst hj
    rw[hi]at e1;cases e1
    rw[List.getElem?_set_self hiσ]at e2
    cases e2
    exact⟨u,r,.inr ⟨.inl hk,c,hc,hc'⟩⟩
   ·rw[List.getElem?_set_ne (Ne.symm hj)]at e2
    obtain⟨u',r',q⟩:=hl j y v' e1 e2 e3
    refine⟨u',r',?_⟩
    rcases q with q|⟨k,c',e,z'⟩
    ·exact .inl q
    ·refine .inr ⟨k,c',e,z'.sameBut hs ?_⟩
     rintro rfl
     exact hj (z7A hN e1 (I.ok.inj _ _ _ e hc▸hi))
  ·by_cases hcc:c'=c
   ·subst hcc;exact⟨_,hc'⟩
   ·obtain⟨w2,z2⟩:=I.cell y c' e
    exact⟨w2,z2.sameBut hs hcc⟩
  ·obtain⟨e,n,ne,nf,d⟩:=I.pin p hp
   refine⟨(hs.2 p.1 ?_).trans e,n,ne,nf,d⟩
   intro q
   rw[q,hoc]at e
   have q':oc=p.2:=Option.some.inj e
   exact d w' (by rw[<-q'];exact hocd)
theorem z30{M:Model}{A:Around}{E:Value->Shared->Prop}{i:Nat}{x:Str}{v:V}{u:Value}{Q:Unit->Shared->Prop}(I:Inv X pins σ H s)(hN:X.N.Nodup)(hi:X.N[i]? = some x)(hx:Loc X.env.scope x)(r:RelV v u)
  (h:∀s',Inv X pins (σ.set i (some v)) H s'->Q () s') (hf:X.fn x=true\/X.env.scope.names.lookup x=some .local:=by first|exact .inl rfl|exact .inr rfl|assumption):wpAny M A (storeName X.env x u) Q E s:=
 z5P I hN hi hx r (λs' I' _=>h s' I') hf
theorem Inv.call'{s':Shared}{ch:List Addr}(I:Inv X pins σ H s)(ho:s'.os=s.os)(u:Un (frs X.stack) ch H H' s.heap s'.heap)(hok:HOk X.prog X.w H' s'.heap)(hg:AllBare s'.gens)
  (hch:∀b∈ch,(b∈X.ex\/X.s₀.heap.objs.size<=b)/\b≠X.env.locals/\(∀x c,X.env.cells.lookup x=some c->c≠b)/\ ∀p∈X.pn++pins,p.1≠b):Inv X pins σ H' s':=by
 obtain⟨h',g',d',t',o'⟩:=s'
 have e:o'=s.os:=ho
 subst e
 exact I.call (g':=g') (t':=t') (d':=d') u hok hg hch
end
abbrev XK:=Value->Option Addr->Hp->Prop
abbrev St:=List (Option V)
abbrev VK:=V->Hp->Prop
abbrev TE:=St->Hp->VK->Prop
abbrev TT:=St->Hp->(Bool->Hp->Prop)->Prop
abbrev TA:=St->Hp->(List V->Hp->Prop)->Prop
structure Ends where
 nx:St->Hp->Prop
 rt:VK
 bk:St->Hp->Prop:=λ_ _=>False
 ct:St->Hp->Prop:=λ_ _=>False
abbrev TS:=Ends->St->Hp->Prop
def EP(X:Cx)(pins:List (Addr×Obj))(σ:St)(Q:VK)(u:Value)(s':Shared):Prop:=∃v H',Inv X pins σ H' s'/\RelV v u/\Q v H'
def TP(X:Cx)(pins:List (Addr×Obj))(σ:St)(Q:Bool->Hp->Prop)(b:Bool)(s':Shared):Prop:=∃H',Inv X pins σ H' s'/\Q b H'
def AP(X:Cx)(pins:List (Addr×Obj))(σ:St)(Q:List V->Hp->Prop)(us:List Value)(s':Shared):Prop:=∃vs H',Inv X pins σ H' s'/\Vals vs us/\Q vs H'
def SP(X:Cx)(pins:List (Addr×Obj))(D:Ends)(f:Flow)(s':Shared):Prop:=
 match f with
 | .next=>∃σ' H',Inv X pins σ' H' s'/\D.nx σ' H'
 | .brk=>∃σ' H',Inv X pins σ' H' s'/\D.bk σ' H'
 | .cont=>∃σ' H',Inv X pins σ' H' s'/\D.ct σ' H'
 | .ret u=>∃v σ' H',Inv X pins σ' H' s'/\RelV v u/\D.rt v H'
def PE(X:Cx)(e:Expr)(t:TE):Prop:=
 ∀(pins:List (Addr×Obj))(s:Shared)(σ:St)(H:Hp)(Q:VK),Inv X pins σ H s->t σ H Q->wpAny (model X.prog X.w) X.A (eval e X.env) (EP X pins σ Q) X.xe s
def PT(X:Cx)(e:Expr)(t:TT):Prop:=
 ∀(pins:List (Addr×Obj))(s:Shared)(σ:St)(H:Hp)(Q:Bool->Hp->Prop),Inv X pins σ H s->t σ H Q->wpAny (model X.prog X.w) X.A (isTrue e X.env (eval e X.env)) (TP X pins σ Q) X.xe s
def PW(X:Cx)(e:Expr)(t:TT):Prop:=
 ∀(whole:Sem Value)(pins:List (Addr×Obj))(s:Shared)(σ:St)(H:Hp)(Q:Bool->Hp->Prop),Inv X pins σ H s->t σ H Q->wpAny (model X.prog X.w) X.A (isTrue e X.env whole) (TP X pins σ Q) X.xe s
theorem PW.pt{X:Cx}{e:Expr}{t:TT}(h:PW X e t):PT X e t:=h _
def PA(X:Cx)(es:List Expr)(t:TA):Prop:=
 ∀(pos:Pos)(pins:List (Addr×Obj))(s:Shared)(σ:St)(H:Hp)(Q:List V->Hp->Prop),Inv X pins σ H s->t σ H Q->wpAny (model X.prog X.w) X.A (spliced (backTo pos (starEach es X.env))) (AP X pins σ Q) X.xe s
def PS(X:Cx)(st:Stmt)(t:TS):Prop:=
 ∀(pins:List (Addr×Obj))(s:Shared)(σ:St)(H:Hp)(D:Ends),Inv X pins σ H s->t D σ H->wpAny (model X.prog X.w) X.A (exec st X.env) (SP X pins D) X.xe s
def PSs(X:Cx)(st:List Stmt)(t:TS):Prop:=
 ∀(pins:List (Addr×Obj))(s:Shared)(σ:St)(H:Hp)(D:Ends),Inv X pins σ H s->t D σ H->wpAny (model X.prog X.w) X.A (execs st X.env) (SP X pins D) X.xe s
theorem thn{α:Type}{t:Sem α}{Q Q':α->Shared->Prop}{M:Model}{A:Around}{E:Value->Shared->Prop}{s:Shared}(h:wpAny M A t Q E s)(hQ:∀a s,Q a s->Q' a s):wpAny M A t Q' E s:=wpAny_mono h hQ λ_ _ x=>x
end L2
namespace L2
open PySem PySem.Spec PyProof.Rows
section
variable{X:Cx}
def tVar(i:Nat):TE:=λσ H Q=>∃v,σ[i]? = some (some v)/\Q v H
def tC(v:V):TE:=λ_ H Q=>Q v H
theorem z3w{i:Nat}{x:Str}{pos:Pos}(hN:X.N[i]? = some x)(hv:Vis X.env.scope x)(hd:(x==("__debug__":Str))=false:=by decide)(hcd:(x==("__classdict__":Str))=false:=by decide):PE X (.Name x pos) (tVar i):=by
 intro pins s σ H Q I h
 obtain⟨v,e,h⟩:=h
 obtain⟨m,hn,hl⟩:=I.loc
 obtain⟨u,r,l⟩:=hl i x v hN e hv
 have fin:EP X pins σ Q u s:=⟨v,H,I,r,h⟩
 rcases l with⟨hk,hm⟩|⟨hk,c,hc,hcell⟩
 ·exact wpAny_Name (wpAny_loadName_local I.ok.kind hk hn hm fin) hd
 ·rcases hk with hk|hk
  ·exact wpAny_Name (wpAny_loadName_cell I.ok.kind hk hc hcell fin) hd
  ·exact wpAny_Name (wpAny_loadName_free I.ok.kind hk hc hcell fin hcd) hd
theorem zE6{i j pos}:PE X (.Constant (.int i) j pos) (tC (.int i)):=λ_ _ _ H _ I h=>wpAny_Constant_int ⟨.int i,H,I.tok _,⟨_,rfl⟩,h⟩
theorem zGe{b j pos}:PE X (.Constant (.bool b) j pos) (tC (.bl b)):=λ_ _ _ H _ I h=>Constant_bool ⟨.bl b,H,I,rfl,h⟩
theorem z5Q{j pos}:PE X (.Constant .none j pos) (tC .non):=λ_ _ _ H _ I h=>Constant_none ⟨.non,H,I,rfl,h⟩
theorem zE7{x j pos}:PE X (.Constant (.str x) j pos) (tC (.str x)):=λ_ _ _ H _ I h=>Calls.Constant_str ⟨.str x,H,I.tok _,⟨_,rfl⟩,h⟩
def Gl(X:Cx)(x:Str):Prop:=X.env.kindOf x=some .globalImplicit
theorem z3G{E:Value->Shared->Prop}{pins:List (Addr×Obj)}{s:Shared}{σ:St}{H:Hp}{x:Str}{u:Value}{pos:Pos}{Q:Value->Shared->Prop}(I:Inv X pins σ H s)(hg:Gl X x)(hm:X.mg x=some u)(h:Q u s)
  (hd:(x==("__debug__":Str))=false:=by decide):wpAny (model X.prog X.w) X.A (eval (.Name x pos) X.env) Q E s:=
 Calls.Name_function_global I.ok.kind hg (Calls.loadGlobal_global (by rw[I.ok.glob];exact I.mod.glob.keeps I.bk) hm h) hd
theorem z5R{E:Value->Shared->Prop}{pins:List (Addr×Obj)}{s:Shared}{σ:St}{H:Hp}{x:Str}{u:Value}{pos:Pos}{Q:Value->Shared->Prop}(I:Inv X pins σ H s)(hg:Gl X x)(hm:X.mg x=none)(hv:bootBuiltins x=some u)(h:Q u s)
  (hn:x≠"__name__":=by decide) (hd:(x==("__debug__":Str))=false:=by decide):wpAny (model X.prog X.w) X.A (eval (.Name x pos) X.env) Q E s:=by
 obtain⟨mb,h1,h2⟩:=I.mod.blt
 exact Calls.Name_function_global I.ok.kind hg (Calls.loadGlobal_builtin (by rw[I.ok.glob];exact I.mod.glob.keeps I.bk) hm (by rw[I.ok.blt];exact h1.keeps I.bk) ((h2 x hn).trans hv) h) hd
theorem zCA{x:Str}{v:V}{u:Value}{pos:Pos}(hg:Gl X x)(hm:X.mg x=some u)(r:RelV v u)(hd:(x==("__debug__":Str))=false:=by decide):PE X (.Name x pos) (tC v):=
 λ_ _ _ H _ I h=>z3G I hg hm ⟨v,H,I,r,h⟩ hd
theorem zCB{x:Str}{v:V}{u:Value}{pos:Pos}(hg:Gl X x)(hm:X.mg x=none)(hv:bootBuiltins x=some u)(r:RelV v u)(hn:x≠"__name__":=by decide)(hd:(x==("__debug__":Str))=false:=by decide):PE X (.Name x pos) (tC v):=
 λ_ _ _ H _ I h=>z5R I hg hm hv ⟨v,H,I,r,h⟩ hn hd
variable{a b:Expr}{ta tb:TE}{pos:Pos}
def tB(t:TE):TT:=λσ H Q=>t σ H λx H1=>∃c,x= .bl c/\Q c H1
theorem zE8{e:Expr}{t:TE}(h:PE X e t)(he:∀whole,isTrue e X.env whole=(do let v <-whole;standAt e.pos;holding [v] (truthy v)):=by intro _;rfl):PT X e (tB t):=by
 intro pins s σ H Q I hw
 refine isTrue_plain (thn (h pins s σ H _ I hw) λv s1⟨x,H1,I1,r1,q1⟩=>?_) (he _)
 obtain⟨d,rfl,q⟩:=q1
 cases r1
 exact wpAny_truthy_bool ⟨H1,I1,q⟩
variable{tA tB':TT}{rest:List Expr}
def tAnd(t u:TT):TT:=λσ H Q=>t σ H λc H1=>if c=true then u σ H1 Q else Q false H1
def tOr(t u:TT):TT:=λσ H Q=>t σ H λc H1=>if c=true then Q true H1 else u σ H1 Q
def tNot(t:TT):TT:=λσ H Q=>t σ H λc H1=>Q (!c) H1
theorem zCC(ha:PT X a tA):PW X (.BoolOp .And [a] pos) tA:=by
 intro wh pins s σ H Q I h
 refine isTrue_and (thn (ha pins s σ H Q I h) λc s1 e=>?_)
 cases c with
 | true=>exact isTrue_and_nil e
 | false=>exact e
theorem zE9(ha:PT X a tA):PW X (.BoolOp .Or [a] pos) tA:=by
 intro wh pins s σ H Q I h
 refine isTrue_or (thn (ha pins s σ H Q I h) λc s1 e=>?_)
 cases c with
 | false=>exact isTrue_or_nil e
 | true=>exact e
theorem zEA(ha:PT X a tA)(hb:PW X (.BoolOp .And (b::rest) pos) tB'):PW X (.BoolOp .And (a::b::rest) pos) (tAnd tA tB'):=by
 intro wh pins s σ H Q I h
 refine isTrue_and (thn (ha pins s σ H _ I h) λc s1⟨H1,I1,q1⟩=>?_)
 cases c with
 | true=>exact hb wh pins s1 σ H1 Q I1 q1
 | false=>exact⟨H1,I1,q1⟩
theorem zGf(ha:PT X a tA)(hb:PW X (.BoolOp .Or (b::rest) pos) tB'):PW X (.BoolOp .Or (a::b::rest) pos) (tOr tA tB'):=by
 intro wh pins s σ H Q I h
 refine isTrue_or (thn (ha pins s σ H _ I h) λc s1⟨H1,I1,q1⟩=>?_)
 cases c with
 | true=>exact⟨H1,I1,q1⟩
 | false=>exact hb wh pins s1 σ H1 Q I1 q1
theorem zEB(ha:PT X a tA):PT X (.UnaryOp .Not a pos) (tNot tA):=by
 intro pins s σ H Q I h
 exact isTrue_not (ha pins s σ H (λc H1=>Q (!c) H1) I h)
def tAndV(ta tb:TE):TE:=λσ H Q=>ta σ H λx H1=>∃c,x= .bl c/\if c=true then tb σ H1 Q else Q (.bl false) H1
def tOrV(ta tb:TE):TE:=λσ H Q=>ta σ H λx H1=>∃c,x= .bl c/\if c=true then Q (.bl true) H1 else tb σ H1 Q
def tNotV(ta:TE):TE:=λσ H Q=>ta σ H λx H1=>∃c,x= .bl c/\Q (.bl (!c)) H1
theorem zEC{op}{t:TE}(h:PE X a t):PE X (.BoolOp op [a] pos) t:=λpins s σ H Q I hw=>BoolOp_one (h pins s σ H Q I hw)
theorem zED(ha:PE X a ta)(hb:PE X (.BoolOp .And (b::rest) pos) tb):PE X (.BoolOp .And (a::b::rest) pos) (tAndV ta tb):=by
 intro pins s σ H Q I h
 refine BoolOp_and (thn (ha pins s σ H _ I h) λv s1⟨x,H1,I1,r1,q1⟩=>?_)
 obtain⟨c,rfl,q1⟩:=q1
 cases r1
 refine wpAny_truthy_bool ?_
 cases c with
 | true=>exact hb pins s1 σ H1 Q I1 q1
 | false=>exact⟨.bl false,H1,I1,rfl,q1⟩
theorem zGg(ha:PE X a ta)(hb:PE X (.BoolOp .Or (b::rest) pos) tb):PE X (.BoolOp .Or (a::b::rest) pos) (tOrV ta tb):=by
 intro pins s σ H Q I h
 refine BoolOp_or (thn (ha pins s σ H _ I h) λv s1⟨x,H1,I1,r1,q1⟩=>?_)
 obtain⟨c,rfl,q1⟩:=q1
 cases r1
 refine wpAny_truthy_bool ?_
 cases c with
 | false=>exact hb pins s1 σ H1 Q I1 q1
 | true=>exact⟨.bl true,H1,I1,rfl,q1⟩
theorem zEE(ha:PE X a ta):PE X (.UnaryOp .Not a pos) (tNotV ta):=by
 intro pins s σ H Q I h
 refine UnaryOp_ (thn (ha pins s σ H _ I h) λv s1⟨x,H1,I1,r1,q1⟩=>?_)
 obtain⟨c,rfl,q1⟩:=q1
 cases r1
 exact not_of (wpAny_truthy_bool ⟨.bl (!c),H1,I1,rfl,q1⟩)
def tIf(t:TT)(ta tb:TE):TE:=λσ H Q=>t σ H λc H1=>if c=true then ta σ H1 Q else tb σ H1 Q
theorem zAX{c:Expr}(hc:PT X c tA)(ha:PE X a ta)(hb:PE X b tb):PE X (.IfExp c a b pos) (tIf tA ta tb):=by
 intro pins s σ H Q I h
 refine wpAny_IfExp (thn (hc pins s σ H _ I h) λd s1⟨H1,I1,q1⟩=>?_)
 cases d with
 | true=>exact ha pins s1 σ H1 Q I1 q1
 | false=>exact hb pins s1 σ H1 Q I1 q1
end
end L2
namespace L2
open PySem PySem.Spec PyProof.Rows
def SqL(K:PySem.W.Frag)(H:Hp)(a:Addr)(xs:List V):Prop:=
 Rd H a (.lst xs)\/
  ∃(o:Obj)(its:Array Value)(n:Nat),K.lookup a=some o/\o.cls= .type "list"/\o.dict=none/\o.data= .seq its n/\its.size<=sizeLine/\Vals xs its.toList
def SqT(K:PySem.W.Frag)(H:Hp)(a:Addr)(xs:List V):Prop:=
 Rd H a (.tup xs)\/
  ∃(o:Obj)(its:Array Value)(n:Nat),K.lookup a=some o/\o.cls= .type "tuple"/\o.data= .seq its n/\its.size<=sizeLine/\Vals xs its.toList
def absV:Value->Option V
 | .none=>some .non
 | .bool b=>some (.bl b)
 | .int i _=>some (.int i)
 | .str x _=>some (.str x)
 | .bytes b _=>some (.byt b)
 | .float b _=>some (.flt b)
 | .ref a=>some (.ref a)
 | .type n=>some (.ty n)
 | _=>none
theorem RelV.abs{x:V}{u:Value}(r:RelV x u):absV u=some x:=by
 cases x with
 | non=>cases r;rfl
 | bl _=>cases r;rfl
 | int _=>obtain⟨t,rfl⟩:=r;rfl
 | str _=>obtain⟨t,rfl⟩:=r;rfl
 | byt _=>obtain⟨t,rfl⟩:=r;rfl
 | flt _=>obtain⟨t,rfl⟩:=r;rfl
 | ref _=>cases r;rfl
 | ty _=>cases r;rfl
theorem RelV.inj{x y:V}{u:Value}(r:RelV x u)(q:RelV y u):x=y:=Option.some.inj (r.abs.symm.trans q.abs)
theorem Vals.inj:∀{xs ys:List V}{us:List Value},Vals xs us->Vals ys us->xs=ys
 | _,_,_,.nil,.nil=>rfl
 | _,_,_,.cons r t,.cons r' t'=>by rw[r.inj r',Vals.inj t t']
section
variable{X:Cx}{pins:List (Addr×Obj)}{σ:St}{H:Hp}{s:Shared}{a:Addr}{xs ys:List V}
theorem SqL.of{K:PySem.W.Frag}(h:H a=some (.lst xs)):SqL K H a xs:=.inl (.inl h)
theorem SqT.of{K:PySem.W.Frag}(h:H a=some (.tup xs)):SqT K H a xs:=.inl (.inl h)
theorem Inv.list(I:Inv X pins σ H s)(h:SqL X.K H a xs):∃its:List Value,Vals xs its/\PlainL s.heap a its.toArray/\xs.length<=sizeLine:=by
 rcases h with h|⟨o,its,n,hk,hc,hd,hs,hz,r⟩
 ·obtain⟨z,its,n,r,e⟩:=h.ok I.hok
  exact⟨its,r,⟨_,n,e,rfl,rfl,rfl⟩,z⟩
 ·refine⟨its.toList,r,⟨o,n,I.kIn a o hk,hc,hd,by simpa using hs⟩,?_⟩
  have e:=r.length
  simp only[Array.length_toList]at e
  lia
theorem Inv.tuple(I:Inv X pins σ H s)(h:SqT X.K H a xs):∃its:List Value,Vals xs its/\IsTup s.heap a its.toArray/\xs.length<=sizeLine:=by
 rcases h with h|⟨o,its,n,hk,hc,hs,hz,r⟩
 ·obtain⟨z,its,r,p⟩:=h.ok I.hok
  exact⟨its,r,p,z⟩
 ·refine⟨its.toList,r,⟨o,I.kIn a o hk,hc,n,by simpa using hs⟩,?_⟩
  have e:=r.length
  simp only[Array.length_toList]at e
  lia
theorem Inv.list_inj(I:Inv X pins σ H s)(h:SqL X.K H a xs)(h':SqL X.K H a ys):xs=ys:=by
 obtain⟨its,r,⟨o,n,e,_,_,d⟩,_⟩:=I.list h
 obtain⟨its',r',⟨o',n',e',_,_,d'⟩,_⟩:=I.list h'
 rw[e]at e';cases e'
 rw[d]at d'
 injection d' with d1 _
 have:its=its':=by simpa using congrArg Array.toList d1
 subst this
 exact r.inj r'
theorem Inv.tuple_inj(I:Inv X pins σ H s)(h:SqT X.K H a xs)(h':SqT X.K H a ys):xs=ys:=by
 obtain⟨its,r,⟨o,e,_,n,d⟩,_⟩:=I.tuple h
 obtain⟨its',r',⟨o',e',_,n',d'⟩,_⟩:=I.tuple h'
 rw[e]at e';cases e'
 rw[d]at d'
 injection d' with d1 _
 have:its=its':=by simpa using congrArg Array.toList d1
 subst this
 exact r.inj r'
end
abbrev Cx.wish(X:Cx)(E:Value->Shared->Prop):Cx:={X with xe:=E}
abbrev Cx.nox(X:Cx):Cx:=X.wish λ_ _=>False
theorem Cx.Ok.wish{X:Cx}(ok:X.Ok)(E:Value->Shared->Prop):(X.wish E).Ok:=
 ⟨ok.mod,ok.kind,ok.glob,ok.blt,ok.above,ok.inj,ok.has,ok.cab,ok.hd,ok.frames,ok.stk,ok.exf,ok.bs,ok.bsz,ok.noex,ok.exfs,ok.funs,ok.frf⟩
theorem Cx.Ok.unwish{X:Cx}{E:Value->Shared->Prop}(ok:(X.wish E).Ok):X.Ok:=
 ⟨ok.mod,ok.kind,ok.glob,ok.blt,ok.above,ok.inj,ok.has,ok.cab,ok.hd,ok.frames,ok.stk,ok.exf,ok.bs,ok.bsz,ok.noex,ok.exfs,ok.funs,ok.frf⟩
section
variable{X:Cx}{pins:List (Addr×Obj)}{σ:St}{H:Hp}{s:Shared}{E:Value->Shared->Prop}
theorem Inv.wish(I:Inv X pins σ H s)(E:Value->Shared->Prop):Inv (X.wish E) pins σ H s:=⟨I.ok.wish E,I.os,I.bare,I.base,I.loc,I.cell,I.free,I.freeC,I.pin,I.hok,I.len⟩
theorem Inv.unwish(I:Inv (X.wish E) pins σ H s):Inv X pins σ H s:=⟨I.ok.unwish,I.os,I.bare,I.base,I.loc,I.cell,I.free,I.freeC,I.pin,I.hok,I.len⟩
theorem SP.unwish{D:Ends}{f:Flow}{s':Shared}(h:SP (X.wish E) pins D f s'):SP X pins D f s':=by
 cases f with
 | next=>obtain⟨σ',H',I,q⟩:=h;exact⟨σ',H',I.unwish,q⟩
 | brk=>obtain⟨σ',H',I,q⟩:=h;exact⟨σ',H',I.unwish,q⟩
 | cont=>obtain⟨σ',H',I,q⟩:=h;exact⟨σ',H',I.unwish,q⟩
 | ret u=>obtain⟨v,σ',H',I,r,q⟩:=h;exact⟨v,σ',H',I.unwish,r,q⟩
end
section
variable{X:Cx}{st:Stmt}{rest:List Stmt}{t u:TS}{e:Expr}{te:TE}{pos:Pos}
def tNext:TS:=λD σ H=>D.nx σ H
def tSeq(t u:TS):TS:=λD σ H=>t {D with nx:=u D} σ H
theorem zCD:PSs X [] tNext:=λ_ _ σ H _ I h=>wpAny_execs_nil ⟨σ,H,I,h⟩
theorem z4T(h1:PS X st t)(h2:PSs X rest u):PSs X (st::rest) (tSeq t u):=by
 intro pins s σ H D I h
 refine wpAny_execs_cons (thn (h1 pins s σ H {D with nx:=u D} I h) λf s1 q=>?_)
 cases f with
 | next=>
  obtain⟨σ',H',I',q⟩:=q
  exact h2 pins s1 σ' H' D I' q
 | ret v=>exact q
 | brk=>exact q
 | cont=>exact q
theorem zCE(h1:PS X st t):PSs X [st] t:=by
 intro pins s σ H D I h
 refine wpAny_execs_cons (thn (h1 pins s σ H D I h) λf s1 q=>?_)
 cases f with
 | next=>exact wpAny_execs_nil q
 | ret v=>exact q
 | brk=>exact q
 | cont=>exact q
theorem zCF:PS X (.Pass pos) tNext:=λ_ _ σ H _ I h=>wpAny_Pass ⟨σ,H,I,h⟩
theorem Inv.quiet{pins:List (Addr×Obj)}{σ:St}{H:Hp}{s:Shared}(I:Inv X pins σ H s):interactive X.env=false:=by simp[interactive,I.ok.kind]
def tDrop(te:TE):TS:=λD σ H=>te σ H λ_ H1=>D.nx σ H1
theorem z3H(he:PE X e te)(hs:swapsWith e none pos.line X.env=pure false:=by rfl):PS X (.Expr e pos) (tDrop te):=by
 intro pins s σ H D I h
 exact wpAny_Expr_any (thn (he pins s σ H _ I h) λv s1⟨x,H1,I1,r1,q1⟩=>⟨σ,H1,I1,q1⟩) I.quiet hs
def tRet(te:TE):TS:=λD σ H=>te σ H D.rt
theorem zEF(he:PE X e te):PS X (.Return (some e) pos) (tRet te):=by
 intro pins s σ H D I h
 exact wpAny_Return_some (thn (he pins s σ H _ I h) λv s1⟨x,H1,I1,r1,q1⟩=>⟨x,σ,H1,I1,r1,q1⟩)
def tIfS(c:TT)(t u:TS):TS:=λD σ H=>c σ H λb H1=>if b=true then t D σ H1 else u D σ H1
theorem zGh{c:Expr}{a b:List Stmt}{tc:TT}(hc:PT X c tc)(ha:PSs X a t)(hb:PSs X b u):PS X (.If c a b pos) (tIfS tc t u):=by
 intro pins s σ H D I h
 refine wpAny_If (thn (hc pins s σ H _ I h) λd s1⟨H1,I1,q1⟩=>?_)
 cases d with
 | true=>exact ha pins s1 σ H1 D I1 q1
 | false=>exact hb pins s1 σ H1 D I1 q1
end
abbrev TG:=V->St->Hp->(St->Hp->Prop)->Prop
abbrev TGs:=List V->St->Hp->(St->Hp->Prop)->Prop
def PG(X:Cx)(target:Expr)(t:TG):Prop:=
 ∀(pins:List (Addr×Obj))(s:Shared)(σ:St)(H:Hp)(v:V)(u:Value)(Q:St->Hp->Prop),Inv X pins σ H s->RelV v u->t v σ H Q->
  wpAny (model X.prog X.w) X.A (assign target X.env u) (λ_ s'=>∃σ' H',Inv X pins σ' H' s'/\Q σ' H') X.xe s
def PGs(X:Cx)(ts:List Expr)(t:TGs):Prop:=
 ∀(pins:List (Addr×Obj))(s:Shared)(σ:St)(H:Hp)(vs:List V)(us:List Value)(Q:St->Hp->Prop),Inv X pins σ H s->Vals vs us->t vs σ H Q->
  wpAny (model X.prog X.w) X.A (assignInOrder ((assignEach ts X.env).map (·.2)) us) (λ_ s'=>∃σ' H',Inv X pins σ' H' s'/\Q σ' H') X.xe s
abbrev TSet:=V->V->V->Hp->(Hp->Prop)->Prop
def PSet(X:Cx)(t:TSet):Prop:=
 ∀(pins:List (Addr×Obj))(s:Shared)(σ:St)(H:Hp)(o i v:V)(ov iv u:Value)(Q:Hp->Prop),Inv X pins σ H s->RelV o ov->RelV i iv->RelV v u->t o i v H Q->
  wpAny (model X.prog X.w) X.A (setItem ov iv u) (λ_ s'=>∃H',Inv X pins σ H' s'/\Q H') X.xe s
section
variable{X:Cx}{pos:Pos}
def gName(i:Nat):TG:=λv σ H Q=>Q (σ.set i (some v)) H
theorem zCG{i:Nat}{x:Str}(hN:X.N.Nodup)(hi:X.N[i]? = some x)(hx:Loc X.env.scope x)(hf:X.fn x=true\/X.env.scope.names.lookup x=some .local:=by first|exact .inl rfl|exact .inr rfl|assumption):PG X (.Name x pos) (gName i):=by
 intro pins s σ H v u Q I r h
 exact wpAny_assign_Name (z30 I hN hi hx r (λs' I'=>⟨_,H,I',h⟩) hf)
def gNil:TGs:=λvs σ H Q=>vs=[]/\Q σ H
def gCons(t:TG)(u:TGs):TGs:=λvs σ H Q=>∃v r,vs=v::r/\t v σ H λσ' H'=>u r σ' H' Q
theorem zCH:PGs X [] gNil:=by
 intro pins s σ H vs us Q I r h
 obtain⟨e,h⟩:=h
 subst e
 cases r
 exact assignInOrder_nil ⟨σ,H,I,h⟩
theorem z7B{e:Expr}{es:List Expr}{t:TG}{u:TGs}(h1:PG X e t)(h2:PGs X es u)
  (hs:(assignEach (e::es) X.env).map (·.2)=assign e X.env::(assignEach es X.env).map (·.2):=by rfl):PGs X (e::es) (gCons t u):=by
 intro pins s σ H vs us Q I r h
 obtain⟨v,vr,e1,h⟩:=h
 subst e1
 cases r with
 | cons r rr=>
  rw[hs]
  refine assignInOrder_cons (thn (h1 pins s σ H _ _ _ I r h) λ_ s1⟨σ1,H1,I1,q1⟩=>?_)
  exact h2 pins s1 σ1 H1 _ _ Q I1 rr q1
def gTup(K:PySem.W.Frag)(n:Nat)(t:TGs):TG:=λv σ H Q=>∃a xs,v= .ref a/\SqT K H a xs/\xs.length=n/\t xs σ H Q
theorem zEG{es:List Expr}{k:Nat}{t:TGs}{n:Nat}(hc:X.calm=true)(h:PGs X es t)
  (hn:(assignEach es X.env).length=n:=by rfl) (hst:(assignEach es X.env).findIdx? (·.1)=none:=by rfl):PG X (.Tuple es k pos) (gTup X.K n t):=by
 intro pins s σ H v u Q I r hw
 obtain⟨a,xs,e1,hq,hl,hw⟩:=hw
 subst e1
 cases r
 obtain⟨its,rv,ht,hz⟩:=I.tuple hq
 refine assign_Tuple_tuple (I.ok.hd hc) ht (by simp[hn,<-hl,rv.length]) hst λh' hx=>?_
 have I1:Inv X pins σ H {s with heap:=h'}:=I.kept (t':=s.toks) λb o e=>hx b o (Nat.ne_of_lt (Heap.lt_size e)) e
 exact h pins _ σ H xs _ Q I1 (by simpa using rv) hw
def gSub(to ti:TE)(t:TSet):TG:=λv σ H Q=>to σ H λo H1=>ti σ H1 λi H2=>t o i v H2 λH3=>Q σ H3
theorem zEH{o i:Expr}{to ti:TE}{t:TSet}(ho:PE X o to)(hi:PE X i ti)(hs:PSet X t)
  (ha:∀v,assign (.Subscript o i pos) X.env v=(do
   let ov <-holding [v] (eval o X.env)
   let iv <-holding [v,ov] (eval i X.env)
   standAt pos
   holding [v,ov,iv] (setItem ov iv v)
   release [v,ov,iv] []):=by intro _;rfl):PG X (.Subscript o i pos) (gSub to ti t):=by
 intro pins s σ H v u Q I r h
 rw[ha]
 refine wpAny_bind (wpAny_holding (thn (ho pins s σ H _ I h) λov s1⟨x,H1,I1,r1,q1⟩=>?_))
 refine wpAny_bind (wpAny_holding (thn (hi pins s1 σ H1 _ I1 q1) λiv s2⟨y,H2,I2,r2,q2⟩=>?_))
 refine wpAny_bind (wpAny_standAt (wpAny_bind (wpAny_holding (thn (hs pins s2 σ H2 x y v ov iv u _ I2 r1 r2 r q2) λ_ s3⟨H3,I3,q3⟩=>?_))))
 exact wpAny_release ⟨σ,H3,I3,q3⟩
def tAsg(te:TE)(g:TG):TS:=λD σ H=>te σ H λx H1=>g x σ H1 D.nx
theorem zCq{tg e:Expr}{te:TE}{g:TG}(he:PE X e te)(hg:PG X tg g)(hs:swapsWithSole [tg] e pos.line X.env=pure false:=by rfl)(hw:swappedStores [tg] e X.env=pure none:=by rfl)
  (h1:(assignEach [tg] X.env).map (·.2)=[assign tg X.env]:=by rfl):PS X (.Assign [tg] e pos) (tAsg te g):=by
 intro pins s σ H D I h
 refine wpAny_Assign_stores (thn (he pins s σ H _ I h) λv s1⟨x,H1,I1,r1,q1⟩=>?_) hs hw
 rw[h1]
 exact thn (hg pins s1 σ H1 x v _ I1 r1 q1) λ_ s2 q=>q
theorem zEI{i:Nat}{x:Str}{e:Expr}{te:TE}{pos':Pos}(hN:X.N.Nodup)(hi:X.N[i]? = some x)(hx:Loc X.env.scope x)(he:PE X e te)(hs:swapsWith e (some (.Name x pos')) pos.line X.env=pure false:=by rfl)(hf:X.fn x=true\/X.env.scope.names.lookup x=some .local:=by first|exact .inl rfl|exact .inr rfl|assumption):
  PS X (.Assign [.Name x pos'] e pos) (tAsg te (gName i)):=by
 intro pins s σ H D I h
 refine wpAny_Assign_Name (thn (he pins s σ H _ I h) λv s1⟨y,H1,I1,r1,q1⟩=>?_) hs
 exact z30 I1 hN hi hx r1 (λs2 I2=>⟨_,H1,I2,q1⟩) hf
def tPar(i j:Nat)(ta:TA):TS:=λD σ H=>ta σ H λvs H1=>∃v w,vs=[v,w]/\D.nx ((σ.set i (some v)).set j (some w)) H1
theorem zEJ{i j:Nat}{x y:Str}{a b:Expr}{ta:TA}{px py pt:Pos}{kt k2 pt2}(hc:X.calm=true)(hN:X.N.Nodup)(hi:X.N[i]? = some x)(hj:X.N[j]? = some y)(hij:i≠j)
  (hx:X.env.scope.names.lookup x=some .local) (hy:X.env.scope.names.lookup y=some .local) (ha:PA X [a,b] ta)
  (hw:swappedStores [.Tuple [.Name x px,.Name y py] kt pt] (.Tuple [a,b] k2 pt2) X.env=pure (some [x,y]))
  (hs:swapsWithSole [.Tuple [.Name x px,.Name y py] kt pt] (.Tuple [a,b] k2 pt2) pos.line X.env=pure false:=by rfl):
  PS X (.Assign [.Tuple [.Name x px,.Name y py] kt pt] (.Tuple [a,b] k2 pt2) pos) (tPar i j ta):=by
 intro pins s σ H D I h
 rw[exec_Assign_arm]
 refine wpAny_bind (wpAny_standAt ?_)
 rw[hs]
 refine wpAny_bind (wpAny_pure ?_)
 rw[if_neg (by decide)]
 refine wpAny_bind (Tuple_ (thn (ha _ pins s σ H _ I h) λus s1⟨vs,H1,I1,r1,q1⟩=>?_))
 obtain⟨v,w,e1,q1⟩:=q1
 subst e1
 obtain⟨u1,u2,rfl,rv,rw'⟩:∃u1 u2,us=[u1,u2]/\RelV v u1/\RelV w u2:=by
  cases r1 with
  | cons p q=>
   cases q with
   | cons p' q'=>
    cases q'
    exact⟨_,_,rfl,p,p'⟩
 refine wpAny_newObj_type ?_ (by show 2<=sizeLine;decide)
 have I2:Inv X pins σ H1 {s1 with heap:=s1.heap.push {cls:=.type "tuple",data:=.seq [u1,u2].toArray}}:=I1.kept (t':=s1.toks) λb o e=>Heap.get?_push_of_some _ e
 rw[hw]
 refine wpAny_bind (wpAny_pure ?_)
 show wpAny (model X.prog X.w) X.A (do rule "assign.swapped-stores";let items <-unpackItems (.ref s1.heap.objs.size) 2 none;assignInOrder [λv=>bindName X.env y v,λv=>bindName X.env x v] items.reverse;pure Flow.next) _ _ _
 refine wpAny_bind (wpAny_rule (wpAny_bind (unpackItems_tuple (items:=#[u1,u2]) (I.ok.hd hc) (IsTup.new s1.heap _) λh' hx'=>?_)))
 have I3:=I2.kept (h':=h') (t':=s1.toks) λb o e=>hx' b o (Nat.ne_of_lt (Heap.lt_size e)) e
 show wpAny _ _ (assignInOrder [λv=>bindName X.env y v,λv=>bindName X.env x v] [u2,u1] >>= λ_=>pure Flow.next) _ _ _
 refine wpAny_bind (assignInOrder_cons (wpAny_bindName (z30 I3 hN hj (.inl hy) rw' (λs2 I4=>?_) (.inr hy))))
 refine assignInOrder_cons (wpAny_bindName (z30 I4 hN hi (.inl hx) rv (λs3 I5=>assignInOrder_nil (wpAny_pure ?_)) (.inr hx)))
 rw[List.set_comm _ _ (Ne.symm hij)]at I5
 exact⟨_,H1,I5,q1⟩
end
section
variable{X:Cx}{pos:Pos}
def tWhile(c:TT)(tb:TS):TS:=λD σ H=>∃W:Nat->St->Hp->Prop,(∃m,W m σ H)/\ ∀m σ H,W m σ H->
 c σ H λb H1=>if b=true then ∃N:St->Hp->Prop,(∀σ' H',N σ' H'-> ∃m',m'<m/\W m' σ' H')/\tb {D with nx:=N,ct:=N,bk:=D.nx} σ H1 else D.nx σ H1
theorem zAY{c:Expr}{body:List Stmt}{tc:TT}{tb:TS}(hp:PassesOwn (model X.prog X.w) X.A X.env X.xe)(hc:PT X c tc)(hb:PSs X body tb):PS X (.While c body [] pos) (tWhile tc tb):=by
 intro pins s σ H D I h
 obtain⟨W,⟨m0,w0⟩,turn⟩:=h
 refine wpAny_While (codeAny_whileLoop (λn s'=>∃σ' H',Inv X pins σ' H' s'/\W n σ' H') ?_ m0 ⟨σ,H,I,w0⟩)
 rintro n s1 ⟨σ1,H1,I1,w1⟩
 refine wpAny_passesOwn hp (thn (hc pins s1 σ1 H1 _ I1 (turn n σ1 H1 w1)) λb s2⟨H2,I2,q2⟩=>?_)
 cases b with
 | true=>
  obtain⟨N,hN,q2⟩:=q2
  rw[if_pos rfl]
  refine wpAny_passesOwn hp (thn (hb pins s2 σ1 H2 _ I2 q2) λf s3 q3=>?_)
  cases f with
  | next=>
   obtain⟨σ3,H3,I3,n3⟩:=q3
   obtain⟨m',hm,w3⟩:=hN σ3 H3 n3
   exact⟨m',hm,σ3,H3,I3,w3⟩
  | cont=>
   obtain⟨σ3,H3,I3,n3⟩:=q3
   obtain⟨m',hm,w3⟩:=hN σ3 H3 n3
   exact⟨m',hm,σ3,H3,I3,w3⟩
  | brk=>exact q3
  | ret v=>exact q3
 | false=>
  rw[if_neg Bool.false_ne_true]
  exact wpAny_execs_nil ⟨σ1,H2,I2,q2⟩
end
structure It where
 go:Nat->Hp->Prop
 yld:Nat->Hp->V->Hp->Prop
 stop:Nat->Hp->Prop
def FpOk(X:Cx)(pins:List (Addr×Obj))(H:Hp)(b:Addr):Prop:=
 H b=none/\b≠X.env.locals/\b∉X.fs/\(b∈X.ex\/X.s₀.heap.objs.size<=b)/\(∀x c,X.env.cells.lookup x=some c->c≠b)/\ ∀p∈X.pn++pins,p.1≠b
theorem Inv.fpOk{X:Cx}{pins:List (Addr×Obj)}{σ:St}{H H':Hp}{s:Shared}{b:Addr}(I:Inv X pins σ H s)(hb:s.heap.objs.size<=b)(hn:H' b=none):FpOk X pins H' b:=by
 refine⟨hn,Nat.ne_of_gt (Nat.lt_of_lt_of_le I.lt hb),I.nofs hb,.inr (Nat.le_trans I.sz hb),λx c e z=>?_,λp hp z=>?_⟩
 ·obtain⟨v,q⟩:=I.cell x c e
  exact absurd (Nat.lt_of_lt_of_le q.lt (by rw[z];exact hb)) (Nat.lt_irrefl _)
 ·exact absurd (Nat.lt_of_lt_of_le (Heap.lt_size (I.pin p hp).1) (by rw[z];exact hb)) (Nat.lt_irrefl _)
structure Turn(P:Program)(w:World)(K:PySem.W.Frag)(tg:Expr)(J:It)(fp:List Addr)(it:Addr)(tn:Nat->Heap->Prop):Prop where
 mem:it∈fp
 obj:∀i h,tn i h-> ∀b∈fp,∃o,h.get? b=some o/\ ∀v,o.data≠ .cell v
 keep:∀i h h',tn i h->(∀b∈fp,∀o,h.get? b=some o->h'.get? b=some o)->tn i h'
 item:∀(X:Cx),X.prog=P->X.w=w->X.K=K->X.calm=true-> ∀(i:Nat)(pins:List (Addr×Obj))(s:Shared)(σ:St)(H:Hp)(E:Value->Shared->Prop),Inv X pins σ H s->(∀b∈fp,FpOk X pins H b)->tn i s.heap->J.go i H->
  wpAny (model P w) X.A (pyNext (.ref it)) (λr s1=>∃u,r=some u/\
   wpAny (model P w) X.A (letOwnedTupleGo tg (.ref it) u) (λ_ s2=>∃x H',Inv X pins σ H' s2/\RelV x u/\J.yld i H x H'/\tn (i+1) s2.heap/\ ∀b∈fp,H' b=none) E s1) E s
 done:∀(X:Cx),X.prog=P->X.w=w->X.K=K->X.calm=true-> ∀(i:Nat)(pins:List (Addr×Obj))(s:Shared)(σ:St)(H:Hp)(E:Value->Shared->Prop),Inv X pins σ H s->(∀b∈fp,FpOk X pins H b)->tn i s.heap->J.stop i H->
  wpAny (model P w) X.A (pyNext (.ref it)) (λr s1=>r=none/\Inv X pins σ H s1) E s
 self:∀(A:Around)(i:Nat)(s:Shared)(Q:Value->Shared->Prop)(E:Value->Shared->Prop),tn i s.heap->Q (.ref it) s->wpAny (model P w) A (pyIter (.ref it)) Q E s
abbrev TI:=St->Hp->(It->Hp->Prop)->Prop
def PIE(X:Cx)(pins:List (Addr×Obj))(σ:St)(tg:Expr)(R:It->Hp->Prop)(itv:Value)(s2:Shared):Prop:=
 ∃(it:Addr)(fp:List Addr)(tn:Nat->Heap->Prop)(J:It)(H':Hp),itv= .ref it/\Inv X pins σ H' s2/\Turn X.prog X.w X.K tg J fp it tn/\tn 0 s2.heap/\(∀b∈fp,FpOk X pins H' b)/\R J H'
def PI(X:Cx)(tg iter:Expr)(wi:TI):Prop:=
 ∀(pins:List (Addr×Obj))(s:Shared)(σ:St)(H:Hp)(R:It->Hp->Prop),Inv X pins σ H s->wi σ H R->
  wpAny (model X.prog X.w) X.A (eval iter X.env) (λv s1=>wpAny (model X.prog X.w) X.A (pyIter v) (PIE X pins σ tg R) X.xe s1) X.xe s
theorem zEK{M:Model}{A:Around}{E:Value->Shared->Prop}{s:Shared}{tg:Expr}{it:Addr}{u:Value}{o:Obj}{n:String}{vs:Array Value}{Q:Unit->Shared->Prop}(ho:s.heap.get? it=some o)(hc:o.cls= .type n)(hd:o.data= .fields vs)
  (hn:["enumerate","zip","dict_itemiterator","dict_reverseitemiterator","odict_iterator","itertools.zip_longest","itertools.pairwise"].contains n=false) (hQ:Q () s):wpAny M A (letOwnedTupleGo tg (.ref it) u) Q E s:=by
 unfold letOwnedTupleGo
 cases tg<;>first
  | exact wpAny_pure hQ
  | (cases u<;>first
    | exact wpAny_pure hQ
    | (refine wpAny_bind (wpAny_load ho ?_);rw[hc,hd];show wpAny M A (if(["enumerate","zip","dict_itemiterator","dict_reverseitemiterator","odict_iterator","itertools.zip_longest","itertools.pairwise"].contains n&&vs[0]? == some (rawInt _))=true then _ else _) Q E s;rw[if_neg (by intro h;rw[hn,Bool.false_and]at h;cases h)];exact wpAny_pure hQ))
def Itl(K:PySem.W.Frag)(a:Addr):It:=
 ⟨λi H=>∃xs x,SqL K H a xs/\xs[i]? = some x,λi H x H'=>H'=H/\ ∀xs,SqL K H a xs->xs[i]? = some x,λi H=>∃xs,SqL K H a xs/\xs.length<=i⟩
def Itr(lo:Int)(n:Nat):It:=⟨λi _=>i<n,λi H x H'=>H'=H/\x= .int (lo+i),λi _=>n<=i⟩
theorem z5S{P:Program}{w:World}{K:PySem.W.Frag}{tg:Expr}(a it:Addr):Turn P w K tg (Itl K a) [it] it (λi h=>h.IsListIter it a i) where
 mem:=by simp
 obj:=λi h st b hb=>by
  have e:b=it:=by simpa using hb
  subst e
  obtain⟨o,e,c,d⟩:=st
  exact⟨o,e,λv z=>by rw[d]at z;cases z⟩
 keep:=λi h h' st k=>st.at λo e=>k it (by simp) o e
 item:=by
  intro X hP hw hK hc i pins s σ H E I hf st hg
  subst hP hw hK
  obtain⟨xs,x,hq,hx⟩:=hg
  obtain⟨its,rv,p,hz⟩:=I.list hq
  obtain⟨u,hu,ru⟩:=rv.get hx
  obtain⟨f0,f1,f2,f3,f4,f5⟩:=hf it (by simp)
  refine wpAny_pyNext_list_item st p.isList (x:=u) (by simpa using hu) λh' st' sb=>?_
  have I1:Inv X pins σ H {s with heap:=h'}:=I.turned (t':=s.toks) (λb o hb e=>(sb.2 b hb).trans e) f0 f1 f3 f4 f5
  obtain⟨o,e,c,d⟩:=id st'
  exact⟨u,rfl,zEK (s:={s with heap:=h'}) e c d (by decide) ⟨x,H,I1,ru,⟨rfl,λys hy=>by rw[I.list_inj hy hq];exact hx⟩,st',λb hb=>(hf b hb).1⟩⟩
 done:=by
  intro X hP hw hK hc i pins s σ H E I hf st hg
  subst hP hw hK
  obtain⟨xs,hq,hx⟩:=hg
  obtain⟨its,rv,p,hz⟩:=I.list hq
  obtain⟨f0,f1,f2,f3,f4,f5⟩:=hf it (by simp)
  have hl:=rv.length
  exact wpAny_pyNext_list_end (I.ok.hd hc) st p.isList (by simp;lia) λh' eb=>⟨rfl,I.turned (t':=s.toks) (λb o hb e=>eb b o hb e) f0 f1 f3 f4 f5⟩
 self:=λ_ _ _ _ _ st h=>wpAny_pyIter_listiter st h
theorem z8o{P:Program}{w:World}{K:PySem.W.Frag}{tg:Expr}(it:Addr)(lo:Int)(n:Nat):Turn P w K tg (Itr lo n) [it] it (λi h=>IsRangeIter h it (lo+(i:Nat)*1) ((n:Int)-(i:Nat)) 1) where
 mem:=by simp
 obj:=λi h st b hb=>by
  have e:b=it:=by simpa using hb
  subst e
  exact⟨_,st,λv z=>by
   have z':Data.fields _=Data.cell v:=z
   cases z'⟩
 keep:=λi h h' st k=>k it (by simp) _ st
 item:=by
  intro X hP hw hK hc i pins s σ H E I hf st hg
  subst hP hw hK
  obtain⟨f0,f1,f2,f3,f4,f5⟩:=hf it (by simp)
  have W:=Walks.range (prog:=X.prog) (w:=X.w) (I.ok.hd hc) it lo 1 n
  refine W.item i s _ _ hg st λv h' tk hv st' kk=>?_
  obtain⟨t,rfl⟩:=hv
  have I1:Inv X pins σ H {s with heap:=h',toks:=tk}:=I.turned (λb o hb e=>kk b o (by simpa using hb) e) f0 f1 f3 f4 f5
  refine⟨_,rfl,zEK (s:={s with heap:=h',toks:=tk}) (n:="range_iterator") st' rfl rfl (by decide) ⟨.int (lo+i),H,I1,⟨t,?_⟩,⟨rfl,rfl⟩,st',λb hb=>(hf b hb).1⟩⟩
  rw[Int.mul_one]
 done:=by
  intro X hP hw hK hc i pins s σ H E I hf st hg
  subst hP hw hK
  obtain⟨f0,f1,f2,f3,f4,f5⟩:=hf it (by simp)
  exact wpAny_pyNext_range_end (I.ok.hd hc) st (by have:n<=i:=hg;lia) λh' eb=>⟨rfl,I.turned (t':=s.toks) (λb o hb e=>eb b o hb e) f0 f1 f3 f4 f5⟩
 self:=λ_ _ _ _ _ st h=>wpAny_pyIter_rangeiter st h
end L2
namespace L2
open PySem PySem.Spec PyProof.Rows
section
variable{X:Cx}{tg:Expr}
def iList(K:PySem.W.Frag)(tl:TE):TI:=λσ H R=>tl σ H λx H1=>∃a,x= .ref a/\(∃xs,SqL K H1 a xs)/\R (Itl K a) H1
theorem zCI{l:Expr}{tl:TE}(hl:PE X l tl):PI X tg l (iList X.K tl):=by
 intro pins s σ H R I h
 refine thn (hl pins s σ H _ I h) λv s1⟨x,H1,I1,r1,q1⟩=>?_
 obtain⟨a,e,⟨xs,hq⟩,q⟩:=q1
 subst e
 cases r1
 obtain⟨its,rv,p,hz⟩:=I1.list hq
 refine wpAny_pyIter_list p.isList ?_
 refine⟨s1.heap.objs.size,[s1.heap.objs.size],_,_,H1,rfl,I1.kept (t':=s1.toks) λb o e=>Heap.get?_push_of_some _ e,z5S a _,⟨_,Heap.get?_push_size _ rfl,rfl,rfl⟩,λb hb=>?_,q⟩
 have e:b=s1.heap.objs.size:=by simpa using hb
 subst e
 exact I1.fpOk (Nat.le_refl _) (I1.hok.fresh (Nat.le_refl _))
theorem z7C{pins:List (Addr×Obj)}{σ:St}{H:Hp}{s:Shared}{R:It->Hp->Prop}{E:Value->Shared->Prop}{lo hi:Int}{t u v:Tok}{tk:Nat}(I:Inv X pins σ H s)(h1:-(2^62)<=lo)(h2:lo<2^62)(h3:-(2^62)<=hi)(h4:hi<2^62)
  (q:R (Itr lo (hi-lo).toNat) H):wpAny (model X.prog X.w) X.A (pyIter (.ref s.heap.objs.size)) (PIE X pins σ tg R) E {s with heap:=s.heap.push {cls:=.type "range",data:=.fields #[.int lo t,.int hi u,.int 1 v]},toks:=tk}:=by
 refine wpAny_pyIter_range (IsRange.new ..) (small_one h1 h2 h3 h4) ?_
 have I1:Inv X pins σ H {s with heap:=s.heap.push {cls:=.type "range",data:=.fields #[.int lo t,.int hi u,.int 1 v]},toks:=tk}:=I.kept λb o e=>Heap.get?_push_of_some _ e
 refine⟨(s.heap.push {cls:=.type "range",data:=.fields #[.int lo t,.int hi u,.int 1 v]}).objs.size,[(s.heap.push {cls:=.type "range",data:=.fields #[.int lo t,.int hi u,.int 1 v]}).objs.size],_,_,H,rfl,
  I1.kept (t':=tk) λb o e=>Heap.get?_push_of_some _ e,z8o _ lo (hi-lo).toNat,?_,λb hb=>?_,q⟩
 ·have e1:lo+((0:Nat):Int)*1=lo:=by simp
  have e2:(((hi-lo).toNat:Nat):Int)-((0:Nat):Int)=Builtin.Range.rangeSize lo hi 1:=by rw[rangeSize_one];split<;>lia
  show IsRangeIter _ _ (lo+((0:Nat):Int)*1) ((((hi-lo).toNat:Nat):Int)-((0:Nat):Int)) 1
  rw[e1,e2]
  exact Heap.get?_push_size _ rfl
 ·have e:b=(s.heap.push {cls:=.type "range",data:=.fields #[.int lo t,.int hi u,.int 1 v]}).objs.size:=by simpa using hb
  subst e
  exact I1.fpOk (Nat.le_refl _) (I1.hok.fresh (Nat.le_refl _))
def iRng1(ta:TA):TI:=λσ H R=>ta σ H λvs H1=>∃j:Int,vs=[.int j]/\ -(2^62)<=j/\j<2^62/\R (Itr 0 j.toNat) H1
def iRng2(ta:TA):TI:=λσ H R=>ta σ H λvs H1=>∃i j:Int,vs=[.int i,.int j]/\(-(2^62)<=i/\i<2^62/\ -(2^62)<=j/\j<2^62)/\R (Itr i (j-i).toNat) H1
theorem z5T{a:Expr}{ta:TA}{p pos:Pos}(hg:Gl X "range")(hm:X.mg "range"=none)(ha:PA X [a] ta)(hs:starEach [a] X.env=[(false,eval a X.env)]:=by rfl):PI X tg (.Call (.Name "range" p) [a] [] pos) (iRng1 ta):=by
 intro pins s σ H R I h
 refine Call_ (z5R I hg hm boot_range (PyProof.Rows.callWith_type1 (thn (ha pos pins s σ H _ I h) λus s1⟨vs,H1,I1,r1,q1⟩=>?_) hs rfl))
 obtain⟨j,e,q1,q2,q⟩:=q1
 subst e
 cases r1 with
 | cons r rr=>
  cases rr
  obtain⟨t,rfl⟩:=r
  exact call_range_1 (z7C I1 (by lia) (by lia) q1 q2 (by simpa using q))
theorem z5U{a b:Expr}{ta:TA}{p pos:Pos}(hg:Gl X "range")(hm:X.mg "range"=none)(ha:PA X [a,b] ta)(hs:starEach [a,b] X.env=[(false,eval a X.env),(false,eval b X.env)]:=by rfl)(hs2:starEach [b] X.env=[(false,eval b X.env)]:=by rfl):
  PI X tg (.Call (.Name "range" p) [a,b] [] pos) (iRng2 ta):=by
 intro pins s σ H R I h
 refine Call_ (z5R I hg hm boot_range (PyProof.Rows.callWith_type1 (thn (ha pos pins s σ H _ I h) λus s1⟨vs,H1,I1,r1,q1⟩=>?_) (by rw[hs,hs2]) (by rw[hs2];rfl)))
 obtain⟨i,j,e,⟨q1,q2,q3,q4⟩,q⟩:=q1
 subst e
 cases r1 with
 | cons r rr=>
  cases rr with
  | cons r' rr=>
   cases rr
   obtain⟨t,rfl⟩:=r
   obtain⟨t',rfl⟩:=r'
   exact call_range_2 (z7C I1 q1 q2 q3 q4 q)
def tFor(wi:TI)(g:TG)(tb:TS):TS:=λD σ H=>wi σ H λJ H1=>∃W:Nat->Nat->St->Hp->Prop,(∃m,W 0 m σ H1)/\ ∀i m σ H,W i m σ H->
 (J.stop i H/\D.nx σ H)\/(J.go i H/\ ∃N:St->Hp->Prop,(∀σ' H',N σ' H'-> ∃m',m'<m/\W (i+1) m' σ' H')/\ ∀x H',J.yld i H x H'->g x σ H' λσ2 H2=>tb {D with nx:=N,ct:=N,bk:=D.nx} σ2 H2)
def pinsAt(fp:List Addr)(h:Heap):List (Addr×Obj):=fp.filterMap λb=>(h.get? b).map λo=>(b,o)
theorem z2t{fp:List Addr}{h:Heap}{b:Addr}{o:Obj}(hb:b∈fp)(e:h.get? b=some o):(b,o)∈pinsAt fp h:=List.mem_filterMap.mpr ⟨b,hb,by rw[e];rfl⟩
theorem z9c{fp:List Addr}{h:Heap}{p:Addr×Obj}(hp:p∈pinsAt fp h):p.1∈fp/\h.get? p.1=some p.2:=by
 obtain⟨b,hb,e⟩:=List.mem_filterMap.mp hp
 cases q:h.get? b with
 | none=>rw[q]at e;cases e
 | some o=>
  rw[q]at e
  have e':(b,o)=p:=Option.some.inj e
  subst e'
  exact⟨hb,q⟩
theorem Inv.pinned{pins:List (Addr×Obj)}{σ:St}{H:Hp}{s:Shared}{fp:List Addr}(I:Inv X pins σ H s)(hf:∀b∈fp,FpOk X pins H b)(ho:∀b∈fp,∃o,s.heap.get? b=some o/\ ∀v,o.data≠ .cell v):Inv X (pins++pinsAt fp s.heap) σ H s:=
 I.pins_of λp hp=>(List.mem_append.mp hp).elim (λz=>I.pin p (List.mem_append_right _ z)) λz=>by
  obtain⟨hb,e⟩:=z9c z
  obtain⟨f0,f1,f2,_⟩:=hf p.1 hb
  obtain⟨o,e',d⟩:=ho p.1 hb
  rw[e]at e';cases e'
  exact⟨e,f0,f1,f2,d⟩
theorem Inv.unpinned{pins pl:List (Addr×Obj)}{σ:St}{H:Hp}{s:Shared}(I:Inv X (pins++pl) σ H s):Inv X pins σ H s:=I.pins_of λp hp=>I.pin p (List.mem_append_right _ (List.mem_append_left _ hp))
theorem zCr{iter:Expr}{body:List Stmt}{wi:TI}{g:TG}{tb:TS}{pos:Pos}(hp:PassesOwn (model X.prog X.w) X.A X.env X.xe)(hc:X.calm=true)(hi:PI X tg iter wi)(hg:PG X tg g)(hb:PSs X body tb)
  (hs:∀x,foldedSetIterable iter X.env x=pure x:=by intro _;rfl):PS X (.For tg iter body [] pos) (tFor wi g tb):=by
 intro pins s σ H D I h
 refine wpAny_For (thn (hi pins s σ H _ I h) λv s1 h1=>thn h1 λitv s2 h2=>?_) hs
 obtain⟨it,fp,tn,J,H2,e,I2,T,st2,f2,W,⟨m0,w0⟩,turn⟩:=h2
 subst e
 have stat:∀{H':Hp},(∀b∈fp,H' b=none)-> ∀b∈fp,FpOk X pins H' b:=λhn b hb=>⟨hn b hb,(f2 b hb).2⟩
 refine codeAny_forLoop_any (λn s'=>∃i σ' H',Inv X pins σ' H' s'/\tn i s'.heap/\(∀b∈fp,H' b=none)/\W i n σ' H') ?_ m0 ⟨0,σ,H2,I2,st2,λb hb=>(f2 b hb).1,w0⟩
 rintro n s3 ⟨i,σ3,H3,I3,st3,fr3,w3⟩
 rcases turn i n σ3 H3 w3 with⟨stop,qn⟩|⟨go,N,hN,step⟩
 ·refine wpAny_passesOwn hp (thn (T.done X rfl rfl rfl hc i pins s3 σ3 H3 X.xe I3 (stat fr3) st3 stop) λr s4⟨hr,I4⟩=>?_)
  subst hr
  exact wpAny_execs_nil ⟨σ3,H3,I4,qn⟩
 ·refine wpAny_passesOwn hp (thn (T.item X rfl rfl rfl hc i pins s3 σ3 H3 X.xe I3 (stat fr3) st3 go) λr s4⟨u,hr,h4⟩=>?_)
  subst hr
  refine wpAny_passesOwn hp (thn h4 λ_ s5⟨x,H5,I5,r5,y5,st5,fr5⟩=>?_)
  have I5':=I5.pinned (stat fr5) (T.obj _ _ st5)
  refine wpAny_passesOwn hp (thn (hg _ s5 σ3 H5 x u _ I5' r5 (step x H5 y5)) λ_ s6⟨σ6,H6,I6,q6⟩=>?_)
  refine wpAny_passesOwn hp (thn (hb _ s6 σ6 H6 _ I6 q6) λf s7 q7=>?_)
  have again:∀{σ7:St}{H7:Hp},Inv X (pins++pinsAt fp s5.heap) σ7 H7 s7->N σ7 H7-> ∃m,m<n/\ ∃i σ' H',Inv X pins σ' H' s7/\tn i s7.heap/\(∀b∈fp,H' b=none)/\W i m σ' H':=λ{σ7 H7}I7 n7=>by
   obtain⟨m',hm,w7⟩:=hN σ7 H7 n7
   refine⟨m',hm,i+1,σ7,H7,I7.unpinned,T.keep _ _ _ st5 λb hb o e=>(I7.pin (b,o) (List.mem_append_right _ (List.mem_append_right _ (z2t hb e)))).1,λb hb=>?_,w7⟩
   obtain⟨o,e,d⟩:=T.obj _ _ st5 b hb
   exact(I7.pin (b,o) (List.mem_append_right _ (List.mem_append_right _ (z2t hb e)))).2.1
  cases f with
  | next=>obtain⟨σ7,H7,I7,n7⟩:=q7;exact again I7 n7
  | cont=>obtain⟨σ7,H7,I7,n7⟩:=q7;exact again I7 n7
  | brk=>obtain⟨σ7,H7,I7,q7⟩:=q7;exact⟨σ7,H7,I7.unpinned,q7⟩
  | ret v=>obtain⟨x7,σ7,H7,I7,r7,q7⟩:=q7;exact⟨x7,σ7,H7,I7.unpinned,r7,q7⟩
end
theorem z31{K:PySem.W.Frag}{a:Addr}{xs:List V}{g:TG}{tb:TS}{D:Ends}{σ:St}{H:Hp}(Pv:Nat->St->Hp->Prop)(h0:Pv 0 σ H)(hl:∀i σ H,i<=xs.length->Pv i σ H->SqL K H a xs)
  (hs:∀i x σ H,xs[i]? = some x->Pv i σ H->g x σ H λσ2 H2=>tb {D with nx:=Pv (i+1),ct:=Pv (i+1),bk:=D.nx} σ2 H2) (hd:∀σ H,Pv xs.length σ H->D.nx σ H):
  ∃W:Nat->Nat->St->Hp->Prop,(∃m,W 0 m σ H)/\ ∀i m σ H,W i m σ H->
   ((Itl K a).stop i H/\D.nx σ H)\/((Itl K a).go i H/\ ∃N:St->Hp->Prop,(∀σ' H',N σ' H'-> ∃m',m'<m/\W (i+1) m' σ' H')/\ ∀x H',(Itl K a).yld i H x H'->g x σ H' λσ2 H2=>tb {D with nx:=N,ct:=N,bk:=D.nx} σ2 H2):=by
 refine⟨λi m σ H=>m=xs.length-i/\i<=xs.length/\Pv i σ H,⟨xs.length,by simp,Nat.zero_le _,h0⟩,?_⟩
 rintro i m σ H ⟨rfl,hi,p⟩
 have q:=hl i σ H hi p
 by_cases hlt:i<xs.length
 ·refine .inr ⟨⟨xs,xs[i],q,by simp[hlt]⟩,Pv (i+1),λσ' H' p'=>⟨xs.length-(i+1),by lia,rfl,hlt,p'⟩,λx H' y=>?_⟩
  obtain⟨e,y⟩:=y
  subst e
  exact hs i x σ _ (y xs q) p
 ·have e:i=xs.length:=by lia
  subst e
  exact .inl ⟨⟨xs,q,Nat.le_refl _⟩,hd σ H p⟩
theorem z9d{lo:Int}{n:Nat}{g:TG}{tb:TS}{D:Ends}{σ:St}{H:Hp}(Pv:Nat->St->Hp->Prop)(h0:Pv 0 σ H)
  (hs:∀i σ H,i<n->Pv i σ H->g (.int (lo+i)) σ H λσ2 H2=>tb {D with nx:=Pv (i+1),ct:=Pv (i+1),bk:=D.nx} σ2 H2) (hd:∀σ H,Pv n σ H->D.nx σ H):
  ∃W:Nat->Nat->St->Hp->Prop,(∃m,W 0 m σ H)/\ ∀i m σ H,W i m σ H->
   ((Itr lo n).stop i H/\D.nx σ H)\/((Itr lo n).go i H/\ ∃N:St->Hp->Prop,(∀σ' H',N σ' H'-> ∃m',m'<m/\W (i+1) m' σ' H')/\ ∀x H',(Itr lo n).yld i H x H'->g x σ H' λσ2 H2=>tb {D with nx:=N,ct:=N,bk:=D.nx} σ2 H2):=by
 refine⟨λi m σ H=>m=n-i/\i<=n/\Pv i σ H,⟨n,by simp,Nat.zero_le _,h0⟩,?_⟩
 rintro i m σ H ⟨rfl,hi,p⟩
 by_cases hlt:i<n
 ·refine .inr ⟨hlt,Pv (i+1),λσ' H' p'=>⟨n-(i+1),by lia,rfl,hlt,p'⟩,λx H' y=>?_⟩
  obtain⟨e,y⟩:=y
  subst e y
  exact hs i σ _ hlt p
 ·have e:i=n:=by lia
  subst e
  exact .inl ⟨Nat.le_refl _,hd σ H p⟩
end L2
namespace L2
open PySem PySem.Spec PyProof.Rows
abbrev R2:=V->V->Hp->VK->Prop
def OpR(X:Cx)(f:Value->Value->Sem Value)(r:R2):Prop:=
 ∀(pins:List (Addr×Obj))(s:Shared)(σ:St)(H:Hp)(x y:V)(v u:Value)(Q:VK),Inv X pins σ H s->RelV x v->RelV y u->r x y H Q->
  wpAny (model X.prog X.w) X.A (f v u) (EP X pins σ Q) X.xe s
def UnR(X:Cx)(f:Value->Sem Value)(r:V->Hp->VK->Prop):Prop:=
 ∀(pins:List (Addr×Obj))(s:Shared)(σ:St)(H:Hp)(x:V)(v:Value)(Q:VK),Inv X pins σ H s->RelV x v->r x H Q->
  wpAny (model X.prog X.w) X.A (f v) (EP X pins σ Q) X.xe s
def CallR(X:Cx)(f:Value)(r:List V->Hp->VK->Prop):Prop:=
 ∀(pins:List (Addr×Obj))(s:Shared)(σ:St)(H:Hp)(xs:List V)(us:List Value)(Q:VK),Inv X pins σ H s->Vals xs us->r xs H Q->
  wpAny (model X.prog X.w) X.A (call f us) (EP X pins σ Q) X.xe s
def tOp(r:R2)(ta tb:TE):TE:=λσ H Q=>ta σ H λx H1=>tb σ H1 λy H2=>r x y H2 Q
def tUn(r:V->Hp->VK->Prop)(ta:TE):TE:=λσ H Q=>ta σ H λx H1=>r x H1 Q
def rI(C:Int->Int->Prop)(g:Int->Int->V):R2:=λx y H Q=>∃i j,x= .int i/\y= .int j/\C i j/\Q (g i j) H
def rI0(g:Int->Int->V):R2:=λx y H Q=>∃i j,x= .int i/\y= .int j/\Q (g i j) H
def rU(g:Int->V):V->Hp->VK->Prop:=λx H Q=>∃i,x= .int i/\Q (g i) H
section
variable{X:Cx}{a b c:Expr}{ta tb tc:TE}{pos:Pos}
theorem binT(ha:PE X a ta)(hb:PE X b tb){pins:List (Addr×Obj)}{s:Shared}{σ:St}{H:Hp}{R:V->V->Hp->Prop}(I:Inv X pins σ H s)
  (h:ta σ H λx H1=>tb σ H1 λy H2=>R x y H2) {Q:Value->Shared->Prop} {f:Value->Value->Sem Value}
  (hf:∀v u s2 x y H2,Inv X pins σ H2 s2->RelV x v->RelV y u->R x y H2->wpAny (model X.prog X.w) X.A (f v u) Q X.xe s2):
  wpAny (model X.prog X.w) X.A (eval a X.env) (λv s₁=>wpAny (model X.prog X.w) X.A (eval b X.env) (λu s₂=>wpAny (model X.prog X.w) X.A (f v u) Q X.xe s₂) X.xe s₁) X.xe s:=by
 refine thn (ha pins s σ H _ I h) λv s1⟨x,H1,I1,r1,q1⟩=>?_
 refine thn (hb pins s1 σ H1 _ I1 q1) λu s2⟨y,H2,I2,r2,q2⟩=>?_
 exact hf v u s2 x y H2 I2 r1 r2 q2
theorem zGi{op:Operator}{r:R2}(ho:OpR X (binaryOp op) r)(ha:PE X a ta)(hb:PE X b tb):PE X (.BinOp a op b pos) (tOp r ta tb):=by
 intro pins s σ H Q I h
 exact wpAny_BinOp (binT ha hb I h λv u s2 x y H2 I2 rx ry q=>ho pins s2 σ H2 x y v u Q I2 rx ry q)
theorem zGj{op:UnaryOp}{r:V->Hp->VK->Prop}(ho:UnR X (unaryOp op) r)(ha:PE X a ta):PE X (.UnaryOp op a pos) (tUn r ta):=by
 intro pins s σ H Q I h
 exact UnaryOp_ (thn (ha pins s σ H _ I h) λv s1⟨x,H1,I1,r1,q1⟩=>ho pins s1 σ H1 x v Q I1 r1 q1)
theorem opI{f:Value->Value->Sem Value}{C:Int->Int->Prop}{g:Int->Int->Int}
  (rule:∀(i j:Int)(t u:Tok)(s:Shared)(Q:Value->Shared->Prop)(E:Value->Shared->Prop),C i j->Q (.int (g i j) s.toks) {s with toks:=s.toks+1}->wpAny (model X.prog X.w) X.A (f (.int i t) (.int j u)) Q E s):
  OpR X f (rI C λi j=>.int (g i j)):=by
 intro pins s σ H x y v u Q I rx ry h
 obtain⟨i,j,rfl,rfl,hc,q⟩:=h
 obtain⟨t,rfl⟩:=rx
 obtain⟨t',rfl⟩:=ry
 exact rule i j t t' s _ _ hc ⟨.int (g i j),H,I.tok _,⟨_,rfl⟩,q⟩
theorem opI0{f:Value->Value->Sem Value}{g:Int->Int->Int}
  (rule:∀(i j:Int)(t u:Tok)(s:Shared)(Q:Value->Shared->Prop)(E:Value->Shared->Prop),Q (.int (g i j) s.toks) {s with toks:=s.toks+1}->wpAny (model X.prog X.w) X.A (f (.int i t) (.int j u)) Q E s):
  OpR X f (rI0 λi j=>.int (g i j)):=by
 intro pins s σ H x y v u Q I rx ry h
 obtain⟨i,j,rfl,rfl,q⟩:=h
 obtain⟨t,rfl⟩:=rx
 obtain⟨t',rfl⟩:=ry
 exact rule i j t t' s _ _ ⟨.int (g i j),H,I.tok _,⟨_,rfl⟩,q⟩
theorem opB0{f:Value->Value->Sem Value}{g:Int->Int->Bool}
  (rule:∀(i j:Int)(t u:Tok)(s:Shared)(Q:Value->Shared->Prop)(E:Value->Shared->Prop),Q (.bool (g i j)) s->wpAny (model X.prog X.w) X.A (f (.int i t) (.int j u)) Q E s):
  OpR X f (rI0 λi j=>.bl (g i j)):=by
 intro pins s σ H x y v u Q I rx ry h
 obtain⟨i,j,rfl,rfl,q⟩:=h
 obtain⟨t,rfl⟩:=rx
 obtain⟨t',rfl⟩:=ry
 exact rule i j t t' s _ _ ⟨.bl (g i j),H,I,rfl,q⟩
def CDiv(i j:Int):Prop:=0<j/\j<1073741824
def CPow(i j:Int):Prop:=0<=j/\j<=1000000/\i.natAbs<2^64
def CMul(i j:Int):Prop:=(-(2^64)<i/\i<2^64)\/(-(2^64)<j/\j<2^64)
theorem CMul.ok{i j:Int}(h:CMul i j):IntMulOk i j:=by
 rcases h with⟨h1,h2⟩|⟨h1,h2⟩
 ·exact .of_left (intBits_le_64 h1 h2)
 ·exact .of_right (intBits_le_64 h1 h2)
theorem zEL:OpR X (binaryOp .Add) (rI0 λi j=>.int (i+j)):=opI0 λ_ _ _ _ _ _ _ q=>add_int q
theorem zEM:OpR X (binaryOp .Sub) (rI0 λi j=>.int (i-j)):=opI0 λ_ _ _ _ _ _ _ q=>sub_int q
theorem zEN:OpR X (binaryOp .Mult) (rI CMul λi j=>.int (i*j)):=opI λ_ _ _ _ _ _ _ hc q=>mul_int q hc.ok
theorem zCJ:OpR X (binaryOp .FloorDiv) (rI CDiv λi j=>.int (i/j)):=opI λi j _ _ _ _ _ hc q=>by
 have h1:(0:Int)<j:=hc.1
 have h2:j<1073741824:=hc.2
 exact floordiv_int (by omega) (by rw[Int.fdiv_eq_ediv_of_nonneg i (by omega)];exact q) (.inl (PyProof.noPylong_small (by omega)))
theorem zEO:OpR X (binaryOp .Mod) (rI (λ_ j=>0<j) λi j=>.int (i%j)):=opI λi j _ _ _ _ _ hc q=>by
 have h1:(0:Int)<j:=hc
 exact mod_int' (by lia) (by rw[Int.fmod_eq_emod_of_nonneg i (by lia)];exact q)
theorem zEP:OpR X (binaryOp .Pow) (rI CPow λi j=>.int (i^j.toNat)):=opI λ_ _ _ _ _ _ _ hc q=>pow_int_small hc.1 hc.2.1 hc.2.2 q
theorem unI{f:Value->Sem Value}{g:Int->Int}
  (rule:∀(i:Int)(t:Tok)(s:Shared)(Q:Value->Shared->Prop)(E:Value->Shared->Prop),Q (.int (g i) s.toks) {s with toks:=s.toks+1}->wpAny (model X.prog X.w) X.A (f (.int i t)) Q E s):
  UnR X f (rU λi=>.int (g i)):=by
 intro pins s σ H x v Q I rx h
 obtain⟨i,rfl,q⟩:=h
 obtain⟨t,rfl⟩:=rx
 exact rule i t s _ _ ⟨.int (g i),H,I.tok _,⟨_,rfl⟩,q⟩
theorem zEQ:UnR X (unaryOp .USub) (rU λi=>.int (-i)):=unI λ_ _ _ _ _ q=>neg_int q
end
def scal:V->V->Bool
 | .non,.non=>true| .non,.int _=>true| .int _,.non=>true| .non,.bl _=>true| .bl _,.non=>true| .non,.str _=>true| .str _,.non=>true
 | .int _,.int _=>true| .bl _,.bl _=>true| .str _,.str _=>true| .byt _,.byt _=>true
 | .int _,.str _=>true| .str _,.int _=>true| .bl _,.str _=>true| .str _,.bl _=>true
 | _,_=>false
def rEq:R2:=λx y H Q=>scal x y=true/\Q (.bl (decide (x=y))) H
def rNe:R2:=λx y H Q=>scal x y=true/\Q (.bl (!decide (x=y))) H
theorem z6J{i j:Int}:decide (V.int i=V.int j)=(i==j):=by
 rw[Bool.eq_iff_iff]
 simp
theorem z9e{i j:Bool}:decide (V.bl i=V.bl j)=(i==j):=by
 rw[Bool.eq_iff_iff]
 simp
theorem z9f{i j:Str}:decide (V.str i=V.str j)=(i==j):=by
 rw[Bool.eq_iff_iff]
 simp
theorem z9g{i j:Array UInt8}:decide (V.byt i=V.byt j)=(i.toList==j.toList):=by
 rw[Bool.eq_iff_iff]
 cases i
 cases j
 simp
section
variable{X:Cx}{a b c:Expr}{ta tb tc:TE}{pos:Pos}
theorem z0p{pins:List (Addr×Obj)}{σ:St}{H:Hp}{s:Shared}{Q:VK}{k k':Bool}(I:Inv X pins σ H s)(q:Q (.bl k) H)(e:k=k'):EP X pins σ Q (.bool k') s:=by
 subst e
 exact⟨.bl k,H,I,rfl,q⟩
theorem zGk:OpR X (compareOp .Eq) rEq:=by
 intro pins s σ H x y v u Q I rx ry h
 obtain⟨hs,q⟩:=h
 cases x with
 | non=>
  cases rx
  cases y with
  | non=>cases ry;exact PySem.EqNone.eq_none_none (z0p I q (by simp))
  | bl j=>cases ry;exact PySem.EqNone.eq_none_bool (z0p I q (by simp))
  | int j=>obtain⟨t',rfl⟩:=ry;exact PySem.EqNone.eq_none_int (z0p I q (by simp))
  | str j=>obtain⟨t',rfl⟩:=ry;exact PySem.EqNone.eq_none_str (z0p I q (by simp))
  | _=>exact absurd (show false=true from hs) Bool.false_ne_true
 | bl i=>
  cases rx
  cases y with
  | non=>cases ry;exact PySem.EqNone.eq_bool_none (z0p I q (by simp))
  | bl j=>cases ry;exact eq_bool (z0p I q z9e)
  | str j=>obtain⟨t',rfl⟩:=ry;exact PySem.EqMixed.eq_bool_str (z0p I q (by simp))
  | _=>exact absurd (show false=true from hs) Bool.false_ne_true
 | int i=>
  obtain⟨t,rfl⟩:=rx
  cases y with
  | non=>cases ry;exact PySem.EqNone.eq_int_none (z0p I q (by simp))
  | int j=>obtain⟨t',rfl⟩:=ry;exact eq_int (z0p I q z6J)
  | str j=>obtain⟨t',rfl⟩:=ry;exact PySem.EqMixed.eq_int_str (z0p I q (by simp))
  | _=>exact absurd (show false=true from hs) Bool.false_ne_true
 | str i=>
  obtain⟨t,rfl⟩:=rx
  cases y with
  | non=>cases ry;exact PySem.EqNone.eq_str_none (z0p I q (by simp))
  | bl j=>cases ry;exact PySem.EqMixed.eq_str_bool (z0p I q (by simp))
  | int j=>obtain⟨t',rfl⟩:=ry;exact PySem.EqMixed.eq_str_int (z0p I q (by simp))
  | str j=>obtain⟨t',rfl⟩:=ry;exact eq_str (z0p I q z9f)
  | _=>exact absurd (show false=true from hs) Bool.false_ne_true
 | byt i=>
  obtain⟨t,rfl⟩:=rx
  cases y with
  | byt j=>obtain⟨t',rfl⟩:=ry;exact PySem.W.eq_bytes (z0p I q z9g)
  | _=>exact absurd (show false=true from hs) Bool.false_ne_true
 | _=>cases y<;>exact absurd (show false=true from hs) Bool.false_ne_true
theorem zGl:OpR X (compareOp .NotEq) rNe:=by
 intro pins s σ H x y v u Q I rx ry h
 obtain⟨hs,q⟩:=h
 cases x with
 | non=>
  cases rx
  cases y with
  | non=>cases ry;exact PySem.EqNone.ne_none_none (z0p I q (by simp))
  | bl j=>cases ry;exact PySem.EqNone.ne_none_bool (z0p I q (by simp))
  | int j=>obtain⟨t',rfl⟩:=ry;exact PySem.EqNone.ne_none_int (z0p I q (by simp))
  | str j=>obtain⟨t',rfl⟩:=ry;exact PySem.EqNone.ne_none_str (z0p I q (by simp))
  | _=>exact absurd (show false=true from hs) Bool.false_ne_true
 | bl i=>
  cases rx
  cases y with
  | non=>cases ry;exact PySem.EqNone.ne_bool_none (z0p I q (by simp))
  | bl j=>cases ry;exact ne_bool (z0p I q (congrArg not z9e))
  | str j=>obtain⟨t',rfl⟩:=ry;exact PySem.EqMixed.ne_bool_str (z0p I q (by simp))
  | _=>exact absurd (show false=true from hs) Bool.false_ne_true
 | int i=>
  obtain⟨t,rfl⟩:=rx
  cases y with
  | non=>cases ry;exact PySem.EqNone.ne_int_none (z0p I q (by simp))
  | int j=>obtain⟨t',rfl⟩:=ry;exact ne_int (z0p I q (congrArg not z6J))
  | str j=>obtain⟨t',rfl⟩:=ry;exact PySem.EqMixed.ne_int_str (z0p I q (by simp))
  | _=>exact absurd (show false=true from hs) Bool.false_ne_true
 | str i=>
  obtain⟨t,rfl⟩:=rx
  cases y with
  | non=>cases ry;exact PySem.EqNone.ne_str_none (z0p I q (by simp))
  | bl j=>cases ry;exact PySem.EqMixed.ne_str_bool (z0p I q (by simp))
  | int j=>obtain⟨t',rfl⟩:=ry;exact PySem.EqMixed.ne_str_int (z0p I q (by simp))
  | str j=>obtain⟨t',rfl⟩:=ry;exact ne_str (z0p I q (congrArg not z9f))
  | _=>exact absurd (show false=true from hs) Bool.false_ne_true
 | byt i=>
  obtain⟨t,rfl⟩:=rx
  cases y with
  | byt j=>obtain⟨t',rfl⟩:=ry;exact PySem.W.ne_bytes (z0p I q (congrArg not z9g))
  | _=>exact absurd (show false=true from hs) Bool.false_ne_true
 | _=>cases y<;>exact absurd (show false=true from hs) Bool.false_ne_true
theorem zGm:OpR X (compareOp .Lt) (rI0 λi j=>.bl (decide (i<j))):=opB0 λ_ _ _ _ _ _ _ q=>lt_int q
theorem zGn:OpR X (compareOp .LtE) (rI0 λi j=>.bl (decide (i<=j))):=opB0 λ_ _ _ _ _ _ _ q=>le_int q
theorem zGo:OpR X (compareOp .Gt) (rI0 λi j=>.bl (decide (j<i))):=opB0 λ_ _ _ _ _ _ _ q=>gt_int q
theorem zGp:OpR X (compareOp .GtE) (rI0 λi j=>.bl (decide (j<=i))):=opB0 λ_ _ _ _ _ _ _ q=>ge_int q
theorem zCs:OpR X (compareOp .Is) (λx y H Q=>y= .non/\Q (.bl (decide (x= .non))) H):=by
 intro pins s σ H x y v u Q I rx ry h
 obtain⟨rfl,q⟩:=h
 cases ry
 refine is_none_gen (z0p I q ?_)
 cases x<;>first
  | (cases rx;rfl)
  | (obtain⟨t,rfl⟩:=rx;rfl)
theorem z9h:OpR X (compareOp .IsNot) (λx y H Q=>y= .non/\Q (.bl (!decide (x= .non))) H):=by
 intro pins s σ H x y v u Q I rx ry h
 obtain⟨rfl,q⟩:=h
 cases ry
 refine isnot_none_gen (z0p I q ?_)
 cases x<;>first
  | (cases rx;rfl)
  | (obtain⟨t,rfl⟩:=rx;rfl)
theorem z6K{op:CmpOp}{r:R2}(ho:OpR X (compareOp op) r)(ha:PE X a ta)(hb:PE X b tb)(hm:behindInMarks op b=false):PE X (.Compare a [op] [b] pos) (tOp r ta tb):=by
 intro pins s σ H Q I h
 exact wpAny_Compare1 (binT ha hb I h λv u s2 x y H2 I2 rx ry q=>ho pins s2 σ H2 x y v u Q I2 rx ry q) hm
def tTest(t:TE):TT:=λσ H Q=>t σ H λx H'=>∃k,x= .bl k/\Q k H'
theorem z6L{op:CmpOp}{r:R2}(ho:OpR X (compareOp op) r)(ha:PE X a ta)(hb:PE X b tb)(hm:behindInMarks op b=false):PT X (.Compare a [op] [b] pos) (tTest (tOp r ta tb)):=by
 intro pins s σ H Q I h
 refine wpAny_isTrue_Compare1 (thn (ha pins s σ H _ I h) λv s1⟨x,H1,I1,r1,q1⟩=>thn (hb pins s1 σ H1 _ I1 q1) λu s2⟨y,H2,I2,r2,q2⟩=>
  thn (ho pins s2 σ H2 x y v u _ I2 r1 r2 q2) λc s3⟨z,H3,I3,r3,k,e,q3⟩=>?_) hm
 subst e
 cases r3
 exact wpAny_truthy_bool ⟨H3,I3,q3⟩
def tChain(r r':R2)(ta tb tc:TE):TE:=λσ H Q=>ta σ H λx H1=>tb σ H1 λy H2=>r x y H2 λz H3=>∃k,z= .bl k/\
 (if k=true then tc σ H3 λw' H4=>r' y w' H4 Q else Q (.bl false) H3)
theorem zAZ{op op':CmpOp}{r r':R2}(ho:OpR X (compareOp op) r)(ho':OpR X (compareOp op') r')(ha:PE X a ta)(hb:PE X b tb)(hc:PE X c tc)
  (hm:lastMarks [op,op'] [b,c]=false:=by with_unfolding_all rfl):PE X (.Compare a [op,op'] [b,c] pos) (tChain r r' ta tb tc):=by
 intro pins s σ H Q I h
 refine Compare_chain (thn (ha pins s σ H _ I h) λv s1⟨x,H1,I1,r1,q1⟩=>chain_link (thn (hb pins s1 σ H1 _ I1 q1) λu s2⟨y,H2,I2,r2,q2⟩=>
  thn (ho pins s2 σ H2 x y v u _ I2 r1 r2 q2) λd s3⟨z,H3,I3,r3,k,e,q3⟩=>?_)) hm
 subst e
 cases r3
 refine wpAny_truthy_bool ?_
 cases k with
 | false=>exact ite_ff ⟨.bl false,H3,I3,rfl,q3⟩
 | true=>exact ite_tt (chain_last (thn (hc pins s3 σ H3 _ I3 q3) λw' s4⟨z',H4,I4,r4,q4⟩=>ho' pins s4 σ H4 y z' u w' Q I4 r2 r4 q4))
theorem zBa{op op':CmpOp}{r r':R2}(ho:OpR X (compareOp op) r)(ho':OpR X (compareOp op') r')(ha:PE X a ta)(hb:PE X b tb)(hc:PE X c tc)
  (hm:lastMarks [op,op'] [b,c]=false:=by with_unfolding_all rfl):PT X (.Compare a [op,op'] [b,c] pos) (tTest (tChain r r' ta tb tc)):=by
 intro pins s σ H Q I h
 refine isTrue_chain (thn (ha pins s σ H _ I h) λv s1⟨x,H1,I1,r1,q1⟩=>test_link (thn (hb pins s1 σ H1 _ I1 q1) λu s2⟨y,H2,I2,r2,q2⟩=>
  thn (ho pins s2 σ H2 x y v u _ I2 r1 r2 q2) λd s3⟨z,H3,I3,r3,k,e,q3⟩=>?_)) hm
 subst e
 cases r3
 refine wpAny_truthy_bool ?_
 cases k with
 | false=>
  obtain⟨k',e',q'⟩:=q3
  cases e'
  exact ite_ff ⟨H3,I3,q'⟩
 | true=>
  refine ite_tt (test_last (thn (hc pins s3 σ H3 _ I3 q3) λw' s4⟨z',H4,I4,r4,q4⟩=>thn (ho' pins s4 σ H4 y z' u w' _ I4 r2 r4 q4) λd' s5⟨z2,H5,I5,r5,k2,e2,q5⟩=>?_))
  subst e2
  cases r5
  exact wpAny_truthy_bool ⟨H5,I5,q5⟩
theorem line63:(sizeLine:Nat)<2^63:=by rw[sizeLine_eq];decide
theorem vals1{x:V}{us:List Value}(r:Vals [x] us):∃u,us=[u]/\RelV x u:=by
 cases r with
 | cons r1 r2=>cases r2;exact⟨_,rfl,r1⟩
theorem vals2{x y:V}{us:List Value}(r:Vals [x,y] us):∃u w',us=[u,w']/\RelV x u/\RelV y w':=by
 cases r with
 | cons r1 r2=>
  cases r2 with
  | cons r3 r4=>cases r4;exact⟨_,_,rfl,r1,r3⟩
theorem zBb:CallR X (.builtin "abs") (λxs H Q=>∃i,xs=[.int i]/\Q (.int (if i<0 then -i else i)) H):=by
 intro pins s σ H xs us Q I r h
 obtain⟨i,rfl,q⟩:=h
 obtain⟨u,rfl,t,rfl⟩:=vals1 r
 exact call_abs_int λu tk=>⟨.int (if i<0 then -i else i),H,I.tok _,⟨_,rfl⟩,q⟩
theorem z9i(hc:X.calm=true):CallR X (.builtin "max") (λxs H Q=>∃i j,xs=[.int i,.int j]/\Q (.int (if j>i then j else i)) H):=by
 intro pins s σ H xs us Q I r h
 obtain⟨i,j,rfl,q⟩:=h
 obtain⟨u,w',rfl,⟨t,rfl⟩,⟨t',rfl⟩⟩:=vals2 r
 refine max_two_ints (I.ok.hd hc) λh' tk k=>⟨_,H,I.kept k,?_,q⟩
 by_cases hj:j>i
 ·rw[if_pos hj,if_pos hj];exact⟨_,rfl⟩
 ·rw[if_neg hj,if_neg hj];exact⟨_,rfl⟩
theorem z9j(hc:X.calm=true):CallR X (.builtin "min") (λxs H Q=>∃i j,xs=[.int i,.int j]/\Q (.int (if j<i then j else i)) H):=by
 intro pins s σ H xs us Q I r h
 obtain⟨i,j,rfl,q⟩:=h
 obtain⟨u,w',rfl,⟨t,rfl⟩,⟨t',rfl⟩⟩:=vals2 r
 refine min_two_ints (I.ok.hd hc) λh' tk k=>⟨_,H,I.kept k,?_,q⟩
 by_cases hj:j<i
 ·rw[if_pos hj,if_pos hj];exact⟨_,rfl⟩
 ·rw[if_neg hj,if_neg hj];exact⟨_,rfl⟩
theorem z9k:CallR X (.type "int") (λxs H Q=>(∃i,xs=[.int i]/\Q (.int i) H)\/ ∃k,xs=[.bl k]/\Q (.int (if k then 1 else 0)) H):=by
 intro pins s σ H xs us Q I r h
 rcases h with⟨i,rfl,q⟩|⟨k,rfl,q⟩
 ·obtain⟨u,rfl,t,rfl⟩:=vals1 r
  exact call_int_int ⟨.int i,H,I,⟨_,rfl⟩,q⟩
 ·obtain⟨u,rfl,r1⟩:=vals1 r
  cases r1
  exact call_int_bool ⟨.int (if k then 1 else 0),H,I.tok _,⟨_,rfl⟩,q⟩
end
end L2
namespace L2
open PySem PySem.Spec PyProof.Rows
structure ObjM(h:Heap)(x dx C:Addr)(mA:Str->Option Value):Prop where
 obj:h.get? x=some (PySem.W.instObj C dx)
 ns:h.Ns1 dx mA
 ne:dx≠x
theorem z9l{h:Heap}{dx:Addr}{mA:Str->Option Value}(n:h.Ns1 dx mA):∃od,h.get? dx=some od/\ ∀name,PySem.W.lookIn name od=some (mA name):=by
 obtain⟨o,es,ep,ho,hd,hk,_,hm⟩:=n
 refine⟨o,ho,λname=>?_⟩
 have e:=hm name
 unfold nsFind findBy at e
 rw[<-Array.find?_toList]at e
 unfold PySem.W.lookIn
 rw[hd]
 dsimp only
 split
 ·rename_i y q
  rw[q]at e
  exact congrArg some e
 ·rename_i q
  rw[q]at e
  have a:es.toList.any (·.refKey)=false:=by
   rw[List.any_eq_false]
   intro y hy
   obtain⟨z,t,hkey⟩:=hk y (Array.mem_toList_iff.mp hy)
   simp[DictEntry.refKey,hkey]
  have a':¬es.toList.any (·.refKey)=true:=by rw[a];exact Bool.false_ne_true
  rw[if_neg a']
  exact congrArg some e
theorem ObjM.look{h:Heap}{x dx C:Addr}{mA:Str->Option Value}(I:ObjM h x dx C mA):∃od,PySem.W.InstAt h x (PySem.W.instObj C dx) C (some od)/\ ∀name,PySem.W.lookIn name od=some (mA name):=
 let ⟨od,ho,hl⟩:=z9l I.ns
 ⟨od,⟨I.obj,rfl,rfl,ho⟩,hl⟩
section
variable{prog:Program}{w:World}{A:Around}{E:Value->Shared->Prop}{s:Shared}{K:PySem.W.Frag}{x dx C f:Addr}{mA:Str->Option Value}{name:Str}{v:Value}
theorem zCK{expr:Bool}{Q:Value->Shared->Prop}(X:K.In s.heap)(I:ObjM s.heap x dx C mA)(hg:PySem.W.plainGet K C name=true)(hh:PySem.W.hasDictIn K C=true)
  (ha:PySem.W.findIn K (.ref C) name=some none) (hv:mA name=some v) (hv':PySem.W.handedIn v=true) (h:Q v {s with toks:=s.toks+1}):
  wpAny (model prog w) A (getAttr (.ref x) name expr) Q E s:=by
 obtain⟨od,J,hl⟩:=I.look
 exact PySem.W.get_value X J (PySem.W.plainGet_of hg).1 (PySem.W.findObj_own hh ha rfl (by rw[hl,hv])) hv' h
theorem zCL{ns:List Str}{Q:Unit->Shared->Prop}(X:K.In s.heap)(I:ObjM s.heap x dx C mA)
  (hs:PySem.W.findIn K (.ref C) "__setattr__"=some (some (.builtin "object.__setattr__"))) (hp:PySem.W.plainOver K C=true) (ht:PySem.W.takerIn K C name=some none) (hh:PySem.W.hasDictIn K C=true)
  (hw:PySem.Within mA ns) (hsz:ns.length<=sizeLine)
  (h:∀h',ObjM h' x dx C (λy=>if y=name then some v else mA y)->Heap.SameBut dx s.heap h'->Q () {s with heap:=h',toks:=s.toks+2}):
  wpAny (model prog w) A (setAttr (.ref x) name v) Q E s:=by
 obtain⟨od,J,hl⟩:=I.look
 refine PySem.W.set_plain X J hs (PySem.W.osa_open (s:={s with toks:=s.toks+1}) (r:=none) X J hp ht λb=>?_)
 obtain⟨cd,hc,hd'⟩:=PySem.W.any_some hh
 have hx:s.heap.get? x=some ⟨.ref C,some dx,.plain,#[]⟩:=I.obj
 refine wpAny_bind (wpAny_pure (wpAny_bind (wpAny_bind (wpAny_loadPart hx (wpAny_bind (PySem.W.Looks.here (s:={s with toks:=s.toks+1}) (PySem.W.looks_clsIn X hc) ?_))))))
 rw[hd']
 refine wpAny_pure (a:=some dx) (wpAny_bind (wpAny_pure (wpAny_bind ?_)))
 refine wpAny_nsSet1 (s:={s with toks:=s.toks+1}) I.ns λh' hn2 hs2=>?_
 obtain⟨oD,esD,epD,hoD,hdD,hcD⟩:=hn2.count (PySem.Within.cons name v hw)
 refine wpAny_bind (wpAny_lookBehind hoD (by rw[hdD];exact pastItsLine_dict (Nat.le_trans hcD (by rw[List.length_cons];lia))) ?_)
 exact wpAny_pure (h _ ⟨(hs2.2 _ (Ne.symm I.ne)).trans I.obj,hn2,I.ne⟩ hs2)
theorem zBc{R:Result->Shared->Prop}{vs:List Value}{kw:List (Str×Value)}(X:K.In s.heap)(hm:PySem.W.makesIn K C=true)
  (hi:PySem.W.findIn K (.ref C) "__init__"=some (some (.ref f))) (hf:PySem.W.typeIn K (.ref f)=some (.type "function"))
  (h:codeAny (model prog w) (A.under (.builtin "type.__call__" ⟨.ref C::vs,kw⟩)) (.call (.ref f) ⟨.ref (s.heap.objs.size+1)::vs,kw⟩) (PySem.W.InitBack (s.heap.objs.size+1) R)
   {s with heap:=(s.heap.push PySem.W.emptyDict).push (PySem.W.instObj C s.heap.objs.size)}):
  codeAny (model prog w) A (.call (.ref C) ⟨vs,kw⟩) R s:=by
 obtain⟨hh,g,d,t,os⟩:=s
 exact PySem.W.make_core (PySem.W.makes_of X hm) (PySem.W.looks_findIn X hi) (λself=>PySem.W.bind_fn X self hf) (.inl rfl) h
end
def putF(f:Str)(v:V):List (Str×V)->List (Str×V)
 | []=>[(f,v)]
 | (g,x)::r=>if g=f then(g,v)::r else(g,x)::putF f v r
theorem z3I(f g:Str)(v:V):∀fs:List (Str×V),(putF f v fs).lookup g=if g=f then some v else fs.lookup g
 | []=>by
  show List.lookup g [(f,v)]=_
  by_cases h:g=f
  ·have hb:(g==f)=true:=beq_iff_eq.mpr h
   simp only[List.lookup,hb,if_pos h]
  ·have hb:(g==f)=false:=beq_eq_false_iff_ne.mpr h
   simp only[List.lookup,hb,if_neg h]
 | (k,x)::r=>by
  have ih:=z3I f g v r
  rw[show putF f v ((k,x)::r)=(if k=f then(k,v)::r else(k,x)::putF f v r)from rfl]
  by_cases hk:k=f
  ·rw[if_pos hk]
   by_cases h:g=k
   ·have hb:(g==k)=true:=beq_iff_eq.mpr h
    simp only[List.lookup,hb,if_pos (h.trans hk)]
   ·have hb:(g==k)=false:=beq_eq_false_iff_ne.mpr h
    simp only[List.lookup,hb,if_neg (λe:g=f=>h (e.trans hk.symm))]
  ·rw[if_neg hk]
   by_cases h:g=k
   ·have hb:(g==k)=true:=beq_iff_eq.mpr h
    simp only[List.lookup,hb,if_neg (λe:g=f=>hk (h.symm.trans e))]
   ·have hb:(g==k)=false:=beq_eq_false_iff_ne.mpr h
    simp only[List.lookup,hb]
    exact ih
theorem z3J(f:Str)(v:V):∀fs:List (Str×V),f∈(putF f v fs).map (·.1)/\ ∀g,g∈fs.map (·.1)->g∈(putF f v fs).map (·.1)
 | []=>⟨by simp[putF],λg h=>by simp at h⟩
 | (k,x)::r=>by
  obtain⟨i1,i2⟩:=z3J f v r
  rw[show putF f v ((k,x)::r)=(if k=f then(k,v)::r else(k,x)::putF f v r)from rfl]
  by_cases hk:k=f
  ·rw[if_pos hk]
   subst hk
   exact⟨by simp,λg h=>by simpa using h⟩
  ·rw[if_neg hk]
   refine⟨?_,λg h=>?_⟩
   ·rw[List.map_cons]
    exact List.mem_cons_of_mem _ i1
   ·rw[List.map_cons]at h ⊢
    rcases List.mem_cons.mp h with e|e
    ·exact List.mem_cons.mpr (.inl e)
    ·exact List.mem_cons_of_mem _ (i2 g e)
theorem z3K(f:Str)(v:V):∀fs:List (Str×V),(putF f v fs).length<=fs.length+1
 | []=>by simp[putF]
 | (k,x)::r=>by
  have ih:=z3K f v r
  rw[show putF f v ((k,x)::r)=(if k=f then(k,v)::r else(k,x)::putF f v r)from rfl]
  by_cases hk:k=f
  ·rw[if_pos hk,List.length_cons,List.length_cons];lia
  ·rw[if_neg hk,List.length_cons,List.length_cons];lia
theorem RelO.some_of{v:V}{o:Option Value}(r:RelO (some v) o):∃u,o=some u/\RelV v u:=by
 cases o with
 | none=>exact(show False from r).elim
 | some u=>exact⟨u,rfl,r⟩
theorem z9m{v:V}{u:Value}(r:RelV v u):PySem.W.handedIn u=true:=by
 cases v with
 | non=>cases(show u=Value.none from r);rfl
 | bl b=>cases(show u=Value.bool b from r);rfl
 | int i=>obtain⟨t,e⟩:=(show ∃t,u=Value.int i t from r);cases e;rfl
 | str x=>obtain⟨t,e⟩:=(show ∃t,u=Value.str x t from r);cases e;rfl
 | byt b=>obtain⟨t,e⟩:=(show ∃t,u=Value.bytes b t from r);cases e;rfl
 | flt b=>obtain⟨t,e⟩:=(show ∃t,u=Value.float b t from r);cases e;rfl
 | ref a=>cases(show u=Value.ref a from r);rfl
 | ty n=>cases(show u=Value.type n from r);rfl
section
variable{P:Program}{w:World}{H H':Hp}{h h':Heap}{a C dx:Addr}{fs fs':List (Str×V)}
theorem z6M(hok:HOk P w H h)(e:H a=some (.ins C dx fs)):∃mA,ObjM h a dx C mA/\(∀f,RelO (fs.lookup f) (mA f))/\PySem.Within mA (fs.map (·.1))/\fs.length<=1000/\H dx=some (.own a):=by
 obtain⟨d,z,ne,ob,mA,n,r,q⟩:=(show ObjOk P w H h a (.ins C dx fs)from hok a _ e)
 exact⟨mA,⟨ob,n,ne⟩,r,q,z,d⟩
end
structure Cls(K:PySem.W.Frag)(C:Addr):Prop where
 pg:PySem.W.plainGet K C Str.empty=true
 hd:PySem.W.hasDictIn K C=true
 po:PySem.W.plainOver K C=true
 sa:PySem.W.findIn K (.ref C) "__setattr__"=some (some (.builtin "object.__setattr__"))
theorem Cls.get{K:PySem.W.Frag}{C:Addr}(c:Cls K C)(f:Str):PySem.W.plainGet K C f=true:=c.pg
def NoAttr(K:PySem.W.Frag)(C:Addr)(f:Str):Prop:=PySem.W.findIn K (.ref C) f=some none
theorem NoAttr.taker{K:PySem.W.Frag}{C:Addr}{f:Str}(n:NoAttr K C f):PySem.W.takerIn K C f=some none:=by
 unfold PySem.W.takerIn
 rw[show PySem.W.findIn K (.ref C) f=some none from n]
 rfl
structure Con(K:PySem.W.Frag)(C:Addr)(f:Str)(v:V)(u:Value):Prop where
 at_:PySem.W.findIn K (.ref C) f=some (some u)
 rel:RelV v u
 get:PySem.W.specialIn K u "__get__"=some none
 cp:PySem.W.copiedNames.contains f=false
structure Meth(K:PySem.W.Frag)(C:Addr)(m:Str)(f:Addr):Prop where
 at_:PySem.W.findIn K (.ref C) m=some (some (.ref f))
 fn:PySem.W.isFn K (.ref f)=true
 kp:PySem.W.keepIn K (.ref f)=true
section
variable{X:Cx}{pins:List (Addr×Obj)}{σ:St}{H:Hp}{s:Shared}{a C dx:Addr}{fs:List (Str×V)}{f:Str}{v:V}{A:Around}{E:Value->Shared->Prop}
theorem z8p{b:Bool}{Q:Value->Shared->Prop}(I:Inv X pins σ H s)(e:H a=some (.ins C dx fs))(c:Cls X.K C)(n:NoAttr X.K C f)(l:fs.lookup f=some v)
  (h:∀u s',Inv X pins σ H s'->RelV v u->Q u s'):wpAny (model X.prog X.w) A (getAttr (.ref a) f b) Q E s:=by
 obtain⟨mA,O,r,_,_,_⟩:=z6M I.hok e
 obtain⟨u,hu,ru⟩:=RelO.some_of (v:=v) (o:=mA f) (by rw[<-l];exact r f)
 exact zCK I.kIn O (c.get f) c.hd n hu (z9m ru) (h u _ (I.tok _) ru)
theorem z8q{y:V}{u:Value}{Q:Unit->Shared->Prop}(I:Inv X pins σ H s)(e:H a=some (.ins C dx fs))(c:Cls X.K C)(n:NoAttr X.K C f)(hl:fs.length<1000)(ry:RelV y u)
  (h:∀s',Inv X pins σ (upd H a (.ins C dx (putF f y fs))) s'->Q () s'):wpAny (model X.prog X.w) A (setAttr (.ref a) f u) Q E s:=by
 obtain⟨mA,O,r,wi,_,ho⟩:=z6M I.hok e
 have hz:(fs.map (·.1)).length<=sizeLine:=by rw[List.length_map,sizeLine_eq];lia
 refine zCL I.kIn O c.sa c.po n.taker c.hd wi hz λh' O' sb=>h _ ?_
 have hd:∃o,h'.get? dx=some o:=let ⟨o,_,_,e',_⟩:=O'.ns;⟨o,e'⟩
 refine I.write (x:=a) (e:=dx) (by rw[e];exact True.intro) (.inr ho) (λb q hb z=>(sb.2 b hb).trans z) hd ?_
 refine⟨by rw[z0f O.ne];exact ho,?_,O.ne,O'.obj,_,O'.ns,λg=>?_,λg hg=>?_⟩
 ·have:=z3K f y fs;lia
 ·show RelO ((putF f y fs).lookup g) (if g=f then some u else mA g)
  rw[z3I]
  by_cases q:g=f
  ·rw[if_pos q,if_pos q];exact ry
  ·rw[if_neg q,if_neg q];exact r g
 ·by_cases q:g=f
  ·rw[q];exact(z3J f y fs).1
  ·refine(z3J f y fs).2 g (wi g λz=>hg ?_)
   show(if g=f then some u else mA g)=none
   rw[if_neg q];exact z
theorem Inv.made(I:Inv X pins σ H s):Inv X pins σ (upd (upd H s.heap.objs.size (.own (s.heap.objs.size+1))) (s.heap.objs.size+1) (.ins C s.heap.objs.size []))
  {s with heap:=(s.heap.push PySem.W.emptyDict).push (PySem.W.instObj C s.heap.objs.size)}:=by
 have e1:(s.heap.push PySem.W.emptyDict).get? s.heap.objs.size=some PySem.W.emptyDict:=Heap.get?_push_size s.heap rfl
 have e2:((s.heap.push PySem.W.emptyDict).push (PySem.W.instObj C s.heap.objs.size)).get? (s.heap.objs.size+1)=some (PySem.W.instObj C s.heap.objs.size):=by
  have:=Heap.get?_push_size (s.heap.push PySem.W.emptyDict) (o:=PySem.W.instObj C s.heap.objs.size) rfl
  rwa [Heap.size_push]at this
 have e3:(s.heap.push PySem.W.emptyDict).Ns s.heap.objs.size (λ_=>none):=⟨PySem.W.emptyDict,#[],_,e1,rfl,(λe he=>absurd he (by simp)),λ_=>rfl⟩
 have I1:=I.laid (a:=s.heap.objs.size) (o:=.own (s.heap.objs.size+1)) (h':=s.heap.push PySem.W.emptyDict) (t':=s.toks) (λb u q=>Heap.get?_push_of_some _ q) (Nat.le_refl _) ⟨_,e1⟩
 refine I1.laid (a:=s.heap.objs.size+1) (o:=.ins C s.heap.objs.size []) (t':=s.toks) (λb u q=>Heap.get?_push_of_some _ q) (Nat.le_of_eq (Heap.size_push _ _)) ?_
 have ne:s.heap.objs.size≠s.heap.objs.size+1:=Nat.ne_of_lt (Nat.lt_succ_self _)
 refine⟨by rw[z0f ne,z0m],Nat.zero_le _,ne,e2,λ_=>none,(Heap.Ns1.of_empty e3).at λo q=>Heap.get?_push_of_some _ q,λ_=>True.intro,λy hy=>absurd rfl hy⟩
theorem zCM{prog:Program}{w:World}{env:Env}{e:Expr}{f:Str}{pos:Pos}{s:Shared}{Q:Value->Shared->Prop}(hb:attributeBase e f env (eval e env)=eval e env)
  (h:wpAny (model prog w) A (eval e env) (λo s₁=>wpAny (model prog w) A (getAttr o f true) Q E s₁) E s):wpAny (model prog w) A (eval (.Attribute e f pos) env) Q E s:=
 Attribute_any_ h (by rw[arm_eval_Attribute,hb])
end
def tFld(K:PySem.W.Frag)(ta:TE)(f:Str):TE:=λσ H Q=>ta σ H λx H1=>∃a C dx fs v,x= .ref a/\H1 a=some (.ins C dx fs)/\Cls K C/\NoAttr K C f/\fs.lookup f=some v/\Q v H1
def sFld(K:PySem.W.Frag)(ta tv:TE)(f:Str):TS:=λD σ H=>tv σ H λy H1=>ta σ H1 λx H2=>∃a C dx fs,x= .ref a/\H2 a=some (.ins C dx fs)/\Cls K C/\NoAttr K C f/\fs.length<1000/\
 D.nx σ (upd H2 a (.ins C dx (putF f y fs)))
section
variable{X:Cx}{o e value:Expr}{f:Str}{pos pos' tpos:Pos}{ta tv:TE}
theorem zER(he:PE X e ta)(hb:attributeBase e f X.env (eval e X.env)=eval e X.env):PE X (.Attribute e f pos) (tFld X.K ta f):=by
 intro pins s σ H Q I h
 refine zCM hb (thn (he pins s σ H _ I h) λu s1⟨x,H1,I1,rx,a,C,dx,fs,v,ex,ea,c,n,l,q⟩=>?_)
 subst ex
 obtain rfl:u=Value.ref a:=rx
 exact z8p I1 ea c n l λu' s2 I2 ru=>⟨v,H1,I2,ru,q⟩
theorem zCt(ha:PE X o ta)(hv:PE X value tv)(hs:swapsWith value (some (.Attribute o f pos')) pos.line X.env=pure false):PS X (.Assign [.Attribute o f pos'] value pos) (sFld X.K ta tv f):=by
 intro pins s σ H D I h
 refine plainObj_wpAny_Assign_Attribute (thn (hv pins s σ H _ I h) λu s1⟨y,H1,I1,ry,q⟩=>thn (ha pins s1 σ H1 _ I1 q) λov s2⟨x,H2,I2,rx,a,C,dx,fs,ex,ea,c,n,l,q2⟩=>?_) hs
 subst ex
 obtain rfl:ov=Value.ref a:=rx
 exact z8q I2 ea c n l ry λs3 I3=>⟨σ,_,I3,q2⟩
end
section
variable{X:Cx}{pins:List (Addr×Obj)}{σ:St}{H:Hp}{s:Shared}{A:Around}{E:Value->Shared->Prop}{Q:Value->Shared->Prop}{c:Value}{b:Bool}
inductive TyOf(K:PySem.W.Frag)(H:Hp):V->Value->Prop where
 | non:TyOf K H .non (.type "NoneType")
 | bl (x:Bool):TyOf K H (.bl x) (.type "bool")
 | int (i:Int):TyOf K H (.int i) (.type "int")
 | str (x:Str):TyOf K H (.str x) (.type "str")
 | flt (x:UInt64):TyOf K H (.flt x) (.type "float")
 | lst {a:Addr} {xs:List V} (e:H a=some (.lst xs)):TyOf K H (.ref a) (.type "list")
 | frz {a:Addr} {o:Obj} {xs:List V} (e:H a=some (.frz o (.lst xs))):TyOf K H (.ref a) (.type "list")
 | tup {a:Addr} {xs:List V} (e:H a=some (.tup xs)):TyOf K H (.ref a) (.type "tuple")
 | dK {a:Addr} {kvs:List (Key×V)} (e:H a=some (.dK kvs)):TyOf K H (.ref a) (.type "dict")
 | dT {a:Addr} {kvs:List (List Key×V)} (e:H a=some (.dT kvs)):TyOf K H (.ref a) (.type "dict")
 | ins {a C dx:Addr} {fs:List (Str×V)} (e:H a=some (.ins C dx fs)) (cl:Cls K C) (ha:PySem.W.findIn K (.ref C) "__class__"=some (some (.builtin "object.__class__")))
   (hn:PySem.W.specialIn K (.builtin "object.__class__") "__get__"=some (some (.builtin "getset_descriptor.__get__"))) (htk:PySem.W.takesIn K (.builtin "object.__class__")=some true)
   (hm:PySem.W.mroIn K C (.type "object")=some true):TyOf K H (.ref a) (.ref C)
theorem z2N{x:V}{u t:Value}(I:Inv X pins σ H s)(rx:RelV x u)(ty:TyOf X.K H x t)(e:PySem.W.kitOne X.K t c=some b)(h:∀tk,Q (.bool b) {s with toks:=tk}):
  wpAny (model X.prog X.w) A (call (.builtin "isinstance") [u,c]) Q E s:=by
 cases ty with
 | non=>cases(show u=Value.none from rx);exact PySem.W.kia_one PySem.W.kitx_none I.kIn True.intro e (λz=>nomatch z) h
 | bl y=>cases(show u=Value.bool y from rx);exact PySem.W.kia_one PySem.W.kitx_bool I.kIn True.intro e (λz=>nomatch z) h
 | int i=>obtain⟨t,q⟩:=(show ∃t,u=Value.int i t from rx);cases q;exact PySem.W.kia_one PySem.W.kitx_int I.kIn True.intro e (λz=>nomatch z) h
 | str y=>obtain⟨t,q⟩:=(show ∃t,u=Value.str y t from rx);cases q;exact PySem.W.kia_one PySem.W.kitx_str I.kIn True.intro e (λz=>nomatch z) h
 | flt y=>obtain⟨t,q⟩:=(show ∃t,u=Value.float y t from rx);cases q;exact PySem.W.kia_one PySem.W.kitx_float I.kIn True.intro e (λz=>nomatch z) h
 | @lst a xs ea=>
  cases(show u=Value.ref a from rx)
  obtain⟨_,_,n,_,h1⟩:=(show ObjOk X.prog X.w H s.heap a (.lst xs)from I.hok a _ ea)
  exact PySem.W.kia_one PySem.W.kitx_list I.kIn ⟨_,h1,rfl⟩ e (λz=>nomatch z) h
 | @frz a ob xs ea=>
  cases(show u=Value.ref a from rx)
  obtain⟨_,_,_,n,_,h1⟩:=(show ObjOk X.prog X.w H s.heap a (.frz ob (.lst xs))from I.hok a _ ea)
  exact PySem.W.kia_one PySem.W.kitx_list I.kIn ⟨_,h1,rfl⟩ e (λz=>nomatch z) h
 | @tup a xs ea=>
  cases(show u=Value.ref a from rx)
  obtain⟨_,_,_,p⟩:=(show ObjOk X.prog X.w H s.heap a (.tup xs)from I.hok a _ ea)
  obtain⟨o,h1,h2,_⟩:=p
  exact PySem.W.kia_one PySem.W.kitx_tuple I.kIn ⟨o,h1,h2⟩ e (λz=>nomatch z) h
 | @dK a kvs ea=>
  cases(show u=Value.ref a from rx)
  obtain⟨_,_,vs,_,p⟩:=(show ObjOk X.prog X.w H s.heap a (.dK kvs)from I.hok a _ ea)
  obtain⟨o,es,ep,h1,h2,_⟩:=p
  exact PySem.W.kia_one PySem.W.kitx_dict I.kIn ⟨o,h1,h2.1⟩ e (λz=>nomatch z) h
 | @dT a kvs ea=>
  cases(show u=Value.ref a from rx)
  obtain⟨_,_,xs,_,o,es,ep,h1,h2,_⟩:=(show ObjOk X.prog X.w H s.heap a (.dT kvs)from I.hok a _ ea)
  exact PySem.W.kia_one PySem.W.kitx_dict I.kIn ⟨o,h1,h2.1⟩ e (λz=>nomatch z) h
 | @ins a C dx fs ea cl ha hn htk hm=>
  cases(show u=Value.ref a from rx)
  obtain⟨mA,O,_⟩:=z6M I.hok ea
  obtain⟨od,J,_⟩:=O.look
  exact PySem.W.kia_one (PySem.W.kitx_own (cl.get _) cl.hd ha hn htk hm) I.kIn J e (λz=>nomatch z) h
end
end L2
namespace L2
open PySem PySem.Spec PyProof.Rows
structure Room(k:Nat)(A:Around):Prop where
 hd:A.handled=none
 dp:A.depth+3*k+5<recursionLimit
 un:A.units+16*k+200<cLine
theorem Room.mono{j k:Nat}{A:Around}(r:Room k A)(h:j<=k):Room j A:=⟨r.hd,by have:=r.dp;lia,by have:=r.un;lia⟩
theorem Room.deeper{k:Nat}{A:Around}(r:Room (k+1) A)(env:Env):Room k (A.deeper env):=
 ⟨r.hd,by have:=r.dp;show A.depth+1+3*k+5<_;lia,by have:=r.un;show A.units+3+16*k+200<_;lia⟩
theorem z8r{A:Around}{C:Addr}{us:List Value}{kw:List (Str×Value)}:(A.under (.builtin "type.__call__" ⟨.ref C::us,kw⟩)).depth=A.depth+1:=by
 first|rfl|simp[Around.under,Code.weight,Code.isCreation,Code.isGuard,Code.isCaller,Code.frames,Code.isFrame,guardIds]
theorem z8s{A:Around}{C:Addr}{us:List Value}{kw:List (Str×Value)}:(A.under (.builtin "type.__call__" ⟨.ref C::us,kw⟩)).units=A.units+1:=by
 first|rfl|simp[Around.under,Code.cUnits,Code.frames,Code.isFrame]
theorem Room.make{k:Nat}{A:Around}(r:Room (k+1) A)(C:Addr)(us:List Value)(kw:List (Str×Value)):Room k (A.under (.builtin "type.__call__" ⟨.ref C::us,kw⟩)):=
 ⟨r.hd,by have:=r.dp;rw[z8r];omega,by have:=r.un;rw[z8s];omega⟩
theorem Room.depth{k:Nat}{A:Around}(r:Room k A):A.depth<recursionLimit:=by have:=r.dp;lia
def tNil:TA:=λ_ H Q=>Q [] H
def tCons(ta:TE)(tr:TA):TA:=λσ H Q=>ta σ H λx H1=>tr σ H1 λxs H2=>Q (x::xs) H2
section
variable{X:Cx}{e:Expr}{es:List Expr}{te:TE}{t:TA}{pos:Pos}
theorem z2f:PA X [] tNil:=λ_ _ _ _ H Q I h=>Calls.spliced_nil ⟨[],H,I,.nil,h⟩
theorem z0G(ha:PE X e te)(hr:PA X es t)(hs:starEach (e::es) X.env=(false,eval e X.env)::starEach es X.env:=by rfl):PA X (e::es) (tCons te t):=by
 intro pos pins s σ H Q I h
 rw[hs]
 show wpAny _ _ (spliced ((false,eval e X.env)::backTo pos (starEach es X.env))) _ _ s
 refine Calls.spliced_cons (thn (ha pins s σ H _ I h) λu s1⟨x,H1,I1,r1,q1⟩=>?_)
 exact thn (hr pos pins s1 σ H1 _ I1 q1) λus s2⟨xs,H2,I2,r2,q2⟩=>⟨x::xs,H2,I2,.cons r1 r2,q2⟩
def tTup(t:TA):TE:=λσ H Q=>t σ H λxs H1=>xs.length<=sizeLine/\ ∀p,H1 p=none->Q (.ref p) (upd H1 p (.tup xs))
def tLst(t:TA):TE:=λσ H Q=>t σ H λxs H1=>xs.length<=sizeLine/\ ∀p,H1 p=none->Q (.ref p) (upd H1 p (.lst xs))
theorem zES{x1}(h:PA X es t):PE X (.Tuple es x1 pos) (tTup t):=by
 intro pins s σ H Q I hq
 refine wpAny_Tuple_spliced (thn (h pos pins s σ H _ I hq) λus s1⟨xs,H1,I1,r,z,q⟩=>⟨by rw[<-r.length];exact z,?_⟩)
 have hf:H1 s1.heap.objs.size=none:=I1.hok.fresh (Nat.le_refl _)
 refine⟨.ref s1.heap.objs.size,upd H1 s1.heap.objs.size (.tup xs),I1.laid (t':=s1.toks) (λb u e=>Heap.get?_push_of_some _ e) (Nat.le_refl _) ?_,rfl,q _ hf⟩
 exact⟨z,us,r,⟨_,Heap.get?_push_size _ rfl,rfl,_,rfl⟩⟩
theorem zET(h:PA X es t):PE X (.List es pos) (tLst t):=by
 intro pins s σ H Q I hq
 refine wpAny_List_spliced (thn (h pos pins s σ H _ I hq) λus s1⟨xs,H1,I1,r,z,q⟩=>⟨by rw[<-r.length];exact z,?_⟩)
 have hf:H1 s1.heap.objs.size=none:=I1.hok.fresh (Nat.le_refl _)
 refine⟨.ref s1.heap.objs.size,upd H1 s1.heap.objs.size (.lst xs),I1.laid (t':=s1.toks) (λb u e=>Heap.get?_push_of_some _ e) (Nat.le_refl _) ?_,rfl,q _ hf⟩
 exact⟨z,us,0,r,Heap.get?_push_size _ rfl⟩
end
abbrev Sp:=List V->Hp->VK->XK->Prop
abbrev CXT:=List Env->Hp->Shared->XK->Value->Shared->Prop
structure Env0(P:Program)(w:World)(K:PySem.W.Frag)(mg:Str->Option Value)(base:Heap)(A:Around)(outer:List Env)(s:Shared)(H:Hp):Prop where
 frames:A.frames=some outer
 mod:Mod K mg base
 bs:∀b o,base.get? b=some o->s.heap.get? b=some o/\H b=none
 bsz:base.objs.size<=s.heap.objs.size
 funs:s.heap.FunFrames base outer
 frf:∀b∈frs outer,H b=none
 hok:HOk P w H s.heap
 bare:AllBare s.gens
def CE(outer:List Env)(P:Program)(w:World)(H:Hp)(s:Shared)(Q:VK)(u:Value)(s':Shared):Prop:=
 ∃v H',s'.os=s.os/\AllBare s'.gens/\Un (frs outer) [] H H' s.heap s'.heap/\HOk P w H' s'.heap/\RelV v u/\Q v H'
def CR(CX:CXT)(outer:List Env)(P:Program)(w:World)(H:Hp)(s:Shared)(Q:VK)(E:XK)(r:Result)(s':Shared):Prop:=
 match r with
 | .ok (.ret u)=>CE outer P w H s Q u s'
 | .ok _=>False
 | .error e=>CX outer H s E e s'
structure FnOk(P:Program)(w:World)(K:PySem.W.Frag)(mg:Str->Option Value)(base:Heap)(CX:CXT)(k:Nat)(f:Addr)(fd:FuncData)(ps:List Str)(sp:Sp):Prop where
 len:∀vs H Q E,sp vs H Q E->vs.length=ps.length
 run:∀(A:Around)(outer:List Env)(s:Shared)(H:Hp)(args:Args)(us:List Value)(vs:List V)(Q:VK)(E:XK),Room k A->Env0 P w K mg base A outer s H->BindsTo s fd args (ps.zip us)->Vals vs us->sp vs H Q E->
  codeAny (model P w) A (.call (.ref f) args) (CR CX outer P w H s Q E) s
theorem FnOk.mono{P:Program}{w:World}{K:PySem.W.Frag}{mg:Str->Option Value}{base:Heap}{CX:CXT}{j k:Nat}{f:Addr}{fd:FuncData}{ps:List Str}{sp:Sp}(F:FnOk P w K mg base CX j f fd ps sp)(h:j<=k):
  FnOk P w K mg base CX k f fd ps sp:=⟨F.len,λA outer s H args us vs Q E hr=>F.run A outer s H args us vs Q E (hr.mono h)⟩
theorem FnOk.imp{P:Program}{w:World}{K:PySem.W.Frag}{mg:Str->Option Value}{base:Heap}{CX:CXT}{k:Nat}{f:Addr}{fd:FuncData}{ps:List Str}{sp sp':Sp}(F:FnOk P w K mg base CX k f fd ps sp)
  (h:∀vs H Q E,sp' vs H Q E->sp vs H Q E):FnOk P w K mg base CX k f fd ps sp':=
 ⟨λvs H Q E q=>F.len vs H Q E (h _ _ _ _ q),λA outer s H args us vs Q E hr he hb hv hs=>F.run A outer s H args us vs Q E hr he hb hv (h _ _ _ _ hs)⟩
theorem Env0.make{P:Program}{w:World}{K:PySem.W.Frag}{mg:Str->Option Value}{base:Heap}{A:Around}{outer:List Env}{s:Shared}{H:Hp}(e:Env0 P w K mg base A outer s H)(C:Addr)(us:List Value)(kw:List (Str×Value)):
  Env0 P w K mg base (A.under (.builtin "type.__call__" ⟨.ref C::us,kw⟩)) outer s H:=⟨by first|exact e.frames|(simpa [Around.under,Code.envs,Code.isFrame,pushEnvs] using e.frames),e.mod,e.bs,e.bsz,e.funs,e.frf,e.hok,e.bare⟩
section
variable{X:Cx}{pins:List (Addr×Obj)}{σ:St}{H:Hp}{s s':Shared}
theorem Inv.env0(I:Inv X pins σ H s):Env0 X.prog X.w X.K X.mg X.base X.A X.stack s H:=
 ⟨I.ok.frames,I.ok.mod,I.bs,Nat.le_trans I.ok.bsz I.sz,I.stack,I.stkFree,I.hok,I.bare⟩
theorem Inv.after{Q:VK}{u:Value}(I:Inv X pins σ H s)(h:CE X.stack X.prog X.w H s Q u s'):EP X pins σ Q u s':=by
 obtain⟨v,H',os,bare,un,hok,r,q⟩:=h
 obtain⟨hh,g,d,t,os'⟩:=s'
 obtain rfl:os'=s.os:=os
 exact⟨v,H',I.call (h':=hh) (g':=g) (d':=d) (t':=t) (ch:=[]) un hok bare (λb z=>absurd z (by simp)),r,q⟩
end
def tCall(sp:Sp)(dvs:List V)(E:XK)(t:TA):TE:=λσ H Q=>t σ H λvs H1=>sp (vs++dvs) H1 Q E
def Binds(K:PySem.W.Frag)(fd:FuncData)(ps:List Str)(ds:List Value):Prop:=
 ∀(s:Shared)(us:List Value),K.In s.heap->(us++ds).length=ps.length->BindsTo s fd ⟨us,[]⟩ (ps.zip (us++ds))
theorem Binds.all{K:PySem.W.Frag}{fd:FuncData}{ps:List Str}(h:∀us:List Value,us.length=ps.length->bindArgs fd ⟨us,[]⟩=pure (ps.zip us)):Binds K fd ps []:=λs us _ hl=>by
 rw[List.append_nil]at hl ⊢
 exact .of_eq (h us hl)
def Passes(CX:CXT)(X:Cx)(E:XK):Prop:=∀(pins:List (Addr×Obj))(σ:St)(H:Hp)(s:Shared)(e:Value)(s':Shared),Inv X pins σ H s->CX X.stack H s E e s'->X.xe e s'
section
variable{X:Cx}{CX:CXT}{k:Nat}{f C:Addr}{fd:FuncData}{ps:List Str}{sp:Sp}{dvs:List V}{ds:List Value}{E:XK}{x m:Str}{p pos apos:Pos}{e o:Expr}{es:List Expr}{ta:TE}{t:TA}
theorem zEU{pins:List (Addr×Obj)}{σ:St}{H:Hp}{s:Shared}{Q:VK}{us:List Value}{vs:List V}(F:FnOk X.prog X.w X.K X.mg X.base CX k f fd ps sp)(hr:Room k X.A)(hb:Binds X.K fd ps ds)(hd:Vals dvs ds)(hx:Passes CX X E)
  (I:Inv X pins σ H s) (r:Vals vs us) (h:sp (vs++dvs) H Q E):wpAny (model X.prog X.w) X.A (call (.ref f) us) (EP X pins σ Q) X.xe s:=by
 have r2:Vals (vs++dvs) (us++ds):=r.append hd
 have hl:(us++ds).length=ps.length:=by rw[<-r2.length];exact F.len _ _ _ _ h
 refine wpAny_call (codeAny_mono (F.run X.A X.stack s H ⟨us,[]⟩ (us++ds) (vs++dvs) Q E hr I.env0 (hb s us I.kIn hl) r2 h) λr s' hq=>?_)
 cases r with
 | error e=>exact hx pins σ H s e s' I hq
 | ok fl=>
  cases fl with
  | ret u=>exact I.after hq
  | next=>exact False.elim hq
  | brk=>exact False.elim hq
  | cont=>exact False.elim hq
theorem zCN(F:FnOk X.prog X.w X.K X.mg X.base CX k f fd ps sp)(hr:Room k X.A)(hg:Gl X x)(hm:X.mg x=some (.ref f))(hk:PySem.W.keepIn X.K (.ref f)=true)(hb:Binds X.K fd ps ds)(hd:Vals dvs ds)(hx:Passes CX X E)
  (ha:PA X (e::es) t) (hdb:(x==("__debug__":Str))=false:=by decide) (he:starEach (e::es) X.env=(false,eval e X.env)::starEach es X.env:=by rfl) (hpl:(backTo pos (starEach es X.env)).any (·.1)=false:=by rfl):
  PE X (.Call (.Name x p) (e::es) [] pos) (tCall sp dvs E t):=by
 intro pins s σ H Q I h
 refine wpAny_Call_Name_kw (z3G I hg hm ?_ hdb)
 refine PySem.W.callWith_K (h₀:=X.base) I.ok.mod.kin hk (thn (ha pos pins s σ H _ I h) λus s1⟨vs,H1,I1,r,q⟩=>⟨I1.kIn,?_⟩) he hpl
 exact zEU F hr hb hd hx I1 r q
structure Mk(K:PySem.W.Frag)(C f:Addr):Prop where
 makes:PySem.W.makesIn K C=true
 init:PySem.W.findIn K (.ref C) "__init__"=some (some (.ref f))
 fn:PySem.W.isFn K (.ref f)=true
 kp:PySem.W.keepIn K (.ref C)=true
theorem zBd{pins:List (Addr×Obj)}{σ:St}{H:Hp}{s:Shared}{Q:VK}{us:List Value}{vs:List V}(M:Mk X.K C f)(F:FnOk X.prog X.w X.K X.mg X.base CX k f fd ps sp)(hr:Room (k+1) X.A)(hb:Binds X.K fd ps ds)(hd:Vals dvs ds)
  (hx:Passes CX X E) (I:Inv X pins σ H s) (r:Vals vs us)
  (h:∀x dx,H x=none->H dx=none->dx≠x->sp (.ref x::(vs++dvs)) (upd (upd H dx (.own x)) x (.ins C dx [])) (λv H2=>v= .non/\Q (.ref x) H2) E):
  wpAny (model X.prog X.w) X.A (call (.ref C) us) (EP X pins σ Q) X.xe s:=by
 have hq:=h (s.heap.objs.size+1) s.heap.objs.size (I.hok.fresh (Nat.le_succ _)) (I.hok.fresh (Nat.le_refl _)) (Nat.ne_of_lt (Nat.lt_succ_self _))
 have I2:=Inv.made (C:=C) I
 have r2:Vals (V.ref (s.heap.objs.size+1)::(vs++dvs)) (Value.ref (s.heap.objs.size+1)::(us++ds)):=.cons rfl (r.append hd)
 have hl:(Value.ref (s.heap.objs.size+1)::us++ds).length=ps.length:=by
  have e:=r2.length
  rw[F.len _ _ _ _ hq]at e
  exact e.symm
 refine wpAny_call (zBc (f:=f) I.kIn M.makes M.init (beq_iff_eq.mp M.fn) (codeAny_mono (F.run _ X.stack _ _ ⟨Value.ref (s.heap.objs.size+1)::us,[]⟩ (Value.ref (s.heap.objs.size+1)::(us++ds)) _ _ E (hr.make C us [])
  (I2.env0.make C us []) (hb _ (Value.ref (s.heap.objs.size+1)::us) I2.kIn hl) r2 hq) λr s' hq'=>?_))
 cases r with
 | error e=>exact hx pins σ _ _ e s' I2 hq'
 | ok fl=>
  cases fl with
  | ret u=>
   obtain⟨v,H',I3,rv,ev,q3⟩:=I2.after hq'
   subst ev
   exact⟨rv,⟨V.ref (s.heap.objs.size+1),H',I3,rfl,q3⟩⟩
  | next=>exact False.elim hq'
  | brk=>exact False.elim hq'
  | cont=>exact False.elim hq'
end
section
variable{X:Cx}{CX:CXT}{k:Nat}{f C:Addr}{fd:FuncData}{ps ks:List Str}{sp:Sp}{E:XK}{x m:Str}{p pos apos kpos:Pos}{e o:Expr}{es:List Expr}{kws:List Keyword}{te ta:TE}{t tk:TA}{nm:Option Str}
structure KBinds(K:PySem.W.Frag)(fd:FuncData)(ps ks:List Str)(g:List Value->List Value->List Value)(gV:List V->List V->List V):Prop where
 to:∀(s:Shared)(us ws:List Value),K.In s.heap->(g us ws).length=ps.length->BindsTo s fd ⟨us,ks.zip ws⟩ (ps.zip (g us ws))
 rel:∀{vs:List V}{us:List Value}{zs:List V}{ws:List Value},Vals vs us->Vals zs ws->Vals (gV vs zs) (g us ws)
variable{g:List Value->List Value->List Value}{gV:List V->List V->List V}
end
structure FnScope(N P:List Str)(sc:Scope):Prop where
 kind:sc.kind= .function
 co:sc.isCoroutine=false
 gen:sc.isGenerator=false
 nd:N.Nodup
 pre:N.take P.length=P
 par:∀x∈P,sc.names.lookup x=some .local\/sc.names.lookup x=some .cell
 nofree:∀y∈sc.names,y.2≠ .free
theorem z5V{kindOf:Str->Option NameKind}{x:Str}:∀{binds:List (Str×Value)}{m:Str->Option Value},(∀v,(x,v)∉binds)->bindL kindOf binds m x=m x
 | [],_,_=>rfl
 | (n,v)::r,m,h=>by
  unfold bindL
  rw[z5V λw hw=>h w (List.mem_cons_of_mem _ hw)]
  split
  ·have:x≠n:=by rintro rfl;exact h v List.mem_cons_self
   simp[this]
  ·rfl
theorem z5W{kindOf:Str->Option NameKind}{x:Str}:∀{binds:List (Str×Value)}{m:Str->Option Value},(∀v,(x,v)∉binds)->bindC kindOf binds m x=m x
 | [],_,_=>rfl
 | (n,v)::r,m,h=>by
  unfold bindC
  rw[z5W λw hw=>h w (List.mem_cons_of_mem _ hw)]
  split
  ·rfl
  ·have:x≠n:=by rintro rfl;exact h v List.mem_cons_self
   simp[this]
theorem z5X{kindOf:Str->Option NameKind}{x:Str}{v:Value}:∀{P:List Str}{vs:List Value}{i:Nat}{m:Str->Option Value},P.Nodup->P[i]? = some x->vs[i]? = some v->kindOf x=some .local->
  bindL kindOf (P.zip vs) m x=some v
 | [],_,_,_,_,h,_,_=>by simp at h
 | _::_,[],_,_,_,_,h,_=>by simp at h
 | p::P,w::vs,0,m,nd,h1,h2,hk=>by
  simp at h1 h2;subst h1;subst h2
  show bindL kindOf ((p,w)::P.zip vs) m p=_
  unfold bindL
  rw[z5V λv hv=>(List.nodup_cons.mp nd).1 (List.of_mem_zip hv).1,if_pos hk]
  simp
 | p::P,w::vs,i+1,m,nd,h1,h2,hk=>by
  show bindL kindOf ((p,w)::P.zip vs) m x=_
  unfold bindL
  exact z5X (i:=i) (List.nodup_cons.mp nd).2 (by simpa using h1) (by simpa using h2) hk
theorem z5Y{kindOf:Str->Option NameKind}{x:Str}{v:Value}:∀{P:List Str}{vs:List Value}{i:Nat}{m:Str->Option Value},P.Nodup->P[i]? = some x->vs[i]? = some v->kindOf x≠some .local->
  bindC kindOf (P.zip vs) m x=some v
 | [],_,_,_,_,h,_,_=>by simp at h
 | _::_,[],_,_,_,_,h,_=>by simp at h
 | p::P,w::vs,0,m,nd,h1,h2,hk=>by
  simp at h1 h2;subst h1;subst h2
  show bindC kindOf ((p,w)::P.zip vs) m p=_
  unfold bindC
  rw[z5W λv hv=>(List.nodup_cons.mp nd).1 (List.of_mem_zip hv).1,if_neg hk]
  simp
 | p::P,w::vs,i+1,m,nd,h1,h2,hk=>by
  show bindC kindOf ((p,w)::P.zip vs) m x=_
  unfold bindC
  exact z5Y (i:=i) (List.nodup_cons.mp nd).2 (by simpa using h1) (by simpa using h2) hk
def start(N:List Str)(vs:List V):St:=vs.map some++List.replicate (N.length-vs.length) none
def cxOf(CX:CXT)(P:Program)(w:World)(K:PySem.W.Frag)(mg:Str->Option Value)(base:Heap)(N:List Str)(qual:Str)(scope:Scope)(f:Addr)(cd:Value)(A:Around)(outer:List Env)(s:Shared)(H:Hp)(E:XK):Cx where
 prog:=P
 w:=w
 K:=K
 mg:=mg
 base:=base
 A:=A.deeper (envOfC qual scope s.heap.objs.size f cd)
 N:=N
 s₀:=s
 H₀:=H
 env:=envOfC qual scope s.heap.objs.size f cd
 outer:=outer
 stack:=envOfC qual scope s.heap.objs.size f cd::outer
 ex:=[]
 calm:=true
 fn:=λ_=>true
 pn:=[]
 xe:=λe s'=>wpAny (model P w) (A.deeper (envOfC qual scope s.heap.objs.size f cd)) (leaving (envOfC qual scope s.heap.objs.size f cd) e) (λ_ s''=>CX outer H s E e s'') (λe' s''=>CX outer H s E e' s'') s'
theorem z7D{sc:Scope}{n:Nat}{x:Str}(h:sc.names.lookup x=some .cell):∃c,(cellsFrom n sc.names []).lookup x=some c:=by
 have q:=PySem.W.cellsFrom_some sc.names n [] (.inl h)
 exact Option.isSome_iff_exists.mp q
theorem z9n{CX:CXT}{P:Program}{w:World}{K:PySem.W.Frag}{mg:Str->Option Value}{base:Heap}{N ps:List Str}{qual:Str}{scope:Scope}{f:Addr}{cd:Value}{A:Around}{outer:List Env}{s s1:Shared}{H:Hp}{E:XK}{us:List Value}{vs:List V}
  (S:FnScope N ps scope) (hd:A.handled=none) (e0:Env0 P w K mg base A outer s H) (hl:vs.length=ps.length) (r:Vals vs us)
  (x:InCallC s s.heap.objs.size (bindL (envOfC qual scope s.heap.objs.size f cd).kindOf (ps.zip us) λ_=>none) (cellsFrom (s.heap.objs.size+1) scope.names []) (bindC (envOfC qual scope s.heap.objs.size f cd).kindOf (ps.zip us) λ_=>none) s1):
  Inv (cxOf CX P w K mg base N qual scope f cd A outer s H E) [] (start N vs) H s1:=by
 have hpl:ps.length<=N.length:=by have:=congrArg List.length S.pre;rw[List.length_take]at this;lia
 obtain⟨h1,tk,rfl,hk⟩:=x.done
 have noA:∀b:Addr,b∉(cxOf CX P w K mg base N qual scope f cd A outer s H E).ex:=λb z=>absurd (show b∈([]:List Addr)from z) (by simp)
 refine⟨⟨e0.mod,S.kind,rfl,rfl,Nat.le_refl _,λy z c h1 h2=>?_,λy hy=>?_,λy c _ h=>?_,λ_=>hd,Around.frames_deeper e0.frames,.inr ⟨rfl,rfl⟩,λb z=>absurd z (noA b),e0.bs,e0.bsz,λb _ _=>noA b,λb z=>absurd z (noA b),e0.funs,e0.frf⟩,
  rfl,e0.bare,Un.kept hk,⟨_,x.toInCall.ns,λi y v h1 h2 h3=>?_⟩,λy c h=>⟨_,x.cell y c h⟩,e0.hok.fresh (Nat.le_refl _),λy c h=>?_,λp hp=>absurd (show p∈([]:List (Addr×Obj))from hp) (by simp),e0.hok.kept hk,?_⟩
 ·exact name_of_addr x.apart (PySem.mem_of_lookup h1) (PySem.mem_of_lookup h2)
 ·have hy:scope.names.lookup y=some .cell\/scope.names.lookup y=some .free:=hy
  rcases hy with hy|hy
  ·exact z7D hy
  ·exact absurd rfl (S.nofree _ (PySem.mem_of_lookup hy))
 ·exact Nat.le_of_lt (x.above y c (PySem.mem_of_lookup h))
 ·have hi:i<vs.length:=by
   unfold start at h2
   by_cases hi:i<vs.length
   ·exact hi
   ·rw[List.getElem?_append_right (by simpa using hi)]at h2
    rw[List.getElem?_replicate]at h2
    split at h2<;>cases h2
  have ha:vs[i]? = some v:=by
   unfold start at h2
   rw[List.getElem?_append_left (by simpa using hi),List.getElem?_map]at h2
   cases e:vs[i]? with
   | none=>rw[e]at h2;cases h2
   | some a=>rw[e]at h2;cases h2;rfl
  obtain⟨u,hu,rv⟩:=r.get ha
  have hp:ps[i]? = some y:=by
   rw[<-S.pre,List.getElem?_take_of_lt (by lia)];exact h1
  have ndP:ps.Nodup:=by rw[<-S.pre];exact S.nd.sublist (List.take_sublist _ _)
  refine⟨u,rv,?_⟩
  rcases S.par y (List.mem_of_getElem? hp)with k|k
  ·exact .inl ⟨k,z5X ndP hp hu k⟩
  ·obtain⟨c,e⟩:=z7D (n:=s.heap.objs.size+1) k
   refine .inr ⟨.inl k,c,e,?_⟩
   have q:=x.cell y c e
   rw[z5Y ndP hp hu (by show scope.names.lookup y≠_;rw[k];decide)]at q
   exact q
 ·exact e0.hok.fresh (Nat.le_of_lt (x.above y c (PySem.mem_of_lookup h)))
 ·unfold start
  show _=N.length
  rw[List.length_append,List.length_map,List.length_replicate]
  lia
theorem zGq{CX:CXT}{P:Program}{w:World}{K:PySem.W.Frag}{mg:Str->Option Value}{base:Heap}{k:Nat}{f:Addr}{name qual:Str}{params:Arguments}{body:List Stmt}{scope:Scope}{dV kV doc pm cdv ct oc:Value}{an od:Option Addr}
  {osl:Array (Option Value)} {N ps:List Str} {sp:Sp} (lk:K.lookup f=some ⟨oc,od,.func (PySem.W.fnOf name qual params body scope dV kV doc pm an cdv ct),osl⟩) (hcd:PySem.W.codeIn K cdv qual=true) (S:FnScope N ps scope)
  (len:∀vs H Q E,sp vs H Q E->vs.length=ps.length)
  (hbody:∀(A:Around)(outer:List Env)(s:Shared)(H:Hp)(vs:List V)(Q:VK)(E:XK),Room k (A.deeper (envOfC qual scope s.heap.objs.size f cdv))->sp vs H Q E->
   ∃t,PSs (cxOf CX P w K mg base N qual scope f cdv A outer s H E) body t/\t {nx:=λ_ H'=>Q .non H',rt:=Q} (start N vs) H):
  FnOk P w K mg base CX (k+1) f (PySem.W.fnOf name qual params body scope dV kV doc pm an cdv ct) ps sp:=by
 refine⟨len,λA outer s H args us vs Q E hr e0 hb r hsp=>?_⟩
 have hl:=len _ _ _ _ hsp
 have KX:K.In s.heap:=e0.mod.kin.keeps λb o e=>(e0.bs b o e).1
 have lim:s.heap.NoLimit:=e0.mod.nolimit.keeps λb o e=>(e0.bs b o e).1
 have hkind:∀y∈ps.zip us,scope.names.lookup y.1=some .local\/(scope.names.lookup y.1=some .cell/\((cellsFrom (s.heap.objs.size+1) scope.names []).lookup y.1).isSome=true):=λ⟨n,v⟩hy=>by
  rcases S.par n (List.of_mem_zip hy).1 with q|q
  ·exact .inl q
  ·exact .inr ⟨q,PySem.W.cellsFrom_some _ _ _ (.inl q)⟩
 refine codeAny_call_function hr.depth (KX _ _ lk) rfl S.co S.gen rfl (PySem.W.codeRec_of KX hcd) (hb _ _ _ _ ?_)
 refine wpAny_newFunctionEnv_cells S.kind hkind λenv he s1 x=>?_
 subst he
 refine⟨lim.keeps x.toInCall.keep,codeAny_func ?_⟩
 obtain⟨t,ht,hq⟩:=hbody A outer s H vs Q E (hr.deeper _) hsp
 have I:Inv (cxOf CX P w K mg base N qual scope f cdv A outer s H E) [] (start N vs) H s1:=z9n S hr.hd e0 hl r x
 refine wpAny_mono (ht [] s1 (start N vs) H _ I hq) (λfl s' hs=>?_) λe s' hs=>hs
 have fin:∀{σ':St}{H':Hp}{v:V}{u:Value},Inv (cxOf CX P w K mg base N qual scope f cdv A outer s H E) [] σ' H' s'->RelV v u->Q v H'->CE outer P w H s Q u s':=
  λ{σ' H' v u}J rv q=>⟨v,H',J.os,J.bare,J.base,J.hok,rv,q⟩
 cases fl with
 | ret u=>
  obtain⟨v,σ',H',J,rv,q⟩:=hs
  exact fin J rv q
 | next=>
  obtain⟨σ',H',J,q⟩:=hs
  exact fin (v:=V.non) (u:=Value.none) J rfl q
 | brk=>
  obtain⟨_,_,_,q⟩:=hs
  exact False.elim q
 | cont=>
  obtain⟨_,_,_,q⟩:=hs
  exact False.elim q
end L2
namespace L2
open PySem PySem.Spec PyProof.Rows
section
variable{X:Cx}{x:Str}{p pos:Pos}{e:Expr}{es:List Expr}{t:TA}{id T:String}{r:List V->Hp->VK->Prop}
def tCB(r:List V->Hp->VK->Prop)(t:TA):TE:=λσ H Q=>t σ H λvs H1=>r vs H1 Q
theorem z4U(hc:CallR X (.builtin id) r)(hg:Gl X x)(hm:X.mg x=none)(hv:bootBuiltins x=some (.builtin id))(ha:PA X (e::es) t)(hn:x≠"__name__":=by decide)(hdb:(x==("__debug__":Str))=false:=by decide)
  (he:starEach (e::es) X.env=(false,eval e X.env)::starEach es X.env:=by rfl) (hpl:(backTo pos (starEach es X.env)).any (·.1)=false:=by rfl):PE X (.Call (.Name x p) (e::es) [] pos) (tCB r t):=by
 intro pins s σ H Q I h
 refine wpAny_Call_Name_kw (z5R I hg hm hv ?_ hn hdb)
 exact PyProof.Rows.callWith_builtin1 (thn (ha pos pins s σ H _ I h) λus s1⟨vs,H1,I1,r1,q1⟩=>hc pins s1 σ H1 vs us Q I1 r1 q1) he hpl
theorem z1w(hc:CallR X (.type T) r)(hg:Gl X x)(hm:X.mg x=none)(hv:bootBuiltins x=some (.type T))(ha:PA X (e::es) t)(hn:x≠"__name__":=by decide)(hdb:(x==("__debug__":Str))=false:=by decide)
  (he:starEach (e::es) X.env=(false,eval e X.env)::starEach es X.env:=by rfl) (hpl:(backTo pos (starEach es X.env)).any (·.1)=false:=by rfl):PE X (.Call (.Name x p) (e::es) [] pos) (tCB r t):=by
 intro pins s σ H Q I h
 refine wpAny_Call_Name_kw (z5R I hg hm hv ?_ hn hdb)
 exact PyProof.Rows.callWith_type1 (thn (ha pos pins s σ H _ I h) λus s1⟨vs,H1,I1,r1,q1⟩=>hc pins s1 σ H1 vs us Q I1 r1 q1) he hpl
end
end L2
namespace HT
open PySem PyProof.Rows
def lexLt:List Int->List Int->Bool
 | [],[]=>false
 | [],_::_=>true
 | _::_,[]=>false
 | x::xs,y::ys=>if x=y then lexLt xs ys else decide (x<y)
theorem z8t(x y:Int)(xs ys:List Int):lexLt (x::xs) (y::ys)=if x=y then lexLt xs ys else decide (x<y):=rfl
theorem z4V:lexLt [] []=false:=rfl
theorem z4m(y:Int)(ys:List Int):lexLt [] (y::ys)=true:=rfl
theorem z4n(x:Int)(xs:List Int):lexLt (x::xs) []=false:=rfl
theorem zBe(A:Around)(s:Shared)(a:Int)(t:Tok)(c:Int)(u:Tok):∃e,SeqAt.EqAt A s (.int a t) (.int c u) e/\(e=true↔a=c):=
 ⟨(a==c),SeqAt.EqAt.int_int a t c u,by simp⟩
theorem zBf(A:Around)(s:Shared)(a:Int)(t:Tok)(c:Int)(u:Tok)(prog:Program)(w:World)(E:Value->Shared->Prop)(Q:Value->Shared->Prop)(h:Q (.bool (decide (a<c))) s):
  wpAny (model prog w) A (richCompare .Lt (.int a t) (.int c u)) Q E s:=
 (PyProof.Rows.lt_int h:wpAny (model prog w) A (compareOp .Lt (.int a t) (.int c u)) Q E s)
section
open PySem.SeqAt
open PySem.AutoSeq1 (wpAny_loadPart')
open PySem.MeetsSeq PySem.MeetsSeq2 PySem.MeetsSeq3
theorem z4W(l b:Addr)(items items2:Array Value)(n n2:Nat)(dd dd2:Option Addr)(sl sl2:Array (Option Value))(ns ms:List Int)(hi:IntsAre items.toList ns)(hj:IntsAre items2.toList ms):
  Meets (Builtin.«tuple.__lt__» ⟨[.ref l,.ref b],[]⟩)
   (λ_ R s=>s.heap.get? l=some {cls:=.type "tuple",dict:=dd,data:=.seq items n,slots:=sl}/\s.heap.get? b=some {cls:=.type "tuple",dict:=dd2,data:=.seq items2 n2,slots:=sl2}/\
    R (.ok (.ret (.bool (lexLt ns ms)))) s):=
 .of_wp λprog w A R s h=>by
  obtain⟨hp,g,d,tk,os⟩:=s;obtain⟨hl,hb,h⟩:=h
  have f2:=AutoSeq1.sub_tuple_tuple
  have z1:items.size=ns.length:=by rw[<-hi.length];simp
  have z2:items2.size=ms.length:=by rw[<-hj.length];simp
  wp_walk using wpAny_loadPart' hl,wpAny_loadPart' hb,wpAny_forIn_list _ (λrest b s'=>b.1=none/\s'=⟨hp,g,d,tk,os⟩/\ ∃(vs ws:List Value)(ns' ms':List Int),rest=vs.zip ws/\
   IntsAre vs ns'/\IntsAre ws ms'/\ns'.length+items2.size=ms'.length+items.size/\R (.ok (.ret (.bool (lexLt ns' ms')))) ⟨hp,g,d,tk,os⟩) _
  case turn=>
   rintro⟨y,x⟩ rest b s' ⟨hb',rfl,vs,ws,ns',ms',hz,hvi,hwi,hlen,hR⟩
   cases hvi with
   | nil=>rw[List.zip_nil_left]at hz;cases hz
   | cons a t hvi'=>
    cases hwi with
    | nil=>rw[List.zip_nil_right]at hz;cases hz
    | cons c u hwi'=>
     rw[List.zip_cons_cons]at hz
     injection hz with hyx hrest
     injection hyx with hy hx
     subst hy hx
     rw[z8t]at hR
     simp only[List.length_cons]at hlen
     obtain⟨e,he,hiff⟩:=zBe A.in1 ⟨hp,g,d,tk,os⟩ a t c u
     refine wpAny_bind (he prog w _ _ ?_)
     cases e with
     | true=>
      rw[if_pos (hiff.mp rfl)]at hR
      wp_walk
      exact⟨rfl,rfl,_,_,_,_,hrest,hvi',hwi',by lia,hR⟩
     | false=>
      rw[if_neg (λq=>absurd (hiff.mpr q) Bool.false_ne_true)]at hR
      have hri:=zBf A.in1 ⟨hp,g,d,tk,os⟩ a t c u prog w
      wp_walk using hri
      exact⟨_,rfl,by simpa using hR⟩
  case fin=>
   rintro⟨b1,b2⟩ s' ⟨hb',rfl,vs,ws,ns',ms',hz,hvi,hwi,hlen,hR⟩
   simp only at hb'
   subst hb'
   have hv:lexLt ns' ms'=decide (items.size<items2.size):=by
    cases hvi with
    | nil=>
     cases hwi with
     | nil=>
      simp only[List.length_nil]at hlen
      rw[z4V]
      exact(decide_eq_false (by lia)).symm
     | cons c u hw=>
      simp only[List.length_nil,List.length_cons]at hlen
      rw[z4m]
      exact(decide_eq_true (by lia)).symm
    | cons a t hv=>
     cases hwi with
     | nil=>
      simp only[List.length_nil,List.length_cons]at hlen
      rw[z4n]
      exact(decide_eq_false (by lia)).symm
     | cons c u hw=>
      rw[List.zip_cons_cons]at hz
      cases hz
   rw[hv]at hR
   wp_walk
   exact⟨_,rfl,by simpa [Builtin.Tuple.tupleCompareSizes] using hR⟩
  case h=>
   exact⟨rfl,rfl,items.toList,items2.toList,ns,ms,rfl,hi,hj,by lia,h⟩
end
section
variable{prog:Program}{w:World}{A:Around}{E:Value->Shared->Prop}{s:Shared}
theorem z8u{l b:Addr}{items items2:Array Value}{ns ms:List Int}{Q:Value->Shared->Prop}(hl:IsTup s.heap l items)(hb:IsTup s.heap b items2)(hi:IntsAre items.toList ns)(hj:IntsAre items2.toList ms)
  (hu:A.units<cLine) (h:Q (.bool (lexLt ns ms)) s):wpAny (model prog w) A (compareOp .Lt (.ref l) (.ref b)) Q E s:=by
 obtain⟨⟨cls,dd,data,sl⟩,ho,hc,n,hd⟩:=id hl
 obtain⟨⟨cls2,dd2,data2,sl2⟩,ho2,hc2,n2,hd2⟩:=id hb
 simp only at hc hd hc2 hd2
 subst hc hd hc2 hd2
 exact richCompare_meets_room (op:=.Lt) ⟨_,ho,rfl⟩ ⟨_,ho2,rfl⟩ PySem.F.slot_tuple_lt PySem.F.entry_tuple_lt (PySem.F.args_tuple_lt_2 _ _) (z4W l b items items2 n n2 dd dd2 sl sl2 ns ms hi hj)
  ⟨ho,ho2,show Value.bool (lexLt ns ms)≠Value.notImplemented/\Q (.bool (lexLt ns ms)) s from⟨(λx=>nomatch x),h⟩⟩ hu
def sIx(n d:Nat):Option Int->Nat
 | none=>d
 | some v=>if v<0 then(v+(n:Int)).toNat else min v.toNat n
end
end HT
namespace L2
open PySem PySem.Spec PyProof.Rows
abbrev TO:=St->Hp->(Option Int->Hp->Prop)->Prop
def PO(X:Cx)(e:Option Expr)(t:TO):Prop:=
 ∀(pins:List (Addr×Obj))(s:Shared)(σ:St)(H:Hp)(Q:Option Int->Hp->Prop),Inv X pins σ H s->t σ H Q->
  wpAny (model X.prog X.w) X.A (evalPart e X.env) (λu s'=>∃o H',Inv X pins σ H' s'/\IsPart u o/\Q o H') X.xe s
def tNoPart:TO:=λ_ H Q=>Q none H
def tPart(t:TE):TO:=λσ H Q=>t σ H λx H1=>∃i,x= .int i/\Q (some i) H1
theorem z2u{ns:List Int}:∀{us:List Value},Vals (ns.map V.int) us->IntsAre us ns:=by
 induction ns with
 | nil=>intro us r;rw[List.map_nil]at r;cases r;exact .nil
 | cons n ns ih=>
  intro us r
  rw[List.map_cons]at r
  cases r with
  | cons r1 r2=>
   obtain⟨t,e⟩:=r1
   subst e
   exact .cons n t (ih r2)
section
variable{X:Cx}{e:Expr}{te:TE}{lo hi:Option Expr}{tl th:TO}{pos p2:Pos}
theorem zCO:PO X none tNoPart:=by
 intro pins s σ H Q I h
 rw[evalPart_none]
 exact wpAny_pure ⟨none,H,I,.none,h⟩
theorem zCP(h:PE X e te):PO X (some e) (tPart te):=by
 intro pins s σ H Q I hw
 rw[evalPart_some]
 refine thn (h pins s σ H _ I hw) λu s1⟨x,H1,I1,r1,q1⟩=>?_
 obtain⟨i,rfl,q⟩:=q1
 obtain⟨t,rfl⟩:=r1
 exact⟨some i,H1,I1,.int i t,q⟩
def SlR(X:Cx)(r:V->Option Int->Option Int->Hp->VK->Prop):Prop:=
 ∀(pins:List (Addr×Obj))(s:Shared)(σ:St)(H:Hp)(x:V)(v vl vu:Value)(lo hi:Option Int)(sl:Addr)(Q:VK),Inv X pins σ H s->RelV x v->s.heap.IsSliceOf sl vl vu .none->IsPart vl lo->IsPart vu hi->r x lo hi H Q->
  ∃T id,typeLookup (.type T) "__getitem__"=pure (some (.builtin id))/\s.TypeIs v T/\wpAny (model X.prog X.w) X.A (getItem v (.ref sl)) (EP X pins σ Q) X.xe s
def tSl(r:V->Option Int->Option Int->Hp->VK->Prop)(te:TE)(tl th:TO):TE:=λσ H Q=>te σ H λx H1=>tl σ H1 λl H2=>th σ H2 λu H3=>r x l u H3 Q
theorem zBg{r:V->Option Int->Option Int->Hp->VK->Prop}(hr:SlR X r)(he:PE X e te)(hl:PO X lo tl)(hu:PO X hi th):PE X (.Subscript e (.Slice lo hi none p2) pos) (tSl r te tl th):=by
 intro pins s σ H Q I h
 refine Subscript_ (thn (he pins s σ H _ I h) λv s1⟨x,H1,I1,r1,q1⟩=>?_)
 refine wpAny_Slice (thn (hl pins s1 σ H1 _ I1 q1) λvl s2⟨l,H2,I2,pl,q2⟩=>thn (hu pins s2 σ H2 _ I2 q2) λvu s3⟨u,H3,I3,pu,q3⟩=>?_)
 rw[evalPart_none]
 refine wpAny_pure ?_
 have I4:Inv X pins σ H3 {s3 with heap:=s3.heap.push {cls:=.type "slice",data:=.fields #[vl,vu,.none]}}:=I3.kept (t':=s3.toks) λb ob q=>Heap.get?_push_of_some _ q
 obtain⟨T,id,hT,ht,hg⟩:=hr pins {s3 with heap:=s3.heap.push {cls:=.type "slice",data:=.fields #[vl,vu,.none]}} σ H3 x v vl vu l u s3.heap.objs.size Q I4 r1 (Heap.IsSliceOf.new ..) pl pu q3
 show wpAny (model X.prog X.w) X.A (subscriptTail e (.Slice lo hi none p2) v (.ref s3.heap.objs.size)) (EP X pins σ Q) X.xe {s3 with heap:=s3.heap.push {cls:=.type "slice",data:=.fields #[vl,vu,.none]}}
 exact tail_any (ops:=[.ref s3.heap.objs.size,v]) ht hT hg (by with_unfolding_all rfl)
def cutV(xs:List V)(lo hi:Option Int):List V:=(xs.drop (HT.sIx xs.length 0 lo)).take (HT.sIx xs.length xs.length hi-HT.sIx xs.length 0 lo)
theorem z6N(xs:List V)(lo hi:Option Int):(cutV xs lo hi).length<=xs.length:=by
 unfold cutV
 rw[List.length_take,List.length_drop]
 omega
def rLtT(K:PySem.W.Frag):R2:=λx y H Q=>∃a b ns ms,x= .ref a/\y= .ref b/\SqT K H a (ns.map V.int)/\SqT K H b (ms.map V.int)/\Q (.bl (HT.lexLt ns ms)) H
theorem zEV(hu:X.A.units<cLine):OpR X (compareOp .Lt) (rLtT X.K):=by
 intro pins s σ H x y v u Q I rx ry h
 obtain⟨a,b,ns,ms,rfl,rfl,ha,hb,q⟩:=h
 cases rx
 cases ry
 obtain⟨its,r1,p1,_⟩:=I.tuple ha
 obtain⟨its2,r2,p2,_⟩:=I.tuple hb
 have i1:IntsAre its.toArray.toList ns:=z2u r1
 have i2:IntsAre its2.toArray.toList ms:=z2u r2
 exact HT.z8u p1 p2 i1 i2 hu ⟨.bl (HT.lexLt ns ms),H,I,rfl,q⟩
end
end L2
namespace L2
open PySem PySem.Spec PyProof.Rows
def ixN(n:Nat)(i:Int):Option Nat:=if 0<=i then(if i<n then some i.toNat else none)else if -(n:Int)<=i then some (i+n).toNat else none
def atI{α:Type}(xs:List α)(i:Int):Option α:=(ixN xs.length i).bind λj=>xs[j]?
theorem z9o{n:Nat}{i:Int}{j:Nat}(h:ixN n i=some j):seqIndex? i n=some j/\j<n/\ -(n:Int)<=i/\i<n:=by
 unfold ixN at h
 by_cases h0:0<=i
 ·rw[if_pos h0]at h
  by_cases h1:i<n
  ·rw[if_pos h1]at h
   have e:i.toNat=j:=Option.some.inj h
   exact⟨by rw[seqIndex_of h0 h1,e],by lia,by lia,h1⟩
  ·rw[if_neg h1]at h;cases h
 ·rw[if_neg h0]at h
  by_cases h1:-(n:Int)<=i
  ·rw[if_pos h1]at h
   have e:(i+n).toNat=j:=Option.some.inj h
   exact⟨by rw[seqIndex_neg (by lia) h1,e],by lia,h1,by lia⟩
  ·rw[if_neg h1]at h;cases h
theorem z6O{α:Type}{xs:List α}{i:Int}{v:α}(h:atI xs i=some v):∃j,seqIndex? i xs.length=some j/\xs[j]? = some v/\j<xs.length/\ -(xs.length:Int)<=i/\i<xs.length:=by
 unfold atI at h
 cases e:ixN xs.length i with
 | none=>rw[e]at h;cases h
 | some j=>
  rw[e]at h
  obtain⟨h1,h2,h3,h4⟩:=z9o e
  exact⟨j,h1,h,h2,h3,h4⟩
def PlainIx(b:Expr):Prop:=∀o i,subscripted b false o i=operate [o,i] (getItem o i)
def IxR(X:Cx)(r:R2):Prop:=
 ∀(value slice:Expr)(pins:List (Addr×Obj))(s:Shared)(σ:St)(H:Hp)(x y:V)(v u:Value)(Q:VK),Inv X pins σ H s->RelV x v->RelV y u->r x y H Q->
  subscripted slice false v u=operate [v,u] (getItem v u)->wpAny (model X.prog X.w) X.A (subscriptTail value slice v u) (EP X pins σ Q) X.xe s
def MtR(X:Cx)(id:String)(r:V->List V->Hp->VK->Prop):Prop:=
 ∀(pins:List (Addr×Obj))(s:Shared)(σ:St)(H:Hp)(x:V)(xs:List V)(v:Value)(us:List Value)(Q:VK),Inv X pins σ H s->RelV x v->Vals xs us->r x xs H Q->
  wpAny (model X.prog X.w) X.A (call (.builtin id) (v::us)) (EP X pins σ Q) X.xe s
section
variable{X:Cx}{a b:Expr}{ta tb:TE}{pos:Pos}
theorem IxR.or{r r':R2}(h:IxR X r)(h':IxR X r'):IxR X (λx y H Q=>r x y H Q\/r' x y H Q):=by
 intro value slice pins s σ H x y v u Q I rx ry q hs
 rcases q with q|q
 ·exact h value slice pins s σ H x y v u Q I rx ry q hs
 ·exact h' value slice pins s σ H x y v u Q I rx ry q hs
theorem zGr{r:R2}(hr:IxR X r)(ha:PE X a ta)(hb:PE X b tb)(hs:PlainIx b):PE X (.Subscript a b pos) (tOp r ta tb):=by
 intro pins s σ H Q I h
 exact Subscript_ (binT ha hb I h λv u s2 x y H2 I2 rx ry q=>hr a b pins s2 σ H2 x y v u Q I2 rx ry q (hs _ _))
def rIxL(K:PySem.W.Frag):R2:=λx y H Q=>∃p xs i v,x= .ref p/\y= .int i/\SqL K H p xs/\atI xs i=some v/\Q v H
def rIxT(K:PySem.W.Frag):R2:=λx y H Q=>∃p xs i v,x= .ref p/\y= .int i/\SqT K H p xs/\atI xs i=some v/\Q v H
def rIxS:R2:=λx y H Q=>∃z i c,x= .str z/\y= .int i/\z.length<=sizeLine/\atI z.cps.toList i=some c/\Q (.str ⟨#[c]⟩) H
theorem zCQ:IxR X (rIxL X.K):=by
 intro value slice pins s σ H x y v u Q I rx ry h hs
 obtain⟨p,xs,i,z,rfl,rfl,hq,he,q⟩:=h
 cases rx
 obtain⟨t,rfl⟩:=ry
 obtain⟨its,r,pl,hz⟩:=I.list hq
 obtain⟨j,h1,h2,h3,h4,h5⟩:=z6O he
 obtain⟨w,ew,rw'⟩:=r.get h2
 have hl:=r.length
 have hn:=line63
 have fin:EP X pins σ Q w s:=⟨z,H,I,rw',q⟩
 by_cases h0:0<=i
 ·have hj:i.toNat=j:=by
   rw[seqIndex_of h0 h5]at h1
   exact Option.some.inj h1
  exact item_listR pl.isList h0 (by lia) (by rw[hj];simpa using ew) fin hs
 ·have hj:(i+(its.toArray.size:Int)).toNat=j:=by
   rw[seqIndex_neg (by lia) h4]at h1
   rw[List.size_toArray,<-hl]
   exact Option.some.inj h1
  exact subscriptTail_builtinR (x:=w) pl.isList.typeIs slot_list_getitem.lookup
   (wpAny_getItem_list_neg (Q:=λr s'=>r=w/\EP X pins σ Q r s') pl.isList (by lia) (by rw[List.size_toArray]<;>lia) (by lia) (by rw[hj];simpa using ew) ⟨rfl,fin⟩) hs
theorem zEW:IxR X (rIxT X.K):=by
 intro value slice pins s σ H x y v u Q I rx ry h hs
 obtain⟨p,xs,i,z,rfl,rfl,hq,he,q⟩:=h
 cases rx
 obtain⟨t,rfl⟩:=ry
 obtain⟨its,r,pl,hz⟩:=I.tuple hq
 obtain⟨j,h1,h2,h3,h4,h5⟩:=z6O he
 obtain⟨w,ew,rw'⟩:=r.get h2
 have hl:=r.length
 have hn:=line63
 have fin:EP X pins σ Q w s:=⟨z,H,I,rw',q⟩
 exact subscriptTail_builtinR (x:=w) pl.typeIs slot_tuple_getitem.lookup
  (getItem_tuple (j:=j) (Q:=λr s'=>r=w/\EP X pins σ Q r s') pl (by lia) (by lia) (by rw[List.size_toArray,<-hl];exact h1) (by simpa using ew) ⟨rfl,fin⟩) hs
theorem zEX:IxR X rIxS:=by
 intro value slice pins s σ H x y v u Q I rx ry h hs
 obtain⟨z,i,c,rfl,rfl,hz,he,q⟩:=h
 obtain⟨t,rfl⟩:=rx
 obtain⟨t',rfl⟩:=ry
 obtain⟨j,h1,h2,h3,h4,h5⟩:=z6O he
 have hl:z.cps.toList.length=z.length:=by simp[Str.length]
 rw[hl]at h1 h4 h5
 have hn:=line63
 exact tail_any (typeIs_str s z t) slot_str_getitem.lookup (getItem_str (c:=c) (by
  have e1:decide (i< -(2^63:Int))=false:=decide_eq_false (by lia)
  have e2:decide (i>=2^63)=false:=decide_eq_false (by lia)
  rw[e1,e2,Bool.or_false]) (by rw[h1];simpa using h2) ⟨.str ⟨#[c]⟩,H,I.tok _,⟨_,rfl⟩,q⟩) hs
def rIx(K:PySem.W.Frag):R2:=λx y H Q=>rIxL K x y H Q\/rIxT K x y H Q\/rIxS x y H Q
theorem zEY:IxR X (rIx X.K):=zCQ.or (zEW.or zEX)
theorem z8v(its:List Value)(n j:Nat)(u:Value):Obj.mapSeq (·.setIfInBounds j u) {cls:=.type "list",data:=.seq its.toArray n}={cls:=.type "list",data:=.seq (its.set j u).toArray n}:=by
 simp[Obj.mapSeq]
theorem Inv.lst{pins:List (Addr×Obj)}{σ:St}{H:Hp}{s:Shared}{p:Addr}{xs:List V}(I:Inv X pins σ H s)(h:H p=some (.lst xs)):
  ∃(its:List Value)(n:Nat),Vals xs its/\s.heap.get? p=some {cls:=.type "list",data:=.seq its.toArray n}/\xs.length<=sizeLine:=by
 obtain⟨z,its,n,r,e⟩:=I.hok p _ h
 exact⟨its,n,r,e,z⟩
theorem Inv.lstUpd{pins:List (Addr×Obj)}{σ:St}{H:Hp}{s:Shared}{p:Addr}{xs ys:List V}{its its':List Value}{n n':Nat}{f:Obj->Obj}(I:Inv X pins σ H s)(h:H p=some (.lst xs))
  (ho:s.heap.get? p=some {cls:=.type "list",data:=.seq its.toArray n}) (hf:f {cls:=.type "list",data:=.seq its.toArray n}={cls:=.type "list",data:=.seq its'.toArray n'}) (r:Vals ys its') (hz:ys.length<=sizeLine) (t:Nat):
  Inv X pins σ (upd H p (.lst ys)) {s with heap:=s.heap.update p f,toks:=t}:=by
 have e:(s.heap.update p f).get? p=some {cls:=.type "list",data:=.seq its'.toArray n'}:=by
  rw[Heap.get?_update_self f ho (by rw[hf]<;>rfl),hf]
 refine I.write (x:=p) (e:=p) (by rw[h];trivial) (.inl rfl) (λb u hb q=>(Heap.get?_update_other _ _ (Ne.symm hb)).trans q) ⟨_,e⟩ ?_
 exact⟨hz,its',n',r,e⟩
def rSetL:V->V->V->Hp->(Hp->Prop)->Prop:=λo i v H Q=>∃p xs k j,o= .ref p/\i= .int k/\H p=some (.lst xs)/\ixN xs.length k=some j/\Q (upd H p (.lst (xs.set j v)))
theorem zBh:PSet X rSetL:=by
 intro pins s σ H o i v ov iv u Q I ro ri rv h
 obtain⟨p,xs,k,j,rfl,rfl,hp,hj,q⟩:=h
 cases ro
 obtain⟨t,rfl⟩:=ri
 obtain⟨its,n,r,ho,hz⟩:=I.lst hp
 obtain⟨h1,h2,h3,h4⟩:=z9o hj
 have hl:=r.length
 have hn:=line63
 have I':Inv X pins σ (upd H p (.lst (xs.set j v))) {s with heap:=s.heap.update p (Obj.mapSeq (·.setIfInBounds j u))}:=
  I.lstUpd hp ho (z8v its n j u) (r.set rv j) (by rw[List.length_set];exact hz) s.toks
 by_cases h0:0<=k
 ·have hk:k.toNat=j:=by
   rw[seqIndex_of h0 h4]at h1
   exact Option.some.inj h1
  exact PySem.W.ki_setAt ho h0 (by lia) (by rw[List.size_toArray,<-hl];exact h4) (by rw[hk];exact⟨_,I',q⟩)
 ·have hk:(k+(its.toArray.size:Int)).toNat=j:=by
   rw[seqIndex_neg (by lia) h3]at h1
   rw[List.size_toArray,<-hl]
   exact Option.some.inj h1
  exact PySem.W.ki_setBack ho (by lia) (by rw[List.size_toArray,<-hl];exact h3) (by lia) (by rw[hk];exact⟨_,I',q⟩)
theorem z5Z(lo hi:Option Int)(n:Nat):(sliceBounds lo hi none n).1=((HT.sIx n 0 lo:Nat):Int)/\(sliceBounds lo hi none n).2.1=((HT.sIx n n hi:Nat):Int)/\(sliceBounds lo hi none n).2.2=1:=by
 refine⟨?_,?_,rfl⟩
 ·cases lo with
  | none=>simp[sliceBounds,HT.sIx]
  | some i=>
   simp only[sliceBounds,HT.sIx,Option.getD_none,show(1:Int)>0 by decide,if_true]
   by_cases h:i<0
   ·simp only[h,if_true]<;>lia
   ·simp only[h,if_false]<;>lia
 ·cases hi with
  | none=>simp[sliceBounds,HT.sIx]
  | some i=>
   simp only[sliceBounds,HT.sIx,Option.getD_none,show(1:Int)>0 by decide,if_true]
   by_cases h:i<0
   ·simp only[h,if_true]<;>lia
   ·simp only[h,if_false]<;>lia
theorem z4X(its:List Value)(lo hi:Option Int):slicePick its.toArray lo hi none=((its.drop (HT.sIx its.length 0 lo)).take (HT.sIx its.length its.length hi-HT.sIx its.length 0 lo)).toArray:=by
 obtain⟨h1,h2,h3⟩:=z5Z lo hi its.toArray.size
 unfold slicePick
 rw[h1,h2,h3]
 simp only[sliceRange_one,pick_run,List.size_toArray]<;>rfl
def rSlL(K:PySem.W.Frag):V->Option Int->Option Int->Hp->VK->Prop:=λx lo hi H Q=>∃a xs,x= .ref a/\SqL K H a xs/\ ∀p,H p=none->Q (.ref p) (upd H p (.lst (cutV xs lo hi)))
theorem zCR:SlR X (rSlL X.K):=by
 intro pins s σ H x v vl vu lo hi sl Q I rx hs pl pu h
 obtain⟨a,xs,rfl,hx,q⟩:=h
 cases rx
 obtain⟨its,r,ht,hz⟩:=I.list hx
 have hlen:=r.length
 refine⟨"list",_,slot_list_getitem.lookup,ht.isList.typeIs,?_⟩
 refine wpAny_getItem_list_slice ht.isList hs pl pu .none (by simp) ?_ (by rw[List.size_toArray]<;>lia)
 rw[z4X,<-hlen]
 refine⟨.ref s.heap.objs.size,_,I.laid (t':=s.toks) (o:=.lst (cutV xs lo hi)) (λb ob q=>Heap.get?_push_of_some _ q) (Nat.le_refl _) ?_,rfl,q _ (I.hok.fresh (Nat.le_refl _))⟩
 exact⟨Nat.le_trans (z6N xs lo hi) hz,_,0,(r.drop (HT.sIx xs.length 0 lo)).take (HT.sIx xs.length xs.length hi-HT.sIx xs.length 0 lo),Heap.get?_push_size _ rfl⟩
def flatV:V->Bool
 | .non=>true
 | .bl _=>true
 | .int _=>true
 | .str _=>true
 | _=>false
def eqV:V->V->Bool
 | .non,.non=>true
 | .bl a,.bl b=>a==b
 | .bl a,.int b=>(if a then 1 else 0)==b
 | .int a,.bl b=>a==(if b then 1 else 0)
 | .int a,.int b=>a==b
 | .str a,.str b=>a==b
 | _,_=>false
theorem zCu{A:Around}{s:Shared}{y x:V}{u v:Value}(ry:RelV y u)(rx:RelV x v)(fy:flatV y=true)(fx:flatV x=true):SeqAt.EqAt A s u v (eqV y x):=by
 cases y with
 | non=>
  cases ry
  cases x with
  | non=>cases rx;exact SeqAt.EqAt.same _
  | bl b=>cases rx;exact SeqAt.EqAt.none_bool b
  | int b=>obtain⟨t,rfl⟩:=rx;exact SeqAt.EqAt.none_int b t
  | str b=>obtain⟨t,rfl⟩:=rx;exact SeqAt.EqAt.none_str b t
  | _=>exact absurd (show false=true from fx) Bool.false_ne_true
 | bl a=>
  cases ry
  cases x with
  | non=>cases rx;exact SeqAt.EqAt.bool_none a
  | bl b=>cases rx;exact SeqAt.EqAt.bool_bool a b
  | int b=>obtain⟨t,rfl⟩:=rx;exact SeqAt.EqAt.bool_int a b t
  | str b=>obtain⟨t,rfl⟩:=rx;exact SeqAt.EqAt.bool_str a b t
  | _=>exact absurd (show false=true from fx) Bool.false_ne_true
 | int a=>
  obtain⟨t',rfl⟩:=ry
  cases x with
  | non=>cases rx;exact SeqAt.EqAt.int_none a t'
  | bl b=>cases rx;exact SeqAt.EqAt.int_bool a t' b
  | int b=>obtain⟨t,rfl⟩:=rx;exact SeqAt.EqAt.int_int a t' b t
  | str b=>obtain⟨t,rfl⟩:=rx;exact SeqAt.EqAt.int_str a t' b t
  | _=>exact absurd (show false=true from fx) Bool.false_ne_true
 | str a=>
  obtain⟨t',rfl⟩:=ry
  cases x with
  | non=>cases rx;exact SeqAt.EqAt.str_none a t'
  | bl b=>cases rx;exact SeqAt.EqAt.str_bool a t' b
  | int b=>obtain⟨t,rfl⟩:=rx;exact SeqAt.EqAt.str_int a t' b t
  | str b=>obtain⟨t,rfl⟩:=rx;exact SeqAt.EqAt.str_str a t' b t
  | _=>exact absurd (show false=true from fx) Bool.false_ne_true
 | _=>exact absurd (show false=true from fy) Bool.false_ne_true
def eqU(x:V)(u:Value):Bool:=match u with
 | .none=>eqV .non x
 | .bool b=>eqV (.bl b) x
 | .int i _=>eqV (.int i) x
 | .str z _=>eqV (.str z) x
 | _=>false
theorem z9p{x y:V}{u:Value}(r:RelV y u)(f:flatV y=true):eqU x u=eqV y x:=by
 cases y with
 | non=>cases r;rfl
 | bl b=>cases r;rfl
 | int i=>obtain⟨t,rfl⟩:=r;rfl
 | str z=>obtain⟨t,rfl⟩:=r;rfl
 | _=>exact absurd (show false=true from f) Bool.false_ne_true
theorem z3L{x:V}:∀{xs:List V}{us:List Value},Vals xs us->xs.all flatV=true->us.any (eqU x)=xs.any λy=>eqV y x
 | _,_,.nil,_=>rfl
 | y::xs,u::us,.cons r t,f=>by
  rw[List.all_cons,Bool.and_eq_true]at f
  rw[List.any_cons,List.any_cons,z9p r f.1,z3L t f.2]
theorem z2v{A:Around}{s:Shared}{x:V}{v:Value}(rx:RelV x v)(fx:flatV x=true):∀{xs:List V}{us:List Value},Vals xs us->xs.all flatV=true-> ∀u∈us,SeqAt.EqAt A s u v (eqU x u)
 | _,_,.nil,_=>λu hu=>by cases hu
 | y::xs,u::us,.cons r t,f=>λu' hu=>by
  rw[List.all_cons,Bool.and_eq_true]at f
  rcases List.mem_cons.mp hu with rfl|hu
  ·rw[z9p r f.1];exact zCu r rx f.1 fx
  ·exact z2v rx fx t f.2 u' hu
def inV(x:V)(xs:List V):Bool:=xs.any λy=>eqV y x
def rIn(K:PySem.W.Frag)(neg:Bool):R2:=λx y H Q=>∃p xs,y= .ref p/\(SqL K H p xs\/SqT K H p xs)/\flatV x=true/\xs.all flatV=true/\Q (.bl (if neg then !inV x xs else inV x xs)) H
theorem z9q:OpR X (compareOp .In) (rIn X.K false):=by
 intro pins s σ H x y v u Q I rx ry h
 obtain⟨p,xs,rfl,hq,fx,fs,q⟩:=h
 cases ry
 rcases hq with hq|hq
 ·obtain⟨its,r,pl,hz⟩:=I.list hq
  refine SeqAt.in_listAt (eqU x) pl.isList (λw hw=>z2v rx fx r fs w (by simpa using hw)) ⟨.bl _,H,I,rfl,?_⟩
  rw[show its.toArray.any (eqU x)=its.any (eqU x) by simp,z3L r fs]
  exact q
 ·obtain⟨its,r,pl,hz⟩:=I.tuple hq
  refine SeqAt.in_tupleAt (eqU x) pl (λw hw=>z2v rx fx r fs w (by simpa using hw)) ⟨.bl _,H,I,rfl,?_⟩
  rw[show its.toArray.any (eqU x)=its.any (eqU x) by simp,z3L r fs]
  exact q
theorem z6a:OpR X (compareOp .NotIn) (rIn X.K true):=by
 intro pins s σ H x y v u Q I rx ry h
 obtain⟨p,xs,rfl,hq,fx,fs,q⟩:=h
 cases ry
 rcases hq with hq|hq
 ·obtain⟨its,r,pl,hz⟩:=I.list hq
  refine SeqAt.notIn_listAt (eqU x) pl.isList (λw hw=>z2v rx fx r fs w (by simpa using hw)) ⟨.bl _,H,I,rfl,?_⟩
  rw[show its.toArray.any (eqU x)=its.any (eqU x) by simp,z3L r fs]
  exact q
 ·obtain⟨its,r,pl,hz⟩:=I.tuple hq
  refine SeqAt.notIn_tupleAt (eqU x) pl (λw hw=>z2v rx fx r fs w (by simpa using hw)) ⟨.bl _,H,I,rfl,?_⟩
  rw[show its.toArray.any (eqU x)=its.any (eqU x) by simp,z3L r fs]
  exact q
theorem z6b:CallR X (.builtin "len") (λxs H Q=>∃p ys,xs=[.ref p]/\(SqL X.K H p ys\/SqT X.K H p ys)/\Q (.int ys.length) H):=by
 intro pins s σ H xs us Q I r h
 obtain⟨p,ys,rfl,hq,q⟩:=h
 obtain⟨u,rfl,rx⟩:=vals1 r
 cases rx
 have hn:=line63
 rcases hq with hq|hq
 ·obtain⟨its,r',pl,hz⟩:=I.list hq
  have hlen:=r'.length
  exact Calls.call_len_list pl.isList (by simp only[List.size_toArray]<;>lia) ⟨.int ys.length,H,I.tok _,⟨s.toks+1,by rw[List.size_toArray,hlen]⟩,q⟩
 ·obtain⟨its,r',pl,hz⟩:=I.tuple hq
  have hlen:=r'.length
  exact len_tuple pl (by simp only[List.size_toArray]<;>lia) ⟨.int ys.length,H,I.tok _,⟨s.toks+1,by rw[List.size_toArray,hlen]⟩,q⟩
theorem z3x:CallR X (.type "list") (λxs H Q=>∃p ys,xs=[.ref p]/\(SqL X.K H p ys\/SqT X.K H p ys)/\ ∀l,H l=none->Q (.ref l) (upd H l (.lst ys))):=by
 intro pins s σ H xs us Q I r h
 obtain⟨p,ys,rfl,hq,q⟩:=h
 obtain⟨u,rfl,rx⟩:=vals1 r
 cases rx
 have fin:∀(its:List Value),Vals ys its->ys.length<=sizeLine-> ∀(h':Heap)(c':Nat),(∀b o',s.heap.get? b=some o'->h'.get? b=some o')->
   h'.get? s.heap.objs.size=some {cls:=.type "list",dict:=none,data:=.seq its.toArray c',slots:=#[]}->EP X pins σ Q (.ref s.heap.objs.size) {s with heap:=h'}:=λits r' hz h' c' kp e=>
  ⟨.ref s.heap.objs.size,_,I.laid (t':=s.toks) kp (Nat.le_refl _) (show ObjOk X.prog X.w _ h' _ (.lst ys)from⟨hz,its,c',r',e⟩),rfl,q _ (I.hok.fresh (Nat.le_refl _))⟩
 rcases hq with hq|hq
 ·obtain⟨its,r',pl,hz⟩:=I.list hq
  have hlen:=r'.length
  obtain⟨o,ho,hc,n,hd⟩:=pl.isList
  exact call_list_seq p (.inl rfl) ho hc hd (λh' c' kp e=>fin its r' hz h' c' kp e) (by simp only[List.size_toArray]<;>lia)
 ·obtain⟨its,r',pl,hz⟩:=I.tuple hq
  have hlen:=r'.length
  obtain⟨o,ho,hc,n,hd⟩:=pl
  exact call_list_seq p (.inr rfl) ho hc hd (λh' c' kp e=>fin its r' hz h' c' kp e) (by simp only[List.size_toArray]<;>lia)
theorem z4Y:CallR X (.type "tuple") (λxs H Q=>∃p ys,xs=[.ref p]/\((SqL X.K H p ys/\ ∀l,H l=none->Q (.ref l) (upd H l (.tup ys)))\/(SqT X.K H p ys/\Q (.ref p) H))):=by
 intro pins s σ H xs us Q I r h
 obtain⟨p,ys,rfl,h⟩:=h
 obtain⟨u,rfl,rx⟩:=vals1 r
 cases rx
 rcases h with⟨hq,q⟩|⟨hq,q⟩
 ·obtain⟨its,r',pl,hz⟩:=I.list hq
  have hlen:=r'.length
  refine call_tuple_list pl.isList (λh' kp=>?_) (by simp only[List.size_toArray]<;>lia)
  have I1:Inv X pins σ H {s with heap:=h'}:=I.kept (t':=s.toks) kp
  have I2:Inv X pins σ (upd H h'.objs.size (.tup ys)) {s with heap:=h'.push {cls:=.type "tuple",data:=.seq its.toArray}}:=
   I1.laid (t':=s.toks) (λb o e=>Heap.get?_push_of_some _ e) (Nat.le_refl _) (show ObjOk X.prog X.w _ _ _ (.tup ys)from⟨hz,its,r',IsTup.new _ _⟩)
  exact⟨.ref h'.objs.size,_,I2,rfl,q _ (I1.hok.fresh (Nat.le_refl _))⟩
 ·obtain⟨its,r',pl,hz⟩:=I.tuple hq
  exact call_tuple_same pl ⟨.ref p,H,I,rfl,q⟩
def tyV(K:PySem.W.Frag)(T:String)(x:V)(H:Hp):Prop:=match x with
 | .str _=>T="str"
 | .int _=>T="int"
 | .ref p=>(T="list"/\ ∃xs,SqL K H p xs)\/(T="tuple"/\ ∃o,K.lookup p=some o/\o.cls= .type "tuple"/\o.dict=none)\/
   (T="dict"/\((∃kvs,H p=some (.dK kvs))\/ ∃kvs,H p=some (.dT kvs)))\/(T="set"/\ ∃S n,H p=some (.set S n))
 | _=>False
theorem zEZ{pins:List (Addr×Obj)}{σ:St}{H:Hp}{s:Shared}{T:String}{x:V}{v:Value}(I:Inv X pins σ H s)(r:RelV x v)(ty:tyV X.K T x H):
  s.TypeIs v T/\ ∀a,v= .ref a-> ∃ob,s.heap.get? a=some ob/\ob.dict=none:=by
 cases x with
 | str z=>
  obtain⟨t,rfl⟩:=r
  cases(show T="str" from ty)
  exact⟨typeIs_str s z t,λ_ e=>nomatch e⟩
 | int i=>
  obtain⟨t,rfl⟩:=r
  cases(show T="int" from ty)
  exact⟨typeIs_int s i t,λ_ e=>nomatch e⟩
 | ref p=>
  cases r
  rcases ty with⟨rfl,xs,hq⟩|⟨rfl,o,hk,hc,hd⟩|⟨rfl,hk⟩|⟨rfl,S,n,hk⟩
  ·obtain⟨its,_,pl,_⟩:=I.list hq
   refine⟨pl.isList.typeIs,λa e=>?_⟩
   cases e
   obtain⟨o,n,e,c,hd,_⟩:=pl
   exact⟨o,e,hd⟩
  ·refine⟨⟨o,I.kIn p o hk,hc⟩,λa e=>?_⟩
   cases e
   exact⟨o,I.kIn _ o hk,hd⟩
  ·have z:∃o,s.heap.get? p=some o/\o.ExactDict:=by
    rcases hk with⟨kvs,hk⟩|⟨kvs,hk⟩
    ·obtain⟨_,_,_,_,o,_,_,e,ex,_⟩:=I.hok p _ hk
     exact⟨o,e,ex⟩
    ·obtain⟨_,_,_,_,o,_,_,e,ex,_⟩:=I.hok p _ hk
     exact⟨o,e,ex⟩
   obtain⟨o,e,ex⟩:=z
   refine⟨⟨o,e,ex.1⟩,λa e2=>?_⟩
   cases e2
   exact⟨o,e,ex.2.1⟩
  ·obtain⟨o,_,_,_,e,ex,_⟩:=I.hok p _ hk
   refine⟨⟨o,e,ex.1⟩,λa e2=>?_⟩
   cases e2
   exact⟨o,e,ex.2.1⟩
 | _=>exact False.elim ty
def tBM(K:PySem.W.Frag)(T:String)(r:V->List V->Hp->VK->Prop)(to:TE)(t:TA):TE:=λσ H Q=>to σ H λx H1=>tyV K T x H1/\t σ H1 λxs H2=>r x xs H2 Q
variable{o e:Expr}{es:List Expr}{to:TE}{t:TA}{name:Str}{apos cpos:Pos}{T id:String}{r:V->List V->Hp->VK->Prop}
theorem zBi(pa:PlainAttrs T)(slot:Slot T name id)(hty:typeOf (.builtin id)=pure (.type "method_descriptor"))(hm:MtR X id r)(ho:PE X o to)(ha:PA X (e::es) t)
  (hbase:attributeBase o name X.env (eval o X.env)=eval o X.env:=by rfl)
  (hfew:((backTo cpos (starEach (e::es) X.env)).all (λx=>!x.1)&&(backToKw cpos (keywordEach [] X.env)).all (λx=>x.1.isSome)
   && decide ((e::es).length+([]:List Keyword).length+(if([]:List Keyword).isEmpty then 0 else 1)<30))=true:=by rfl)
  (hline:(apos.endLine==cpos.line)=true:=by rfl) (hs:starEach (e::es) X.env=(false,eval e X.env)::starEach es X.env:=by rfl) (hplain:(backTo cpos (starEach es X.env)).any (·.1)=false:=by rfl):
  PE X (.Call (.Attribute o name apos) (e::es) [] cpos) (tBM X.K T r to t):=by
 intro pins s σ H Q I h
 refine wpAny_Call_method_late hbase hfew hline rfl (thn (ho pins s σ H _ I h) λv s1⟨x,H1,I1,r1,ty,q1⟩=>?_)
 obtain⟨h1,h2⟩:=zEZ I1 r1 ty
 refine⟨T,id,pa,slot,hty,h1,h2,?_⟩
 have hA:=ha cpos pins s1 σ H1 _ I1 q1
 rw[hs]at hA ⊢
 refine Calls.callWith_builtin (by show(false||(backTo cpos (starEach es X.env)).any (·.1))=false;rw[hplain]<;>rfl) (Calls.evalArgs_plain ?_)
 exact thn hA λus s2⟨vs,H2,I2,r2,q2⟩=>hm pins s2 σ H2 x vs v us Q I2 r1 r2 q2
end
end L2
namespace L2
open PySem PySem.Spec PyProof.Rows
def MtM(X:Cx)(id:String)(r:V->List V->Hp->VK->Prop):Prop:=
 ∀(pins:List (Addr×Obj))(s:Shared)(σ:St)(H:Hp)(x:V)(xs:List V)(v:Value)(us:List Value)(Q:VK),Inv X pins σ H s->RelV x v->Vals xs us->r x xs H Q->
  wpAny (model X.prog X.w) X.A (call (.builtin id) (v::us)) (EP X pins σ Q) X.xe s
theorem Vals.one:∀{x:V}{us:List Value},Vals [x] us-> ∃u,us=[u]/\RelV x u
 | _,_,.cons r .nil=>⟨_,rfl,r⟩
theorem Vals.two:∀{x y:V}{us:List Value},Vals [x,y] us-> ∃u v,us=[u,v]/\RelV x u/\RelV y v
 | _,_,_,.cons r (.cons q .nil)=>⟨_,_,rfl,r,q⟩
theorem Vals.rep{xs:List V}{us:List Value}(h:Vals xs us):∀k:Nat,Vals (List.replicate k xs).flatten (List.replicate k us).flatten
 | 0=>.nil
 | k+1=>by
  rw[List.replicate_succ,List.replicate_succ,List.flatten_cons,List.flatten_cons]
  exact Vals.append h (Vals.rep h k)
theorem z6c(its:List Value):∀(k:Nat)(acc:List Value),
  List.foldl (λx1 x2=>x1++x2) acc.toArray (List.replicate k its.toArray)=(acc++(List.replicate k its).flatten).toArray
 | 0,acc=>by simp
 | k+1,acc=>by
  have e:acc.toArray++its.toArray=(acc++its).toArray:=by simp
  have e2:(acc++its)++(List.replicate k its).flatten=acc++(List.replicate (k+1) its).flatten:=by
   rw[List.replicate_succ,List.flatten_cons,List.append_assoc]
  rw[<-e2,<-z6c its k (acc++its),<-e,List.replicate_succ,List.foldl_cons]
section
variable{X:Cx}{pins:List (Addr×Obj)}{σ:St}{H:Hp}{s:Shared}{l b:Addr}{xs ys zs:List V}
theorem Inv.lset{its its':List Value}{n:Nat}{f:Array Value->Array Value}{t':Nat}(I:Inv X pins σ H s)(hH:H l=some (.lst xs))
  (e:s.heap.get? l=some {cls:=.type "list",data:=.seq its.toArray n}) (hf:f its.toArray=its'.toArray) (hv:Vals ys its') (hz:ys.length<=sizeLine):
  Inv X pins σ (upd H l (.lst ys)) {s with heap:=s.heap.update l (Obj.mapSeq f),toks:=t'}:=by
 have q:=PySem.IsL.update e f
 rw[hf]at q
 refine I.write (x:=l) (e:=l) (by rw[hH];exact trivial) (.inl rfl) (λb' u hb hu=>(Heap.get?_update_other s.heap (Obj.mapSeq f) (Ne.symm hb)).trans hu) ⟨_,q⟩ ?_
 exact⟨hz,its',_,hv,q⟩
theorem Inv.lnew{its:List Value}{t':Nat}(I:Inv X pins σ H s)(hv:Vals ys its)(hz:ys.length<=sizeLine):
  Inv X pins σ (upd H s.heap.objs.size (.lst ys)) {s with heap:=s.heap.push {cls:=.type "list",data:=.seq its.toArray},toks:=t'}:=
 I.laid (λ_ _ q=>Heap.get?_push_of_some _ q) (Nat.le_refl _) ⟨hz,its,0,hv,Heap.get?_push_size _ rfl⟩
theorem Inv.fresh(I:Inv X pins σ H s):H s.heap.objs.size=none:=I.hok.fresh (Nat.le_refl _)
theorem Inv.lstM(I:Inv X pins σ H s)(hH:H l=some (.lst xs)):xs.length<=sizeLine/\ ∃(its:List Value)(n:Nat),Vals xs its/\xs.length=its.length/\s.heap.get? l=some {cls:=.type "list",data:=.seq its.toArray n}:=by
 obtain⟨z,its,n,r,e⟩:=I.hok l _ hH
 exact⟨z,its,n,r,r.length,e⟩
theorem notLongL{n:Nat}(h:n<=sizeLine):Builtin.List.listTooLong n=false:=by
 unfold Builtin.List.listTooLong
 exact decide_eq_false (by lia)
end
section
variable{X:Cx}
def rAppend:V->List V->Hp->VK->Prop:=λx vs H Q=>∃l xs y,x= .ref l/\vs=[y]/\H l=some (.lst xs)/\xs.length<sizeLine/\Q .non (upd H l (.lst (xs++[y])))
theorem z9r:MtM X "list.append" rAppend:=by
 intro pins s σ H x vs v us Q I rx rv h
 obtain⟨l,xs,y,rfl,rfl,hH,hz,q⟩:=h
 cases rx
 obtain⟨u,rfl,ru⟩:=rv.one
 obtain⟨z,its,n,r,hl,e⟩:=I.lstM hH
 refine call_meets F.slot_list_append ⟨_,e,rfl⟩ F.entry_list_append (F.args_list_append_2 _ _) (PySem.list_append l its.toArray n u (by rw[List.size_toArray];lia)) ⟨e,?_⟩
 refine⟨.non,_,I.lset (its':=its++[u]) hH e (by simp) (r.append (.cons ru .nil)) ?_,rfl,q⟩
 rw[List.length_append,List.length_singleton]
 lia
def rExtend:V->List V->Hp->VK->Prop:=λx vs H Q=>∃l b xs zs,x= .ref l/\vs=[.ref b]/\H l=some (.lst xs)/\H b=some (.lst zs)/\xs.length+zs.length<=sizeLine/\Q .non (upd H l (.lst (xs++zs)))
theorem z9s:MtM X "list.extend" rExtend:=by
 intro pins s σ H x vs v us Q I rx rv h
 obtain⟨l,b,xs,zs,rfl,rfl,hH,hB,hz,q⟩:=h
 cases rx
 obtain⟨u,rfl,ru⟩:=rv.one
 cases ru
 obtain⟨z,its,n,r,hl,e⟩:=I.lstM hH
 obtain⟨z2,its2,n2,r2,hl2,e2⟩:=I.lstM hB
 have hsz:its.toArray.size+its2.toArray.size<=sizeLine:=by rw[List.size_toArray,List.size_toArray];lia
 have hlong:¬(!its.toArray.isEmpty&&Builtin.List.listTooLong (its.toArray.size+its2.toArray.size))=true:=by
  rw[notLongL hsz,Bool.and_false]
  exact Bool.false_ne_true
 refine call_meets F.slot_list_extend ⟨_,e,rfl⟩ F.entry_list_extend (F.args_list_extend_2 _ _)
  (AutoSeq1.list_extend_list_list_0 l its.toArray n b its2.toArray n2 hlong (by rw[List.size_toArray];lia) (by lia)) ⟨e,e2,?_⟩
 refine⟨.non,_,I.lset (its':=its++its2) hH e (by simp) (r.append r2) ?_,rfl,q⟩
 rw[List.length_append]
 lia
def rCat:R2:=λx y H Q=>∃l b xs zs,x= .ref l/\y= .ref b/\H l=some (.lst xs)/\H b=some (.lst zs)/\xs.length+zs.length<=sizeLine/\ ∀p,H p=none->Q (.ref p) (upd H p (.lst (xs++zs)))
theorem zFa:OpR X (binaryOp .Add) rCat:=by
 intro pins s σ H x y v u Q I rx ry h
 obtain⟨l,b,xs,zs,rfl,rfl,hH,hB,hz,q⟩:=h
 cases rx
 cases ry
 obtain⟨z,its,n,r,hl,e⟩:=I.lstM hH
 obtain⟨z2,its2,n2,r2,hl2,e2⟩:=I.lstM hB
 refine PySem.P.add_list e e2 ?_ (by rw[List.size_toArray,List.size_toArray];lia)
 have ea:its.toArray++its2.toArray=(its++its2).toArray:=by simp
 rw[ea]
 exact⟨.ref _,_,I.lnew (t':=s.toks) (r.append r2) (by rw[List.length_append];lia),rfl,q _ I.fresh⟩
def rRep:R2:=λx y H Q=>∃l k xs,x= .ref l/\y= .int k/\H l=some (.lst xs)/\ -(2^63)<=k/\k<2^63/\xs.length*k.toNat<=sizeLine/\
 ∀p,H p=none->Q (.ref p) (upd H p (.lst (List.replicate k.toNat xs).flatten))
theorem zCS{α:Type}(xs:List α)(k:Nat):(List.replicate k xs).flatten.length=k*xs.length:=by
 induction k with
 | zero=>simp
 | succ k ih=>rw[List.replicate_succ,List.flatten_cons,List.length_append,ih,Nat.succ_mul,Nat.add_comm]
theorem zFb:OpR X (binaryOp .Mult) rRep:=by
 intro pins s σ H x y v u Q I rx ry h
 obtain⟨l,k,xs,rfl,rfl,hH,h1,h2,hz,q⟩:=h
 cases rx
 obtain⟨t,rfl⟩:=ry
 obtain⟨z,its,n,r,hl,e⟩:=I.lstM hH
 have hlen:its.toArray.size*k.toNat<=sizeLine:=by rw[List.size_toArray,<-hl];exact hz
 have hcap:¬its.toArray.size*k.toNat>(2^63-1)/8:=by
  have:(sizeLine:Nat)<=(2^63-1)/8:=by decide
  lia
 have hfit:¬(!Builtin.List.listFitsIndex k)=true:=by
  rw[fitsIndex_both h1 h2]
  exact Bool.false_ne_true
 have hlong:¬Builtin.List.listTooLong (its.toArray.size*k.toNat)=true:=by
  rw[notLongL hlen]
  exact Bool.false_ne_true
 have hnew:List.foldl (λx1 x2=>x1++x2) #[] (List.replicate (if its.toArray.isEmpty=true then 0 else k.toNat) its.toArray)=(List.replicate k.toNat its).flatten.toArray:=by
  have f0:∀m:Nat,List.foldl (λx1 x2=>x1++x2) #[] (List.replicate m its.toArray)=(List.replicate m its).flatten.toArray:=λm=>by
   have:=z6c its m []
   rw[List.nil_append]at this
   exact this
  rw[f0]
  cases its with
  | nil=>simp
  | cons a r'=>rw[if_neg (by simp)]
 refine wpAny_binaryOp_repeat_ref (T:="list") (U:="int") (by decide) ⟨_,e,rfl⟩ (λs'=>typeIs_int s' k t) noFill_list_mul F.fills_int_mul F.slot_int_rmul repeat_list F.slot_int_index.lookup
  (call_meets F.slot_int_rmul (typeIs_int s k t) F.entry_int_rmul (F.args_int_rmul_2 _ _) (int___rmul___int_list k t l its.toArray n)
   ⟨e,rfl,⟨_,e,rfl⟩,call_meets F.slot_list_mul ⟨_,e,rfl⟩ F.entry_list_mul (F.args_list_mul_2 _ _) (AutoListH.list___mul___list_int_3 l its.toArray n k t hfit hcap hlong) ⟨e,?_⟩⟩)
 rw[hnew]
 exact⟨.ref _,_,I.lnew (t':=s.toks) (r.rep k.toNat) (by rw[zCS,Nat.mul_comm];exact hz),rfl,q _ I.fresh⟩
end
section
variable{prog:Program}{w:World}{A:Around}{E:Value->Shared->Prop}{s:Shared}
set_option maxRecDepth 100000 in
end
section
variable{X:Cx}
end
end L2
namespace Att
open PySem PySem.W PySem.Calls PyProof.Rows
theorem z3M{P:Params}{h:Heap}:∀(ns:List Int)(vs:List Value),WellAll P h vs (ns.map WData.int)->IntsAre vs ns:=by
 intro ns
 induction ns with
 | nil=>
  intro vs w
  rw[List.map_nil]at w
  cases w
  exact .nil
 | cons n ns ih=>
  intro vs w
  rw[List.map_cons]at w
  cases w with
  | cons a b=>
   cases a
   exact .cons _ _ (ih _ b)
theorem z9t{l:OpenLaw}{n:Nat}(hn:l.most=some n){P:Params}{h:Heap}{args:List WData}{vals:List Value}
  (hpre:l.row.toRowW.claim.pre args=true) (hwl:WellAll P h vals args):
  ∃a vs ns,vals=[Value.ref a]/\args=[WData.list (ns.map WData.int)]/\h.get? a=some {cls:=.type "list",data:=.seq vs.toArray}/\IntsAre vs ns/\ns.length<=n:=by
 have hsh:WShape.hasAll [] args [.list .int]=true:=(pre_splitW hpre).1
 have hc:l.pre.holds [] {args:=args}=true:=(pre_splitW hpre).2
 obtain⟨d,r,rfl,h1,h2⟩:=hasAllW_cons hsh
 obtain rfl:=hasAllW_nil h2
 obtain⟨xs,rfl,h3⟩:=hasW_list h1
 obtain⟨ns,rfl⟩:=items_int h3
 have hlen:ns.length<=n:=by
  unfold OpenLaw.pre at hc
  have h4:(WTm.not (.lt (.lit (.int (n:Int))) (.len (.arg 0)))).holds [] {args:=[.list (ns.map .int)]}=true:=by
   have h4:=(holds_andW hc).1
   rw[hn]at h4
   exact h4
  have h5:=condW_of h4 (w_not (w_lt w_lit (w_len_list (w_arg rfl))))
  rw[List.length_map]at h5
  refine Nat.le_of_not_lt λq=>?_
  have q':(n:Int)<((ns.length:Nat):Int):=by omega
  first
   | (rw[decide_eq_true q']at h5;exact absurd h5 (by decide))
   | (simp at h5;omega)
 cases hwl with
 | cons w1 w2=>
  cases w2
  cases w1 with
  | list ho hall=>exact⟨_,_,ns,rfl,rfl,ho,z3M ns _ hall,hlen⟩
theorem z9u(l:OpenLaw)(args:List WData):l.row.toRowW.claim.post args (.bool true) args=true:=
 postW_of (r:=l.row.toRowW) (X:=(true==true))
  (show WShape.has [] (.bool true) .bool=true by first|rfl|decide|simp[WShape.has,WShape.arms,WShape.armsAll])
  (show(WTm.eq .res (.lit (.bool true))).value [] {args:=args,res:=some (.bool true),after:=args}=some (.bool (true==true))from w_eq_bool (w_res rfl) w_lit) rfl
theorem z6P{l:OpenLaw}{n:Nat}{q:Program}{loose:List Str}{XP:(Str->Option Value)->Heap->Prop}{YP:World->Heap->Prop}{d:DefRec}
  (hn:l.most=some n) (hdf:d.params.defaults=[])
  (call:∀(w:World)(s₀ s₁:Shared)(mg mb:Str->Option Value)(fa:Addr)(o:Obj)(pm cd doc:Value)(a:Addr)(vs:List Value)(ns:List Int),
   Ground q loose [] XP w s₀ mg mb s₁.heap->YP w s₁.heap->
   s₁.heap.get? fa=some o->o.data= .func (docDef d.name d.params d.body d.scope pm cd doc)->s₁.heap.CodeRec cd d.name->mg d.name=some (.ref fa)->
   s₁.heap.get? a=some {cls:=.type "list",data:=.seq vs.toArray}->IntsAre vs ns->ns.length<=n->s₁.gens= #[]->
   codeAny (model l.prog w) callerA (.call (.ref fa) ⟨[.ref a],[]⟩) (λr s'=>r= .ok (.ret (.bool true))/\OldK s₁.heap s'.heap/\s'.os=s₁.os/\AllBare s'.gens) s₁):
  WalkO q loose XP YP l.row.toRowW d [] (λf vs=>PySem.call f vs):=by
 intro w s₀ s₁ mg mb G Y fa o pm cd doc dV kV ho hd hcd hD hmg hg args vals as hpre hlay hrd hwl hlo
 obtain rfl:dV= .none:=Dflts.none hD hdf
 obtain rfl:kV= .none:=Dflts.noKw hD
 obtain⟨a,vs,ns,rfl,rfl,hobj,hints,hlen⟩:=z9t hn hpre hwl
 refine enter_call (codeAny_mono (call w s₀ s₁ mg mb fa o pm cd doc a vs ns G Y ho (fd_plain hd) hcd hmg hobj hints hlen hg) λr s' hq=>?_)
 obtain⟨rfl,h2,h3,h4⟩:=hq
 exact⟨.inl ⟨.bool true,.bool true,[],rfl,λ_=>rfl,.bool true,z9u l _,λ_=>⟨List.Pairwise.nil,λ_ hm=>(nomatch hm)⟩⟩,h2,h3,h4⟩
section
variable{prog:Program}{w:World}{A:Around}{E:Value->Shared->Prop}{s:Shared}{K:Frag}
end
end Att
namespace L2
open PySem PySem.Spec PyProof.Rows
theorem z3N:∀{vs:List Value}{ns:List Int},IntsAre vs ns->Vals (ns.map V.int) vs
 | _,_,.nil=>.nil
 | _,_,.cons n t h=>.cons ⟨t,rfl⟩ (z3N h)
def Only(H:Hp):Prop:=∀b,H b=none\/ ∃o xs,H b=some (.frz o (.lst xs))
theorem zBj{P:Program}{w:World}{K:PySem.W.Frag}{mg mb:Str->Option Value}{CX:CXT}{k:Nat}{fa a:Addr}{fd:FuncData}{x:Str}{sp:Sp}{s₁:Shared}{vs:List Value}{ns:List Int}
  (KX:K.In s₁.heap) (hns:s₁.heap.Ns mainGlobals mg) (hb:s₁.heap.Ns builtinsNs mb) (hbb:∀x:Str,x≠"__name__"->mb x=bootBuiltins x) (hlim:s₁.heap.NoLimit) (hg:s₁.gens= #[])
  (ha:s₁.heap.get? a=some {cls:=.type "list",data:=.seq vs.toArray}) (hi:IntsAre vs ns) (hl:ns.length<=sizeLine) (hr:Room k callerA)
  (F:∀base:Heap,K.In base->base.Ns mainGlobals mg->FnOk P w K mg base CX k fa fd [x] sp) (hbind:∀(s:Shared)(u:Value),BindsTo s fd ⟨[u],[]⟩ [(x,u)])
  (hsp:∀H:Hp,Only H->SqL K H a (ns.map V.int)->sp [.ref a] H (λv _=>v= .bl true) λ_ _ _=>False)
  (hCX:∀H e s',CX [] H s₁ (λ_ _ _=>False) e s'->False):
  codeAny (model P w) callerA (.call (.ref fa) ⟨[.ref a],[]⟩) (λr s'=>r= .ok (.ret (.bool true))/\OldK s₁.heap s'.heap/\s'.os=s₁.os/\AllBare s'.gens) s₁:=by
 have rv:=z3N hi
 have lenV:=hi.length
 have core:∀H:Hp,Only H->SqL K H a (ns.map V.int)->HOk P w H s₁.heap->(∀b,H b≠none->b=a)->(H a≠none->K.lookup a=none)->
   codeAny (model P w) callerA (.call (.ref fa) ⟨[.ref a],[]⟩) (λr s'=>r= .ok (.ret (.bool true))/\OldK s₁.heap s'.heap/\s'.os=s₁.os/\AllBare s'.gens) s₁:=by
  intro H hO hS hok hA hK
  have base_of:∀{b:Addr}{o:Obj},s₁.heap.get? b=some o->H b=none->(hidT s₁.heap H).get? b=some o:=λe n=>zAW e n
  have noA:∀{b:Addr}{o:Obj}{es:Array DictEntry}{ep:Nat},s₁.heap.get? b=some o->o.data= .dict es ep->H b=none:=λ{b o es ep}e d=>by
   cases q:H b with
   | none=>rfl
   | some u=>
    have e':b=a:=hA b (by rw[q];simp)
    subst e'
    rw[ha]at e;cases e
    have d':Data.seq vs.toArray _=Data.dict es ep:=d
    cases d'
  have nsK:∀{b:Addr}{m:Str->Option Value},s₁.heap.Ns b m->(hidT s₁.heap H).Ns b m:=λ{b m}⟨o,es,ep,e,d,r⟩=>⟨o,es,ep,base_of e (noA e d),d,r⟩
  have hKb:K.In (hidT s₁.heap H):=λb o e=>base_of (KX b o e) (by
   cases q:H b with
   | none=>rfl
   | some u=>
    have e':b=a:=hA b (by rw[q];simp)
    subst e'
    rw[hK (by rw[q];simp)]at e;cases e)
  have hM:Mod K mg (hidT s₁.heap H):=⟨hKb,nsK hns,⟨mb,nsK hb,hbb⟩,let ⟨mc,h1,h2⟩:=hlim;⟨mc,nsK h1,h2⟩⟩
  have e0:Env0 P w K mg (hidT s₁.heap H) callerA [] s₁ H:=⟨rfl,hM,λb o e=>zC9 e,Nat.le_of_eq (z9b _ _),trivial,λb hb=>absurd (show b∈([]:List Addr)from hb) (by simp),hok,.of_eq hg⟩
  refine codeAny_mono ((F _ hKb (nsK hns)).run callerA [] s₁ H ⟨[.ref a],[]⟩ [.ref a] [.ref a] _ _ hr e0 (hbind s₁ (.ref a)) (.cons rfl .nil) (hsp H hO hS)) λr s' h=>?_
  cases r with
  | error e=>exact(hCX H e s' h).elim
  | ok fl=>
   cases fl with
   | next=>exact False.elim h
   | brk=>exact False.elim h
   | cont=>exact False.elim h
   | ret u=>
    obtain⟨v,H',os,bare,un,hok',r',q⟩:=h
    have q':v= .bl true:=q
    subst q'
    obtain rfl:u=Value.bool true:=r'
    refine⟨rfl,OldK.of_keep λb o e=>?_,os,bare⟩
    cases q:H b with
    | none=>exact un.keep b o e q (by intro z;exact absurd (show b∈([]:List Addr)from z) (by simp)) (by simp)
    | some u=>
     rcases hO b with z|⟨ob,xs,z⟩
     ·rw[q]at z;cases z
     ·have z2:=un.frzs b ob _ z
      obtain⟨e1,_⟩:=hok b _ z
      obtain⟨e2,_⟩:=hok' b _ z2
      rw[e]at e1;cases e1
      exact e2
 cases hk:K.lookup a with
 | some o=>
  have e:=KX a o hk
  rw[ha]at e
  cases e
  refine core (λ_=>none) (λ_=>.inl rfl) (.inr ⟨_,vs.toArray,_,hk,rfl,rfl,rfl,by rw[List.size_toArray,lenV];exact hl,by simpa using rv⟩) (λb u z=>by have z':(none:Option HO)=some u:=z;cases z') (λb z=>absurd rfl z) λz=>absurd rfl z
 | none=>
  refine core (λb=>if b=a then some (.frz {cls:=.type "list",data:=.seq vs.toArray} (.lst (ns.map V.int)))else none) (λb=>?_) (.inl (.inr ⟨{cls:=.type "list",data:=.seq vs.toArray},if_pos rfl⟩)) (λb u z=>?_) (λb z=>?_) λ_=>hk
  ·by_cases hb:b=a
   ·exact .inr ⟨_,_,if_pos hb⟩
   ·exact .inl (if_neg hb)
  ·by_cases hb:b=a
   ·have z':=(if_pos hb).symm.trans z
    cases z'
    subst hb
    exact⟨ha,by rw[List.length_map];exact hl,vs,_,rv,ha⟩
   ·have z':=(if_neg hb).symm.trans z
    cases z'
  ·by_cases hb:b=a
   ·exact hb
   ·exact absurd (if_neg hb) z
end L2
namespace L2
open PySem PySem.Spec PyProof.Rows
theorem zCT{l:PySem.W.OpenLaw}{n k:Nat}{q:Program}{loose:List Str}{XP:(Str->Option Value)->Heap->Prop}{YP:World->Heap->Prop}{d:DefRec}{K:Params->PySem.W.Frag}{CX:World->CXT}{sp:World->Sp}{x:Str}
  (hn:l.most=some n) (hn2:n<=sizeLine) (hdf:d.params.defaults=[]) (hr:Room k callerA)
  (hY:∀(w:World)(h:Heap),YP w h->(K w.params).In h)
  (F:∀(w:World)(mg:Str->Option Value)(fa:Addr)(h:Heap),(K w.params).In h->h.Ns mainGlobals mg->mg d.name=some (.ref fa)->
   ∃fd:FuncData,(∀(s:Shared)(u:Value),BindsTo s fd ⟨[u],[]⟩ [(x,u)])/\
    ∀base:Heap,(K w.params).In base->base.Ns mainGlobals mg->FnOk l.prog w (K w.params) mg base (CX w) k fa fd [x] (sp w))
  (hsp:∀(w:World)(H:Hp)(a:Addr)(ns:List Int),ns.length<=n->Only H->SqL (K w.params) H a (ns.map V.int)->sp w [.ref a] H (λv _=>v= .bl true) λ_ _ _=>False)
  (hCX:∀(w:World)(H:Hp)(s:Shared)(e:Value)(s':Shared),CX w [] H s (λ_ _ _=>False) e s'->False):
  PySem.W.WalkO q loose XP YP l.row.toRowW d [] (λf vs=>PySem.call f vs):=by
 refine Att.z6P hn hdf λw s₀ s₁ mg mb fa o pm cd doc a vs ns G Y ho hd hcd hmg hobj hints hlen hg=>?_
 have KX:=hY w _ Y
 obtain⟨fd,hb,hF⟩:=F w mg fa _ KX G.T.g hmg
 exact zBj KX G.T.g G.T.b G.T.builtins G.T.nolimit hg hobj hints (Nat.le_trans hlen hn2) hr hF hb (λH hO hS=>hsp w H a ns hlen hO hS) λH e s'=>hCX w H s₁ e s'
end L2
namespace L2
open PySem PySem.Spec PyProof.Rows
def inClass(s:Stmt)(j:Nat):Stmt:=match s with
 | .ClassDef _ _ _ body _ _ _ _ _ _ _=>body.getD j (.Pass ⟨0,0,0,0⟩)
 | _=>.Pass ⟨0,0,0,0⟩
def defArgs(s:Stmt):Arguments:=match s with
 | .FunctionDef _ a _ _ _ _ _ _ _ _=>a
 | _=>{posonlyargs:=[],args:=[],vararg:=none,kwonlyargs:=[],kw_defaults:=[],kwarg:=none,defaults:=[]}
def defBody(s:Stmt):List Stmt:=match s with
 | .FunctionDef _ _ b _ _ _ _ _ _ _=>b
 | _=>[]
def defScope(s:Stmt):Scope:=match s with
 | .FunctionDef _ _ _ _ _ _ sc _ _ _=>sc
 | _=>{kind:=.function,names:=[],isGenerator:=false,isCoroutine:=false}
structure Fun(K:PySem.W.Frag)(x qual:Str)(st:Stmt)(f:Addr)(fd:FuncData):Prop where
 ex:∃(oc:Value)(od:Option Addr)(kV doc pm:Value)(an:Option Addr)(cdv ct:Value)(osl:Array (Option Value)),
  fd=PySem.W.fnOf x qual (defArgs st) (defBody st) (defScope st) .none kV doc pm an cdv ct/\K.lookup f=some ⟨oc,od,.func fd,osl⟩/\PySem.W.codeIn K cdv qual=true
 kp:PySem.W.keepIn K (.ref f)=true
section
variable{P:Program}{w:World}{K:PySem.W.Frag}{mg:Str->Option Value}{base:Heap}
theorem Fun.binds{x qual:Str}{st:Stmt}{f:Addr}{fd:FuncData}{ps:List Str}(F:Fun K x qual st f fd)
  (h:∀(kV doc pm:Value)(an:Option Addr)(cdv ct:Value)(us:List Value),us.length=ps.length->bindArgs (PySem.W.fnOf x qual (defArgs st) (defBody st) (defScope st) .none kV doc pm an cdv ct) ⟨us,[]⟩=pure (ps.zip us)):Binds K fd ps []:=by
 obtain⟨oc,od,kV,doc,pm,an,cdv,ct,osl,rfl,lk,hcd⟩:=F.ex
 exact .all (h kV doc pm an cdv ct)
theorem z0n{x qual:Str}{st:Stmt}{f:Addr}{oc:Value}{od an:Option Addr}{osl:Array (Option Value)}{kV doc pm cdv ct:Value}(l:K.lookup f=some ⟨oc,od,.func (PySem.W.fnOf x qual (defArgs st) (defBody st) (defScope st) .none kV doc pm an cdv ct),osl⟩)
  (c:PySem.W.codeIn K cdv qual=true) (k:PySem.W.keepIn K (.ref f)=true):Fun K x qual st f (PySem.W.fnOf x qual (defArgs st) (defBody st) (defScope st) .none kV doc pm an cdv ct):=⟨⟨oc,od,kV,doc,pm,an,cdv,ct,osl,rfl,l,c⟩,k⟩
end
theorem small1000{n:Nat}(h:n<=1000):n<sizeLine:=Nat.lt_of_le_of_lt h (by decide)
section
variable{X:Cx}
end
def Same(H H':Hp):Prop:=∀b o,H b=some o->H' b=some o
theorem Same.refl(H:Hp):Same H H:=λ_ _ h=>h
theorem Same.trans{H H1 H2:Hp}(a:Same H H1)(b:Same H1 H2):Same H H2:=λc o h=>b c o (a c o h)
theorem Same.free{H H':Hp}(e:Same H H'){l:Addr}(h:H' l=Option.none):H l=Option.none:=by
 cases q:H l with
 | none=>rfl
 | some o=>
  rw[e l o q]at h
  cases h
end L2
namespace L2
open PySem PySem.Spec PyProof.Rows
def clos(env:Env):List (Str×NameKind)->List (Str×Addr)->List (Str×Addr)
 | [],acc=>acc
 | (n,k)::r,acc=>clos env r (if(k==NameKind.free)=true then(match env.cells.lookup n with|some a=>(n,a)::acc|none=>acc)else acc)
theorem z2O{scope:Scope}{env:Env}(h:∀x,(x,NameKind.free)∈scope.names-> ∃c,env.cells.lookup x=some c):closureFor scope env=pure (clos env scope.names []):=by
 simp only[closureFor]
 generalize ([]:List (Str×Addr))=acc
 generalize hN:scope.names=N at h
 clear hN
 induction N generalizing acc with
 | nil=>rfl
 | cons p r ih=>
  obtain⟨n,k⟩:=p
  have ih':=λacc=>ih acc λx hx=>h x (List.mem_cons_of_mem _ hx)
  rw[List.forIn_cons]
  unfold clos
  by_cases hk:(k==NameKind.free)=true
  ·have hk':k=NameKind.free:=by simpa using hk
   subst hk'
   obtain⟨c,hc⟩:=h n List.mem_cons_self
   have e:cellOf env n=pure c:=by unfold cellOf;rw[hc]
   simp only[hk,if_true,hc,e,pure_bind]
   exact ih' _
  ·simp only[hk,if_false,pure_bind]
   exact ih' _
theorem z3O{env:Env}{n:Str}{k:NameKind}{r:List (Str×NameKind)}{acc:List (Str×Addr)}:
  clos env ((n,k)::r) acc=clos env r (if(k==NameKind.free)=true then(match env.cells.lookup n with|some a=>(n,a)::acc|none=>acc)else acc):=rfl
theorem z4Z{env:Env}{x:Str}{c:Addr}:∀{N:List (Str×NameKind)}{acc:List (Str×Addr)},(∀y d,acc.lookup y=some d->env.cells.lookup y=some d)->(clos env N acc).lookup x=some c->env.cells.lookup x=some c
 | [],_,ha,h=>ha _ _ h
 | (n,k)::r,acc,ha,h=>by
  rw[z3O]at h
  refine z4Z (N:=r) (λy d hy=>?_) h
  split at hy
  ·split at hy
   ·rename_i a ea
    rw[List.lookup_cons]at hy
    split at hy
    ·rename_i q
     have:y=n:=by simpa using q
     subst this
     cases hy;exact ea
    ·exact ha _ _ hy
   ·exact ha _ _ hy
  ·exact ha _ _ hy
theorem z6d{env:Env}{x:Str}:∀{N:List (Str×NameKind)}{acc:List (Str×Addr)},(∃c,acc.lookup x=some c)-> ∃c,(clos env N acc).lookup x=some c
 | [],_,h=>h
 | (n,k)::r,acc,h=>by
  rw[z3O]
  refine z6d (N:=r) ?_
  split
  ·split
   ·rw[List.lookup_cons]
    split
    ·exact⟨_,rfl⟩
    ·exact h
   ·exact h
  ·exact h
theorem z5a{env:Env}{x:Str}:∀{N:List (Str×NameKind)}{acc:List (Str×Addr)},(x,NameKind.free)∈N->(∃c,env.cells.lookup x=some c)-> ∃c,(clos env N acc).lookup x=some c
 | [],_,h,_=>by simp at h
 | (n,k)::r,acc,h,hc=>by
  rw[z3O]
  rcases List.mem_cons.mp h with h|h
  ·injection h with h1 h2
   subst h1
   subst h2
   obtain⟨c,e⟩:=hc
   refine z6d ?_
   simp[e]
  ·exact z5a h hc
theorem z25{env:Env}{x:Str}:∀(names:List (Str×NameKind)),
  (names.map λ(n,k)=>if(k==NameKind.free&&env.scope.kind== .function&&env.kindOf n==some .cell)then(n,NameKind.cell)else(n,k)).lookup x=
   (names.lookup x).map λk=>if(k==NameKind.free&&env.scope.kind== .function&&env.kindOf x==some .cell)then NameKind.cell else k
 | []=>rfl
 | (n,k)::r=>by
  have ih:=z25 (env:=env) (x:=x) r
  rw[List.map_cons]
  show List.lookup x ((if(k==NameKind.free&&env.scope.kind== .function&&env.kindOf n==some .cell)=true then(n,NameKind.cell)else(n,k))::_)=_
  by_cases hx:(x==n)=true
  ·have e:x=n:=by simpa using hx
   subst e
   split<;>simp_all [List.lookup_cons]
  ·have hx':(x==n)=false:=by simpa using hx
   split
   ·rw[List.lookup_cons,List.lookup_cons,hx'];exact ih
   ·rw[List.lookup_cons,List.lookup_cons,hx'];exact ih
theorem z1K{scope:Scope}{env:Env}{x:Str}:(relabel scope env).names.lookup x=(scope.names.lookup x).map λk=>if(k==NameKind.free&&env.scope.kind== .function&&env.kindOf x==some .cell)then NameKind.cell else k:=z25 scope.names
theorem z27{prog:Program}{w:World}{A:Around}{R:Result->Shared->Prop}{s:Shared}{elt target iter:Expr}{ifs:List Expr}{scope:Scope}{pos:Pos}{it acc:Value}{env:Env}(I:Nat->Shared->Prop)
  (turn:∀n s,I n s->wpAny (model prog w) A (pyNext it) (λr s₁=>match r with
   | none=>R (.ok .next) s₁
   | some v=>wpAny (model prog w) A (letOwnedTupleGo target it v) (λ_ s₁'=>wpAny (model prog w) A (assign target env v) (λ_ s₂=>
     wpAny (model prog w) A (forIn ifs true λc r=>if r=true then do let ok <-isTrue c env (eval c env);pure (ForInStep.yield ok)else pure (ForInStep.yield r)) (λok s₃=>
      if ok=true then wpAny (model prog w) A (eval elt env) (λx s₄=>
       wpAny (model prog w) A (call (.builtin "list.append") [acc,x]) (λ_ s₅=>∃m,m<n/\I m s₅) (λ_ _=>False) s₄) (λ_ _=>False) s₃
      else ∃m,m<n/\I m s₃) (λ_ _=>False) s₂) (λ_ _=>False) s₁') (λ_ _=>False) s₁) (λ_ _=>False) s)
  (n:Nat) (h:I n s):
  codeAny (model prog w) A (.compLoop (.ListComp elt [⟨target,iter,ifs,0⟩] scope pos) 0 it acc env) R s:=by
 refine codeAny_loop rfl I (λn s hI=>?_) n h
 show wpAny _ A ((compTurn (.ListComp elt [⟨target,iter,ifs,0⟩] scope pos) 0 it acc env).onRaise (λx=>do noteFrame x env;theTreesLotGoes x)) _ _ s
 refine wpAny_noted ?_
 rw[compTurn_list]
 refine wpAny_bind (wpAny_standAt (wpAny_bind (wpAny_mono (turn n s hI) (λr s₁ h₁=>?_) λ_ _ h'=>h'.elim)))
 cases r with
 | none=>exact wpAny_pure h₁
 | some v=>
  refine wpAny_bind (wpAny_mono h₁ (λ_ s₁' h₁'=>?_) λ_ _ h'=>h'.elim)
  refine wpAny_bind (wpAny_mono h₁' (λ_ s₂ h₂=>wpAny_bind (wpAny_mono h₂ (λok s₃ h₃=>?_) λ_ _ h'=>h'.elim)) λ_ _ h'=>h'.elim)
  cases ok with
  | false=>exact wpAny_pure ⟨rfl,h₃⟩
  | true=>
   exact wpAny_bind (wpAny_bind (wpAny_mono h₃ (λx s₄ h₄=>wpAny_bind (wpAny_mono h₄ (λ_ s₅ h₅=>wpAny_pure (wpAny_pure ⟨rfl,h₅⟩)) λ_ _ h'=>h'.elim)) λ_ _ h'=>h'.elim))
def compCx(X:Cx)(N':List Str)(scope:Scope)(cl:List (Str×Addr))(C:Addr)(s:Shared)(H:Hp)(fp:List Addr):Cx:=
 {X with N:=N',s₀:=s,H₀:=H,env:=compEnvC scope cl C X.env,outer:=X.stack,ex:=fp,fn:=λ_=>false,pn:=[],xe:=λ_ _=>False}
def PTs(X:Cx)(ifs:List Expr)(t:TT):Prop:=
 ∀(pins:List (Addr×Obj))(s:Shared)(σ:St)(H:Hp)(Q:Bool->Hp->Prop),Inv X pins σ H s->t σ H Q->
  wpAny (model X.prog X.w) X.A (forIn ifs true λc r=>if r=true then do let ok <-isTrue c X.env (eval c X.env);pure (ForInStep.yield ok)else pure (ForInStep.yield r)) (TP X pins σ Q) X.xe s
def tTrue:TT:=λ_ H Q=>Q true H
theorem zCU{X:Cx}:PTs X [] tTrue:=λ_ _ _ H _ I h=>wpAny_tests_nil ⟨H,I,h⟩
theorem zCV{X:Cx}{c:Expr}{t:TT}(h:PT X c t):PTs X [c] t:=λpins s σ H Q I q=>wpAny_tests_one (h pins s σ H Q I q)
def stIn(ix:List (Option Nat))(σ:St):St:=ix.map λo=>match o with|some i=>(σ[i]?).getD none|none=>none
structure LcScope(X:Cx)(N':List Str)(ix:List (Option Nat))(scope:Scope):Prop where
 kind:scope.kind= .function
 nocell:∀y∈scope.names,y.2≠ .cell
 names:∀x∈scope.names,x.2= .local->scope.names.lookup x.1=some .local
 free:∀x∈scope.names,x.2= .free->X.env.scope.names.lookup x.1=some .cell\/X.env.scope.names.lookup x.1=some .free
 len:ix.length=N'.length
 at_:∀(j i:Nat),ix[j]? = some (some i)-> ∃x,N'[j]? = some x/\X.N[i]? = some x/\scope.names.lookup x=some .free
section
variable{X:Cx}{N':List Str}{ix:List (Option Nat)}{scope:Scope}{pins:List (Addr×Obj)}{σ:St}{H:Hp}{s:Shared}
theorem z6Q:(stIn ix σ).length=ix.length:=by simp[stIn]
theorem Inv.cells_of(S:LcScope X N' ix scope)(I:Inv X pins σ H s):∀x,(x,NameKind.free)∈scope.names-> ∃c,X.env.cells.lookup x=some c:=λx hx=>I.ok.has x (S.free _ hx rfl)
theorem zBk(S:LcScope X N' ix scope)(I:Inv X pins σ H s){fp:List Addr}(hf:∀b∈fp,FpOk X pins H b)(hfb:∀b∈fp,b<s.heap.objs.size){C:Addr}{h1:Heap}{tk:Nat}{m:Str->Option Value}(hC:s.heap.objs.size<=C)(hn:h1.Ns C m)
  (hk:∀b o,s.heap.get? b=some o->h1.get? b=some o):Inv (compCx X N' scope (clos X.env scope.names []) C s H fp) [] (stIn ix σ) H {s with heap:=h1,toks:=tk}:=by
 have sub:∀x c,(clos X.env scope.names []).lookup x=some c->X.env.cells.lookup x=some c:=λx c h=>z4Z (acc:=[]) (λ_ _ z=>by simp at z) h
 have kf:∀x,((relabel scope X.env).names.lookup x=some .cell\/(relabel scope X.env).names.lookup x=some .free)->scope.names.lookup x=some .free:=λx hx=>by
  rw[z1K]at hx
  cases e:scope.names.lookup x with
  | none=>rw[e]at hx;simp at hx
  | some k=>
   rw[e]at hx
   cases k with
   | free=>rfl
   | cell=>exact absurd rfl (S.nocell _ (PySem.mem_of_lookup e))
   | _=>rcases hx with hx|hx<;> · simp at hx
 have cellC:∀x c,(clos X.env scope.names []).lookup x=some c-> ∀v,s.heap.IsCell c v->h1.IsCell c v:=λx c _ v⟨o,ho,hd⟩=>⟨o,hk c o ho,hd⟩
 have hCn:H C=none:=I.hok.fresh hC
 refine⟨⟨I.ok.mod,S.kind,I.ok.glob,I.ok.blt,hC,λx y c h1 h2=>I.ok.inj x y c (sub x c h1) (sub y c h2),λx hx=>?_,λx c h=>(by cases h),I.ok.hd,I.ok.frames,.inl rfl,λb hb=>?_,I.bs,Nat.le_trans I.ok.bsz I.sz,λb o e hb=>?_,λb hb z=>?_,I.stack,I.stkFree⟩,
  rfl,I.bare,Un.kept hk,⟨m,hn,λj x v e1 e2 e3=>?_⟩,λx c e=>?_,hCn,λx c e=>I.freeC x c (sub x c e),λp hp=>absurd (show p∈([]:List (Addr×Obj))from hp) (by simp),I.hok.kept hk,?_⟩
 ·exact z5a (PySem.mem_of_lookup (kf x hx)) (I.cells_of S x (PySem.mem_of_lookup (kf x hx)))
 ·refine⟨λz=>?_,λx c e=>(hf b hb).2.2.2.2.1 x c (sub x c e)⟩
  have z':b=C:=z
  exact absurd (Nat.lt_of_lt_of_le (hfb b hb) hC) (by rw[z'];exact Nat.lt_irrefl _)
 ·have q:=(I.bs b o e)
  rcases(hf b hb).2.2.2.1 with z|z
  ·exact I.ok.noex b o e z
  ·exact absurd (Nat.lt_of_lt_of_le (Heap.lt_size e) (Nat.le_trans I.ok.bsz z)) (Nat.lt_irrefl _)
 ·rcases List.mem_cons.mp (I.stkSub b z)with q|q
  ·exact(hf b hb).2.1 q
  ·exact(hf b hb).2.2.1 q
 ·have e2':(stIn ix σ)[j]? = some (some v):=e2
  unfold stIn at e2'
  rw[List.getElem?_map]at e2'
  cases ej:ix[j]? with
  | none=>rw[ej]at e2';cases e2'
  | some o=>
   rw[ej]at e2'
   cases o with
   | none=>cases e2'
   | some i=>
    obtain⟨y,ey1,ey2,ey3⟩:=S.at_ j i ej
    have e1':N'[j]? = some x:=e1
    have exy:y=x:=by rw[ey1]at e1';exact Option.some.inj e1'
    subst exy
    have e2'':(σ[i]?).getD none=some v:=Option.some.inj e2'
    have es:σ[i]? = some (some v):=by
     cases q:σ[i]? with
     | none=>rw[q]at e2'';cases e2''
     | some z=>rw[q]at e2'';rw[show z=some v from e2'']
    have hv:=S.free _ (PySem.mem_of_lookup ey3) rfl
    obtain⟨m0,hn0,hl0⟩:=I.loc
    obtain⟨u,r,l⟩:=hl0 i y v ey2 es (.inr hv)
    refine⟨u,r,.inr ⟨?_,?_⟩⟩
    ·show(relabel scope X.env).names.lookup y=some .cell\/(relabel scope X.env).names.lookup y=some .free
     rw[z1K,ey3]
     show some (if _ then _ else _)=_\/some (if _ then _ else _)=_
     split
     ·exact .inl rfl
     ·exact .inr rfl
    ·rcases l with⟨lk,_⟩|⟨_,c,hc,hcell⟩
     ·rcases hv with hv|hv<;> · rw[show X.env.kindOf y=X.env.scope.names.lookup y from rfl,hv]at lk;cases lk
     ·obtain⟨d,hd⟩:=z5a (acc:=[]) (PySem.mem_of_lookup ey3) ⟨c,hc⟩
      have:=sub y d hd
      rw[hc]at this;cases this
      exact⟨c,hd,cellC y c hd _ hcell⟩
 ·obtain⟨v,z⟩:=I.cell x c (sub x c e)
  exact⟨v,cellC x c e v z⟩
 ·show(stIn ix σ).length=N'.length
  rw[z6Q,S.len]
end
def tLc(wi:TI)(ix:List (Option Nat))(g:TG)(tt:TT)(te:TE):TE:=λσ H Q=>wi σ H λJ H1=>∃W:Nat->Nat->List V->St->Hp->Prop,(∃m,W 0 m [] (stIn ix σ) H1)/\ ∀i m ys σ' H',W i m ys σ' H'->
 (J.stop i H'/\ ∀D,H' D=none->Q (.ref D) (upd H' D (.lst ys)))\/
 (J.go i H'/\ys.length<sizeLine/\ ∃N:List V->St->Hp->Prop,(∀ys' σ2 H2,N ys' σ2 H2-> ∃m',m'<m/\W (i+1) m' ys' σ2 H2)/\
  ∀x H2,J.yld i H' x H2->g x σ' H2 λσ3 H3=>tt σ3 H3 λb H4=>if b=true then te σ3 H4 λy H5=>N (ys++[y]) σ3 H5 else N ys σ3 H4)
section
variable{X:Cx}{N':List Str}{ix:List (Option Nat)}{scope:Scope}{pins:List (Addr×Obj)}{σ:St}{H2:Hp}{s2:Shared}{tg elt iter:Expr}{ifs:List Expr}{pos:Pos}{g:TG}{tt:TT}{te:TE}
theorem z7E{J:It}{fp:List Addr}{it:Addr}{tn:Nat->Heap->Prop}{Q:VK}{E:Value->Shared->Prop}{W:Nat->Nat->List V->St->Hp->Prop}{m0:Nat}{RR:Value->Addr->Result->Shared->Prop}(hc:X.calm=true)
  (S:LcScope X N' ix scope) (I2:Inv X pins σ H2 s2) (T:Turn X.prog X.w X.K tg J fp it tn) (st2:tn 0 s2.heap) (f2:∀b∈fp,FpOk X pins H2 b) (w0:W 0 m0 [] (stIn ix σ) H2)
  (turn:∀i m ys σ' H',W i m ys σ' H'->(J.stop i H'/\ ∀D,H' D=none->Q (.ref D) (upd H' D (.lst ys)))\/
   (J.go i H'/\ys.length<sizeLine/\ ∃N:List V->St->Hp->Prop,(∀ys' σ2 H2,N ys' σ2 H2-> ∃m',m'<m/\W (i+1) m' ys' σ2 H2)/\
    ∀x H2,J.yld i H' x H2->g x σ' H2 λσ3 H3=>tt σ3 H3 λb H4=>if b=true then te σ3 H4 λy H5=>N (ys++[y]) σ3 H5 else N ys σ3 H4))
  (hg:∀cl C s H fp,PG (compCx X N' scope cl C s H fp) tg g) (ht:∀cl C s H fp,PTs (compCx X N' scope cl C s H fp) ifs tt) (he:∀cl C s H fp,PE (compCx X N' scope cl C s H fp) elt te)
  (hRR:∀D C s5 ys H',Inv X pins σ (upd H' D (.lst ys)) s5->(∃m,s5.heap.Ns C m)->FpOk X pins (upd H' D (.lst ys)) C->Q (.ref D) (upd H' D (.lst ys))->RR (.ref D) C (.ok .next) s5):
  wpAny (model X.prog X.w) X.A (newList []) (λacc s₃=>wpAny (model X.prog X.w) X.A (newFunctionEnv scope X.env.globals (clos X.env scope.names []) [] X.env.qual none .none (some X.env)) (λcenv s₄=>
   codeAny (model X.prog X.w) X.A (.compStart (.ListComp elt [⟨tg,iter,ifs,0⟩] scope pos) 0 (.ref it) acc {cenv with scope:=relabel scope X.env}) (RR acc cenv.locals) s₄) E s₃) E s2:=by
 refine wpAny_newObj_type (wpAny_newFunctionEnv S.nocell (by intro y hy;simp at hy) (λh₁ hns₁ hsb₁=>?_) S.kind)
 dsimp only at hns₁ hsb₁ ⊢
 generalize hH2:s2.heap.push {cls:=.type "list",dict:=none,data:=.seq ([]:List Value).toArray}=G2 at hns₁ hsb₁ ⊢
 have hC:G2.objs.size=s2.heap.objs.size+1:=by rw[<-hH2,Heap.size_push]
 have hDC:s2.heap.objs.size≠G2.objs.size:=by rw[hC];exact Nat.ne_of_lt (Nat.lt_succ_self _)
 have hCle:s2.heap.objs.size<=G2.objs.size:=by rw[hC];exact Nat.le_succ _
 have below:∀b,b<s2.heap.objs.size->b≠G2.objs.size/\b≠s2.heap.objs.size:=λb hb=>⟨by rw[hC];exact Nat.ne_of_lt (Nat.lt_succ_of_lt hb),Nat.ne_of_lt hb⟩
 have old:∀b o,s2.heap.get? b=some o->h₁.get? b=some o:=λb o e=>hsb₁.extBut b o (below b (Heap.lt_size e)).1 (Heap.get?_push_of_some _ (hH2▸Heap.get?_push_of_some _ e))
 have hacc:h₁.get? s2.heap.objs.size=some (LCg.lst []):=hsb₁.extBut _ _ hDC (Heap.get?_push_of_some _ (hH2▸Heap.get?_push_size _ rfl))
 have hfb:∀b∈fp,b<s2.heap.objs.size:=λb hb=>by obtain⟨o,e,_⟩:=T.obj _ _ st2 b hb;exact Heap.lt_size e
 generalize hD:s2.heap.objs.size=D at hDC hacc ⊢
 generalize hCg:G2.objs.size=C at hns₁ hDC ⊢
 have hDle:s2.heap.objs.size<=D:=by rw[hD];exact Nat.le_refl _
 have hCle':s2.heap.objs.size<=C:=by rw[<-hCg];exact hCle
 have belowD:∀b o,s2.heap.get? b=some o->b≠D:=λb o e=>by rw[<-hD];exact(below b (Heap.lt_size e)).2
 have belowC:∀b o,s2.heap.get? b=some o->b≠C:=λb o e=>by rw[<-hCg];exact(below b (Heap.lt_size e)).1
 let X':Cx:=compCx X N' scope (clos X.env scope.names []) C s2 H2 fp
 have hX':X'=compCx X N' scope (clos X.env scope.names []) C s2 H2 fp:=rfl
 have sub:∀x c,(clos X.env scope.names []).lookup x=some c->X.env.cells.lookup x=some c:=λx c h=>z4Z (acc:=[]) (λ_ _ z=>by simp at z) h
 have pinOk:∀{H':Hp}{h:Heap}{yv:List Value},H' D=none->h.get? D=some (LCg.lst yv)-> ∀p∈[(D,LCg.lst yv)],h.get? p.1=some p.2/\H' p.1=none/\p.1≠X'.env.locals/\p.1∉X'.fs/\ ∀v,p.2.data≠ .cell v:=λ{H' h yv}hn hg p hp=>by
  have e:p=(D,LCg.lst yv):=by simpa using hp
  subst e
  refine⟨hg,hn,hDC,λz=>?_,λv z=>by cases z⟩
  rcases List.mem_cons.mp (I2.stkSub D z)with q|q
  ·exact absurd I2.lt (by rw[<-q];exact Nat.not_lt.mpr hDle)
  ·exact I2.nofs hDle q
 have I4:Inv X' [(D,LCg.lst [])] (stIn ix σ) H2 {s2 with heap:=h₁,toks:=s2.toks+([]:List (Str×Value)).length}:=
  (zBk S I2 f2 hfb hCle' hns₁ old).pins_of (pinOk (I2.hok.fresh hDle) hacc)
 have stat:∀{H':Hp}{pl:List (Addr×Obj)},(∀p∈pl,p.1=D)->(∀b∈fp,H' b=none)-> ∀b∈fp,FpOk X' pl H' b:=λ{H' pl}hpl hn b hb=>by
  refine⟨hn b hb,λz=>?_,λz=>?_,.inl hb,λx c e=>(f2 b hb).2.2.2.2.1 x c (sub x c e),λp hp z=>?_⟩
  ·have z':b=C:=z
   exact absurd (hfb b hb) (by rw[z'];exact Nat.not_lt.mpr hCle')
  ·rcases List.mem_cons.mp (I2.stkSub b z)with q|q
   ·exact(f2 b hb).2.1 q
   ·exact(f2 b hb).2.2.1 q
  ·have hp':p∈([]:List (Addr×Obj))++pl:=hp
   rw[List.nil_append]at hp'
   exact absurd (hfb b hb) (by rw[<-z,hpl p hp'];exact Nat.not_lt.mpr hDle)
 have one:∀{yv:List Value},∀p∈[(D,LCg.lst yv)],p.1=D:=λ{yv}p hp=>by
  have e:p=(D,LCg.lst yv):=by simpa using hp
  rw[e]
 have loop:∀s₃:Shared,s₃={s2 with heap:=h₁,toks:=s2.toks+([]:List (Str×Value)).length}->
   codeAny (model X.prog X.w) X.A (.compLoop (.ListComp elt [⟨tg,iter,ifs,0⟩] scope pos) 0 (.ref it) (.ref D) (compEnvC scope (clos X.env scope.names []) C X.env)) (RR (.ref D) C) s₃:=by
  rintro s₃ rfl
  refine z27
   (λn s'=>∃i ys yv σ' H',Inv X' [(D,LCg.lst yv)] σ' H' s'/\Vals ys yv/\ys.length<=sizeLine/\tn i s'.heap/\(∀b∈fp,H' b=none)/\W i n ys σ' H') ?_ m0
   ⟨0,[],[],stIn ix σ,H2,I4,.nil,Nat.zero_le _,T.keep _ _ _ st2 λb _ o e=>old b o e,λb hb=>(f2 b hb).1,w0⟩
  rintro n s3 ⟨i,ys,yv,σ3,H3,I3,ry,hy,st3,fr3,w3⟩
  rcases turn i n ys σ3 H3 w3 with⟨stop,qn⟩|⟨go,hlt,N,hN,step⟩
  ·refine thn (T.done X' rfl rfl rfl hc i _ s3 σ3 H3 X'.xe I3 (stat one fr3) st3 stop) λr s4⟨hr,I4⟩=>?_
   subst hr
   have pD:=I4.pin (D,LCg.lst yv) (List.mem_append_right _ List.mem_cons_self)
   have gD:s4.heap.get? D=some (LCg.lst yv):=pD.1
   have nD:H3 D=none:=pD.2.1
   have hq:=qn D nD
   have un:Un (frs X.stack) fp H2 (upd H3 D (.lst ys)) s2.heap s4.heap:=by
    have u:=I4.base
    refine⟨u.keep,u.slot,λb o e n hx=>?_,u.there,λb xs e=>?_,λb o xs e=>?_,λb ps e=>?_⟩
    ·rw[z0f (belowD b o e)];exact u.free b o e n hx
    ·rw[z0f (Nat.ne_of_lt (Nat.lt_of_lt_of_le (I2.hok.lt e) hDle))];exact u.tups b xs e
    ·rw[z0f (Nat.ne_of_lt (Nat.lt_of_lt_of_le (I2.hok.lt e) hDle))];exact u.frzs b o xs e
    ·rw[z0f (Nat.ne_of_lt (Nat.lt_of_lt_of_le (I2.hok.lt e) hDle))];exact u.tbls b ps e
   have hok:HOk X.prog X.w (upd H3 D (.lst ys)) s4.heap:=λb u e=>by
    by_cases hb:b=D
    ·subst hb
     rw[z0m]at e;cases e
     exact⟨hy,yv,yv.length,ry,gD⟩
    ·rw[z0f hb]at e
     exact(I4.hok b u e).stay (λc v _ q=>q) (λc q=>by rw[z0f (z0u q nD)];exact q) λc xs q=>by rw[z0f (z0u q nD)];exact q
   have I5:Inv X pins σ (upd H3 D (.lst ys)) s4:=I2.call' I4.os un hok I4.bare λb hb=>⟨(f2 b hb).2.2.2.1,(f2 b hb).2.1,(f2 b hb).2.2.2.2.1,(f2 b hb).2.2.2.2.2⟩
   obtain⟨m,hn,_⟩:=I4.loc
   exact hRR D C s4 ys H3 I5 ⟨m,hn⟩ (I2.fpOk hCle' (by rw[z0f (Ne.symm hDC)];exact I4.free)) hq
  ·refine thn (T.item X' rfl rfl rfl hc i _ s3 σ3 H3 X'.xe I3 (stat one fr3) st3 go) λr s4⟨u,hr,h4⟩=>?_
   subst hr
   refine thn h4 λ_ s5⟨x,H5,I5,r5,y5,st5,fr5⟩=>?_
   have I5':=I5.pinned (stat one fr5) (T.obj _ _ st5)
   refine thn (hg _ _ _ _ _ _ s5 σ3 H5 x u _ I5' r5 (step x H5 y5)) λ_ s6⟨σ6,H6,I6,q6⟩=>?_
   refine thn (ht _ _ _ _ _ _ s6 σ6 H6 _ I6 q6) λok s7⟨H7,I7,q7⟩=>?_
   have back:∀{σ8:St}{H8:Hp}{s8:Shared},Inv X' ([(D,LCg.lst yv)]++pinsAt fp s5.heap) σ8 H8 s8->tn (i+1) s8.heap/\ ∀b∈fp,H8 b=none:=λ{σ8 H8 s8}I8=>by
    refine⟨T.keep _ _ _ st5 λb hb o e=>(I8.pin (b,o) (List.mem_append_right _ (List.mem_append_right _ (z2t hb e)))).1,λb hb=>?_⟩
    obtain⟨o,e,d⟩:=T.obj _ _ st5 b hb
    exact(I8.pin (b,o) (List.mem_append_right _ (List.mem_append_right _ (z2t hb e)))).2.1
   cases ok with
   | false=>
    rw[if_neg Bool.false_ne_true]at q7 ⊢
    obtain⟨m',hm,w7⟩:=hN _ _ _ q7
    exact⟨m',hm,i+1,ys,yv,σ6,H7,I7.unpinned,ry,hy,(back I7).1,(back I7).2,w7⟩
   | true=>
    rw[if_pos rfl]at q7 ⊢
    refine thn (he _ _ _ _ _ _ s7 σ6 H7 _ I7 q7) λyu s8⟨y,H8,I8,r8,q8⟩=>?_
    obtain⟨m',hm,w8⟩:=hN _ _ _ q8
    have pD:=I8.pin (D,LCg.lst yv) (List.mem_append_right _ (List.mem_append_left _ List.mem_cons_self))
    have gD:s8.heap.get? D=some (LCg.lst yv):=pD.1
    refine append_at (hsz:=by show yv.toArray.size<=sizeLine;rw[List.size_toArray,<-ry.length];exact hy) gD λh9 hs9 hD9=>?_
    have I8':Inv X' [] σ6 H8 s8:=I8.pins_of λp hp=>absurd hp (by simp)
    have I9:Inv X' [] σ6 H8 {s8 with heap:=h9,toks:=s8.toks}:=I8'.turned (it:=D) (λb o hb e=>(hs9.2 b hb).trans e) pD.2.1 pD.2.2.1 (.inr hDle) (λx c e z=>by
     obtain⟨v,q⟩:=I2.cell x c (sub x c e)
     exact absurd q.lt (by rw[z];exact Nat.not_lt.mpr hDle)) λp hp=>absurd (show p∈([]:List (Addr×Obj))from hp) (by simp)
    have hD9':h9.get? D=some (LCg.lst (yv++[yu])):=hD9.trans (congrArg some (LCg.lst_snoc yv yu))
    have b8:=back I8
    refine⟨m',hm,i+1,ys++[y],yv++[yu],σ6,H8,I9.pins_of (pinOk pD.2.1 hD9'),ry.append (.cons r8 .nil),by rw[List.length_append];exact hlt,T.keep _ _ _ b8.1 λb hb o e=>(hs9.2 b λz=>?_).trans e,b8.2,w8⟩
    exact absurd (hfb b hb) (by rw[z];exact Nat.not_lt.mpr hDle)
 exact codeAny_compStart_list (loop _ rfl) (T.self _ 0 _ _ _ (T.keep _ _ _ st2 λb _ o e=>old b o e) (loop _ rfl))
theorem zGs{wi:TI}(hc:X.calm=true)(S:LcScope X N' ix scope)(hi:PI X tg iter wi)(hg:∀cl C s H fp,PG (compCx X N' scope cl C s H fp) tg g)(ht:∀cl C s H fp,PTs (compCx X N' scope cl C s H fp) ifs tt)(he:∀cl C s H fp,PE (compCx X N' scope cl C s H fp) elt te)
  (hs:∀x,foldedSetIterable iter X.env x=pure x:=by intro _;rfl):PE X (.ListComp elt [⟨tg,iter,ifs,0⟩] scope pos) (tLc wi ix g tt te):=by
 intro pins s σ H Q I h
 rw[eval_ListComp]
 refine wpAny_comprehension_free (use:=none) rfl hs (z2O (I.cells_of S)) S.kind S.names (thn (hi pins s σ H _ I h) λv s1 h1=>thn h1 λitv s2 h2=>?_)
 obtain⟨it,fp,tn,J,H2,e,I2,T,st2,f2,W,⟨m0,w0⟩,turn⟩:=h2
 subst e
 refine z7E hc S I2 T st2 f2 w0 turn hg ht he λD C s5 ys H' I5 hn hC q=>?_
 obtain⟨m,hn⟩:=hn
 refine⟨m,hn,λh' hs'=>⟨.ref D,_,I5.turned (it:=C) (h':=h') (t':=s5.toks) (λb o hb e=>(hs'.2 b hb).trans e) hC.1 hC.2.1 hC.2.2.2.1 hC.2.2.2.2.1 hC.2.2.2.2.2,rfl,q⟩⟩
theorem zBl{wi:TI}{i:Nat}{x:Str}{pos' spos:Pos}(hN:X.N.Nodup)(hix:X.N[i]? = some x)(hx:X.env.scope.names.lookup x=some .local)(hc:X.calm=true)(S:LcScope X N' ix scope)(hi:PI X tg iter wi)
  (hg:∀cl C s H fp,PG (compCx X N' scope cl C s H fp) tg g) (ht:∀cl C s H fp,PTs (compCx X N' scope cl C s H fp) ifs tt) (he:∀cl C s H fp,PE (compCx X N' scope cl C s H fp) elt te)
  (hsw:swapsWith (.ListComp elt [⟨tg,iter,ifs,0⟩] scope pos) (some (.Name x pos')) spos.line X.env=pure true:=by rfl)
  (hs:∀x,foldedSetIterable iter X.env x=pure x:=by intro _;rfl):PS X (.Assign [.Name x pos'] (.ListComp elt [⟨tg,iter,ifs,0⟩] scope pos) spos) (tAsg (tLc wi ix g tt te) (gName i)):=by
 intro pins s σ H D0 I h
 rw[exec_Assign_Name_used _ _ _ _ hsw]
 refine wpAny_bind (wpAny_standAt (wpAny_bind ?_))
 show wpAny _ X.A (do let _ <-comprehension (.ListComp elt [⟨tg,iter,ifs,0⟩] scope pos) scope X.env _ (newList []) false (eval iter X.env) (some (assign (.Name x pos') X.env))) _ _ s
 refine wpAny_bind (wpAny_mono (wpAny_comprehension_free (use:=some (assign (.Name x pos') X.env)) (Q:=λ_ s'=>SP X pins D0 .next s') rfl hs (z2O (I.cells_of S)) S.kind S.names
  (thn (hi pins s σ H _ I h) λv s1 h1=>thn h1 λitv s2 h2=>?_)) (λ_ s' hq=>wpAny_pure (wpAny_pure hq)) λ_ _ e=>e)
 obtain⟨it,fp,tn,J,H2,e,I2,T,st2,f2,W,⟨m0,w0⟩,turn⟩:=h2
 subst e
 refine z7E (Q:=λx H1=>gName i x σ H1 D0.nx) hc S I2 T st2 f2 w0 turn hg ht he λD C s5 ys H' I5 hn hC q=>?_
 obtain⟨m,hn⟩:=hn
 show wpAny _ X.A (assign (.Name x pos') X.env (.ref D)) _ _ _
 refine wpAny_assign_Name (z5P I5 hN hix (.inl hx) (v:=.ref D) rfl (λs6 I6⟨a,hsb,ha⟩=>?_) (.inr hx))
 have hCa:C≠a:=by
  rcases ha with rfl|ha
  ·exact hC.2.1
  ·exact(hC.2.2.2.2.1 x a ha).symm
 refine⟨m,hn.sameBut hsb hCa,λh' hs'=>⟨_,_,I6.turned (it:=C) (h':=h') (t':=s6.toks) (λb o hb e=>(hs'.2 b hb).trans e) hC.1 hC.2.1 hC.2.2.2.1 hC.2.2.2.2.1 hC.2.2.2.2.2,q⟩⟩
end
def LcRun(J:It)(g:TG)(tt:TT)(te:TE)(Q:VK)(σ0:St)(H:Hp):Prop:=∃W:Nat->Nat->List V->St->Hp->Prop,(∃m,W 0 m [] σ0 H)/\ ∀i m ys σ' H',W i m ys σ' H'->
 (J.stop i H'/\ ∀D,H' D=none->Q (.ref D) (upd H' D (.lst ys)))\/
 (J.go i H'/\ys.length<sizeLine/\ ∃N:List V->St->Hp->Prop,(∀ys' σ2 H2,N ys' σ2 H2-> ∃m',m'<m/\W (i+1) m' ys' σ2 H2)/\
  ∀x H2,J.yld i H' x H2->g x σ' H2 λσ3 H3=>tt σ3 H3 λb H4=>if b=true then te σ3 H4 λy H5=>N (ys++[y]) σ3 H5 else N ys σ3 H4)
theorem zCW{K:PySem.W.Frag}{a:Addr}{xs:List V}{g:TG}{tt:TT}{te:TE}{σ0:St}{H:Hp}{Q:VK}(Pv:Nat->List V->St->Hp->Prop)(hz:xs.length<=sizeLine)(h0:Pv 0 [] σ0 H)(hl:∀i ys σ H,i<=xs.length->Pv i ys σ H->SqL K H a xs/\ys.length<=i)
  (hs:∀i x ys σ H,xs[i]? = some x->Pv i ys σ H->g x σ H λσ3 H3=>tt σ3 H3 λb H4=>if b=true then te σ3 H4 λy H5=>Pv (i+1) (ys++[y]) σ3 H5 else Pv (i+1) ys σ3 H4)
  (hd:∀ys σ H,Pv xs.length ys σ H-> ∀D,H D=none->Q (.ref D) (upd H D (.lst ys))):LcRun (Itl K a) g tt te Q σ0 H:=by
 refine⟨λi m ys σ H=>m=xs.length-i/\i<=xs.length/\Pv i ys σ H,⟨xs.length,by simp,Nat.zero_le _,h0⟩,?_⟩
 rintro i m ys σ H ⟨rfl,hi,p⟩
 obtain⟨q,ql⟩:=hl i ys σ H hi p
 by_cases hlt:i<xs.length
 ·refine .inr ⟨⟨xs,xs[i],q,by simp[hlt]⟩,by omega,Pv (i+1),λys' σ' H' p'=>⟨xs.length-(i+1),by omega,rfl,hlt,p'⟩,λx H' y=>?_⟩
  obtain⟨e,y⟩:=y
  subst e
  exact hs i x ys σ _ (y xs q) p
 ·have e:i=xs.length:=by lia
  subst e
  exact .inl ⟨⟨xs,q,Nat.le_refl _⟩,hd ys σ H p⟩
theorem z7F{lo:Int}{n:Nat}{g:TG}{tt:TT}{te:TE}{σ0:St}{H:Hp}{Q:VK}(Pv:Nat->List V->St->Hp->Prop)(hz:n<=sizeLine)(h0:Pv 0 [] σ0 H)(hl:∀i ys σ H,i<=n->Pv i ys σ H->ys.length<=i)
  (hs:∀i ys σ H,i<n->Pv i ys σ H->g (.int (lo+i)) σ H λσ3 H3=>tt σ3 H3 λb H4=>if b=true then te σ3 H4 λy H5=>Pv (i+1) (ys++[y]) σ3 H5 else Pv (i+1) ys σ3 H4)
  (hd:∀ys σ H,Pv n ys σ H-> ∀D,H D=none->Q (.ref D) (upd H D (.lst ys))):LcRun (Itr lo n) g tt te Q σ0 H:=by
 refine⟨λi m ys σ H=>m=n-i/\i<=n/\Pv i ys σ H,⟨n,by simp,Nat.zero_le _,h0⟩,?_⟩
 rintro i m ys σ H ⟨rfl,hi,p⟩
 have ql:=hl i ys σ H hi p
 by_cases hlt:i<n
 ·refine .inr ⟨hlt,by omega,Pv (i+1),λys' σ' H' p'=>⟨n-(i+1),by omega,rfl,hlt,p'⟩,λx H' y=>?_⟩
  obtain⟨e,y⟩:=y
  subst e y
  exact hs i ys σ _ hlt p
 ·have e:i=n:=by lia
  subst e
  exact .inl ⟨Nat.le_refl _,hd ys σ H p⟩
end L2
namespace L2
open PySem PySem.Spec PyProof.Rows
structure Fly(P:Program)(w:World)(l:List Env)(H H':Hp)(h:Heap)(e:Addr)(cls:Value)(h' B:Heap)(t:Addr):Prop where
 fly:Heap.FlyingW B l e cls (.ref t) h'
 keep:∀b o,h.get? b=some o->H b=none->b∉frs l->B.get? b=some o
 there:∀b o,h.get? b=some o->b∉frs l-> ∃o',B.get? b=some o'
 slot:∀b o,h.get? b=some o->b∈frs l-> ∃sl,h'.get? b=some {o with slots:=sl}
 free:∀b o,h.get? b=some o->H b=none->H' b=none
 tups:∀b xs,H b=some (.tup xs)->H' b=some (.tup xs)
 frzs:∀b o u,H b=some (.frz o u)->H' b=some (.frz o u)
 tbls:∀b ps,H b=some (.tbl ps)-> ∃more,H' b=some (.tbl (ps++more))
 hok:HOk P w H' B
def CX1(P:Program)(w:World):CXT:=λouter H s E e s'=>∃a cls H' B t,e= .ref a/\s'.os=s.os/\AllBare s'.gens/\Fly P w outer H H' s.heap a cls s'.heap B t/\E cls none H'
section
variable{P:Program}{w:World}{l:List Env}{H H':Hp}{h h' B:Heap}{e t:Addr}{cls:Value}
end
section
variable{CX:CXT}{P:Program}{w:World}{K:PySem.W.Frag}{mg:Str->Option Value}{base:Heap}{N:List Str}{qual:Str}{scope:Scope}{f:Addr}{cd:Value}{A:Around}{outer:List Env}{s0:Shared}{H0:Hp}{E:XK}
def Raises(X:Cx)(E:XK):Prop:=∀(pins:List (Addr×Obj))(σ:St)(H:Hp)(s:Shared)(e C:Addr)(h':Heap)(vs:List Value),Inv X pins σ H s->Heap.MadeExcOf s.heap h' e (.ref C) vs->E (.ref C) none H->X.xe (.ref e) {s with heap:=h'}
theorem z9v:Raises (cxOf (CX1 P w) P w K mg base N qual scope f cd A outer s0 H0 E) E:=by
 intro pins σ H s e C h' vs I hm hE
 have hfr:(cxOf (CX1 P w) P w K mg base N qual scope f cd A outer s0 H0 E).A.frames=some (envOfC qual scope s0.heap.objs.size f cd::outer):=I.ok.frames
 have nost:∀b u,H b=some u->b∉frs (envOfC qual scope s0.heap.objs.size f cd::outer):=λb u q z=>by
  have:=I.stkFree b z
  rw[this]at q;cases q
 have hB:∀b o,s.heap.get? b=some o->b∉frs (envOfC qual scope s0.heap.objs.size f cd::outer)->(PySem.W.hideAll s.heap (frs (envOfC qual scope s0.heap.objs.size f cd::outer))).get? b=some o:=λb o q n=>PySem.W.hideAll_get _ q n
 have hokB:HOk P w H (PySem.W.hideAll s.heap (frs (envOfC qual scope s0.heap.objs.size f cd::outer))):=λb u q=>
  (I.hok b u q).stay (λc v hc z=>hB c v z (by
   rcases hc with rfl|hc
   ·exact nost _ _ q
   ·exact nost _ _ hc)) (λ_ z=>z) λ_ _ z=>z
 have outer_of:∀b,b∉frs outer-> ∀o,s0.heap.get? b=some o->b∉frs (envOfC qual scope s0.heap.objs.size f cd::outer):=λb nb o q z=>by
  rcases List.mem_cons.mp (I.stkSub b z)with z|z
  ·have:s0.heap.objs.size<=b:=by rw[z];exact I.ok.above
   exact absurd (Nat.lt_of_lt_of_le (Heap.lt_size q) this) (Nat.lt_irrefl _)
  ·exact nb z
 show wpAny _ _ (leaving _ (.ref e)) _ _ _
 refine wpAny_leaves_madeW (base:=PySem.W.hideAll s.heap (frs (envOfC qual scope s0.heap.objs.size f cd::outer))) hfr rfl (λb o q=>PySem.W.of_hideAll _ q)
  (PySem.W.funFrames_hide I.stack λenv he b hb=>List.mem_filterMap.mpr ⟨env,he,hb⟩) hm λh'' t x1 x2 x3 x4=>?_
 refine⟨e,.ref C,H,_,t,rfl,I.os,I.bare,⟨x1,λb o q n nb=>?_,λb o q nb=>?_,λb o q hb=>?_,λb o q n=>?_,I.base.tups,I.base.frzs,I.base.tbls,hokB⟩,hE⟩
 ·exact hB b o (I.base.keep b o q n nb (by simp[cxOf])) (outer_of b nb o q)
 ·obtain⟨o',z⟩:=I.base.there b o q (by simp[cxOf])
  exact⟨o',hB b o' z (outer_of b nb o q)⟩
 ·have n:H0 b=none:=I.ok.frf b hb
  obtain⟨sl,z⟩:=I.base.slot b o q n hb (by simp[cxOf])
  obtain⟨_,o1,ho1,hd1⟩:=I.ok.funs.mem hb
  have q':(cxOf (CX1 P w) P w K mg base N qual scope f cd A outer s0 H0 E).s₀.heap.get? b=some o:=q
  rw[q']at ho1;cases ho1
  obtain⟨sl',z'⟩:=x4 b _ (hm.keeps b _ z) hd1
  exact⟨sl',z'⟩
 ·exact I.base.free b o q n (by simp[cxOf])
theorem z6e{E':XK}(hE:∀c d H,E' c d H->E c d H):Passes (CX1 P w) (cxOf (CX1 P w) P w K mg base N qual scope f cd A outer s0 H0 E) E':=by
 intro pins σ H s e s' I hx
 obtain⟨a,cls,H',B,t,rfl,os,bare,F,q⟩:=hx
 have hfr:(cxOf (CX1 P w) P w K mg base N qual scope f cd A outer s0 H0 E).A.frames=some (envOfC qual scope s0.heap.objs.size f cd::outer):=I.ok.frames
 have outer_of:∀b,b∉frs outer-> ∀o,s0.heap.get? b=some o->b∉frs (envOfC qual scope s0.heap.objs.size f cd::outer):=λb nb o q z=>by
  rcases List.mem_cons.mp (I.stkSub b z)with z|z
  ·have:s0.heap.objs.size<=b:=by rw[z];exact I.ok.above
   exact absurd (Nat.lt_of_lt_of_le (Heap.lt_size q) this) (Nat.lt_irrefl _)
  ·exact nb z
 show wpAny _ _ (leaving _ (.ref a)) _ _ _
 refine wpAny_leaves_onW hfr rfl F.fly λh'' x1 x2=>?_
 refine⟨a,cls,H',B,t,rfl,os.trans I.os,bare,⟨x1,λb o q n nb=>?_,λb o q nb=>?_,λb o q hb=>?_,λb o q n=>?_,λb xs z=>F.tups b xs (I.base.tups b xs z),λb o xs z=>F.frzs b o xs (I.base.frzs b o xs z),λb ps z=>?_,F.hok⟩,hE _ _ _ q⟩
 ·exact F.keep b o (I.base.keep b o q n nb (by simp[cxOf])) (I.base.free b o q n (by simp[cxOf])) (outer_of b nb o q)
 ·obtain⟨o',z⟩:=I.base.there b o q (by simp[cxOf])
  exact F.there b o' z (outer_of b nb o q)
 ·have n:H0 b=none:=I.ok.frf b hb
  obtain⟨sl,z⟩:=I.base.slot b o q n hb (by simp[cxOf])
  have hb':b∈frs (envOfC qual scope s0.heap.objs.size f cd::outer):=by
   unfold frs
   rw[List.filterMap_cons]
   exact List.mem_cons_of_mem _ hb
  obtain⟨sl',z'⟩:=F.slot b _ z hb'
  obtain⟨_,o1,ho1,hd1⟩:=I.ok.funs.mem hb
  have q':(cxOf (CX1 P w) P w K mg base N qual scope f cd A outer s0 H0 E).s₀.heap.get? b=some o:=q
  rw[q']at ho1;cases ho1
  obtain⟨sl'',z''⟩:=x2 b _ z' hd1
  exact⟨sl'',z''⟩
 ·obtain⟨o',z⟩:=I.base.there b o q (by simp[cxOf])
  exact F.free b o' z (I.base.free b o q n (by simp[cxOf]))
 ·obtain⟨m1,e1⟩:=I.base.tbls b ps z
  obtain⟨m2,e2⟩:=F.tbls b _ e1
  exact⟨m1++m2,by rw[e2,Array.append_assoc]⟩
end
structure XCls(K:PySem.W.Frag)(mg:Str->Option Value)(x:Str)(C:Addr):Prop where
 bound:mg x=some (.ref C)
 exc:PySem.W.excIn K C [.type "ValueError",.type "Exception",.type "BaseException",.type "object"] "ValueError.__new__"=true
theorem XCls.own{K:PySem.W.Frag}{mg:Str->Option Value}{x:Str}{C:Addr}{h:Heap}(c:XCls K mg x C)(X:K.In h):OwnCls x C [.type "ValueError",.type "Exception",.type "BaseException",.type "object"] "ValueError.__new__" mg h:=by
 refine⟨c.bound,?_⟩
 have q:=c.exc
 unfold PySem.W.excIn at q
 split at q
 ·rename_i dd cd sl ho
  split at q
  ·rename_i C' bm k0 k1 k2 k3 n k5 hm hs
   simp only[Bool.and_eq_true,beq_iff_eq,Bool.not_eq_true']at q
   obtain⟨⟨⟨⟨⟨rfl,rfl⟩,hdel⟩,ht⟩,hok⟩,hni⟩:=q
   obtain⟨nm,bs,mro,ns,qn,hd,sn,sub,ab,col,del⟩:=cd
   dsimp only at hm hdel hok hni
   subst hm hdel
   have hsl:sl= #[k0,k1,k2,k3,some (.builtin "ValueError.__new__"),k5]:=by
    obtain⟨l⟩:=sl
    simp only at hs
    rw[hs]
   subst hsl
   exact⟨bm,ns,nm,qn,bs,hd,sn,sub,ab,col,dd,k0,k1,k2,k3,k5,_,X _ _ ho,.of_isNs (PySem.W.isNs_of_in X hok),PySem.W.nsMap_none_of_in X hok hni,PySem.W.tail_of_in X ht⟩
  ·cases q
 ·cases q
section
variable{X:Cx}
def tRaise(C:Addr)(E:XK)(t:TA):TS:=λ_ σ H=>t σ H λvs H1=>vs.length<=sizeLine/\E (.ref C) none H1
theorem zBm{E:XK}{x:Str}{C:Addr}{e:Expr}{es:List Expr}{t:TA}{np cpos pos:Pos}(hR:Raises X E)(hc:X.calm=true)(c:XCls X.K X.mg x C)(hg:Gl X x)(ha:PA X (e::es) t)
  (hdb:(x==("__debug__":Str))=false:=by decide) (he:starEach (e::es) X.env=(false,eval e X.env)::starEach es X.env:=by rfl) (hplain:(backTo cpos (starEach es X.env)).any (·.1)=false:=by rfl):
  PS X (.Raise (some (.Call (.Name x np) (e::es) [] cpos)) none pos) (tRaise C E t):=by
 intro pins s σ H D I h
 have O:=c.own I.kIn
 obtain⟨tl,Nn,nm,q,bs,hdct,sn,sub,ab,col,dd,k0,k1,k2,k3,k5,mN,hC,hN,hni,T⟩:=(c.own I.mod.kin).obj
 refine wpAny_Raise_call_subT (C:=C) (nm:=nm) (q:=q) (N:=Nn) (bs:=bs) (bm:=tl) (hdct:=hdct) (sn:=sn) (sub:=sub) (ab:=ab) (col:=col) (dd:=dd) (k0:=k0) (k1:=k1) (k2:=k2) (k3:=k3) (k5:=k5)
  PySem.F.excBase_ValueError (mN:=mN) (T.hasType PySem.F.excBase_ValueError.hasBase) (I.ok.hd hc) (by rw[he];show(false||(backTo cpos (starEach es X.env)).any (·.1))=false;rw[hplain];rfl) hni (z3G I hg c.bound ⟨rfl,?_⟩ hdb)
 have hA:=ha cpos pins s σ H _ I h
 rw[he]at hA ⊢
 refine Calls.evalArgs_plain (wpAny_mono hA (λus s₂ h₂=>?_) λ_ _ y=>y)
 obtain⟨vs,H1,I1,rv,hz,hE⟩:=h₂
 have kp:=I1.bk
 exact⟨rfl,by rw[<-rv.length];exact hz,kp _ _ hC,hN.keeps kp,T.keeps kp,λh' e hm=>hR pins σ H1 s₂ e C h' us I1 hm hE⟩
end
section
variable{X:Cx}{pins:List (Addr×Obj)}{σ:St}{CX:CXT}{k:Nat}{f C:Addr}{fd:FuncData}{ps:List Str}{sp:Sp}{E:XK}{x:Str}{p pos:Pos}{e:Expr}{es:List Expr}{t:TA}
end
def excAt(a:Addr)(cls:Value):Heap->Prop:=λh=>∃o vs,h.get? a=some o/\o.cls=cls/\o.data= .fields vs
section
variable{X:Cx}{pins:List (Addr×Obj)}{σ:St}{H H0 H':Hp}{s s0:Shared}{a t:Addr}{cls:Value}{B:Heap}
end
section
variable{X:Cx}
end
end L2
namespace L2
open PySem PySem.Spec PyProof.Rows
section
variable{X:Cx}
theorem Vals.insert{xs:List V}{us:List Value}(r:Vals xs us){y:V}{u:Value}(q:RelV y u)(k:Nat):Vals (xs.take k++y::xs.drop k) (us.take k++u::us.drop k):=(r.take k).append (.cons q (r.drop k))
theorem z9w(its:List Value)(u:Value)(k:Nat):((its.toArray.extract 0 k).push u++its.toArray.extract k)=(its.take k++u::its.drop k).toArray:=by
 apply Array.toList_inj.mp
 have e:List.take (its.length-k) (List.drop k its)=List.drop k its:=List.take_of_length_le (by simp)
 simp[List.extract_eq_take_drop,e]
def rInsert:V->List V->Hp->VK->Prop:=λx vs H Q=>∃l xs i y,x= .ref l/\vs=[.int i,y]/\H l=some (.lst xs)/\(0<=i/\i<=(xs.length:Int))/\xs.length<sizeLine/\Q .non (upd H l (.lst (xs.take i.toNat++y::xs.drop i.toNat)))
theorem z9x:MtR X "list.insert" rInsert:=by
 intro pins s σ H x vs v us Q I rx rv h
 obtain⟨l,xs,i,y,rfl,rfl,hH,⟨h1,h2⟩,hz,q⟩:=h
 cases rx
 obtain⟨u,u',rfl,ru,ru'⟩:=rv.two
 obtain⟨t,rfl⟩:=ru
 obtain⟨z,its,n,r,hl,e⟩:=I.lstM hH
 have hs:sizeLine<2^63:=line63
 have hc0:¬(!Builtin.List.listFitsIndex i)=true:=by
  unfold Builtin.List.listFitsIndex
  have a1:(-(2^63:Int)<=i):=by lia
  have a2:i<2^63:=by lia
  simp only[decide_eq_true a1,decide_eq_true a2]
  decide
 refine call_meets PySem.F.slot_list_insert ⟨_,e,rfl⟩ PySem.F.entry_list_insert (PySem.F.args_list_insert_3 _ _ _) (AutoSeq1.list_insert_list_int_val_1 l its.toArray n i t u' hc0 (by rw[List.size_toArray];lia)) ⟨e,?_⟩
 refine⟨.non,_,I.lset (its':=its.take i.toNat++u'::its.drop i.toNat) hH e ?_ (r.insert ru' i.toNat) ?_,rfl,q⟩
 ·dsimp only
  rw[if_neg (by lia),List.size_toArray,show min i.toNat its.length=i.toNat by lia]
  exact z9w its u' i.toNat
 ·simp only[List.length_append,List.length_cons,List.length_take,List.length_drop]
  omega
theorem z47{x:V}:∀{xs:List V}{us:List Value},Vals xs us->xs.all flatV=true->us.countP (eqU x)=xs.countP λy=>eqV y x
 | _,_,.nil,_=>rfl
 | y::xs,u::us,.cons r t,f=>by
  rw[List.all_cons,Bool.and_eq_true]at f
  rw[List.countP_cons,List.countP_cons,z9p r f.1,z47 t f.2]
def rCount(K:PySem.W.Frag):V->List V->Hp->VK->Prop:=λx vs H Q=>∃l xs y,x= .ref l/\vs=[y]/\SqL K H l xs/\flatV y=true/\xs.all flatV=true/\Q (.int ((xs.countP λz=>eqV z y:Nat):Int)) H
theorem zBn:MtR X "list.count" (rCount X.K):=by
 intro pins s σ H x vs v us Q I rx rv h
 obtain⟨l,xs,y,rfl,rfl,hH,fy,fx,q⟩:=h
 cases rx
 obtain⟨u,rfl,ru⟩:=rv.one
 obtain⟨its,r,pl,hz⟩:=I.list hH
 obtain⟨⟨cls,dd,data,sl⟩,ho,hc,n,hd⟩:=pl.isList
 simp only at hc hd
 subst hc hd
 refine call_meets PySem.F.slot_list_count ⟨_,ho,rfl⟩ PySem.F.entry_list_count (PySem.F.args_list_count_2 _ _) (SeqAt.list_countAt l its.toArray n dd sl u (eqU y)) ⟨ho,λw hw=>z2v ru fy r fx w (by simpa using hw),?_⟩
 refine⟨.int _,H,I.tok _,⟨s.toks,?_⟩,q⟩
 rw[show its.toArray.toList=its from rfl,z47 r fx]
theorem z6R:CallR X (.type "range") (λxs H Q=>∃j:Int,xs=[.int j]/\ ∀r,H r=none->Q (.ref r) (upd H r (.rng 0 j))):=by
 intro pins s σ H xs us Q I r h
 obtain⟨j,rfl,q⟩:=h
 obtain⟨u,rfl,t,rfl⟩:=vals1 r
 refine call_range_1 ⟨.ref s.heap.objs.size,_,I.laid (λb o e=>Heap.get?_push_of_some _ e) (Nat.le_refl _) (show ObjOk X.prog X.w _ _ _ (.rng 0 j)from⟨_,_,_,Heap.get?_push_size _ rfl⟩),rfl,q _ I.fresh⟩
theorem z8w{lo:Int}:∀{n:Nat}{its:List Value},its.length=n->(∀(j:Nat)v,its[j]? = some v-> ∃t,v=Value.int (lo+(j:Int)*1) t)->Vals ((List.range n).map λk:Nat=>V.int (lo+(k:Int))) its
 | n,its,hl,h=>by
  subst hl
  induction its generalizing lo with
  | nil=>exact .nil
  | cons u us ih=>
   rw[List.length_cons,List.range_succ_eq_map,List.map_cons,List.map_map]
   refine .cons ?_ ?_
   ·obtain⟨t,e⟩:=h 0 u rfl
    exact⟨t,by rw[e];simp⟩
   ·have:=ih (lo:=lo+1) λj v hj=>by
     obtain⟨t,e⟩:=h (j+1) v (by simpa using hj)
     exact⟨t,by rw[e];congr 1;push_cast;lia⟩
    have e:((λk:Nat=>V.int (lo+(k:Int)))∘Nat.succ)=λk:Nat=>V.int (lo+1+(k:Int)):=by
     funext k;show V.int _=V.int _;congr 1;simp only[Nat.succ_eq_add_one];push_cast;lia
    rw[e];exact this
theorem z2P(hc:X.calm=true):CallR X (.type "list") (λxs H Q=>∃(p:Addr)(lo hi:Int),xs=[.ref p]/\H p=some (.rng lo hi)/\(-(2^62)<=lo/\lo<2^62/\ -(2^62)<=hi/\hi<2^62)/\(hi-lo).toNat<=sizeLine/\
  ∀l,H l=none->Q (.ref l) (upd H l (.lst ((List.range (hi-lo).toNat).map λk:Nat=>V.int (lo+(k:Int)))))):=by
 intro pins s σ H xs us Q I r h
 obtain⟨p,lo,hi,rfl,hp,⟨b1,b2,b3,b4⟩,hz,q⟩:=h
 obtain⟨u,rfl,rx⟩:=vals1 r
 cases rx
 obtain⟨t,t',t'',hr⟩:=(show ∃t u v,s.heap.get? p=some {cls:=.type "range",data:=.fields #[.int lo t,.int hi u,.int 1 v]}from I.hok p _ hp)
 have hn:Builtin.Range.rangeSize lo hi 1=(((hi-lo).toNat:Nat):Int):=by rw[rangeSize_one];split<;>lia
 refine call_list_range (I.ok.hd hc) hr (small_one b1 b2 b3 b4) hn (by rw[show(2^24:Nat)=sizeLine from rfl];exact hz) λh' tk acc' c' kp e items=>?_
 refine⟨.ref s.heap.objs.size,_,I.laid kp (Nat.le_refl _) (show ObjOk X.prog X.w _ h' _ (.lst _)from⟨by simpa using hz,acc'.toList,c',z8w (by have:=items.1;simpa using this) λj v hj=>items.2 j v (by simpa using hj),by simpa using e⟩),rfl,q _ I.fresh⟩
theorem z9y(hc:X.calm=true):CallR X (.builtin "all") (λxs H Q=>∃(p:Addr)(bs:List Bool),xs=[.ref p]/\SqL X.K H p (bs.map V.bl)/\Q (.bl (bs.all λb=>b)) H):=by
 intro pins s σ H xs us Q I r h
 obtain⟨p,bs,rfl,hq,q⟩:=h
 obtain⟨u,rfl,rx⟩:=vals1 r
 cases rx
 obtain⟨its,rv,pl,hz⟩:=I.list hq
 have hlt:p<s.heap.objs.size:=by obtain⟨o,e,_⟩:=pl.isList;exact Heap.lt_size e
 have hb:∀(i:Nat)v,its.toArray[i]? = some v-> ∃b,bs[i]? = some b/\v=Value.bool b:=λi v hv=>by
  have hv':its[i]? = some v:=by simpa using hv
  have hlen:=rv.length
  cases hx:(bs.map V.bl)[i]? with
  | none=>rw[Vals.none_of rv hx]at hv';cases hv'
  | some x=>
   obtain⟨u,hu,ru⟩:=rv.get hx
   rw[hv']at hu;cases hu
   rw[List.getElem?_map]at hx
   cases hbi:bs[i]? with
   | none=>rw[hbi]at hx;cases hx
   | some b=>rw[hbi]at hx;cases hx;exact⟨b,rfl,ru⟩
 refine call_all_walk (wpAny_pyIter_list pl.isList ?_)
 refine⟨s.heap.objs.size,_,[s.heap.objs.size],its.toArray.size,_,_,λi=>(bs[i]?).getD true,rfl,Walks.list (A:=X.A.in1) (I.ok.hd hc) s.heap.objs.size p (Nat.ne_of_lt hlt) its.toArray,
  ⟨⟨_,Heap.get?_push_size _ rfl,rfl,rfl⟩,pl.isList.push _⟩,λi v s' Q' E' hP hQ=>?_,λh' tk kp=>?_⟩
 ·obtain⟨b,e1,rfl⟩:=hb i v hP
  dsimp only at hQ
  rw[e1]at hQ
  exact wpAny_truthy_bool hQ
 ·have hall:(List.range its.toArray.size).all (λi=>(bs[i]?).getD true)=bs.all λb=>b:=by
   have hlen:its.toArray.size=bs.length:=by rw[List.size_toArray,<-rv.length,List.length_map]
   rw[hlen,Bool.eq_iff_iff,List.all_eq_true,List.all_eq_true]
   constructor
   ·intro h b hb
    obtain⟨i,hi,rfl⟩:=List.mem_iff_getElem.mp hb
    have:=h i (by simpa using hi)
    simpa [hi] using this
   ·intro h i hi
    have hi':i<bs.length:=by simpa using hi
    simpa [hi'] using h bs[i] (List.getElem_mem hi')
  rw[hall]
  refine⟨.bl _,H,I.kept (h':=h') (t':=tk) λb o e=>kp b o (λz=>?_) (Heap.get?_push_of_some _ e),rfl,q⟩
  rw[List.mem_singleton.mp z]at e
  exact absurd (Heap.lt_size e) (Nat.lt_irrefl _)
theorem z6f:CallR X (.builtin "sorted") (λxs H Q=>∃(p:Addr)(ns:List Int),xs=[.ref p]/\SqL X.K H p (ns.map V.int)/\ns.length<64/\
  ∀l(ns':List Int),H l=none->ns'.Perm ns->ns'.Pairwise (· <= ·)->Q (.ref l) (upd H l (.lst (ns'.map V.int)))):=by
 intro pins s σ H xs us Q I r h
 obtain⟨p,ns,rfl,hq,h64,q⟩:=h
 obtain⟨u,rfl,rx⟩:=vals1 r
 cases rx
 obtain⟨its,rv,pl,hz⟩:=I.list hq
 have hlen:=rv.length
 rw[List.length_map]at hlen
 refine sorted_ints (vs:=its) pl.isList (z2u rv) (by omega) λout ns' a1 a2 a3=>?_
 obtain⟨e,he⟩:=sortedAll_at s.heap its out
 have hz':(ns'.map V.int).length<=sizeLine:=by rw[List.length_map,a2.length_eq,sizeLine_eq];lia
 refine⟨.ref (s.heap.objs.size+1),_,I.laid (t':=s.toks) (λ_ _=>sortedAll_old) (Nat.le_succ _) (show ObjOk X.prog X.w _ _ _ (.lst (ns'.map V.int))from⟨hz',out.toList,e,z3N a1,by simpa using he⟩),rfl,q _ ns' (I.hok.fresh (Nat.le_succ _)) a2 a3⟩
theorem z9z(hc:X.calm=true):CallR X (.type "set") (λxs H Q=>∃(p:Addr)(ns:List Int),xs=[.ref p]/\SqL X.K H p (ns.map V.int)/\ns.length<1000/\
  ∀l S,H l=none->Q (.ref l) (upd H l (.set S (firstMet (λi=>ns.getD i 0) ns.length).length))):=by
 intro pins s σ H xs us Q I r h
 obtain⟨p,ns,rfl,hq,hlt,q⟩:=h
 obtain⟨u,rfl,rx⟩:=vals1 r
 cases rx
 obtain⟨its,rv,pl,hz⟩:=I.list hq
 have hlen:=rv.length
 rw[List.length_map]at hlen
 have hsz:its.toArray.size=ns.length:=by rw[List.size_toArray,hlen]
 refine PySem.call_set_list (I.ok.hd hc) pl.isList (z2u rv) (by rw[hsz];show ns.length+1<4096;lia) λh' tk hs kp=>?_
 rw[hsz]at hs
 exact⟨.ref s.heap.objs.size,_,I.laid (λb o e=>kp b o (Heap.lt_size e) e) (Nat.le_refl _) (show ObjOk X.prog X.w _ h' _ (.set _ _)from hs),rfl,q _ _ I.fresh⟩
inductive EqR(K:PySem.W.Frag)(H:Hp):Nat->V->V->Bool->Prop where
 | flat {d:Nat} {x y:V} (hx:flatV x=true) (hy:flatV y=true):EqR K H d x y (eqV x y)
 | same {d:Nat} (a:Addr):EqR K H d (.ref a) (.ref a) true
 | lists {d:Nat} {a b:Addr} {xs ys:List V} {e:Nat->Bool} (hne:a≠b) (ha:SqL K H a xs) (hb:SqL K H b ys) (hl:xs.length=ys.length) (he:∀(i:Nat)x y,xs[i]? = some x->ys[i]? = some y->EqR K H d x y (e i)):EqR K H (d+1) (.ref a) (.ref b) ((List.range xs.length).all e)
 | lens {d:Nat} {a b:Addr} {xs ys:List V} (hne:a≠b) (ha:SqL K H a xs) (hb:SqL K H b ys) (hl:xs.length≠ys.length):EqR K H (d+1) (.ref a) (.ref b) false
 | tups {d:Nat} {a b:Addr} {xs ys:List V} {e:Nat->Bool} (hne:a≠b) (ha:SqT K H a xs) (hb:SqT K H b ys) (he:∀(i:Nat)x y,xs[i]? = some x->ys[i]? = some y->EqR K H d x y (e i)):EqR K H (d+1) (.ref a) (.ref b) ((List.range (min xs.length ys.length)).all e&&xs.length==ys.length)
theorem z3i{xs ys:List V}{us vs:List Value}(r:Vals xs us)(r':Vals ys vs){j:Nat}(h1:j<us.toArray.size)(h2:j<vs.toArray.size):∃x y,xs[j]? = some x/\ys[j]? = some y/\RelV x us.toArray[j]/\RelV y vs.toArray[j]:=by
 have l1:=r.length
 have l2:=r'.length
 have h1':j<us.length:=by simpa using h1
 have h2':j<vs.length:=by simpa using h2
 have e1:xs[j]? = some (xs[j]'(by omega)):=List.getElem?_eq_getElem (by omega)
 have e2:ys[j]? = some (ys[j]'(by omega)):=List.getElem?_eq_getElem (by omega)
 obtain⟨u,hu,ru⟩:=r.get e1
 obtain⟨v,hv,rv⟩:=r'.get e2
 refine⟨_,_,e1,e2,?_,?_⟩
 ·have:us.toArray[j]=u:=by
   have:us[j]? = some us[j]:=by simp[h1']
   rw[hu]at this;cases this;simp
  rw[this];exact ru
 ·have:vs.toArray[j]=v:=by
   have:vs[j]? = some vs[j]:=by simp[h2']
   rw[hv]at this;cases this;simp
  rw[this];exact rv
theorem z6g{pins:List (Addr×Obj)}{σ:St}{H:Hp}{s:Shared}(I:Inv X pins σ H s){d:Nat}{x y:V}{b:Bool}(h:EqR X.K H d x y b):
  ∀{A:Around}{u v:Value},A.units+d<cLine->RelV x u->RelV y v->SeqAt.EqAt A s u v b:=by
 induction h with
 | flat hx hy=>intro A u v _ ru rv;exact zCu ru rv hx hy
 | same a=>intro A u v _ ru rv;cases ru;cases rv;exact SeqAt.EqAt.same _
 | @lists d a b xs ys e hne ha hb hl he ih=>
  intro A u v hu ru rv
  cases ru;cases rv
  obtain⟨us,r1,p1,_⟩:=I.list ha
  obtain⟨vs,r2,p2,_⟩:=I.list hb
  have l1:=r1.length
  have l2:=r2.length
  have:=SeqAt.RcAt.lists (A:=A) (s:=s) (e:=e) p1.isList p2.isList (by simp;lia) (by omega) λj h1 h2=>by
   obtain⟨x,y,e1,e2,ru,rv⟩:=z3i r1 r2 h1 h2
   exact ih j x y e1 e2 (A:=A.in1) (by show A.units+1+d<cLine;omega) ru rv
  rw[show us.toArray.size=xs.length by simp;lia]at this
  exact SeqAt.EqAt.of_refs hne this
 | lens hne ha hb hl=>
  intro A u v hu ru rv
  cases ru;cases rv
  obtain⟨us,r1,p1,_⟩:=I.list ha
  obtain⟨vs,r2,p2,_⟩:=I.list hb
  have l1:=r1.length
  have l2:=r2.length
  exact SeqAt.EqAt.of_refs hne (SeqAt.RcAt.lists_lengths p1.isList p2.isList (by simp;lia) (by omega))
 | @tups d a b xs ys e hne ha hb he ih=>
  intro A u v hu ru rv
  cases ru;cases rv
  obtain⟨us,r1,p1,_⟩:=I.tuple ha
  obtain⟨vs,r2,p2,_⟩:=I.tuple hb
  have l1:=r1.length
  have l2:=r2.length
  have:=SeqAt.RcAt.tuples (A:=A) (s:=s) (e:=e) (show s.heap.IsTuple a us.toArray from p1) (show s.heap.IsTuple b vs.toArray from p2) (by omega) λj h1 h2=>by
   obtain⟨x,y,e1,e2,ru,rv⟩:=z3i r1 r2 h1 h2
   exact ih j x y e1 e2 (A:=A.in1) (by show A.units+1+d<cLine;omega) ru rv
  rw[show us.toArray.size=xs.length by simp;lia,show vs.toArray.size=ys.length by simp;lia]at this
  exact SeqAt.EqAt.of_refs hne this
def rEqL(K:PySem.W.Frag)(neg:Bool):R2:=λx y H Q=>∃a b xs ys,x= .ref a/\y= .ref b/\SqL K H a xs/\SqL K H b ys/\
 ((xs.length≠ys.length/\Q (.bl neg) H)\/(xs.length=ys.length/\ ∃(d:Nat)(e:Nat->Bool),d<=20/\(∀(i:Nat)x y,xs[i]? = some x->ys[i]? = some y->EqR K H d x y (e i))/\Q (.bl (neg ^^ (List.range xs.length).all e)) H))
theorem zFc(hu:X.A.units+30<cLine):OpR X (compareOp .Eq) (rEqL X.K false):=by
 intro pins s σ H x y v u Q I rx ry h
 obtain⟨a,b,xs,ys,rfl,rfl,ha,hb,h⟩:=h
 cases rx;cases ry
 obtain⟨us,r1,p1,_⟩:=I.list ha
 obtain⟨vs,r2,p2,_⟩:=I.list hb
 have l1:=r1.length
 have l2:=r2.length
 rcases h with⟨hl,q⟩|⟨hl,d,e,hd,he,q⟩
 ·exact SeqAt.eq_list_lengthsAt p1.isList p2.isList (by simp;omega) (by omega) ⟨.bl false,H,I,rfl,q⟩
 ·refine SeqAt.eq_listAt (e:=e) p1.isList p2.isList (by simp;omega) (by omega) (λj h1 h2=>?_) ?_
  ·obtain⟨x,y,e1,e2,ru,rv⟩:=z3i r1 r2 h1 h2
   exact z6g I (he j x y e1 e2) (by show X.A.units+1+d<cLine;omega) ru rv
  ·rw[show us.toArray.size=xs.length by simp;omega]
   exact⟨.bl _,H,I,rfl,by simpa using q⟩
theorem zFd(hu:X.A.units+30<cLine):OpR X (compareOp .NotEq) (rEqL X.K true):=by
 intro pins s σ H x y v u Q I rx ry h
 obtain⟨a,b,xs,ys,rfl,rfl,ha,hb,h⟩:=h
 cases rx;cases ry
 obtain⟨us,r1,p1,_⟩:=I.list ha
 obtain⟨vs,r2,p2,_⟩:=I.list hb
 have l1:=r1.length
 have l2:=r2.length
 rcases h with⟨hl,q⟩|⟨hl,d,e,hd,he,q⟩
 ·exact SeqAt.RcNeAt.lists_lengths p1.isList p2.isList (by simp;omega) (by omega) _ _ _ _ ⟨.bl true,H,I,rfl,q⟩
 ·refine SeqAt.RcNeAt.lists (e:=e) p1.isList p2.isList (by simp;omega) (by omega) (λj h1 h2=>?_) _ _ _ _ ?_
  ·obtain⟨x,y,e1,e2,ru,rv⟩:=z3i r1 r2 h1 h2
   exact z6g I (he j x y e1 e2) (by show X.A.units+1+d<cLine;omega) ru rv
  ·rw[show us.toArray.size=xs.length by simp;omega]
   exact⟨.bl _,H,I,rfl,by simpa using q⟩
theorem z6h:CallR X (.type "range") (λxs H Q=>∃i j:Int,xs=[.int i,.int j]/\ ∀r,H r=none->Q (.ref r) (upd H r (.rng i j))):=by
 intro pins s σ H xs us Q I r h
 obtain⟨i,j,rfl,q⟩:=h
 obtain⟨u,u',rfl,⟨t,rfl⟩,⟨t',rfl⟩⟩:=vals2 r
 exact call_range_2 ⟨.ref s.heap.objs.size,_,I.laid (λb o e=>Heap.get?_push_of_some _ e) (Nat.le_refl _) (show ObjOk X.prog X.w _ _ _ (.rng i j)from⟨_,_,_,Heap.get?_push_size _ rfl⟩),rfl,q _ I.fresh⟩
variable{a b c d:Expr}{ta tb tc td:TE}{pos:Pos}
def tChain3(r r' r'':R2)(ta tb tc td:TE):TE:=λσ H Q=>ta σ H λx H1=>tb σ H1 λy H2=>r x y H2 λz H3=>∃k,z= .bl k/\
 (if k=true then tc σ H3 λw' H4=>r' y w' H4 λz' H5=>∃k',z'= .bl k'/\(if k'=true then td σ H5 λw'' H6=>r'' w' w'' H6 Q else Q (.bl false) H5)else Q (.bl false) H3)
theorem z90{op op' op'':CmpOp}{r r' r'':R2}(ho:OpR X (compareOp op) r)(ho':OpR X (compareOp op') r')(ho'':OpR X (compareOp op'') r'')(ha:PE X a ta)(hb:PE X b tb)(hc:PE X c tc)(hd:PE X d td)
  (hm:lastMarks [op,op',op''] [b,c,d]=false:=by with_unfolding_all rfl):PE X (.Compare a [op,op',op''] [b,c,d] pos) (tChain3 r r' r'' ta tb tc td):=by
 intro pins s σ H Q I h
 refine Compare_chain (thn (ha pins s σ H _ I h) λv s1⟨x,H1,I1,r1,q1⟩=>chain_link (thn (hb pins s1 σ H1 _ I1 q1) λu s2⟨y,H2,I2,r2,q2⟩=>
  thn (ho pins s2 σ H2 x y v u _ I2 r1 r2 q2) λd s3⟨z,H3,I3,r3,k,e,q3⟩=>?_)) hm
 subst e
 cases r3
 refine wpAny_truthy_bool ?_
 cases k with
 | false=>exact ite_ff ⟨.bl false,H3,I3,rfl,q3⟩
 | true=>
  refine ite_tt (chain_link (thn (hc pins s3 σ H3 _ I3 q3) λw' s4⟨z',H4,I4,r4,q4⟩=>thn (ho' pins s4 σ H4 y z' u w' _ I4 r2 r4 q4) λd' s5⟨z2,H5,I5,r5,k2,e2,q5⟩=>?_))
  subst e2
  cases r5
  refine wpAny_truthy_bool ?_
  cases k2 with
  | false=>exact ite_ff ⟨.bl false,H5,I5,rfl,q5⟩
  | true=>exact ite_tt (chain_last (thn (hd pins s5 σ H5 _ I5 q5) λw'' s6⟨z3,H6,I6,r6,q6⟩=>ho'' pins s6 σ H6 z' z3 w' w'' Q I6 r4 r6 q6))
end
end L2
namespace MT
open PySem PySem.W PyProof.Rows
theorem z0Y{α:Type}(d:α):∀l:List α,(List.range l.length).map (λi=>l.getD i d)=l
 | []=>rfl
 | a::l=>by
  rw[List.length_cons,List.range_succ_eq_map,List.map_cons,List.map_map]
  have:=z0Y d l
  congr 1
def rank(ts:List Tie)(t:Tie):Int:=((ts.countP λu=>decide (tlt u t):Nat):Int)
theorem z6i(a b:Tie):tlt a b\/a=b\/tlt b a:=by
 obtain⟨a1,a2⟩:=a;obtain⟨b1,b2⟩:=b
 unfold tlt;dsimp only
 rcases Int.lt_trichotomy a1 b1 with h|h|h
 ·exact .inl (.inl h)
 ·subst h
  rcases Int.lt_trichotomy a2 b2 with h|h|h
  ·exact .inl (.inr ⟨rfl,h⟩)
  ·subst h;exact .inr (.inl rfl)
  ·exact .inr (.inr (.inr ⟨rfl,h⟩))
 ·exact .inr (.inr (.inl h))
theorem z6j{α:Type}{p q:α->Bool}:∀{l:List α}{a:α},(∀x∈l,p x=true->q x=true)->a∈l->p a=false->q a=true->l.countP p<l.countP q
 | [],_,_,h,_,_=>by simp at h
 | x::l,a,hs,hm,hp,hq=>by
  rw[List.countP_cons,List.countP_cons]
  have hle:l.countP p<=l.countP q:=List.countP_mono_left λy hy=>hs y (List.mem_cons_of_mem _ hy)
  rcases List.mem_cons.mp hm with rfl|hm
  ·rw[hp,hq];simp;lia
  ·have:=z6j (λy hy=>hs y (List.mem_cons_of_mem _ hy)) hm hp hq
   have h2:=hs x (List.mem_cons_self)
   cases hx:p x with
   | false=>simp;omega
   | true=>rw[h2 hx];simp;omega
theorem z91{ts:List Tie}{a b:Tie}(ha:a∈ts)(hb:b∈ts):decide (rank ts a<rank ts b)=decide (tlt a b):=by
 have mono:∀{x y:Tie},tlt x y->x∈ts->rank ts x<rank ts y:=λ{x y}h hx=>by
  unfold rank
  have:=z6j (p:=λu=>decide (tlt u x)) (q:=λu=>decide (tlt u y)) (l:=ts) (a:=x) (λu _ hu=>decide_eq_true (z5I (of_decide_eq_true hu) h)) hx (decide_eq_false (z2s x)) (decide_eq_true h)
  omega
 by_cases h:tlt a b
 ·rw[decide_eq_true h,decide_eq_true (mono h ha)]
 ·rw[decide_eq_false h,decide_eq_false]
  rcases z6i a b with q|q|q
  ·exact absurd q h
  ·subst q;lia
  ·have:=mono q hb;lia
theorem zCX{ts:List Tie}{a b:Tie}(ha:a∈ts)(hb:b∈ts)(h:rank ts a<=rank ts b):tle a b:=by
 have e:=z91 hb ha
 have:¬tlt b a:=by
  intro q
  rw[decide_eq_true q]at e
  have:=of_decide_eq_true e
  omega
 rcases z6i a b with q|q|q
 ·exact q.le
 ·subst q;unfold tle;lia
 ·exact absurd q this
section
variable{prog:Program}{w:World}{A:Around}{E:Value->Shared->Prop}{s:Shared}
theorem z4o{a:Addr}{vs:List Value}{n:Nat}{r:Nat->Int}{ρ:Value->Int}{P:PySem.Fin->Shared->Prop}(ho:s.heap.get? a=some (seqObj "list" vs.toArray n))(h64:vs.length<300)(hr:r=λi=>ρ (vs.getD i Value.none))
  (hk:∀h',(∀b o,b≠a->s.heap.get? b=some o->h'.get? b=some o)->2<=vs.length->
   wpAny (model prog w) A (keyKind' vs.toArray) (λκ s'=>s'={s with heap:=h'}/\ ∀i j C,i<vs.length->j<vs.length->C (ltR r i j) s'->kas_ask prog w A κ vs i j C s') (λ_ _=>False) {s with heap:=h'})
  (h:∀p:Array Nat,POk vs.length p->Srt r p vs.length->P (.done (.ret .none)) {s with heap:=sortedHeap s.heap a vs (p.toList.map λi=>vs.getD i Value.none).toArray}):
  wpAny (model prog w) A (Builtin.«list.sort» ⟨[.ref a],[]⟩) P E s:=by
 rw[list_sort_plain]
 have ha:a<s.heap.objs.size:=Heap.lt_size ho
 refine wpAny_bind (listItems_at ho rfl ?_)
 refine wpAny_bind (listUpdate_at ho rfl ?_ (by rw[List.size_toArray,sizeLine_eq];omega) (Nat.zero_le _))
 obtain⟨e1,ho1⟩:∃e1,(s.heap.update a (Obj.mapSeq λ_=>#[])).get? a=some (seqObj "list" #[] e1):=⟨_,get?_update_seq ho (λ_=>#[])⟩
 refine wpAny_bind (seqEpoch_at ho1 rfl ?_)
 refine wpAny_bind (wpAny_newTuple ?_ (by show vs.length<=_;rw[sizeLine_eq];omega))
 refine wpAny_bind (wpAny_newList ?_ (Nat.zero_le _))
 refine wpAny_holding ?_
 have ho6:(((s.heap.update a (Obj.mapSeq λ_=>#[])).push (seqObj "tuple" vs.toArray 0)).push (seqObj "list" #[] 0)).get? a=some (seqObj "list" #[] e1):=by
  rw[Heap.get?_push_ne _ _ _ (by rw[size_push',Heap.size_update];exact Nat.ne_of_lt (Nat.lt_succ_of_lt ha)),Heap.get?_push_ne _ _ _ (by rw[Heap.size_update];exact Nat.ne_of_lt ha)]
  exact ho1
 have keep:∀b o,b≠a->s.heap.get? b=some o->(((s.heap.update a (Obj.mapSeq λ_=>#[])).push (seqObj "tuple" vs.toArray 0)).push (seqObj "list" #[] 0)).get? b=some o:=λb o hb e=>
  Heap.get?_push_of_some _ (Heap.get?_push_of_some _ ((Heap.get?_update_other _ _ (Ne.symm hb)).trans e))
 show wpAny (model prog w) A _ P E {s with heap:=((s.heap.update a (Obj.mapSeq λ_=>#[])).push (seqObj "tuple" vs.toArray 0)).push (seqObj "list" #[] 0)}
 dsimp only
 have hsz:vs.toArray.size=vs.length:=by simp
 by_cases h2:vs.toArray.size<2
 ·rw[if_pos h2,if_pos h2]
  refine wpAny_bind (wpAny_pure ?_)
  rw[StateT.run_pure]
  refine wpAny_bind (wpAny_pure ?_)
  dsimp only
  refine wpAny_bind (seqEpoch_at ho6 rfl ?_)
  refine wpAny_bind (listUpdate_at ho6 rfl ?_ (hsz2:=by rw[Array.size_map];show(pairsOf vs).size<=_;rw[pairsOf_size,sizeLine_eq];omega))
  simp only[bne_self_eq_false,Bool.false_eq_true,if_false]
  have srt:Srt r (List.toArray (List.range vs.length)) vs.length:=by
   intro i j hij hj
   have:i=j:=by lia
   subst this
   exact Int.le_refl _
  have fin:=h (List.toArray (List.range vs.length)) (List.Perm.refl _) srt
  have e:((arrOf (SortSt.mk' general' (vs.toArray.zip vs.toArray) #[] 7 none)).map (·.2))=(List.map (λi=>vs.getD i Value.none) (List.toArray (List.range vs.length)).toList).toArray:=by
   have e1:arrOf (SortSt.mk' general' (vs.toArray.zip vs.toArray) #[] 7 none)=vs.toArray.zip vs.toArray:=rfl
   rw[e1]
   apply Array.toList_inj.mp
   have e2:List.map (λi=>vs.getD i Value.none) (List.range vs.length)=vs:=z0Y Value.none vs
   simp only[Array.toList_map,Array.toList_zip,List.toList_toArray]at e2 ⊢
   rw[List.map_snd_zip (Nat.le_refl _),e2]
  refine wpAny_pure ?_
  rw[<-e]at fin
  exact fin
 ·rw[if_neg h2,if_neg h2]
  have h2':2<=vs.length:=by omega
  refine wpAny_bind (wpAny_mono (hk _ keep h2') (λκ s0 hk0=>?_) λ_ _ x=>x.elim)
  obtain⟨rfl,hask⟩:=hk0
  subst hr
  refine wpAny_bind (wpAny_mono (Tim.zC8 (ρ:=ρ) hask) ?_ λ_ _ e=>e)
  rintro⟨⟨⟩,st'⟩ s' ⟨p,har,hf,rfl,hp,hs⟩
  dsimp only
  have hout:=kat_snds (ks:=vs) (vs:=vs) rfl har
  have hsz2:(List.toArray (p.toList.map λi=>vs.getD i Value.none)).size=vs.length:=by rw[List.size_toArray,List.length_map,Array.length_toList,hp.size]
  rw[hout]
  refine wpAny_bind (seqEpoch_at ho6 rfl ?_)
  refine wpAny_bind (listUpdate_at ho6 rfl ?_ (Nat.zero_le _) (Nat.le_trans (Nat.le_of_eq hsz2) (by rw[sizeLine_eq];lia)))
  rw[hf]
  simp only[bne_self_eq_false,Bool.false_eq_true,if_false]
  exact wpAny_pure (h p hp hs)
theorem z6S{l:Addr}{vs:List Value}{r:Nat->Int}{ρ:Value->Int}{Q:Value->Shared->Prop}(hl:s.heap.IsList l vs.toArray)(h64:vs.length<300)(hr:r=λi=>ρ (vs.getD i Value.none))
  (hk:∀h',(∀b o,s.heap.get? b=some o->h'.get? b=some o)->2<=vs.length->
   wpAny (model prog w) A.in1.in1 (keyKind' vs.toArray) (λκ s'=>s'={s with heap:=h'}/\ ∀i j C,i<vs.length->j<vs.length->C (ltR r i j) s'->kas_ask prog w A.in1.in1 κ vs i j C s') (λ_ _=>False) {s with heap:=h'})
  (h:∀p:Array Nat,POk vs.length p->Srt r p vs.length->Q (.ref (s.heap.objs.size+1)) {s with heap:=sortedAll s.heap vs (p.toList.map λi=>vs.getD i Value.none).toArray}):
  wpAny (model prog w) A (call (.builtin "sorted") [.ref l]) Q E s:=by
 refine Calls.call_function_entry kind_sorted plain_sorted entry_sorted (args_sorted1 _) ?_
 unfold Builtin.«sorted»
 refine wpAny_bind (m:=checkCount "sorted" 1 1 _) (wpAny_pure ?_)
 refine wpAny_bind (collect_list hl ?_ (by rw[sizeLine_eq];omega))
 refine wpAny_bind (wpAny_newList ?_ (by rw[sizeLine_eq];omega))
 have hsz:((s.heap.push (seqObj "list" #[] 0)).update s.heap.objs.size (Obj.mapSeq (· ++ vs.toArray))).objs.size=s.heap.objs.size+1:=by
  rw[Heap.size_update,size_push']
 have hoL:(((s.heap.push (seqObj "list" #[] 0)).update s.heap.objs.size (Obj.mapSeq (· ++ vs.toArray))).push (seqObj "list" vs.toArray 0)).get? (s.heap.objs.size+1)=some (seqObj "list" vs.toArray 0):=by
  rw[<-hsz];exact Heap.get?_push_size _ rfl
 have keep:∀b o,s.heap.get? b=some o->(((s.heap.push (seqObj "list" #[] 0)).update s.heap.objs.size (Obj.mapSeq (· ++ vs.toArray))).push (seqObj "list" vs.toArray 0)).get? b=some o:=λb o q=>by
  have hlt:b<s.heap.objs.size:=Heap.lt_size q
  rw[Heap.get?_push_ne _ _ _ (by rw[hsz];exact Nat.ne_of_lt (Nat.lt_succ_of_lt hlt)),Heap.get?_update_ne _ _ _ _ (Nat.ne_of_lt hlt),Heap.get?_push_ne _ _ _ (Nat.ne_of_lt hlt)]
  exact q
 show wpAny _ _ _ _ _ {s with heap:=((s.heap.push (seqObj "list" #[] 0)).update s.heap.objs.size (Obj.mapSeq (· ++ vs.toArray))).push (seqObj "list" vs.toArray 0)}
 rw[hsz]
 refine wpAny_bind (wpAny_holding (wpAny_call_entry slot_list_sort ⟨_,hoL,rfl⟩ entry_list_sort ?body (args_list_sort _)))
 case body=>
  refine z4o (r:=r) (s:={s with heap:=((s.heap.push (seqObj "list" #[] 0)).update s.heap.objs.size (Obj.mapSeq (· ++ vs.toArray))).push (seqObj "list" vs.toArray 0)}) hoL h64 hr
   (λh' kp h2=>hk h' (λb o e=>kp b o (Nat.ne_of_lt (Nat.lt_succ_of_lt (Heap.lt_size e))) (keep b o e)) h2) λp hp hs=>⟨_,rfl,wpAny_pure ⟨_,rfl,h p hp hs⟩⟩
end
end MT
namespace L2
open PySem PySem.Spec PyProof.Rows PySem.W
section
variable{X:Cx}
def TiesIn(K:PySem.W.Frag)(H:Hp)(as:List V)(ts:List MT.Tie):Prop:=Paired (λ(v:V)(t:MT.Tie)=>∃a,v= .ref a/\SqT K H a [.int t.1,.int t.2]) as ts
theorem TiesIn.get{K:PySem.W.Frag}{H:Hp}:∀{as:List V}{ts:List MT.Tie},TiesIn K H as ts-> ∀(i:Nat),i<ts.length-> ∃a,as[i]? = some (.ref a)/\SqT K H a [.int (ts.getD i (0,0)).1,.int (ts.getD i (0,0)).2]
 | _,_,.nil,i,h=>by simp at h
 | _,_,.cons ⟨a,e,q⟩ _,0,_=>⟨a,by rw[e];rfl,q⟩
 | _,_,.cons _ r,i+1,h=>by
  obtain⟨a,e,q⟩:=TiesIn.get r i (by simpa using h)
  exact⟨a,by simpa using e,by simpa using q⟩
theorem TiesIn.of{K:PySem.W.Frag}{H:Hp}:∀{as:List V}{ts:List MT.Tie},as.length=ts.length->(∀(i:Nat),i<ts.length-> ∃a,as[i]? = some (.ref a)/\SqT K H a [.int (ts.getD i (0,0)).1,.int (ts.getD i (0,0)).2])->TiesIn K H as ts
 | [],[],_,_=>.nil
 | [],_::_,h,_=>by simp at h
 | _::_,[],h,_=>by simp at h
 | v::as,t::ts,hl,h=>by
  refine .cons ?_ (TiesIn.of (by simpa using hl) λi hi=>?_)
  ·obtain⟨a,e,q⟩:=h 0 (by simp)
   exact⟨a,by simpa using e,by simpa using q⟩
  ·obtain⟨a,e,q⟩:=h (i+1) (by simpa using hi)
   exact⟨a,by simpa using e,by simpa using q⟩
theorem TiesIn.len{K:PySem.W.Frag}{H:Hp}{as:List V}{ts:List MT.Tie}(h:TiesIn K H as ts):as.length=ts.length:=Paired.length h
theorem Inv.pair{pins:List (Addr×Obj)}{σ:St}{H:Hp}{s:Shared}{a:Addr}{x y:Int}(I:Inv X pins σ H s)(h:SqT X.K H a [.int x,.int y]):∃o n t u,s.heap.get? a=some o/\o.cls= .type "tuple"/\o.data= .seq #[.int x t,.int y u] n:=by
 obtain⟨its,r,p,_⟩:=I.tuple h
 obtain⟨u,u',rfl,⟨t,rfl⟩,⟨t',rfl⟩⟩:=Vals.two r
 obtain⟨o,e,c,n,d⟩:=p
 exact⟨o,n,t,t',e,c,d⟩
theorem z1x{α:Type}{l:List α}{d x:α}{i:Nat}(h:l[i]? = some x):l.getD i d=x:=by rw[List.getD_eq_getElem?_getD,h];rfl
theorem zBo{s:Shared}{A:Around}{prog:Program}{w:World}{a b:Addr}{oa ob:Obj}{n m:Nat}{x y x' y':Int}{t u t' u':Tok}{C:Bool->Shared->Prop}{E:Value->Shared->Prop}
  (ha:s.heap.get? a=some oa) (da:oa.data= .seq #[.int x t,.int y u] n) (hb:s.heap.get? b=some ob) (db:ob.data= .seq #[.int x' t',.int y' u'] m) (h:C (decide (MT.tlt (x,y) (x',y'))) s):
  wpAny (model prog w) A (keyLt' (tuples' true) (.ref a) (.ref b)) C E s:=by
 refine kat_lt ha da hb db ?_
 refine kat_cons (SeqAt.EqAt.int_int x t x' t' _ _ _ _ ?_)
 by_cases e1:x=x'
 ·subst e1
  rw[beq_self_eq_true]
  refine kat_yes (kat_cons (SeqAt.EqAt.int_int y u y' u' _ _ _ _ ?_))
  by_cases e2:y=y'
  ·subst e2
   rw[beq_self_eq_true]
   refine kat_yes (kat_nil ?_)
   have z:decide (MT.tlt (x,y) (x,y))=false:=decide_eq_false (MT.z2s _)
   rw[z]at h
   exact h
  ·rw[show(y==y')=false from by simpa using e2]
   refine kat_no (kat_one _ _ (lt_int ?_))
   have z:decide (MT.tlt (x,y) (x,y'))=decide (y<y'):=by
    apply decide_eq_decide.mpr
    unfold MT.tlt;dsimp only;lia
   rw[z]at h
   exact h
 ·rw[show(x==x')=false from by simpa using e1]
  refine kat_no (oneLt_int ?_)
  have z:decide (MT.tlt (x,y) (x',y'))=decide (x<x'):=by
   apply decide_eq_decide.mpr
   unfold MT.tlt;dsimp only;omega
  rw[z]at h
  exact h
theorem z48{h:Heap}{ts:List MT.Tie}:∀{vs:List Value}{fs:List Value},vs.length=fs.length->(∀(i:Nat),i<vs.length-> ∃a o xs n f,vs[i]? = some (.ref a)/\fs[i]? = some f/\h.get? a=some o/\o.cls= .type "tuple"/\o.data= .seq xs n/\xs[0]? = some f)->KatTups h vs fs
 | [],[],_,_=>trivial
 | [],_::_,h,_=>by simp at h
 | _::_,[],h,_=>by simp at h
 | v::vs,f::fs,hl,hh=>by
  obtain⟨a,o,xs,n,f',e1,e2,h1,h2,h3,h4⟩:=hh 0 (by simp)
  simp at e1 e2
  subst e1 e2
  refine KatTups.cons h1 h2 h3 h4 (z48 (ts:=ts) (by simpa using hl) λi hi=>?_)
  obtain⟨a,o,xs,n,f',e1,e2,r⟩:=hh (i+1) (by simpa using hi)
  exact⟨a,o,xs,n,f',by simpa using e1,by simpa using e2,r⟩
def intOf:Value->Int
 | .int x _=>x
 | _=>0
def tieAt(h:Heap)(v:Value):MT.Tie:=match v with
 | .ref a=>(match h.get? a with
  | some o=>(match o.data with
   | .seq xs _=>(intOf ((xs[0]?).getD .none),intOf ((xs[1]?).getD .none))
   | _=>(0,0))
  | none=>(0,0))
 | _=>(0,0)
theorem z6k:CallR X (.builtin "sorted") (λxs H Q=>∃(p:Addr)(as:List V)(ts:List MT.Tie),xs=[.ref p]/\SqL X.K H p as/\TiesIn X.K H as ts/\ts.length<300/\
  ∀(l:Addr)(as':List V)(ts':List MT.Tie),H l=none->TiesIn X.K H as' ts'->ts'.Perm ts->ts'.Pairwise MT.tle->Q (.ref l) (upd H l (.lst as'))):=by
 intro pins s σ H xs us Q I r h
 obtain⟨p,as,ts,rfl,hq,hT,h64,q⟩:=h
 obtain⟨u,rfl,rx⟩:=vals1 r
 cases rx
 obtain⟨its,rv,pl,hz⟩:=I.list hq
 have l1:=rv.length
 have l2:=hT.len
 have at_:∀(i:Nat),i<its.length-> ∃a o n t u,its[i]? = some (.ref a)/\s.heap.get? a=some o/\o.cls= .type "tuple"/\o.data= .seq #[.int (ts.getD i (0,0)).1 t,.int (ts.getD i (0,0)).2 u] n:=λi hi=>by
  obtain⟨a,e,sq⟩:=hT.get i (by omega)
  obtain⟨o,n,t,u,h1,h2,h3⟩:=I.pair sq
  obtain⟨v,hv,rvv⟩:=rv.get e
  cases rvv
  exact⟨a,o,n,t,u,hv,h1,h2,h3⟩
 have mem:∀(i:Nat),i<its.length->ts.getD i (0,0)∈ts:=λi hi=>by
  have hi':i<ts.length:=by omega
  rw[List.getD_eq_getElem?_getD,List.getElem?_eq_getElem hi']
  exact List.getElem_mem hi'
 have rr:∀i,i<its.length->MT.rank ts (tieAt s.heap (its.getD i Value.none))=MT.rank ts (ts.getD i (0,0)):=λi hi=>by
  obtain⟨a,o,n,t,u,e1,e2,e3,e4⟩:=at_ i hi
  unfold tieAt
  rw[z1x e1]
  simp[e2,e4,intOf]
 refine MT.z6S (r:=λi=>MT.rank ts (tieAt s.heap (its.getD i Value.none))) (ρ:=λv=>MT.rank ts (tieAt s.heap v)) pl.isList (by lia) rfl (λh' kp h2=>?_) λpm hp hs=>?_
 ·have fsx:∃fs:List Value,fs.length=its.length/\ ∀(i:Nat),i<its.length-> ∃a o xs n t,its[i]? = some (.ref a)/\fs[i]? = some (.int (ts.getD i (0,0)).1 t)/\s.heap.get? a=some o/\o.cls= .type "tuple"/\o.data= .seq xs n/\xs[0]? = some (.int (ts.getD i (0,0)).1 t):=by
   refine⟨its.map λv=>match v with| .ref a=>(match s.heap.get? a with|some o=>(match o.data with| .seq xs _=>(xs[0]?).getD .none|_=>.none)|none=>.none)|_=>.none,by simp,λi hi=>?_⟩
   obtain⟨a,o,n,t,u,e1,e2,e3,e4⟩:=at_ i hi
   refine⟨a,o,_,n,t,e1,?_,e2,e3,e4,rfl⟩
   rw[List.getElem?_map,e1]
   simp[e2,e4]
  obtain⟨fs,lf,hf⟩:=fsx
  refine kat_kind (T:=.type "int") (fs:=fs) (z48 (ts:=ts) lf.symm λi hi=>?_) (by lia) (λv hv=>?_) rfl ⟨rfl,λi j C hi hj hC=>?_⟩
  ·obtain⟨a,o,xs,n,t,e1,e2,e3,e4,e5,e6⟩:=hf i hi
   exact⟨a,o,xs,n,_,e1,e2,kp _ _ e3,e4,e5,e6⟩
  ·obtain⟨i,hi,rfl⟩:=List.mem_iff_getElem.mp hv
   obtain⟨a,o,xs,n,t,e1,e2,_⟩:=hf i (by omega)
   rw[List.getElem?_eq_getElem hi]at e2
   rw[Option.some.inj e2]
   exact Looks.of_pure rfl
  ·obtain⟨a,oa,n,t,u,e1,e2,e3,e4⟩:=at_ i hi
   obtain⟨b,ob,m,t',u',f1,f2,f3,f4⟩:=at_ j hj
   unfold kas_ask
   rw[z1x e1,z1x f1]
   refine zBo (s:={s with heap:=h'}) (kp _ _ e2) e4 (kp _ _ f2) f4 ?_
   have z:MT.ltR (λi=>MT.rank ts (tieAt s.heap (its.getD i Value.none))) i j=decide (MT.tlt (ts.getD i (0,0)) (ts.getD j (0,0))):=by
    have z:=MT.z91 (mem i hi) (mem j hj)
    rw[<-rr i hi,<-rr j hj]at z
    exact z
   rw[z]at hC
   exact hC
 ·obtain⟨e,he⟩:=sortedAll_at s.heap its (pm.toList.map λi=>its.getD i Value.none).toArray
  have hsz:=hp.size
  have pl':∀i∈pm.toList,i<its.length:=λi hi=>by simpa using(hp.mem_iff).mp hi
  have ll:pm.toList.length=its.length:=by simpa using hsz
  have vals:∀(l:List Nat),(∀i∈l,i<its.length)->Vals (l.map λi=>as.getD i .non) (l.map λi=>its.getD i Value.none):=by
   intro l
   induction l with
   | nil=>intro _;exact .nil
   | cons i l ih=>
    intro hl
    refine .cons ?_ (ih λj hj=>hl j (List.mem_cons_of_mem _ hj))
    have hi:i<its.length:=hl i (by simp)
    have e1:as[i]? = some (as[i]'(by omega)):=List.getElem?_eq_getElem (by omega)
    obtain⟨v,hv,rvv⟩:=rv.get e1
    show RelV (as.getD i .non) (its.getD i Value.none)
    rw[z1x e1,z1x hv]
    exact rvv
  refine⟨.ref (s.heap.objs.size+1),_,I.laid (t':=s.toks) (λ_ _=>sortedAll_old) (Nat.le_succ _) (show ObjOk X.prog X.w _ _ _ (.lst (pm.toList.map λi=>as.getD i .non))from⟨by rw[List.length_map,ll,sizeLine_eq];lia,_,e,vals _ pl',he⟩),rfl,
   q _ _ (pm.toList.map λi=>ts.getD i (0,0)) (I.hok.fresh (Nat.le_succ _)) ?_ ?_ ?_⟩
  ·refine TiesIn.of (by simp) λi hi=>?_
   rw[List.length_map]at hi
   have hi':pm.toList[i]? = some (pm.toList[i]):=List.getElem?_eq_getElem hi
   obtain⟨a,ea,sq⟩:=hT.get pm.toList[i] (by have:=pl' _ (List.getElem_mem hi);lia)
   refine⟨a,?_,?_⟩
   ·rw[List.getElem?_map,hi',Option.map_some,z1x ea]
   ·have z:(pm.toList.map λi=>ts.getD i (0,0)).getD i (0,0)=ts.getD pm.toList[i] (0,0):=z1x (by rw[List.getElem?_map,hi'];rfl)
    rw[z];exact sq
  ·have z:(pm.toList.map λi=>ts.getD i (0,0)).Perm ((List.range its.length).map λi=>ts.getD i (0,0)):=hp.map _
   rw[show its.length=ts.length by lia,MT.z0Y]at z
   exact z
  ·rw[List.pairwise_map]
   rw[List.pairwise_iff_getElem]
   intro i j hi hj hij
   have h1:=hs i j (by lia) (by rw[<-ll];exact hj)
   unfold MT.rk at h1
   have g1:pm.getD i 0=pm.toList[i]:=by simp[Array.getD,show i<pm.size by simpa using hi]
   have g2:pm.getD j 0=pm.toList[j]:=by simp[Array.getD,show j<pm.size by simpa using hj]
   rw[g1,g2]at h1
   dsimp only at h1
   rw[rr _ (pl' _ (List.getElem_mem hi)),rr _ (pl' _ (List.getElem_mem hj))]at h1
   exact MT.zCX (mem _ (pl' _ (List.getElem_mem hi))) (mem _ (pl' _ (List.getElem_mem hj))) h1
end
end L2
namespace L2
open PySem PySem.Spec PyProof.Rows
structure Blt(mg:Str->Option Value):Prop where
 len:mg "len"=none
 range:mg "range"=none
 max:mg "max"=none
 min:mg "min"=none
 «sorted»:mg "sorted"=none
 list:mg "list"=none
 set:mg "set"=none
 all:mg "all"=none
 isinstance:mg "isinstance"=none
 int:mg "int"=none
 bool:mg "bool"=none
 abs:mg "abs"=none
abbrev EN:XK:=λ_ _ _=>False
theorem pass1{X:Cx}{P:Program}{w:World}:Passes (CX1 P w) X EN:=λ_ _ _ _ _ _ _ h=>by obtain⟨_,_,_,_,_,_,_,_,_,q⟩:=h;exact q.elim
section
variable{P:Program}{w:World}{K:PySem.W.Frag}{mg:Str->Option Value}{base:Heap}
theorem Fun.ok1{x qual:Str}{st:Stmt}{f:Addr}{fd:FuncData}{N ps:List Str}{k:Nat}{sp:Sp}(F:Fun K x qual st f fd)(S:FnScope N ps (defScope st))(len:∀vs H Q E,sp vs H Q E->vs.length=ps.length)
  (hbody:∀(cdv:Value)(A:Around)(outer:List Env)(s:Shared)(H:Hp)(vs:List V)(Q:VK)(E:XK),Room k (A.deeper (envOfC qual (defScope st) s.heap.objs.size f cdv))->sp vs H Q E->
   ∃t,PSs (cxOf (CX1 P w) P w K mg base N qual (defScope st) f cdv A outer s H E) (defBody st) t/\t {nx:=λ_ H'=>Q .non H',rt:=Q} (start N vs) H):FnOk P w K mg base (CX1 P w) (k+1) f fd ps sp:=by
 obtain⟨oc,od,kV,doc,pm,an,cdv,ct,osl,rfl,lk,hcd⟩:=F.ex
 exact zGq lk hcd S len λA outer s H vs Q E hr hsp=>hbody cdv A outer s H vs Q E hr hsp
end
theorem Same.mk1{H:Hp}{a:Addr}{o:HO}(h:H a=none):Same H (L2.upd H a o):=λb u e=>by rw[z0f (z0u e h)];exact e
end L2
namespace Ev
open PySem (Str)
inductive D where
 | non|bl (b:Bool)|int (i:Int)|str (s:Str)
 | lst (ds:List D)|tup (ds:List D)
 | tree (n:Int) (ts:List D)
 | scr (ns:List Int)
 | exc (c:Str)
inductive Cl where
 | fl|old|dp
 deriving DecidableEq
inductive Tag where
 | new|cl (c:Cl)|own (c:Cl)
 deriving DecidableEq
inductive Res where
 | ok (d:D) (t:Tag)
 | exc (c:Str)
structure Ent where
 d:D
 own:Bool
 c:Cl
abbrev Env:=List (Option Ent)
inductive R where
 | ok (d:D)|exc (c:Str)
structure Fn where
 m:List D->Option R
 fl:List Bool
abbrev FEnv:=Str->Option Fn
inductive Bop where|add|sub|mul|fdiv|mod|pow
inductive Cop where|eq|ne|lt|le|gt|ge|isin|notin
inductive Blt where|len|list|lset|sorted|abs|min|max|all|int|listrange1|listrange2|tuple
inductive Ty where|int|bool|list|tuple|cls (c:Str)
inductive Tg where|name (i:Nat)|tup (is:List Nat)
set_option genInjectivity false in
set_option genSizeOfSpec false in
inductive Ex where
 | var (i:Nat)|int (i:Int)|bl (b:Bool)|non|str (s:Str)|glob (x:Str)
 | neg (a:Ex)|not (a:Ex)
 | bin (op:Bop) (a b:Ex)
 | cmp (op:Cop) (a b:Ex)
 | chain2 (o p:Cop) (a b c:Ex)
 | chain3 (o p q:Cop) (a b c d:Ex)
 | isK (neg:Bool) (k:Option Bool) (a:Ex)
 | and (a b:Ex)|or (a b:Ex)|ifx (c a b:Ex)
 | ix (a b:Ex)
 | slice (a:Ex) (lo hi:Option Ex)
 | fld (a:Ex) (ties:Bool)
 | lst (es:List Ex)|tup (es:List Ex)
 | compL (ix:List (Option Nat)) (tg:Tg) (src:Ex) (test:Option Ex) (elt:Ex)
 | compR (ix:List (Option Nat)) (i:Nat) (lo hi:Ex) (test:Option Ex) (elt:Ex)
 | blt (b:Blt) (es:List Ex)
 | count (a b:Ex)
 | isinst (a:Ex) (t:Ty)
 | call (f:Str) (es:List Ex)
 | fstr (a x b:Str)
set_option genInjectivity false in
set_option genSizeOfSpec false in
inductive Sx where
 | asg (i:Nat) (mu:Bool) (e:Ex)
 | unp (is:List Nat) (e:Ex)
 | par (is:List Nat) (es:List Ex)
 | setix (i:Nat) (k e:Ex)
 | app (i:Nat) (e:Ex)|ins (i:Nat) (k e:Ex)
 | ext (i:Nat) (e:Ex)
 | expr (e:Ex)
 | ret (e:Ex)
 | ifs (t:Ex) (a b:List Sx)
 | forL (tg:Tg) (src:Ex) (body:List Sx)
 | forR (i:Nat) (lo hi:Ex) (body:List Sx)
 | while_ (t:Ex) (body:List Sx)
 | raise (c:Str) (e:Ex)
 | pass
mutual
def lf:D->Bool
 | .lst _=>false
 | .tree _ _=>false
 | .tup ds=>lfs ds
 | _=>true
def lfs:List D->Bool
 | []=>true
 | d::r=>lf d&&lfs r
end
def Cl.join:Cl->Cl->Cl
 | .fl,.fl=>.fl
 | .dp,_=>.dp
 | _,.dp=>.dp
 | _,_=>.old
def Tag.el:Tag->Tag
 | .new=>.new
 | .cl c=>.cl c
 | .own c=>.cl c
def Tag.join:Tag->Tag->Tag
 | .new,t=>t
 | t,.new=>t
 | .cl c,.cl d=>.cl (c.join d)
 | _,_=>.own .dp
def rt(d:D)(t:Tag):Tag:=if lf d then .new else t
def rts(ds:List D)(t:Tag):Tag:=if lfs ds then .new else t
def eqFn:D->Option Bool
 | .non=>some true
 | .bl _=>some false
 | .int _=>some false
 | _=>none
def eqFb(a:Bool):D->Option Bool
 | .bl b=>some (a==b)
 | .non=>some false
 | _=>none
def eqFi(a:Int):D->Option Bool
 | .int b=>some (a==b)
 | .non=>some false
 | _=>none
def eqF(x y:D):Option Bool:=match x with
 | .non=>eqFn y
 | .bl a=>eqFb a y
 | .int a=>eqFi a y
 | _=>none
@[simp] theorem eqF_ii(a b:Int):eqF (.int a) (.int b)=some (a==b):=rfl
@[simp] theorem eqF_bb(a b:Bool):eqF (.bl a) (.bl b)=some (a==b):=rfl
def lstD:D->Option (List D)
 | .lst ds=>some ds
 | _=>none
def tupD:D->Option (List D)
 | .tup ds=>some ds
 | _=>none
def unc:List D->Option (D×List D)
 | []=>none
 | a::r=>some (a,r)
def eqL(f:D->D->Option Bool):List D->List D->Option Bool
 | [],l=>if l.isEmpty then some true else none
 | a::r,l=>(unc l).bind λq=>(f a q.1).bind λx=>(eqL f r q.2).map λz=>x&&z
def eqStep(f:D->D->Option Bool)(x y:D):Option Bool:=match x with
 | .lst a=>(lstD y).bind λb=>if a.length=b.length then eqL f a b else some false
 | .tup a=>(tupD y).bind λb=>if a.length=b.length then eqL f a b else none
 | _=>eqF x y
def eqDn:Nat->D->D->Option Bool
 | 0=>eqF
 | n+1=>eqStep (eqDn n)
def eqD(x y:D):Option Bool:=eqDn 6 x y
def toInt:D->Option Int
 | .int i=>some i
 | _=>none
def toBl:D->Option Bool
 | .bl b=>some b
 | _=>none
def oneOf{α:Type}:List α->Option α
 | []=>none
 | a::r=>if r.isEmpty then some a else none
def twoOf{α:Type}:List α->Option (α×α)
 | []=>none
 | a::r=>(oneOf r).map λb=>(a,b)
def toTie:D->Option (Int×Int)
 | .tup l=>(twoOf l).bind λq=>(toInt q.1).bind λa=>(toInt q.2).map λb=>(a,b)
 | _=>none
def mapO{α:Type}(f:D->Option α):List D->Option (List α)
 | []=>some []
 | d::r=>(f d).bind λa=>(mapO f r).map λl=>a::l
def tieD(t:Int×Int):D:=.tup [.int t.1,.int t.2]
def insI(x:Int):List Int->List Int
 | []=>[x]
 | y::r=>if x<=y then x::y::r else y::insI x r
def isortI:List Int->List Int
 | []=>[]
 | x::r=>insI x (isortI r)
def tleB(a b:Int×Int):Bool:=decide (a.1<b.1)||(decide (a.1=b.1)&&decide (a.2<=b.2))
def tltB(a b:Int×Int):Bool:=decide (a.1<b.1)||(decide (a.1=b.1)&&decide (a.2<b.2))
def insT(x:Int×Int):List (Int×Int)->List (Int×Int)
 | []=>[x]
 | y::r=>if tleB x y then x::y::r else y::insT x r
def isortT:List (Int×Int)->List (Int×Int)
 | []=>[]
 | x::r=>insT x (isortT r)
def sortD(ds:List D):Option (List D):=
 if ds.length<64 then
  match mapO toInt ds with
  | some ns=>some ((isortI ns).map .int)
  | none=>match mapO toTie ds with
   | some ts=>some ((isortT ts).map tieD)
   | none=>none
 else if ds.length<300 then match mapO toTie ds with
   | some ts=>some ((isortT ts).map tieD)
   | none=>none
  else none
def addNew(l:List Int)(k:Int):List Int:=if l.any (· == k)then l else l++[k]
def dedup(ns:List Int):List Int:=ns.foldl addNew []
def distinct(ds:List D):Option Nat:=
 if ds.length<1000 then match mapO toInt ds with
  | some ns=>some (dedup ns).length
  | none=>none
 else none
def ixN(n:Nat)(i:Int):Option Nat:=if 0<=i then(if i<n then some i.toNat else none)else if -(n:Int)<=i then some (i+n).toNat else none
def atI{α:Type}(xs:List α)(i:Int):Option α:=(ixN xs.length i).bind λj=>xs[j]?
def sIx(n d:Nat):Option Int->Nat
 | none=>d
 | some i=>if i<0 then(i+n).toNat else min i.toNat n
def cut(xs:List D)(lo hi:Option Int):List D:=(xs.drop (sIx xs.length 0 lo)).take (sIx xs.length xs.length hi-sIx xs.length 0 lo)
def rangeD(lo:Int)(n:Nat):List D:=(List.range n).map λk:Nat=>D.int (lo+(k:Int))
def smallI(i:Int):Bool:=decide (-4611686018427387904<=i)&&decide (i<4611686018427387904)
def lim:Nat:=1000000
theorem iteN{c:Prop}[Decidable c]{α:Type}{o:Option α}{b:α}(h:(if c then o else none)=some b):c/\o=some b:=by
 by_cases hc:c
 ·rw[if_pos hc]at h;exact⟨hc,h⟩
 ·rw[if_neg hc]at h;cases h
theorem z1V{x:D}{i:Int}(h:toInt x=some i):x= .int i:=by
 cases x with
 | int j=>cases h;rfl
 | _=>cases h
def onZ(f:Int->Int->Option D)(x y:D):Option D:=(toInt x).bind λa=>(toInt y).bind λb=>f a b
def addD:D->D->Option D
 | .int a,.int b=>some (.int (a+b))
 | .lst a,.lst b=>if a.length+b.length<=lim then some (.lst (a++b))else none
 | _,_=>none
def mulD:D->D->Option D
 | .int a,.int b=>if(-18446744073709551616<a/\a<18446744073709551616)\/(-18446744073709551616<b/\b<18446744073709551616)then some (.int (a*b))else none
 | .lst a,.int b=>if 0<=b/\b<=1000/\a.length<=100 then some (.lst (List.replicate b.toNat a).flatten)else none
 | _,_=>none
def binD:Bop->D->D->Option D
 | .add,x,y=>addD x y
 | .sub,x,y=>onZ (λa b=>some (.int (a-b))) x y
 | .mul,x,y=>mulD x y
 | .fdiv,x,y=>onZ (λa b=>if 0<b/\b<1073741824 then some (.int (a/b))else none) x y
 | .mod,x,y=>onZ (λa b=>if 0<b then some (.int (a%b))else none) x y
 | .pow,x,y=>onZ (λa b=>if 0<=b/\b<=1000000/\a.natAbs<18446744073709551616 then some (.int (a^b.toNat))else none) x y
@[simp] theorem onZ_int(f:Int->Int->Option D)(a b:Int):onZ f (.int a) (.int b)=f a b:=rfl
@[simp] theorem addD_int(a b:Int):addD (.int a) (.int b)=some (.int (a+b)):=rfl
@[simp] theorem mulD_int(a b:Int):mulD (.int a) (.int b)=if(-18446744073709551616<a/\a<18446744073709551616)\/(-18446744073709551616<b/\b<18446744073709551616)then some (.int (a*b))else none:=rfl
theorem z5b{α:Type}{f:Int->Int->Option α}{x y:D}{d:α}(h:((toInt x).bind λa=>(toInt y).bind λb=>f a b)=some d):∃i j,x= .int i/\y= .int j/\f i j=some d:=by
 obtain⟨i,hi,h1⟩:=Option.bind_eq_some_iff.mp h
 obtain⟨j,hj,h2⟩:=Option.bind_eq_some_iff.mp h1
 exact⟨i,j,z1V hi,z1V hj,h2⟩
theorem z28{f:Int->Int->Option D}{x y d:D}(h:onZ f x y=some d):∃i j,x= .int i/\y= .int j/\f i j=some d:=z5b h
def flatD:D->Bool
 | .non=>true
 | .bl _=>true
 | .int _=>true
 | _=>false
def inD(x:D):List D->Option Bool
 | []=>some false
 | d::r=>(eqF d x).bind λa=>(inD x r).map λb=>a||b
def inG(x:D):List D->Option Bool
 | []=>some false
 | d::r=>(eqDn 5 d x).bind λa=>(inG x r).map λb=>a||b
def countD(x:D):List D->Option Nat
 | []=>some 0
 | d::r=>(eqF d x).bind λa=>(countD x r).map λb=>if a then b+1 else b
def onZB(f:Int->Int->Bool)(x y:D):Option Bool:=(toInt x).bind λa=>(toInt y).bind λb=>some (f a b)
def ltT(a b:D):Option Bool:=(toTie a).bind λx=>(toTie b).map λy=>tltB x y
def ltD:D->D->Option Bool
 | .int a,.int b=>some (decide (a<b))
 | a,b=>ltT a b
def isinD(x:D):D->Option Bool
 | .lst ds=>if flatD x then inD x ds else inG x ds
 | .tup ds=>if flatD x then inD x ds else none
 | _=>none
def cmpD:Cop->D->D->Option Bool
 | .eq,a,b=>eqD a b
 | .ne,a,b=>(eqD a b).map (!·)
 | .lt,a,b=>ltD a b
 | .le,a,b=>onZB (λa b=>decide (a<=b)) a b
 | .gt,a,b=>onZB (λa b=>decide (b<a)) a b
 | .ge,a,b=>onZB (λa b=>decide (b<=a)) a b
 | .isin,x,y=>isinD x y
 | .notin,x,y=>(isinD x y).map (!·)
@[simp] theorem onZB_int(f:Int->Int->Bool)(a b:Int):onZB f (.int a) (.int b)=some (f a b):=rfl
@[simp] theorem ltD_int(a b:Int):ltD (.int a) (.int b)=some (decide (a<b)):=rfl
theorem z5c{f:Int->Int->Bool}{x y:D}{b:Bool}(h:onZB f x y=some b):∃i j,x= .int i/\y= .int j/\b=f i j:=by
 obtain⟨i,j,h1,h2,h3⟩:=z5b (f:=λa b=>some (f a b)) h
 exact⟨i,j,h1,h2,(Option.some.inj h3).symm⟩
theorem z92{x y:D}{b:Bool}(h:isinD x y=some b):(∃ds,(y= .lst ds\/y= .tup ds)/\flatD x=true/\inD x ds=some b)\/ ∃ds,y= .lst ds/\inG x ds=some b:=by
 cases y with
 | lst ds=>
  by_cases hf:flatD x=true
  ·exact .inl ⟨ds,.inl rfl,hf,(if_pos hf).symm.trans h⟩
  ·exact .inr ⟨ds,rfl,(if_neg hf).symm.trans h⟩
 | tup ds=>obtain⟨h1,h2⟩:=iteN h;exact .inl ⟨ds,.inr rfl,h1,h2⟩
 | _=>cases h
theorem z7G{x:D}:∀{ds:List D}{b:Bool},inG x ds=some b->(∀d∈ds,∃a,eqDn 5 d x=some a)/\(b=true↔ ∃d∈ds,eqDn 5 d x=some true)
 | [],b,h=>by cases h;exact⟨λ_ h=>absurd h List.not_mem_nil,Iff.intro (λh=>Bool.noConfusion h) (λ⟨_,h,_⟩=>absurd h List.not_mem_nil)⟩
 | d::r,b,h=>by
  obtain⟨p,hp,h0⟩:=Option.bind_eq_some_iff.mp h
  obtain⟨q,hq,e⟩:=Option.map_eq_some_iff.mp h0
  obtain⟨k1,k2⟩:=z7G hq
  refine⟨λy hy=>(List.mem_cons.mp hy).elim (λz=>⟨p,by rw[z];exact hp⟩) (k1 y),?_⟩
  rw[<-e,Bool.or_eq_true,k2]
  constructor
  ·rintro(z|⟨y,hy,z⟩)
   ·exact⟨d,List.mem_cons_self,by rw[hp,z]⟩
   ·exact⟨y,List.mem_cons_of_mem _ hy,z⟩
  ·rintro⟨y,hy,z⟩
   rcases List.mem_cons.mp hy with w|w
   ·rw[w,hp]at z;exact .inl (Option.some.inj z)
   ·exact .inr ⟨y,w,z⟩
def ixS(i:Int):D->Option D
 | .lst ds=>atI ds i
 | .tup ds=>atI ds i
 | .scr ns=>(atI ns i).map .int
 | _=>none
def ixD(x y:D):Option D:=(toInt y).bind λi=>ixS i x
def lenD:D->Option D
 | .lst ds=>some (.int ds.length)
 | .tup ds=>some (.int ds.length)
 | .scr ns=>some (.int ns.length)
 | _=>none
def on1(f:D->Option D):List D->Option D
 | [x]=>f x
 | _=>none
def on2(f:D->D->Option D):List D->Option D
 | [x,y]=>f x y
 | _=>none
def onL(f:List D->Option D):D->Option D
 | .lst ds=>f ds
 | _=>none
def onI(f:Int->Option D)(x:D):Option D:=(toInt x).bind f
def intD:D->Option D
 | .bl b=>some (.int (if b then 1 else 0))
 | .int i=>some (.int i)
 | _=>none
def bltD:Blt->List D->Option D
 | .len,l=>on1 lenD l
 | .list,l=>on1 (onL λds=>some (.lst ds)) l
 | .lset,l=>on1 (onL λds=>(distinct ds).map λn=>.int n) l
 | .sorted,l=>on1 (onL λds=>(sortD ds).map .lst) l
 | .abs,l=>on1 (onI λi=>some (.int (if i<0 then -i else i))) l
 | .min,l=>on2 (onZ λi j=>some (.int (if j<i then j else i))) l
 | .max,l=>on2 (onZ λi j=>some (.int (if j>i then j else i))) l
 | .all,l=>on1 (onL λds=>(mapO toBl ds).map λbs=>.bl (bs.all λb=>b)) l
 | .int,l=>on1 intD l
 | .listrange1,l=>on1 (onI λj=>if smallI j/\j<=1000 then some (.lst (rangeD 0 j.toNat))else none) l
 | .listrange2,l=>on2 (onZ λi j=>if smallI i/\smallI j/\j-i<=1000 then some (.lst (rangeD i (j-i).toNat))else none) l
 | .tuple,l=>on1 (onL λds=>(mapO toInt ds).map λns=>.tup (ns.map .int)) l
theorem z1W{f:D->Option D}{l:List D}{d:D}(h:on1 f l=some d):∃x,l=[x]/\f x=some d:=by
 match l,h with
 | [x],h=>exact⟨x,rfl,h⟩
theorem z6T{f:D->D->Option D}{l:List D}{d:D}(h:on2 f l=some d):∃x y,l=[x,y]/\f x y=some d:=by
 match l,h with
 | [x,y],h=>exact⟨x,y,rfl,h⟩
theorem z3P{f:List D->Option D}{x d:D}(h:onL f x=some d):∃ds,x= .lst ds/\f ds=some d:=by
 cases x with
 | lst ds=>exact⟨ds,rfl,h⟩
 | _=>cases h
theorem z93{f:Int->Option D}{x d:D}(h:onI f x=some d):∃i,x= .int i/\f i=some d:=by
 obtain⟨i,hi,h1⟩:=Option.bind_eq_some_iff.mp h
 exact⟨i,z1V hi,h1⟩
def tyI:D->Option Bool
 | .int _=>some true
 | .bl _=>some true
 | .non=>some false
 | .lst _=>some false
 | _=>none
def tyB:D->Option Bool
 | .bl _=>some true
 | .int _=>some false
 | .lst _=>some false
 | .non=>some false
 | _=>none
def tyL:D->Option Bool
 | .lst _=>some true
 | .bl _=>some false
 | .int _=>some false
 | .non=>some false
 | .tup _=>some false
 | _=>none
def tyT:D->Option Bool
 | .tup _=>some true
 | .lst _=>some false
 | _=>none
def tyX(sub:Str->Str->Option Bool)(x:Str):D->Option Bool
 | .exc c=>sub c x
 | _=>none
def tyD(sub:Str->Str->Option Bool)(d:D):Ty->Option Bool
 | .int=>tyI d
 | .bool=>tyB d
 | .list=>tyL d
 | .tuple=>tyT d
 | .cls x=>tyX sub x d
def isNoneD:D->Option Bool
 | .non=>some true
 | .int _=>some false
 | .lst _=>some false
 | _=>none
def isKD(k:Option Bool)(d:D):Option Bool:=match k with
 | none=>isNoneD d
 | some c=>(toBl d).map λb=>b==c
structure Wd where
 F:FEnv
 glob:Str->Option Int
 sub:Str->Str->Option Bool
 exn:Str->Bool
inductive Ress where
 | ok (ds:List D) (t:List Tag)
 | exc (c:Str)
def bindR(r:Option Res)(k:D->Tag->Option Res):Option Res:=match r with
 | none=>none
 | some (.exc c)=>some (.exc c)
 | some (.ok d t)=>k d t
def bindI(o:Option (Option Res))(k:Option Int->Option Res):Option Res:=match o with
 | none=>k none
 | some r=>bindR r λx _=>match x with
  | .int i=>k (some i)
  | _=>none
def blR(o:Option Bool):Option Res:=match o with
 | none=>none
 | some b=>some (.ok (.bl b) .new)
def keep(d:D)(t:Tag):Option Tag:=match rt d t with
 | .own _=>none
 | .cl .dp=>none
 | u=>some u
def entOf(d:D):Tag->Ent
 | .new=>⟨d,false,.fl⟩
 | .cl c=>⟨d,false,c⟩
 | .own c=>⟨d,false,c⟩
def bind2(ρ:Env)(t:Tag)(i j:Nat):D->Option Env
 | .tup ds=>match ds with
  | [a,b]=>some ((ρ.set i (some (entOf a t))).set j (some (entOf b t)))
  | _=>none
 | _=>none
def bindT0(ρ:Env)(t:Tag)(tg:Tg)(d:D):Option Env:=match tg with
 | .name i=>some (ρ.set i (some (entOf d t)))
 | .tup is=>match is with
  | [i,j]=>bind2 ρ t i j d
  | _=>none
def bindT(ρ:Env)(t:Tag)(tg:Tg)(d:D):Option Env:=match t with
 | .cl .dp=>none
 | .own .dp=>none
 | _=>bindT0 ρ t tg d
def compGo(bd:D->Option Env)(tst:Env->Option Res)(el:Env->Option Res):List D->Option (List D×Tag)
 | []=>some ([],.new)
 | d::r=>match bd d with
  | none=>none
  | some ρ=>match tst ρ with
   | some (.ok (.bl true) _)=>match el ρ,compGo bd tst el r with
    | some (.ok x t),some (xs,u)=>match keep x t with
     | some t'=>some (x::xs,t'.join u)
     | none=>none
    | _,_=>none
   | some (.ok (.bl false) _)=>compGo bd tst el r
   | _=>none
def compR(o:Option (List D×Tag)):Option Res:=match o with
 | some (ds,t)=>some (.ok (.lst ds) t)
 | none=>none
def onR(f:Int->Int->Option Res)(x y:D):Option Res:=(toInt x).bind λa=>(toInt y).bind λb=>f a b
def on1R(f:D->Option Res):List D->Option Res
 | []=>none
 | x::r=>if r.isEmpty then f x else none
def on2R(f:D->D->Option Res):List D->Option Res
 | []=>none
 | x::r=>on1R (f x) r
theorem z7H{f:D->Option Res}{l:List D}{d:Res}(h:on1R f l=some d):∃x,l=[x]/\f x=some d:=by
 cases l with
 | nil=>cases h
 | cons x r=>
  obtain⟨hr,h1⟩:=iteN h
  exact⟨x,by rw[List.isEmpty_iff.mp hr],h1⟩
theorem zBp{f:D->D->Option Res}{l:List D}{d:Res}(h:on2R f l=some d):∃x y,l=[x,y]/\f x y=some d:=by
 cases l with
 | nil=>cases h
 | cons x r=>
  obtain⟨y,hr,h1⟩:=z7H h
  exact⟨x,y,by rw[hr],h1⟩
def stIn(ix:List (Option Nat))(ρ:Env):Env:=ix.map λo=>match o with|some i=>(ρ[i]?).getD none|none=>none
def noFlow:Tag->Bool
 | .new=>false
 | .cl c=>decide (c= .dp)
 | .own _=>true
def flowTag:List Bool->List Tag->Option Tag
 | [],_=>some .new
 | f::r,ts=>match ts with
  | []=>some .new
  | t::s=>if f then(if noFlow t then none else(flowTag r s).map t.join)else flowTag r s
def callR(fn:Fn)(ds:List D)(ts:List Tag):Option Res:=match fn.m ds with
 | none=>none
 | some (.exc c)=>some (.exc c)
 | some (.ok d)=>match flowTag fn.fl ts with
  | some t=>some (.ok d (rt d t))
  | none=>none
def joinAll:List Tag->Option Tag
 | []=>some .new
 | .own _::_=>none
 | .cl .dp::_=>none
 | t::ts=>match joinAll ts with
  | some u=>some (t.join u)
  | none=>none
def tagL(d:D)(ts:List Tag):Tag:=match d with
 | .lst xs=>rts xs (match ts with|[t]=>t.el|_=>.new)
 | _=>.new
def disown(o:Option Ent):Option Ent:=match o with
 | some e=>match e.c with
  | .dp=>none
  | c=>some ⟨e.d,false,c⟩
 | none=>none
def disownAll(ρ:Env):Env:=ρ.map disown
mutual
def evE(W:Wd)(ρ:Env):Ex->Option Res
 | .var i=>match ρ[i]? with
  | some (some e)=>if e.own then(match e.d with
   | .lst _=>some (.ok e.d (.own e.c))
   | _=>none
   )else some (.ok e.d (rt e.d (.cl e.c)))
  | _=>none
 | .int i=>some (.ok (.int i) .new)
 | .bl b=>some (.ok (.bl b) .new)
 | .non=>some (.ok .non .new)
 | .str s=>some (.ok (.str s) .new)
 | .glob x=>match W.glob x with
  | some i=>some (.ok (.int i) .new)
  | none=>none
 | .neg a=>bindR (evE W ρ a) λx _=>match x with
  | .int i=>some (.ok (.int (-i)) .new)
  | _=>none
 | .not a=>bindR (evE W ρ a) λx _=>match x with
  | .bl b=>some (.ok (.bl (!b)) .new)
  | _=>none
 | .bin op a b=>bindR (evE W ρ a) λx t=>bindR (evE W ρ b) λy u=>match binD op x y with
  | none=>none
  | some d=>match d with
   | .lst ds=>some (.ok d (rts ds (t.el.join u.el)))
   | _=>some (.ok d .new)
 | .cmp op a b=>bindR (evE W ρ a) λx _=>bindR (evE W ρ b) λy _=>blR (cmpD op x y)
 | .chain2 o p a b c=>bindR (evE W ρ a) λx _=>bindR (evE W ρ b) λy _=>match cmpD o x y with
  | some true=>bindR (evE W ρ c) λz _=>blR (cmpD p y z)
  | some false=>some (.ok (.bl false) .new)
  | none=>none
 | .chain3 o p q a b c d=>bindR (evE W ρ a) λx _=>bindR (evE W ρ b) λy _=>match cmpD o x y with
  | some true=>bindR (evE W ρ c) λz _=>match cmpD p y z with
   | some true=>bindR (evE W ρ d) λv _=>blR (cmpD q z v)
   | some false=>some (.ok (.bl false) .new)
   | none=>none
  | some false=>some (.ok (.bl false) .new)
  | none=>none
 | .isK ng k a=>bindR (evE W ρ a) λx _=>match isKD k x with
  | some b=>some (.ok (.bl (b != ng)) .new)
  | none=>none
 | .and a b=>bindR (evE W ρ a) λx _=>match x with
  | .bl true=>evE W ρ b
  | .bl false=>some (.ok (.bl false) .new)
  | _=>none
 | .or a b=>bindR (evE W ρ a) λx _=>match x with
  | .bl false=>evE W ρ b
  | .bl true=>some (.ok (.bl true) .new)
  | _=>none
 | .ifx c a b=>bindR (evE W ρ c) λx _=>match x with
  | .bl true=>evE W ρ a
  | .bl false=>evE W ρ b
  | _=>none
 | .ix a b=>bindR (evE W ρ a) λx t=>bindR (evE W ρ b) λy _=>match ixD x y with
  | some d=>some (.ok d (rt d t.el))
  | none=>none
 | .slice a lo hi=>bindR (evE W ρ a) λx t=>match x with
  | .lst ds=>bindI (match lo with|some e=>some (evE W ρ e)|none=>none) λl=>bindI (match hi with|some e=>some (evE W ρ e)|none=>none) λh=>some (.ok (.lst (cut ds l h)) (rts (cut ds l h) t.el))
  | _=>none
 | .fld a tf=>bindR (evE W ρ a) λx t=>match x,tf with
  | .tree n _,false=>some (.ok (.int n) .new)
  | .tree _ ts,true=>some (.ok (.lst ts) t.el)
  | _,_=>none
 | .lst es=>match evEs W ρ es with
  | some (.ok ds ts)=>(match joinAll ts with
   | some u=>if ds.length<=1000 then some (.ok (.lst ds) (rts ds u))else none
   | none=>none)
  | some (.exc c)=>some (.exc c)
  | none=>none
 | .tup es=>match evEs W ρ es with
  | some (.ok ds ts)=>(match joinAll ts with
   | some u=>if ds.length<=1000 then some (.ok (.tup ds) (rts ds u))else none
   | none=>none)
  | some (.exc c)=>some (.exc c)
  | none=>none
 | .compL ix tg src tst el=>bindR (evE W ρ src) λx t=>match x with
  | .lst ds=>compR (compGo (bindT (stIn ix ρ) t.el tg) (λρ'=>match tst with|some e=>evE W ρ' e|none=>some (.ok (.bl true) .new)) (λρ'=>evE W ρ' el) ds)
  | _=>none
 | .compR ix i lo hi tst el=>bindR (evE W ρ lo) λx _=>bindR (evE W ρ hi) λy _=>onR (λa b=>if smallI a/\smallI b/\b-a<=1000 then
    compR (compGo (bindT (stIn ix ρ) .new (.name i)) (λρ'=>match tst with|some e=>evE W ρ' e|none=>some (.ok (.bl true) .new)) (λρ'=>evE W ρ' el) (rangeD a (b-a).toNat))
   else none) x y
 | .blt b es=>match evEs W ρ es with
  | some (.ok ds ts)=>(match bltD b ds with
   | some d=>some (.ok d (tagL d ts))
   | none=>none)
  | some (.exc c)=>some (.exc c)
  | none=>none
 | .count a b=>bindR (evE W ρ a) λx _=>match x with
  | .lst ds=>bindR (evE W ρ b) λy _=>if flatD y then(match countD y ds with
   | some n=>some (.ok (.int n) .new)
   | none=>none)else none
  | _=>none
 | .isinst a ty=>bindR (evE W ρ a) λx _=>blR (tyD W.sub x ty)
 | .call f es=>match W.F f with
  | some fn=>(match evEs W ρ es with
   | some (.ok ds ts)=>callR fn ds ts
   | some (.exc c)=>some (.exc c)
   | none=>none)
  | none=>none
 | .fstr a x b=>match W.glob x with
  | some i=>if i.natAbs<1000000/\(((Str.empty++a)++(toString i:String))++b).length<=100000/\((Str.empty++a)++(toString i:String)).length<=100000/\(Str.empty++a).length<=100000 then some (.ok (.str (((Str.empty++a)++(toString i:String))++b)) .new)else none
  | none=>none
def evEs(W:Wd)(ρ:Env):List Ex->Option Ress
 | []=>some (.ok [] [])
 | e::r=>match evE W ρ e with
  | some (.ok d t)=>(match evEs W ρ r with
   | some (.ok ds ts)=>some (.ok (d::ds) (t::ts))
   | some (.exc c)=>some (.exc c)
   | none=>none)
  | some (.exc c)=>some (.exc c)
  | none=>none
end
def tagB(d:D)(t u:Tag):Tag:=match d with
 | .lst ds=>rts ds (t.el.join u.el)
 | _=>.new
def runT(W:Wd)(ρ:Env)(tst:Option Ex):Option Res:=match tst with
 | some e=>evE W ρ e
 | none=>some (.ok (.bl true) .new)
set_option smartUnfolding false in
theorem E_cL{W:Wd}{ρ:Env}{ix:List (Option Nat)}{tg:Tg}{src el:Ex}{tst:Option Ex}:evE W ρ (.compL ix tg src tst el)=bindR (evE W ρ src) λx t=>match x with
  | .lst ds=>compR (compGo (bindT (stIn ix ρ) t.el tg) (λρ'=>runT W ρ' tst) (λρ'=>evE W ρ' el) ds)
  | _=>none:=by cases tst<;>exact rfl
set_option smartUnfolding false in
theorem E_cR{W:Wd}{ρ:Env}{ix:List (Option Nat)}{i:Nat}{lo hi el:Ex}{tst:Option Ex}:evE W ρ (.compR ix i lo hi tst el)=bindR (evE W ρ lo) λx _=>bindR (evE W ρ hi) λy _=>onR (λa b=>if smallI a/\smallI b/\b-a<=1000 then
    compR (compGo (bindT (stIn ix ρ) .new (.name i)) (λρ'=>runT W ρ' tst) (λρ'=>evE W ρ' el) (rangeD a (b-a).toNat))
   else none) x y:=by cases tst<;>exact rfl
def opE(W:Wd)(ρ:Env)(o:Option Ex):Option (Option Res):=match o with
 | some e=>some (evE W ρ e)
 | none=>none
set_option smartUnfolding false in
theorem E_sl{W:Wd}{ρ:Env}{a:Ex}{lo hi:Option Ex}:evE W ρ (.slice a lo hi)=bindR (evE W ρ a) λx t=>match x with
  | .lst ds=>bindI (opE W ρ lo) λl=>bindI (opE W ρ hi) λh=>some (.ok (.lst (cut ds l h)) (rts (cut ds l h) t.el))
  | _=>none:=by cases lo<;>cases hi<;>exact rfl
theorem Es_c{W:Wd}{ρ:Env}{e:Ex}{r:List Ex}:evEs W ρ (e::r)=(match evE W ρ e with
  | some (.ok d t)=>(match evEs W ρ r with
   | some (.ok ds ts)=>some (.ok (d::ds) (t::ts))
   | some (.exc c)=>some (.exc c)
   | none=>none)
  | some (.exc c)=>some (.exc c)
  | none=>none):=rfl
end Ev
namespace Ev
open PySem (Str)
inductive Out where
 | nx (ρ:Env)
 | rt (d:D) (t:Tag)
 | exc (c:Str)
def loose2:List D->Option (List D×Nat)
 | []=>none
 | a::r=>(lstD a).bind λds=>match r with
  | []=>none
  | b::_=>(toInt b).bind λn=>if 0<=n then some (ds,n.toNat)else none
def looseOf:D->Option (List D×Nat)
 | .lst ds=>some (ds,0)
 | .tup l=>loose2 l
 | _=>none
def tagC0(c:Cl):Tag->Option Cl
 | .new=>some c
 | .cl .dp=>none
 | .cl d=>some (c.join d)
 | .own _=>none
def tagC(c:Cl)(t:Tag):Option Cl:=match c with
 | .dp=>none
 | c=>tagC0 c t
def setAll(ρ:Env):List Nat->List D->Tag->Option Env
 | [],[],_=>some ρ
 | i::is,d::ds,t=>setAll (ρ.set i (some (entOf d t))) is ds t
 | _,_,_=>none
def setEach(ρ:Env):List Nat->List D->List Tag->Option Env
 | [],[],[]=>some ρ
 | i::is,d::ds,t::ts=>match keep d t with
  | some t'=>setEach (ρ.set i (some (entOf d t'))) is ds ts
  | none=>none
 | _,_,_=>none
def forGo(body:Env->Option Out)(bd:Env->D->Option Env):List D->Env->Option Out
 | [],ρ=>some (.nx ρ)
 | d::r,ρ=>match bd ρ d with
  | none=>none
  | some ρ1=>match body ρ1 with
   | some (.nx ρ2)=>forGo body bd r ρ2
   | some (.rt d t)=>some (.rt d t)
   | _=>none
def whGo(t:Env->Option Res)(body:Env->Option Out):Nat->Env->Option Out
 | 0,_=>none
 | n+1,ρ=>match t ρ with
  | some (.ok (.bl true) _)=>match body ρ with
   | some (.nx ρ2)=>whGo t body n ρ2
   | some (.rt d t)=>some (.rt d t)
   | _=>none
  | some (.ok (.bl false) _)=>some (.nx ρ)
  | _=>none
def bindO(r:Option Res)(k:D->Tag->Option Out):Option Out:=match r with
 | none=>none
 | some (.exc c)=>some (.exc c)
 | some (.ok d t)=>k d t
def bindS(r:Option Out)(k:Env->Option Out):Option Out:=match r with
 | some (.nx ρ)=>k ρ
 | o=>o
mutual
def evS(W:Wd)(ρ:Env):Sx->Option Out
 | .asg i mu e=>bindO (evE W ρ e) λd t=>match t with
  | .new=>match d with
   | .lst ds=>some (.nx (ρ.set i (some ⟨.lst ds,mu&&lfs ds,.fl⟩)))
   | _=>some (.nx (ρ.set i (some ⟨d,false,.fl⟩)))
  | .cl c=>match c with
   | .dp=>none
   | c=>some (.nx (ρ.set i (some ⟨d,false,c⟩)))
  | .own c=>match c with
   | .dp=>none
   | c=>some (.nx ((disownAll ρ).set i (some ⟨d,false,c⟩)))
 | .unp is e=>bindO (evE W ρ e) λd t=>match d with
  | .tup ds=>match t with
   | .own _=>none
   | .cl .dp=>none
   | t=>match setAll ρ is ds t with
    | some ρ1=>some (.nx ρ1)
    | none=>none
  | _=>none
 | .par is es=>match evEs W ρ es with
  | some (.ok ds ts)=>match setEach ρ is ds ts with
   | some ρ1=>some (.nx ρ1)
   | none=>none
  | some (.exc c)=>some (.exc c)
  | none=>none
 | .setix i k e=>bindO (evE W ρ e) λd t=>match ρ[i]? with
  | some (some ⟨.lst ds,true,c⟩)=>bindO (evE W ρ k) λj _=>match j with
   | .int n=>match ixN ds.length n,tagC c (Ev.rt d t)with
    | some m,some c'=>some (.nx (ρ.set i (some ⟨.lst (ds.set m d),true,c'⟩)))
    | _,_=>none
   | _=>none
  | _=>none
 | .app i e=>match ρ[i]? with
  | some (some ⟨.lst ds,true,c⟩)=>bindO (evE W ρ e) λd t=>match tagC c (Ev.rt d t)with
   | some c'=>if ds.length<lim then some (.nx (ρ.set i (some ⟨.lst (ds++[d]),true,c'⟩)))else none
   | none=>none
  | _=>none
 | .ext i e=>match ρ[i]? with
  | some (some ⟨.lst ds,true,c⟩)=>bindO (evE W ρ e) λd t=>match d with
   | .lst xs=>match tagC c (rts xs t.el)with
    | some c'=>if ds.length+xs.length<=lim then some (.nx (ρ.set i (some ⟨.lst (ds++xs),true,c'⟩)))else none
    | none=>none
   | _=>none
  | _=>none
 | .ins i k e=>match ρ[i]? with
  | some (some ⟨.lst ds,true,c⟩)=>bindO (evE W ρ k) λj _=>bindO (evE W ρ e) λd t=>match j with
   | .int n=>match tagC c (Ev.rt d t)with
    | some c'=>if 0<=n/\n<=(ds.length:Int)/\ds.length<lim then some (.nx (ρ.set i (some ⟨.lst (ds.take n.toNat++d::ds.drop n.toNat),true,c'⟩)))else none
    | none=>none
   | _=>none
  | _=>none
 | .expr e=>bindO (evE W ρ e) λ_ _=>some (.nx ρ)
 | .ret e=>bindO (evE W (disownAll ρ) e) λd t=>some (.rt d (Ev.rt d t))
 | .ifs t a b=>bindO (evE W ρ t) λd _=>match d with
  | .bl true=>evSs W ρ a
  | .bl false=>evSs W ρ b
  | _=>none
 | .forL tg src body=>match evE W ρ src with
  | some (.ok (.lst ds) t)=>if t.el= .cl .dp then none else forGo (λρ'=>evSs W ρ' body) (λρ' x=>bindT ρ' t.el tg x) ds (match t with| .own _=>disownAll ρ|_=>ρ)
  | _=>none
 | .forR i lo hi body=>match evE W ρ lo,evE W ρ hi with
  | some (.ok (.int a) _),some (.ok (.int b) _)=>if smallI a/\smallI b then forGo (λρ'=>evSs W ρ' body) (λρ' x=>bindT ρ' .new (.name i) x) (rangeD a (b-a).toNat) ρ else none
  | _,_=>none
 | .while_ t body=>whGo (λρ'=>evE W ρ' t) (λρ'=>evSs W ρ' body) 64 ρ
 | .raise c e=>if W.exn c then bindO (evE W ρ e) λ_ _=>some (.exc c)else none
 | .pass=>some (.nx ρ)
def evSs(W:Wd)(ρ:Env):List Sx->Option Out
 | []=>some (.nx ρ)
 | s::r=>bindS (evS W ρ s) λρ1=>evSs W ρ1 r
end
def entsOf:List Bool->List D->Env
 | f::fs,d::ds=>some ⟨d,false,if f then .fl else .old⟩::entsOf fs ds
 | [],d::ds=>some ⟨d,false,.old⟩::entsOf [] ds
 | _,[]=>[]
def endR:Option Out->Option R
 | some (.nx _)=>some (.ok .non)
 | some (.rt d t)=>match t with
  | .new=>some (.ok d)
  | .cl .fl=>some (.ok d)
  | _=>none
 | some (.exc c)=>some (.exc c)
 | none=>none
def evFn(W:Wd)(n:Nat)(fl:List Bool)(body:List Sx)(ds:List D):Option R:=
 endR (evSs W (entsOf fl ds++List.replicate (n-ds.length) none) body)
open PySem in
def kindIn(sc:List (Str×NameKind))(x:Str):Option NameKind:=sc.lookup x
def okName(x:Str):Bool:=!(x==("__debug__":Str))&&(!(x==("__classdict__":Str))&& !(decide (x=("__name__":Str))))
open PySem in
def isVis(sc:List (Str×NameKind))(x:Str):Bool:=okName x&&match kindIn sc x with
 | some .local=>true
 | some .cell=>true
 | some .free=>true
 | _=>false
open PySem in
def isLoc(sc:List (Str×NameKind))(x:Str):Bool:=match kindIn sc x with
 | some .local=>true
 | some .cell=>true
 | _=>false
open PySem in
def isGl(sc:List (Str×NameKind))(x:Str):Bool:=okName x&&match kindIn sc x with
 | some .globalImplicit=>true
 | _=>false
def slot:List Str->Str->Option Nat
 | [],_=>none
 | y::r,x=>if y=x then some 0 else(slot r x).map (· + 1)
def trs{α β:Type}(f:α->Option β):List α->Option (List β)
 | []=>some []
 | a::r=>match f a,trs f r with
  | some b,some l=>some (b::l)
  | _,_=>none
open PySem in
def trOp:Operator->Option Bop
 | .Add=>some .add
 | .Sub=>some .sub
 | .Mult=>some .mul
 | .FloorDiv=>some .fdiv
 | .Mod=>some .mod
 | .Pow=>some .pow
 | _=>none
open PySem in
def trC:CmpOp->Option Cop
 | .Eq=>some .eq
 | .NotEq=>some .ne
 | .Lt=>some .lt
 | .LtE=>some .le
 | .Gt=>some .gt
 | .GtE=>some .ge
 | .In=>some .isin
 | .NotIn=>some .notin
 | _=>none
def trB(x:Str):Option Blt:=
 if x="len" then some .len else if x="list" then some .list else if x="sorted" then some .sorted else if x="abs" then some .abs else if x="min" then some .min
 else if x="max" then some .max else if x="all" then some .all else if x="tuple" then some .tuple else if x="int" then some .int else none
def trTyO(x:Str):Option Ty:=none
def trTyB(x:Str):Option Ty:=if x="int" then some .int else if x="bool" then some .bool else if x="list" then some .list else if x="tuple" then some .tuple else trTyO x
def inNames(scope:List (Str×PySem.NameKind)):List Str:=(scope.filter λp=>match p.2 with| .local=>true| .free=>true|_=>false).map (·.1)
def inIx(N:List Str)(scope:List (Str×PySem.NameKind))(N':List Str):List (Option Nat):=N'.map λx=>match kindIn scope x with|some .free=>slot N x|_=>none
def nodupB:List Str->Bool
 | []=>true
 | x::r=>!(r.contains x)&&nodupB r
def okBlock(sc scope:List (Str×PySem.NameKind)):Bool:=
 scope.all λp=>match p.2 with
  | .cell=>false
  | .local=>match kindIn scope p.1 with|some .local=>true|_=>false
  | .free=>match kindIn sc p.1,kindIn scope p.1 with|some .cell,some .free=>true|some .free,some .free=>true|_,_=>false
  | .globalImplicit=>true
  | _=>false
theorem lcons{α:Type}{l:List α}{n:Nat}(h:l.length=n+1):∃a r,l=a::r/\r.length=n:=by
 cases l with
 | nil=>cases h
 | cons a r=>exact⟨a,r,rfl,Nat.succ.inj h⟩
theorem lnil{α:Type}{l:List α}(h:l.length=0):l=[]:=List.length_eq_zero_iff.mp h
theorem len1{α:Type}{l:List α}(h:l.length=1):∃a,l=[a]:=by
 obtain⟨a,r,rfl,h1⟩:=lcons h
 cases lnil h1
 exact⟨a,rfl⟩
theorem len2{α:Type}{l:List α}(h:l.length=2):∃a b,l=[a,b]:=by
 obtain⟨a,r,rfl,h1⟩:=lcons h
 obtain⟨b,rfl⟩:=len1 h1
 exact⟨a,b,rfl⟩
theorem len3{α:Type}{l:List α}(h:l.length=3):∃a b c,l=[a,b,c]:=by
 obtain⟨a,r,rfl,h1⟩:=lcons h
 obtain⟨b,c,rfl⟩:=len2 h1
 exact⟨a,b,c,rfl⟩
theorem len4{α:Type}{l:List α}(h:l.length=4):∃a b c d,l=[a,b,c,d]:=by
 obtain⟨a,r,rfl,h1⟩:=lcons h
 obtain⟨b,c,d,rfl⟩:=len3 h1
 exact⟨a,b,c,d,rfl⟩
theorem bndI{α β:Type}{o:Option α}{f:α->Option β}{b:β}(h:o.bind f=some b):∃a,o=some a/\f a=some b:=Option.bind_eq_some_iff.mp h
theorem mapI{α β:Type}{o:Option α}{f:α->β}{b:β}(h:o.map f=some b):∃a,o=some a/\f a=b:=Option.map_eq_some_iff.mp h
def alt{α β:Type}(o:Option α)(k:α->Option β)(d:Option β):Option β:=match o with
 | some a=>k a
 | none=>d
theorem altI{α β:Type}{o:Option α}{k:α->Option β}{d:Option β}{b:β}(h:alt o k d=some b):(∃a,k a=some b)\/d=some b:=by
 cases o with
 | some a=>exact .inl ⟨a,h⟩
 | none=>exact .inr h
open PySem in
def vName(e:Expr):Option {q:Str×Pos // e= .Name q.1 q.2}:=match e with
 | .Name a0 a1=>some ⟨(a0,a1),rfl⟩
 | _=>none
open PySem in
def vConst(e:Expr):Option {q:Const×Nat×Pos // e= .Constant q.1 q.2.1 q.2.2}:=match e with
 | .Constant a0 a1 a2=>some ⟨(a0,a1,a2),rfl⟩
 | _=>none
open PySem in
def vUn(e:Expr):Option {q:UnaryOp×Expr×Pos // e= .UnaryOp q.1 q.2.1 q.2.2}:=match e with
 | .UnaryOp a0 a1 a2=>some ⟨(a0,a1,a2),rfl⟩
 | _=>none
open PySem in
def vBin(e:Expr):Option {q:Expr×Operator×Expr×Pos // e= .BinOp q.1 q.2.1 q.2.2.1 q.2.2.2}:=match e with
 | .BinOp a0 a1 a2 a3=>some ⟨(a0,a1,a2,a3),rfl⟩
 | _=>none
open PySem in
def vCmp(e:Expr):Option {q:Expr×List CmpOp×List Expr×Pos // e= .Compare q.1 q.2.1 q.2.2.1 q.2.2.2}:=match e with
 | .Compare a0 a1 a2 a3=>some ⟨(a0,a1,a2,a3),rfl⟩
 | _=>none
open PySem in
def vBool(e:Expr):Option {q:BoolOp×List Expr×Pos // e= .BoolOp q.1 q.2.1 q.2.2}:=match e with
 | .BoolOp a0 a1 a2=>some ⟨(a0,a1,a2),rfl⟩
 | _=>none
open PySem in
def vIf(e:Expr):Option {q:Expr×Expr×Expr×Pos // e= .IfExp q.1 q.2.1 q.2.2.1 q.2.2.2}:=match e with
 | .IfExp a0 a1 a2 a3=>some ⟨(a0,a1,a2,a3),rfl⟩
 | _=>none
open PySem in
def vSub(e:Expr):Option {q:Expr×Expr×Pos // e= .Subscript q.1 q.2.1 q.2.2}:=match e with
 | .Subscript a0 a1 a2=>some ⟨(a0,a1,a2),rfl⟩
 | _=>none
open PySem in
def vAttr(e:Expr):Option {q:Expr×Str×Pos // e= .Attribute q.1 q.2.1 q.2.2}:=match e with
 | .Attribute a0 a1 a2=>some ⟨(a0,a1,a2),rfl⟩
 | _=>none
open PySem in
def vList(e:Expr):Option {q:List Expr×Pos // e= .List q.1 q.2}:=match e with
 | .List a0 a1=>some ⟨(a0,a1),rfl⟩
 | _=>none
open PySem in
def vTup(e:Expr):Option {q:List Expr×Nat×Pos // e= .Tuple q.1 q.2.1 q.2.2}:=match e with
 | .Tuple a0 a1 a2=>some ⟨(a0,a1,a2),rfl⟩
 | _=>none
open PySem in
def vComp(e:Expr):Option {q:Expr×List Comprehension×Scope×Pos // e= .ListComp q.1 q.2.1 q.2.2.1 q.2.2.2}:=match e with
 | .ListComp a0 a1 a2 a3=>some ⟨(a0,a1,a2,a3),rfl⟩
 | _=>none
open PySem in
def vCall(e:Expr):Option {q:Expr×List Expr×List Keyword×Pos // e= .Call q.1 q.2.1 q.2.2.1 q.2.2.2}:=match e with
 | .Call a0 a1 a2 a3=>some ⟨(a0,a1,a2,a3),rfl⟩
 | _=>none
open PySem in
def vJoin(e:Expr):Option {q:List Expr×Pos // e= .JoinedStr q.1 q.2}:=match e with
 | .JoinedStr a0 a1=>some ⟨(a0,a1),rfl⟩
 | _=>none
open PySem in
def vSlice(e:Expr):Option {q:Option Expr×Option Expr×Option Expr×Pos // e= .Slice q.1 q.2.1 q.2.2.1 q.2.2.2}:=match e with
 | .Slice a0 a1 a2 a3=>some ⟨(a0,a1,a2,a3),rfl⟩
 | _=>none
open PySem in
def vFmt(e:Expr):Option {q:Expr×Int×Option Expr×Pos // e= .FormattedValue q.1 q.2.1 q.2.2.1 q.2.2.2}:=match e with
 | .FormattedValue a0 a1 a2 a3=>some ⟨(a0,a1,a2,a3),rfl⟩
 | _=>none
open PySem in
def sAsg(e:Stmt):Option {q:List Expr×Expr×Pos // e= .Assign q.1 q.2.1 q.2.2}:=match e with
 | .Assign a0 a1 a2=>some ⟨(a0,a1,a2),rfl⟩
 | _=>none
open PySem in
def sExpr(e:Stmt):Option {q:Expr×Pos // e= .Expr q.1 q.2}:=match e with
 | .Expr a0 a1=>some ⟨(a0,a1),rfl⟩
 | _=>none
open PySem in
def sRet(e:Stmt):Option {q:Option Expr×Pos // e= .Return q.1 q.2}:=match e with
 | .Return a0 a1=>some ⟨(a0,a1),rfl⟩
 | _=>none
open PySem in
def sIf(e:Stmt):Option {q:Expr×List Stmt×List Stmt×Pos // e= .If q.1 q.2.1 q.2.2.1 q.2.2.2}:=match e with
 | .If a0 a1 a2 a3=>some ⟨(a0,a1,a2,a3),rfl⟩
 | _=>none
open PySem in
def sFor(e:Stmt):Option {q:Expr×Expr×List Stmt×List Stmt×Pos // e= .For q.1 q.2.1 q.2.2.1 q.2.2.2.1 q.2.2.2.2}:=match e with
 | .For a0 a1 a2 a3 a4=>some ⟨(a0,a1,a2,a3,a4),rfl⟩
 | _=>none
open PySem in
def sWhile(e:Stmt):Option {q:Expr×List Stmt×List Stmt×Pos // e= .While q.1 q.2.1 q.2.2.1 q.2.2.2}:=match e with
 | .While a0 a1 a2 a3=>some ⟨(a0,a1,a2,a3),rfl⟩
 | _=>none
open PySem in
def sRaise(e:Stmt):Option {q:Option Expr×Option Expr×Pos // e= .Raise q.1 q.2.1 q.2.2}:=match e with
 | .Raise a0 a1 a2=>some ⟨(a0,a1,a2),rfl⟩
 | _=>none
open PySem in
def sPass(e:Stmt):Option {q:Pos // e= .Pass q}:=match e with
 | .Pass a0=>some ⟨a0,rfl⟩
 | _=>none
theorem z1k{α:Type}{l:List α}{a:α}(h:oneOf l=some a):l=[a]:=by
 cases l with
 | nil=>cases h
 | cons b r=>
  obtain⟨hr,h⟩:=iteN h
  cases h
  cases r with
  | nil=>rfl
  | cons=>cases hr
theorem z1X{α:Type}{l:List α}{q:α×α}(h:twoOf l=some q):l=[q.1,q.2]:=by
 cases l with
 | nil=>cases h
 | cons a r=>
  obtain⟨b,hb,rfl⟩:=mapI h
  rw[z1k hb]
theorem zCY{d:D}{l:List D}(h:lstD d=some l):d= .lst l:=by
 cases d with
 | lst j=>cases h;rfl
 | _=>cases h
theorem zCZ{d:D}{l:List D}(h:tupD d=some l):d= .tup l:=by
 cases d with
 | tup j=>cases h;rfl
 | _=>cases h
theorem zFe{l:List D}{q:D×List D}(h:unc l=some q):l=q.1::q.2:=by
 cases l with
 | nil=>cases h
 | cons a r=>cases h;rfl
theorem z5d{f:D->D->Option Bool}{x y:D}{b:Bool}(h:eqStep f x y=some b):eqF x y=some b\/(∃a c,x= .lst a/\y= .lst c/\((a.length=c.length/\eqL f a c=some b)\/(¬a.length=c.length/\b=false)))\/ ∃a c,x= .tup a/\y= .tup c/\a.length=c.length/\eqL f a c=some b:=by
 cases x with
 | lst a=>
  obtain⟨c,hc,h1⟩:=bndI h
  refine .inr (.inl ⟨a,c,rfl,zCY hc,?_⟩)
  by_cases hl:a.length=c.length
  ·rw[if_pos hl]at h1;exact .inl ⟨hl,h1⟩
  ·rw[if_neg hl]at h1;exact .inr ⟨hl,(Option.some.inj h1).symm⟩
 | tup a=>
  obtain⟨c,hc,h1⟩:=bndI h
  obtain⟨hl,h2⟩:=iteN h1
  exact .inr (.inr ⟨a,c,rfl,zCZ hc,hl,h2⟩)
 | _=>exact .inl h
theorem z7I{d:D}{p:Int×Int}(h:toTie d=some p):d=tieD p:=by
 cases d with
 | tup l=>
  obtain⟨q,hq,h1⟩:=bndI h
  obtain⟨a,ha,h2⟩:=bndI h1
  obtain⟨b,hb,e⟩:=mapI h2
  rw[z1X hq,z1V ha,z1V hb,<-e];rfl
 | _=>cases h
theorem zDa{d:D}{b:Bool}(h:toBl d=some b):d= .bl b:=by
 cases d with
 | bl j=>cases h;rfl
 | _=>cases h
theorem z49{α:Type}{l:List α}(h:l.isEmpty=true):l=[]:=List.isEmpty_iff.mp h
open PySem in
def nameOf(e:Expr):Option Str:=(vName e).map λq=>q.1.1
open PySem in
theorem z1y{a:Expr}{x:Str}(h:nameOf a=some x):∃p,a= .Name x p:=by
 obtain⟨q,_,rfl⟩:=mapI h
 exact⟨q.1.2,q.2⟩
def tg2(N:List Str)(sc:List (Str×PySem.NameKind))(x y:Str):Option Tg:=if isLoc sc x&&isLoc sc y then(slot N x).bind λi=>(slot N y).bind λj=>if i=j then none else some (.tup [i,j])else none
open PySem in
def tgs2(N:List Str)(sc:List (Str×NameKind))(es:List Expr):Option Tg:=(twoOf es).bind λq=>(nameOf q.1).bind λx=>(nameOf q.2).bind λy=>tg2 N sc x y
open PySem in
def trTg(N:List Str)(sc:List (Str×NameKind))(e:Expr):Option Tg:=alt (vName e) (λq=>if isLoc sc q.1.1 then(slot N q.1.1).map .name else none) ((vTup e).bind λq=>tgs2 N sc q.1.1)
section
open PySem
abbrev Go:=Expr->Option Ex
def trName(N:List Str)(sc:List (Str×NameKind))(x:Str):Option Ex:=if isVis sc x then(slot N x).map .var else if isGl sc x then some (.glob x)else none
def trConst:Const->Option Ex
 | .int i=>some (.int i)
 | .bool b=>some (.bl b)
 | .none=>some .non
 | .str s=>some (.str s)
 | _=>none
def trUn(op:UnaryOp)(r:Option Ex):Option Ex:=match op with
 | .USub=>r.map .neg
 | .Not=>r.map .not
 | _=>none
def noneC:Const->Bool
 | .none=>true
 | _=>false
def isNone(e:Expr):Bool:=match vConst e with
 | some q=>noneC q.1.1
 | none=>false
def trCmp1(go:Go)(a:Expr)(o:CmpOp)(b:Expr):Option Ex:=match trC o,go a,go b with
 | some o,some x,some y=>some (.cmp o x y)
 | _,_,_=>none
def trCmpA(go:Go)(a:Expr)(o:CmpOp)(b:Expr):Option Ex:=match o with
 | .Is=>if isNone b then(go a).map (.isK false none)else none
 | .IsNot=>if isNone b then(go a).map (.isK true none)else
  none
 | o=>trCmp1 go a o b
def trCmpB(go:Go)(a:Expr)(o p:CmpOp)(b c:Expr):Option Ex:=match trC o,trC p with
 | some o,some p=>match go a,go b,go c with
  | some x,some y,some z=>some (.chain2 o p x y z)
  | _,_,_=>none
 | _,_=>none
def trCmpC(go:Go)(a:Expr)(o p q:CmpOp)(b c d:Expr):Option Ex:=match trC o,trC p,trC q with
 | some o,some p,some q=>match go a,go b with
  | some x,some y=>match go c,go d with
   | some z,some v=>some (.chain3 o p q x y z v)
   | _,_=>none
  | _,_=>none
 | _,_,_=>none
def trCmp(go:Go)(a:Expr)(os:List CmpOp)(es:List Expr):Option Ex:=match os with
 | [o]=>(match es with|[b]=>trCmpA go a o b|_=>none)
 | [o,p]=>(match es with|[b,c]=>trCmpB go a o p b c|_=>none)
 | [o,p,q]=>(match es with|[b,c,d]=>trCmpC go a o p q b c d|_=>none)
 | _=>none
def trBool(go:Go)(op:BoolOp):List Expr->Option Ex
 | []=>none
 | [a]=>go a
 | a::b::r=>match go a,trBool go op (b::r)with
  | some x,some y=>match op with
   | .And=>some (.and x y)
   | .Or=>some (.or x y)
  | _,_=>none
def trO(go:Go):Option Expr->Option (Option Ex)
 | none=>some none
 | some e=>(go e).map some
def trSl(go:Go)(a:Expr)(lo hi st:Option Expr):Option Ex:=if st.isNone then(go a).bind λx=>(trO go lo).bind λl=>(trO go hi).map λh=>.slice x l h else none
def trSub(go:Go)(a b:Expr):Option Ex:=match vSlice b with
 | some q=>trSl go a q.1.1 q.1.2.1 q.1.2.2.1
 | none=>(go a).bind λx=>(go b).map λy=>.ix x y
def okBase(e:Expr):Bool:=(vName e).isSome||((vSub e).isSome||(vList e).isSome)
def trAttr(go:Go)(a:Expr)(f:Str):Option Ex:=if okBase a then match go a with
  | some y=>if f="many" then some (.fld y false)else if f="ties" then some (.fld y true)else none
  | none=>none
 else none
def trIfs(go:Go):List Expr->Option (Option Ex)
 | []=>some none
 | [c]=>(go c).map some
 | _=>none
def callOf(e:Expr):Option (Str×List Expr):=(vCall e).bind λq=>if q.1.2.2.1.isEmpty then(nameOf q.1.1).map λx=>(x,q.1.2.1)else none
theorem z3Q{e:Expr}{q:Str×List Expr}(h:callOf e=some q):∃p1 p2,e= .Call (.Name q.1 p1) q.2 [] p2:=by
 obtain⟨v,_,h⟩:=bndI h
 obtain⟨hk,h⟩:=iteN h
 obtain⟨x,hx,rfl⟩:=mapI h
 obtain⟨p1,e1⟩:=z1y hx
 have:=v.2
 rw[e1,z49 hk]at this
 exact⟨p1,_,this⟩
def rangeArgs(sc:List (Str×NameKind))(e:Expr):Option (List Expr):=(callOf e).bind λq=>if decide (q.1="range")&&isGl sc q.1 then some q.2 else none
def two2:Tg->Option (Nat×Nat)
 | .name _=>none
 | .tup is=>twoOf is
def nameT:Tg->Option Nat
 | .name i=>some i
 | .tup _=>none
def trRng(go:Go)(t:Tg)(ix:List (Option Nat))(tst:Option Ex)(el:Ex)(as:List Expr):Option Ex:=(nameT t).bind λi=>
 alt (oneOf as) (λa=>(go a).map λhi=>.compR ix i (.int 0) hi tst el)<|
 (twoOf as).bind λq=>(go q.1).bind λlo=>(go q.2).map λhi=>.compR ix i lo hi tst el
def trSrc(go:Go)(sc:List (Str×NameKind))(iter:Expr)(t:Tg)(ix:List (Option Nat))(tst:Option Ex)(el:Ex):Option Ex:=
 alt (rangeArgs sc iter) (trRng go t ix tst el)<|
 (go iter).map λs=>.compL ix t s tst el
def trComp(cm:Bool)(go:Go)(goIn:List Str->List (Str×NameKind)->Go)(N:List Str)(sc:List (Str×NameKind))(elt:Expr)(scope:Scope)(gs:List Comprehension):Option Ex:=(oneOf gs).bind λg=>
  if cm&&(decide (g.is_async=0)&&(okBlock sc scope.names&&(decide (scope.kind= .function)&&nodupB (inNames scope.names))))then
   (trIfs (goIn (inNames scope.names) scope.names) g.ifs).bind λtst=>(goIn (inNames scope.names) scope.names elt).bind λel=>(trTg (inNames scope.names) scope.names g.target).bind λt=>trSrc go sc g.iter t (inIx N scope.names (inNames scope.names)) tst el
  else none
def innerCall(sc:List (Str×NameKind))(es:List Expr):Option (Str×List Expr):=(oneOf es).bind λe=>(callOf e).bind λq=>if isGl sc q.1 then some q else none
def trPlain(go:Go)(x:Str)(args:List Expr):Option Ex:=match trs go args with
 | some []=>none
 | some (y::ys)=>match trB x with
  | some b=>some (.blt b (y::ys))
  | none=>some (.call x (y::ys))
 | none=>none
def trIsi(go:Go)(sc:List (Str×NameKind))(es:List Expr):Option Ex:=(twoOf es).bind λq=>(nameOf q.2).bind λt=>if isGl sc t then(trTyB t).bind λty=>(go q.1).map λx=>.isinst x ty else none
def trCallN(cm:Bool)(go:Go)(sc:List (Str×NameKind))(x:Str)(args:List Expr):Option Ex:=
 if x="isinstance" then trIsi go sc args
 else if cm then match innerCall sc args with
  | some (g,as)=>
   if x="len"/\g="set" then match as with
    | [a]=>(go a).map λy=>.blt .lset [y]
    | _=>none
   else if x="list"/\g="range" then match as with
    | [a]=>(go a).map λy=>.blt .listrange1 [y]
    | [a,b]=>match go a,go b with
     | some y,some z=>some (.blt .listrange2 [y,z])
     | _,_=>none
    | _=>none
   else trPlain go x args
  | none=>trPlain go x args
 else none
def trMeth(go:Go)(o:Expr)(m:Str)(es:List Expr):Option Ex:=(oneOf es).bind λa=>(go o).bind λx=>(go a).bind λy=>if m="count" then some (.count x y)else
 none
def trCall(cm:Bool)(go:Go)(sc:List (Str×NameKind))(args:List Expr)(pos:Pos)(f:Expr):Option Ex:=alt (vName f) (λq=>if isGl sc q.1.1 then trCallN cm go sc q.1.1 args else none)
 ((vAttr f).bind λq=>if okBase q.1.1&&(q.1.2.2.endLine==pos.line)then trMeth go q.1.1 q.1.2.1 args else none)
def strC:Const->Option Str
 | .str s=>some s
 | _=>none
def strOf(e:Expr):Option Str:=(vConst e).bind λq=>strC q.1.1
def fvOf(sc:List (Str×NameKind))(e:Expr):Option Str:=(vFmt e).bind λq=>(nameOf q.1.1).bind λx=>if decide (q.1.2.1= -1)&&(isGl sc x&&q.1.2.2.1.isNone)then some x else none
def trF(sc:List (Str×NameKind)):List Expr->Option Ex
 | [a,m,b]=>match strOf a,fvOf sc m,strOf b with
  | some x,some g,some y=>some (.fstr x g y)
  | _,_,_=>none
 | _=>none
def trE(cm:Bool):Nat->List Str->List (Str×NameKind)->Expr->Option Ex
 | 0,_,_,_=>none
 | n+1,N,sc,e=>
  alt (vName e) (λq=>trName N sc q.1.1)<|
  alt (vConst e) (λq=>trConst q.1.1)<|
  alt (vUn e) (λq=>trUn q.1.1 (trE cm n N sc q.1.2.1))<|
  alt (vBin e) (λq=>(trOp q.1.2.1).bind λo=>(trE cm n N sc q.1.1).bind λx=>(trE cm n N sc q.1.2.2.1).map λy=>.bin o x y)<|
  alt (vCmp e) (λq=>trCmp (trE cm n N sc) q.1.1 q.1.2.1 q.1.2.2.1)<|
  alt (vBool e) (λq=>trBool (trE cm n N sc) q.1.1 q.1.2.1)<|
  alt (vIf e) (λq=>(trE cm n N sc q.1.1).bind λz=>(trE cm n N sc q.1.2.1).bind λx=>(trE cm n N sc q.1.2.2.1).map λy=>.ifx z x y)<|
  alt (vSub e) (λq=>trSub (trE cm n N sc) q.1.1 q.1.2.1)<|
  alt (vAttr e) (λq=>trAttr (trE cm n N sc) q.1.1 q.1.2.1)<|
  alt (vList e) (λq=>(trs (trE cm n N sc) q.1.1).map .lst)<|
  alt (vTup e) (λq=>(trs (trE cm n N sc) q.1.1).map .tup)<|
  alt (vComp e) (λq=>trComp cm (trE cm n N sc) (trE cm n) N sc q.1.1 q.1.2.2.1 q.1.2.1)<|
  alt (vCall e) (λq=>if q.1.2.2.1.isEmpty then trCall cm (trE cm n N sc) sc q.1.2.1 q.1.2.2.2 q.1.1 else none)<|
  (vJoin e).bind λq=>trF sc q.1.1
theorem z2Q(cm:Bool)(n:Nat)(N:List Str)(sc:List (Str×NameKind))(e:Expr):trE cm (n+1) N sc e=(
  alt (vName e) (λq=>trName N sc q.1.1)<|
  alt (vConst e) (λq=>trConst q.1.1)<|
  alt (vUn e) (λq=>trUn q.1.1 (trE cm n N sc q.1.2.1))<|
  alt (vBin e) (λq=>(trOp q.1.2.1).bind λo=>(trE cm n N sc q.1.1).bind λx=>(trE cm n N sc q.1.2.2.1).map λy=>.bin o x y)<|
  alt (vCmp e) (λq=>trCmp (trE cm n N sc) q.1.1 q.1.2.1 q.1.2.2.1)<|
  alt (vBool e) (λq=>trBool (trE cm n N sc) q.1.1 q.1.2.1)<|
  alt (vIf e) (λq=>(trE cm n N sc q.1.1).bind λz=>(trE cm n N sc q.1.2.1).bind λx=>(trE cm n N sc q.1.2.2.1).map λy=>.ifx z x y)<|
  alt (vSub e) (λq=>trSub (trE cm n N sc) q.1.1 q.1.2.1)<|
  alt (vAttr e) (λq=>trAttr (trE cm n N sc) q.1.1 q.1.2.1)<|
  alt (vList e) (λq=>(trs (trE cm n N sc) q.1.1).map .lst)<|
  alt (vTup e) (λq=>(trs (trE cm n N sc) q.1.1).map .tup)<|
  alt (vComp e) (λq=>trComp cm (trE cm n N sc) (trE cm n) N sc q.1.1 q.1.2.2.1 q.1.2.1)<|
  alt (vCall e) (λq=>if q.1.2.2.1.isEmpty then trCall cm (trE cm n N sc) sc q.1.2.1 q.1.2.2.2 q.1.1 else none)<|
  (vJoin e).bind λq=>trF sc q.1.1):=rfl
theorem zFf(cm:Bool)(n:Nat)(N:List Str)(sc:List (Str×NameKind))(elt:Expr)(gens:List Comprehension)(scope:Scope)(p:Pos):trE cm (n+1) N sc (.ListComp elt gens scope p)=trComp cm (trE cm n N sc) (trE cm n) N sc elt scope gens:=by rw[z2Q];rfl
theorem zFg(cm:Bool)(n:Nat)(N:List Str)(sc:List (Str×NameKind))(a b c:Option Expr)(p:Pos):trE cm (n+1) N sc (.Slice a b c p)=none:=by rw[z2Q];rfl
theorem zFh(cm:Bool)(n:Nat)(N:List Str)(sc:List (Str×NameKind))(elt:Expr)(gens:List Comprehension)(scope:Scope)(p:Pos):trE cm (n+1) N sc (.SetComp elt gens scope p)=none:=by rw[z2Q];rfl
theorem zFi(cm:Bool)(n:Nat)(N:List Str)(sc:List (Str×NameKind))(key elt:Expr)(gens:List Comprehension)(scope:Scope)(p:Pos):trE cm (n+1) N sc (.DictComp key elt gens scope p)=none:=by rw[z2Q];rfl
def namesOf:List Expr->Option (List (Str×Nat))
 | []=>some []
 | e::r=>(vName e).bind λq=>(namesOf r).map λl=>(q.1.1,q.1.2.line)::l
def okPar(sc:List (Str×NameKind))(nl:List (Str×Nat))(es:List Expr):Bool:=
 nl.all (λp=>decide (kindIn sc p.1=some .local)&&(p.2==(nl.head?.map (·.2)).getD 0))&&(nodupB (nl.map (·.1))&&(!(es.all (foldedForSure 8))&& !(es.all (constantsAlone 8))))
def trPar(go:Go)(N:List Str)(sc:List (Str×NameKind))(nl:List (Str×Nat))(es:List Expr):Option Sx:=if okPar sc nl es then(trs (λp=>slot N p.1) nl).bind λis=>(trs go es).bind λus=>
 if is.length=2/\us.length=2 then some (.par is us)else none
 else none
def trTup(go:Go)(N:List Str)(sc:List (Str×NameKind))(t:Expr)(ts:List Expr)(e:Expr):Option Sx:=match vTup e with
 | some q=>(namesOf ts).bind λnl=>trPar go N sc nl q.1.1
 | none=>(trTg N sc t).bind λg=>(two2 g).bind λij=>(go e).map (.unp [ij.1,ij.2])
def trSetIx(go:Go)(N:List Str)(sc:List (Str×NameKind))(o k e:Expr):Option Sx:=(nameOf o).bind λx=>if isVis sc x then(slot N x).bind λi=>(go k).bind λu=>(go e).map λv=>.setix i u v else none
def trAsg(go:Go)(N:List Str)(sc:List (Str×NameKind))(mu:List Str)(e t:Expr):Option Sx:=
 alt (vName t) (λq=>if isLoc sc q.1.1 then(slot N q.1.1).bind λi=>(go e).map λy=>
  .asg i (mu.contains q.1.1) y else none)<|
 alt (vTup t) (λq=>trTup go N sc t q.1.1 e)<|
 (vSub t).bind λq=>trSetIx go N sc q.1.1 q.1.2.1 e
theorem altK{α β:Type}{o:Option α}{k:α->Option β}{d:Option β}{b:β}(h:alt o k d=some b):(∃a,o=some a/\k a=some b)\/d=some b:=by
 cases o with
 | some a=>exact .inl ⟨a,rfl,h⟩
 | none=>exact .inr h
theorem iteI{c:Prop}[Decidable c]{α:Type}{o d:Option α}{b:α}(h:(if c then o else d)=some b):(c/\o=some b)\/d=some b:=by
 by_cases hc:c
 ·rw[if_pos hc]at h;exact .inl ⟨hc,h⟩
 ·rw[if_neg hc]at h;exact .inr h
def isDp(N:List Str)(mu:List Str)(i:Nat):Bool:=match N[i]? with
 | some x=>decide (mu.count x=2)
 | none=>false
def trMut(go:Go)(dp:Nat->Bool)(i:Nat)(m:Str)(l:List Expr):Option Sx:=
 alt (oneOf l) (λa=>if m="append" then(go a).map λx=>
  .app i x else
  if m="extend" then(go a).map (.ext i)else
  none)<|
 (twoOf l).bind λq=>if m="insert" then(go q.1).bind λu=>(go q.2).map λv=>.ins i u v else none
def mutCall(N:List Str)(sc:List (Str×NameKind))(e:Expr):Option (Nat×Str×List Expr):=(vCall e).bind λq=>if q.1.2.2.1.isEmpty then(vAttr q.1.1).bind λr=>(nameOf r.1.1).bind λx=>
 if isVis sc x&&(r.1.2.2.endLine==q.1.2.2.2.line)then(slot N x).map λi=>(i,r.1.2.1,q.1.2.1)else none
 else none
def isComp:Expr->Bool
 | .ListComp _ _ _ _=>true
 | .SetComp _ _ _ _=>true
 | .DictComp _ _ _ _ _=>true
 | _=>false
def trEx(go:Go)(N:List Str)(sc:List (Str×NameKind))(dp:Nat->Bool)(e:Expr):Option Sx:=
 alt (mutCall N sc e) (λq=>trMut go dp q.1 q.2.1 q.2.2)<|
 if isComp e then none else(go e).map .expr
def trForR(go:Go)(t:Tg)(b:List Sx)(as:List Expr):Option Sx:=(nameT t).bind λi=>
 alt (oneOf as) (λa=>(go a).map λhi=>.forR i (.int 0) hi b)<|
 (twoOf as).bind λq=>(go q.1).bind λlo=>(go q.2).map λhi=>.forR i lo hi b
def trFor(go:Go)(sc:List (Str×NameKind))(t:Tg)(iter:Expr)(b:List Sx):Option Sx:=
 alt (rangeArgs sc iter) (trForR go t b)<|(go iter).map λs=>.forL t s b
def trRaise(go:Go)(sc:List (Str×NameKind))(e:Expr):Option Sx:=(callOf e).bind λq=>(oneOf q.2).bind λa=>if isGl sc q.1 then(go a).map (.raise q.1)else none
def trS(cm:Bool):Nat->List Str->List (Str×NameKind)->List Str->Stmt->Option Sx
 | 0,_,_,_,_=>none
 | n+1,N,sc,mu,st=>
  alt (sAsg st) (λq=>(oneOf q.1.1).bind λt=>trAsg (trE cm 30 N sc) N sc mu q.1.2.1 t)<|
  alt (sExpr st) (λq=>trEx (trE cm 30 N sc) N sc (isDp N mu) q.1.1)<|
  alt (sRet st) (λq=>q.1.1.bind λe=>(trE cm 30 N sc e).map .ret)<|
  alt (sIf st) (λq=>(trE cm 30 N sc q.1.1).bind λt=>(trs (trS cm n N sc mu) q.1.2.1).bind λx=>(trs (trS cm n N sc mu) q.1.2.2.1).map λy=>.ifs t x y)<|
  alt (sFor st) (λq=>if q.1.2.2.2.1.isEmpty then
   (trs (trS cm n N sc mu) q.1.2.2.1).bind λb=>(trTg N sc q.1.1).bind λt=>trFor (trE cm 30 N sc) sc t q.1.2.1 b else none)<|
  alt (sWhile st) (λq=>if q.1.2.2.1.isEmpty then(trE cm 30 N sc q.1.1).bind λt=>(trs (trS cm n N sc mu) q.1.2.1).map λb=>.while_ t b else none)<|
  alt (sRaise st) (λq=>if q.1.2.1.isNone then q.1.1.bind λe=>trRaise (trE cm 30 N sc) sc e else none)<|
  (sPass st).map λ_=>.pass
theorem zBq(cm:Bool)(n:Nat)(N:List Str)(sc:List (Str×NameKind))(mu:List Str)(st:Stmt):trS cm (n+1) N sc mu st=(
  alt (sAsg st) (λq=>(oneOf q.1.1).bind λt=>trAsg (trE cm 30 N sc) N sc mu q.1.2.1 t)<|
  alt (sExpr st) (λq=>trEx (trE cm 30 N sc) N sc (isDp N mu) q.1.1)<|
  alt (sRet st) (λq=>q.1.1.bind λe=>(trE cm 30 N sc e).map .ret)<|
  alt (sIf st) (λq=>(trE cm 30 N sc q.1.1).bind λt=>(trs (trS cm n N sc mu) q.1.2.1).bind λx=>(trs (trS cm n N sc mu) q.1.2.2.1).map λy=>.ifs t x y)<|
  alt (sFor st) (λq=>if q.1.2.2.2.1.isEmpty then
   (trs (trS cm n N sc mu) q.1.2.2.1).bind λb=>(trTg N sc q.1.1).bind λt=>trFor (trE cm 30 N sc) sc t q.1.2.1 b else none)<|
  alt (sWhile st) (λq=>if q.1.2.2.1.isEmpty then(trE cm 30 N sc q.1.1).bind λt=>(trs (trS cm n N sc mu) q.1.2.1).map λb=>.while_ t b else none)<|
  alt (sRaise st) (λq=>if q.1.2.1.isNone then q.1.1.bind λe=>trRaise (trE cm 30 N sc) sc e else none)<|
  (sPass st).map λ_=>.pass):=rfl
end
end Ev
namespace Ev
open MT (tle tlt)
theorem z3R(x:Int):∀l:List Int,(insI x l).Perm (x::l)
 | []=>.refl _
 | y::r=>by
  unfold insI
  split
  ·exact .refl _
  ·exact((z3R x r).cons y).trans (List.Perm.swap x y r)
theorem z0H:∀l:List Int,(isortI l).Perm l
 | []=>.refl _
 | x::r=>(z3R x _).trans ((z0H r).cons x)
theorem z3S(x:Int):∀l:List Int,l.Pairwise (· <= ·)->(insI x l).Pairwise (· <= ·)
 | [],_=>by simp[insI]
 | y::r,h=>by
  unfold insI
  rw[List.pairwise_cons]at h
  split
  ·rename_i hxy
   refine List.pairwise_cons.mpr ⟨λz hz=>?_,List.pairwise_cons.mpr h⟩
   rcases List.mem_cons.mp hz with rfl|hz
   ·exact hxy
   ·exact Int.le_trans hxy (h.1 z hz)
  ·rename_i hxy
   refine List.pairwise_cons.mpr ⟨λz hz=>?_,z3S x r h.2⟩
   rcases List.mem_cons.mp ((z3R x r).mem_iff.mp hz)with rfl|hz
   ·lia
   ·exact h.1 z hz
theorem z1l:∀l:List Int,(isortI l).Pairwise (· <= ·)
 | []=>.nil
 | x::r=>z3S x _ (z1l r)
theorem z1Y{l l':List Int}(p:l'.Perm l)(s:l'.Pairwise (· <= ·)):l'=isortI l:=MT.z3A (p.trans (z0H l).symm) s (z1l l)
theorem z5e(l:List Int):(isortI l).length=l.length:=(z0H l).length_eq
theorem z7J(a b:Int×Int):tleB a b=true↔tle a b:=by
 unfold tleB tle
 simp only[Bool.or_eq_true,Bool.and_eq_true,decide_eq_true_eq]
theorem zBr(a b:Int×Int):tltB a b=true↔tlt a b:=by
 unfold tltB tlt
 simp only[Bool.or_eq_true,Bool.and_eq_true,decide_eq_true_eq]
theorem z3T(x:Int×Int):∀l:List (Int×Int),(insT x l).Perm (x::l)
 | []=>.refl _
 | y::r=>by
  unfold insT
  split
  ·exact .refl _
  ·exact((z3T x r).cons y).trans (List.Perm.swap x y r)
theorem z07:∀l:List (Int×Int),(isortT l).Perm l
 | []=>.refl _
 | x::r=>(z3T x _).trans ((z07 r).cons x)
theorem z94{a b c:Int×Int}(h:tle a b)(k:tle b c):tle a c:=by
 rcases h with h|⟨h1,h2⟩<;>rcases k with k|⟨k1,k2⟩
 ·exact .inl (Int.lt_trans h k)
 ·exact .inl (by rw[<-k1];exact h)
 ·exact .inl (by rw[h1];exact k)
 ·exact .inr ⟨h1.trans k1,Int.le_trans h2 k2⟩
theorem zDb{x y:Int×Int}(h:¬tle x y):tle y x:=by
 rcases Int.lt_trichotomy x.1 y.1 with a|a|a
 ·exact absurd (.inl a) h
 ·exact .inr ⟨a.symm,Int.le_of_lt (Int.not_le.mp λz=>h (.inr ⟨a,z⟩))⟩
 ·exact .inl a
theorem z3U(x:Int×Int):∀l:List (Int×Int),l.Pairwise tle->(insT x l).Pairwise tle
 | [],_=>by simp[insT]
 | y::r,h=>by
  unfold insT
  rw[List.pairwise_cons]at h
  split
  ·rename_i hxy
   have hxy:tle x y:=(z7J _ _).mp hxy
   refine List.pairwise_cons.mpr ⟨λz hz=>?_,List.pairwise_cons.mpr h⟩
   rcases List.mem_cons.mp hz with rfl|hz
   ·exact hxy
   ·exact z94 hxy (h.1 z hz)
  ·rename_i hxy
   have hyx:tle y x:=zDb λz=>hxy ((z7J _ _).mpr z)
   refine List.pairwise_cons.mpr ⟨λz hz=>?_,z3U x r h.2⟩
   rcases List.mem_cons.mp ((z3T x r).mem_iff.mp hz)with rfl|hz
   ·exact hyx
   ·exact h.1 z hz
theorem z1m:∀l:List (Int×Int),(isortT l).Pairwise tle
 | []=>.nil
 | x::r=>z3U x _ (z1m r)
theorem z4A:∀{l l':List (Int×Int)},l.Perm l'->l.Pairwise tle->l'.Pairwise tle->l=l'
 | [],l',p,_,_=>(List.nil_perm.mp p).symm
 | a::r,[],p,_,_=>absurd p.length_eq (by simp)
 | a::r,b::s,p,h,k=>by
  rw[List.pairwise_cons]at h k
  have hab:a=b:=by
   have h1:a∈b::s:=p.mem_iff.mp List.mem_cons_self
   have h2:b∈a::r:=p.mem_iff.mpr List.mem_cons_self
   rcases List.mem_cons.mp h1 with e|h1
   ·exact e
   ·rcases List.mem_cons.mp h2 with e|h2
    ·exact e.symm
    ·exact MT.z5J (h.1 b h2) (k.1 a h1)
  subst hab
  rw[z4A (List.Perm.cons_inv p) h.2 k.2]
theorem z1Z{l l':List (Int×Int)}(p:l'.Perm l)(s:l'.Pairwise tle):l'=isortT l:=z4A (p.trans (z07 l).symm) s (z1m l)
theorem z32{α:Type}{f:D->Option α}{g:α->D}(hf:∀{d a},f d=some a->d=g a):∀{ds:List D}{l:List α},mapO f ds=some l->ds=l.map g
 | [],l,h=>by cases h;rfl
 | d::r,l,h=>by
  obtain⟨a,ha,h1⟩:=bndI h
  obtain⟨l',hl,e⟩:=mapI h1
  rw[<-e,hf ha,z32 hf hl];rfl
theorem z5f{α:Type}{f:D->Option α}{g:α->D}(hf:∀a,f (g a)=some a)(l:List α):mapO f (l.map g)=some l:=by
 induction l with
 | nil=>rfl
 | cons a r ih=>
  show(f (g a)).bind _=_
  rw[hf]
  show(mapO f (r.map g)).map _=_
  rw[ih];rfl
theorem z5g{ds:List D}{ns:List Int}:mapO toInt ds=some ns->ds=ns.map D.int:=z32 z1V
theorem z7K{ds:List D}{ts:List (Int×Int)}:mapO toTie ds=some ts->ds=ts.map tieD:=z32 z7I
theorem zDc{ds:List D}{bs:List Bool}:mapO toBl ds=some bs->ds=bs.map D.bl:=z32 zDa
theorem z4B(ns:List Int):mapO toInt (ns.map D.int)=some ns:=z5f (g:=D.int) (λ_=>rfl) ns
theorem z95(ns:List Bool):mapO toBl (ns.map D.bl)=some ns:=z5f (g:=D.bl) (λ_=>rfl) ns
theorem z4C(ts:List (Int×Int)):mapO toTie (ts.map tieD)=some ts:=z5f (g:=tieD) (λ_=>rfl) ts
theorem z96(ns:List Int)(h:ns.length<64):sortD (ns.map D.int)=some ((isortI ns).map D.int):=by
 unfold sortD
 rw[if_pos (by rw[List.length_map];exact h),z4B]
theorem z3V(ts:List (Int×Int))(h:ts.length<64):sortD (ts.map tieD)=some ((isortT ts).map tieD):=by
 cases ts with
 | nil=>rfl
 | cons t r=>
  unfold sortD
  rw[if_pos (by rw[List.length_map];exact h),show mapO toInt ((t::r).map tieD)=none from rfl]
  dsimp only
  rw[z4C]
theorem z8x(ts:List (Int×Int))(h:ts.length<300):sortD (ts.map tieD)=some ((isortT ts).map tieD):=by
 by_cases h64:ts.length<64
 ·exact z3V ts h64
 ·unfold sortD
  rw[if_neg (by rw[List.length_map];exact h64),if_pos (by rw[List.length_map];exact h),z4C]
theorem z97{α:Type}{g:α->D}(h:∀a,lf (g a)=true)(l:List α):lfs (l.map g)=true:=by
 induction l with
 | nil=>rfl
 | cons a r ih=>
  show(lf (g a)&&lfs (r.map g))=true
  rw[h,ih];rfl
theorem z00(ns:List Int):lfs (ns.map D.int)=true:=z97 (g:=D.int) (λ_=>rfl) ns
theorem z0V(ns:List (Int×Int)):lfs (ns.map tieD)=true:=z97 (g:=tieD) (λ_=>rfl) ns
end Ev
namespace Ev
open PySem (Str)
def Fl(l:List (Str×Fn)):FEnv:=λx=>l.lookup x
def mkFn(W:Wd)(np n:Nat)(fl:List Bool)(b:List Sx):Fn:=⟨λds=>if ds.length=np then evFn W n fl b ds else none,fl⟩
def treeFn(chk:Fn):Fn:=⟨λds=>match ds with
 | [.int n,.lst ts]=>if lfs ts then match chk.m [.int n,.lst ts]with
  | some (.ok _)=>some (.ok (.tree n ts))
  | some (.exc c)=>some (.exc c)
  | none=>none
  else none
 | _=>none,[]⟩
inductive Tb where
 | ret (f:Str) (es:List Ex)
 | ifret (c:Ex) (f:Str) (es:List Ex)
inductive Hx where
 | isi|lst (pre:List Int)|tup (pre:List Int)
structure Hn where
 x:Str
 i:Nat
 h:Hx
 y:Str
end Ev
namespace Ev
open PySem L2
structure Tx where
 K:PySem.W.Frag
 CT:Addr
 cv:Str->Value
mutual
def Rep(T:Tx)(H:Hp)(C:Addr->Prop):D->V->Prop
 | .non,v=>v= .non
 | .bl b,v=>v= .bl b
 | .int i,v=>v= .int i
 | .str s,v=>v= .str s
 | .lst ds,v=>∃a xs,v= .ref a/\C a/\H a=some (.lst xs)/\Reps T H C ds xs
 | .tup ds,v=>∃a xs,v= .ref a/\SqT T.K H a xs/\Reps T H C ds xs
 | .tree n ts,v=>∃a dx l xs,v= .ref a/\C l/\H a=some (.ins T.CT dx [("many",.int n),("ties",.ref l)])/\H l=some (.lst xs)/\Reps T H C ts xs
 | .scr ns,v=>∃a,v= .ref a/\((∃o,H a=some (.frz o (.lst (ns.map V.int))))\/(∃(o:Obj)(its:Array Value)(n:Nat),T.K.lookup a=some o/\o.cls= .type "list"/\o.dict=none/\o.data= .seq its n/\its.size<=sizeLine/\Vals (ns.map V.int) its.toList))
 | .exc c,v=>∃a,v= .ref a/\H a=some (.ext (excAt a (T.cv c)))
def Reps(T:Tx)(H:Hp)(C:Addr->Prop):List D->List V->Prop
 | [],vs=>vs=[]
 | d::ds,vs=>∃w ws,vs=w::ws/\Rep T H C d w/\Reps T H C ds ws
end
def NotL(o:HO):Prop:=∀xs,o≠ .lst xs
mutual
theorem Rep.mono{T:Tx}{H H':Hp}{C C':Addr->Prop}(hH:∀b o,H b=some o->(C b\/NotL o)->H' b=some o)(hC:∀b,C b->C' b):∀(d:D)(v:V),Rep T H C d v->Rep T H' C' d v
 | .non,v,h=>h
 | .bl _,v,h=>h
 | .int _,v,h=>h
 | .str _,v,h=>h
 | .lst ds,v,h=>by
  obtain⟨a,xs,e,c,q,r⟩:=h
  exact⟨a,xs,e,hC _ c,hH _ _ q (.inl c),Reps.mono hH hC ds xs r⟩
 | .tup ds,v,h=>by
  obtain⟨a,xs,e,q,r⟩:=h
  refine⟨a,xs,e,?_,Reps.mono hH hC ds xs r⟩
  rcases q with(q|⟨o,q⟩)|q
  ·exact .inl (.inl (hH _ _ q (.inr λ_ z=>nomatch z)))
  ·exact .inl (.inr ⟨o,hH _ _ q (.inr λ_ z=>nomatch z)⟩)
  ·exact .inr q
 | .tree n ts,v,h=>by
  obtain⟨a,dx,l,xs,e,c,q,q',r⟩:=h
  exact⟨a,dx,l,xs,e,hC _ c,hH _ _ q (.inr λ_ z=>nomatch z),hH _ _ q' (.inl c),Reps.mono hH hC ts xs r⟩
 | .scr ns,v,h=>by
  obtain⟨a,e,q⟩:=h
  refine⟨a,e,q.imp (λ⟨o,q⟩=>⟨o,hH _ _ q (.inr λ_ z=>nomatch z)⟩) id⟩
 | .exc c,v,h=>by
  obtain⟨a,e,q⟩:=h
  exact⟨a,e,hH _ _ q (.inr λ_ z=>nomatch z)⟩
theorem Reps.mono{T:Tx}{H H':Hp}{C C':Addr->Prop}(hH:∀b o,H b=some o->(C b\/NotL o)->H' b=some o)(hC:∀b,C b->C' b):∀(ds:List D)(vs:List V),Reps T H C ds vs->Reps T H' C' ds vs
 | [],vs,h=>h
 | d::ds,vs,h=>by
  obtain⟨w,ws,e,r,rs⟩:=h
  exact⟨w,ws,e,Rep.mono hH hC d w r,Reps.mono hH hC ds ws rs⟩
end
mutual
theorem Rep.dom{T:Tx}{H:Hp}{C:Addr->Prop}:∀(d:D)(v:V),Rep T H C d v->Rep T H (λb=>C b/\H b≠none) d v
 | .non,v,h=>h
 | .bl _,v,h=>h
 | .int _,v,h=>h
 | .str _,v,h=>h
 | .lst ds,v,h=>by
  obtain⟨a,xs,e,c,q,r⟩:=h
  exact⟨a,xs,e,⟨c,by rw[q];exact λz=>nomatch z⟩,q,Reps.dom ds xs r⟩
 | .tup ds,v,h=>by
  obtain⟨a,xs,e,q,r⟩:=h
  exact⟨a,xs,e,q,Reps.dom ds xs r⟩
 | .tree n ts,v,h=>by
  obtain⟨a,dx,l,xs,e,c,q,q',r⟩:=h
  exact⟨a,dx,l,xs,e,⟨c,by rw[q'];exact λz=>nomatch z⟩,q,q',Reps.dom ts xs r⟩
 | .scr ns,v,h=>h
 | .exc c,v,h=>h
theorem Reps.dom{T:Tx}{H:Hp}{C:Addr->Prop}:∀(ds:List D)(vs:List V),Reps T H C ds vs->Reps T H (λb=>C b/\H b≠none) ds vs
 | [],vs,h=>h
 | d::ds,vs,h=>by
  obtain⟨w,ws,e,r,rs⟩:=h
  exact⟨w,ws,e,Rep.dom d w r,Reps.dom ds ws rs⟩
end
mutual
theorem Rep.free{T:Tx}{H:Hp}{C C':Addr->Prop}:∀(d:D)(v:V),lf d=true->Rep T H C d v->Rep T H C' d v
 | .non,v,_,h=>h
 | .bl _,v,_,h=>h
 | .int _,v,_,h=>h
 | .str _,v,_,h=>h
 | .lst ds,v,l,h=>by simp[lf]at l
 | .tup ds,v,l,h=>by
  obtain⟨a,xs,e,q,r⟩:=h
  exact⟨a,xs,e,q,Reps.free ds xs (by simpa [lf] using l) r⟩
 | .tree n ts,v,l,h=>by simp[lf]at l
 | .scr ns,v,_,h=>h
 | .exc c,v,_,h=>h
theorem Reps.free{T:Tx}{H:Hp}{C C':Addr->Prop}:∀(ds:List D)(vs:List V),lfs ds=true->Reps T H C ds vs->Reps T H C' ds vs
 | [],vs,_,h=>h
 | d::ds,vs,l,h=>by
  obtain⟨w,ws,e,r,rs⟩:=h
  simp only[lfs,Bool.and_eq_true]at l
  exact⟨w,ws,e,Rep.free d w l.1 r,Reps.free ds ws l.2 rs⟩
end
section
variable{T:Tx}{H H':Hp}{C C':Addr->Prop}{d:D}{v:V}{ds es:List D}{vs ws:List V}
theorem Rep.same(s:Same H H')(h:Rep T H C d v):Rep T H' C d v:=Rep.mono (λb o q _=>s b o q) (λ_ q=>q) d v h
theorem Rep.imp(hC:∀b,C b->C' b)(h:Rep T H C d v):Rep T H C' d v:=Rep.mono (λb o q _=>q) hC d v h
theorem Rep.any(h:Rep T H C d v):Rep T H (λ_=>True) d v:=h.imp λ_ _=>trivial
theorem Reps.same(s:Same H H')(h:Reps T H C ds vs):Reps T H' C ds vs:=Reps.mono (λb o q _=>s b o q) (λ_ q=>q) ds vs h
theorem Reps.imp(hC:∀b,C b->C' b)(h:Reps T H C ds vs):Reps T H C' ds vs:=Reps.mono (λb o q _=>q) hC ds vs h
theorem Reps.any(h:Reps T H C ds vs):Reps T H (λ_=>True) ds vs:=h.imp λ_ _=>trivial
theorem Rep.upd{a:Addr}{xs:List V}{o:HO}(ha:H a=some (.lst xs))(hn:∀b,C b->b≠a)(h:Rep T H C d v):Rep T (L2.upd H a o) C d v:=
 Rep.mono (λb u q c=>by
  have:b≠a:=by
   rcases c with c|c
   ·exact hn b c
   ·intro e;subst e;rw[ha]at q;cases q;exact c xs rfl
  rw[z0f this];exact q) (λ_ q=>q) d v h
theorem Reps.upd{a:Addr}{xs:List V}{o:HO}(ha:H a=some (.lst xs))(hn:∀b,C b->b≠a)(h:Reps T H C ds vs):Reps T (L2.upd H a o) C ds vs:=
 Reps.mono (λb u q c=>by
  have:b≠a:=by
   rcases c with c|c
   ·exact hn b c
   ·intro e;subst e;rw[ha]at q;cases q;exact c xs rfl
  rw[z0f this];exact q) (λ_ q=>q) ds vs h
theorem Reps.length:∀{ds:List D}{vs:List V},Reps T H C ds vs->vs.length=ds.length
 | [],_,h=>by cases h;rfl
 | d::ds,_,⟨w,ws,e,_,rs⟩=>by subst e;simp[Reps.length rs]
theorem Reps.append:∀{ds es:List D}{vs ws:List V},Reps T H C ds vs->Reps T H C es ws->Reps T H C (ds++es) (vs++ws)
 | [],_,_,_,h,h'=>by cases h;exact h'
 | d::ds,_,_,_,⟨w,ws,e,r,rs⟩,h'=>by subst e;exact⟨w,_,rfl,r,Reps.append rs h'⟩
theorem Reps.get:∀{ds:List D}{vs:List V}{i:Nat}{d:D},Reps T H C ds vs->ds[i]? = some d-> ∃v,vs[i]? = some v/\Rep T H C d v
 | [],_,_,_,_,e=>by simp at e
 | d::ds,_,0,_,⟨w,ws,e,r,rs⟩,q=>by subst e;simp at q;subst q;exact⟨w,rfl,r⟩
 | d::ds,_,i+1,_,⟨w,ws,e,r,rs⟩,q=>by
  subst e
  obtain⟨v,h1,h2⟩:=Reps.get (i:=i) rs (by simpa using q)
  exact⟨v,by simpa using h1,h2⟩
theorem Reps.get':∀{ds:List D}{vs:List V}{i:Nat}{v:V},Reps T H C ds vs->vs[i]? = some v-> ∃d,ds[i]? = some d/\Rep T H C d v
 | [],_,_,_,h,e=>by cases h;simp at e
 | d::ds,_,0,_,⟨w,ws,e,r,rs⟩,q=>by subst e;simp at q;subst q;exact⟨d,rfl,r⟩
 | d::ds,_,i+1,_,⟨w,ws,e,r,rs⟩,q=>by
  subst e
  obtain⟨v,h1,h2⟩:=Reps.get' (i:=i) rs (by simpa using q)
  exact⟨v,by simpa using h1,h2⟩
theorem Reps.drop:∀{ds:List D}{vs:List V}(n:Nat),Reps T H C ds vs->Reps T H C (ds.drop n) (vs.drop n)
 | _,_,0,h=>h
 | [],_,n+1,h=>by cases h;exact rfl
 | d::ds,_,n+1,⟨w,ws,e,r,rs⟩=>by subst e;exact Reps.drop n rs
theorem Reps.take:∀{ds:List D}{vs:List V}(n:Nat),Reps T H C ds vs->Reps T H C (ds.take n) (vs.take n)
 | _,_,0,h=>rfl
 | [],_,n+1,h=>by cases h;exact rfl
 | d::ds,_,n+1,⟨w,ws,e,r,rs⟩=>by subst e;exact⟨w,_,rfl,r,Reps.take n rs⟩
theorem Reps.set:∀{ds:List D}{vs:List V}(i:Nat),Rep T H C d v->Reps T H C ds vs->Reps T H C (ds.set i d) (vs.set i v)
 | [],_,i,_,h=>by cases h;exact rfl
 | e::ds,_,0,r,⟨w,ws,q,_,rs⟩=>by subst q;exact⟨v,ws,rfl,r,rs⟩
 | e::ds,_,i+1,r,⟨w,ws,q,r',rs⟩=>by subst q;exact⟨w,_,rfl,r',Reps.set i r rs⟩
theorem z3W(ns:List Int):Reps T H C (ns.map D.int) (ns.map V.int):=by
 induction ns with
 | nil=>exact rfl
 | cons n r ih=>exact⟨_,_,rfl,rfl,ih⟩
end
structure Ctx where
 H0:Hp
 P:Addr->Prop
 O:Addr->Prop
 S:Addr->Prop
def Cond(Γ:Ctx)(c:Cl)(b:Addr):Prop:=¬Γ.O b/\(c= .fl->Γ.H0 b=none\/Γ.P b)
inductive Gh where
 | val (c:Cl) (d:D) (v:V)
 | at(a:Addr) (xs:List V)
def GOk(T:Tx)(Γ:Ctx)(H:Hp):Gh->Prop
 | .val c d v=>Rep T H (Cond Γ c) d v
 | .at a xs=>H a=some (.lst xs)/\ ¬Γ.O a
def TCc(Γ:Ctx)(c:Cl)(b:Addr):Prop:=c= .dp\/Cond Γ c b
theorem TCc.cond{Γ:Ctx}{c:Cl}{b:Addr}(h:TCc Γ c b)(hc:c≠ .dp):Cond Γ c b:=h.resolve_left hc
def Loose(H:Hp)(S:Addr->Prop)(ds:List D)(n:Nat)(v:V):Prop:=∃a xs,v= .ref a/\S a/\H a=some (.lst xs)/\xs.length<=ds.length+n/\ ∀(k:Nat)(es:List D),ds[k]? = some (.lst es)-> ∃b ys,xs[k]? = some (.ref b)/\S b/\H b=some (.lst ys)/\ys.length<=es.length+n
def Deep(T:Tx)(S:Addr->Prop)(H:Hp)(d:D)(v:V):Prop:=(∀ds,d= .lst ds->Rep T H S d v)/\ ∀ds n,looseOf d=some (ds,n)->Loose H S ds n v
def EntOk(T:Tx)(Γ:Ctx)(H:Hp)(e:Ent)(v:V):Prop:=
 (e.own=true->e.c≠ .dp-> ∃a xs ds,e.d= .lst ds/\v= .ref a/\Γ.O a/\ ¬Γ.S a/\H a=some (.lst xs)/\Reps T H (Cond Γ e.c) ds xs)/\(e.own=true->e.c= .dp->Deep T Γ.S H e.d v)/\(e.own=false->Rep T H (Cond Γ e.c) e.d v)
structure EnvOk(T:Tx)(Γ:Ctx)(G:List Gh)(ρ:Env)(σ:St)(H:Hp):Prop where
 same:Same Γ.H0 H
 own:∀a,Γ.O a->Γ.H0 a=none/\H a≠none
 deep:∀a,Γ.S a->Γ.O a
 ent:∀(i:Nat)(e:Ent),ρ[i]? = some (some e)-> ∃v,σ[i]? = some (some v)/\EntOk T Γ H e v
 inj:∀(i j:Nat)(e e':Ent),i≠j->ρ[i]? = some (some e)->ρ[j]? = some (some e')->e.own=true->e'.own=true->e.c≠ .dp->e'.c≠ .dp->σ[i]? ≠ σ[j]?
 gh:∀g∈G,GOk T Γ H g
 len:σ.length=ρ.length
def ROk(T:Tx)(Γ:Ctx)(H H':Hp)(d:D)(t:Tag)(v:V):Prop:=match t with
 | .new=>Rep T H' (λb=>H b=none) d v
 | .cl c=>Rep T H' (TCc Γ c) d v
 | .own c=>∃a xs ds,d= .lst ds/\v= .ref a/\Γ.O a/\H' a=some (.lst xs)/\Reps T H' (TCc Γ c) ds xs
def TC(Γ:Ctx)(H:Hp):Tag->Addr->Prop
 | .new=>λb=>H b=none
 | .cl c=>TCc Γ c
 | .own c=>TCc Γ c
section
variable{T:Tx}{Γ:Ctx}{G:List Gh}{ρ:Env}{σ:St}{H H1 H2 H':Hp}{d:D}{t u:Tag}{v:V}{c:Cl}{e:Ent}
theorem GOk.same{g:Gh}(s:Same H H')(h:GOk T Γ H g):GOk T Γ H' g:=by
 cases g with
 | val c d v=>exact Rep.same s h
 | «at» a xs=>exact⟨s _ _ h.1,h.2⟩
theorem Loose.same{S:Addr->Prop}{ds:List D}{n:Nat}(s:Same H H')(h:Loose H S ds n v):Loose H' S ds n v:=by
 obtain⟨a,xs,h1,h2,h3,hl,h4⟩:=h
 refine⟨a,xs,h1,h2,s _ _ h3,hl,λk es hk=>?_⟩
 obtain⟨b,ys,k1,k2,k3,k4⟩:=h4 k es hk
 exact⟨b,ys,k1,k2,s _ _ k3,k4⟩
theorem Deep.same{S:Addr->Prop}(s:Same H H')(h:Deep T S H d v):Deep T S H' d v:=⟨λds z=>(h.1 ds z).same s,λds n z=>(h.2 ds n z).same s⟩
theorem Deep.upd{S:Addr->Prop}{a:Addr}{xs:List V}{o:HO}(ha:H a=some (.lst xs))(hn:∀b,S b->b≠a)(h:Deep T S H d v):Deep T S (L2.upd H a o) d v:=⟨λds z=>(h.1 ds z).upd ha hn,λds n z=>by
 obtain⟨a',xs,h1,h2,h3,hl,h4⟩:=h.2 ds n z
 refine⟨a',xs,h1,h2,by rw[z0f (hn _ h2)];exact h3,hl,λk es hk=>?_⟩
 obtain⟨b,ys,k1,k2,k3,k4⟩:=h4 k es hk
 exact⟨b,ys,k1,k2,by rw[z0f (hn _ k2)];exact k3,k4⟩⟩
theorem EntOk.same(s:Same H H')(h:EntOk T Γ H e v):EntOk T Γ H' e v:=
 ⟨λz y=>let ⟨a,xs,ds,h1,h2,h3,h3',h4,h5⟩:=h.1 z y;⟨a,xs,ds,h1,h2,h3,h3',s _ _ h4,h5.same s⟩,λz y=>(h.2.1 z y).same s,λz=>(h.2.2 z).same s⟩
theorem z4D{H H':Hp}{a:Addr}(s:Same H H')(h:H a≠none):H' a≠none:=by
 cases q:H a with
 | none=>exact absurd q h
 | some o=>rw[s a o q];exact λz=>nomatch z
theorem EnvOk.mono(h:EnvOk T Γ G ρ σ H)(s:Same H H'):EnvOk T Γ G ρ σ H':=
 ⟨h.same.trans s,λa z=>⟨(h.own a z).1,z4D s (h.own a z).2⟩,h.deep,λi e q=>let ⟨v,h1,h2⟩:=h.ent i e q;⟨v,h1,h2.same s⟩,h.inj,λg z=>(h.gh g z).same s,h.len⟩
theorem EnvOk.fresh(h:EnvOk T Γ G ρ σ H){b:Addr}(n:H b=none):Cond Γ c b:=⟨λz=>(h.own b z).2 n,λ_=>.inl (h.same.free n)⟩
theorem TC.fresh(h:EnvOk T Γ G ρ σ H){b:Addr}(n:H b=none):TC Γ H t b:=by
 cases t with
 | new=>exact n
 | cl c=>exact .inr (h.fresh n)
 | own c=>exact .inr (h.fresh n)
theorem TCc.join_l{c c':Cl}{b:Addr}(h:TCc Γ c b):TCc Γ (c.join c') b:=by
 rcases h with rfl|h
 ·exact .inl rfl
 ·cases c<;>cases c'<;>first|exact .inl rfl|exact .inr h|exact .inr ⟨h.1,λz=>nomatch z⟩
theorem TCc.join_r{c c':Cl}{b:Addr}(h:TCc Γ c' b):TCc Γ (c.join c') b:=by
 rcases h with rfl|h
 ·cases c<;>exact .inl rfl
 ·cases c<;>cases c'<;>first|exact .inl rfl|exact .inr h|exact .inr ⟨h.1,λz=>nomatch z⟩
theorem TC.join_l(h:EnvOk T Γ G ρ σ H){b:Addr}(n:TC Γ H t b):TC Γ H (t.join u) b:=by
 cases t with
 | new=>exact TC.fresh h n
 | cl c=>cases u with
  | new=>exact n
  | cl c'=>exact TCc.join_l (show TCc Γ c b from n)
  | own c'=>exact .inl rfl
 | own c=>cases u with
  | new=>exact n
  | cl c'=>exact .inl rfl
  | own c'=>exact .inl rfl
theorem TC.join_r(h:EnvOk T Γ G ρ σ H){b:Addr}(n:TC Γ H u b):TC Γ H (t.join u) b:=by
 cases u with
 | new=>exact TC.fresh h n
 | cl c=>cases t with
  | new=>exact n
  | cl c'=>exact TCc.join_r (show TCc Γ c b from n)
  | own c'=>exact .inl rfl
 | own c=>cases t with
  | new=>exact n
  | cl c'=>exact .inl rfl
  | own c'=>exact .inl rfl
theorem TC.start(s:Same H H1){b:Addr}(n:TC Γ H1 t b):TC Γ H t b:=by
 cases t with
 | new=>exact s.free n
 | cl c=>exact n
 | own c=>exact n
theorem ROk.mono(s:Same H1 H2)(h:ROk T Γ H H1 d t v):ROk T Γ H H2 d t v:=by
 cases t with
 | new=>exact Rep.same s h
 | cl c=>exact Rep.same s h
 | own c=>obtain⟨a,xs,ds,h1,h2,h3,h4,h5⟩:=h;exact⟨a,xs,ds,h1,h2,h3,s _ _ h4,h5.same s⟩
theorem ROk.start(s:Same H H1)(h:ROk T Γ H1 H2 d t v):ROk T Γ H H2 d t v:=by
 cases t with
 | new=>exact Rep.imp (λb n=>s.free n) h
 | cl c=>exact h
 | own c=>exact h
theorem ROk.any(h:ROk T Γ H H' d t v):Rep T H' (λ_=>True) d v:=by
 cases t with
 | new=>exact Rep.any h
 | cl c=>exact Rep.any h
 | own c=>obtain⟨a,xs,ds,rfl,rfl,h3,h4,h5⟩:=h;exact⟨a,xs,rfl,trivial,h4,h5.any⟩
theorem ROk.list{ds:List D}(h:ROk T Γ H H' (.lst ds) t v):∃a xs,v= .ref a/\H' a=some (.lst xs)/\Reps T H' (TC Γ H t) ds xs:=by
 cases t with
 | new=>obtain⟨a,xs,e,c,q,r⟩:=h;exact⟨a,xs,e,q,r⟩
 | cl c=>obtain⟨a,xs,e,c,q,r⟩:=h;exact⟨a,xs,e,q,r⟩
 | own c=>obtain⟨a,xs,ds,h1,h2,h3,h4,h5⟩:=h;cases h1;exact⟨a,xs,h2,h4,h5⟩
theorem ROk.tuple{ds:List D}(h:ROk T Γ H H' (.tup ds) t v):∃a xs,v= .ref a/\SqT T.K H' a xs/\Reps T H' (TC Γ H t) ds xs:=by
 cases t with
 | new=>obtain⟨a,xs,e,q,r⟩:=h;exact⟨a,xs,e,q,r⟩
 | cl c=>obtain⟨a,xs,e,q,r⟩:=h;exact⟨a,xs,e,q,r⟩
 | own c=>obtain⟨a,xs,ds,h1,_⟩:=h;cases h1
theorem TC.el{b:Addr}:TC Γ H t.el b=TC Γ H t b:=by cases t<;>rfl
theorem ROk.of(h:Rep T H' (TC Γ H t) d v)(no:∀c,t≠ .own c):ROk T Γ H H' d t v:=by
 cases t with
 | new=>exact h
 | cl c=>exact h
 | own c=>exact absurd rfl (no c)
theorem ROk.rep(h:ROk T Γ H H' d t v)(no:∀c,t≠ .own c):Rep T H' (TC Γ H t) d v:=by
 cases t with
 | new=>exact h
 | cl c=>exact h
 | own c=>exact absurd rfl (no c)
theorem z6l:∀c,t.el≠ .own c:=by intro c;cases t<;>simp[Tag.el]
theorem ROk.rt(h:ROk T Γ H H' d t v):ROk T Γ H H' d (Ev.rt d t) v:=by
 unfold Ev.rt
 split
 ·rename_i l
  exact Rep.free d v l h.any
 ·exact h
end
end Ev
namespace Ev
open PySem L2
theorem PE.imp{X:Cx}{e:Expr}{t t':TE}(h:PE X e t)(hi:∀σ H Q,t' σ H Q->t σ H Q):PE X e t':=λpins s σ H Q I q=>h pins s σ H Q I (hi σ H Q q)
def Post(T:Tx)(E:XK)(Γ:Ctx)(H:Hp)(Q:VK):Res->Prop
 | .ok d t=>∀v H',Same H H'->ROk T Γ H H' d t v->Q v H'
 | .exc c=>∀H',Same H H'->E (T.cv c) none H'
def Den(T:Tx)(W:Wd)(E:XK)(t:TE)(x:Ex):Prop:=∀(Γ:Ctx)(G:List Gh)(ρ:Env)(σ:St)(H:Hp)(r:Res)(Q:VK),evE W ρ x=some r->EnvOk T Γ G ρ σ H->Post T E Γ H Q r->t σ H Q
def Snd(T:Tx)(W:Wd)(X:Cx)(E:XK)(e:Expr)(x:Ex):Prop:=∃t,PE X e t/\Den T W E t x
section
variable{T:Tx}{W:Wd}{X:Cx}{E:XK}{Γ:Ctx}{G:List Gh}{ρ:Env}{σ:St}{H H1 H2 H':Hp}{Q:VK}{r:Res}{d x y:D}{t u:Tag}{v:V}
theorem Post.mono(s:Same H H1)(h:Post T E Γ H Q r):Post T E Γ H1 Q r:=by
 cases r with
 | ok d t=>exact λv H' s' q=>h v H' (s.trans s') (q.start s)
 | exc c=>exact λH' s'=>h H' (s.trans s')
theorem Den.step{ta:TE}{xa:Ex}(ha:Den T W E ta xa){k:D->Tag->Option Res}(hk:bindR (evE W ρ xa) k=some r)(h:EnvOk T Γ G ρ σ H)(hp:Post T E Γ H Q r){Q':VK}
  (cont:∀d t v H1,k d t=some r->Same H H1->ROk T Γ H H1 d t v->EnvOk T Γ G ρ σ H1->Post T E Γ H1 Q r->Q' v H1):ta σ H Q':=by
 cases e:evE W ρ xa with
 | none=>rw[e]at hk;cases hk
 | some r1=>
  rw[e]at hk
  cases r1 with
  | exc c=>
   have z:r= .exc c:=(Option.some.inj hk).symm
   subst z
   exact ha Γ G ρ σ H _ _ e h hp
  | ok d t=>exact ha Γ G ρ σ H _ _ e h λv H' s q=>cont d t v H' hk s q (h.mono s) (hp.mono s)
theorem zDd{i:Int}:ROk T Γ H H' (.int i) .new (.int i):=rfl
theorem z4E:∀c,(t.el.join u.el)≠ .own c:=by intro c;cases t<;>cases u<;>simp[Tag.el,Tag.join]
theorem mkList{ds:List D}{xs:List V}{p:Addr}(h:EnvOk T Γ G ρ σ H)(s:Same H H1)(n:H1 p=none)(no:∀c,t≠ .own c)(r:Reps T H1 (TC Γ H t) ds xs):
  Same H1 (L2.upd H1 p (.lst xs))/\ROk T Γ H (L2.upd H1 p (.lst xs)) (.lst ds) (rts ds t) (.ref p):=by
 have s1:Same H1 (L2.upd H1 p (.lst xs)):=Same.mk1 n
 refine⟨s1,?_⟩
 have hp:H p=none:=s.free n
 unfold rts
 split
 ·rename_i l
  exact⟨p,xs,rfl,hp,z0m,Reps.free ds xs l (r.same s1)⟩
 ·refine ROk.of ⟨p,xs,rfl,TC.fresh h hp,z0m,r.same s1⟩ no
theorem mkTup{ds:List D}{xs:List V}{p:Addr}(h:EnvOk T Γ G ρ σ H)(s:Same H H1)(n:H1 p=none)(no:∀c,t≠ .own c)(r:Reps T H1 (TC Γ H t) ds xs):
  Same H1 (L2.upd H1 p (.tup xs))/\ROk T Γ H (L2.upd H1 p (.tup xs)) (.tup ds) (rts ds t) (.ref p):=by
 have s1:Same H1 (L2.upd H1 p (.tup xs)):=Same.mk1 n
 refine⟨s1,?_⟩
 unfold rts
 split
 ·rename_i l
  exact⟨p,xs,rfl,SqT.of z0m,Reps.free ds xs l (r.same s1)⟩
 ·refine ROk.of ⟨p,xs,rfl,SqT.of z0m,r.same s1⟩ no
theorem zDe{i:Nat}{x:Str}{pos:Pos}(hN:X.N[i]? = some x)(hv:Vis X.env.scope x)(hd:(x==("__debug__":Str))=false)(hcd:(x==("__classdict__":Str))=false):Snd T W X E (.Name x pos) (.var i):=
 ⟨_,z3w hN hv hd hcd,λΓ G ρ σ H r Q he h hp=>by
  conv at he=>lhs;whnf
  split at he
  ·rename_i e he'
   obtain⟨v,hs,ok⟩:=h.ent _ _ he'
   cases ho:e.own with
   | true=>
    rw[ho,if_pos rfl]at he
    split at he
    ·rename_i ds hd
     cases he
     refine⟨v,hs,hp v H (Same.refl _) ?_⟩
     by_cases hc:e.c= .dp
     ·obtain⟨a,xs,h2,h3,h4,h5⟩:=(show Rep T H Γ.S (.lst ds) v by have:=(ok.2.1 ho hc).1 ds hd;rw[hd]at this;exact this)
      exact⟨a,xs,ds,hd,h2,h.deep _ h3,h4,h5.imp λb _=>.inl hc⟩
     ·obtain⟨a,xs,ds,h1,h2,h3,_,h4,h5⟩:=ok.1 ho hc
      exact⟨a,xs,ds,h1,h2,h3,h4,h5.imp λb z=>.inr z⟩
    ·cases he
   | false=>
    rw[ho,if_neg (by decide)]at he
    cases he
    exact⟨v,hs,hp v H (Same.refl _) (ROk.rt (t:=.cl e.c) ((ok.2.2 ho).imp λb z=>.inr z))⟩
  ·cases he⟩
theorem zDf{i:Int}{j pos}:Snd T W X E (.Constant (.int i) j pos) (.int i):=⟨_,zE6,λΓ G ρ σ H r Q he h hp=>by cases he;exact hp _ H (Same.refl _) rfl⟩
theorem zFj{b:Bool}{j pos}:Snd T W X E (.Constant (.bool b) j pos) (.bl b):=⟨_,zGe,λΓ G ρ σ H r Q he h hp=>by cases he;exact hp _ H (Same.refl _) rfl⟩
theorem zDg{j pos}:Snd T W X E (.Constant .none j pos) .non:=⟨_,z5Q,λΓ G ρ σ H r Q he h hp=>by cases he;exact hp _ H (Same.refl _) rfl⟩
theorem zDh{s:Str}{j pos}:Snd T W X E (.Constant (.str s) j pos) (.str s):=⟨_,zE7,λΓ G ρ σ H r Q he h hp=>by cases he;exact hp _ H (Same.refl _) rfl⟩
theorem zBs{x:Str}{pos:Pos}(hg:Gl X x)(hm:∀i,W.glob x=some i-> ∃t,X.mg x=some (.int i t))(hd:(x==("__debug__":Str))=false):Snd T W X E (.Name x pos) (.glob x):=by
 cases e:W.glob x with
 | none=>exact⟨λ_ _ _=>False,λ_ _ _ _ _ _ q=>q.elim,λΓ G ρ σ H r Q he h hp=>by(conv at he=>lhs;whnf);rw[e]at he;cases he⟩
 | some i=>
  obtain⟨t,q⟩:=hm i e
  exact⟨_,zCA (v:=.int i) hg q ⟨t,rfl⟩ hd,λΓ G ρ σ H r Q he h hp=>by
   (conv at he=>lhs;whnf);rw[e]at he;cases he;exact hp _ H (Same.refl _) rfl⟩
theorem zDi{a:Expr}{xa:Ex}{pos}(ha:Snd T W X E a xa):Snd T W X E (.UnaryOp .USub a pos) (.neg xa):=by
 obtain⟨ta,pa,da⟩:=ha
 refine⟨_,zGj zEQ pa,λΓ G ρ σ H r Q he h hp=>?_⟩
 conv at he=>lhs;whnf
 refine da.step he h hp λd t v H1 hk s ok h1 hp1=>?_
 split at hk
 ·rename_i i
  cases hk
  cases(show v= .int i from ok.any)
  exact⟨i,rfl,hp1 _ H1 (Same.refl _) rfl⟩
 ·cases hk
theorem zDj{a:Expr}{xa:Ex}{pos}(ha:Snd T W X E a xa):Snd T W X E (.UnaryOp .Not a pos) (.not xa):=by
 obtain⟨ta,pa,da⟩:=ha
 refine⟨_,zEE pa,λΓ G ρ σ H r Q he h hp=>?_⟩
 conv at he=>lhs;whnf
 refine da.step he h hp λd t v H1 hk s ok h1 hp1=>?_
 split at hk
 ·rename_i b
  cases hk
  cases(show v= .bl b from ok.any)
  exact⟨b,rfl,hp1 _ H1 (Same.refl _) rfl⟩
 ·cases hk
theorem OpR.or{f:Value->Value->Sem Value}{r r':R2}(h:OpR X f r)(h':OpR X f r'):OpR X f (λx y H Q=>r x y H Q\/r' x y H Q):=by
 intro pins s σ H x y v u Q I rx ry q
 rcases q with q|q
 ·exact h pins s σ H x y v u Q I rx ry q
 ·exact h' pins s σ H x y v u Q I rx ry q
structure OpB(T:Tx)(X:Cx)(op:Operator)(o:Bop)(r:R2):Prop where
 op:OpR X (binaryOp op) r
 run:∀{Γ:Ctx}{G:List Gh}{ρ:Env}{σ:St}{H H1:Hp}{x y:D}{tx ty:Tag}{vx vy:V}{d:D}{Q:VK},EnvOk T Γ G ρ σ H->Same H H1->ROk T Γ H H1 x tx vx->ROk T Γ H H1 y ty vy->binD o x y=some d->
  (∀v H',Same H1 H'->ROk T Γ H H' d (tagB d tx ty) v->Q v H')->r vx vy H1 Q
theorem z5h{op:Operator}{o:Bop}{C:Int->Int->Prop}{g:Int->Int->Int}(ho:OpR X (binaryOp op) (rI C λi j=>.int (g i j)))(hd:∀x y d,binD o x y=some d-> ∃i j,x= .int i/\y= .int j/\C i j/\d= .int (g i j)):
  OpB T X op o (rI C λi j=>.int (g i j)) where
 op:=ho
 run:=λ{Γ G ρ σ H H1 x y tx ty vx vy d Q}h s ox oy hb q=>by
  obtain⟨i,j,rfl,rfl,hc,rfl⟩:=hd _ _ _ hb
  exact⟨i,j,ox.any,oy.any,hc,q _ H1 (Same.refl _) rfl⟩
theorem zDk:OpB T X .Add .add (λx y H Q=>rI0 (λi j=>.int (i+j)) x y H Q\/rCat x y H Q) where
 op:=OpR.or zEL zFa
 run:=λ{Γ G ρ σ H H1 x y tx ty vx vy d Q}h s ox oy hb q=>by
  cases x with
  | int i=>cases y with
   | int j=>cases hb;exact .inl ⟨_,_,ox.any,oy.any,q _ H1 (Same.refl _) rfl⟩
   | _=>cases hb
  | lst a=>cases y with
   | lst b=>
    obtain⟨hz,hb⟩:=iteN hb
    cases hb
    obtain⟨l,xs,rfl,hl,rl⟩:=ox.list
    obtain⟨m,zs,rfl,hm,rm⟩:=oy.list
    have e1:=rl.length
    have e2:=rm.length
    refine .inr ⟨l,m,xs,zs,rfl,rfl,hl,hm,Nat.le_trans (by rw[e1,e2];exact hz) (by decide),λp hp=>?_⟩
    obtain⟨s1,ok⟩:=mkList (t:=tx.el.join ty.el) h s hp z4E ((rl.imp λb z=>TC.join_l h (by rw[TC.el];exact z)).append (rm.imp λb z=>TC.join_r h (by rw[TC.el];exact z)))
    exact q _ _ s1 ok
   | _=>cases hb
  | _=>cases hb
theorem zDl:OpB T X .Mult .mul (λx y H Q=>rI CMul (λi j=>.int (i*j)) x y H Q\/rRep x y H Q) where
 op:=OpR.or zEN zFb
 run:=λ{Γ G ρ σ H H1 x y tx ty vx vy d Q}h s ox oy hb q=>by
  cases x with
  | int i=>cases y with
   | int j=>
    obtain⟨hz,hb⟩:=iteN hb
    cases hb
    exact .inl ⟨_,_,ox.any,oy.any,hz,q _ H1 (Same.refl _) rfl⟩
   | _=>cases hb
  | lst a=>cases y with
   | int b=>
    obtain⟨hz,hb⟩:=iteN hb
    ·cases hb
     obtain⟨l,xs,rfl,hl,rl⟩:=ox.list
     have e1:=rl.length
     obtain⟨z1,z2,z3⟩:=hz
     have z4:b.toNat<=1000:=by lia
     refine .inr ⟨l,b,xs,rfl,oy.any,hl,by lia,by omega,Nat.le_trans (Nat.mul_le_mul (show xs.length<=100 by rw[e1];exact z3) z4) (by decide),λp hp=>?_⟩
     have rr:Reps T H1 (TC Γ H (tx.el.join ty.el)) (List.replicate b.toNat a).flatten (List.replicate b.toNat xs).flatten:=by
      have base:=rl.imp (C':=TC Γ H (tx.el.join ty.el)) λb z=>TC.join_l h (by rw[TC.el];exact z)
      generalize b.toNat=k
      induction k with
      | zero=>exact rfl
      | succ k ih=>simp only[List.replicate_succ,List.flatten_cons];exact base.append ih
     obtain⟨s1,ok⟩:=mkList (t:=tx.el.join ty.el) h s hp z4E rr
     exact q _ _ s1 ok
   | _=>cases hb
  | _=>cases hb
theorem zDm:OpB T X .Sub .sub (rI (λ_ _=>True) λi j=>.int (i-j)):=z5h (λpins s σ H x y v u Q I rx ry⟨i,j,e1,e2,_,q⟩=>zEM pins s σ H x y v u Q I rx ry ⟨i,j,e1,e2,q⟩) λx y d hb=>by
 obtain⟨i,j,rfl,rfl,e⟩:=z28 hb
 cases e
 exact⟨i,j,rfl,rfl,trivial,rfl⟩
theorem zBt:OpB T X .FloorDiv .fdiv (rI CDiv λi j=>.int (i/j)):=z5h zCJ λx y d hb=>by
 obtain⟨i,j,rfl,rfl,e⟩:=z28 hb
 obtain⟨hz,e⟩:=iteN e
 cases e
 exact⟨i,j,rfl,rfl,hz,rfl⟩
theorem zDn:OpB T X .Mod .mod (rI (λ_ j=>0<j) λi j=>.int (i%j)):=z5h zEO λx y d hb=>by
 obtain⟨i,j,rfl,rfl,e⟩:=z28 hb
 obtain⟨hz,e⟩:=iteN e
 cases e
 exact⟨i,j,rfl,rfl,hz,rfl⟩
theorem zDo:OpB T X .Pow .pow (rI CPow λi j=>.int (i^j.toNat)):=z5h zEP λx y d hb=>by
 obtain⟨i,j,rfl,rfl,e⟩:=z28 hb
 obtain⟨hz,e⟩:=iteN e
 cases e
 exact⟨i,j,rfl,rfl,hz,rfl⟩
theorem zDp{op:Operator}{o:Bop}(h:trOp op=some o):∃r,OpB T X op o r:=by
 cases op<;>simp[trOp]at h<;>subst h
 ·exact⟨_,zDk⟩
 ·exact⟨_,zDm⟩
 ·exact⟨_,zDl⟩
 ·exact⟨_,zDn⟩
 ·exact⟨_,zDo⟩
 ·exact⟨_,zBt⟩
theorem zDq{op:Operator}{o:Bop}(ho:trOp op=some o){a b:Expr}{xa xb:Ex}{pos}(ha:Snd T W X E a xa)(hb:Snd T W X E b xb):Snd T W X E (.BinOp a op b pos) (.bin o xa xb):=by
 obtain⟨r0,OB⟩:=zDp (T:=T) (X:=X) ho
 obtain⟨ta,pa,da⟩:=ha
 obtain⟨tb,pb,db⟩:=hb
 refine⟨_,zGi OB.op pa pb,λΓ G ρ σ H r Q he h hp=>?_⟩
 conv at he=>lhs;whnf
 refine da.step he h hp λx t v H1 hk s ok h1 hp1=>?_
 refine db.step hk h1 hp1 λy u w H2 hk s2 ok2 h2 hp2=>?_
 split at hk
 ·cases hk
 ·rename_i d hb
  refine OB.run h (s.trans s2) (ok.mono s2) (ok2.start s) hb λv' H' s3 ok3=>?_
  have:r= .ok d (tagB d t u):=by
   cases d<;>(cases hk;rfl)
  subst this
  exact hp v' H' ((s.trans s2).trans s3) ok3
end
end Ev
namespace Ev
open PySem L2
section
variable{T:Tx}{W:Wd}{X:Cx}{E:XK}{Γ:Ctx}{G:List Gh}{ρ:Env}{σ:St}{H H1 H2 H':Hp}{C C':Addr->Prop}{Q:VK}{r:Res}{d x y:D}{t u:Tag}{v w vx vy:V}{b:Bool}
theorem z2w(h:eqF x y=some b)(rx:Rep T H C x vx)(ry:Rep T H C' y vy):flatV vx=true/\flatV vy=true/\b=eqV vx vy/\scal vx vy=true/\b=decide (vx=vy):=by
 cases x with
 | non=>
  cases(show vx= .non from rx)
  cases y with
  | non=>cases(show vy= .non from ry);cases h;exact⟨rfl,rfl,rfl,rfl,rfl⟩
  | bl a=>cases(show vy= .bl a from ry);cases h;exact⟨rfl,rfl,rfl,rfl,rfl⟩
  | int a=>cases(show vy= .int a from ry);cases h;exact⟨rfl,rfl,rfl,rfl,rfl⟩
  | _=>cases h
 | bl a=>
  cases(show vx= .bl a from rx)
  cases y with
  | non=>cases(show vy= .non from ry);cases h;exact⟨rfl,rfl,rfl,rfl,rfl⟩
  | bl c=>cases(show vy= .bl c from ry);cases h;exact⟨rfl,rfl,rfl,rfl,z9e.symm⟩
  | _=>cases h
 | int a=>
  cases(show vx= .int a from rx)
  cases y with
  | non=>cases(show vy= .non from ry);cases h;exact⟨rfl,rfl,rfl,rfl,rfl⟩
  | int c=>cases(show vy= .int c from ry);cases h;exact⟨rfl,rfl,rfl,rfl,z6J.symm⟩
  | _=>cases h
 | _=>cases h
def eAt(f:D->D->Option Bool)(a b:List D)(i:Nat):Bool:=((a[i]?).bind λx=>(b[i]?).bind λy=>f x y).getD false
theorem z2j{f:D->D->Option Bool}:∀{a b:List D}{z:Bool},eqL f a b=some z->a.length=b.length/\(∀(i:Nat)x y,a[i]? = some x->b[i]? = some y->f x y=some (eAt f a b i))/\z=(List.range a.length).all (eAt f a b)
 | [],b,z,h=>by
  obtain⟨hb,h1⟩:=iteN h
  rw[z49 hb,<-Option.some.inj h1]
  exact⟨rfl,λi x y e=>by simp at e,rfl⟩
 | x::a,b0,z,h=>by
  obtain⟨q,hq0,h1⟩:=bndI h
  obtain⟨p,hp,h2⟩:=bndI h1
  obtain⟨w,hq,e⟩:=mapI h2
  clear h h1 h2
  rw[zFe hq0,<-e]
  clear hq0 e
  obtain⟨h1,h2,h3⟩:=z2j hq
  refine⟨congrArg Nat.succ h1,λi x' y' e1 e2=>?_,?_⟩
  ·cases i with
   | zero=>cases e1;cases e2;show _=some ((f x q.1).getD false);rw[hp];rfl
   | succ i=>exact h2 i x' y' e1 e2
  ·rw[List.length_cons,List.range_succ_eq_map,List.all_cons,List.all_map,h3]
   show _=(((f x q.1).getD false)&&_)
   rw[hp];rfl
theorem z98{pins:List (Addr×Obj)}{s:Shared}(I:Inv X pins σ H s)(hK:X.K=T.K):∀(n:Nat){x y:D}{b:Bool}{v:V}{C C':Addr->Prop},eqDn n x y=some b->Rep T H C x v->Rep T H C' y v->b=true:=by
 have flat:∀{x y:D}{b:Bool}{v:V}{C C':Addr->Prop},eqF x y=some b->Rep T H C x v->Rep T H C' y v->b=true:=λh r1 r2=>by
  have:=(z2w h r1 r2).2.2.2.2
  simpa using this
 intro n
 induction n with
 | zero=>intro x y b v C C' h r1 r2;exact flat h r1 r2
 | succ n ih=>
  have lists:∀{a c:List D}{z:Bool}{xs:List V}{C C':Addr->Prop},eqL (eqDn n) a c=some z->Reps T H C a xs->Reps T H C' c xs->z=true:=λ{a c z xs C C'}h r1 r2=>by
   obtain⟨_,h2,h3⟩:=z2j h
   rw[h3,List.all_eq_true]
   intro i hi
   have hi':i<a.length:=by simpa using hi
   have e1:a[i]? = some a[i]:=List.getElem?_eq_getElem hi'
   obtain⟨v,hv,q1⟩:=r1.get e1
   obtain⟨y,hy,q2⟩:=r2.get' hv
   exact ih (h2 i _ _ e1 hy) q1 q2
  intro x y b v C C' h r1 r2
  rcases z5d h with h|⟨a,c,ex,ey,h⟩|⟨a,c,ex,ey,hl,h⟩
  ·exact flat h r1 r2
  ·rw[ex]at r1
   rw[ey]at r2
   obtain⟨p,xs,e1,_,hp,q1⟩:=r1
   obtain⟨p',xs',e,_,hp',q2⟩:=r2
   rw[e1]at e;cases e
   rw[hp]at hp';cases hp'
   rcases h with⟨_,h⟩|⟨ne,_⟩
   ·exact lists h q1 q2
   ·exact absurd (q1.length.symm.trans q2.length) ne
  ·rw[ex]at r1
   rw[ey]at r2
   obtain⟨p,xs,e1,hp,q1⟩:=r1
   obtain⟨p',xs',e,hp',q2⟩:=r2
   rw[e1]at e;cases e
   rw[<-hK]at hp hp'
   rw[I.tuple_inj hp hp']at q1
   exact lists h q1 q2
theorem z6m{pins:List (Addr×Obj)}{s:Shared}(I:Inv X pins σ H s)(hK:X.K=T.K):∀(n:Nat){x y:D}{b:Bool}{v w:V}{C C':Addr->Prop},eqDn n x y=some b->Rep T H C x v->Rep T H C' y w->EqR X.K H n v w b:=by
 have flat:∀{n:Nat}{x y:D}{b:Bool}{v w:V}{C C':Addr->Prop},eqF x y=some b->Rep T H C x v->Rep T H C' y w->EqR X.K H n v w b:=λh r1 r2=>by
  obtain⟨h1,h2,h3,_⟩:=z2w h r1 r2
  rw[h3];exact .flat h1 h2
 intro n
 induction n with
 | zero=>intro x y b v w C C' h r1 r2;exact flat h r1 r2
 | succ n ih=>
  intro x y b v w C C' h r1 r2
  have same:=λhvw:v=w=>z98 I hK (n+1) h r1 (by rw[hvw];exact r2)
  rcases z5d h with h|⟨a,c,ex,ey,h⟩|⟨a,c,ex,ey,hl,h⟩
  ·exact flat h r1 r2
  ·rw[ex]at r1
   rw[ey]at r2
   obtain⟨p,xs,e1,_,hp,q1⟩:=r1
   obtain⟨p',xs',e2,_,hp',q2⟩:=r2
   rw[e1,e2]at same ⊢
   clear ex ey e1 e2
   by_cases ne:p=p'
   ·rw[same (by rw[ne]),ne];exact .same p'
   clear same
   rcases h with⟨hl,h⟩|⟨hl,h⟩
   ·obtain⟨_,h2,h3⟩:=z2j h
    rw[h3,<-q1.length]
    refine .lists ne (SqL.of hp) (SqL.of hp') (by rw[q1.length,q2.length];exact hl) λi x y e1 e2=>?_
    obtain⟨dx,f1,g1⟩:=q1.get' e1
    obtain⟨dy,f2,g2⟩:=q2.get' e2
    exact ih (h2 i _ _ f1 f2) g1 g2
   ·rw[h]
    exact .lens ne (SqL.of hp) (SqL.of hp') (by rw[q1.length,q2.length];exact hl)
  ·rw[ex]at r1
   rw[ey]at r2
   obtain⟨p,xs,e1,hp,q1⟩:=r1
   obtain⟨p',xs',e2,hp',q2⟩:=r2
   rw[e1,e2]at same ⊢
   clear ex ey e1 e2
   by_cases ne:p=p'
   ·rw[same (by rw[ne]),ne];exact .same p'
   clear same
   obtain⟨_,h2,h3⟩:=z2j h
   have z:b=((List.range (min xs.length xs'.length)).all (eAt (eqDn n) a c)&&xs.length==xs'.length):=by
    rw[h3,q1.length,q2.length,<-hl,Nat.min_self,beq_self_eq_true,Bool.and_true]
   rw[z]
   refine .tups ne (by rw[hK];exact hp) (by rw[hK];exact hp') λi x y e1 e2=>?_
   obtain⟨dx,f1,g1⟩:=q1.get' e1
   obtain⟨dy,f2,g2⟩:=q2.get' e2
   exact ih (h2 i _ _ f1 f2) g1 g2
structure OpC(T:Tx)(X:Cx)(op:CmpOp)(o:Cop)(r:R2):Prop where
 op:OpR X (compareOp op) r
 run:∀{H:Hp}{x y:D}{C C':Addr->Prop}{vx vy:V}{b:Bool}{Q:VK},Rep T H C x vx->Rep T H C' y vy->cmpD o x y=some b->Q (.bl b) H->r vx vy H Q
def rEqD(T:Tx)(ng:Bool):R2:=λvx vy H Q=>∃x y b,Rep T H (λ_=>True) x vx/\Rep T H (λ_=>True) y vy/\eqD x y=some b/\Q (.bl (ng ^^ b)) H
theorem zFk(hK:X.K=T.K)(hu:X.A.units+30<cLine):OpR X (compareOp .Eq) (rEqD T false):=by
 intro pins s σ H vx vy v u Q I rx ry h
 obtain⟨x,y,b,r1,r2,he,q⟩:=h
 rw[Bool.false_xor]at q
 rcases z5d (f:=eqDn 5) he with h|⟨a,c,ex,ey,h⟩|⟨a,c,ex,ey,hl,h⟩
 ·obtain⟨_,_,_,h4,h5⟩:=z2w h r1 r2
  exact zGk pins s σ H vx vy v u Q I rx ry ⟨h4,by rw[<-h5];exact q⟩
 ·rw[ex]at r1
  rw[ey]at r2
  obtain⟨p,xs,e1,_,hp,q1⟩:=r1
  obtain⟨p',xs',e2,_,hp',q2⟩:=r2
  clear he ex ey
  refine zFc hu pins s σ H _ _ v u Q I rx ry ⟨p,p',xs,xs',e1,e2,SqL.of hp,SqL.of hp',?_⟩
  rcases h with⟨hl,h⟩|⟨hl,h⟩
  ·obtain⟨_,h2,h3⟩:=z2j h
   refine .inr ⟨by rw[q1.length,q2.length];exact hl,5,eAt (eqDn 5) a c,by decide,λi x y e1 e2=>?_,?_⟩
   ·obtain⟨dx,f1,g1⟩:=q1.get' e1
    obtain⟨dy,f2,g2⟩:=q2.get' e2
    exact z6m I hK 5 (h2 i _ _ f1 f2) g1 g2
   ·rw[q1.length,<-h3,Bool.false_xor];exact q
  ·rw[h]at q
   exact .inl ⟨by rw[q1.length,q2.length];exact hl,q⟩
 ·rw[ex]at r1
  rw[ey]at r2
  obtain⟨p,xs,e1,hp,q1⟩:=r1
  obtain⟨p',xs',e2,hp',q2⟩:=r2
  clear he ex ey
  obtain⟨_,h2,h3⟩:=z2j h
  rw[<-hK]at hp hp'
  rw[e1]at rx
  rw[e2]at ry
  cases rx;cases ry
  obtain⟨us,k1,p1,_⟩:=I.tuple hp
  obtain⟨vs,k2,p2,_⟩:=I.tuple hp'
  have z1:us.toArray.size=a.length:=by rw[List.size_toArray,<-q1.length];exact k1.length.symm
  have z2:vs.toArray.size=a.length:=by rw[List.size_toArray,hl,<-q2.length];exact k2.length.symm
  refine SeqAt.eq_tupleAt (e:=eAt (eqDn 5) a c) (show s.heap.IsTuple p us.toArray from p1) (show s.heap.IsTuple p' vs.toArray from p2) (by omega) (λj g1 g2=>?_) ?_
  ·obtain⟨x,y,e1,e2,ru,rv⟩:=z3i k1 k2 g1 g2
   obtain⟨dx,f1,n1⟩:=q1.get' e1
   obtain⟨dy,f2,n2⟩:=q2.get' e2
   exact z6g I (z6m I hK 5 (h2 j _ _ f1 f2) n1 n2) (by show X.A.units+1+5<cLine;omega) ru rv
  ·refine⟨.bl b,H,I,?_,q⟩
   rw[z1,z2,h3];simp[RelV]
theorem zFl(hK:X.K=T.K)(hu:X.A.units+30<cLine):OpR X (compareOp .NotEq) (rEqD T true):=by
 intro pins s σ H vx vy v u Q I rx ry h
 obtain⟨x,y,b,r1,r2,he,q⟩:=h
 rw[Bool.true_xor]at q
 rcases z5d (f:=eqDn 5) he with h|⟨a,c,ex,ey,h⟩|⟨a,c,ex,ey,hl,h⟩
 ·obtain⟨_,_,_,h4,h5⟩:=z2w h r1 r2
  exact zGl pins s σ H vx vy v u Q I rx ry ⟨h4,by rw[<-h5];exact q⟩
 ·rw[ex]at r1
  rw[ey]at r2
  obtain⟨p,xs,e1,_,hp,q1⟩:=r1
  obtain⟨p',xs',e2,_,hp',q2⟩:=r2
  clear he ex ey
  refine zFd hu pins s σ H _ _ v u Q I rx ry ⟨p,p',xs,xs',e1,e2,SqL.of hp,SqL.of hp',?_⟩
  rcases h with⟨hl,h⟩|⟨hl,h⟩
  ·obtain⟨_,h2,h3⟩:=z2j h
   refine .inr ⟨by rw[q1.length,q2.length];exact hl,5,eAt (eqDn 5) a c,by decide,λi x y e1 e2=>?_,?_⟩
   ·obtain⟨dx,f1,g1⟩:=q1.get' e1
    obtain⟨dy,f2,g2⟩:=q2.get' e2
    exact z6m I hK 5 (h2 i _ _ f1 f2) g1 g2
   ·rw[q1.length,<-h3,Bool.true_xor];exact q
  ·rw[h]at q
   exact .inl ⟨by rw[q1.length,q2.length];exact hl,q⟩
 ·rw[ex]at r1
  rw[ey]at r2
  obtain⟨p,xs,e1,hp,q1⟩:=r1
  obtain⟨p',xs',e2,hp',q2⟩:=r2
  clear he ex ey
  obtain⟨_,h2,h3⟩:=z2j h
  rw[<-hK]at hp hp'
  rw[e1]at rx
  rw[e2]at ry
  cases rx;cases ry
  obtain⟨us,k1,p1,_⟩:=I.tuple hp
  obtain⟨vs,k2,p2,_⟩:=I.tuple hp'
  have z1:us.toArray.size=a.length:=by rw[List.size_toArray,<-q1.length];exact k1.length.symm
  have z2:vs.toArray.size=a.length:=by rw[List.size_toArray,hl,<-q2.length];exact k2.length.symm
  refine SeqAt.RcNeAt.tuples (e:=eAt (eqDn 5) a c) (show s.heap.IsTuple p us.toArray from p1) (show s.heap.IsTuple p' vs.toArray from p2) (by omega) (λj g1 g2=>?_) _ _ _ _ ?_
  ·obtain⟨x,y,e1,e2,ru,rv⟩:=z3i k1 k2 g1 g2
   obtain⟨dx,f1,n1⟩:=q1.get' e1
   obtain⟨dy,f2,n2⟩:=q2.get' e2
   exact z6g I (z6m I hK 5 (h2 j _ _ f1 f2) n1 n2) (by show X.A.units+1+5<cLine;omega) ru rv
  ·refine⟨.bl (!b),H,I,?_,q⟩
   rw[z1,z2,h3];simp[RelV]
theorem zFm(hK:X.K=T.K)(hu:X.A.units+30<cLine):OpC T X .Eq .eq (rEqD T false):=⟨zFk hK hu,λ{H x y C C' vx vy b Q}r1 r2 h q=>⟨x,y,b,r1.any,r2.any,h,by rw[Bool.false_xor];exact q⟩⟩
theorem zFn(hK:X.K=T.K)(hu:X.A.units+30<cLine):OpC T X .NotEq .ne (rEqD T true):=⟨zFl hK hu,λ{H x y C C' vx vy b Q}r1 r2 h q=>by
 simp only[cmpD,Option.map_eq_some_iff]at h
 obtain⟨c,h,rfl⟩:=h
 exact⟨x,y,c,r1.any,r2.any,h,by rw[Bool.true_xor];exact q⟩⟩
theorem z6U{op:CmpOp}{o:Cop}{g:Int->Int->Bool}(ho:OpR X (compareOp op) (rI0 λi j=>.bl (g i j)))(hd:∀x y b,cmpD o x y=some b-> ∃i j,x= .int i/\y= .int j/\b=g i j):OpC T X op o (rI0 λi j=>.bl (g i j)):=
 ⟨ho,λ{H x y C C' vx vy b Q}r1 r2 h q=>by
  obtain⟨i,j,rfl,rfl,rfl⟩:=hd _ _ _ h
  exact⟨i,j,r1,r2,q⟩⟩
theorem zFo:OpC T X .LtE .le (rI0 λi j=>.bl (decide (i<=j))):=z6U zGn λx y b h=>by
 exact z5c h
theorem zFp:OpC T X .Gt .gt (rI0 λi j=>.bl (decide (j<i))):=z6U zGo λx y b h=>by
 exact z5c h
theorem zFq:OpC T X .GtE .ge (rI0 λi j=>.bl (decide (j<=i))):=z6U zGp λx y b h=>by
 exact z5c h
theorem z3X{p:Int×Int}(h:toTie x=some p)(r:Rep T H C x v):∃a,v= .ref a/\SqT T.K H a ([p.1,p.2].map V.int):=by
 rw[z7I h]at r
 obtain⟨a,xs,e,q,w,ws,rfl,rfl,w2,ws2,rfl,rfl,rfl⟩:=r
 exact⟨a,e,q⟩
theorem z99(p q:Int×Int):HT.lexLt [p.1,p.2] [q.1,q.2]=tltB p q:=by
 unfold tltB
 simp only[HT.lexLt]
 by_cases h:p.1=q.1
 ·by_cases h2:p.2=q.2
  ·simp[h,h2]
  ·simp[h,h2]
 ·simp[h]
theorem zFr(hK:X.K=T.K)(hu:X.A.units<cLine):OpC T X .Lt .lt (λx y H Q=>rI0 (λi j=>.bl (decide (i<j))) x y H Q\/rLtT X.K x y H Q):=⟨OpR.or zGm (zEV hu),λ{H x y C C' vx vy b Q}r1 r2 h q=>by
 have tie:∀{x y:D}{vx vy:V}{C C':Addr->Prop},Rep T H C x vx->Rep T H C' y vy->ltT x y=some b->(rI0 (λi j=>.bl (decide (i<j))) vx vy H Q\/rLtT X.K vx vy H Q):=λ{x y vx vy C C'}r1 r2 h=>by
  obtain⟨p1,e1,h1⟩:=bndI h
  obtain⟨p2,e2,e⟩:=mapI h1
  obtain⟨a,z1,q1⟩:=z3X e1 r1
  obtain⟨a',z2,q2⟩:=z3X e2 r2
  refine .inr ⟨a,a',_,_,z1,z2,by rw[hK];exact q1,by rw[hK];exact q2,?_⟩
  rw[z99,e];exact q
 cases x with
 | int i=>cases y with
  | int j=>cases h;exact .inl ⟨_,_,r1,r2,q⟩
  | _=>exact tie r1 r2 h
 | _=>exact tie r1 r2 h⟩
theorem z9A(hx:Rep T H C x vx):∀{ds:List D}{xs:List V}{b:Bool},inD x ds=some b->Reps T H C' ds xs->xs.all flatV=true/\inV vx xs=b
 | [],_,b,h,r=>by cases h;cases r;exact⟨rfl,rfl⟩
 | d::ds,_,b,h,⟨w,ws,e,r,rs⟩=>by
  subst e
  obtain⟨p,hp,h0⟩:=bndI h
  obtain⟨q,hq,e⟩:=mapI h0
  obtain⟨h1,h2,h3,_⟩:=z2w hp r hx
  obtain⟨k1,k2⟩:=z9A hx hq rs
  refine⟨by rw[List.all_cons,h1,k1];rfl,?_⟩
  unfold inV at k2 ⊢
  rw[List.any_cons,k2,<-e,h3]
theorem z5i(h:flatD x=true)(r:Rep T H C x v):flatV v=true:=by
 cases x<;>simp[flatD]at h<;>(simp only[Rep]at r;subst r;rfl)
def rInD(T:Tx)(ng:Bool):R2:=λvx vy H Q=>∃(x:D)(ds:List D)(p:Addr)(xs:List V)(b:Bool)(C C':Addr->Prop),vy= .ref p/\SqL T.K H p xs/\Rep T H C x vx/\Reps T H C' ds xs/\inG x ds=some b/\Q (.bl (if ng then !b else b)) H
theorem zCv{pins:List (Addr×Obj)}{s:Shared}(I:Inv X pins σ H s)(hK:X.K=T.K)(hu:X.A.units+30<cLine){x:D}{vx:V}{v:Value}{ds:List D}{xs:List V}{its:List Value}{b:Bool}(rx:RelV vx v)(r1:Rep T H C x vx)(rs:Reps T H C' ds xs)(r:Vals xs its)(h:inG x ds=some b):
  ∃e:Value->Bool,(∀u∈its.toArray,SeqAt.EqAt X.A.in1 s u v (e u))/\its.toArray.any e=b:=by
 obtain⟨h1,h2⟩:=z7G h
 let P:Value->Prop:=λu=>∃(j:Nat)(d:D),its[j]? = some u/\ds[j]? = some d/\eqDn 5 d x=some true
 have look:∀(j:Nat)(u:Value),its[j]? = some u-> ∃d a,ds[j]? = some d/\eqDn 5 d x=some a/\SeqAt.EqAt X.A.in1 s u v a:=λj u hj=>by
  have hl:=r.length
  have lt:j<xs.length:=by rw[hl];exact(List.getElem?_eq_some_iff.mp hj).1
  have e1:xs[j]? = some xs[j]:=List.getElem?_eq_getElem lt
  obtain⟨d,f1,g1⟩:=rs.get' e1
  obtain⟨u',hu',ru⟩:=r.get e1
  rw[hj]at hu'
  cases hu'
  obtain⟨a,ha⟩:=h1 d (List.mem_of_getElem? f1)
  exact⟨d,a,f1,ha,z6g I (z6m I hK 5 ha g1 r1) (by show X.A.units+1+5<cLine;omega) ru rx⟩
 refine⟨λu=>@decide (P u) (Classical.propDecidable _),λu hu=>?_,?_⟩
 ·obtain⟨j,hj⟩:=List.getElem?_of_mem (show u∈its by simpa using hu)
  show SeqAt.EqAt X.A.in1 s u v (@decide (P u) (Classical.propDecidable _))
  by_cases hP:P u
  ·rw[@decide_eq_true _ (Classical.propDecidable _) hP]
   obtain⟨k,d,k1,k2,k3⟩:=hP
   obtain⟨d',a,f1,f2,f3⟩:=look k u k1
   rw[k2]at f1
   cases f1
   rw[k3]at f2
   cases f2
   exact f3
  ·rw[@decide_eq_false _ (Classical.propDecidable _) hP]
   obtain⟨d,a,f1,f2,f3⟩:=look j u hj
   cases a with
   | true=>exact absurd ⟨j,d,hj,f1,f2⟩ hP
   | false=>exact f3
 ·rw[List.any_toArray,Bool.eq_iff_iff,h2,List.any_eq_true]
  constructor
  ·rintro⟨u,_,hu⟩
   obtain⟨j,d,_,k2,k3⟩:=@of_decide_eq_true _ (Classical.propDecidable _) hu
   exact⟨d,List.mem_of_getElem? k2,k3⟩
  ·rintro⟨d,hd,k3⟩
   obtain⟨j,k2⟩:=List.getElem?_of_mem hd
   have lt:j<its.length:=by rw[<-r.length,rs.length];exact(List.getElem?_eq_some_iff.mp k2).1
   exact⟨its[j],List.getElem_mem lt,@decide_eq_true _ (Classical.propDecidable _) ⟨j,d,List.getElem?_eq_getElem lt,k2,k3⟩⟩
theorem zFs(hK:X.K=T.K)(hu:X.A.units+30<cLine):OpR X (compareOp .In) (rInD T false):=by
 intro pins s σ H vx vy v u Q I rx ry h
 obtain⟨x,ds,p,xs,b,C,C',e0,hq,r1,rs,h,q⟩:=h
 rw[e0]at ry
 cases ry
 rw[<-hK]at hq
 obtain⟨its,r,pl,hz⟩:=I.list hq
 obtain⟨e,h1,h2⟩:=zCv I hK hu rx r1 rs r h
 exact SeqAt.in_listAt e pl.isList h1 ⟨.bl _,H,I,rfl,by rw[h2];exact q⟩
theorem z9B(hK:X.K=T.K)(hu:X.A.units+30<cLine):OpR X (compareOp .NotIn) (rInD T true):=by
 intro pins s σ H vx vy v u Q I rx ry h
 obtain⟨x,ds,p,xs,b,C,C',e0,hq,r1,rs,h,q⟩:=h
 rw[e0]at ry
 cases ry
 rw[<-hK]at hq
 obtain⟨its,r,pl,hz⟩:=I.list hq
 obtain⟨e,h1,h2⟩:=zCv I hK hu rx r1 rs r h
 exact SeqAt.notIn_listAt e pl.isList h1 ⟨.bl _,H,I,rfl,by rw[h2];exact q⟩
theorem z9C{ng:Bool}(hK:X.K=T.K){x y:D}{vx vy:V}(r1:Rep T H C x vx)(r2:Rep T H C' y vy)(h:isinD x y=some b)(q:Q (.bl (if ng then !b else b)) H):rIn X.K ng vx vy H Q\/rInD T ng vx vy H Q:=by
 rcases z92 h with⟨ds,hy,hf,hi⟩|⟨ds,hy,hi⟩
 ·rcases hy with rfl|rfl
  ·obtain⟨p,xs,rfl,_,hp,rs⟩:=r2
   obtain⟨k1,k2⟩:=z9A r1 hi rs
   exact .inl ⟨p,xs,rfl,.inl (SqL.of hp),z5i hf r1,k1,by rw[k2];exact q⟩
  ·obtain⟨p,xs,rfl,hp,rs⟩:=r2
   obtain⟨k1,k2⟩:=z9A r1 hi rs
   exact .inl ⟨p,xs,rfl,.inr (by rw[hK];exact hp),z5i hf r1,k1,by rw[k2];exact q⟩
 ·rw[hy]at r2
  obtain⟨p,xs,e,_,hp,rs⟩:=r2
  exact .inr ⟨x,ds,p,xs,b,_,_,e,SqL.of hp,r1,rs,hi,q⟩
theorem zFt(hK:X.K=T.K)(hu:X.A.units+30<cLine):OpC T X .In .isin (λx y H Q=>rIn X.K false x y H Q\/rInD T false x y H Q):=⟨OpR.or z9q (zFs hK hu),λ{H x y C C' vx vy b Q}r1 r2 h q=>z9C hK r1 r2 h q⟩
theorem z9D(hK:X.K=T.K)(hu:X.A.units+30<cLine):OpC T X .NotIn .notin (λx y H Q=>rIn X.K true x y H Q\/rInD T true x y H Q):=⟨OpR.or z6a (z9B hK hu),λ{H x y C C' vx vy b Q}r1 r2 h q=>by
 rw[show cmpD .notin x y=(isinD x y).map (!·)from rfl,Option.map_eq_some_iff]at h
 obtain⟨c,h,rfl⟩:=h
 exact z9C (ng:=true) hK r1 r2 h q⟩
theorem z3j(hK:X.K=T.K)(hu:X.A.units+30<cLine){op:CmpOp}{o:Cop}(h:trC op=some o):∃r,OpC T X op o r:=by
 cases op<;>simp[trC]at h<;>subst h
 ·exact⟨_,zFm hK hu⟩
 ·exact⟨_,zFn hK hu⟩
 ·exact⟨_,zFr hK (by omega)⟩
 ·exact⟨_,zFo⟩
 ·exact⟨_,zFp⟩
 ·exact⟨_,zFq⟩
 ·exact⟨_,zFt hK hu⟩
 ·exact⟨_,z9D hK hu⟩
def PostT(T:Tx)(E:XK)(H:Hp)(Q:Bool->Hp->Prop):Res->Prop
 | .ok d _=>∀b H',d= .bl b->Same H H'->Q b H'
 | .exc c=>∀H',Same H H'->E (T.cv c) none H'
def isB:Res->Prop
 | .ok d _=>∃b,d= .bl b
 | .exc _=>True
def DenT(T:Tx)(W:Wd)(E:XK)(t:TT)(x:Ex):Prop:=∀(Γ:Ctx)(G:List Gh)(ρ:Env)(σ:St)(H:Hp)(r:Res)(Q:Bool->Hp->Prop),evE W ρ x=some r->isB r->EnvOk T Γ G ρ σ H->PostT T E H Q r->t σ H Q
def SndT(T:Tx)(W:Wd)(X:Cx)(E:XK)(e:Expr)(x:Ex):Prop:=∃t,PT X e t/\DenT T W E t x
def SndW(T:Tx)(W:Wd)(X:Cx)(E:XK)(e:Expr)(x:Ex):Prop:=∃t,PW X e t/\DenT T W E t x
theorem SndW.tst{e:Expr}{x:Ex}(h:SndW T W X E e x):SndT T W X E e x:=let ⟨t,p,q⟩:=h;⟨t,p.pt,q⟩
theorem Den.test{te:TE}{x:Ex}(h:Den T W E te x):DenT T W E (tB te) x:=λΓ G ρ σ H r Q he hb hn hp=>by
 refine h Γ G ρ σ H r _ he hn ?_
 cases r with
 | ok d t=>
  obtain⟨b,rfl⟩:=hb
  exact λv H' s ok=>⟨b,ok.any,hp b H' rfl s⟩
 | exc c=>exact hp
theorem Den.test'{te:TE}{x:Ex}(h:Den T W E te x):DenT T W E (tTest te) x:=λΓ G ρ σ H r Q he hb hn hp=>by
 refine h Γ G ρ σ H r _ he hn ?_
 cases r with
 | ok d t=>
  obtain⟨b,rfl⟩:=hb
  exact λv H' s ok=>⟨b,ok.any,hp b H' rfl s⟩
 | exc c=>exact hp
def NoMark(b:Expr):Prop:=∀op,behindInMarks op b=false
theorem z9E{op:CmpOp}{o:Cop}{r0:R2}(OC:OpC T X op o r0){ta tb:TE}{xa xb:Ex}(da:Den T W E ta xa)(db:Den T W E tb xb):Den T W E (tOp r0 ta tb) (.cmp o xa xb):=λΓ G ρ σ H r Q he h hp=>by
 conv at he=>lhs;whnf
 refine da.step he h hp λx t v H1 hk s ok h1 hp1=>?_
 refine db.step hk h1 hp1 λy u w H2 hk s2 ok2 h2 hp2=>?_
 unfold blR at hk
 split at hk
 ·cases hk
 ·rename_i b hb
  cases hk
  exact OC.run (ok.any.same s2) ok2.any hb (hp2 _ H2 (Same.refl _) rfl)
theorem zDr{op:CmpOp}{o:Cop}{r0:R2}(OC:OpC T X op o r0){a b:Expr}{xa xb:Ex}{pos}(ha:Snd T W X E a xa)(hb:Snd T W X E b xb)(hm:NoMark b):Snd T W X E (.Compare a [op] [b] pos) (.cmp o xa xb)/\SndT T W X E (.Compare a [op] [b] pos) (.cmp o xa xb):=by
 obtain⟨ta,pa,da⟩:=ha
 obtain⟨tb,pb,db⟩:=hb
 exact⟨⟨_,z6K OC.op pa pb (hm _),z9E OC da db⟩,⟨_,z6L OC.op pa pb (hm _),(z9E OC da db).test'⟩⟩
theorem z8y{op op':CmpOp}{o o':Cop}{r0 r1:R2}(OC:OpC T X op o r0)(OC':OpC T X op' o' r1){ta tb tc:TE}{xa xb xc:Ex}(da:Den T W E ta xa)(db:Den T W E tb xb)(dc:Den T W E tc xc):
  Den T W E (tChain r0 r1 ta tb tc) (.chain2 o o' xa xb xc):=λΓ G ρ σ H r Q he h hp=>by
 conv at he=>lhs;whnf
 refine da.step he h hp λx t v H1 hk s ok h1 hp1=>?_
 refine db.step hk h1 hp1 λy u w H2 hk s2 ok2 h2 hp2=>?_
 split at hk
 ·rename_i hb
  refine OC.run (ok.any.same s2) ok2.any hb ⟨true,rfl,?_⟩
  rw[if_pos rfl]
  refine dc.step hk h2 hp2 λz t3 v3 H3 hk s3 ok3 h3 hp3=>?_
  unfold blR at hk
  split at hk
  ·cases hk
  ·rename_i b hb
   cases hk
   exact OC'.run (ok2.any.same s3) ok3.any hb (hp3 _ H3 (Same.refl _) rfl)
 ·rename_i hb
  cases hk
  refine OC.run (ok.any.same s2) ok2.any hb ⟨false,rfl,?_⟩
  rw[if_neg Bool.false_ne_true]
  exact hp2 _ H2 (Same.refl _) rfl
 ·cases hk
theorem z8z{op op' op'':CmpOp}{o o' o'':Cop}{r0 r1 r2:R2}(OC:OpC T X op o r0)(OC':OpC T X op' o' r1)(OC'':OpC T X op'' o'' r2){ta tb tc td:TE}{xa xb xc xd:Ex}(da:Den T W E ta xa)(db:Den T W E tb xb)(dc:Den T W E tc xc)(dd:Den T W E td xd):
  Den T W E (tChain3 r0 r1 r2 ta tb tc td) (.chain3 o o' o'' xa xb xc xd):=λΓ G ρ σ H r Q he h hp=>by
 conv at he=>lhs;whnf
 refine da.step he h hp λx t v H1 hk s ok h1 hp1=>?_
 refine db.step hk h1 hp1 λy u w H2 hk s2 ok2 h2 hp2=>?_
 split at hk
 ·rename_i hb
  refine OC.run (ok.any.same s2) ok2.any hb ⟨true,rfl,?_⟩
  rw[if_pos rfl]
  refine dc.step hk h2 hp2 λz t3 v3 H3 hk s3 ok3 h3 hp3=>?_
  split at hk
  ·rename_i hb3
   refine OC'.run (ok2.any.same s3) ok3.any hb3 ⟨true,rfl,?_⟩
   rw[if_pos rfl]
   refine dd.step hk h3 hp3 λz4 t4 v4 H4 hk s4 ok4 h4 hp4=>?_
   unfold blR at hk
   split at hk
   ·cases hk
   ·rename_i b hb
    cases hk
    exact OC''.run (ok3.any.same s4) ok4.any hb (hp4 _ H4 (Same.refl _) rfl)
  ·rename_i hb3
   cases hk
   refine OC'.run (ok2.any.same s3) ok3.any hb3 ⟨false,rfl,?_⟩
   rw[if_neg Bool.false_ne_true]
   exact hp3 _ H3 (Same.refl _) rfl
  ·cases hk
 ·rename_i hb
  cases hk
  refine OC.run (ok.any.same s2) ok2.any hb ⟨false,rfl,?_⟩
  rw[if_neg Bool.false_ne_true]
  exact hp2 _ H2 (Same.refl _) rfl
 ·cases hk
theorem zDs{op:BoolOp}{a:Expr}{xa:Ex}{pos}(ha:Snd T W X E a xa):Snd T W X E (.BoolOp op [a] pos) xa:=let ⟨t,p,q⟩:=ha;⟨t,zEC p,q⟩
theorem zBu{op:BoolOp}{a:Expr}{xa:Ex}{pos}(ha:SndT T W X E a xa):SndW T W X E (.BoolOp op [a] pos) xa:=by
 obtain⟨t,p,q⟩:=ha
 cases op with
 | And=>exact⟨t,zCC p,q⟩
 | Or=>exact⟨t,zE9 p,q⟩
theorem zDt{a b:Expr}{rest:List Expr}{xa xb:Ex}{pos}(ha:Snd T W X E a xa)(hb:Snd T W X E (.BoolOp .And (b::rest) pos) xb):Snd T W X E (.BoolOp .And (a::b::rest) pos) (.and xa xb):=by
 obtain⟨ta,pa,da⟩:=ha
 obtain⟨tb,pb,db⟩:=hb
 refine⟨_,zED pa pb,λΓ G ρ σ H r Q he h hp=>?_⟩
 conv at he=>lhs;whnf
 refine da.step he h hp λx t v H1 hk s ok h1 hp1=>?_
 split at hk
 ·exact⟨true,ok.any,by rw[if_pos rfl];exact db _ _ _ _ _ _ _ hk h1 hp1⟩
 ·cases hk
  exact⟨false,ok.any,by rw[if_neg Bool.false_ne_true];exact hp1 _ H1 (Same.refl _) rfl⟩
 ·cases hk
theorem zFu{a b:Expr}{rest:List Expr}{xa xb:Ex}{pos}(ha:Snd T W X E a xa)(hb:Snd T W X E (.BoolOp .Or (b::rest) pos) xb):Snd T W X E (.BoolOp .Or (a::b::rest) pos) (.or xa xb):=by
 obtain⟨ta,pa,da⟩:=ha
 obtain⟨tb,pb,db⟩:=hb
 refine⟨_,zGg pa pb,λΓ G ρ σ H r Q he h hp=>?_⟩
 conv at he=>lhs;whnf
 refine da.step he h hp λx t v H1 hk s ok h1 hp1=>?_
 split at hk
 ·exact⟨false,ok.any,by rw[if_neg Bool.false_ne_true];exact db _ _ _ _ _ _ _ hk h1 hp1⟩
 ·cases hk
  exact⟨true,ok.any,by rw[if_pos rfl];exact hp1 _ H1 (Same.refl _) rfl⟩
 ·cases hk
theorem DenT.step{ta:TT}{xa:Ex}(ha:DenT T W E ta xa){k:D->Tag->Option Res}(hk:bindR (evE W ρ xa) k=some r)(kb:∀d t r,k d t=some r-> ∃b,d= .bl b)(h:EnvOk T Γ G ρ σ H){Q0:Bool->Hp->Prop}(hp:∀c,r= .exc c-> ∀H',Same H H'->E (T.cv c) none H'){Q':Bool->Hp->Prop}
  (cont:∀b t H1,k (.bl b) t=some r->Same H H1->EnvOk T Γ G ρ σ H1->Q' b H1):ta σ H Q':=by
 cases e:evE W ρ xa with
 | none=>rw[e]at hk;cases hk
 | some r1=>
  rw[e]at hk
  cases r1 with
  | exc c=>
   have z:r= .exc c:=(Option.some.inj hk).symm
   exact ha Γ G ρ σ H _ _ e trivial h (hp c z)
  | ok d t=>
   obtain⟨b,rfl⟩:=kb _ _ _ hk
   exact ha Γ G ρ σ H _ _ e ⟨b,rfl⟩ h λb' H' eb s=>by cases eb;exact cont b t H' hk s (h.mono s)
theorem PostT.mono{Q:Bool->Hp->Prop}(s:Same H H1)(h:PostT T E H Q r):PostT T E H1 Q r:=by
 cases r with
 | ok d t=>exact λb H' e s'=>h b H' e (s.trans s')
 | exc c=>exact λH' s'=>h H' (s.trans s')
theorem PostT.exc{Q:Bool->Hp->Prop}(h:PostT T E H Q r):∀c,r= .exc c-> ∀H',Same H H'->E (T.cv c) none H':=λc e=>by subst e;exact h
theorem Post.exc'(h:Post T E Γ H Q r):∀c,r= .exc c-> ∀H',Same H H'->E (T.cv c) none H':=λc e=>by subst e;exact h
theorem zBv{a:Expr}{xa:Ex}{pos}(ha:SndT T W X E a xa):SndT T W X E (.UnaryOp .Not a pos) (.not xa):=by
 obtain⟨ta,pa,da⟩:=ha
 refine⟨_,zEB pa,λΓ G ρ σ H r Q he hb h hp=>?_⟩
 conv at he=>lhs;whnf
 refine da.step (Q0:=Q) he (λd t r z=>by split at z<;>first|exact⟨_,rfl⟩|cases z) h hp.exc λb t H1 hk s h1=>?_
 cases hk
 exact hp _ H1 rfl s
theorem zBw{a b:Expr}{rest:List Expr}{xa xb:Ex}{pos}(ha:SndT T W X E a xa)(hb:SndW T W X E (.BoolOp .And (b::rest) pos) xb):SndW T W X E (.BoolOp .And (a::b::rest) pos) (.and xa xb):=by
 obtain⟨ta,pa,da⟩:=ha
 obtain⟨tb,pb,db⟩:=hb
 refine⟨_,zEA pa pb,λΓ G ρ σ H r Q he hb h hp=>?_⟩
 conv at he=>lhs;whnf
 refine da.step (Q0:=Q) he (λd t r z=>by split at z<;>first|exact⟨_,rfl⟩|cases z) h hp.exc λb t H1 hk s h1=>?_
 cases b with
 | true=>rw[if_pos rfl];exact db _ _ _ _ _ _ _ hk hb h1 (hp.mono s)
 | false=>rw[if_neg Bool.false_ne_true];cases hk;exact hp _ H1 rfl s
theorem zDu{a b:Expr}{rest:List Expr}{xa xb:Ex}{pos}(ha:SndT T W X E a xa)(hb:SndW T W X E (.BoolOp .Or (b::rest) pos) xb):SndW T W X E (.BoolOp .Or (a::b::rest) pos) (.or xa xb):=by
 obtain⟨ta,pa,da⟩:=ha
 obtain⟨tb,pb,db⟩:=hb
 refine⟨_,zGf pa pb,λΓ G ρ σ H r Q he hb h hp=>?_⟩
 conv at he=>lhs;whnf
 refine da.step (Q0:=Q) he (λd t r z=>by split at z<;>first|exact⟨_,rfl⟩|cases z) h hp.exc λb t H1 hk s h1=>?_
 cases b with
 | false=>rw[if_neg Bool.false_ne_true];exact db _ _ _ _ _ _ _ hk hb h1 (hp.mono s)
 | true=>rw[if_pos rfl];cases hk;exact hp _ H1 rfl s
theorem zDv{c a b:Expr}{xc xa xb:Ex}{pos}(hc:SndT T W X E c xc)(ha:Snd T W X E a xa)(hb:Snd T W X E b xb):Snd T W X E (.IfExp c a b pos) (.ifx xc xa xb):=by
 obtain⟨tc,pc,dc⟩:=hc
 obtain⟨ta,pa,da⟩:=ha
 obtain⟨tb,pb,db⟩:=hb
 refine⟨_,zAX pc pa pb,λΓ G ρ σ H r Q he h hp=>?_⟩
 conv at he=>lhs;whnf
 refine dc.step (Q0:=λ_ _=>True) he (λd t r z=>by split at z<;>first|exact⟨_,rfl⟩|cases z) h hp.exc' λb t H1 hk s h1=>?_
 cases b with
 | true=>rw[if_pos rfl];exact da _ _ _ _ _ _ _ hk h1 (hp.mono s)
 | false=>rw[if_neg Bool.false_ne_true];exact db _ _ _ _ _ _ _ hk h1 (hp.mono s)
end
end Ev
namespace Ev
open PySem L2
structure TxOk(T:Tx):Prop where
 cl:Cls T.K T.CT
 nM:NoAttr T.K T.CT "many"
 nT:NoAttr T.K T.CT "ties"
section
variable{T:Tx}{W:Wd}{X:Cx}{E:XK}{Γ:Ctx}{G:List Gh}{ρ:Env}{σ:St}{H H1 H2 H':Hp}{C C':Addr->Prop}{Q:VK}{r:Res}{d x y:D}{t u:Tag}{v w vx vy:V}{b:Bool}{ds:List D}{ts:List Tag}{vs xs:List V}
theorem zCw:@Ev.ixN= @L2.ixN:=rfl
theorem z6V{i:Int}(h:Ev.atI ds i=some d)(r:Reps T H C ds xs):∃v,L2.atI xs i=some v/\Rep T H C d v:=by
 unfold Ev.atI at h
 cases e:Ev.ixN ds.length i with
 | none=>rw[e]at h;cases h
 | some j=>
  rw[e]at h
  obtain⟨v,h1,h2⟩:=r.get (show ds[j]? = some d from h)
  refine⟨v,?_,h2⟩
  unfold L2.atI
  rw[r.length,<-zCw,e]
  exact h1
theorem z9F{ns:List Int}(h:Rep T H C (.scr ns) v):∃a,v= .ref a/\SqL T.K H a (ns.map V.int):=by
 obtain⟨a,e,q|q⟩:=h
 ·exact⟨a,e,.inl (.inr q)⟩
 ·exact⟨a,e,.inr q⟩
theorem zFv(hK:X.K=T.K)(ox:ROk T Γ H H1 x t vx)(oy:Rep T H1 C y vy)(h:ixD x y=some d)(q:∀v,ROk T Γ H H1 d (Ev.rt d t.el) v->Q v H1):rIx X.K vx vy H1 Q:=by
 obtain⟨i,hi,h1⟩:=Option.bind_eq_some_iff.mp h
 cases z1V hi
 clear h hi
 have h:=h1
 clear h1
 unfold ixS at h
 split at h
 ·obtain⟨a,xs,rfl,ha,rs⟩:=ox.list
  obtain⟨v,h1,h2⟩:=z6V h rs
  exact .inl ⟨a,xs,_,v,rfl,oy,SqL.of ha,h1,q v (ROk.rt (ROk.of (h2.imp λb z=>by rw[TC.el];exact z) z6l))⟩
 ·obtain⟨a,xs,rfl,ha,rs⟩:=ox.tuple
  obtain⟨v,h1,h2⟩:=z6V h rs
  exact .inr (.inl ⟨a,xs,_,v,rfl,oy,by rw[hK];exact ha,h1,q v (ROk.rt (ROk.of (h2.imp λb z=>by rw[TC.el];exact z) z6l))⟩)
 ·rename_i ns
  obtain⟨a,rfl,ha⟩:=z9F ox.any
  rw[Option.map_eq_some_iff]at h
  obtain⟨n,h,rfl⟩:=h
  have h':L2.atI (ns.map V.int) i=some (V.int n):=by
   have:Ev.atI (ns.map D.int) i=some (D.int n):=by
    unfold Ev.atI at h ⊢
    rw[List.length_map]
    cases e:Ev.ixN ns.length i with
    | none=>rw[e]at h;cases h
    | some j=>rw[e]at h;simp only[Option.bind]at h ⊢;rw[List.getElem?_map,h];rfl
   obtain⟨v,h1,h2⟩:=z6V (T:=T) (H:=H) (C:=λ_=>True) this (z3W ns)
   rw[h1];exact congrArg some h2
  refine .inl ⟨a,_,_,_,rfl,oy,by rw[hK];exact ha,h',q _ ?_⟩
  exact zDd
 ·cases h
theorem zFw(hK:X.K=T.K){a b:Expr}{xa xb:Ex}{pos}(ha:Snd T W X E a xa)(hb:Snd T W X E b xb)(hs:PlainIx b):Snd T W X E (.Subscript a b pos) (.ix xa xb):=by
 obtain⟨ta,pa,da⟩:=ha
 obtain⟨tb,pb,db⟩:=hb
 refine⟨_,zGr zEY pa pb hs,λΓ G ρ σ H r Q he h hp=>?_⟩
 conv at he=>lhs;whnf
 refine da.step he h hp λx t v H1 hk s ok h1 hp1=>?_
 refine db.step hk h1 hp1 λy u w H2 hk s2 ok2 h2 hp2=>?_
 split at hk
 ·rename_i d hd
  cases hk
  exact zFv hK (ok.mono s2) ok2.any hd λv' ok'=>hp v' H2 (s.trans s2) ok'
 ·cases hk
def DenO(T:Tx)(W:Wd)(E:XK)(t:TO)(o:Option Ex):Prop:=∀(Γ:Ctx)(G:List Gh)(ρ:Env)(σ:St)(H:Hp)(r:Res)(Q:Option Int->Hp->Prop)(k:Option Int->Option Res),bindI (match o with|some e=>some (evE W ρ e)|none=>none) k=some r->EnvOk T Γ G ρ σ H->
 (∀c,r= .exc c-> ∀H',Same H H'->E (T.cv c) none H')->(∀i H1,k i=some r->Same H H1->EnvOk T Γ G ρ σ H1->Q i H1)->t σ H Q
def SndO(T:Tx)(W:Wd)(X:Cx)(E:XK)(e:Option Expr)(x:Option Ex):Prop:=∃t,PO X e t/\DenO T W E t x
theorem z9G:SndO T W X E none none:=⟨_,zCO,λΓ G ρ σ H r Q k hk h hx q=>q none H hk (Same.refl _) h⟩
theorem z9H{e:Expr}{x:Ex}(h:Snd T W X E e x):SndO T W X E (some e) (some x):=by
 obtain⟨te,pe,de⟩:=h
 refine⟨_,zCP pe,λΓ G ρ σ H r Q k hk h hx q=>?_⟩
 have hk:bindR (evE W ρ x) (λy _=>match y with| .int i=>k (some i)|_=>none)=some r:=hk
 have hp:Post T E Γ H (λ_ _=>True) r:=by
  cases r with
  | ok d t=>exact λ_ _ _ _=>trivial
  | exc c=>exact hx c rfl
 refine de.step hk h hp λy u w H2 hk s2 ok2 h2 hp2=>?_
 split at hk
 ·rename_i i
  exact⟨i,ok2.any,q (some i) H2 hk s2 h2⟩
 ·cases hk
theorem zDw{lo hi:Option Int}(r:Reps T H C ds xs):Reps T H C (cut ds lo hi) (cutV xs lo hi):=by
 have e:xs.length=ds.length:=r.length
 have e1:∀n k o,Ev.sIx n k o=HT.sIx n k o:=λn k o=>by cases o<;>rfl
 unfold cut cutV
 rw[e,e1,e1]
 exact(r.drop _).take _
theorem z9I{a:Expr}{lo hi:Option Expr}{xa:Ex}{xl xh:Option Ex}{p2 pos}(ha:Snd T W X E a xa)(hl:SndO T W X E lo xl)(hh:SndO T W X E hi xh):Snd T W X E (.Subscript a (.Slice lo hi none p2) pos) (.slice xa xl xh):=by
 obtain⟨ta,pa,da⟩:=ha
 obtain⟨tl,pl,dl⟩:=hl
 obtain⟨th,ph,dh⟩:=hh
 refine⟨_,zBg zCR pa pl ph,λΓ G ρ σ H r Q he h hp=>?_⟩
 rw[E_sl]at he
 refine da.step he h hp λx t v H1 hk s ok h1 hp1=>?_
 split at hk
 ·rename_i ds
  refine dl Γ G ρ σ H1 r _ _ hk h1 hp1.exc' λl H2 hk s2 h2=>?_
  refine dh Γ G ρ σ H2 r _ _ hk h2 (hp1.mono s2).exc' λu H3 hk s3 h3=>?_
  cases hk
  obtain⟨a,xs,rfl,ha,rs⟩:=(ok.mono (s2.trans s3)).list
  refine⟨a,xs,rfl,SqL.of ha,λp hp'=>?_⟩
  obtain⟨s4,ok4⟩:=mkList (t:=t.el) h (s.trans (s2.trans s3)) hp' z6l (zDw (lo:=l) (hi:=u) (rs.imp λb z=>by rw[TC.el];exact z))
  exact hp _ _ ((s.trans (s2.trans s3)).trans s4) ok4
 ·cases hk
theorem z9J(n:Int)(l:Addr):([("many",V.int n),("ties",V.ref l)]:List (Str×V)).lookup ("many":Str)=some (.int n):=by rw[List.lookup_cons_self]
theorem z9K(n:Int)(l:Addr):([("many",V.int n),("ties",V.ref l)]:List (Str×V)).lookup ("ties":Str)=some (.ref l):=by
 rw[List.lookup_cons,show(("ties":Str)=="many")=false from by decide +kernel]
 exact List.lookup_cons_self
theorem z9L{n:Int}(h:ROk T Γ H H' (.tree n ds) t v):∃a dx l xs,v= .ref a/\H' a=some (.ins T.CT dx [("many",.int n),("ties",.ref l)])/\TC Γ H t l/\H' l=some (.lst xs)/\Reps T H' (TC Γ H t) ds xs:=by
 cases t with
 | new=>obtain⟨a,dx,l,xs,e,c,q,q',r⟩:=h;exact⟨a,dx,l,xs,e,q,c,q',r⟩
 | cl c=>obtain⟨a,dx,l,xs,e,c,q,q',r⟩:=h;exact⟨a,dx,l,xs,e,q,c,q',r⟩
 | own c=>obtain⟨a,xs,ds,h1,_⟩:=h;cases h1
theorem z9M(O:TxOk T)(hK:X.K=T.K){a:Expr}{f:Str}{tf:Bool}{xa:Ex}{pos}(ha:Snd T W X E a xa)(hf:f=if tf then "ties" else "many")(hb:attributeBase a f X.env (eval a X.env)=eval a X.env):Snd T W X E (.Attribute a f pos) (.fld xa tf):=by
 obtain⟨ta,pa,da⟩:=ha
 refine⟨_,zER pa hb,λΓ G ρ σ H r Q he h hp=>?_⟩
 conv at he=>lhs;whnf
 refine da.step he h hp λx t v H1 hk s ok h1 hp1=>?_
 split at hk
 ·rename_i n ts
  cases hk
  obtain⟨a,dx,l,xs,rfl,q,_,q',rs⟩:=z9L ok
  subst hf
  exact⟨a,T.CT,dx,_,_,rfl,q,by rw[hK];exact O.cl,by rw[hK];exact O.nM,z9J _ _,hp1 _ H1 (Same.refl _) rfl⟩
 ·rename_i n ts
  cases hk
  obtain⟨a,dx,l,xs,rfl,q,c,q',rs⟩:=z9L ok
  subst hf
  refine⟨a,T.CT,dx,_,_,rfl,q,by rw[hK];exact O.cl,by rw[hK];exact O.nT,z9K _ _,hp _ H1 s ?_⟩
  exact ROk.of ⟨l,xs,rfl,by rw[TC.el];exact c,q',rs.imp λb z=>by rw[TC.el];exact z⟩ z6l
 ·cases hk
def RsOk(T:Tx)(Γ:Ctx)(H H':Hp):List D->List Tag->List V->Prop
 | [],ts,vs=>ts=[]/\vs=[]
 | d::ds,ts,vs=>∃t ts' v vs',ts=t::ts'/\vs=v::vs'/\ROk T Γ H H' d t v/\RsOk T Γ H H' ds ts' vs'
theorem RsOk.start(s:Same H H1):∀{ds:List D}{ts:List Tag}{vs:List V},RsOk T Γ H1 H2 ds ts vs->RsOk T Γ H H2 ds ts vs
 | [],_,_,h=>h
 | d::ds,_,_,⟨t,ts',v,vs',e1,e2,o,r⟩=>⟨t,ts',v,vs',e1,e2,o.start s,RsOk.start s r⟩
theorem RsOk.any:∀{ds:List D}{ts:List Tag}{vs:List V},RsOk T Γ H H' ds ts vs->Reps T H' (λ_=>True) ds vs
 | [],_,_,⟨_,h⟩=>h
 | d::ds,_,_,⟨t,ts',v,vs',e1,e2,o,r⟩=>⟨v,vs',e2,o.any,RsOk.any r⟩
theorem RsOk.joined(h:EnvOk T Γ G ρ σ H):∀{ds:List D}{ts:List Tag}{vs:List V}{u:Tag},joinAll ts=some u->RsOk T Γ H H' ds ts vs->Reps T H' (TC Γ H u) ds vs/\ ∀c,u≠ .own c
 | [],_,_,u,e,⟨e1,e2⟩=>by subst e1;subst e2;cases e;exact⟨rfl,λc z=>nomatch z⟩
 | d::ds,_,_,u,e,⟨t,ts',v,vs',e1,e2,o,r⟩=>by
  subst e1;subst e2
  cases t with
  | own c=>simp[joinAll]at e
  | new=>
   simp only[joinAll]at e
   split at e
   ·rename_i u' hu
    cases e
    obtain⟨q,no⟩:=RsOk.joined h hu r
    exact⟨⟨v,vs',rfl,(o.rep (λc z=>nomatch z)).imp λb z=>TC.join_l h z,q.imp λb z=>TC.join_r h z⟩,no⟩
   ·cases e
  | cl c=>
   replace e:(match joinAll ts' with|some u=>some ((Tag.cl c).join u)|none=>none)=some u:=by
    cases c with
    | dp=>cases e
    | _=>exact e
   split at e
   ·rename_i u' hu
    cases e
    obtain⟨q,no⟩:=RsOk.joined h hu r
    refine⟨⟨v,vs',rfl,(o.rep (λc z=>nomatch z)).imp λb z=>TC.join_l h z,q.imp λb z=>TC.join_r h z⟩,λc' z=>?_⟩
    cases u' with
    | new=>cases z
    | cl _=>cases z
    | own c''=>exact no c'' rfl
   ·cases e
def PostA(T:Tx)(E:XK)(Γ:Ctx)(H:Hp)(Q:List V->Hp->Prop):Ress->Prop
 | .ok ds ts=>∀vs H',Same H H'->RsOk T Γ H H' ds ts vs->Q vs H'
 | .exc c=>∀H',Same H H'->E (T.cv c) none H'
def DenA(T:Tx)(W:Wd)(E:XK)(t:TA)(xs:List Ex):Prop:=∀(Γ:Ctx)(G:List Gh)(ρ:Env)(σ:St)(H:Hp)(r:Ress)(Q:List V->Hp->Prop),evEs W ρ xs=some r->EnvOk T Γ G ρ σ H->PostA T E Γ H Q r->t σ H Q
def SndA(T:Tx)(W:Wd)(X:Cx)(E:XK)(es:List Expr)(xs:List Ex):Prop:=∃t,PA X es t/\DenA T W E t xs
def NoStar(e:Expr):Prop:=∀(es:List Expr)(env:PySem.Env),starEach (e::es) env=(false,eval e env)::starEach es env
theorem z1D:SndA T W X E [] []:=⟨_,z2f,λΓ G ρ σ H r Q he h hp=>by cases he;exact hp [] H (Same.refl _) ⟨rfl,rfl⟩⟩
theorem z08{e:Expr}{es:List Expr}{x:Ex}{xs:List Ex}(hs:NoStar e)(he:Snd T W X E e x)(hr:SndA T W X E es xs):SndA T W X E (e::es) (x::xs):=by
 obtain⟨te,pe,de⟩:=he
 obtain⟨tr,pr,dr⟩:=hr
 refine⟨_,z0G pe pr (hs _ _),λΓ G ρ σ H r Q he h hp=>?_⟩
 conv at he=>lhs;whnf
 cases e1:evE W ρ x with
 | none=>rw[e1]at he;cases he
 | some r1=>
  rw[e1]at he
  cases r1 with
  | exc c=>cases he;exact de Γ G ρ σ H _ _ e1 h hp
  | ok d t=>
   refine de Γ G ρ σ H _ _ e1 h λv H1 s ok=>?_
   dsimp only at he
   cases e2:evEs W ρ xs with
   | none=>rw[e2]at he;cases he
   | some r2=>
    rw[e2]at he
    cases r2 with
    | exc c=>cases he;exact dr Γ G ρ σ H1 _ _ e2 (h.mono s) λH' s'=>hp H' (s.trans s')
    | ok ds ts=>
     cases he
     exact dr Γ G ρ σ H1 _ _ e2 (h.mono s) λvs H2 s2 ok2=>hp (v::vs) H2 (s.trans s2) ⟨t,ts,v,vs,rfl,rfl,ok.mono s2,ok2.start s⟩
theorem DenA.step{ta:TA}{xs:List Ex}(ha:DenA T W E ta xs){k:List D->List Tag->Option Res}(hk:(match evEs W ρ xs with|some (.ok ds ts)=>k ds ts|some (.exc c)=>some (.exc c)|none=>none)=some r)(h:EnvOk T Γ G ρ σ H)(hp:Post T E Γ H Q r){Q':List V->Hp->Prop}
  (cont:∀ds ts vs H1,k ds ts=some r->Same H H1->RsOk T Γ H H1 ds ts vs->EnvOk T Γ G ρ σ H1->Post T E Γ H1 Q r->Q' vs H1):ta σ H Q':=by
 cases e:evEs W ρ xs with
 | none=>rw[e]at hk;cases hk
 | some r1=>
  rw[e]at hk
  cases r1 with
  | exc c=>
   have z:r= .exc c:=(Option.some.inj hk).symm
   subst z
   exact ha Γ G ρ σ H _ _ e h hp
  | ok ds ts=>exact ha Γ G ρ σ H _ _ e h λv H' s q=>cont ds ts v H' hk s q (h.mono s) (hp.mono s)
theorem zDx{es:List Expr}{xs:List Ex}{pos}(ha:SndA T W X E es xs):Snd T W X E (.List es pos) (.lst xs):=by
 obtain⟨ta,pa,da⟩:=ha
 refine⟨_,zET pa,λΓ G ρ σ H r Q he h hp=>?_⟩
 conv at he=>lhs;whnf
 refine da.step (k:=λds ts=>match joinAll ts with|some u=>if ds.length<=1000 then some (.ok (.lst ds) (rts ds u))else none|none=>none) he h hp λds ts vs H1 hk s ok h1 hp1=>?_
 split at hk
 ·rename_i u hu
  split at hk
  ·rename_i hl
   cases hk
   obtain⟨rs,no⟩:=ok.joined h hu
   refine⟨by rw[rs.length];exact Nat.le_of_lt (small1000 hl),λp hp'=>?_⟩
   obtain⟨s4,ok4⟩:=mkList h s hp' no rs
   exact hp _ _ (s.trans s4) ok4
  ·cases hk
 ·cases hk
theorem zDy{es:List Expr}{xs:List Ex}{n pos}(ha:SndA T W X E es xs):Snd T W X E (.Tuple es n pos) (.tup xs):=by
 obtain⟨ta,pa,da⟩:=ha
 refine⟨_,zES pa,λΓ G ρ σ H r Q he h hp=>?_⟩
 conv at he=>lhs;whnf
 refine da.step (k:=λds ts=>match joinAll ts with|some u=>if ds.length<=1000 then some (.ok (.tup ds) (rts ds u))else none|none=>none) he h hp λds ts vs H1 hk s ok h1 hp1=>?_
 split at hk
 ·rename_i u hu
  split at hk
  ·rename_i hl
   cases hk
   obtain⟨rs,no⟩:=ok.joined h hu
   refine⟨by rw[rs.length];exact Nat.le_of_lt (small1000 hl),λp hp'=>?_⟩
   obtain⟨s4,ok4⟩:=mkTup h s hp' no rs
   exact hp _ _ (s.trans s4) ok4
  ·cases hk
 ·cases hk
end
end Ev
namespace Ev
open PySem L2
section
variable{T:Tx}{W:Wd}{X:Cx}{E:XK}{Γ:Ctx}{G:List Gh}{ρ:Env}{σ:St}{H H1 H2 H':Hp}{C C':Addr->Prop}{Q:VK}{r:Res}{d x y:D}{t u:Tag}{v w vx vy:V}{b:Bool}{ds:List D}{ts:List Tag}{vs xs:List V}
theorem CallR.or{f:Value}{r r':List V->Hp->VK->Prop}(h:CallR X f r)(h':CallR X f r'):CallR X f (λx H Q=>r x H Q\/r' x H Q):=by
 intro pins s σ H xs us Q I rs q
 rcases q with q|q
 ·exact h pins s σ H xs us Q I rs q
 ·exact h' pins s σ H xs us Q I rs q
def RunB(T:Tx)(b:Blt)(r:List V->Hp->VK->Prop):Prop:=∀{Γ:Ctx}{G:List Gh}{ρ:Env}{σ:St}{H H1:Hp}{ds:List D}{ts:List Tag}{vs:List V}{d:D}{Q:VK},EnvOk T Γ G ρ σ H->Same H H1->RsOk T Γ H H1 ds ts vs->bltD b ds=some d->
 (∀v H',Same H1 H'->ROk T Γ H H' d (tagL d ts) v->Q v H')->r vs H1 Q
theorem rs1{ds:List D}{d:D}{ts:List Tag}{vs:List V}(h:RsOk T Γ H H' [d] ts vs):∃t v,ts=[t]/\vs=[v]/\ROk T Γ H H' d t v:=by
 obtain⟨t,ts',v,vs',rfl,rfl,o,rfl,rfl⟩:=h
 exact⟨t,v,rfl,rfl,o⟩
theorem rs2{d d':D}{ts:List Tag}{vs:List V}(h:RsOk T Γ H H' [d,d'] ts vs):∃t v t' v',ts=[t,t']/\vs=[v,v']/\ROk T Γ H H' d t v/\ROk T Γ H H' d' t' v':=by
 obtain⟨t,ts',v,vs',rfl,rfl,o,t',ts'',v',vs'',rfl,rfl,o',rfl,rfl⟩:=h
 exact⟨t,v,t',v',rfl,rfl,o,o'⟩
theorem z2a{ns:List Int}(h:Reps T H C (ns.map D.int) xs):xs=ns.map V.int:=by
 induction ns generalizing xs with
 | nil=>exact h
 | cons n r ih=>obtain⟨w,ws,rfl,hw,hs⟩:=h;rw[List.map_cons,<-ih hs];exact congrArg (· :: ws) hw
theorem z6n{ns:List Bool}(h:Reps T H C (ns.map D.bl) xs):xs=ns.map V.bl:=by
 induction ns generalizing xs with
 | nil=>exact h
 | cons n r ih=>obtain⟨w,ws,rfl,hw,hs⟩:=h;rw[List.map_cons,<-ih hs];exact congrArg (· :: ws) hw
theorem z3Y{as:List V}:∀{ts:List (Int×Int)}{as:List V},Reps T H C (ts.map tieD) as->TiesIn T.K H as ts
 | [],_,h=>by cases h;exact .nil
 | t::ts,_,⟨w,ws,e,hw,hs⟩=>by
  subst e
  obtain⟨a,e,q⟩:=z3X (x:=tieD t) (p:=t) rfl hw
  exact .cons ⟨a,e,q⟩ (z3Y (as:=as) hs)
theorem z3Z:∀{ts:List (Int×Int)}{as:List V},TiesIn T.K H as ts->Reps T H C (ts.map tieD) as
 | [],_,h=>by cases h;rfl
 | t::ts,_,.cons ⟨a,e,q⟩ hs=>by
  subst e
  exact⟨_,_,rfl,⟨a,_,rfl,q,_,_,rfl,rfl,_,_,rfl,rfl,rfl⟩,z3Z hs⟩
theorem zBx(hK:X.K=T.K):RunB T .len (λxs H Q=>∃p ys,xs=[.ref p]/\(SqL X.K H p ys\/SqT X.K H p ys)/\Q (.int ys.length) H):=λ{Γ G ρ σ H H1 ds ts vs d Q}h s ok hb q=>by
 obtain⟨x,rfl,hb⟩:=z1W hb
 obtain⟨t,v,rfl,rfl,o⟩:=rs1 (ds:=[]) ok
 cases x with
 | lst _=>
  cases hb
  obtain⟨a,xs,rfl,ha,rs⟩:=o.list
  refine⟨a,xs,rfl,.inl (SqL.of ha),?_⟩
  rw[rs.length];exact q _ H1 (Same.refl _) rfl
 | tup _=>
  cases hb
  obtain⟨a,xs,rfl,ha,rs⟩:=o.tuple
  refine⟨a,xs,rfl,.inr (by rw[hK];exact ha),?_⟩
  rw[rs.length];exact q _ H1 (Same.refl _) rfl
 | scr _=>
  cases hb
  obtain⟨a,rfl,ha⟩:=z9F o.any
  refine⟨a,_,rfl,.inl (by rw[hK];exact ha),?_⟩
  rw[List.length_map];exact q _ H1 (Same.refl _) rfl
 | _=>cases hb
theorem z9N(hK:X.K=T.K):RunB T .list (λxs H Q=>∃p ys,xs=[.ref p]/\(SqL X.K H p ys\/SqT X.K H p ys)/\ ∀l,H l=none->Q (.ref l) (L2.upd H l (.lst ys))):=λ{Γ G ρ σ H H1 ds ts vs d Q}h s ok hb q=>by
 obtain⟨x,rfl,hb⟩:=z1W hb
 obtain⟨es,rfl,hb⟩:=z3P hb
 cases hb
 obtain⟨t,v,rfl,rfl,o⟩:=rs1 (ds:=[]) ok
 obtain⟨a,xs,rfl,ha,rs⟩:=o.list
 refine⟨a,xs,rfl,.inl (SqL.of ha),λl hl=>?_⟩
 obtain⟨s4,ok4⟩:=mkList (t:=t.el) h s hl z6l (rs.imp λb z=>by rw[TC.el];exact z)
 exact q _ _ s4 ok4
theorem z80:RunB T .tuple (λxs H Q=>∃p ys,xs=[.ref p]/\((SqL X.K H p ys/\ ∀l,H l=none->Q (.ref l) (L2.upd H l (.tup ys)))\/(SqT X.K H p ys/\Q (.ref p) H))):=λ{Γ G ρ σ H H1 ds ts vs d Q}h s ok hb q=>by
 obtain⟨x,rfl,hb⟩:=z1W hb
 obtain⟨es,rfl,hb⟩:=z3P hb
 obtain⟨ns,hn,rfl⟩:=Option.map_eq_some_iff.mp hb
 obtain⟨t,v,rfl,rfl,o⟩:=rs1 (ds:=[]) ok
 obtain⟨a,xs,rfl,ha,rs⟩:=o.list
 rw[z5g hn]at rs
 have ex:=z2a rs
 refine⟨a,xs,rfl,.inl ⟨SqL.of ha,λl hl=>?_⟩⟩
 have rs':Reps T H1 (TC Γ H .new) (ns.map D.int) xs:=by rw[ex];exact z3W ns
 obtain⟨s4,ok4⟩:=mkTup (t:=.new) h s hl (λc z=>nomatch z) rs'
 have e:rts (ns.map D.int) .new= .new:=by unfold rts;rw[if_pos (z00 ns)]
 rw[e]at ok4
 exact q _ _ s4 ok4
theorem z6W(hK:X.K=T.K):RunB T .sorted (λxs H Q=>(∃(p:Addr)(ns:List Int),xs=[.ref p]/\SqL X.K H p (ns.map V.int)/\ns.length<64/\
   ∀l(ns':List Int),H l=none->ns'.Perm ns->ns'.Pairwise (· <= ·)->Q (.ref l) (L2.upd H l (.lst (ns'.map V.int))))\/
  (∃(p:Addr)(as:List V)(ts:List MT.Tie),xs=[.ref p]/\SqL X.K H p as/\TiesIn X.K H as ts/\ts.length<300/\
   ∀(l:Addr)(as':List V)(ts':List MT.Tie),H l=none->TiesIn X.K H as' ts'->ts'.Perm ts->ts'.Pairwise MT.tle->Q (.ref l) (L2.upd H l (.lst as')))):=λ{Γ G ρ σ H H1 ds ts vs d Q}h s ok hb q=>by
 obtain⟨x,rfl,hb1⟩:=z1W hb
 obtain⟨es,rfl,hb2⟩:=z3P hb1
 obtain⟨xs',hb3,rfl⟩:=Option.map_eq_some_iff.mp hb2
 clear hb hb1 hb2
 have hb:=hb3
 obtain⟨t,v,rfl,rfl,o⟩:=rs1 (ds:=[]) ok
 obtain⟨a,xs,rfl,ha,rs⟩:=o.list
 unfold sortD at hb
 split at hb
 ·rename_i hl
  split at hb
  ·rename_i ns hn
   cases hb
   have e:=z5g hn
   subst e
   cases z2a rs
   refine .inl ⟨a,ns,rfl,SqL.of ha,by simpa using hl,λl ns' hl' p1 p2=>?_⟩
   rw[z1Y p1 p2]
   obtain⟨s4,ok4⟩:=mkList (t:=t.el) h s hl' z6l (z3W (T:=T) (H:=H1) (C:=TC Γ H t.el) (isortI ns))
   exact q _ _ s4 ok4
  ·split at hb
   ·rename_i ns hn
    cases hb
    have e:=z7K hn
    subst e
    refine .inr ⟨a,xs,ns,rfl,SqL.of ha,by rw[hK];exact z3Y (as:=xs) rs,by rw[List.length_map]at hl;omega,λl as' ts' hl' r' p1 p2=>?_⟩
    have e:=z1Z p1 p2
    subst e
    rw[hK]at r'
    obtain⟨s4,ok4⟩:=mkList (t:=t.el) h s hl' z6l (z3Z (C:=TC Γ H t.el) r')
    exact q _ _ s4 ok4
   ·cases hb
 ·split at hb
  ·rename_i hl
   split at hb
   ·rename_i ns hn
    cases hb
    have e:=z7K hn
    subst e
    refine .inr ⟨a,xs,ns,rfl,SqL.of ha,by rw[hK];exact z3Y (as:=xs) rs,by rw[List.length_map]at hl;omega,λl as' ts' hl' r' p1 p2=>?_⟩
    have e:=z1Z p1 p2
    subst e
    rw[hK]at r'
    obtain⟨s4,ok4⟩:=mkList (t:=t.el) h s hl' z6l (z3Z (C:=TC Γ H t.el) r')
    exact q _ _ s4 ok4
   ·cases hb
  ·cases hb
theorem zBy:RunB T .abs (λxs H Q=>∃i,xs=[.int i]/\Q (.int (if i<0 then -i else i)) H):=λ{Γ G ρ σ H H1 ds ts vs d Q}h s ok hb q=>by
 obtain⟨x,rfl,hb⟩:=z1W hb
 obtain⟨i,rfl,hb⟩:=z93 hb
 cases hb
 obtain⟨t,v,rfl,rfl,o⟩:=rs1 (ds:=[]) ok
 exact⟨_,congrArg (λz=>[z]) o.any,q _ H1 (Same.refl _) rfl⟩
theorem zBz:RunB T .min (λxs H Q=>∃i j,xs=[.int i,.int j]/\Q (.int (if j<i then j else i)) H):=λ{Γ G ρ σ H H1 ds ts vs d Q}h s ok hb q=>by
 obtain⟨x,y,rfl,hb⟩:=z6T hb
 obtain⟨i,j,rfl,rfl,hb⟩:=z28 hb
 cases hb
 obtain⟨t,v,t',v',rfl,rfl,o,o'⟩:=rs2 ok
 cases(show v= .int _ from o.any)
 cases(show v'= .int _ from o'.any)
 exact⟨_,_,rfl,q _ H1 (Same.refl _) rfl⟩
theorem zB0:RunB T .max (λxs H Q=>∃i j,xs=[.int i,.int j]/\Q (.int (if j>i then j else i)) H):=λ{Γ G ρ σ H H1 ds ts vs d Q}h s ok hb q=>by
 obtain⟨x,y,rfl,hb⟩:=z6T hb
 obtain⟨i,j,rfl,rfl,hb⟩:=z28 hb
 cases hb
 obtain⟨t,v,t',v',rfl,rfl,o,o'⟩:=rs2 ok
 cases(show v= .int _ from o.any)
 cases(show v'= .int _ from o'.any)
 exact⟨_,_,rfl,q _ H1 (Same.refl _) rfl⟩
theorem zB1:RunB T .all (λxs H Q=>∃(p:Addr)(bs:List Bool),xs=[.ref p]/\SqL X.K H p (bs.map V.bl)/\Q (.bl (bs.all λb=>b)) H):=λ{Γ G ρ σ H H1 ds ts vs d Q}h s ok hb q=>by
 obtain⟨x,rfl,hb1⟩:=z1W hb
 obtain⟨es,rfl,hb2⟩:=z3P hb1
 obtain⟨bs,hb3,rfl⟩:=Option.map_eq_some_iff.mp hb2
 clear hb hb1 hb2
 have hb:=hb3
 obtain⟨t,v,rfl,rfl,o⟩:=rs1 (ds:=[]) ok
 obtain⟨a,xs,rfl,ha,rs⟩:=o.list
 have e:=zDc hb
 subst e
 cases z6n rs
 exact⟨a,bs,rfl,SqL.of ha,q _ H1 (Same.refl _) rfl⟩
theorem zB2:RunB T .int (λxs H Q=>(∃i,xs=[.int i]/\Q (.int i) H)\/ ∃k,xs=[.bl k]/\Q (.int (if k then 1 else 0)) H):=λ{Γ G ρ σ H H1 ds ts vs d Q}h s ok hb q=>by
 obtain⟨x,rfl,hb⟩:=z1W hb
 obtain⟨t,v,rfl,rfl,o⟩:=rs1 (ds:=[]) ok
 cases x with
 | bl _=>
  cases hb
  exact .inr ⟨_,congrArg (λz=>[z]) o.any,q _ H1 (Same.refl _) rfl⟩
 | int _=>
  cases hb
  exact .inl ⟨_,congrArg (λz=>[z]) o.any,q _ H1 (Same.refl _) rfl⟩
 | _=>cases hb
theorem z9O{b:Blt}{r0:List V->Hp->VK->Prop}(R:RunB T b r0){ta:TA}{xs:List Ex}(da:DenA T W E ta xs):Den T W E (tCB r0 ta) (.blt b xs):=λΓ G ρ σ H r Q he h hp=>by
 conv at he=>lhs;whnf
 refine da.step (k:=λds ts=>match bltD b ds with|some d=>some (.ok d (tagL d ts))|none=>none) he h hp λds ts vs H1 hk s ok h1 hp1=>?_
 split at hk
 ·rename_i d hd
  cases hk
  exact R h s ok hd λv H' s' ok'=>hp v H' (s.trans s') ok'
 ·cases hk
theorem z2x(lo:Int)(n:Nat):Reps T H C (rangeD lo n) ((List.range n).map λk:Nat=>V.int (lo+(k:Int))):=by
 unfold rangeD
 induction (List.range n)with
 | nil=>rfl
 | cons a r ih=>exact⟨_,_,rfl,rfl,ih⟩
theorem z1n{i:Int}(h:smallI i=true):-(2^62)<=i/\i<2^62:=by
 unfold smallI at h
 simp only[Bool.and_eq_true,decide_eq_true_eq]at h
 exact h
theorem z4F{lo:Int}{n:Nat}:tagL (.lst (rangeD lo n)) ts= .new:=by
 have:lfs (rangeD lo n)=true:=by
  unfold rangeD
  induction (List.range n)with
  | nil=>rfl
  | cons a r ih=>simp[lfs,lf,ih]
 simp[tagL,rts,this]
theorem z4p{ta:TA}{xa:Ex}(da:DenA T W E ta [xa]):
  Den T W E (tCB (λxs H Q=>∃(p:Addr)(lo hi:Int),xs=[.ref p]/\H p=some (.rng lo hi)/\(-(2^62)<=lo/\lo<2^62/\ -(2^62)<=hi/\hi<2^62)/\(hi-lo).toNat<=sizeLine/\
   ∀l,H l=none->Q (.ref l) (L2.upd H l (.lst ((List.range (hi-lo).toNat).map λk:Nat=>V.int (lo+(k:Int))))))
   (tCons (tCB (λxs H Q=>∃j:Int,xs=[.int j]/\ ∀r,H r=none->Q (.ref r) (L2.upd H r (.rng 0 j))) ta) tNil)) (.blt .listrange1 [xa]):=λΓ G ρ σ H r Q he h hp=>by
 conv at he=>lhs;whnf
 refine da.step (k:=λds ts=>match bltD .listrange1 ds with|some d=>some (.ok d (tagL d ts))|none=>none) he h hp λds ts vs H1 hk s ok h1 hp1=>?_
 split at hk
 ·rename_i d hd
  cases hk
  obtain⟨x,rfl,hd⟩:=z1W hd
  obtain⟨j,rfl,hd⟩:=z93 hd
  obtain⟨hz,hd⟩:=iteN hd
  ·cases hd
   obtain⟨t,v,rfl,rfl,o⟩:=rs1 (ds:=[]) ok
   cases(show v= .int _ from o.any)
   obtain⟨b1,b2⟩:=z1n hz.1
   refine⟨j,rfl,λp hp'=>⟨p,0,j,rfl,z0m,⟨by decide,by decide,b1,b2⟩,Nat.le_of_lt (small1000 (by omega)),λl hl=>?_⟩⟩
   have sp:Same H1 (L2.upd H1 p (.rng 0 j)):=Same.mk1 hp'
   have rr:=z2x (T:=T) (H:=L2.upd H1 p (.rng 0 j)) (C:=TC Γ H .new) 0 (j-0).toNat
   rw[show(j-0).toNat=j.toNat by lia]at rr ⊢
   obtain⟨s4,ok4⟩:=mkList (t:=.new) h (s.trans sp) hl (λc z=>nomatch z) rr
   refine hp _ _ ((s.trans sp).trans s4) ?_
   have e:tagL (.lst (rangeD 0 j.toNat)) [t]=rts (rangeD 0 j.toNat) .new:=by rw[z4F];unfold rts;split<;>rfl
   rw[e];exact ok4
 ·cases hk
theorem z4q{ta:TA}{xa xb:Ex}(da:DenA T W E ta [xa,xb]):
  Den T W E (tCB (λxs H Q=>∃(p:Addr)(lo hi:Int),xs=[.ref p]/\H p=some (.rng lo hi)/\(-(2^62)<=lo/\lo<2^62/\ -(2^62)<=hi/\hi<2^62)/\(hi-lo).toNat<=sizeLine/\
   ∀l,H l=none->Q (.ref l) (L2.upd H l (.lst ((List.range (hi-lo).toNat).map λk:Nat=>V.int (lo+(k:Int))))))
   (tCons (tCB (λxs H Q=>∃i j:Int,xs=[.int i,.int j]/\ ∀r,H r=none->Q (.ref r) (L2.upd H r (.rng i j))) ta) tNil)) (.blt .listrange2 [xa,xb]):=λΓ G ρ σ H r Q he h hp=>by
 conv at he=>lhs;whnf
 refine da.step (k:=λds ts=>match bltD .listrange2 ds with|some d=>some (.ok d (tagL d ts))|none=>none) he h hp λds ts vs H1 hk s ok h1 hp1=>?_
 split at hk
 ·rename_i d hd
  cases hk
  obtain⟨x,y,rfl,hd⟩:=z6T hd
  obtain⟨i,j,rfl,rfl,hd⟩:=z28 hd
  obtain⟨hz,hd⟩:=iteN hd
  ·cases hd
   obtain⟨t,v,t',v',rfl,rfl,o,o'⟩:=rs2 ok
   cases(show v= .int _ from o.any)
   cases(show v'= .int _ from o'.any)
   obtain⟨b1,b2⟩:=z1n hz.1
   obtain⟨b3,b4⟩:=z1n hz.2.1
   refine⟨i,j,rfl,λp hp'=>⟨p,i,j,rfl,z0m,⟨b1,b2,b3,b4⟩,Nat.le_of_lt (small1000 (by omega)),λl hl=>?_⟩⟩
   have sp:Same H1 (L2.upd H1 p (.rng i j)):=Same.mk1 hp'
   obtain⟨s4,ok4⟩:=mkList (t:=.new) h (s.trans sp) hl (λc z=>nomatch z) (z2x (T:=T) (H:=L2.upd H1 p (.rng i j)) (C:=TC Γ H .new) i (j-i).toNat)
   refine hp _ _ ((s.trans sp).trans s4) ?_
   have e:tagL (.lst (rangeD i (j-i).toNat)) [t,t']=rts (rangeD i (j-i).toNat) .new:=by rw[z4F];unfold rts;split<;>rfl
   rw[e];exact ok4
 ·cases hk
theorem z9P:CallR X (.builtin "len") (λxs H Q=>∃(p:Addr)(S:Int->Bool)(n:Nat),xs=[.ref p]/\H p=some (.set S n)/\Q (.int n) H):=by
 intro pins s σ H xs us Q I r h
 obtain⟨p,S,n,rfl,hp,q⟩:=h
 obtain⟨u,rfl,rx⟩:=vals1 r
 cases rx
 obtain⟨o,es,ep,t,h1,h2,h3,_,_,h6,h7,h8⟩:=(show s.heap.SetOf (intKind X.prog X.w) p S n from I.hok p _ hp)
 subst h8
 refine PySem.call_len_set h1 h2 h3 h7 (by have z:scanBound<=1099511627776:=(by decide);lia) ?_
 exact⟨.int es.size,H,I.tok _,⟨_,rfl⟩,q⟩
theorem z4r(ns:List Int):PyProof.Rows.firstMet (λi=>ns.getD i 0) ns.length=dedup ns:=by
 unfold PyProof.Rows.firstMet dedup
 rw[MT.z0Y 0 ns]
 rfl
theorem zB3{ta:TA}{xa:Ex}(hK:X.K=T.K)(da:DenA T W E ta [xa]):
  Den T W E (tCB (λxs H Q=>∃(p:Addr)(S:Int->Bool)(n:Nat),xs=[.ref p]/\H p=some (.set S n)/\Q (.int n) H)
   (tCons (tCB (λxs H Q=>∃(p:Addr)(ns:List Int),xs=[.ref p]/\SqL X.K H p (ns.map V.int)/\ns.length<1000/\
    ∀l S,H l=none->Q (.ref l) (L2.upd H l (.set S (PyProof.Rows.firstMet (λi=>ns.getD i 0) ns.length).length))) ta) tNil)) (.blt .lset [xa]):=λΓ G ρ σ H r Q he h hp=>by
 conv at he=>lhs;whnf
 refine da.step (k:=λds ts=>match bltD .lset ds with|some d=>some (.ok d (tagL d ts))|none=>none) he h hp λds ts vs H1 hk s ok h1 hp1=>?_
 split at hk
 ·rename_i d hd
  cases hk
  obtain⟨x,rfl,hd1⟩:=z1W hd
  obtain⟨es,rfl,hd2⟩:=z3P hd1
  obtain⟨n,hd3,rfl⟩:=Option.map_eq_some_iff.mp hd2
  clear hd hd1 hd2
  have hd:=hd3
  unfold distinct at hd
  split at hd
  ·rename_i hl
   split at hd
   ·rename_i ns hn
    cases hd
    obtain⟨t,v,rfl,rfl,o⟩:=rs1 (ds:=[]) ok
    obtain⟨a,xs,rfl,ha,rs⟩:=o.list
    have e:=z5g hn
    subst e
    cases z2a rs
    refine⟨a,ns,rfl,SqL.of ha,by simpa using hl,λl S hl'=>⟨l,S,_,rfl,z0m,?_⟩⟩
    have sp:Same H1 (L2.upd H1 l (.set S (PyProof.Rows.firstMet (λi=>ns.getD i 0) ns.length).length)):=Same.mk1 hl'
    rw[z4r]at sp ⊢
    exact hp _ _ (s.trans sp) rfl
   ·cases hd
  ·cases hd
 ·cases hk
end
end Ev
namespace Ev
open PySem L2
def tE(T:Tx)(W:Wd)(E:XK)(x:Ex):TE:=λσ H Q=>∃(Γ:Ctx)(G:List Gh)(ρ:Env)(r:Res),evE W ρ x=some r/\EnvOk T Γ G ρ σ H/\Post T E Γ H Q r
def tT(T:Tx)(W:Wd)(E:XK)(x:Ex):TT:=λσ H Q=>∃(Γ:Ctx)(G:List Gh)(ρ:Env)(r:Res),evE W ρ x=some r/\isB r/\EnvOk T Γ G ρ σ H/\PostT T E H Q r
section
variable{T:Tx}{W:Wd}{X:Cx}{E:XK}{Γ:Ctx}{G:List Gh}{ρ ρ1:Env}{σ σ1:St}{H H1 H2 H':Hp}{C C':Addr->Prop}{Q:VK}{r:Res}{d x y:D}{t u:Tag}{v w vx vy:V}{b:Bool}{ds:List D}{ts:List Tag}{vs xs:List V}
theorem Snd.pe{e:Expr}{x:Ex}(h:Snd T W X E e x):PE X e (tE T W E x):=by
 obtain⟨t,p,q⟩:=h
 exact PE.imp p λσ H Q⟨Γ,G,ρ,r,h1,h2,h3⟩=>q Γ G ρ σ H r Q h1 h2 h3
theorem zFx{x:Ex}:Den T W E (tE T W E x) x:=λΓ G ρ σ H r Q h1 h2 h3=>⟨Γ,G,ρ,r,h1,h2,h3⟩
theorem zFy{e:Expr}{x:Ex}(h:PE X e (tE T W E x)):Snd T W X E e x:=⟨_,h,zFx⟩
theorem z9Q{x:Ex}:DenT T W E (tT T W E x) x:=λΓ G ρ σ H r Q h1 h2 h3 h4=>⟨Γ,G,ρ,r,h1,h2,h3,h4⟩
theorem SndT.pt{e:Expr}{x:Ex}(h:SndT T W X E e x):PT X e (tT T W E x):=by
 obtain⟨t,p,q⟩:=h
 exact λpins s σ H Q I⟨Γ,G,ρ,r,h1,h2,h3,h4⟩=>p pins s σ H Q I (q Γ G ρ σ H r Q h1 h2 h3 h4)
theorem zDz{e:Expr}{x:Ex}(h:PT X e (tT T W E x)):SndT T W X E e x:=⟨_,h,z9Q⟩
def FlowOk(T:Tx)(H:Hp)(P:Addr->Prop):List Bool->List D->List V->Prop
 | [],_,_=>True
 | f::r,ds,vs=>match ds with
  | []=>True
  | d::ds=>match vs with
   | []=>True
   | v::vs=>(f=true->Rep T H P d v)/\FlowOk T H P r ds vs
def spD(T:Tx)(fn:Fn):Sp:=λvs H Q E=>∃(ds:List D)(r:R)(P:Addr->Prop),Reps T H (λ_=>True) ds vs/\FlowOk T H P fn.fl ds vs/\fn.m ds=some r/\
 (match r with
  | .ok d=>∀v H',Same H H'->Rep T H' (λb=>H b=none\/P b) d v->Q v H'
  | .exc c=>∀H',Same H H'->E (T.cv c) none H')
theorem z7L:∀{fl:List Bool}{ds:List D}{ts:List Tag}{vs:List V},RsOk T Γ H H1 ds ts vs->FlowOk T H1 (λ_=>True) fl ds vs
 | [],_,_,_,_=>trivial
 | f::fl,[],_,_,_=>trivial
 | f::fl,d::ds,_,_,⟨t,ts',v,vs',e1,e2,o,r⟩=>by
  subst e1;subst e2
  exact⟨λ_=>o.any,z7L r⟩
theorem FlowOk.mono{P P':Addr->Prop}(hP:∀b,P b->P' b):∀{fl:List Bool}{ds:List D}{vs:List V},FlowOk T H P fl ds vs->FlowOk T H P' fl ds vs
 | [],_,_,_=>trivial
 | f::fl,[],_,_=>trivial
 | f::fl,d::ds,[],_=>trivial
 | f::fl,d::ds,v::vs,h=>⟨λz=>(h.1 z).imp hP,FlowOk.mono hP h.2⟩
theorem z5j(h:EnvOk T Γ G ρ σ H):∀{fl:List Bool}{ds:List D}{ts:List Tag}{vs:List V}{t:Tag},flowTag fl ts=some t->RsOk T Γ H H1 ds ts vs->FlowOk T H1 (TC Γ H t) fl ds vs/\ ∀c,t≠ .own c
 | [],_,_,_,t,e,_=>by cases e;exact⟨trivial,λc z=>nomatch z⟩
 | f::fl,[],_,_,t,e,⟨e1,e2⟩=>by subst e1;subst e2;cases e;exact⟨trivial,λc z=>nomatch z⟩
 | true::fl,d::ds,_,_,t,e,⟨t',ts',v,vs',e1,e2,o,r⟩=>by
  subst e1;subst e2
  have e1:(if noFlow t'=true then none else(flowTag fl ts').map t'.join)=some t:=e
  by_cases hn:noFlow t'=true
  ·rw[if_pos hn]at e1;cases e1
  ·rw[if_neg hn,Option.map_eq_some_iff]at e1
   obtain⟨u,e2,rfl⟩:=e1
   obtain⟨q,no⟩:=z5j h e2 r
   have no':∀c,t'≠ .own c:=λc z=>hn (by rw[z];rfl)
   refine⟨⟨λ_=>(o.rep no').imp λb z=>TC.join_l h z,q.mono λb z=>TC.join_r h z⟩,λc z=>?_⟩
   cases t' with
   | own c'=>exact no' c' rfl
   | new=>cases u with
    | own c''=>exact no c'' rfl
    | new=>cases z
    | cl _=>cases z
   | cl c'=>cases u with
    | own c''=>exact no c'' rfl
    | new=>cases z
    | cl _=>cases z
 | false::fl,d::ds,_,_,t,e,⟨t',ts',v,vs',e1,e2,o,r⟩=>by
  subst e1;subst e2
  obtain⟨q,no⟩:=z5j (fl:=fl) h (show flowTag fl ts'=some t from e) r
  exact⟨⟨(λz=>nomatch z),q⟩,no⟩
theorem zB4{f:Str}{fn:Fn}(hf:W.F f=some fn){ta:TA}{xs:List Ex}(da:DenA T W E ta xs):Den T W E (tCall (spD T fn) [] E ta) (.call f xs):=λΓ G ρ σ H r Q he h hp=>by
 (conv at he=>lhs;whnf);rw[hf]at he
 refine da.step (k:=λds ts=>callR fn ds ts) he h hp λds ts vs H1 hk s ok h1 hp1=>?_
 show spD T fn (vs++[]) H1 Q E
 rw[List.append_nil]
 unfold callR at hk
 split at hk
 ·cases hk
 ·rename_i c hm
  cases hk
  exact⟨ds,.exc c,λ_=>True,ok.any,z7L ok,hm,hp1⟩
 ·rename_i d hm
  split at hk
  ·rename_i t ht
   cases hk
   obtain⟨q,no⟩:=z5j h ht ok
   refine⟨ds,.ok d,TC Γ H t,ok.any,q,hm,λv H' s' r'=>hp v H' (s.trans s') (ROk.rt (ROk.of (r'.imp λb z=>?_) no))⟩
   rcases z with z|z
   ·exact TC.fresh h (s.free z)
   ·exact z
  ·cases hk
def CallIn(T:Tx)(P:Program)(w:World)(mg:Str->Option Value)(base:Heap)(k:Nat)(x:Str)(fn:Fn):Prop:=∀(X:Cx),X.prog=P->X.w=w->X.K=T.K->X.mg=mg->X.base=base->Room k X.A-> ∀E,Passes (CX1 P w) X E->Gl X x->(x==("__debug__":Str))=false->
 ∀(e:Expr)(es:List Expr)(t:TA)(p pos:Pos),PA X (e::es) t->starEach (e::es) X.env=(false,eval e X.env)::starEach es X.env->(backTo pos (starEach es X.env)).any (·.1)=false->PE X (.Call (.Name x p) (e::es) [] pos) (tCall (spD T fn) [] E t)
def tagCl:Tag->Cl
 | .new=>.fl
 | .cl c=>c
 | .own c=>c
theorem z33:entOf d t=⟨d,false,tagCl t⟩:=by cases t<;>rfl
theorem TC.weak(h:EnvOk T Γ G ρ σ H){b:Addr}(n:TC Γ H t b):TCc Γ (tagCl t) b:=by
 cases t with
 | new=>exact .inr (h.fresh n)
 | cl c=>exact n
 | own c=>exact n
theorem z6o{tg:Tg}{ρ1:Env}(h:bindT ρ t tg d=some ρ1):tagCl t≠ .dp/\bindT0 ρ t tg d=some ρ1:=by
 cases t with
 | new=>exact⟨(λz=>nomatch z),h⟩
 | cl c=>cases c with
  | dp=>cases h
  | _=>exact⟨(λz=>nomatch z),h⟩
 | own c=>cases c with
  | dp=>cases h
  | _=>exact⟨(λz=>nomatch z),h⟩
theorem EnvOk.setv{i:Nat}{c:Cl}(h:EnvOk T Γ G ρ σ H)(r:Rep T H (Cond Γ c) d v):EnvOk T Γ G (ρ.set i (some ⟨d,false,c⟩)) (σ.set i (some v)) H:=by
 refine⟨h.same,h.own,h.deep,λj e q=>?_,λj k e e' ne q q' o o'=>?_,h.gh,by simp[h.len]⟩
 ·by_cases hj:i=j
  ·subst hj
   have hi:i<ρ.length:=by
    have:=(List.getElem?_eq_some_iff.mp q).1
    simpa using this
   rw[List.getElem?_set_self hi]at q
   cases q
   exact⟨v,by rw[List.getElem?_set_self (by rw[h.len];exact hi)],⟨λz=>(by cases z),λz=>(by cases z),λ_=>r⟩⟩
  ·rw[List.getElem?_set_ne hj]at q ⊢
   exact h.ent j e q
 ·have nj:i≠j:=by
   intro z;subst z
   have hi:i<ρ.length:=by
    have:=(List.getElem?_eq_some_iff.mp q).1
    simpa using this
   rw[List.getElem?_set_self hi]at q
   cases q;cases o
  have nk:i≠k:=by
   intro z;subst z
   have hi:i<ρ.length:=by
    have:=(List.getElem?_eq_some_iff.mp q').1
    simpa using this
   rw[List.getElem?_set_self hi]at q'
   cases q';cases o'
  rw[List.getElem?_set_ne nj]at q ⊢
  rw[List.getElem?_set_ne nk]at q' ⊢
  exact h.inj j k e e' ne q q' o o'
def tgSlots:Tg->List Nat
 | .name i=>[i]
 | .tup is=>is
def TgOk(T:Tx)(g:TG)(tgx:Tg):Prop:=∀{Γ:Ctx}{G:List Gh}{ρ:Env}{σ:St}{H:Hp}{t:Tag}{d:D}{v:V}{ρ1:Env}{Q:St->Hp->Prop},EnvOk T Γ G ρ σ H->Rep T H (TCc Γ (tagCl t)) d v->bindT ρ t tgx d=some ρ1->
 (∀σ1,EnvOk T Γ G ρ1 σ1 H->(∀j,j∉tgSlots tgx->σ1[j]? = σ[j]?)->σ1.length=σ.length->Q σ1 H)->g v σ H Q
theorem z2R{i:Nat}:TgOk T (gName i) (.name i):=λ{Γ G ρ σ H t d v ρ1 Q}h r e q=>by
 obtain⟨hd,e1⟩:=z6o e
 cases e1
 rw[z33]at q
 exact q _ (h.setv (r.imp λb z=>z.cond hd)) (λj hj=>List.getElem?_set_ne (λz=>hj (by simp[tgSlots,z]))) (by simp)
theorem z7M{K:PySem.W.Frag}(hK:K=T.K){i j:Nat}:TgOk T (gTup K 2 (gCons (gName i) (gCons (gName j) gNil))) (.tup [i,j]):=λ{Γ G ρ σ H t d v ρ1 Q}h r e q=>by
 obtain⟨hd,e1⟩:=z6o e
 clear e
 replace r:=r.imp λb z=>z.cond hd
 cases d with
 | tup ds=>
  rcases ds with _|⟨a,_|⟨b,_|⟨c,rr⟩⟩⟩
  ·cases e1
  ·cases e1
  ·cases e1
   obtain⟨p,xs,rfl,hp,w,ws,rfl,rw1,w2,ws2,rfl,rw2,rfl⟩:=r
   refine⟨p,_,rfl,by rw[hK];exact hp,rfl,w,_,rfl,w2,_,rfl,rfl,?_⟩
   rw[z33,z33]at q
   exact q _ ((h.setv rw1).setv rw2) (λk hk=>by
    rw[List.getElem?_set_ne (λz=>hk (by simp[tgSlots,z])),List.getElem?_set_ne (λz=>hk (by simp[tgSlots,z]))]) (by simp)
  ·cases e1
 | _=>cases e1
theorem EnvOk.off(h:EnvOk T Γ G ρ σ H)(ho:∀(j:Nat)(e:Ent),ρ[j]? = some (some e)->σ1[j]? = σ[j]?)(hl:σ1.length=σ.length):EnvOk T Γ G ρ σ1 H:=
 ⟨h.same,h.own,h.deep,λi e q=>by rw[ho i e q];exact h.ent i e q,λi j e e' ne q q' o o'=>by rw[ho i e q,ho j e' q'];exact h.inj i j e e' ne q q' o o',h.gh,hl.trans h.len⟩
theorem EnvOk.stIn{ix:List (Option Nat)}(h:EnvOk T Γ G ρ σ H)(inj:∀(i j k:Nat),ix[i]? = some (some k)->ix[j]? = some (some k)->i=j):EnvOk T Γ G (Ev.stIn ix ρ) (L2.stIn ix σ) H:=by
 have get:∀(j:Nat)(e:Ent),(Ev.stIn ix ρ)[j]? = some (some e)-> ∃i,ix[j]? = some (some i)/\ρ[i]? = some (some e):=λj e q=>by
  unfold Ev.stIn at q
  rw[List.getElem?_map,Option.map_eq_some_iff]at q
  obtain⟨o,q1,q2⟩:=q
  cases o with
  | none=>cases q2
  | some i=>
   refine⟨i,q1,?_⟩
   dsimp only at q2
   cases z:ρ[i]? with
   | none=>rw[z]at q2;cases q2
   | some e'=>rw[z]at q2;exact congrArg some q2
 have put:∀(j i:Nat),ix[j]? = some (some i)->(L2.stIn ix σ)[j]? = some ((σ[i]?).getD none):=λj i q=>by
  unfold L2.stIn
  rw[List.getElem?_map,q];rfl
 refine⟨h.same,h.own,h.deep,λj e q=>?_,λj k e e' ne q q' o o'=>?_,h.gh,by simp[Ev.stIn,L2.stIn]⟩
 ·obtain⟨i,h1,h2⟩:=get j e q
  obtain⟨v,h3,h4⟩:=h.ent i e h2
  exact⟨v,by rw[put j i h1,h3];rfl,h4⟩
 ·obtain⟨i,h1,h2⟩:=get j e q
  obtain⟨i',h1',h2'⟩:=get k e' q'
  have ni:i≠i':=λz=>by subst z;exact ne (inj j k i h1 h1')
  obtain⟨v,h3,_⟩:=h.ent i e h2
  obtain⟨v',h3',_⟩:=h.ent i' e' h2'
  intro n n'
  have:=h.inj i i' e e' ni h2 h2' o o' n n'
  rw[put j i h1,put k i' h1',h3,h3']
  rw[h3,h3']at this
  exact this
theorem mkList'{p:Addr}(h:EnvOk T Γ G ρ σ H)(s:Same H H1)(n:H1 p=none)(no:∀c,t≠ .own c)(r:Reps T H1 (TC Γ H t) ds xs):Same H1 (L2.upd H1 p (.lst xs))/\ROk T Γ H (L2.upd H1 p (.lst xs)) (.lst ds) t (.ref p):=by
 have s1:Same H1 (L2.upd H1 p (.lst xs)):=Same.mk1 n
 exact⟨s1,ROk.of ⟨p,xs,rfl,TC.fresh h (s.free n),z0m,r.same s1⟩ no⟩
end
end Ev
namespace Ev
open PySem L2
def iListZ(K:PySem.W.Frag)(tl:TE):TI:=λσ H R=>tl σ H λx H1=>∃a xs,x= .ref a/\SqL K H1 a xs/\(xs.length<=sizeLine->R (Itl K a) H1)
theorem zB5{X:Cx}{tg l:Expr}{tl:TE}(hl:PE X l tl):PI X tg l (iListZ X.K tl):=by
 intro pins s σ H R I h
 refine thn (hl pins s σ H _ I h) λv s1⟨x,H1,I1,r1,q1⟩=>?_
 obtain⟨a,xs,e,hq,q⟩:=q1
 subst e
 cases r1
 obtain⟨its,rv,p,hz⟩:=I1.list hq
 refine wpAny_pyIter_list p.isList ?_
 refine⟨s1.heap.objs.size,[s1.heap.objs.size],_,_,H1,rfl,I1.kept (t':=s1.toks) λb o e=>Heap.get?_push_of_some _ e,z5S a _,⟨_,Heap.get?_push_size _ rfl,rfl,rfl⟩,λb hb=>?_,q hz⟩
 have e:b=s1.heap.objs.size:=by simpa using hb
 subst e
 exact I1.fpOk (Nat.le_refl _) (I1.hok.fresh (Nat.le_refl _))
section
variable{T:Tx}{W:Wd}{X:Cx}{E:XK}{Γ:Ctx}{G:List Gh}{ρ ρ1:Env}{σ σ1:St}{H H1 H2 H':Hp}{C C':Addr->Prop}{Q:VK}{r:Res}{d x y:D}{t u:Tag}{v w vx vy:V}{b:Bool}{ds:List D}{ts:List Tag}{vs xs:List V}
def DenTst(T:Tx)(W:Wd)(tt:TT)(tst:Option Ex):Prop:=∀(Γ:Ctx)(G:List Gh)(ρ:Env)(σ:St)(H:Hp)(b:Bool)(t:Tag)(Q:Bool->Hp->Prop),runT W ρ tst=some (.ok (.bl b) t)->EnvOk T Γ G ρ σ H->(∀H',Same H H'->Q b H')->tt σ H Q
theorem z6X:DenTst T W tTrue none:=λΓ G ρ σ H b t Q h1 h2 h3=>by
 simp only[runT]at h1
 cases h1
 exact h3 H (Same.refl _)
theorem z6Y{x:Ex}:DenTst T W (tT T W EN x) (some x):=λΓ G ρ σ H b t Q h1 h2 h3=>⟨Γ,G,ρ,_,h1,⟨b,rfl⟩,h2,λb' H' e s=>by cases e;exact h3 H' s⟩
theorem z9R{t':Tag}(h:keep d t=some t')(o:ROk T Γ H H' d t v):Rep T H' (TC Γ H t') d v/\ ∀c,t'≠ .own c:=by
 unfold keep at h
 have o':=o.rt
 split at h
 ·cases h
 ·cases h
 ·rename_i no _
  cases h
  exact⟨o'.rep λc z=>no c z,λc z=>no c z⟩
theorem z9S{t':Tag}(h:keep d t=some t'):tagCl t'≠ .dp:=by
 unfold keep at h
 split at h
 ·cases h
 ·cases h
 ·rename_i no no'
  cases h
  generalize Ev.rt d t=z at no no'
  cases z with
  | new=>exact λz=>nomatch z
  | cl c=>exact λz=>no' (by rw[show c= .dp from z])
  | own c=>exact absurd rfl (no c)
theorem zD0(h1:∀c,t≠ .own c)(h2:∀c,u≠ .own c):∀c,t.join u≠ .own c:=by
 intro c
 cases t with
 | own c=>exact absurd rfl (h1 c)
 | new=>cases u with
  | own c=>exact absurd rfl (h2 c)
  | new=>exact λz=>nomatch z
  | cl c=>exact λz=>nomatch z
 | cl c=>cases u with
  | own c=>exact absurd rfl (h2 c)
  | new=>exact λz=>nomatch z
  | cl c=>exact λz=>nomatch z
theorem z4a{bd:D->Option Env}{tst el:Env->Option Res}:∀{ds:List D}{out:List D}{u:Tag},compGo bd tst el ds=some (out,u)-> ∀c,u≠ .own c
 | [],out,u,h=>by cases h;exact λc z=>nomatch z
 | d::r,out,u,h=>by
  simp only[compGo]at h
  split at h
  ·cases h
  ·split at h
   ·split at h
    ·rename_i x t xs u' h1 h2
     split at h
     ·rename_i t' hk
      cases h
      refine zD0 (λc z=>?_) (z4a h2)
      subst z
      unfold keep at hk
      split at hk
      ·cases hk
      ·cases hk
      ·rename_i no _
       exact no _ (Option.some.inj hk)
     ·cases h
    ·cases h
   ·exact z4a h
   ·cases h
theorem EnvOk.disownAll(h:EnvOk T Γ G ρ σ H):EnvOk T {Γ with O:=λ_=>False,S:=λ_=>False} G (disownAll ρ) σ H:=by
 have wk:∀{c:Cl}{b:Addr},Cond Γ c b->Cond {Γ with O:=λ_=>False,S:=λ_=>False} c b:=λz=>⟨id,z.2⟩
 have get:∀(j:Nat)(e:Ent),(Ev.disownAll ρ)[j]? = some (some e)-> ∃e',ρ[j]? = some (some e')/\e'.c≠ .dp/\e=⟨e'.d,false,e'.c⟩:=λj e q=>by
  unfold Ev.disownAll at q
  rw[List.getElem?_map,Option.map_eq_some_iff]at q
  obtain⟨o,q1,q2⟩:=q
  cases o with
  | none=>cases q2
  | some e'=>
   unfold disown at q2
   dsimp only at q2
   cases hc:e'.c with
   | dp=>rw[hc]at q2;cases q2
   | fl=>rw[hc]at q2;exact⟨e',q1,by rw[hc];exact(λz=>nomatch z),by rw[hc];exact(Option.some.inj q2).symm⟩
   | old=>rw[hc]at q2;exact⟨e',q1,by rw[hc];exact(λz=>nomatch z),by rw[hc];exact(Option.some.inj q2).symm⟩
 refine⟨h.same,λb z=>z.elim,λb z=>z.elim,λj e q=>?_,λj k e e' ne q q' o o'=>?_,λg z=>(by have q:=h.gh g z;cases g with|val c d v=>exact q.imp λb z=>wk z| «at» a' xs'=>exact⟨q.1,id⟩),by simp[Ev.disownAll,h.len]⟩
 ·obtain⟨e',q',hc,rfl⟩:=get j e q
  obtain⟨v,h1,h2⟩:=h.ent j e' q'
  refine⟨v,h1,λz=>(by cases z),λz=>(by cases z),λ_=>?_⟩
  cases ho:e'.own with
  | false=>exact(h2.2.2 ho).imp λb z=>wk z
  | true=>
   obtain⟨a,xs,ds,k1,k2,k3,_,k4,k5⟩:=h2.1 ho hc
   subst k2
   show Rep T H _ e'.d (.ref a)
   rw[k1]
   exact⟨a,xs,rfl,⟨id,λ_=>.inl (h.own a k3).1⟩,k4,k5.imp λb z=>wk z⟩
 ·obtain⟨e1,_,_,rfl⟩:=get j e q
  cases o
theorem z81{ix:List (Option Nat)}{tgx:Tg}{g:TG}{tt:TT}{tst:Option Ex}{xel:Ex}{out:List D}{tg:Tag}(h:EnvOk T Γ G ρ σ H)(h1:EnvOk T Γ G ρ σ H1)(s:Same H H1)(inj:∀(i j k:Nat),ix[i]? = some (some k)->ix[j]? = some (some k)->i=j)
  (hoff:∀j∈tgSlots tgx,∀i,ix[j]? ≠ some (some i)) (ht:TgOk T g tgx) (dtt:DenTst T W tt tst)
  (hgo:compGo (bindT (Ev.stIn ix ρ) t tgx) (λρ'=>runT W ρ' tst) (λρ'=>evE W ρ' xel) ds=some (out,tg)) (hq:∀v H',Same H1 H'->ROk T Γ H H' (.lst out) tg v->Q v H'):
  ∃Pv:Nat->List V->St->Hp->Prop,Pv 0 [] (L2.stIn ix σ) H1/\(∀i ys σ' H',Pv i ys σ' H'->Same H1 H'/\ys.length<=i)/\
   (∀i d x ys σ' H' H'',ds[i]? = some d->Pv i ys σ' H'->Same H' H''->Rep T H'' (TCc Γ (tagCl t)) d x->g x σ' H'' λσ3 H3=>tt σ3 H3 λb H4=>if b=true then tE T W EN xel σ3 H4 λy H5=>Pv (i+1) (ys++[y]) σ3 H5 else Pv (i+1) ys σ3 H4)/\
   (∀ys σ' H',Pv ds.length ys σ' H'-> ∀p,H' p=none->Q (.ref p) (L2.upd H' p (.lst ys))):=by
 have hin:=h1.stIn inj
 have noent:∀(j:Nat)(e:Ent),(Ev.stIn ix ρ)[j]? = some (some e)->j∉tgSlots tgx:=λj e q hj=>by
  unfold Ev.stIn at q
  rw[List.getElem?_map,Option.map_eq_some_iff]at q
  obtain⟨o,q1,q2⟩:=q
  cases o with
  | none=>cases q2
  | some i=>exact hoff j hj i q1
 refine⟨λi ys σ' H'=>Same H1 H'/\ys.length<=i/\EnvOk T Γ G (Ev.stIn ix ρ) σ' H'/\ ∃done rest u,compGo (bindT (Ev.stIn ix ρ) t tgx) (λρ'=>runT W ρ' tst) (λρ'=>evE W ρ' xel) (ds.drop i)=some (rest,u)/\out=done++rest/\Reps T H' (TC Γ H tg) done ys/\ ∀b,TC Γ H u b->TC Γ H tg b,
  ⟨Same.refl _,Nat.le_refl _,hin,[],out,tg,hgo,rfl,rfl,λb z=>z⟩,λi ys σ' H' p=>⟨p.1,p.2.1⟩,?_,?_⟩
 ·rintro i d x ys σ0 H0 H' hd ⟨s0,hl,ho0,done,rest,u,hc,he,hr0,hu⟩ sx rd
  have s1:=s0.trans sx
  have ho:=ho0.mono sx
  have hr:=hr0.same sx
  clear s0 ho0 hr0 sx
  have hdl:i<ds.length:=(List.getElem?_eq_some_iff.mp hd).1
  have hdrop:ds.drop i=d::ds.drop (i+1):=by
   rw[List.drop_eq_getElem_cons hdl]
   congr 1
   rw[List.getElem?_eq_getElem hdl]at hd
   exact Option.some.inj hd
  rw[hdrop]at hc
  simp only[compGo]at hc
  split at hc
  ·cases hc
  ·rename_i ρ' hb
   refine ht ho rd hb λσ3 h3 off hlen=>?_
   have back:∀{H'':Hp},Same H' H''->EnvOk T Γ G (Ev.stIn ix ρ) σ3 H'':=λs''=>(ho.mono s'').off (λj e q=>off j (noent j e q)) hlen
   split at hc
   ·rename_i tb htst
    refine dtt Γ G ρ' σ3 H' true _ _ htst h3 λH4 s4=>?_
    rw[if_pos rfl]
    split at hc
    ·rename_i x' t' xs' u' hel hrec
     split at hc
     ·rename_i t'' hk
      cases hc
      refine⟨Γ,G,ρ',_,hel,h3.mono s4,λy H5 s5 ok=>?_⟩
      obtain⟨rep,no⟩:=z9R hk ok
      have sH4:Same H H4:=s.trans (s1.trans s4)
      refine⟨(s1.trans s4).trans s5,by simp;omega,back (s4.trans s5),done++[x'],xs',u',hrec,by rw[he];simp,?_,λb z=>hu b (TC.join_r h z)⟩
      refine(hr.same (s4.trans s5)).append ⟨y,[],rfl,rep.imp λb z=>hu b (TC.join_l h (TC.start sH4 z)),rfl⟩
     ·cases hc
    ·cases hc
   ·rename_i tb htst
    refine dtt Γ G ρ' σ3 H' false _ _ htst h3 λH4 s4=>?_
    rw[if_neg Bool.false_ne_true]
    exact⟨s1.trans s4,by lia,back s4,done,rest,u,hc,he,hr.same s4,hu⟩
   ·cases hc
 ·rintro ys σ' H' ⟨s1,hl,ho,done,rest,u,hc,he,hr,hu⟩ p hp
  rw[List.drop_length]at hc
  cases hc
  rw[List.append_nil]at he
  subst he
  obtain⟨s2,ok⟩:=mkList' h (s.trans s1) hp (z4a hgo) hr
  exact hq _ _ (s1.trans s2) ok
theorem z4b{ix:List (Option Nat)}{tgx:Tg}{g:TG}{tt:TT}{tst:Option Ex}{xel:Ex}{out:List D}{tg:Tag}(h:EnvOk T Γ G ρ σ H)(h1:EnvOk T Γ G ρ σ H1)(s:Same H H1)(inj:∀(i j k:Nat),ix[i]? = some (some k)->ix[j]? = some (some k)->i=j)
  (hoff:∀j∈tgSlots tgx,∀i,ix[j]? ≠ some (some i)) (ht:TgOk T g tgx) (dtt:DenTst T W tt tst) (rs:Reps T H1 (TCc Γ (tagCl t)) ds xs)
  (hgo:compGo (bindT (Ev.stIn ix ρ) t tgx) (λρ'=>runT W ρ' tst) (λρ'=>evE W ρ' xel) ds=some (out,tg)) (hq:∀v H',Same H1 H'->ROk T Γ H H' (.lst out) tg v->Q v H'):
  ∃Pv:Nat->List V->St->Hp->Prop,Pv 0 [] (L2.stIn ix σ) H1/\(∀i ys σ' H',Pv i ys σ' H'->Same H1 H'/\ys.length<=i)/\
   (∀i x ys σ' H',xs[i]? = some x->Pv i ys σ' H'->g x σ' H' λσ3 H3=>tt σ3 H3 λb H4=>if b=true then tE T W EN xel σ3 H4 λy H5=>Pv (i+1) (ys++[y]) σ3 H5 else Pv (i+1) ys σ3 H4)/\
   (∀ys σ' H',Pv xs.length ys σ' H'-> ∀p,H' p=none->Q (.ref p) (L2.upd H' p (.lst ys))):=by
 obtain⟨Pv,p0,p1,p2,p3⟩:=z81 h h1 s inj hoff ht dtt hgo hq
 rw[<-rs.length]at p3
 refine⟨Pv,p0,p1,λi x ys σ' H' hx hp=>?_,p3⟩
 obtain⟨d,hd,rd⟩:=rs.get' hx
 exact p2 i d x ys σ' H' H' hd hp (Same.refl _) (rd.same (p1 i ys σ' H' hp).1)
theorem z9T{ix:List (Option Nat)}{tgx:Tg}{g:TG}{tt:TT}{tst:Option Ex}{xel xsrc:Ex}{tsrc:TE}{K:PySem.W.Frag}(hK:K=T.K)(inj:∀(i j k:Nat),ix[i]? = some (some k)->ix[j]? = some (some k)->i=j)(hoff:∀j∈tgSlots tgx,∀i,ix[j]? ≠ some (some i))(ht:TgOk T g tgx)
  (dtt:DenTst T W tt tst) (ds:Den T W E tsrc xsrc):Den T W E (tLc (iListZ K tsrc) ix g tt (tE T W EN xel)) (.compL ix tgx xsrc tst xel):=λΓ G ρ σ H r Q he h hp=>by
 rw[E_cL]at he
 refine ds.step he h hp λx t v H1 hk s ok h1 hp1=>?_
 split at hk
 ·rename_i ds
  unfold compR at hk
  split at hk
  ·rename_i out tg hgo
   cases hk
   obtain⟨a,xs,rfl,ha,rs⟩:=ok.list
   have hgo':compGo (bindT (Ev.stIn ix ρ) t.el tgx) (λρ'=>runT W ρ' tst) (λρ'=>evE W ρ' xel) ds=some (out,tg):=by
    rw[<-hgo]
   obtain⟨Pv,p0,p1,p2,p3⟩:=z4b (Q:=Q) (t:=t.el) h h1 s inj hoff ht dtt (rs.imp λb z=>TC.weak h (by rw[TC.el];exact z)) hgo' λv H' s' ok'=>hp v H' (s.trans s') ok'
   refine⟨a,xs,rfl,SqL.of ha,λhz=>?_⟩
   exact zCW (K:=K) (a:=a) (xs:=xs) Pv hz p0 (λi ys σ' H' _ p=>⟨SqL.of ((p1 i ys σ' H' p).1 _ _ ha),(p1 i ys σ' H' p).2⟩) p2 p3
  ·cases hk
 ·cases hk
theorem z82{ix:List (Option Nat)}{i:Nat}{tt:TT}{tst:Option Ex}{xel xh:Ex}{ta:TA}(inj:∀(i j k:Nat),ix[i]? = some (some k)->ix[j]? = some (some k)->i=j)(hoff:∀j,ix[i]? ≠ some (some j))
  (dtt:DenTst T W tt tst) (da:DenA T W E ta [xh]):Den T W E (tLc (iRng1 ta) ix (gName i) tt (tE T W EN xel)) (.compR ix i (.int 0) xh tst xel):=λΓ G ρ σ H r Q he h hp=>by
 rw[E_cR]at he
 have he':(match evEs W ρ [xh]with|some (.ok ds ts)=>on1R (onR (λa b=>if smallI a/\smallI b/\b-a<=1000 then compR (compGo (bindT (Ev.stIn ix ρ) .new (.name i)) (λρ'=>runT W ρ' tst) (λρ'=>evE W ρ' xel) (rangeD a (b-a).toNat))else none) (.int 0)) ds|some (.exc c)=>some (.exc c)|none=>none)=some r:=by
  rw[<-he]
  rw[Es_c]
  cases evE W ρ xh with
  | none=>rfl
  | some r1=>cases r1 with
   | exc c=>rfl
   | ok d t=>rfl
 refine da.step (k:=λds ts=>on1R (onR (λa b=>if smallI a/\smallI b/\b-a<=1000 then compR (compGo (bindT (Ev.stIn ix ρ) .new (.name i)) (λρ'=>runT W ρ' tst) (λρ'=>evE W ρ' xel) (rangeD a (b-a).toNat))else none) (.int 0)) ds) he' h hp λds ts vs H1 hk s ok h1 hp1=>?_
 ·obtain⟨x,rfl,hk1⟩:=z7H hk
  obtain⟨a0,b,h0,rfl,hk2⟩:=z5b hk1
  cases h0
  clear hk hk1
  have hk:=hk2
  clear hk2
  split at hk
  ·rename_i hz
   unfold compR at hk
   split at hk
   ·rename_i out tg hgo
    cases hk
    obtain⟨t,v,rfl,rfl,o⟩:=rs1 (ds:=[]) ok
    cases(show v= .int _ from o.any)
    obtain⟨b1,b2⟩:=z1n hz.2.1
    rw[show(b-0).toNat=b.toNat by lia]at hgo
    obtain⟨Pv,p0,p1,p2,p3⟩:=z4b (Q:=Q) (t:=.new) (tgx:=.name i) h h1 s inj (λj hj k=>by simp[tgSlots]at hj;subst hj;exact hoff k) z2R dtt (z2x (T:=T) (H:=H1) (C:=TCc Γ (tagCl .new)) 0 b.toNat) hgo λv H' s' ok'=>hp v H' (s.trans s') ok'
    refine⟨b,rfl,b1,b2,z7F (lo:=0) (n:=b.toNat) Pv (Nat.le_of_lt (small1000 (by omega))) p0 (λi ys σ' H' _ p=>(p1 i ys σ' H' p).2) (λj ys σ' H' hj p=>p2 j _ ys σ' H' (by rw[List.getElem?_map,List.getElem?_range hj];rfl) p) (λys σ' H' p=>p3 ys σ' H' (by simpa using p))⟩
   ·cases hk
  ·cases hk
theorem z83{ix:List (Option Nat)}{i:Nat}{tt:TT}{tst:Option Ex}{xel xl xh:Ex}{ta:TA}(inj:∀(i j k:Nat),ix[i]? = some (some k)->ix[j]? = some (some k)->i=j)(hoff:∀j,ix[i]? ≠ some (some j))
  (dtt:DenTst T W tt tst) (da:DenA T W E ta [xl,xh]):Den T W E (tLc (iRng2 ta) ix (gName i) tt (tE T W EN xel)) (.compR ix i xl xh tst xel):=λΓ G ρ σ H r Q he h hp=>by
 rw[E_cR]at he
 have he':(match evEs W ρ [xl,xh]with|some (.ok ds ts)=>on2R (onR (λa b=>if smallI a/\smallI b/\b-a<=1000 then compR (compGo (bindT (Ev.stIn ix ρ) .new (.name i)) (λρ'=>runT W ρ' tst) (λρ'=>evE W ρ' xel) (rangeD a (b-a).toNat))else none)) ds|some (.exc c)=>some (.exc c)|none=>none)=some r:=by
  rw[<-he]
  rw[Es_c]
  cases evE W ρ xl with
  | none=>rfl
  | some r1=>cases r1 with
   | exc c=>rfl
   | ok d t=>
    dsimp only
    rw[Es_c]
    cases evE W ρ xh with
    | none=>rfl
    | some r2=>cases r2 with
     | exc c=>rfl
     | ok d' t'=>rfl
 refine da.step (k:=λds ts=>on2R (onR (λa b=>if smallI a/\smallI b/\b-a<=1000 then compR (compGo (bindT (Ev.stIn ix ρ) .new (.name i)) (λρ'=>runT W ρ' tst) (λρ'=>evE W ρ' xel) (rangeD a (b-a).toNat))else none)) ds) he' h hp λds ts vs H1 hk s ok h1 hp1=>?_
 ·obtain⟨x,y,rfl,hk1⟩:=zBp hk
  obtain⟨a,b,rfl,rfl,hk2⟩:=z5b hk1
  clear hk hk1
  have hk:=hk2
  clear hk2
  split at hk
  ·rename_i hz
   unfold compR at hk
   split at hk
   ·rename_i out tg hgo
    cases hk
    obtain⟨t,v,t',v',rfl,rfl,o,o'⟩:=rs2 ok
    cases(show v= .int _ from o.any)
    cases(show v'= .int _ from o'.any)
    obtain⟨b1,b2⟩:=z1n hz.1
    obtain⟨b3,b4⟩:=z1n hz.2.1
    obtain⟨Pv,p0,p1,p2,p3⟩:=z4b (Q:=Q) (t:=.new) (tgx:=.name i) h h1 s inj (λj hj k=>by simp[tgSlots]at hj;subst hj;exact hoff k) z2R dtt (z2x (T:=T) (H:=H1) (C:=TCc Γ (tagCl .new)) a (b-a).toNat) hgo λv H' s' ok'=>hp v H' (s.trans s') ok'
    refine⟨a,b,rfl,⟨b1,b2,b3,b4⟩,z7F (lo:=a) (n:=(b-a).toNat) Pv (Nat.le_of_lt (small1000 (by omega))) p0 (λi ys σ' H' _ p=>(p1 i ys σ' H' p).2) (λj ys σ' H' hj p=>p2 j _ ys σ' H' (by rw[List.getElem?_map,List.getElem?_range hj];rfl) p) (λys σ' H' p=>p3 ys σ' H' (by simpa using p))⟩
   ·cases hk
  ·cases hk
end
end Ev
namespace Ev
open PySem L2 PySem.Spec PyProof.Rows
def bltNames:List Str:=["len","range","max","min","sorted","list","set","all","isinstance","int","bool","abs","tuple","zip","ValueError"]
def tyTab(t c:String):Option Bool:=if t=c then some true else if t="bool"/\c="int" then some true else if ["int","bool","list","tuple","NoneType"].contains t&&["int","bool","list","tuple"].contains c then some false else none
structure XOk(T:Tx)(W:Wd)(cm:Bool)(k:Nat)(X:Cx)(N:List Str)(sc:List (Str×NameKind))(E:XK):Prop where
 hK:X.K=T.K
 hN:X.N=N
 tx:TxOk T
 vis:∀x,isVis sc x=true->Vis X.env.scope x
 gl:∀x,isGl sc x=true->Gl X x
 kinds:∀x,(kindIn sc x=some .cell\/kindIn sc x=some .free)->X.env.scope.names.lookup x=some .cell\/X.env.scope.names.lookup x=some .free
 calm:cm=true->X.calm=true
 room:cm=true->Room k X.A
 units:X.A.units+30<cLine
 call:∀f fn,W.F f=some fn->CallIn T X.prog X.w X.mg X.base k f fn
 blt:∀x∈bltNames,X.mg x=none
 glob:∀x i,W.glob x=some i-> ∃t,X.mg x=some (.int i t)
 pass:Passes (CX1 X.prog X.w) X E
 ty:∀t c b,tyTab t c=some b->PySem.W.kitOne T.K (.type t) (.type c)=some b
structure Gd(T:Tx)(W:Wd)(X:Cx)(E:XK)(e:Expr)(x:Ex):Prop where
 pe:PE X e (tE T W E x)
 pt:PT X e (tT T W E x)
 star:NoStar e
 mark:NoMark e
 plain:PlainIx e
 fold:∀(env:PySem.Env)(v:Value),foldedSetIterable e env v=pure v
section
variable{T:Tx}{W:Wd}{cm:Bool}{k:Nat}{X:Cx}{N:List Str}{sc:List (Str×NameKind)}{E:XK}{e a b c:Expr}{x y z:Ex}
theorem Gd.snd(h:Gd T W X E e x):Snd T W X E e x:=zFy h.pe
theorem Gd.tst(h:Gd T W X E e x):SndT T W X E e x:=zDz h.pt
theorem z01:∀{N:List Str}{x:Str}{i:Nat},slot N x=some i->N[i]? = some x
 | [],x,i,h=>by cases h
 | y::r,x,i,h=>by
  unfold slot at h
  split at h
  ·rename_i e;cases h;rw[e];rfl
  ·rw[Option.map_eq_some_iff]at h
   obtain⟨j,hj,rfl⟩:=h
   rw[List.getElem?_cons_succ]
   exact z01 hj
theorem z6p{x':Str}(h:isVis sc x'=true):(x'==("__debug__":Str))=false/\(x'==("__classdict__":Str))=false:=by
 unfold isVis okName at h
 simp only[Bool.and_eq_true,Bool.not_eq_true',decide_eq_false_iff_not]at h
 exact⟨h.1.1,h.1.2.1⟩
theorem z6q{x':Str}(h:isGl sc x'=true):(x'==("__debug__":Str))=false/\x'≠("__name__":Str):=by
 unfold isGl okName at h
 simp only[Bool.and_eq_true,Bool.not_eq_true',decide_eq_false_iff_not]at h
 exact⟨h.1.1,h.1.2.2⟩
theorem z2k(h:Snd T W X E e x)(he:∀whole,isTrue e X.env whole=(do let v <-whole;standAt e.pos;holding [v] (truthy v)))(h1:NoStar e)(h2:NoMark e)(h3:PlainIx e)(h4:∀(env:PySem.Env)(v:Value),foldedSetIterable e env v=pure v):Gd T W X E e x:=by
 obtain⟨t,p,q⟩:=id h
 exact⟨h.pe,SndT.pt ⟨_,zE8 p he,q.test⟩,h1,h2,h3,h4⟩
theorem zD1(O:XOk T W cm k X N sc E){x':Str}{pos:Pos}(h:trName N sc x'=some x):Gd T W X E (.Name x' pos) x:=by
 refine z2k ?_ (λ_=>rfl) (λ_ _=>rfl) (λ_=>rfl) (λ_ _=>rfl) (λ_ _=>rfl)
 unfold trName at h
 split at h
 ·rename_i hv
  rw[Option.map_eq_some_iff]at h
  obtain⟨i,hi,rfl⟩:=h
  obtain⟨z1,z2⟩:=z6p hv
  exact zDe (by rw[O.hN];exact z01 hi) (O.vis _ hv) z1 z2
 ·split at h
  ·rename_i hg
   cases h
   exact zBs (O.gl _ hg) (O.glob _) (z6q hg).1
  ·cases h
theorem zB6{cst:Const}{j:Nat}{pos:Pos}(h:trConst cst=some x):Gd T W X E (.Constant cst j pos) x:=by
 refine z2k ?_ (λ_=>rfl) (λ_ _=>rfl) (λ_=>rfl) (λ_ _=>rfl) (λ_ _=>rfl)
 cases cst<;>simp only[trConst,reduceCtorEq,Option.some.injEq]at h<;>subst h
 ·exact zDg
 ·exact zFj
 ·exact zDf
 ·exact zDh
theorem zGt{op:UnaryOp}{pos:Pos}{ra:Option Ex}(h:trUn op ra=some x)(ih:∀y,ra=some y->Gd T W X E a y):Gd T W X E (.UnaryOp op a pos) x:=by
 cases op<;>simp only[trUn,reduceCtorEq,Option.map_eq_some_iff]at h
 ·obtain⟨y,hy,rfl⟩:=h
  exact⟨(zDj (ih y hy).snd).pe,(zBv (ih y hy).tst).pt,λ_ _=>rfl,λ_=>rfl,λ_ _=>rfl,λ_ _=>rfl⟩
 ·obtain⟨y,hy,rfl⟩:=h
  exact z2k (zDi (ih y hy).snd) (λ_=>rfl) (λ_ _=>rfl) (λ_=>rfl) (λ_ _=>rfl) (λ_ _=>rfl)
theorem zFz{op:Operator}{o:Bop}{pos:Pos}(ho:trOp op=some o)(ha:Gd T W X E a x)(hb:Gd T W X E b y):Gd T W X E (.BinOp a op b pos) (.bin o x y):=
 z2k (zDq ho ha.snd hb.snd) (λ_=>rfl) (λ_ _=>rfl) (λ_=>rfl) (λ_ _=>rfl) (λ_ _=>rfl)
theorem z9U(h:isNone b=true):∃j pos,b= .Constant .none j pos:=by
 unfold isNone at h
 split at h
 ·rename_i q _
  have:=q.2
  cases hc:q.1.1 with
  | none=>rw[hc]at this;exact⟨_,_,this⟩
  | _=>rw[hc]at h;cases h
 ·cases h
theorem z9V{ng:Bool}{op:CmpOp}{r0:R2}(hr:∀(v:V)(H:Hp)(Q:VK),Q (.bl (ng ^^ decide (v= .non))) H->r0 v .non H Q){ta:TE}(da:Den T W E ta x):Den T W E (tOp r0 ta (tC .non)) (.isK ng none x):=λΓ G ρ σ H r Q he h hp=>by
 conv at he=>lhs;whnf
 refine da.step he h hp λd t v H1 hk s ok h1 hp1=>?_
 show r0 v .non H1 Q
 cases d with
 | non=>
  cases hk
  cases(show v= .non from ok.any)
  refine hr _ _ _ ?_
  have:=hp1 (.bl (true != ng)) H1 (Same.refl _) rfl
  simpa using this
 | int i=>
  cases hk
  cases(show v= .int i from ok.any)
  refine hr _ _ _ ?_
  have:=hp1 (.bl (false != ng)) H1 (Same.refl _) rfl
  simpa using this
 | lst ds=>
  cases hk
  obtain⟨a,xs,rfl,_⟩:=ok.list
  refine hr _ _ _ ?_
  have:=hp1 (.bl (false != ng)) H1 (Same.refl _) rfl
  simpa using this
 | _=>cases hk
theorem zCx{ng:Bool}{op:CmpOp}{pos:Pos}(hop:op=if ng then .IsNot else .Is)(hb:isNone b=true)(ha:Gd T W X E a x):Gd T W X E (.Compare a [op] [b] pos) (.isK ng none x):=by
 obtain⟨j,p,rfl⟩:=z9U hb
 obtain⟨ta,pa,da⟩:=ha.snd
 cases ng with
 | false=>
  subst hop
  have dn:=z9V (ng:=false) (op:=.Is) (r0:=λx y H Q=>y= .non/\Q (.bl (decide (x= .non))) H) (λv H Q q=>⟨rfl,by simpa using q⟩) da
  exact⟨Snd.pe ⟨_,z6K zCs pa z5Q rfl,dn⟩,SndT.pt ⟨_,z6L zCs pa z5Q rfl,dn.test'⟩,λ_ _=>rfl,λ_=>rfl,λ_ _=>rfl,λ_ _=>rfl⟩
 | true=>
  subst hop
  have dn:=z9V (ng:=true) (op:=.IsNot) (r0:=λx y H Q=>y= .non/\Q (.bl (!decide (x= .non))) H) (λv H Q q=>⟨rfl,by simpa using q⟩) da
  exact⟨Snd.pe ⟨_,z6K z9h pa z5Q rfl,dn⟩,SndT.pt ⟨_,z6L z9h pa z5Q rfl,dn.test'⟩,λ_ _=>rfl,λ_=>rfl,λ_ _=>rfl,λ_ _=>rfl⟩
theorem z9W{op op' op'':CmpOp}{r r' r'':R2}{ta tb tc td:TE}{d:Expr}{pos:Pos}(ho:OpR X (compareOp op) r)(ho':OpR X (compareOp op') r')(ho'':OpR X (compareOp op'') r'')(ha:PE X a ta)(hb:PE X b tb)(hc:PE X c tc)(hd:PE X d td)
  (hm:lastMarks [op,op',op''] [b,c,d]=false):PT X (.Compare a [op,op',op''] [b,c,d] pos) (tTest (tChain3 r r' r'' ta tb tc td)):=by
 intro pins s σ H Q I h
 refine isTrue_chain (thn (ha pins s σ H _ I h) λv s1⟨x,H1,I1,r1,q1⟩=>test_link (thn (hb pins s1 σ H1 _ I1 q1) λu s2⟨y,H2,I2,r2,q2⟩=>
  thn (ho pins s2 σ H2 x y v u _ I2 r1 r2 q2) λd s3⟨z,H3,I3,r3,k,e,q3⟩=>?_)) hm
 subst e
 cases r3
 refine wpAny_truthy_bool ?_
 cases k with
 | false=>
  obtain⟨k',e',q'⟩:=q3
  cases e'
  exact ite_ff ⟨H3,I3,q'⟩
 | true=>
  refine ite_tt (test_link (thn (hc pins s3 σ H3 _ I3 q3) λw' s4⟨z',H4,I4,r4,q4⟩=>thn (ho' pins s4 σ H4 y z' u w' _ I4 r2 r4 q4) λd' s5⟨z2,H5,I5,r5,k2,e2,q5⟩=>?_))
  subst e2
  cases r5
  refine wpAny_truthy_bool ?_
  cases k2 with
  | false=>
   obtain⟨k',e',q'⟩:=q5
   cases e'
   exact ite_ff ⟨H5,I5,q'⟩
  | true=>
   refine ite_tt (test_last (thn (hd pins s5 σ H5 _ I5 q5) λw'' s6⟨z6,H6,I6,r6,q6⟩=>thn (ho'' pins s6 σ H6 z' z6 w' w'' _ I6 r4 r6 q6) λd'' s7⟨z7,H7,I7,r7,k3,e3,q7⟩=>?_))
   subst e3
   cases r7
   exact wpAny_truthy_bool ⟨H7,I7,q7⟩
theorem zF0(O:XOk T W cm k X N sc E){go:Go}(ih:∀e x,go e=some x->Gd T W X E e x){ops:List CmpOp}{cs:List Expr}{pos:Pos}(h:trCmp go a ops cs=some x):Gd T W X E (.Compare a ops cs pos) x:=by
 have one:∀{o:CmpOp}{b:Expr}{x:Ex},trCmp1 go a o b=some x->Gd T W X E (.Compare a [o] [b] pos) x:=λ{o b x}h=>by
  unfold trCmp1 at h
  split at h
  ·rename_i o' x' y' h1 h2 h3
   cases h
   obtain⟨r0,OC⟩:=z3j (T:=T) (X:=X) O.hK O.units h1
   obtain⟨p1,p2⟩:=zDr (W:=W) (E:=E) (pos:=pos) OC (ih _ _ h2).snd (ih _ _ h3).snd (ih _ _ h3).mark
   exact⟨p1.pe,p2.pt,λ_ _=>rfl,λ_=>rfl,λ_ _=>rfl,λ_ _=>rfl⟩
  ·cases h
 unfold trCmp at h
 split at h
 ·split at h
  ·unfold trCmpA at h
   split at h
   ·obtain⟨hb,h⟩:=iteN h
    rw[Option.map_eq_some_iff]at h
    obtain⟨y,hy,rfl⟩:=h
    exact zCx (ng:=false) rfl hb (ih _ _ hy)
   ·rcases iteI h with⟨hb,h⟩|h
    ·obtain⟨y,hy,rfl⟩:=mapI h
     exact zCx (ng:=true) rfl hb (ih _ _ hy)
    cases h
   ·exact one h
  ·cases h
 ·split at h
  ·unfold trCmpB at h
   split at h
   ·rename_i o1 o2 h1 h2
    split at h
    ·rename_i x1 x2 x3 h3 h4 h5
     cases h
     obtain⟨r0,OC⟩:=z3j (T:=T) (X:=X) O.hK O.units h1
     obtain⟨r1,OC'⟩:=z3j (T:=T) (X:=X) O.hK O.units h2
     obtain⟨ta,pa,da⟩:=(ih _ _ h3).snd
     obtain⟨tb,pb,db⟩:=(ih _ _ h4).snd
     obtain⟨tc,pc,dc⟩:=(ih _ _ h5).snd
     have dn:=z8y OC OC' da db dc
     have hm:=(ih _ _ h5).mark
     exact⟨Snd.pe ⟨_,zAZ OC.op OC'.op pa pb pc (hm _),dn⟩,SndT.pt ⟨_,zBa OC.op OC'.op pa pb pc (hm _),dn.test'⟩,λ_ _=>rfl,λ_=>rfl,λ_ _=>rfl,λ_ _=>rfl⟩
    ·cases h
   ·cases h
  ·cases h
 ·split at h
  ·unfold trCmpC at h
   split at h
   ·rename_i o1 o2 o3 h1 h2 h3
    split at h
    ·rename_i x1 x2 h4 h5
     split at h
     ·rename_i x3 x4 h6 h7
      cases h
      obtain⟨r0,OC⟩:=z3j (T:=T) (X:=X) O.hK O.units h1
      obtain⟨r1,OC'⟩:=z3j (T:=T) (X:=X) O.hK O.units h2
      obtain⟨r2,OC''⟩:=z3j (T:=T) (X:=X) O.hK O.units h3
      obtain⟨ta,pa,da⟩:=(ih _ _ h4).snd
      obtain⟨tb,pb,db⟩:=(ih _ _ h5).snd
      obtain⟨tc,pc,dc⟩:=(ih _ _ h6).snd
      obtain⟨td,pd,dd⟩:=(ih _ _ h7).snd
      have dn:=z8z OC OC' OC'' da db dc dd
      have hm:=(ih _ _ h7).mark
      exact⟨Snd.pe ⟨_,z90 OC.op OC'.op OC''.op pa pb pc pd (hm _),dn⟩,SndT.pt ⟨_,z9W OC.op OC'.op OC''.op pa pb pc pd (hm _),dn.test'⟩,λ_ _=>rfl,λ_=>rfl,λ_ _=>rfl,λ_ _=>rfl⟩
     ·cases h
    ·cases h
   ·cases h
  ·cases h
 ·cases h
theorem z9X{go:Go}(ih:∀e x,go e=some x->Gd T W X E e x){op:BoolOp}{pos:Pos}:∀{vs:List Expr}{x:Ex},trBool go op vs=some x->Snd T W X E (.BoolOp op vs pos) x/\SndW T W X E (.BoolOp op vs pos) x
 | [],x,h=>by cases h
 | [a],x,h=>⟨zDs (ih _ _ h).snd,zBu (ih _ _ h).tst⟩
 | a::b::r,x,h=>by
  unfold trBool at h
  split at h
  ·rename_i x1 x2 h1 h2
   obtain⟨p,q⟩:=z9X ih h2
   cases op with
   | And=>cases h;exact⟨zDt (ih _ _ h1).snd p,zBw (ih _ _ h1).tst q⟩
   | Or=>cases h;exact⟨zFu (ih _ _ h1).snd p,zDu (ih _ _ h1).tst q⟩
  ·cases h
end
end Ev
namespace Ev
open PySem L2 PySem.Spec PyProof.Rows
section
variable{T:Tx}{W:Wd}{cm:Bool}{k:Nat}{X:Cx}{N:List Str}{sc:List (Str×NameKind)}{E:XK}{e a b c:Expr}{x y z:Ex}{go:Go}
theorem zF1(O:XOk T W cm k X N sc E)(ih:∀e x,go e=some x->Gd T W X E e x){pos:Pos}(h:trSub go a b=some x):Gd T W X E (.Subscript a b pos) x:=by
 refine z2k ?_ (λ_=>rfl) (λ_ _=>rfl) (λ_=>rfl) (λ_ _=>rfl) (λ_ _=>rfl)
 have osnd:∀{o:Option Expr}{z:Option Ex},trO go o=some z->SndO T W X E o z:=λ{o z}h=>by
  cases o with
  | none=>cases h;exact z9G
  | some e=>
   simp only[trO,Option.map_eq_some_iff]at h
   obtain⟨y,hy,rfl⟩:=h
   exact z9H (ih _ _ hy).snd
 unfold trSub at h
 split at h
 ·rename_i q _
  obtain⟨hst,h'⟩:=iteN h
  obtain⟨y,h1,h'⟩:=bndI h'
  obtain⟨l,h2,h'⟩:=bndI h'
  obtain⟨u,h3,rfl⟩:=mapI h'
  have e:=q.2
  rw[Option.isNone_iff_eq_none.mp hst]at e
  rw[e]
  exact z9I (ih _ _ h1).snd (osnd h2) (osnd h3)
 ·obtain⟨y,h1,h'⟩:=bndI h
  obtain⟨z,h2,rfl⟩:=mapI h'
  exact zFw O.hK (ih _ _ h1).snd (ih _ _ h2).snd (ih _ _ h2).plain
theorem z6Z(h:okBase a=true)(f:Str)(env:PySem.Env):attributeBase a f env (eval a env)=eval a env:=by
 unfold okBase at h
 simp only[Bool.or_eq_true,Option.isSome_iff_exists]at h
 rcases h with⟨q,_⟩|⟨q,_⟩|⟨q,_⟩<;>(rw[q.2];rfl)
theorem zD2(O:XOk T W cm k X N sc E)(ih:∀e x,go e=some x->Gd T W X E e x){f:Str}{pos:Pos}(h:trAttr go a f=some x):Gd T W X E (.Attribute a f pos) x:=by
 refine z2k ?_ (λ_=>rfl) (λ_ _=>rfl) (λ_=>rfl) (λ_ _=>rfl) (λ_ _=>rfl)
 unfold trAttr at h
 split at h
 ·rename_i hb
  split at h
  ·rename_i y hy
   split at h
   ·rename_i hf
    cases h
    exact z9M O.tx O.hK (ih _ _ hy).snd hf (z6Z hb _ _)
   ·split at h
    ·rename_i hf
     cases h
     exact z9M (tf:=true) O.tx O.hK (ih _ _ hy).snd hf (z6Z hb _ _)
    ·cases h
  ·cases h
 ·cases h
theorem z2S(ih:∀e x,go e=some x->Gd T W X E e x):∀{es:List Expr}{xs:List Ex},trs go es=some xs->SndA T W X E es xs/\ ∀e∈es,NoStar e
 | [],xs,h=>by cases h;exact⟨z1D,λe he=>by cases he⟩
 | e::es,xs,h=>by
  unfold trs at h
  split at h
  ·rename_i y l h1 h2
   cases h
   obtain⟨p,q⟩:=z2S ih h2
   refine⟨z08 (ih _ _ h1).star (ih _ _ h1).snd p,λe' he=>?_⟩
   rcases List.mem_cons.mp he with rfl|he
   ·exact(ih _ _ h1).star
   ·exact q e' he
  ·cases h
theorem z7N{env:PySem.Env}:∀{es:List Expr},(∀e∈es,NoStar e)->starEach es env=es.map λe=>(false,eval e env)
 | [],_=>rfl
 | e::es,h=>by
  rw[h e List.mem_cons_self,z7N λe' he=>h e' (List.mem_cons_of_mem _ he)];rfl
theorem z3k{env:PySem.Env}{es:List Expr}{pos:Pos}(h:∀e∈es,NoStar e):(backTo pos (starEach es env)).any (·.1)=false:=by
 rw[z7N h]
 unfold backTo
 rw[List.map_map,List.any_map]
 induction es with
 | nil=>rfl
 | cons e r ih=>
  rw[List.any_cons,ih λe' he=>h e' (List.mem_cons_of_mem _ he)]
  rfl
theorem zF2(ih:∀e x,go e=some x->Gd T W X E e x){es:List Expr}{xs:List Ex}{pos:Pos}(h:trs go es=some xs):Gd T W X E (.List es pos) (.lst xs):=
 z2k (zDx (z2S ih h).1) (λ_=>rfl) (λ_ _=>rfl) (λ_=>rfl) (λ_ _=>rfl) (λ_ _=>rfl)
theorem zF3(ih:∀e x,go e=some x->Gd T W X E e x){es:List Expr}{xs:List Ex}{n:Nat}{pos:Pos}(h:trs go es=some xs):Gd T W X E (.Tuple es n pos) (.tup xs):=
 z2k (zDy (z2S ih h).1) (λ_=>rfl) (λ_ _=>rfl) (λ_=>rfl) (λ_ _=>rfl) (λ_ _=>rfl)
theorem zF4(hc:Gd T W X E c z)(ha:Gd T W X E a x)(hb:Gd T W X E b y){pos:Pos}:Gd T W X E (.IfExp c a b pos) (.ifx z x y):=by
 refine⟨(zDv hc.tst ha.snd hb.snd).pe,?_,λ_ _=>rfl,λ_=>rfl,λ_ _=>rfl,λ_ _=>rfl⟩
 have pt:PT X (.IfExp c a b pos) (λσ H Q=>tT T W E z σ H λk H1=>if k=true then tT T W E x σ H1 Q else tT T W E y σ H1 Q):=by
  intro pins s σ H Q I h
  refine isTrue_IfExp (thn (hc.pt pins s σ H _ I h) λd s1⟨H1,I1,q1⟩=>?_)
  cases d with
  | true=>exact ha.pt pins s1 σ H1 Q I1 q1
  | false=>exact hb.pt pins s1 σ H1 Q I1 q1
 refine SndT.pt ⟨_,pt,λΓ G ρ σ H r Q he hb' h hp=>?_⟩
 conv at he=>lhs;whnf
 refine z9Q.step (Q0:=Q) he (λd t r z=>by split at z<;>first|exact⟨_,rfl⟩|cases z) h hp.exc λb t H1 hk s h1=>?_
 cases b with
 | true=>rw[if_pos rfl];exact⟨Γ,G,ρ,r,hk,hb',h1,hp.mono s⟩
 | false=>rw[if_neg Bool.false_ne_true];exact⟨Γ,G,ρ,r,hk,hb',h1,hp.mono s⟩
theorem z84(h:Snd T W X E (.Call a es [] pos) x):Gd T W X E (.Call a es [] pos) x:=z2k h (λ_=>rfl) (λ_ _=>rfl) (λ_=>rfl) (λ_ _=>rfl) (λ_ _=>rfl)
theorem z6r(O:XOk T W true k X N sc E)(ih:∀e x,go e=some x->Gd T W X E e x){f:Str}{es:List Expr}{p pos:Pos}(hg:isGl sc f=true)(h:trPlain go f es=some x):Snd T W X E (.Call (.Name f p) es [] pos) x:=by
 unfold trPlain at h
 split at h
 ·cases h
 ·rename_i y ys hs
  obtain⟨⟨ta,pa,da⟩,ns⟩:=z2S ih hs
  cases es with
  | nil=>cases hs
  | cons e0 es0=>
  have st:starEach (e0::es0) X.env=(false,eval e0 X.env)::starEach es0 X.env:=ns e0 List.mem_cons_self _ _
  have pl:(backTo pos (starEach es0 X.env)).any (·.1)=false:=z3k λe he=>ns e (List.mem_cons_of_mem _ he)
  have gl:=O.gl _ hg
  obtain⟨g1,g2⟩:=z6q hg
  split at h
  ·rename_i bl hb
   cases h
   have cb:∀{id:String}{r0:List V->Hp->VK->Prop}{b:Blt},CallR X (.builtin id) r0->f∈bltNames->bootBuiltins f=some (.builtin id)->RunB T b r0->some b=some bl->Snd T W X E (.Call (.Name f p) (e0::es0) [] pos) (.blt bl (y::ys)):=λhc hm hv R e=>by
    rw[<-Option.some.inj e]
    exact⟨_,z4U hc gl (O.blt _ hm) hv pa g2 g1 st pl,z9O R da⟩
   have ct:∀{id:String}{r0:List V->Hp->VK->Prop}{b:Blt},CallR X (.type id) r0->f∈bltNames->bootBuiltins f=some (.type id)->RunB T b r0->some b=some bl->Snd T W X E (.Call (.Name f p) (e0::es0) [] pos) (.blt bl (y::ys)):=λhc hm hv R e=>by
    rw[<-Option.some.inj e]
    exact⟨_,z1w hc gl (O.blt _ hm) hv pa g2 g1 st pl,z9O R da⟩
   unfold trB at hb
   clear st pl pa da gl g1 g2 hs ns hg ih
   rcases iteI hb with⟨e,h1⟩|hb
   ·exact cb z6b (by rw[e];decide +kernel) (by rw[e];exact PySem.boot_len) (zBx O.hK) h1
   rcases iteI hb with⟨e,h1⟩|hb
   ·exact ct z3x (by rw[e];decide +kernel) (by rw[e];decide +kernel) (z9N O.hK) h1
   rcases iteI hb with⟨e,h1⟩|hb
   ·exact cb (CallR.or z6f z6k) (by rw[e];decide +kernel) (by rw[e];decide +kernel) (z6W O.hK) h1
   rcases iteI hb with⟨e,h1⟩|hb
   ·exact cb zBb (by rw[e];decide +kernel) (by rw[e];decide +kernel) zBy h1
   rcases iteI hb with⟨e,h1⟩|hb
   ·exact cb (z9j (O.calm rfl)) (by rw[e];decide +kernel) (by rw[e];decide +kernel) zBz h1
   rcases iteI hb with⟨e,h1⟩|hb
   ·exact cb (z9i (O.calm rfl)) (by rw[e];decide +kernel) (by rw[e];decide +kernel) zB0 h1
   rcases iteI hb with⟨e,h1⟩|hb
   ·exact cb (z9y (O.calm rfl)) (by rw[e];decide +kernel) (by rw[e];decide +kernel) zB1 h1
   rcases iteI hb with⟨e,h1⟩|hb
   ·exact ct z4Y (by rw[e];decide +kernel) (by rw[e];decide +kernel) z80 h1
   obtain⟨e,h1⟩:=iteN hb
   exact ct z9k (by rw[e];decide +kernel) (by rw[e];decide +kernel) zB2 h1
  ·cases h
   cases hf:W.F f with
   | none=>exact⟨λ_ _ _=>False,λ_ _ _ _ _ _ q=>q.elim,λΓ G ρ σ H r Q he h hp=>by
     (conv at he=>lhs;whnf);rw[hf]at he;cases he⟩
   | some fn=>exact⟨_,O.call f fn hf X rfl rfl O.hK rfl rfl (O.room rfl) E O.pass gl g1 e0 es0 ta p pos pa st pl,zB4 hf da⟩
 ·cases h
inductive TyD(T:Tx)(H:Hp):V->String->Prop where
 | non:TyD T H .non "NoneType"
 | bl (b:Bool):TyD T H (.bl b) "bool"
 | int (i:Int):TyD T H (.int i) "int"
 | lst {a:Addr} {xs:List V} (e:H a=some (.lst xs)):TyD T H (.ref a) "list"
 | tup {a:Addr} {xs:List V} (e:SqT T.K H a xs):TyD T H (.ref a) "tuple"
theorem zB7(hK:X.K=T.K):CallR X (.builtin "isinstance") (λxs H Q=>∃(v:V)(t c:String)(b:Bool),xs=[v,.ty c]/\TyD T H v t/\PySem.W.kitOne T.K (.type t) (.type c)=some b/\Q (.bl b) H):=by
 intro pins s σ H xs us Q I r h
 obtain⟨v,t,c,b,rfl,ty,e,q⟩:=h
 obtain⟨u,u',rfl,ru,rc⟩:=vals2 r
 cases(show u'=Value.type c from rc)
 rw[<-hK]at e
 have fin:∀tk,EP X pins σ Q (.bool b) {s with toks:=tk}:=λtk=>⟨.bl b,H,I.tok tk,rfl,q⟩
 cases ty with
 | non=>exact z2N I ru .non e fin
 | bl y=>exact z2N I ru (.bl y) e fin
 | int i=>exact z2N I ru (.int i) e fin
 | lst ea=>exact z2N I ru (.lst ea) e fin
 | @tup a xs ea=>
  cases(show u=Value.ref a from ru)
  rw[<-hK]at ea
  obtain⟨its,_,p,_⟩:=I.tuple ea
  obtain⟨o,h1,h2,_⟩:=p
  exact PySem.W.kia_one PySem.W.kitx_tuple I.kIn ⟨o,h1,h2⟩ e (λz=>nomatch z) fin
def dTy:D->Option String
 | .non=>some "NoneType"
 | .bl _=>some "bool"
 | .int _=>some "int"
 | .lst _=>some "list"
 | .tup _=>some "tuple"
 | _=>none
theorem zD3{d:D}{s:String}{H:Hp}{C:Addr->Prop}{v:V}(h:dTy d=some s)(r:Rep T H C d v):TyD T H v s:=by
 cases d with
 | non=>cases h;rw[show v= .non from r];exact .non
 | bl b=>cases h;rw[show v= .bl b from r];exact .bl b
 | int i=>cases h;rw[show v= .int i from r];exact .int i
 | lst ds=>cases h;obtain⟨a,xs,e,_,ha,_⟩:=r;rw[e];exact .lst ha
 | tup ds=>cases h;obtain⟨a,xs,e,ha,_⟩:=r;rw[e];exact .tup ha
 | _=>cases h
theorem zD4(d:D)(b:Bool)(h:tyI d=some b):∃s,dTy d=some s/\tyTab s "int"=some b:=by
 cases d with
 | non=>exact⟨_,rfl,h⟩
 | bl b=>exact⟨_,rfl,h⟩
 | int i=>exact⟨_,rfl,h⟩
 | lst ds=>exact⟨_,rfl,h⟩
 | _=>cases h
theorem zD5(d:D)(b:Bool)(h:tyB d=some b):∃s,dTy d=some s/\tyTab s "bool"=some b:=by
 cases d with
 | non=>exact⟨_,rfl,h⟩
 | bl b=>exact⟨_,rfl,h⟩
 | int i=>exact⟨_,rfl,h⟩
 | lst ds=>exact⟨_,rfl,h⟩
 | _=>cases h
theorem zD6(d:D)(b:Bool)(h:tyL d=some b):∃s,dTy d=some s/\tyTab s "list"=some b:=by
 cases d with
 | non=>exact⟨_,rfl,h⟩
 | bl b=>exact⟨_,rfl,h⟩
 | int i=>exact⟨_,rfl,h⟩
 | lst ds=>exact⟨_,rfl,h⟩
 | tup ds=>exact⟨_,rfl,h⟩
 | _=>cases h
theorem zD7(d:D)(b:Bool)(h:tyT d=some b):∃s,dTy d=some s/\tyTab s "tuple"=some b:=by
 cases d with
 | lst ds=>exact⟨_,rfl,h⟩
 | tup ds=>exact⟨_,rfl,h⟩
 | _=>cases h
theorem zD8(O:XOk T W cm k X N sc E)(ih:∀e x,go e=some x->Gd T W X E e x){f:Str}{es:List Expr}{p pos:Pos}(hf:f="isinstance")(hg:isGl sc f=true)(h:trIsi go sc es=some x):Snd T W X E (.Call (.Name f p) es [] pos) x:=by
 subst hf
 have gl:=O.gl _ hg
 obtain⟨g1,g2⟩:=z6q hg
 obtain⟨⟨a,b⟩,h2,h3⟩:=bndI h
 obtain⟨t,ht,h4⟩:=bndI h3
 obtain⟨hgt,h5⟩:=iteN h4
 obtain⟨ty,h1,h6⟩:=bndI h5
 obtain⟨y,hy2,e0⟩:=mapI h6
 clear h h3 h4 h5 h6
 subst e0
 obtain⟨p',e1⟩:=z1y ht
 clear ht
 rw[z1X h2,show(a,b).2=_ from e1]
 clear h2 e1
 ··obtain⟨g1',g2'⟩:=z6q hgt
   have main:∀(ty:Ty)(c:String)(y:Ex),go a=some y->bootBuiltins t=some (.type c)->t∈bltNames->(∀d b,tyD W.sub d ty=some b-> ∃s,dTy d=some s/\tyTab s c=some b)->Snd T W X E (.Call (.Name "isinstance" p) [a,.Name t p'] [] pos) (.isinst y ty):=λty c y hy hb hm hd=>by
    obtain⟨ta,pa,da⟩:=(ih _ _ hy).snd
    have pt:PE X (.Name t p') (tC (.ty c)):=zCB (O.gl _ hgt) (O.blt _ hm) hb rfl g2' g1'
    have hst:=(ih _ _ hy).star
    have pA:PA X [a,.Name t p'] (tCons ta (tCons (tC (.ty c)) tNil)):=z0G pa (z0G pt z2f rfl) (hst _ _)
    refine⟨_,z4U (zB7 (T:=T) O.hK) gl (O.blt _ (by decide +kernel)) (by decide +kernel) pA g2 g1 (hst _ _) rfl,λΓ G ρ σ H r Q he h hp=>?_⟩
    conv at he=>lhs;whnf
    refine da.step he h hp λd t v H1 hk s ok h1 hp1=>?_
    unfold blR at hk
    split at hk
    ·cases hk
    ·rename_i b hb'
     cases hk
     obtain⟨s',ty',e'⟩:=hd d b hb'
     exact⟨v,s',c,b,rfl,zD3 ty' ok.any,O.ty _ _ _ e',hp1 _ H1 (Same.refl _) rfl⟩
   ·unfold trTyB at h1
    rcases iteI h1 with⟨e,h2⟩|h1
    ·rw[<-Option.some.inj h2];exact main .int "int" y hy2 (by rw[e];decide +kernel) (by rw[e];decide +kernel) zD4
    rcases iteI h1 with⟨e,h2⟩|h1
    ·rw[<-Option.some.inj h2];exact main .bool "bool" y hy2 (by rw[e];decide +kernel) (by rw[e];decide +kernel) zD5
    rcases iteI h1 with⟨e,h2⟩|h1
    ·rw[<-Option.some.inj h2];exact main .list "list" y hy2 (by rw[e];decide +kernel) (by rw[e];decide +kernel) zD6
    rcases iteI h1 with⟨e,h2⟩|h1
    ·rw[<-Option.some.inj h2];exact main .tuple "tuple" y hy2 (by rw[e];decide +kernel) (by rw[e];decide +kernel) zD7
    cases h1
end
end Ev
namespace Ev
open PySem L2 PySem.Spec PyProof.Rows
section
variable{T:Tx}{W:Wd}{cm:Bool}{k:Nat}{X:Cx}{N:List Str}{sc:List (Str×NameKind)}{E:XK}{e a b c:Expr}{x y z:Ex}{go:Go}
theorem zB8{es:List Expr}{g:Str}{as:List Expr}(h:innerCall sc es=some (g,as)):∃p pos,es=[.Call (.Name g p) as [] pos]/\isGl sc g=true:=by
 obtain⟨e,he,h'⟩:=bndI h
 obtain⟨q,hq,h'⟩:=bndI h'
 obtain⟨hg,h'⟩:=iteN h'
 cases h'
 obtain⟨p,pos,rfl⟩:=z3Q hq
 exact⟨p,pos,z1k he,hg⟩
theorem z9Y(O:XOk T W cm k X N sc E)(ih:∀e x,go e=some x->Gd T W X E e x){f:Str}{es:List Expr}{p pos:Pos}(hg:isGl sc f=true)(h:trCallN cm go sc f es=some x):Snd T W X E (.Call (.Name f p) es [] pos) x:=by
 unfold trCallN at h
 split at h
 ·rename_i hf;exact zD8 O ih hf hg h
 split at h
 ·rename_i hcm
  subst hcm
  have gl:=O.gl _ hg
  obtain⟨g1,g2⟩:=z6q hg
  split at h
  ·rename_i g as hi
   obtain⟨p',pos',rfl,hgg⟩:=zB8 hi
   obtain⟨g1',g2'⟩:=z6q hgg
   have gl':=O.gl _ hgg
   split at h
   ·rename_i e
    obtain⟨rfl,rfl⟩:=e
    split at h
    ·rename_i a
     rw[Option.map_eq_some_iff]at h
     obtain⟨y,hy,rfl⟩:=h
     have hst:=(ih _ _ hy).star
     obtain⟨ta,pa,da⟩:=z08 hst (ih _ _ hy).snd (z1D (T:=T) (W:=W) (X:=X) (E:=E))
     have pin:PE X (.Call (.Name "set" p') [a] [] pos') _:=z1w (z9z (O.calm rfl)) gl' (O.blt _ (by decide +kernel)) (by decide +kernel) pa g2' g1' (hst _ _) rfl
     exact⟨_,z4U z9P gl (O.blt _ (by decide +kernel)) PySem.boot_len (z0G pin z2f rfl) g2 g1 rfl rfl,zB3 O.hK da⟩
    ·cases h
   split at h
   ·rename_i e
    obtain⟨rfl,rfl⟩:=e
    split at h
    ·rename_i a
     rw[Option.map_eq_some_iff]at h
     obtain⟨y,hy,rfl⟩:=h
     have hst:=(ih _ _ hy).star
     obtain⟨ta,pa,da⟩:=z08 hst (ih _ _ hy).snd (z1D (T:=T) (W:=W) (X:=X) (E:=E))
     have pin:PE X (.Call (.Name "range" p') [a] [] pos') _:=z1w z6R gl' (O.blt _ (by decide +kernel)) (by decide +kernel) pa g2' g1' (hst _ _) rfl
     exact⟨_,z1w (z2P (O.calm rfl)) gl (O.blt _ (by decide +kernel)) (by decide +kernel) (z0G pin z2f rfl) g2 g1 rfl rfl,z4p da⟩
    ·rename_i a b
     split at h
     ·rename_i y z hy hz
      cases h
      have hst:=(ih _ _ hy).star
      have hst':=(ih _ _ hz).star
      obtain⟨ta,pa,da⟩:=z08 hst (ih _ _ hy).snd (z08 hst' (ih _ _ hz).snd (z1D (T:=T) (W:=W) (X:=X) (E:=E)))
      have pin:PE X (.Call (.Name "range" p') [a,b] [] pos') _:=z1w z6h gl' (O.blt _ (by decide +kernel)) (by decide +kernel) pa g2' g1' (hst _ _) (z3k λe he=>by rw[List.mem_singleton.mp he];exact hst')
      exact⟨_,z1w (z2P (O.calm rfl)) gl (O.blt _ (by decide +kernel)) (by decide +kernel) (z0G pin z2f rfl) g2 g1 rfl rfl,z4q da⟩
     ·cases h
    ·cases h
   ·exact z6r O ih hg h
  ·exact z6r O ih hg h
 ·cases h
theorem z6s{H:Hp}{C C':Addr->Prop}{d:D}{v:V}(hx:Rep T H C d v):∀{ds:List D}{xs:List V}{n:Nat},countD d ds=some n->Reps T H C' ds xs->xs.all flatV=true/\(xs.countP λz=>eqV z v)=n
 | [],_,n,h,r=>by cases h;cases r;exact⟨rfl,rfl⟩
 | d'::ds,_,n,h,⟨w,ws,e,r,rs⟩=>by
  subst e
  obtain⟨p,hp,h0⟩:=bndI h
  obtain⟨q,hq,e⟩:=mapI h0
  obtain⟨h1,h2,h3,_⟩:=z2w hp r hx
  obtain⟨k1,k2⟩:=z6s hx hq rs
  refine⟨by rw[List.all_cons,h1,k1];rfl,?_⟩
  rw[List.countP_cons,k2,<-h3,<-e]
  cases p<;>rfl
theorem z9Z(O:XOk T W cm k X N sc E){o:Expr}{m:Str}{q pos:Pos}(hm:m="count")(hb:okBase o=true)(hl:(q.endLine==pos.line)=true)(ho:Gd T W X E o x)(ha:Gd T W X E a y):Snd T W X E (.Call (.Attribute o m q) [a] [] pos) (.count x y):=by
 subst hm
 obtain⟨to,po,d0⟩:=ho.snd
 obtain⟨ta,pa,da⟩:=ha.snd
 have hst:=ha.star
 refine⟨_,zBi PySem.F.plainAttrs_list PySem.F.slot_list_count PySem.F.type_list_count zBn po (z0G pa z2f (hst _ _)) (z6Z hb _ _) (by rw[hst];rfl) hl (hst _ _) rfl,λΓ G ρ σ H r Q he h hp=>?_⟩
 conv at he=>lhs;whnf
 refine d0.step he h hp λd t v H1 hk s ok h1 hp1=>?_
 split at hk
 ·rename_i ds
  obtain⟨l,xs,rfl,hl',rs⟩:=ok.list
  refine⟨.inl ⟨rfl,xs,SqL.of hl'⟩,?_⟩
  refine da.step hk h1 hp1 λd' t' v' H2 hk s2 ok2 h2 hp2=>?_
  split at hk
  ·rename_i hf
   split at hk
   ·rename_i n hn
    cases hk
    obtain⟨k1,k2⟩:=z6s ok2.any hn (rs.same s2)
    refine⟨l,xs,v',rfl,rfl,SqL.of (s2 _ _ hl'),z5i hf ok2.any,k1,?_⟩
    rw[k2]
    exact hp2 _ H2 (Same.refl _) rfl
   ·cases hk
  ·cases hk
 ·cases hk
theorem zD9(O:XOk T W cm k X N sc E)(ih:∀e x,go e=some x->Gd T W X E e x){f:Expr}{es:List Expr}{pos:Pos}(h:trCall cm go sc es pos f=some x):Gd T W X E (.Call f es [] pos) x:=by
 refine z84 ?_
 rcases altI h with⟨q,h'⟩|h'
 ·obtain⟨hg,h'⟩:=iteN h'
  rw[q.2]
  exact z9Y O ih hg h'
 ·obtain⟨q,_,h'⟩:=bndI h'
  obtain⟨hb,h'⟩:=iteN h'
  rw[Bool.and_eq_true]at hb
  obtain⟨a,ha,h'⟩:=bndI h'
  obtain⟨x1,h1,h'⟩:=bndI h'
  obtain⟨x2,h2,h'⟩:=bndI h'
  rw[q.2,z1k ha]
  rcases iteI h' with⟨hm,h'⟩|h'
  ·cases h'
   exact z9Z O hm hb.1 hb.2 (ih _ _ h1) (ih _ _ h2)
  cases h'
theorem z7O:∀{l:List Str},nodupB l=true->l.Nodup
 | [],_=>List.nodup_nil
 | x::r,h=>by
  simp only[nodupB,Bool.and_eq_true,Bool.not_eq_true']at h
  refine List.nodup_cons.mpr ⟨λhm=>?_,z7O h.2⟩
  have:=List.contains_iff_mem.mpr hm
  rw[h.1]at this
  cases this
theorem z85{sc:List (Str×NameKind)}{x:Str}{kd:NameKind}(h:kindIn sc x=some kd):(x,kd)∈sc:=PySem.mem_of_lookup h
theorem z34{scope:List (Str×NameKind)}(h:okBlock sc scope=true){p:Str×NameKind}(hp:p∈scope):p.2≠ .cell/\(p.2= .local->kindIn scope p.1=some .local)/\(p.2= .free->(kindIn sc p.1=some .cell\/kindIn sc p.1=some .free)/\kindIn scope p.1=some .free):=by
 unfold okBlock at h
 have q:=List.all_eq_true.mp h p hp
 obtain⟨x,kd⟩:=p
 cases kd with
 | «local» =>
  refine⟨λz=>(by cases z),λ_=>?_,λz=>(by cases z)⟩
  dsimp only at q ⊢
  split at q
  ·assumption
  ·cases q
 | free=>
  refine⟨λz=>(by cases z),λz=>(by cases z),λ_=>?_⟩
  dsimp only at q ⊢
  split at q
  ·rename_i h1 h2;exact⟨.inl h1,h2⟩
  ·rename_i h1 h2;exact⟨.inr h1,h2⟩
  ·cases q
 | cell=>cases q
 | _=>exact⟨λz=>(by cases z),λz=>(by cases z),λz=>(by cases z)⟩
theorem z5k{tg:Expr}{t:Tg}(h:trTg N sc tg=some t):(∃x p i,tg= .Name x p/\isLoc sc x=true/\slot N x=some i/\t= .name i)\/
  (∃x p y q m r i j,tg= .Tuple [.Name x p,.Name y q] m r/\isLoc sc x=true/\isLoc sc y=true/\slot N x=some i/\slot N y=some j/\i≠j/\t= .tup [i,j]):=by
 rcases altI h with⟨q,h'⟩|h'
 ·obtain⟨hl,h'⟩:=iteN h'
  obtain⟨i,hi,rfl⟩:=mapI h'
  exact .inl ⟨q.1.1,q.1.2,i,q.2,hl,hi,rfl⟩
 ·obtain⟨q,_,h'⟩:=bndI h'
  obtain⟨ab,h2,h'⟩:=bndI h'
  obtain⟨x,hx,h'⟩:=bndI h'
  obtain⟨y,hy,h'⟩:=bndI h'
  obtain⟨hl,h'⟩:=iteN h'
  obtain⟨i,hi,h'⟩:=bndI h'
  obtain⟨j,hj,h'⟩:=bndI h'
  rw[Bool.and_eq_true]at hl
  obtain⟨p1,e1⟩:=z1y hx
  obtain⟨p2,e2⟩:=z1y hy
  have e:=q.2
  rw[z1X h2,e1,e2]at e
  by_cases hij:i=j
  ·rw[if_pos hij]at h';cases h'
  ·rw[if_neg hij]at h'
   cases h'
   exact .inr ⟨x,p1,y,p2,_,_,i,j,e,hl.1,hl.2,hi,hj,hij,rfl⟩
theorem z35{scope:List (Str×NameKind)}{N':List Str}{j i:Nat}(h:(inIx N scope N')[j]? = some (some i)):∃x,N'[j]? = some x/\kindIn scope x=some .free/\slot N x=some i:=by
 unfold inIx at h
 rw[List.getElem?_map,Option.map_eq_some_iff]at h
 obtain⟨x,h1,h2⟩:=h
 split at h2
 ·rename_i hk;exact⟨x,h1,hk,h2⟩
 ·cases h2
theorem zB9{scope:List (Str×NameKind)}{N':List Str}(nd:N'.Nodup)(i j m:Nat)(h1:(inIx N scope N')[i]? = some (some m))(h2:(inIx N scope N')[j]? = some (some m)):i=j:=by
 obtain⟨x,a1,_,a3⟩:=z35 h1
 obtain⟨y,b1,_,b3⟩:=z35 h2
 have e:x=y:=by
  have q1:=z01 a3
  have q2:=z01 b3
  rw[q1]at q2
  exact Option.some.inj q2
 subst e
 have hi:i<N'.length:=(List.getElem?_eq_some_iff.mp a1).1
 exact(List.getElem?_inj hi nd).mp (a1.trans b1.symm)
theorem lcScope(O:XOk T W cm k X N sc E){scope:Scope}(hb:okBlock sc scope.names=true)(hk:scope.kind= .function):LcScope X (inNames scope.names) (inIx N scope.names (inNames scope.names)) scope where
 kind:=hk
 nocell:=λy hy=>(z34 hb hy).1
 names:=λx hx hl=>(z34 hb hx).2.1 hl
 free:=λx hx hf=>O.kinds _ ((z34 hb hx).2.2 hf).1
 len:=by simp[inIx]
 at_:=λj i h=>by
  obtain⟨x,h1,h2,h3⟩:=z35 h
  exact⟨x,h1,by rw[O.hN];exact z01 h3,h2⟩
theorem z2T{scope:Scope}{cl:List (Str×Addr)}{C:Addr}{s:Shared}{H:Hp}{fp:List Addr}{N':List Str}(x:Str):
  (compCx X N' scope cl C s H fp).env.scope.names.lookup x=(scope.names.lookup x).map λkd=>if(kd==NameKind.free&&X.env.scope.kind== .function&&X.env.kindOf x==some .cell)then NameKind.cell else kd:=z1K
theorem z7P(O:XOk T W cm k X N sc E){scope:Scope}{cl:List (Str×Addr)}{C:Addr}{s:Shared}{H:Hp}{fp:List Addr}:XOk T W cm k (compCx X (inNames scope.names) scope cl C s H fp) (inNames scope.names) scope.names EN where
 hK:=O.hK
 hN:=rfl
 tx:=O.tx
 vis:=λx h=>by
  unfold isVis at h
  rw[Bool.and_eq_true]at h
  have h:=h.2
  unfold Vis
  rw[z2T]
  unfold kindIn at h
  split at h
  ·rename_i e;rw[e];exact .inl rfl
  ·rename_i e;rw[e];exact .inr (.inl rfl)
  ·rename_i e
   rw[e]
   dsimp only[Option.map]
   split
   ·exact .inr (.inl rfl)
   ·exact .inr (.inr rfl)
  ·cases h
 gl:=λx h=>by
  unfold isGl at h
  rw[Bool.and_eq_true]at h
  have h:=h.2
  show(compCx X (inNames scope.names) scope cl C s H fp).env.scope.names.lookup x=some .globalImplicit
  rw[z2T]
  unfold kindIn at h
  split at h
  ·rename_i e;rw[e];rfl
  ·cases h
 kinds:=λx h=>by
  rw[z2T]
  unfold kindIn at h
  rcases h with h|h
  ·rw[h];exact .inl rfl
  ·rw[h]
   dsimp only[Option.map]
   split
   ·exact .inl rfl
   ·exact .inr rfl
 calm:=O.calm
 room:=O.room
 units:=O.units
 call:=O.call
 blt:=O.blt
 glob:=O.glob
 pass:=pass1
 ty:=O.ty
def gOf(K:PySem.W.Frag):Tg->TG
 | .name i=>gName i
 | .tup [i,j]=>gTup K 2 (gCons (gName i) (gCons (gName j) gNil))
 | _=>λ_ _ _ _=>False
theorem zBA(hK:X.K=T.K)(hc:X.calm=true)(hN:X.N=N)(nd:N.Nodup)(hloc:∀x,isLoc sc x=true->Loc X.env.scope x/\(X.fn x=true\/X.env.scope.names.lookup x=some .local)){tg:Expr}{t:Tg}(h:trTg N sc tg=some t):
  PG X tg (gOf T.K t):=by
 have one:∀{x:Str}{i:Nat}{p:Pos},isLoc sc x=true->slot N x=some i->PG X (.Name x p) (gName i):=λ{x i p}h1 h2=>zCG (by rw[hN];exact nd) (by rw[hN];exact z01 h2) (hloc _ h1).1 (hloc _ h1).2
 rcases z5k h with⟨x,p,i,rfl,hl,hi,rfl⟩|⟨x,p,y,q,m,r,i,j,rfl,hl,hl',hi,hj,hij,rfl⟩
 ·exact one hl hi
 ·rw[<-hK]
  exact zEG hc (z7B (one hl hi) (z7B (one hl' hj) zCH rfl) rfl) rfl rfl
theorem zAa{tg:Expr}{t:Tg}(h:trTg N sc tg=some t):TgOk T (gOf T.K t) t:=by
 rcases z5k h with⟨x,p,i,rfl,hl,hi,rfl⟩|⟨x,p,y,q,m,r,i,j,rfl,hl,hl',hi,hj,hij,rfl⟩
 ·exact z2R
 ·exact z7M rfl
theorem zF5{scope:List (Str×NameKind)}(hb:okBlock sc scope=true){tg:Expr}{t:Tg}(h:trTg (inNames scope) scope tg=some t):∀j∈tgSlots t,∀i,(inIx N scope (inNames scope))[j]? ≠ some (some i):=by
 have one:∀{x:Str}{j i:Nat},isLoc scope x=true->slot (inNames scope) x=some j->(inIx N scope (inNames scope))[j]? ≠ some (some i):=λ{x j i}h1 h2 q=>by
  obtain⟨y,a1,a2,_⟩:=z35 q
  have e:=z01 h2
  rw[a1]at e
  cases e
  unfold isLoc at h1
  rw[a2]at h1
  cases h1
 rcases z5k h with⟨x,p,i,rfl,hl,hi,rfl⟩|⟨x,p,y,q,m,r,i,j,rfl,hl,hl',hi,hj,hij,rfl⟩
 ·intro j hj i'
  simp only[tgSlots,List.mem_singleton]at hj
  subst hj
  exact one hl hi
 ·intro m hm i'
  simp only[tgSlots,List.mem_cons,List.not_mem_nil,or_false]at hm
  rcases hm with rfl|rfl
  ·exact one hl hi
  ·exact one hl' hj
theorem z7Q{iter:Expr}{as:List Expr}(h:rangeArgs sc iter=some as):∃p pos,iter= .Call (.Name "range" p) as [] pos/\isGl sc "range"=true:=by
 obtain⟨q,hq,h'⟩:=bndI h
 obtain⟨hg,h'⟩:=iteN h'
 cases h'
 rw[Bool.and_eq_true,decide_eq_true_eq]at hg
 obtain⟨p,pos,e⟩:=z3Q hq
 rw[hg.1]at e
 exact⟨p,pos,e,by rw[<-hg.1];exact hg.2⟩
theorem z5l(O:XOk T W true k X N sc E){scope:Scope}{N':List Str}{ix:List (Option Nat)}{wi:TI}{g:TG}{tt:TT}{te:TE}{tg iter elt:Expr}{ifs:List Expr}{pos:Pos}(S:LcScope X N' ix scope)(pg:∀cl C s H fp,PG (compCx X N' scope cl C s H fp) tg g)
  (ptt:∀cl C s H fp,PTs (compCx X N' scope cl C s H fp) ifs tt) (pel:∀cl C s H fp,PE (compCx X N' scope cl C s H fp) elt te) (hi:PI X tg iter wi) (hs:∀v,foldedSetIterable iter X.env v=pure v) (dn:Den T W E (tLc wi ix g tt te) x):∃t,PE X (.ListComp elt [⟨tg,iter,ifs,0⟩] scope pos) t/\Den T W E t x/\
   ∀{i:Nat}{x':Str}{pos' spos:Pos},X.N.Nodup->X.N[i]? = some x'->X.env.scope.names.lookup x'=some .local->swapsWith (.ListComp elt [⟨tg,iter,ifs,0⟩] scope pos) (some (.Name x' pos')) spos.line X.env=pure true->
    PS X (.Assign [.Name x' pos'] (.ListComp elt [⟨tg,iter,ifs,0⟩] scope pos) spos) (tAsg t (gName i)):=⟨_,zGs (O.calm rfl) S hi pg ptt pel hs,dn,λhN hi' hx hsw=>zBl hN hi' hx (O.calm rfl) S hi pg ptt pel hsw hs⟩
theorem z7R{t:Tg}{i:Nat}(h:nameT t=some i):t= .name i:=by
 cases t with
 | name j=>cases h;rfl
 | tup is=>cases h
theorem zF6{g:Comprehension}(h:g.is_async=0):g=⟨g.target,g.iter,g.ifs,0⟩:=by
 cases g;cases h;rfl
theorem z4G(O:XOk T W cm k X N sc E)(ih:∀e x,go e=some x->Gd T W X E e x){goIn:List Str->List (Str×NameKind)->Go}{scope:Scope}
  (ihIn:∀cl C s H fp e x,goIn (inNames scope.names) scope.names e=some x->Gd T W (compCx X (inNames scope.names) scope cl C s H fp) EN e x)
  {elt:Expr} {gens:List Comprehension} {pos:Pos} (h:trComp cm go goIn N sc elt scope gens=some x):∃t,PE X (.ListComp elt gens scope pos) t/\Den T W E t x/\
   ∀{i:Nat}{x':Str}{pos' spos:Pos},X.N.Nodup->X.N[i]? = some x'->X.env.scope.names.lookup x'=some .local->swapsWith (.ListComp elt gens scope pos) (some (.Name x' pos')) spos.line X.env=pure true->
    PS X (.Assign [.Name x' pos'] (.ListComp elt gens scope pos) spos) (tAsg t (gName i)):=by
 obtain⟨gn,hgn,h1⟩:=bndI h
 obtain⟨hc,h2⟩:=iteN h1
 obtain⟨tst,htst,h3⟩:=bndI h2
 obtain⟨el,hel,h4⟩:=bndI h3
 obtain⟨t,ht,h5⟩:=bndI h4
 simp only[Bool.and_eq_true,decide_eq_true_eq]at hc
 obtain⟨ecm,has,hb,hk,hnd⟩:=hc
 rw[z1k hgn,zF6 has]
 subst ecm
 clear h h1 h2 h3 h4 hgn has
 have nd:=z7O hnd
 have S:=lcScope O hb hk
 have inj:=zB9 (N:=N) (scope:=scope.names) nd
 have off:=zF5 (N:=N) hb ht
 have tok:=@zAa T _ _ _ _ ht
 have pg:∀cl C s H fp,PG (compCx X (inNames scope.names) scope cl C s H fp) gn.target (gOf T.K t):=λcl C s H fp=>by
  refine zBA (X:=compCx X (inNames scope.names) scope cl C s H fp) O.hK (O.calm rfl) rfl nd (λx hl=>?_) ht
  have hloc:scope.names.lookup x=some .local:=by
   unfold isLoc at hl
   split at hl
   ·assumption
   ·rename_i e;exact absurd rfl (z34 hb (z85 e)).1
   ·cases hl
  have:(compCx X (inNames scope.names) scope cl C s H fp).env.scope.names.lookup x=some .local:=by rw[z2T,hloc];rfl
  exact⟨.inl this,.inr this⟩
 have pel:∀cl C s H fp,PE (compCx X (inNames scope.names) scope cl C s H fp) elt (tE T W EN el):=λcl C s H fp=>(ihIn cl C s H fp _ _ hel).pe
 have ht':∃tt,(∀cl C s H fp,PTs (compCx X (inNames scope.names) scope cl C s H fp) gn.ifs tt)/\DenTst T W tt tst:=by
  generalize gn.ifs=l at htst ⊢
  unfold trIfs at htst
  split at htst
  ·cases htst;exact⟨_,λ_ _ _ _ _=>zCU,z6X⟩
  ·obtain⟨y,hy,e⟩:=mapI htst
   rw[<-e]
   exact⟨_,λcl C s H fp=>zCV (ihIn cl C s H fp _ _ hy).pt,z6Y⟩
  ·cases htst
 obtain⟨tt,ptt,dtt⟩:=ht'
 clear htst hel ihIn hb hk hnd nd
 rcases altK h5 with⟨as,hr,h6⟩|h6
 ·obtain⟨p,pos',e0,hg⟩:=z7Q hr
  obtain⟨i,hi,h7⟩:=bndI h6
  have et:=z7R hi
  subst et
  have hoff:=off i (by simp[tgSlots])
  rw[e0]
  rcases altK h7 with⟨a,ha,h8⟩|h8
  ·rw[z1k ha]
   obtain⟨y,hy,ex⟩:=mapI h8
   rw[<-ex]
   clear h5 h6 h7 h8 hr e0 ha ex
   have hst:=(ih _ _ hy).star
   obtain⟨ta,pa,da⟩:=z08 hst (ih _ _ hy).snd (z1D (T:=T) (W:=W) (X:=X) (E:=E))
   exact z5l O S pg ptt pel (z5T (O.gl _ hg) (O.blt _ (by decide +kernel)) pa (hst _ _)) (λ_=>rfl) (z82 inj hoff dtt da)
  ·obtain⟨q,hq,h9⟩:=bndI h8
   obtain⟨y,hy,h10⟩:=bndI h9
   obtain⟨z,hz,ex⟩:=mapI h10
   rw[z1X hq,<-ex]
   clear h5 h6 h7 h8 h9 h10 hr e0 hq ex
   have hst:=(ih _ _ hy).star
   have hst':=(ih _ _ hz).star
   obtain⟨ta,pa,da⟩:=z08 hst (ih _ _ hy).snd (z08 hst' (ih _ _ hz).snd (z1D (T:=T) (W:=W) (X:=X) (E:=E)))
   exact z5l O S pg ptt pel (z5U (O.gl _ hg) (O.blt _ (by decide +kernel)) pa (by rw[hst,hst'];rfl) (hst' _ _)) (λ_=>rfl) (z83 inj hoff dtt da)
 clear h5
 obtain⟨s,hs,ex⟩:=mapI h6
 rw[<-ex]
 obtain⟨ts,ps,dsn⟩:=(ih _ _ hs).snd
 exact z5l O S pg ptt pel (zB5 ps) (λv=>(ih _ _ hs).fold _ v) (z9T O.hK inj off tok dtt dsn)
end
theorem zDA{T:Tx}{W:Wd}{cm:Bool}{k:Nat}{X:Cx}{N:List Str}{sc:List (Str×NameKind)}{E:XK}{x:Ex}{go:Go}(O:XOk T W cm k X N sc E)(ih:∀e x,go e=some x->Gd T W X E e x){goIn:List Str->List (Str×NameKind)->Go}{scope:Scope}
  (ihIn:∀cl C s H fp e x,goIn (inNames scope.names) scope.names e=some x->Gd T W (compCx X (inNames scope.names) scope cl C s H fp) EN e x)
  {elt:Expr} {gens:List Comprehension} {pos:Pos} (h:trComp cm go goIn N sc elt scope gens=some x):Gd T W X E (.ListComp elt gens scope pos) x:=by
 obtain⟨t,p,q,_⟩:=z4G (pos:=pos) O ih ihIn h
 exact z2k ⟨t,p,q⟩ (λ_=>rfl) (λ_ _=>rfl) (λ_=>rfl) (λ_ _=>rfl) (λ_ _=>rfl)
theorem z7S{a:Expr}{x:Str}(h:strOf a=some x):∃j p,a= .Constant (.str x) j p:=by
 obtain⟨q,_,h'⟩:=bndI h
 have e:=q.2
 cases hc:q.1.1 with
 | str y=>rw[hc]at e h';cases h';exact⟨_,_,e⟩
 | _=>rw[hc]at h';cases h'
theorem zDB{sc:List (Str×NameKind)}{a:Expr}{x:Str}(h:fvOf sc a=some x):∃p q,a= .FormattedValue (.Name x p) (-1) none q/\isGl sc x=true:=by
 obtain⟨q,_,h'⟩:=bndI h
 obtain⟨y,hy,h'⟩:=bndI h'
 obtain⟨hc,h'⟩:=iteN h'
 cases h'
 simp only[Bool.and_eq_true,decide_eq_true_eq]at hc
 obtain⟨p,e1⟩:=z1y hy
 have e:=q.2
 rw[e1,hc.1,Option.isNone_iff_eq_none.mp hc.2.2]at e
 exact⟨p,_,e,hc.2.1⟩
theorem zDC{T:Tx}{W:Wd}{cm:Bool}{k:Nat}{X:Cx}{N:List Str}{sc:List (Str×NameKind)}{E:XK}{x:Ex}(O:XOk T W cm k X N sc E){vs:List Expr}{pos:Pos}(h:trF sc vs=some x):Gd T W X E (.JoinedStr vs pos) x:=by
 refine z2k ?_ (λ_=>rfl) (λ_ _=>rfl) (λ_=>rfl) (λ_ _=>rfl) (λ_ _=>rfl)
 unfold trF at h
 split at h
 ·rename_i a m b
  split at h
  ·rename_i xa g xb h1 h2 h3
   cases h
   obtain⟨j1,p1,rfl⟩:=z7S h1
   obtain⟨j2,p2,rfl⟩:=z7S h3
   obtain⟨p3,p4,rfl,hg⟩:=zDB h2
   cases e:W.glob g with
   | none=>exact⟨λ_ _ _=>False,λ_ _ _ _ _ _ q=>q.elim,λΓ G ρ σ H r Q he h hp=>by(conv at he=>lhs;whnf);rw[e]at he;cases he⟩
   | some i=>
    obtain⟨t,hm⟩:=O.glob g i e
    by_cases hz:i.natAbs<1000000/\(((Str.empty++xa)++(toString i:String))++xb).length<=100000/\((Str.empty++xa)++(toString i:String)).length<=100000/\(Str.empty++xa).length<=100000
    ·refine⟨λσ H Q=>Q (.str (((Str.empty++xa)++(toString i:String))++xb)) H,λpins s σ H Q I h=>?_,λΓ G ρ σ H r Q he h hp=>?_⟩
     ·refine JoinedStr_many ?_
      show wpAny _ _ (joinParts Str.empty [eval (.Constant (.str xa) j1 p1) X.env,eval (.FormattedValue (.Name g p3) (-1) none p4) X.env,eval (.Constant (.str xb) j2 p2) X.env]) _ _ s
      obtain⟨z1,z2,z3,z4⟩:=hz
      have big:(100000:Nat)<=sizeLine:=by decide
      refine joinParts_cons (Calls.Constant_str ⟨Nat.le_trans z4 big,?_⟩)
      refine joinParts_cons (FormattedValue_plain (z3G (I.tok _) (O.gl _ hg) hm ?_ (z6q hg).1))
      refine formatField_int_small ?_ ⟨Nat.le_trans z3 big,?_⟩
      ·rcases Nat.eq_zero_or_pos i.natAbs with q|q
       ·rw[q];decide
       ·exact(Nat.log2_lt (by lia)).mpr (Nat.lt_of_lt_of_le z1 (Nat.le_trans (show 1000000<=2^20 by decide) (Nat.pow_le_pow_right (by decide) (by decide))))
      refine joinParts_cons (Calls.Constant_str ⟨Nat.le_trans z2 big,?_⟩)
      exact joinParts_nil ⟨.str _,H,(((I.tok _).tok _).tok _).tok _,⟨_,rfl⟩,h⟩ (Nat.le_trans z2 big)
     ·(conv at he=>lhs;whnf);rw[e]at he;dsimp only at he
      rw[if_pos hz]at he
      cases he
      exact hp _ H (Same.refl _) rfl
    ·exact⟨λ_ _ _=>False,λ_ _ _ _ _ _ q=>q.elim,λΓ G ρ σ H r Q he h hp=>by(conv at he=>lhs;whnf);rw[e]at he;dsimp only at he;rw[if_neg hz]at he;cases he⟩
  ·cases h
 ·cases h
theorem gd_E{T:Tx}{W:Wd}{cm:Bool}{k:Nat}:∀(n:Nat){X:Cx}{N:List Str}{sc:List (Str×NameKind)}{E:XK}(O:XOk T W cm k X N sc E)(e:Expr)(x:Ex),trE cm n N sc e=some x->Gd T W X E e x:=by
 intro n
 induction n with
 | zero=>intro X N sc E O e x h;cases h
 | succ n ihn=>
  intro X N sc E O e x h
  have ih:=λe x=>ihn O e x
  rw[z2Q]at h
  rcases altI h with⟨q,h'⟩|h'
  ·rw[q.2];exact zD1 O h'
  clear h
  rcases altI h' with⟨q,h⟩|h
  ·rw[q.2];exact zB6 h
  clear h'
  rcases altI h with⟨q,h'⟩|h'
  ·rw[q.2];exact zGt h' λy hy=>ih _ _ hy
  clear h
  rcases altI h' with⟨q,h⟩|h
  ·obtain⟨o,h1,h⟩:=bndI h
   obtain⟨x1,h2,h⟩:=bndI h
   obtain⟨x2,h3,rfl⟩:=mapI h
   rw[q.2];exact zFz h1 (ih _ _ h2) (ih _ _ h3)
  clear h'
  rcases altI h with⟨q,h'⟩|h'
  ·rw[q.2];exact zF0 O ih h'
  clear h
  rcases altI h' with⟨q,h⟩|h
  ·obtain⟨p1,p2⟩:=z9X (pos:=q.1.2.2) ih h
   rw[q.2];exact⟨p1.pe,p2.tst.pt,λ_ _=>rfl,λ_=>rfl,λ_ _=>rfl,λ_ _=>rfl⟩
  clear h'
  rcases altI h with⟨q,h'⟩|h'
  ·obtain⟨x1,h1,h'⟩:=bndI h'
   obtain⟨x2,h2,h'⟩:=bndI h'
   obtain⟨x3,h3,rfl⟩:=mapI h'
   rw[q.2];exact zF4 (ih _ _ h1) (ih _ _ h2) (ih _ _ h3)
  clear h
  rcases altI h' with⟨q,h⟩|h
  ·rw[q.2];exact zF1 O ih h
  clear h'
  rcases altI h with⟨q,h'⟩|h'
  ·rw[q.2];exact zD2 O ih h'
  clear h
  rcases altI h' with⟨q,h⟩|h
  ·obtain⟨xs,hs,rfl⟩:=mapI h
   rw[q.2];exact zF2 ih hs
  clear h'
  rcases altI h with⟨q,h'⟩|h'
  ·obtain⟨xs,hs,rfl⟩:=mapI h'
   rw[q.2];exact zF3 ih hs
  clear h
  rcases altI h' with⟨q,h⟩|h
  ·rw[q.2];exact zDA O ih (λcl C s H fp e x hh=>ihn (z7P O) e x hh) h
  clear h'
  rcases altI h with⟨q,h'⟩|h'
  ·obtain⟨hk,h'⟩:=iteN h'
   rw[q.2,z49 hk];exact zD9 O ih h'
  clear h
  obtain⟨q,_,h⟩:=bndI h'
  rw[q.2];exact zDC O h
end Ev
namespace Ev
open PySem L2
def retC(Γ:Ctx):Tag->Addr->Prop
 | .new=>λb=>Γ.H0 b=none
 | .cl .fl=>λb=>Γ.H0 b=none\/Γ.P b
 | _=>λ_=>True
def PostS(T:Tx)(E:XK)(Γ:Ctx)(G:List Gh)(K:Ends):Out->Prop
 | .nx ρ'=>∀(Γ':Ctx)(σ':St)(H':Hp),Γ'.H0=Γ.H0->Γ'.P=Γ.P->EnvOk T Γ' G ρ' σ' H'->K.nx σ' H'
 | .rt d t=>∀v H',Same Γ.H0 H'->Rep T H' (retC Γ t) d v->K.rt v H'
 | .exc c=>∀H',Same Γ.H0 H'->E (T.cv c) none H'
def DenS(T:Tx)(W:Wd)(E:XK)(t:TS)(s:Sx):Prop:=∀(Γ:Ctx)(G:List Gh)(ρ:Env)(σ:St)(H:Hp)(o:Out)(K:Ends),evS W ρ s=some o->EnvOk T Γ G ρ σ H->PostS T E Γ G K o->t K σ H
def DenSs(T:Tx)(W:Wd)(E:XK)(t:TS)(s:List Sx):Prop:=∀(Γ:Ctx)(G:List Gh)(ρ:Env)(σ:St)(H:Hp)(o:Out)(K:Ends),evSs W ρ s=some o->EnvOk T Γ G ρ σ H->PostS T E Γ G K o->t K σ H
def SndS(T:Tx)(W:Wd)(X:Cx)(E:XK)(st:Stmt)(s:Sx):Prop:=∃t,PS X st t/\DenS T W E t s
def SndSs(T:Tx)(W:Wd)(X:Cx)(E:XK)(st:List Stmt)(s:List Sx):Prop:=∃t,PSs X st t/\DenSs T W E t s
section
variable{T:Tx}{W:Wd}{X:Cx}{E:XK}{Γ Γ':Ctx}{G:List Gh}{ρ ρ1:Env}{σ σ1:St}{H H1 H2 H':Hp}{C C':Addr->Prop}{K:Ends}{o:Out}{d x y:D}{t u:Tag}{v w vx vy:V}{b:Bool}{ds:List D}{ts:List Tag}{vs xs:List V}{c c':Cl}
theorem PostS.ctx(h0:Γ'.H0=Γ.H0)(hP:Γ'.P=Γ.P)(h:PostS T E Γ G K o):PostS T E Γ' G K o:=by
 cases o with
 | nx ρ'=>exact λΓ'' σ' H' e1 e2 q=>h Γ'' σ' H' (e1.trans h0) (e2.trans hP) q
 | rt d t=>
  refine λv H' s r=>h v H' (h0▸s) (r.imp λb z=>?_)
  cases t with
  | new=>exact(show Γ.H0 b=none by rw[<-h0];exact z)
  | cl c=>cases c with
   | fl=>exact(show Γ.H0 b=none\/Γ.P b by rw[<-h0,<-hP];exact z)
   | old=>trivial
   | dp=>trivial
  | own c=>trivial
 | exc c=>exact λH' s=>h H' (h0▸s)
theorem Den.stepS{ta:TE}{xa:Ex}(ha:Den T W E ta xa){k:D->Tag->Option Out}(hk:bindO (evE W ρ xa) k=some o)(h:EnvOk T Γ G ρ σ H)(hp:PostS T E Γ G K o){Q':VK}
  (cont:∀d t v H1,k d t=some o->Same H H1->ROk T Γ H H1 d t v->EnvOk T Γ G ρ σ H1->Q' v H1):ta σ H Q':=by
 cases e:evE W ρ xa with
 | none=>rw[e]at hk;cases hk
 | some r1=>
  rw[e]at hk
  cases r1 with
  | exc c=>
   have z:o= .exc c:=(Option.some.inj hk).symm
   subst z
   exact ha Γ G ρ σ H _ _ e h λH' s=>hp H' (h.same.trans s)
  | ok d t=>exact ha Γ G ρ σ H _ _ e h λv H' s q=>cont d t v H' hk s q (h.mono s)
theorem DenT.stepS{ta:TT}{xa:Ex}(ha:DenT T W E ta xa){k:D->Tag->Option Out}(hk:bindO (evE W ρ xa) k=some o)(kb:∀d t o,k d t=some o-> ∃b,d= .bl b)(h:EnvOk T Γ G ρ σ H)(hp:PostS T E Γ G K o){Q':Bool->Hp->Prop}
  (cont:∀b t H1,k (.bl b) t=some o->Same H H1->EnvOk T Γ G ρ σ H1->Q' b H1):ta σ H Q':=by
 cases e:evE W ρ xa with
 | none=>rw[e]at hk;cases hk
 | some r1=>
  rw[e]at hk
  cases r1 with
  | exc c=>
   have z:o= .exc c:=(Option.some.inj hk).symm
   subst z
   exact ha Γ G ρ σ H _ _ e trivial h λH' s=>hp H' (h.same.trans s)
  | ok d t=>
   obtain⟨b,rfl⟩:=kb _ _ _ hk
   exact ha Γ G ρ σ H _ _ e ⟨b,rfl⟩ h λb' H' eb s=>by cases eb;exact cont b t H' hk s (h.mono s)
theorem EnvOk.ownv{i:Nat}{a:Addr}(h:EnvOk T Γ G ρ σ H)(s:Same H H1)(ha:H a=none)(ha1:H1 a=some (.lst xs))(hl:lfs ds=true)(rs:Reps T H1 C ds xs):
  EnvOk T {Γ with O:=λb=>Γ.O b\/b=a} G (ρ.set i (some ⟨.lst ds,true,.fl⟩)) (σ.set i (some (.ref a))) H1:=by
 have up:∀{c:Cl}{b:Addr},Cond Γ c b/\H b≠none->Cond {Γ with O:=λb=>Γ.O b\/b=a} c b:=λz=>⟨λq=>q.elim z.1.1 λe=>z.2 (by rw[e];exact ha),z.1.2⟩
 have rup:∀{c:Cl}{d:D}{v:V},Rep T H (Cond Γ c) d v->Rep T H1 (Cond {Γ with O:=λb=>Γ.O b\/b=a} c) d v:=λq=>((Rep.dom _ _ q).imp λb z=>up z).same s
 have rsup:∀{c:Cl}{ds:List D}{vs:List V},Reps T H (Cond Γ c) ds vs->Reps T H1 (Cond {Γ with O:=λb=>Γ.O b\/b=a} c) ds vs:=λq=>((Reps.dom _ _ q).imp λb z=>up z).same s
 have ent:∀(j:Nat)(e:Ent),ρ[j]? = some (some e)-> ∃v,σ[j]? = some (some v)/\EntOk T {Γ with O:=λb=>Γ.O b\/b=a} H1 e v:=λj e q=>by
  obtain⟨v,h1,h2⟩:=h.ent j e q
  refine⟨v,h1,λz y=>?_,λz y=>(h2.2.1 z y).same s,λz=>rup (h2.2.2 z)⟩
  obtain⟨a',xs',ds',k1,k2,k3,k3',k4,k5⟩:=h2.1 z y
  exact⟨a',xs',ds',k1,k2,.inl k3,k3',s _ _ k4,rsup k5⟩
 refine⟨h.same.trans s,λb z=>?_,λb z=>.inl (h.deep b z),λj e q=>?_,λj k e e' ne q q' o o' n n'=>?_,λg z=>?_,by simp[h.len]⟩
 rotate_left 3
 ·have q:=h.gh g z
  cases g with
  | val c d v=>exact rup q
  | «at» a' xs'=>exact⟨s _ _ q.1,λz=>z.elim q.2 λe=>by subst e;have q1:=q.1;rw[ha]at q1;cases q1⟩
 ·rcases z with z|rfl
  ·exact⟨(h.own b z).1,z4D s (h.own b z).2⟩
  ·exact⟨h.same.free ha,by rw[ha1];exact λz=>nomatch z⟩
 ·by_cases hj:i=j
  ·subst hj
   have hi:i<ρ.length:=by have:=(List.getElem?_eq_some_iff.mp q).1;simpa using this
   rw[List.getElem?_set_self hi]at q
   cases q
   exact⟨.ref a,by rw[List.getElem?_set_self (by rw[h.len];exact hi)],⟨λ_ _=>⟨a,xs,ds,rfl,rfl,.inr rfl,λz=>(h.own _ (h.deep _ z)).2 ha,ha1,Reps.free ds xs hl rs⟩,λ_ z=>(by cases z),λz=>(by cases z)⟩⟩
  ·rw[List.getElem?_set_ne hj]at q ⊢
   exact ent j e q
 ·have key:∀(j:Nat)(e:Ent),i≠j->ρ[j]? = some (some e)->e.own=true->e.c≠ .dp->σ[j]? ≠ some (some (.ref a)):=λj e nj q o n z=>by
   obtain⟨v,h1,h2⟩:=h.ent j e q
   obtain⟨a',xs',ds',k1,k2,k3,_,k4,k5⟩:=h2.1 o n
   rw[h1,k2]at z
   cases z
   rw[ha]at k4;cases k4
  by_cases hj:i=j
  ·subst hj
   have hk:i≠k:=ne
   rw[List.getElem?_set_ne hk]at q' ⊢
   have hi:i<ρ.length:=by have:=(List.getElem?_eq_some_iff.mp q).1;simpa using this
   rw[List.getElem?_set_self (by rw[h.len];exact hi)]
   exact λz=>key k e' hk q' o' n' z.symm
  ·rw[List.getElem?_set_ne hj]at q ⊢
   by_cases hk:i=k
   ·subst hk
    have hi:i<ρ.length:=by have:=(List.getElem?_eq_some_iff.mp q').1;simpa using this
    rw[List.getElem?_set_self (by rw[h.len];exact hi)]
    exact key j e hj q o n
   ·rw[List.getElem?_set_ne hk]at q' ⊢
    exact h.inj j k e e' ne q q' o o' n n'
theorem EnvOk.wr{i:Nat}{es:List D}{ys:List V}{a:Addr}(h:EnvOk T Γ G ρ σ H)(hi:ρ[i]? = some (some ⟨.lst ds,true,c⟩))(hv:σ[i]? = some (some (.ref a)))(ha:H a=some (.lst xs))(hO:Γ.O a)(hS:¬Γ.S a)(hc:c≠ .dp)(hc':c'≠ .dp)(rs:Reps T H (Cond Γ c') es ys):
  EnvOk T Γ G (ρ.set i (some ⟨.lst es,true,c'⟩)) σ (L2.upd H a (.lst ys)):=by
 have ne:∀{c:Cl}(b:Addr),Cond Γ c b->b≠a:=λb z e=>z.1 (e▸hO)
 have hil:i<ρ.length:=(List.getElem?_eq_some_iff.mp hi).1
 refine⟨λb o q=>?_,λb z=>⟨(h.own b z).1,?_⟩,h.deep,λj e q=>?_,λj k e e' nj q q' o o' n n'=>?_,λg z=>(by have q:=h.gh g z;cases g with|val c d v=>exact q.upd ha λb=>ne b| «at» a' xs'=>exact⟨by rw[z0f (show a'≠a from λe=>q.2 (by rw[e];exact hO))];exact q.1,q.2⟩),by simp[h.len]⟩
 ·have nb:b≠a:=λe=>by subst e;rw[(h.own _ hO).1]at q;cases q
  rw[z0f nb];exact h.same b o q
 ·by_cases e:b=a
  ·subst e;rw[z0m];exact λz=>nomatch z
  ·rw[z0f e];exact(h.own b z).2
 ·by_cases hj:i=j
  ·subst hj
   rw[List.getElem?_set_self hil]at q
   cases q
   exact⟨.ref a,hv,⟨λ_ _=>⟨a,ys,es,rfl,rfl,hO,hS,z0m,rs.upd ha λb=>ne b⟩,λ_ z=>absurd z hc',λz=>(by cases z)⟩⟩
  ·rw[List.getElem?_set_ne hj]at q
   obtain⟨v',h1,h2⟩:=h.ent j e q
   refine⟨v',h1,λz y=>?_,λz y=>(h2.2.1 z y).upd ha λb zb e=>hS (e▸zb),λz=>(h2.2.2 z).upd ha λb=>ne b⟩
   obtain⟨a',xs',ds',m1,m2,m3,m3',m4,m5⟩:=h2.1 z y
   have na:a'≠a:=λe'=>by
    subst e'
    exact h.inj i j _ e hj hi q rfl z hc y (by rw[hv,h1,m2])
   exact⟨a',xs',ds',m1,m2,m3,m3',by rw[z0f na];exact m4,m5.upd ha λb=>ne b⟩
 ·have ent':∀(m:Nat)(e:Ent),(ρ.set i (some ⟨.lst es,true,c'⟩))[m]? = some (some e)->e.own=true->e.c≠ .dp-> ∃e0:Ent,ρ[m]? = some (some e0)/\e0.own=true/\e0.c≠ .dp:=λm e q o n=>by
   by_cases hm:i=m
   ·subst hm;exact⟨_,hi,rfl,hc⟩
   ·rw[List.getElem?_set_ne hm]at q;exact⟨e,q,o,n⟩
  obtain⟨e1,q1,o1,n1⟩:=ent' j e q o n
  obtain⟨e2,q2,o2,n2⟩:=ent' k e' q' o' n'
  exact h.inj j k e1 e2 nj q1 q2 o1 o2 n1 n2
theorem EnvOk.ownAt{i:Nat}(h:EnvOk T Γ G ρ σ H)(hi:ρ[i]? = some (some ⟨.lst ds,true,c⟩)):∃a xs,σ[i]? = some (some (.ref a))/\Γ.O a/\H a=some (.lst xs)/\Reps T H (TCc Γ c) ds xs/\(c≠ .dp-> ¬Γ.S a):=by
 obtain⟨v,h1,h2⟩:=h.ent i _ hi
 by_cases hc:c= .dp
 ·obtain⟨a,xs,k2,k3,k4,k5⟩:=(h2.2.1 rfl hc).1 _ rfl
  exact⟨a,xs,by rw[h1,k2],h.deep _ k3,k4,k5.imp λb _=>.inl hc,λz=>absurd hc z⟩
 ·obtain⟨a,xs,ds',k1,k2,k3,k3',k4,k5⟩:=h2.1 rfl hc
  cases k1
  exact⟨a,xs,by rw[h1,k2],k3,k4,k5.imp λb z=>.inr z,λ_=>k3'⟩
theorem z5m(h:EnvOk T Γ G ρ σ H){t:Tag}(ht:tagC c t=some c'):(∀b,TCc Γ c b->Cond Γ c' b)/\(∀b,TC Γ H t b->Cond Γ c' b)/\(∀k,t≠ .own k)/\c≠ .dp/\c'≠ .dp:=by
 have hc:c≠ .dp:=λz=>by subst z;cases ht
 have ht':tagC0 c t=some c':=by cases c with|dp=>cases ht|_=>exact ht
 cases t with
 | new=>cases ht';exact⟨λb z=>z.cond hc,λb z=>h.fresh z,(λk z=>nomatch z),hc,hc⟩
 | cl e=>
  have he:e≠ .dp:=λz=>by subst z;cases ht'
  have hj:c'=c.join e:=by cases e with|dp=>exact absurd rfl he|_=>exact(Option.some.inj ht').symm
  have hc':c'≠ .dp:=by subst hj;cases c<;>cases e<;>first|exact absurd rfl hc|exact absurd rfl he|exact(λz=>nomatch z)
  subst hj
  exact⟨λb z=>z.join_l.cond hc',λb z=>(TCc.join_r (show TCc Γ e b from z)).cond hc',(λk z=>nomatch z),hc,hc'⟩
 | own e=>cases ht'
end
end Ev
namespace Ev
open PySem L2
structure SOk(T:Tx)(W:Wd)(cm:Bool)(k:Nat)(X:Cx)(N:List Str)(sc:List (Str×NameKind))(E:XK):Prop where
 x:XOk T W cm k X N sc E
 nd:N.Nodup
 loc:∀x,isLoc sc x=true->Loc X.env.scope x/\(X.fn x=true\/X.env.scope.names.lookup x=some .local)
 locs:∀x,kindIn sc x=some .local->X.env.scope.names.lookup x=some .local
 kindF:X.env.scope.kind= .function
 raises:Raises X E
 xcls:∀c,W.exn c=true-> ∃C,T.cv c= .ref C/\XCls X.K X.mg c C
def tSs(T:Tx)(W:Wd)(E:XK)(s:List Sx):TS:=λK σ H=>∃(Γ:Ctx)(G:List Gh)(ρ:Env)(o:Out),evSs W ρ s=some o/\EnvOk T Γ G ρ σ H/\PostS T E Γ G K o
section
variable{T:Tx}{W:Wd}{cm:Bool}{k:Nat}{X:Cx}{N:List Str}{sc:List (Str×NameKind)}{E:XK}{Γ Γ':Ctx}{G:List Gh}{ρ ρ1:Env}{σ σ1:St}{H H1 H2 H':Hp}{C C':Addr->Prop}{K:Ends}{o:Out}{d:D}{t u:Tag}{v w vx vy:V}{ds:List D}{ts:List Tag}{vs xs:List V}{c c':Cl}{x y z:Ex}{e a b:Expr}{go:Go}{mu:List Str}
theorem SndSs.pss{st:List Stmt}{s:List Sx}(h:SndSs T W X E st s):PSs X st (tSs T W E s):=by
 obtain⟨t,p,q⟩:=h
 exact λpins s σ H K I⟨Γ,G,ρ,o,h1,h2,h3⟩=>p pins s σ H K I (q Γ G ρ σ H o K h1 h2 h3)
theorem z6t:SndSs T W X E [] []:=⟨_,zCD,λΓ G ρ σ H o K he h hp=>by cases he;exact hp Γ σ H rfl rfl h⟩
theorem z4H{st:Stmt}{sts:List Stmt}{s:Sx}{ss:List Sx}(h1:SndS T W X E st s)(h2:SndSs T W X E sts ss):SndSs T W X E (st::sts) (s::ss):=by
 obtain⟨t,p,q⟩:=h1
 obtain⟨u,p2,q2⟩:=h2
 refine⟨_,z4T p p2,λΓ G ρ σ H o K he h hp=>?_⟩
 conv at he=>lhs;whnf
 show t {K with nx:=u K} σ H
 cases e:evS W ρ s with
 | none=>rw[e]at he;cases he
 | some o1=>
  rw[e]at he
  cases o1 with
  | nx ρ1=>exact q Γ G ρ σ H _ _ e h λΓ' σ' H' e1 e2 h'=>q2 Γ' G ρ1 σ' H' o K he h' (hp.ctx e1 e2)
  | rt d t=>cases he;exact q Γ G ρ σ H _ _ e h hp
  | exc c=>cases he;exact q Γ G ρ σ H _ _ e h hp
theorem zAb(hc:isComp e=false)(he:Gd T W X E e x){pos:Pos}:SndS T W X E (.Expr e pos) (.expr x):=by
 obtain⟨te,pe,de⟩:=he.snd
 have hs:swapsWith e none pos.line X.env=pure false:=by cases e<;>first|rfl|cases hc
 refine⟨_,z3H pe hs,λΓ G ρ σ H o K he h hp=>?_⟩
 conv at he=>lhs;whnf
 refine de.stepS he h hp λd t v H1 hk s ok h1=>?_
 cases hk
 exact hp Γ σ H1 rfl rfl h1
theorem zF7{S:Addr->Prop}(h:EnvOk T Γ G ρ σ H)(ok:ROk T {Γ with O:=λ_=>False,S:=S} H H1 d t v):Rep T H1 (retC Γ (Ev.rt d t)) d v:=by
 have ok':=ok.rt
 cases ht:Ev.rt d t with
 | new=>rw[ht]at ok';exact Rep.imp (λb z=>h.same.free z) ok'
 | cl c=>
  rw[ht]at ok'
  cases c with
  | fl=>exact Rep.imp (λb z=>(z.resolve_left (λe=>nomatch e)).2 rfl) ok'
  | old=>exact ok.any
  | dp=>exact ok.any
 | own c=>exact ok.any
theorem zDD(he:Gd T W X E e x){pos:Pos}:SndS T W X E (.Return (some e) pos) (.ret x):=by
 obtain⟨te,pe,de⟩:=he.snd
 refine⟨_,zEF pe,λΓ G ρ σ H o K he h hp=>?_⟩
 conv at he=>lhs;whnf
 have h0:=h.disownAll
 have hp0:PostS T E {Γ with O:=λ_=>False,S:=λ_=>False} G K o:=hp.ctx rfl rfl
 refine de.stepS he h0 hp0 λd t v H1 hk s ok h1=>?_
 cases hk
 exact hp v H1 (h.same.trans s) (zF7 h ok)
theorem zBB{pos:Pos}:SndS T W X E (.Pass pos) .pass:=⟨_,zCF,λΓ G ρ σ H o K he h hp=>by cases he;exact hp Γ σ H rfl rfl h⟩
theorem zDE{c:Expr}{bt be:List Stmt}{st se:List Sx}{pos:Pos}(hc:Gd T W X E c x)(ht:SndSs T W X E bt st)(he:SndSs T W X E be se):SndS T W X E (.If c bt be pos) (.ifs x st se):=by
 obtain⟨tc,pc,dc⟩:=hc.tst
 obtain⟨tt,pt,dt⟩:=ht
 obtain⟨te,pe,de⟩:=he
 refine⟨_,zGh pc pt pe,λΓ G ρ σ H o K he h hp=>?_⟩
 conv at he=>lhs;whnf
 refine dc.stepS he (λd t o z=>by split at z<;>first|exact⟨_,rfl⟩|cases z) h hp λb t H1 hk s h1=>?_
 cases b with
 | true=>rw[if_pos rfl];exact dt Γ G ρ σ H1 o K hk h1 hp
 | false=>rw[if_neg Bool.false_ne_true];exact de Γ G ρ σ H1 o K hk h1 hp
theorem zAc(O:SOk T W true k X N sc E){x':Str}{p cpos pos:Pos}(hg:isGl sc x'=true)(he:Gd T W X E e x):SndS T W X E (.Raise (some (.Call (.Name x' p) [e] [] cpos)) none pos) (.raise x' x):=by
 cases hx:W.exn x' with
 | false=>exact⟨λ_ _ _=>False,λ_ _ _ _ _ _ q=>q.elim,λΓ G ρ σ H o K he h hp=>by replace he:(if W.exn x'=true then bindO (evE W ρ x) _ else none)=some o:=he;rw[hx,if_neg Bool.false_ne_true]at he;cases he⟩
 | true=>
  obtain⟨CA,hcv,xc⟩:=O.xcls x' hx
  obtain⟨te,pe,de⟩:=he.snd
  have hst:=he.star
  refine⟨_,zBm O.raises (O.x.calm rfl) xc (O.x.gl _ hg) (z0G pe z2f (hst _ _)) (z6q hg).1 (hst _ _) rfl,λΓ G ρ σ H o K he h hp=>?_⟩
  replace he:(if W.exn x'=true then bindO (evE W ρ x) _ else none)=some o:=he
  rw[if_pos hx]at he
  refine de.stepS he h hp λd t v H1 hk s ok h1=>?_
  cases hk
  exact⟨by show 1<=sizeLine;decide,by have:=hp H1 (h.same.trans s);rw[hcv]at this;exact this⟩
theorem zDF{te:TE}{i:Nat}{m:Bool}(de:Den T W E te x):DenS T W E (tAsg te (gName i)) (.asg i m x):=λΓ G ρ σ H o K he h hp=>by
 conv at he=>lhs;whnf
 refine de.stepS he h hp λd t v H1 hk s ok h1=>?_
 show K.nx (σ.set i (some v)) H1
 cases t with
 | new=>
  have plain:∀{d:D},ROk T Γ H H1 d .new v->EnvOk T Γ G (ρ.set i (some ⟨d,false,.fl⟩)) (σ.set i (some v)) H1:=λok=>h1.setv (Rep.imp (λb z=>h.fresh z) ok)
  cases d with
  | lst ds=>
   cases hk
   cases hm:(m&&lfs ds)with
   | false=>rw[hm]at hp;exact hp Γ _ H1 rfl rfl (plain ok)
   | true=>
    rw[hm]at hp
    rw[Bool.and_eq_true]at hm
    obtain⟨p,xs,rfl,hp0,hp1,rs⟩:=ok
    exact hp {Γ with O:=λb=>Γ.O b\/b=p} _ H1 rfl rfl (h.ownv s hp0 hp1 hm.2 rs)
  | _=>cases hk;exact hp Γ _ H1 rfl rfl (plain ok)
 | cl c=>
  have hc:c≠ .dp:=λz=>by subst z;cases hk
  have ho:o= .nx (ρ.set i (some ⟨d,false,c⟩)):=by cases c with|dp=>cases hk|_=>exact(Option.some.inj hk).symm
  subst ho
  exact hp Γ _ H1 rfl rfl (h1.setv (Rep.imp (λb z=>z.cond hc) ok))
 | own c=>
  have hc:c≠ .dp:=λz=>by subst z;cases hk
  have ho:o= .nx ((disownAll ρ).set i (some ⟨d,false,c⟩)):=by cases c with|dp=>cases hk|_=>exact(Option.some.inj hk).symm
  subst ho
  obtain⟨p,xs,ds,rfl,rfl,hO,hp1,rs⟩:=ok
  refine hp {Γ with O:=λ_=>False,S:=λ_=>False} _ H1 rfl rfl (h1.disownAll.setv ?_)
  exact⟨p,xs,rfl,⟨id,λ_=>.inl (h.own p hO).1⟩,hp1,rs.imp λb z=>⟨id,(z.cond hc).2⟩⟩
theorem z4I{elt:Expr}{gens:List Comprehension}{scope:Scope}{cpos p:Pos}{x':Str}{line:Nat}{env:PySem.Env}:
  swapsWith (.ListComp elt gens scope cpos) (some (.Name x' p)) line env=pure (env.blockKind== .function&&env.kindOf x'==some .local&&p.line==(Expr.ListComp elt gens scope cpos).pos.line&& !(scope.names.any λ(n,k)=>n==x'&&(k== .local||k== .cell))):=rfl
theorem zBC(O:SOk T W cm k X N sc E){x':Str}{i:Nat}{sx:Sx}{p pos:Pos}(hden:∀te:TE,Den T W E te x->DenS T W E (tAsg te (gName i)) sx)(hl:isLoc sc x'=true)(hi:slot N x'=some i)(he:trE cm 30 N sc e=some x):SndS T W X E (.Assign [.Name x' p] e pos) sx:=by
 have hN:X.N.Nodup:=by rw[O.x.hN];exact O.nd
 have hix:X.N[i]? = some x':=by rw[O.x.hN];exact z01 hi
 have plain:swapsWith e (some (.Name x' p)) pos.line X.env=pure false->SndS T W X E (.Assign [.Name x' p] e pos) sx:=λhs=>by
  obtain⟨te,pe,de⟩:=(gd_E 30 O.x e x he).snd
  exact⟨_,zEI hN hix (O.loc _ hl).1 pe hs (O.loc _ hl).2,hden _ de⟩
 cases e with
 | ListComp elt gens scope cpos=>
  cases hb:(X.env.blockKind== .function&&X.env.kindOf x'==some .local&&p.line==(Expr.ListComp elt gens scope cpos).pos.line&& !(scope.names.any λ(n,k)=>n==x'&&(k== .local||k== .cell)))with
  | false=>exact plain (by rw[z4I,hb])
  | true=>
   have he':trComp cm (trE cm 29 N sc) (trE cm 29) N sc elt scope gens=some x:=(zFf cm 29 N sc elt gens scope cpos).symm.trans he
   obtain⟨t,pt,dt,ps⟩:=z4G (pos:=cpos) O.x (λe x h=>gd_E 29 O.x e x h) (λcl C s H fp e x h=>gd_E 29 (z7P O.x) e x h) he'
   have hloc:X.env.scope.names.lookup x'=some .local:=by
    simp only[Bool.and_eq_true,beq_iff_eq]at hb
    exact hb.1.1.2
   exact⟨_,ps hN hix hloc (by rw[z4I,hb]),hden _ dt⟩
 | SetComp elt gens scope cpos=>exact nomatch (zFh cm 29 N sc elt gens scope cpos).symm.trans he
 | DictComp key elt gens scope cpos=>exact nomatch (zFi cm 29 N sc key elt gens scope cpos).symm.trans he
 | _=>exact plain rfl
theorem zDG(O:SOk T W cm k X N sc E){x':Str}{i:Nat}{m:Bool}{p pos:Pos}(hl:isLoc sc x'=true)(hi:slot N x'=some i)(he:trE cm 30 N sc e=some x):SndS T W X E (.Assign [.Name x' p] e pos) (.asg i m x):=zBC O (λ_=>zDF) hl hi he
end
end Ev
namespace Ev
open PySem L2
section
variable{T:Tx}{W:Wd}{cm:Bool}{k:Nat}{X:Cx}{N:List Str}{sc:List (Str×NameKind)}{E:XK}{Γ Γ':Ctx}{G:List Gh}{ρ ρ1:Env}{σ σ1:St}{H H1 H2 H':Hp}{C C':Addr->Prop}{K:Ends}{o:Out}{d:D}{t u:Tag}{v w vx vy:V}{ds:List D}{ts:List Tag}{vs xs:List V}{c c':Cl}{x y z:Ex}{e a b:Expr}{go:Go}{mu:List Str}
def isTup:Expr->Bool
 | .Tuple _ _ _=>true
 | _=>false
theorem zDH(O:SOk T W true k X N sc E){tt:List Expr}{m:Nat}{p pos:Pos}{i j:Nat}(ht:trTg N sc (.Tuple tt m p)=some (.tup [i,j]))(hn:isTup e=false)(he:Gd T W X E e x):SndS T W X E (.Assign [.Tuple tt m p] e pos) (.unp [i,j] x):=by
 obtain⟨te,pe,de⟩:=he.snd
 have pg:=zBA (X:=X) (T:=T) O.x.hK (O.x.calm rfl) O.x.hN O.nd O.loc ht
 have hs:swapsWithSole [.Tuple tt m p] e pos.line X.env=pure false:=by cases e<;>rfl
 have hw:swappedStores [.Tuple tt m p] e X.env=pure none:=by cases e<;>first|rfl|cases hn
 refine⟨_,zCq pe pg hs hw rfl,λΓ G ρ σ H o K he h hp=>?_⟩
 conv at he=>lhs;whnf
 refine de.stepS he h hp λd t v H1 hk s ok h1=>?_
 split at hk
 ·rename_i ds
  split at hk
  ·cases hk
  ·cases hk
  ·rename_i no no'
   split at hk
   ·rename_i ρ1 hset
    cases hk
    have hrep:Rep T H1 (TCc Γ (tagCl t)) (.tup ds) v:=(ok.rep λc z=>no c z).imp λb z=>TC.weak h z
    have hb0:bindT ρ t (.tup [i,j]) (.tup ds)=bindT0 ρ t (.tup [i,j]) (.tup ds):=by
     cases t with
     | new=>rfl
     | cl c=>cases c with
      | dp=>exact absurd rfl no'
      | _=>rfl
     | own c=>exact absurd rfl (no c)
    have hb:bindT ρ t (.tup [i,j]) (.tup ds)=some ρ1:=by
     rw[hb0]
     rcases ds with _|⟨a,_|⟨b,_|⟨c,r⟩⟩⟩
     ·cases hset
     ·cases hset
     ·exact hset
     ·cases hset
    exact z7M (T:=T) rfl h1 hrep hb λσ1 h2 _ _=>hp Γ σ1 H1 rfl rfl h2
   ·cases hk
 ·cases hk
theorem blockF(O:SOk T W cm k X N sc E):(X.env.blockKind != .function)=false:=by
 unfold Env.blockKind
 rw[O.kindF]
 rfl
theorem z86(env:PySem.Env){es:List Expr}(h:∀e∈es,NoStar e):(es.any λ| .Starred ..=>true|_=>false)=false:=by
 induction es with
 | nil=>rfl
 | cons e r ih=>
  rw[List.any_cons,ih λe he=>h e (List.mem_cons_of_mem _ he),Bool.or_false]
  have q:=h e List.mem_cons_self
  cases e<;>first|rfl|(have:=q [] env;simp only[starEach]at this;cases this)
theorem z7a{x1 x2:Str}{p1 p2 pt pe:Pos}{m n:Nat}{env:PySem.Env}(hb:(env.blockKind != .function)=false)(k1:env.kindOf x1=some .local)(k2:env.kindOf x2=some .local)(hl:p2.line=p1.line)(hx:x2≠x1)
  (hs:([a,b].any λ| .Starred ..=>true|_=>false)=false) (hf:[a,b].all (foldedForSure 8)=false) (hc:[a,b].all (constantsAlone 8)=false):
  swappedStores [.Tuple [.Name x1 p1,.Name x2 p2] m pt] (.Tuple [a,b] n pe) env=pure (some [x1,x2]):=by
 unfold swappedStores
 have hd:[x1,x2].eraseDups.length=2:=by
  have h1:(x1==x2)=false:=by simpa using λh=>hx h.symm
  have h2:(x2==x1)=false:=by simpa using hx
  simp[List.eraseDups_cons,h1,h2]
 have e1:(Expr.Name x1 p1).pos=p1:=rfl
 simp[k1,k2,hb,hf,hc,hl,hd,e1]
 intro z
 exfalso
 simp only[List.any_cons,List.any_nil,Bool.or_false,Bool.or_eq_false_iff]at hs
 rcases z with z|z
 ·exact Bool.noConfusion (hs.1.symm.trans z)
 ·exact Bool.noConfusion (hs.2.symm.trans z)
theorem z6u:∀{ts:List Expr}{nl:List (Str×Nat)},namesOf ts=some nl-> ∃ps:List Pos,ts=(nl.zip ps).map (λq=>Expr.Name q.1.1 q.2)/\ps.length=nl.length/\ ∀q∈nl.zip ps,q.2.line=q.1.2
 | [],nl,h=>by cases h;exact⟨[],rfl,rfl,λq hq=>by cases hq⟩
 | e::ts,nl,h=>by
  obtain⟨⟨⟨x,p⟩,rfl⟩,_,h'⟩:=bndI h
  obtain⟨l,hl,rfl⟩:=mapI h'
  obtain⟨ps,e1,e2,e3⟩:=z6u hl
  refine⟨p::ps,by rw[e1];rfl,by simp[e2],λr hr=>?_⟩
  rw[List.zip_cons_cons]at hr
  rcases List.mem_cons.mp hr with rfl|hr
  ·rfl
  ·exact e3 r hr
theorem z7b{α β:Type}{f:α->Option β}{a:α}{l:List α}{r:List β}(h:trs f (a::l)=some r):∃u s,f a=some u/\trs f l=some s/\r=u::s:=by
 unfold trs at h
 split at h
 ·rename_i u s h1 h2;cases h;exact⟨u,s,h1,h2,rfl⟩
 ·cases h
theorem z7c{α β:Type}{f:α->Option β}:∀{l:List α}{r:List β},trs f l=some r->r.length=l.length
 | [],r,h=>by cases h;rfl
 | a::l,r,h=>by
  obtain⟨u,s,_,h2,rfl⟩:=z7b h
  rw[List.length_cons,List.length_cons,z7c h2]
theorem z4c:∀{is:List Nat}{ds:List D}{ts:List Tag}{ρ ρ1:Env},setEach ρ is ds ts=some ρ1->ds.length=is.length
 | [],[],ts,ρ,ρ1,h=>rfl
 | [],d::ds,ts,ρ,ρ1,h=>by cases ts<;>cases h
 | i::is,[],ts,ρ,ρ1,h=>by cases ts<;>cases h
 | i::is,d::ds,ts,ρ,ρ1,h=>by
  cases ts with
  | nil=>cases h
  | cons t ts=>
   simp only[setEach]at h
   split at h
   ·rw[List.length_cons,List.length_cons,z4c h]
   ·cases h
theorem z4J:∀{is:List Nat}{ds:List D}{ts:List Tag}{vs:List V}{ρ ρ1:Env}{σ:St},EnvOk T Γ G ρ σ H1->EnvOk T Γ G ρ σ H1->(∀b,H b=none-> ∀c,Cond Γ c b)->RsOk T Γ H H1 ds ts vs->setEach ρ is ds ts=some ρ1->EnvOk T Γ G ρ1 ((is.zip vs).foldl (λσ p=>σ.set p.1 (some p.2)) σ) H1
 | [],[],[],_,ρ,ρ1,σ,h,_,_,⟨_,e⟩,q=>by subst e;cases q;exact h
 | i::is,d::ds,t::ts,_,ρ,ρ1,σ,h,h',fr,⟨t',ts',v,vs',e1,e2,o,r⟩,q=>by
  cases e1;subst e2
  simp only[setEach]at q
  split at q
  ·rename_i t'' hk
   obtain⟨rep,no⟩:=z9R hk o
   rw[z33]at q
   have h2:EnvOk T Γ G (ρ.set i (some ⟨d,false,tagCl t''⟩)) (σ.set i (some v)) H1:=h.setv (rep.imp λb z=>by
    cases t'' with
    | new=>exact fr b z _
    | cl c=>exact TCc.cond z (z9S hk)
    | own c=>exact TCc.cond z (z9S hk))
   rw[List.zip_cons_cons,List.foldl_cons]
   exact z4J h2 h2 fr r q
  ·cases q
 | [],d::ds,_,_,_,_,_,_,_,_,_,q=>by simp[setEach]at q
 | i::is,[],_,_,_,_,_,_,_,_,_,q=>by simp[setEach]at q
 | i::is,d::ds,[],_,_,_,_,_,_,_,_,q=>by simp[setEach]at q
 | [],[],t::ts,_,_,_,_,_,_,_,_,q=>by simp[setEach]at q
theorem zBD{x1 x2:Str}{i j:Nat}(h1:slot N x1=some i)(h2:slot N x2=some j)(hx:x2≠x1):i≠j:=λe=>by
 subst e
 have q1:=z01 h1
 have q2:=z01 h2
 rw[q1]at q2
 exact hx (Option.some.inj q2).symm
theorem DenA.stepS{ta:TA}{xs:List Ex}(ha:DenA T W E ta xs){k:List D->List Tag->Option Out}(hk:(match evEs W ρ xs with|some (.ok ds ts)=>k ds ts|some (.exc c)=>some (.exc c)|none=>none)=some o)(h:EnvOk T Γ G ρ σ H)(hp:PostS T E Γ G K o){Q':List V->Hp->Prop}
  (cont:∀ds ts vs H1,k ds ts=some o->Same H H1->RsOk T Γ H H1 ds ts vs->EnvOk T Γ G ρ σ H1->Q' vs H1):ta σ H Q':=by
 cases e:evEs W ρ xs with
 | none=>rw[e]at hk;cases hk
 | some r1=>
  rw[e]at hk
  cases r1 with
  | exc c=>
   have z:o= .exc c:=(Option.some.inj hk).symm
   subst z
   exact ha Γ G ρ σ H _ _ e h λH' s=>hp H' (h.same.trans s)
  | ok ds ts=>exact ha Γ G ρ σ H _ _ e h λv H' s q=>cont ds ts v H' hk s q (h.mono s)
theorem zDI(O:SOk T W true k X N sc E)(ih:∀e x,go e=some x->Gd T W X E e x){tt es:List Expr}{nl:List (Str×Nat)}{m n:Nat}{p q pos:Pos}{s:Sx}(hn:namesOf tt=some nl)(h:trPar go N sc nl es=some s):SndS T W X E (.Assign [.Tuple tt m p] (.Tuple es n q) pos) s:=by
 have hN:X.N.Nodup:=by rw[O.x.hN];exact O.nd
 have at_:∀{x:Str}{i:Nat},slot N x=some i->X.N[i]? = some x:=λhi=>by rw[O.x.hN];exact z01 hi
 obtain⟨ps,e1,e2,e3⟩:=z6u hn
 obtain⟨hok,h1'⟩:=iteN h
 obtain⟨is,his,h2'⟩:=bndI h1'
 obtain⟨us,hus,h3'⟩:=bndI h2'
 obtain⟨hlen,h4'⟩:=iteN h3'
 cases h4'
 clear h h1' h2' h3' hn
 unfold okPar at hok
 simp only[Bool.and_eq_true,Bool.not_eq_true',List.all_eq_true,decide_eq_true_eq,beq_iff_eq]at hok
 obtain⟨hall,hnd,hff,hcc⟩:=hok
 obtain⟨⟨ta,pa,da⟩,hst⟩:=z2S ih hus
 have ln:=z7c his
 have le:=z7c hus
 have hfa:es.all (foldedForSure 8)=false:=Bool.eq_false_iff.mpr λz=>by rw[List.all_eq_true]at z;exact absurd hff (by simpa using z)
 have hca:es.all (constantsAlone 8)=false:=Bool.eq_false_iff.mpr λz=>by rw[List.all_eq_true]at z;exact absurd hcc (by simpa using z)
 have nst:=z86 X.env hst
 obtain⟨k1,k2⟩:=hlen
 ·obtain⟨⟨x,lx⟩,⟨y,ly⟩,rfl⟩:=len2 (ln.symm.trans k1)
  obtain⟨a,b,rfl⟩:=len2 (le.symm.trans k2)
  obtain⟨p1,p2,rfl⟩:=len2 (show ps.length=2 from e2)
  obtain⟨i,s1,h1,hs1,rfl⟩:=z7b his
  obtain⟨j,s2,h2,hs2,rfl⟩:=z7b hs1
  cases hs2
  simp only[List.zip_cons_cons,List.zip_nil_left,List.zip_nil_right,List.map_cons,List.map_nil]at e1
  subst e1
  have l1:p1.line=lx:=e3 ((x,lx),p1) (by simp)
  have l2:p2.line=ly:=e3 ((y,ly),p2) (by simp)
  have g1:=hall (x,lx) (by simp)
  have g2:=hall (y,ly) (by simp)
  have hxy:y≠x:=λe=>by subst e;simp[nodupB]at hnd
  refine⟨_,zEJ (O.x.calm rfl) hN (at_ h1) (at_ h2) (zBD h1 h2 hxy) (O.locs _ g1.1) (O.locs _ g2.1) pa (z7a (blockF O) (O.locs _ g1.1) (O.locs _ g2.1) (by rw[l1,l2];have:=g2.2;simpa using this) hxy nst hfa hca) rfl,λΓ G ρ σ H o K he h hp=>?_⟩
  conv at he=>lhs;whnf
  refine da.stepS (k:=λds ts=>match setEach ρ [i,j] ds ts with|some ρ1=>some (.nx ρ1)|none=>none) he h hp λds ts vs H1 hk s ok hh=>?_
  split at hk
  ·rename_i ρ1 hset
   cases hk
   have hE:=z4J (H:=H) hh hh (λb z c=>h.fresh z) ok hset
   obtain⟨d1,d2,rfl⟩:=len2 (z4c hset)
   obtain⟨t1,v1,t2,v2,rfl,rfl,o1,o2⟩:=rs2 ok
   exact⟨v1,v2,rfl,hp Γ _ H1 rfl rfl hE⟩
  ·cases hk
end
end Ev
namespace Ev
open PySem L2
section
variable{T:Tx}{W:Wd}{cm:Bool}{k:Nat}{X:Cx}{N:List Str}{sc:List (Str×NameKind)}{E:XK}{Γ Γ':Ctx}{G:List Gh}{ρ ρ1:Env}{σ σ1:St}{H H1 H2 H':Hp}{C C':Addr->Prop}{K:Ends}{o:Out}{d:D}{t u:Tag}{v w vx vy:V}{ds:List D}{ts:List Tag}{vs xs:List V}{c c':Cl}{x y z:Ex}{e a b:Expr}{go:Go}{mu:List Str}
theorem zBE{n:Nat}(h:n<=lim):n<=sizeLine:=Nat.le_trans h (by decide)
theorem zAd{t:Tag}(ok:ROk T Γ H H1 d t v)(no:∀k,Ev.rt d t≠ .own k):Rep T H1 (TC Γ H (Ev.rt d t)) d v:=ok.rt.rep no
def isSl:Expr->Bool
 | .Slice _ _ _ _=>true
 | _=>false
theorem zAe(O:SOk T W cm k X N sc E){x':Str}{kx:Expr}{i:Nat}{p q pos:Pos}(hv:isVis sc x'=true)(hi:slot N x'=some i)(hsl:isSl kx=false)(hk:Gd T W X E kx y)(he:Gd T W X E e x):SndS T W X E (.Assign [.Subscript (.Name x' p) kx q] e pos) (.setix i y x):=by
 obtain⟨te,pe,de⟩:=he.snd
 obtain⟨tk,pk,dk⟩:=hk.snd
 obtain⟨z1,z2⟩:=z6p hv
 have pv:PE X (.Name x' p) (tVar i):=z3w (by rw[O.x.hN];exact z01 hi) (O.x.vis _ hv) z1 z2
 have hs:swapsWithSole [.Subscript (.Name x' p) kx q] e pos.line X.env=pure false:=by cases e<;>rfl
 have hw:swappedStores [.Subscript (.Name x' p) kx q] e X.env=pure none:=by cases e<;>rfl
 refine⟨_,zCq pe (zEH pv pk zBh (λ_=>by cases kx<;>first|rfl|cases hsl)) hs hw rfl,λΓ G ρ σ H o K he h hp=>?_⟩
 conv at he=>lhs;whnf
 refine de.stepS he h hp λd t v H1 hk' s ok h1=>?_
 split at hk'
 ·rename_i ds c hown
  obtain⟨l,xs,hσ,hO,hl,rs,hS⟩:=h1.ownAt hown
  refine⟨.ref l,hσ,?_⟩
  refine dk.stepS hk' h1 hp λj t' v' H2 hk'' s2 ok2 h2=>?_
  split at hk''
  ·rename_i n
   split at hk''
   ·rename_i m c' hm hc
    cases hk''
    obtain⟨k1,k2,k3,k4,k5⟩:=z5m h hc
    have rs2:=rs.same s2
    refine⟨l,xs,n,m,rfl,ok2.any,s2 _ _ hl,by rw[rs.length,<-zCw];exact hm,?_⟩
    exact hp Γ σ _ rfl rfl (h2.wr hown hσ (s2 _ _ hl) hO (hS k4) k4 k5 ((rs2.imp λb z=>k1 b z).set m (((zAd ok k3).same s2).imp λb z=>k2 b z)))
   ·cases hk''
  ·cases hk''
 ·cases hk'
theorem zDJ(O:SOk T W cm k X N sc E){x' m:Str}{i:Nat}{p q cpos pos:Pos}(hm:m="append")(hv:isVis sc x'=true)(hl:(q.endLine==cpos.line)=true)(hi:slot N x'=some i)(he:Gd T W X E e x):SndS T W X E (.Expr (.Call (.Attribute (.Name x' p) m q) [e] [] cpos) pos) (.app i x):=by
 subst hm
 obtain⟨te,pe,de⟩:=he.snd
 obtain⟨z1,z2⟩:=z6p hv
 have hst:=he.star
 have pv:PE X (.Name x' p) (tVar i):=z3w (by rw[O.x.hN];exact z01 hi) (O.x.vis _ hv) z1 z2
 refine⟨_,z3H (zBi PySem.F.plainAttrs_list PySem.F.slot_list_append PySem.F.type_list_append z9r pv (z0G pe z2f (hst _ _)) rfl (by rw[hst];rfl) hl (hst _ _) rfl) rfl,λΓ G ρ σ H o K he h hp=>?_⟩
 conv at he=>lhs;whnf
 split at he
 ·rename_i ds c hown
  obtain⟨l,xs,hσ,hO,hl',rs,hS⟩:=h.ownAt hown
  refine⟨.ref l,hσ,.inl ⟨rfl,xs,SqL.of hl'⟩,?_⟩
  refine de.stepS he h hp λd t v H1 hk s ok h1=>?_
  split at hk
  ·rename_i c' hc
   split at hk
   ·rename_i hlen
    cases hk
    obtain⟨k1,k2,k3,k4,k5⟩:=z5m h hc
    refine⟨l,xs,v,rfl,rfl,s _ _ hl',by rw[rs.length];exact Nat.lt_of_lt_of_le hlen (by decide),?_⟩
    exact hp Γ σ _ rfl rfl (h1.wr hown hσ (s _ _ hl') hO (hS k4) k4 k5 (((rs.same s).imp λb z=>k1 b z).append ⟨v,[],rfl,(zAd ok k3).imp λb z=>k2 b z,rfl⟩))
   ·cases hk
  ·cases hk
 ·cases he
theorem zDK(O:SOk T W cm k X N sc E){x' m:Str}{i:Nat}{p q cpos pos:Pos}(hm:m="extend")(hv:isVis sc x'=true)(hl:(q.endLine==cpos.line)=true)(hi:slot N x'=some i)(he:Gd T W X E e x):SndS T W X E (.Expr (.Call (.Attribute (.Name x' p) m q) [e] [] cpos) pos) (.ext i x):=by
 subst hm
 obtain⟨te,pe,de⟩:=he.snd
 obtain⟨z1,z2⟩:=z6p hv
 have hst:=he.star
 have pv:PE X (.Name x' p) (tVar i):=z3w (by rw[O.x.hN];exact z01 hi) (O.x.vis _ hv) z1 z2
 refine⟨_,z3H (zBi PySem.F.plainAttrs_list PySem.F.slot_list_extend PySem.F.type_list_extend z9s pv (z0G pe z2f (hst _ _)) rfl (by rw[hst];rfl) hl (hst _ _) rfl) rfl,λΓ G ρ σ H o K he h hp=>?_⟩
 conv at he=>lhs;whnf
 split at he
 ·rename_i ds c hown
  obtain⟨l,xs,hσ,hO,hl',rs,hS⟩:=h.ownAt hown
  refine⟨.ref l,hσ,.inl ⟨rfl,xs,SqL.of hl'⟩,?_⟩
  refine de.stepS he h hp λd t v H1 hk s ok h1=>?_
  split at hk
  ·rename_i es
   split at hk
   ·rename_i c' hc
    split at hk
    ·rename_i hlen
     cases hk
     obtain⟨l2,zs,rfl,hl2,rs2⟩:=ok.list
     obtain⟨k1,k2,k3,k4,k5⟩:=z5m h hc
     have rz:Reps T H1 (Cond Γ c') es zs:=by
      unfold rts at hc k2
      split at hc
      ·rename_i hf;exact Reps.free es zs hf rs2
      ·rename_i hf
       rw[if_neg hf]at k2
       exact rs2.imp λb z=>k2 b (by rw[TC.el];exact z)
     refine⟨l,l2,xs,zs,rfl,rfl,s _ _ hl',hl2,by rw[rs.length,rs2.length];exact zBE hlen,?_⟩
     exact hp Γ σ _ rfl rfl (h1.wr hown hσ (s _ _ hl') hO (hS k4) k4 k5 (((rs.same s).imp λb z=>k1 b z).append rz))
    ·cases hk
   ·cases hk
  ·cases hk
 ·cases he
theorem zDL(O:SOk T W cm k X N sc E){x' m:Str}{i:Nat}{kx:Expr}{p q cpos pos:Pos}(hm:m="insert")(hv:isVis sc x'=true)(hl:(q.endLine==cpos.line)=true)(hi:slot N x'=some i)(hk:Gd T W X E kx y)(he:Gd T W X E e x):SndS T W X E (.Expr (.Call (.Attribute (.Name x' p) m q) [kx,e] [] cpos) pos) (.ins i y x):=by
 subst hm
 obtain⟨te,pe,de⟩:=he.snd
 obtain⟨tk,pk,dk⟩:=hk.snd
 obtain⟨z1,z2⟩:=z6p hv
 have hst:=he.star
 have hst':=hk.star
 have pv:PE X (.Name x' p) (tVar i):=z3w (by rw[O.x.hN];exact z01 hi) (O.x.vis _ hv) z1 z2
 refine⟨_,z3H (zBi PySem.F.plainAttrs_list PySem.F.slot_list_insert PySem.F.type_list_insert z9x pv (z0G pk (z0G pe z2f (hst _ _)) (hst' _ _)) rfl (by rw[hst',hst];rfl) hl (hst' _ _) (z3k λe he=>by rw[List.mem_singleton.mp he];exact hst)) rfl,λΓ G ρ σ H o K he h hp=>?_⟩
 conv at he=>lhs;whnf
 split at he
 ·rename_i ds c hown
  obtain⟨l,xs,hσ,hO,hl',rs,hS⟩:=h.ownAt hown
  refine⟨.ref l,hσ,.inl ⟨rfl,xs,SqL.of hl'⟩,?_⟩
  refine dk.stepS he h hp λj t' v' H1 hk' s1 ok1 h1=>?_
  refine de.stepS hk' h1 hp λd t v H2 hk s ok h2=>?_
  split at hk
  ·rename_i n
   split at hk
   ·rename_i c' hc
    split at hk
    ·rename_i hz
     cases hk
     cases(show v'= .int n from ok1.any)
     obtain⟨k1,k2,k3,k4,k5⟩:=z5m h1 hc
     have s2:=s1.trans s
     refine⟨l,xs,n,v,rfl,rfl,s2 _ _ hl',⟨hz.1,by rw[rs.length];exact hz.2.1⟩,by rw[rs.length];exact Nat.lt_of_lt_of_le hz.2.2 (by decide),?_⟩
     have rs':=(rs.same s2).imp λb z=>k1 b z
     exact hp Γ σ _ rfl rfl (h2.wr hown hσ (s2 _ _ hl') hO (hS k4) k4 k5 ((rs'.take n.toNat).append ⟨v,_,rfl,(zAd ok k3).imp λb z=>k2 b z,rs'.drop n.toNat⟩))
    ·cases hk
   ·cases hk
  ·cases hk
 ·cases he
theorem PS.nox{st:Stmt}{t:TS}(h:PS X.nox st t):PS X st t:=λpins s σ H K I hw=>
 wpAny_mono (h pins s σ H K (I.wish _) hw) (λ_ _ q=>q.unwish) λ_ _ z=>False.elim z
theorem EnvOk.less{G':List Gh}(h:EnvOk T Γ G ρ σ H)(hs:∀g∈G',g∈G):EnvOk T Γ G' ρ σ H:=⟨h.same,h.own,h.deep,h.ent,h.inj,λg z=>h.gh g (hs g z),h.len⟩
theorem EnvOk.more{G':List Gh}(h:EnvOk T Γ G ρ σ H)(hg:∀g∈G',GOk T Γ H g):EnvOk T Γ (G'++G) ρ σ H:=⟨h.same,h.own,h.deep,h.ent,h.inj,λg z=>(List.mem_append.mp z).elim (hg g) (h.gh g),h.len⟩
theorem z7T{body:List Sx}{tgx:Tg}{g:TG}{t':Tag}{Gx:List Gh}{K:Ends}{Pv:St->Hp->Prop}{r:List D}(tok:TgOk T g tgx)(h0:Γ'.H0=Γ.H0)(hP:Γ'.P=Γ.P)(h:EnvOk T Γ' Gx ρ σ H)(rd:Rep T H (Cond Γ' (tagCl t')) d v)
  (hgo:forGo (λρ'=>evSs W ρ' body) (λρ' x=>bindT ρ' t' tgx x) (d::r) ρ=some o) (hp:PostS T E Γ G K o)
  (next:∀(Γ'':Ctx)(ρ2:Env)(σ':St)(H':Hp),Γ''.H0=Γ.H0->Γ''.P=Γ.P->forGo (λρ'=>evSs W ρ' body) (λρ' x=>bindT ρ' t' tgx x) r ρ2=some o->EnvOk T Γ'' Gx ρ2 σ' H'->Pv σ' H'):
  g v σ H λσ2 H2=>tSs T W EN body {K with nx:=Pv,ct:=Pv,bk:=K.nx} σ2 H2:=by
 simp only[forGo]at hgo
 split at hgo
 ·cases hgo
 ·rename_i ρ1 hb
  refine tok h (rd.imp λb z=>.inr z) hb λσ1 h1 _ _=>?_
  split at hgo
  ·rename_i ρ2 hbody
   exact⟨Γ',Gx,ρ1,_,hbody,h1,λΓ'' σ' H' e1 e2 h'=>next Γ'' ρ2 σ' H' (e1.trans h0) (e2.trans hP) hgo h'⟩
  ·rename_i d' t'' hbody
   cases hgo
   refine⟨Γ',Gx,ρ1,_,hbody,h1,?_⟩
   have:PostS T EN Γ G {K with nx:=Pv,ct:=Pv,bk:=K.nx} (.rt d' t''):=hp
   exact this.ctx h0 hP
  ·cases hgo
theorem zBF(O:SOk T W true k X N sc E){tg iter:Expr}{tgx:Tg}{bd:List Stmt}{bs:List Sx}{pos:Pos}(ht:trTg N sc tg=some tgx)(hi:PE X.nox iter (tE T W EN x))(hf:∀(v:Value),foldedSetIterable iter X.env v=pure v)(hb:PSs X.nox bd (tSs T W EN bs)):SndS T W X E (.For tg iter bd [] pos) (.forL tgx x bs):=by
 have pg:PG X.nox tg (gOf T.K tgx):=zBA (X:=X.nox) (T:=T) O.x.hK (O.x.calm rfl) O.x.hN O.nd O.loc ht
 have tok:=@zAa T _ _ _ _ ht
 refine⟨_,PS.nox (zCr PassesOwn.never (O.x.calm rfl) (zCI hi) pg hb hf),λΓ G ρ σ H o K he h hp=>?_⟩
 conv at he=>lhs;whnf
 split at he
 ·rename_i ds t e1
  split at he
  ·cases he
  rename_i hdp
  ··refine⟨Γ,G,ρ,_,e1,h,λv H1 s ok=>?_⟩
    obtain⟨a,xs,rfl,ha,rs⟩:=ok.list
    have h1:=h.mono s
    have main:∀(Γ0:Ctx)(ρ0:Env),Γ0.H0=Γ.H0->Γ0.P=Γ.P->EnvOk T Γ0 G ρ0 σ H1-> ¬Γ0.O a->Reps T H1 (Cond Γ0 (tagCl t.el)) ds xs->forGo (λρ'=>evSs W ρ' bs) (λρ' x=>bindT ρ' t.el tgx x) ds ρ0=some o-> ∃b,V.ref a=V.ref b/\(∃xs,SqL X.nox.K H1 b xs)/\ ∃W':Nat->Nat->St->Hp->Prop,(∃m,W' 0 m σ H1)/\ ∀i m σ H,W' i m σ H->
      ((Itl X.nox.K b).stop i H/\K.nx σ H)\/((Itl X.nox.K b).go i H/\ ∃N:St->Hp->Prop,(∀σ' H',N σ' H'-> ∃m',m'<m/\W' (i+1) m' σ' H')/\ ∀x H',(Itl X.nox.K b).yld i H x H'->gOf T.K tgx x σ H' λσ2 H2=>tSs T W EN bs {K with nx:=N,ct:=N,bk:=K.nx} σ2 H2):=λΓ0 ρ0 c0 cP h0 nO r0 hgo=>by
     refine⟨a,rfl,⟨xs,SqL.of ha⟩,?_⟩
     have hgh:EnvOk T Γ0 (Gh.at a xs::(ds.zip xs).map (λp=>Gh.val (tagCl t.el) p.1 p.2)++G) ρ0 σ H1:=h0.more λg hg=>by
      rcases List.mem_cons.mp hg with rfl|hg
      ·exact⟨ha,nO⟩
      ·rw[List.mem_map]at hg
       obtain⟨⟨d',v'⟩,hm,rfl⟩:=hg
       obtain⟨n,hn⟩:=List.mem_iff_getElem?.mp hm
       rw[List.getElem?_zip_eq_some]at hn
       obtain⟨v2,q1,q2⟩:=r0.get hn.1
       rw[hn.2]at q1
       cases q1
       exact q2
     refine z31 (K:=X.nox.K) (a:=a) (xs:=xs) (λi σ' H'=>∃(Γ':Ctx)(ρ':Env),Γ'.H0=Γ.H0/\Γ'.P=Γ.P/\forGo (λρ'=>evSs W ρ' bs) (λρ' x=>bindT ρ' t.el tgx x) (ds.drop i) ρ'=some o/\EnvOk T Γ' (Gh.at a xs::(ds.zip xs).map (λp=>Gh.val (tagCl t.el) p.1 p.2)++G) ρ' σ' H')
      ⟨Γ0,ρ0,c0,cP,hgo,hgh⟩ (λi σ' H' _⟨Γ',ρ',_,_,_,hE⟩=>SqL.of (hE.gh (Gh.at a xs) (by simp)).1) ?_ ?_
     ·rintro i v σ' H' hv ⟨Γ',ρ',g0,gP,hgo',hE⟩
      obtain⟨d,hd,_⟩:=r0.get' hv
      have hdl:i<ds.length:=(List.getElem?_eq_some_iff.mp hd).1
      have hdrop:ds.drop i=d::ds.drop (i+1):=by
       rw[List.drop_eq_getElem_cons hdl]
       congr 1
       rw[List.getElem?_eq_getElem hdl]at hd
       exact Option.some.inj hd
      rw[hdrop]at hgo'
      have rd:Rep T H' (Cond Γ' (tagCl t.el)) d v:=hE.gh (Gh.val (tagCl t.el) d v) (by
       refine List.mem_append_left _ (List.mem_cons_of_mem _ (List.mem_map.mpr ⟨(d,v),?_,rfl⟩))
       exact List.mem_iff_getElem?.mpr ⟨i,List.getElem?_zip_eq_some.mpr ⟨hd,hv⟩⟩)
      exact z7T (E:=E) tok g0 gP hE rd hgo' hp λΓ'' ρ2 σ2 H2 a1 a2 a3 a4=>⟨Γ'',ρ2,a1,a2,a3,a4⟩
     ·rintro σ' H' ⟨Γ',ρ',g0,gP,hgo',hE⟩
      rw[rs.length,List.drop_length]at hgo'
      simp only[forGo]at hgo'
      cases hgo'
      exact hp Γ' σ' H' g0 gP (hE.less λg hg=>List.mem_append_right _ hg)
    cases t with
    | new=>exact main Γ ρ rfl rfl h1 (λz=>(h.own a z).2 (by obtain⟨a',xs',e,c,_⟩:=ok;cases e;exact c)) (rs.imp λb z=>h.fresh z) he
    | cl c=>
     have hc:c≠ .dp:=λz=>hdp (by rw[z];rfl)
     exact main Γ ρ rfl rfl h1 (by obtain⟨a',xs',e,c,_⟩:=ok;cases e;exact(c.cond hc).1) (rs.imp λb z=>TCc.cond z hc) he
    | own c=>
     have hc:c≠ .dp:=λz=>hdp (by rw[z];rfl)
     exact main {Γ with O:=λ_=>False,S:=λ_=>False} (disownAll ρ) rfl rfl h1.disownAll id (rs.imp λb(z:TCc Γ c b)=>⟨id,(z.cond hc).2⟩) he
 ·cases he
theorem z7U{lo hi:Ex}(O:SOk T W true k X N sc E){tg iter:Expr}{i:Nat}{bd:List Stmt}{bs:List Sx}{pos:Pos}{wi:TI}(ht:trTg N sc tg=some (.name i))(hi':PI X.nox tg iter wi)
  (hwi:∀(Γ:Ctx)(G:List Gh)(ρ:Env)(σ:St)(H:Hp)(a b:Int)(t t':Tag)(R:It->Hp->Prop),evE W ρ lo=some (.ok (.int a) t)->evE W ρ hi=some (.ok (.int b) t')->smallI a=true->smallI b=true->EnvOk T Γ G ρ σ H->(∀H1,Same H H1->R (Itr a (b-a).toNat) H1)->wi σ H R)
  (hf:∀(v:Value),foldedSetIterable iter X.env v=pure v) (hb:PSs X.nox bd (tSs T W EN bs)):SndS T W X E (.For tg iter bd [] pos) (.forR i lo hi bs):=by
 have pg:PG X.nox tg (gOf T.K (.name i)):=zBA (X:=X.nox) (T:=T) O.x.hK (O.x.calm rfl) O.x.hN O.nd O.loc ht
 refine⟨_,PS.nox (zCr PassesOwn.never (O.x.calm rfl) hi' pg hb hf),λΓ G ρ σ H o K he h hp=>?_⟩
 conv at he=>lhs;whnf
 split at he
 ·rename_i a t b t' e1 e2
  split at he
  ·rename_i hz
   refine hwi Γ G ρ σ H a b t t' _ e1 e2 hz.1 hz.2 h λH1 s=>?_
   refine z9d (lo:=a) (n:=(b-a).toNat) (λj σ' H'=>∃(Γ':Ctx)(ρ':Env),Γ'.H0=Γ.H0/\Γ'.P=Γ.P/\forGo (λρ'=>evSs W ρ' bs) (λρ' x=>bindT ρ' .new (.name i) x) ((rangeD a (b-a).toNat).drop j) ρ'=some o/\EnvOk T Γ' G ρ' σ' H')
    ⟨Γ,ρ,rfl,rfl,he,h.mono s⟩ ?_ ?_
   ·rintro j σ' H' hj ⟨Γ',ρ',g0,gP,hgo',hE⟩
    have hlen:(rangeD a (b-a).toNat).length=(b-a).toNat:=by simp[rangeD]
    have hdrop:(rangeD a (b-a).toNat).drop j= .int (a+(j:Int))::(rangeD a (b-a).toNat).drop (j+1):=by
     rw[List.drop_eq_getElem_cons (by rw[hlen];exact hj)]
     congr 1
     simp[rangeD]
    rw[hdrop]at hgo'
    exact z7T (E:=E) (tgx:=.name i) (t':=.new) (d:=.int (a+(j:Int))) z2R g0 gP hE rfl hgo' hp λΓ'' ρ2 σ2 H2 a1 a2 a3 a4=>⟨Γ'',ρ2,a1,a2,a3,a4⟩
   ·rintro σ' H' ⟨Γ',ρ',g0,gP,hgo',hE⟩
    have hlen:(rangeD a (b-a).toNat).length=(b-a).toNat:=by simp[rangeD]
    rw[List.drop_eq_nil_of_le (by rw[hlen];exact Nat.le_refl _)]at hgo'
    simp only[forGo]at hgo'
    cases hgo'
    exact hp Γ' σ' H' g0 gP hE
  ·cases he
 ·cases he
theorem zAf(O:SOk T W true k X N sc E){tst:Expr}{bd:List Stmt}{bs:List Sx}{pos:Pos}(ht:PT X.nox tst (tT T W EN x))(hb:PSs X.nox bd (tSs T W EN bs)):SndS T W X E (.While tst bd [] pos) (.while_ x bs):=by
 refine⟨_,PS.nox (zAY PassesOwn.never ht hb),λΓ G ρ σ H o K he h hp=>?_⟩
 conv at he=>lhs;whnf
 refine⟨λm σ' H'=>∃(Γ':Ctx)(ρ':Env),Γ'.H0=Γ.H0/\Γ'.P=Γ.P/\whGo (λρ'=>evE W ρ' x) (λρ'=>evSs W ρ' bs) m ρ'=some o/\EnvOk T Γ' G ρ' σ' H',⟨64,Γ,ρ,rfl,rfl,he,h⟩,?_⟩
 rintro m σ' H' ⟨Γ',ρ',g0,gP,hgo,hE⟩
 cases m with
 | zero=>cases hgo
 | succ m=>
  simp only[whGo]at hgo
  split at hgo
  ·rename_i tb htst
   refine⟨Γ',G,ρ',_,htst,⟨true,rfl⟩,hE,λb H1 e s=>?_⟩
   cases e
   rw[if_pos rfl]
   refine⟨λσ2 H2=>∃(Γ':Ctx)(ρ':Env),Γ'.H0=Γ.H0/\Γ'.P=Γ.P/\whGo (λρ'=>evE W ρ' x) (λρ'=>evSs W ρ' bs) m ρ'=some o/\EnvOk T Γ' G ρ' σ2 H2,λσ2 H2 q=>⟨m,Nat.lt_succ_self _,q⟩,?_⟩
   split at hgo
   ·rename_i ρ2 hbody
    exact⟨Γ',G,ρ',_,hbody,hE.mono s,λΓ'' σ2 H2 e1 e2 h2=>⟨Γ'',ρ2,e1.trans g0,e2.trans gP,hgo,h2⟩⟩
   ·rename_i d' t' hbody
    cases hgo
    refine⟨Γ',G,ρ',_,hbody,hE.mono s,?_⟩
    have:PostS T EN Γ G {K with nx:=λσ2 H2=>∃(Γ':Ctx)(ρ':Env),Γ'.H0=Γ.H0/\Γ'.P=Γ.P/\whGo (λρ'=>evE W ρ' x) (λρ'=>evSs W ρ' bs) m ρ'=some (.rt d' t')/\EnvOk T Γ' G ρ' σ2 H2,ct:=λσ2 H2=>∃(Γ':Ctx)(ρ':Env),Γ'.H0=Γ.H0/\Γ'.P=Γ.P/\whGo (λρ'=>evE W ρ' x) (λρ'=>evSs W ρ' bs) m ρ'=some (.rt d' t')/\EnvOk T Γ' G ρ' σ2 H2,bk:=K.nx} (.rt d' t'):=hp
    exact this.ctx g0 gP
   ·cases hgo
  ·rename_i tb htst
   cases hgo
   refine⟨Γ',G,ρ',_,htst,⟨false,rfl⟩,hE,λb H1 e s=>?_⟩
   cases e
   rw[if_neg Bool.false_ne_true]
   exact hp Γ' σ' H1 g0 gP (hE.mono s)
  ·cases hgo
end
end Ev
namespace Ev
open PySem L2
section
variable{T:Tx}{W:Wd}{cm:Bool}{k:Nat}{X:Cx}{N:List Str}{sc:List (Str×NameKind)}{E:XK}{x y z:Ex}{e a b:Expr}{go:Go}{mu:List Str}{s:Sx}{st:Stmt}
theorem SOk.nox(O:SOk T W cm k X N sc E):SOk T W cm k X.nox N sc EN where
 x:=⟨O.x.hK,O.x.hN,O.x.tx,O.x.vis,O.x.gl,O.x.kinds,O.x.calm,O.x.room,O.x.units,O.x.call,O.x.blt,O.x.glob,pass1,O.x.ty
  ⟩
 nd:=O.nd
 loc:=O.loc
 locs:=O.locs
 kindF:=O.kindF
 raises:=λ_ _ _ _ _ _ _ _ _ _ z=>z.elim
 xcls:=O.xcls
theorem zGu{n:Nat}(h:trE cm n N sc e=some x):isSl e=false:=by
 cases n with
 | zero=>cases h
 | succ n=>cases e with
  | Slice a b c p=>exact nomatch (zFg cm n N sc a b c p).symm.trans h
  | _=>rfl
theorem zBG(O:SOk T W true k X N sc E){tgt:Expr}{pos:Pos}(h:trAsg (trE true 30 N sc) N sc mu e tgt=some s):SndS T W X E (.Assign [tgt] e pos) s:=by
 have ih:=λe x=>gd_E 30 O.x e x
 rcases altI h with⟨q,h1⟩|h1
 ·obtain⟨hl,h2⟩:=iteN h1
  obtain⟨i,hi,h3⟩:=bndI h2
  obtain⟨y,hy,e0⟩:=mapI h3
  rw[q.2,<-e0]
  clear h h1 h2 h3 e0
  exact zDG O hl hi hy
 clear h
 rcases altI h1 with⟨q,h2⟩|h2
 ·clear h1
  unfold trTup at h2
  split at h2
  ·rename_i r _
   obtain⟨nl,hn,h3⟩:=bndI h2
   rw[q.2,r.2]
   exact zDI O ih hn h3
  ·rename_i hq
   obtain⟨g,hg,h3⟩:=bndI h2
   obtain⟨ij,hij,h4⟩:=bndI h3
   obtain⟨y,hy,e0⟩:=mapI h4
   rw[q.2]at hg ⊢
   rw[<-e0]
   clear h2 h3 h4 e0
   cases g with
   | name _=>cases hij
   | tup is=>
    rw[z1X (show twoOf is=some ij from hij)]at hg
    refine zDH O hg ?_ (ih _ _ hy)
    cases e<;>first|rfl|cases hq
 ·clear h1
  obtain⟨q,_,h3⟩:=bndI h2
  obtain⟨x',hn,h4⟩:=bndI h3
  obtain⟨hv,h5⟩:=iteN h4
  obtain⟨i,hi,h6⟩:=bndI h5
  obtain⟨u,hu,h7⟩:=bndI h6
  obtain⟨w,hw,e0⟩:=mapI h7
  obtain⟨p',e1⟩:=z1y hn
  rw[q.2,e1,<-e0]
  exact zAe O hv hi (zGu hu) (ih _ _ hu) (ih _ _ hw)
theorem zDM{f f':Expr}{a:List Expr}{ks:List Keyword}{p:Pos}(hf:f=f')(hk:ks=[]):Expr.Call f a ks p= .Call f' a [] p:=by rw[hf,hk]
theorem zDN{o o':Expr}{m m':Str}{p:Pos}(ho:o=o')(hm:m=m'):Expr.Attribute o m p= .Attribute o' m' p:=by rw[ho,hm]
theorem zAg{i:Nat}{m:Str}{args:List Expr}(h:mutCall N sc e=some (i,m,args)):∃x' p q cpos,e= .Call (.Attribute (.Name x' p) m q) args [] cpos/\isVis sc x'=true/\(q.endLine==cpos.line)=true/\slot N x'=some i:=by
 obtain⟨q,_,h1⟩:=bndI h
 obtain⟨hk,h2⟩:=iteN h1
 obtain⟨r,_,h3⟩:=bndI h2
 obtain⟨x',hn,h4⟩:=bndI h3
 obtain⟨hv,h5⟩:=iteN h4
 obtain⟨i',hi,e'⟩:=mapI h5
 clear h h1 h2 h3 h4 h5
 cases e'
 rw[Bool.and_eq_true]at hv
 obtain⟨p',e1⟩:=z1y hn
 exact⟨x',p',_,_,q.2.trans (zDM (r.2.trans (zDN e1 rfl)) (z49 hk)),hv.1,hv.2,hi⟩
theorem zDO(O:SOk T W cm k X N sc E){pos:Pos}{dp:Nat->Bool}(h:trEx (trE cm 30 N sc) N sc dp e=some s):SndS T W X E (.Expr e pos) s:=by
 have ih:=λe x=>gd_E 30 O.x e x
 rcases altK h with⟨q,hm,h1⟩|h1
 ·obtain⟨x',p',q1,cpos,e0,hv1,hv2,hi⟩:=zAg (i:=q.1) (m:=q.2.1) (args:=q.2.2) hm
  rw[e0]
  clear h hm e0
  rcases altK h1 with⟨a,ha,h2⟩|h2
  ·rw[z1k ha]
   clear h1 ha
   rcases iteI h2 with⟨hm',h3⟩|h3
   ·obtain⟨y,hy,e1⟩:=mapI h3
    rw[<-e1]
    exact zDJ O hm' hv1 hv2 hi (ih _ _ hy)
   obtain⟨hm',h4⟩:=iteN h3
   obtain⟨y,hy,e1⟩:=mapI h4
   rw[<-e1]
   exact zDK O hm' hv1 hv2 hi (ih _ _ hy)
  ·obtain⟨ab,ha,h3⟩:=bndI h2
   rw[z1X ha]
   obtain⟨hm',h4⟩:=iteN h3
   obtain⟨u,hu,h5⟩:=bndI h4
   obtain⟨v,hv,e1⟩:=mapI h5
   clear h1 ha h2 h3 h4 h5
   rw[<-e1]
   exact zDL O hm' hv1 hv2 hi (ih _ _ hu) (ih _ _ hv)
 clear h
 by_cases hc:isComp e=true
 ·rw[if_pos hc]at h1;cases h1
 rw[if_neg hc]at h1
 obtain⟨y,hy,e1⟩:=mapI h1
 rw[<-e1]
 exact zAb (by simpa using hc) (ih _ _ hy)
theorem zBH(O:SOk T W true k X N sc E){tg iter:Expr}{t:Tg}{bd:List Stmt}{bs:List Sx}{pos:Pos}(ht:trTg N sc tg=some t)(hb:PSs X.nox bd (tSs T W EN bs))(h:trFor (trE true 30 N sc) sc t iter bs=some s):SndS T W X E (.For tg iter bd [] pos) s:=by
 have O':=O.nox
 have ih:=λe x=>gd_E 30 O'.x e x
 rcases altK h with⟨as,hr,h1⟩|h1
 ·obtain⟨p,pos',e0,hg⟩:=z7Q hr
  obtain⟨i,hi,h2⟩:=bndI h1
  rw[z7R hi]at ht
  rw[e0]
  clear h h1 hr hi e0
  rcases altK h2 with⟨a,ha,h3⟩|h3
  ·obtain⟨y,hy,ex⟩:=mapI h3
   rw[z1k ha,<-ex]
   clear h2 h3 ha ex
   have hst:=(ih _ _ hy).star
   obtain⟨ta,pa,da⟩:=z08 hst (ih _ _ hy).snd (z1D (T:=T) (W:=W) (X:=X.nox) (E:=EN))
   refine z7U O ht (z5T (O'.x.gl _ hg) (O'.x.blt _ (by decide +kernel)) pa (hst _ _)) (λΓ G ρ σ H a' b' t t' R e1 e2 z1 z2 hE q=>?_) (λ_=>rfl) hb
   cases e1
   refine da Γ G ρ σ H (.ok [.int b'] [t']) _ (by rw[Es_c,e2];rfl) hE λvs H1 s ok=>?_
   obtain⟨t1,v,_,rfl,o⟩:=rs1 (ds:=[]) ok
   cases(show v= .int _ from o.any)
   obtain⟨b1,b2⟩:=z1n z2
   refine⟨b',rfl,b1,b2,?_⟩
   have:=q H1 s
   rw[Int.sub_zero]at this
   exact this
  ·obtain⟨ab,ha,h4⟩:=bndI h3
   obtain⟨y,hy,h5⟩:=bndI h4
   obtain⟨z,hz,ex⟩:=mapI h5
   rw[z1X ha,<-ex]
   clear h2 h3 h4 h5 ha ex
   have hst:=(ih _ _ hy).star
   have hst':=(ih _ _ hz).star
   obtain⟨ta,pa,da⟩:=z08 hst (ih _ _ hy).snd (z08 hst' (ih _ _ hz).snd (z1D (T:=T) (W:=W) (X:=X.nox) (E:=EN)))
   refine z7U O ht (z5U (O'.x.gl _ hg) (O'.x.blt _ (by decide +kernel)) pa (by rw[hst,hst'];rfl) (hst' _ _)) (λΓ G ρ σ H a' b' t t' R e1 e2 z1 z2 hE q=>?_) (λ_=>rfl) hb
   refine da Γ G ρ σ H (.ok [.int a',.int b'] [t,t']) _ (by rw[Es_c,e1];dsimp only;rw[Es_c,e2];rfl) hE λvs H1 s ok=>?_
   obtain⟨t1,v,t2,v',_,rfl,o,o'⟩:=rs2 ok
   cases(show v= .int _ from o.any)
   cases(show v'= .int _ from o'.any)
   obtain⟨b1,b2⟩:=z1n z1
   obtain⟨b3,b4⟩:=z1n z2
   exact⟨a',b',rfl,⟨b1,b2,b3,b4⟩,q H1 s⟩
 obtain⟨y,hy,ex⟩:=mapI h1
 rw[<-ex]
 exact zBF O ht (ih _ _ hy).pe (λv=>(ih _ _ hy).fold _ v) hb
end
theorem zGv{T:Tx}{W:Wd}{k:Nat}{N:List Str}{sc:List (Str×NameKind)}{mu:List Str}:∀(n:Nat){X:Cx}{E:XK}(O:SOk T W true k X N sc E)(st:Stmt)(s:Sx),trS true n N sc mu st=some s->SndS T W X E st s:=by
 intro n
 induction n with
 | zero=>intro X E O st s h;cases h
 | succ n ihn=>
  intro X E O st s h
  have many:∀{X:Cx}{E:XK}(O:SOk T W true k X N sc E){sts:List Stmt}{ss:List Sx},trs (trS true n N sc mu) sts=some ss->SndSs T W X E sts ss:=by
   intro X E O sts
   induction sts with
   | nil=>intro ss h;cases h;exact z6t
   | cons st sts ih=>
    intro ss h
    unfold trs at h
    split at h
    ·rename_i s1 l h1 h2
     cases h
     exact z4H (ihn O _ _ h1) (ih h2)
    ·cases h
  have ih:=λe x=>gd_E 30 O.x e x
  rw[zBq]at h
  rcases altI h with⟨q,h1⟩|h1
  ·obtain⟨t,ht,h2⟩:=bndI h1
   rw[q.2,z1k ht]
   exact zBG O h2
  clear h
  rcases altI h1 with⟨q,h2⟩|h2
  ·rw[q.2];exact zDO O h2
  clear h1
  rcases altI h2 with⟨q,h3⟩|h3
  ·obtain⟨e,he,h4⟩:=bndI h3
   obtain⟨y,hy,e0⟩:=mapI h4
   rw[q.2,he,<-e0]
   exact zDD (ih _ _ hy)
  clear h2
  rcases altI h3 with⟨q,h4⟩|h4
  ·obtain⟨t,h5,h6⟩:=bndI h4
   obtain⟨x,h7,h8⟩:=bndI h6
   obtain⟨y,h9,e0⟩:=mapI h8
   rw[q.2,<-e0]
   exact zDE (ih _ _ h5) (many O h7) (many O h9)
  clear h3
  rcases altI h4 with⟨q,h5⟩|h5
  ·obtain⟨hk,h6⟩:=iteN h5
   obtain⟨b,h7,h8⟩:=bndI h6
   obtain⟨t,h9,h10⟩:=bndI h8
   rw[q.2,z49 hk]
   exact zBH O h9 (many O.nox h7).pss h10
  clear h4
  rcases altI h5 with⟨q,h6⟩|h6
  ·obtain⟨hk,h7⟩:=iteN h6
   obtain⟨t,h8,h9⟩:=bndI h7
   obtain⟨b,h10,e0⟩:=mapI h9
   rw[q.2,z49 hk,<-e0]
   exact zAf O (gd_E 30 O.nox.x _ _ h8).pt (many O.nox h10).pss
  clear h5
  rcases altI h6 with⟨q,h7⟩|h7
  ·obtain⟨hk,h8⟩:=iteN h7
   obtain⟨e,he,h9⟩:=bndI h8
   obtain⟨r,hr,h10⟩:=bndI h9
   obtain⟨a,ha,h11⟩:=bndI h10
   obtain⟨hg,h12⟩:=iteN h11
   obtain⟨y,hy,e0⟩:=mapI h12
   obtain⟨p1,p2,e1⟩:=z3Q hr
   rw[q.2,he,Option.isNone_iff_eq_none.mp hk,e1,z1k ha,<-e0]
   exact zAc O hg (ih _ _ hy)
  clear h6
  obtain⟨q,_,e0⟩:=mapI h7
  rw[q.2,<-e0]
  exact zBB
end Ev
namespace Ev
open PySem L2
structure Txt(T:Tx)(P:Program)(w:World)(mg:Str->Option Value)(W0:Wd):Prop where
 tx:TxOk T
 blt:∀x∈bltNames,mg x=none
 glob:∀x i,W0.glob x=some i-> ∃t,mg x=some (.int i t)
 ty:∀t c b,tyTab t c=some b->PySem.W.kitOne T.K (.type t) (.type c)=some b
 xcls:∀c,W0.exn c=true-> ∃C,T.cv c= .ref C/\XCls T.K mg c C
section
variable{T:Tx}{P:Program}{w:World}{mg:Str->Option Value}{base:Heap}{W:Wd}{k:Nat}
theorem zF8{qual:Str}{scope:Scope}{f:Addr}{cdv:Value}{A:Around}{outer:List PySem.Env}{s:Shared}{H:Hp}{E:XK}{N ps:List Str}(X0:Txt T P w mg W)(S:FnScope N ps scope)(calls:∀f fn,W.F f=some fn->CallIn T P w mg base k f fn)
  (hr:Room k (A.deeper (PyProof.Rows.envOfC qual scope s.heap.objs.size f cdv))):SOk T W true k (cxOf (CX1 P w) P w T.K mg base N qual scope f cdv A outer s H E) N scope.names E where
 x:={
  hK:=rfl
  hN:=rfl
  tx:=X0.tx
  vis:=λx h=>by
   unfold isVis at h
   rw[Bool.and_eq_true]at h
   have h:=h.2
   unfold kindIn at h
   show Vis scope x
   unfold Vis
   split at h
   ·rename_i e;exact .inl e
   ·rename_i e;exact .inr (.inl e)
   ·rename_i e;exact .inr (.inr e)
   ·cases h
  gl:=λx h=>by
   unfold isGl at h
   rw[Bool.and_eq_true]at h
   have h:=h.2
   unfold kindIn at h
   show scope.names.lookup x=some .globalImplicit
   split at h
   ·rename_i e;exact e
   ·cases h
  kinds:=λx h=>h
  calm:=λ_=>rfl
  room:=λ_=>hr
  units:=by have:=hr.un;show(A.deeper (PyProof.Rows.envOfC qual scope s.heap.objs.size f cdv)).units+30<cLine;lia
  call:=calls
  blt:=X0.blt
  glob:=X0.glob
  pass:=z6e λ_ _ _ z=>z
  ty:=X0.ty
  }
 nd:=S.nd
 loc:=λx h=>by
  refine⟨?_,.inl rfl⟩
  unfold isLoc kindIn at h
  show L2.Loc scope x
  unfold L2.Loc
  split at h
  ·rename_i e;exact .inl e
  ·rename_i e;exact .inr e
  ·cases h
 locs:=λx h=>h
 kindF:=S.kind
 raises:=z9v
 xcls:=X0.xcls
theorem zDP{H:Hp}{Pr:Addr->Prop}{N:List Str}{fl:List Bool}{ds:List D}{vs:List V}(hl:ds.length<=N.length)(rs:Reps T H (λ_=>True) ds vs)(hf:FlowOk T H Pr fl ds vs):
  EnvOk T ⟨H,Pr,λ_=>False,λ_=>False⟩ [] (entsOf fl ds++List.replicate (N.length-ds.length) none) (L2.start N vs) H:=by
 have len:∀(fl:List Bool)(ds:List D),(entsOf fl ds).length=ds.length:=λfl ds=>by
  induction ds generalizing fl with
  | nil=>cases fl<;>rfl
  | cons d ds ih=>cases fl<;>simp[entsOf,ih]
 have lv:=rs.length
 have ent:∀(fl:List Bool)(ds:List D)(vs:List V),Reps T H (λ_=>True) ds vs->FlowOk T H Pr fl ds vs-> ∀(i:Nat)(e:Ent),(entsOf fl ds)[i]? = some (some e)-> ∃v,vs[i]? = some v/\EntOk T ⟨H,Pr,λ_=>False,λ_=>False⟩ H e v:=by
  intro fl ds
  induction ds generalizing fl with
  | nil=>intro vs _ _ i e q;cases fl<;>simp[entsOf]at q
  | cons d ds ih=>
   intro vs rs hf i e q
   obtain⟨v,vs',rfl,r,rs'⟩:=rs
   have old:EntOk T ⟨H,Pr,λ_=>False,λ_=>False⟩ H ⟨d,false,.old⟩ v:=⟨λz=>(by cases z),λz=>(by cases z),λ_=>r.imp λb _=>⟨id,λz=>(by cases z)⟩⟩
   cases fl with
   | nil=>
    cases i with
    | zero=>simp only[entsOf,List.getElem?_cons_zero,Option.some.injEq]at q;subst q;exact⟨v,rfl,old⟩
    | succ i=>exact ih [] vs' rs' trivial i e (by simpa [entsOf] using q)
   | cons f fl=>
    cases i with
    | zero=>
     simp only[entsOf,List.getElem?_cons_zero,Option.some.injEq]at q
     subst q
     refine⟨v,rfl,?_⟩
     cases f with
     | false=>exact old
     | true=>exact⟨λz=>(by cases z),λz=>(by cases z),λ_=>(hf.1 rfl).imp λb z=>⟨id,λ_=>.inr z⟩⟩
    | succ i=>exact ih fl vs' rs' hf.2 i e (by simpa [entsOf] using q)
 refine⟨Same.refl _,λa z=>z.elim,λa z=>z.elim,λi e q=>?_,λi j e e' ne q q' o o'=>?_,λg z=>(by cases z),?_⟩
 ·by_cases hi:i<ds.length
  ·rw[List.getElem?_append_left (by rw[len];exact hi)]at q
   obtain⟨v,h1,h2⟩:=ent fl ds vs rs hf i e q
   refine⟨v,?_,h2⟩
   unfold L2.start
   rw[List.getElem?_append_left (by rw[List.length_map,lv];exact hi),List.getElem?_map,h1];rfl
  ·rw[List.getElem?_append_right (by rw[len];omega),List.getElem?_replicate]at q
   split at q<;>cases q
 ·have no:∀(fl:List Bool)(ds:List D)(i:Nat)(e:Ent),(entsOf fl ds)[i]? = some (some e)->e.own=false:=by
   intro fl ds
   induction ds generalizing fl with
   | nil=>intro i e q;cases fl<;>simp[entsOf]at q
   | cons d ds ih=>
    intro i e q
    cases fl<;>cases i<;>simp[entsOf]at q
    ·subst q;rfl
    ·exact ih [] _ e q
    ·subst q;rfl
    ·exact ih _ _ e q
  by_cases hi:i<ds.length
  ·rw[List.getElem?_append_left (by rw[len];exact hi)]at q
   rw[no fl ds i e q]at o;cases o
  ·rw[List.getElem?_append_right (by rw[len];omega),List.getElem?_replicate]at q
   split at q<;>cases q
 ·unfold L2.start
  simp[len,lv]
theorem zF9{x qual:Str}{st:Stmt}{f:Addr}{fd:FuncData}{N ps:List Str}{n:Nat}{mu:List Str}{ss:List Sx}{fn:Fn}(X0:Txt T P w mg W)(F:Fun T.K x qual st f fd)(S:FnScope N ps (defScope st))(htr:trs (trS true n N (defScope st).names mu) (defBody st)=some ss)
  (calls:∀f fn,W.F f=some fn->CallIn T P w mg base k f fn) (hm:∀ds r,fn.m ds=some r->ds.length=ps.length/\evFn W N.length fn.fl ss ds=some r):FnOk P w T.K mg base (CX1 P w) (k+1) f fd ps (spD T fn):=by
 refine F.ok1 S (λvs H Q E h=>?_) (λcdv A outer s H vs Q E hr h=>?_)
 ·obtain⟨ds,r,Pr,rs,_,e,_⟩:=h
  rw[rs.length];exact(hm ds r e).1
 ·obtain⟨ds,r,Pr,rs,hf,e,q⟩:=h
  obtain⟨hl,ev⟩:=hm ds r e
  have O:=zF8 (outer:=outer) (H:=H) (E:=E) X0 S calls hr
  have many:∀{sts:List Stmt}{ss:List Sx},trs (trS true n N (defScope st).names mu) sts=some ss->SndSs T W (cxOf (CX1 P w) P w T.K mg base N qual (defScope st) f cdv A outer s H E) E sts ss:=by
   intro sts
   induction sts with
   | nil=>intro ss h;cases h;exact z6t
   | cons st sts ih=>
    intro ss h
    unfold trs at h
    split at h
    ·rename_i s1 l h1 h2
     cases h
     exact z4H (zGv n O _ _ h1) (ih h2)
    ·cases h
  obtain⟨t,pt,dt⟩:=many htr
  refine⟨t,pt,?_⟩
  have hpl:ps.length<=N.length:=by have:=congrArg List.length S.pre;rw[List.length_take]at this;omega
  unfold evFn at ev
  cases eo:evSs W (entsOf fn.fl ds++List.replicate (N.length-ds.length) none) ss with
  | none=>rw[eo]at ev;cases ev
  | some o=>
   rw[eo]at ev
   refine dt ⟨H,Pr,λ_=>False,λ_=>False⟩ [] _ _ H o _ eo (zDP (by omega) rs hf) ?_
   cases o with
   | nx ρ'=>
    cases ev
    intro Γ' σ' H' e1 e2 hE
    have s1:=hE.same
    rw[e1]at s1
    exact q .non H' s1 rfl
   | rt d t=>
    simp only[endR]at ev
    intro v H' s1 rd
    split at ev
    ·cases ev;exact q v H' s1 (rd.imp λb z=>.inl z)
    ·cases ev;exact q v H' s1 rd
    ·cases ev
   | exc c=>cases ev;exact q
theorem zAh{x:Str}{f:Addr}{fd:FuncData}{ps:List Str}{fn:Fn}{j:Nat}(G:FnOk P w T.K mg base (CX1 P w) j f fd ps (spD T fn))(hjk:j<=k)(hm:mg x=some (.ref f))(hk:PySem.W.keepIn T.K (.ref f)=true)(hb:Binds T.K fd ps []):CallIn T P w mg base k x fn:=by
 intro X eP ew eK em eb hr E hp hg hd e es t p pos ha hs hpl
 subst eP ew em eb
 rw[<-eK]at G hk hb
 exact zCN G (hr.mono hjk) hg hm hk hb .nil hp ha hd hs hpl
end
end Ev
namespace Ev
open PySem L2
section
variable{T:Tx}{P:Program}{w:World}{mg:Str->Option Value}{base:Heap}{k:Nat}
theorem CallIn.mono{x:Str}{fn:Fn}{j:Nat}(h:CallIn T P w mg base j x fn)(hjk:j<=k):CallIn T P w mg base k x fn:=
 λX e1 e2 e3 e4 e5 hr=>h X e1 e2 e3 e4 e5 (hr.mono hjk)
theorem z7V{l:List (Str×Fn)}(h:∀p∈l,CallIn T P w mg base k p.1 p.2):∀f fn,Fl l f=some fn->CallIn T P w mg base k f fn:=λf fn e=>h (f,fn) (PySem.mem_of_lookup e)
theorem z0e{α:Type}{p:α->Prop}:∀x∈([]:List α),p x:=λx h=>by cases h
theorem z0a{α:Type}{p:α->Prop}{a:α}{l:List α}(h:p a)(t:∀x∈l,p x):∀x∈a::l,p x:=λx hx=>by
 rcases List.mem_cons.mp hx with rfl|hx
 ·exact h
 ·exact t x hx
theorem zAi{x:Str}{f:Addr}{fd:FuncData}{ps:List Str}{fn:Fn}(hm:mg x=some (.ref f))(hk:PySem.W.keepIn T.K (.ref f)=true)(hb:Binds T.K fd ps [])(hn:∀ds,fn.m ds=none):CallIn T P w mg base 0 x fn:=by
 have no:∀vs H Q E,¬spD T fn vs H Q E:=λvs H Q E h=>by
  obtain⟨ds,r,_,_,_,e,_⟩:=h
  rw[hn]at e;cases e
 exact zAh (j:=0) (k:=0) (fd:=fd) (ps:=ps) ⟨λvs H Q E h=>absurd h (no vs H Q E),λA outer s H args us vs Q E _ _ _ _ h=>absurd h (no vs H Q E)⟩ (Nat.le_refl _) hm hk hb
theorem z0d{x:Str}{st:Stmt}{f:Addr}{fd:FuncData}{N ps:List Str}{n:Nat}{mu:List Str}{ss:List Sx}{l:List (Str×Fn)}{W:Wd}{fl:List Bool}{np m:Nat}(X0:Txt T P w mg {W with F:=Fl l})(F:Fun T.K x x st f fd)(S:FnScope N ps (defScope st))(hm:mg x=some (.ref f))(hb:Binds T.K fd ps [])
  (htr:trs (trS true n N (defScope st).names mu) (defBody st)=some ss) (hn:np=ps.length) (hN:m=N.length) (calls:∀p∈l,CallIn T P w mg base k p.1 p.2):CallIn T P w mg base (k+1) x (mkFn {W with F:=Fl l} np m fl ss):=by
 subst hn hN
 refine zAh (zF9 (fn:=mkFn {W with F:=Fl l} ps.length N.length fl ss) X0 F S htr (z7V calls) λds r e=>?_) (Nat.le_refl _) hm F.kp hb
 simp only[mkFn]at e ⊢
 split at e
 ·rename_i h;exact⟨h,e⟩
 ·cases e
theorem mt:¬(("many":Str)="ties"):=by decide +kernel
theorem zDQ(n:Int)(l:Addr):putF "ties" (.ref l) (putF "many" (.int n) [])=([("many",V.int n),("ties",V.ref l)]:List (Str×V)):=by
 show(if("many":Str)="ties" then [(("many":Str),V.ref l)]else(("many":Str),V.int n)::putF "ties" (V.ref l) [])=_
 rw[if_neg mt]
 rfl
def spInit(T:Tx)(chk:Fn):Sp:=λvs H Q E=>∃(x dx:Addr)(n:Int)(ts:List D)(v:V)(r:R),vs=[.ref x,.int n,v]/\H x=some (.ins T.CT dx [])/\Rep T H (λ_=>True) (.lst ts) v/\lfs ts=true/\chk.fl=[]/\chk.m [.int n,.lst ts]=some r/\
 (match r with
  | .ok _=>∀(l:Addr)(xs:List V)(H':Hp),H l=none->H' x=some (.ins T.CT dx [("many",.int n),("ties",.ref l)])->H' l=some (.lst xs)->Reps T H' (λ_=>True) ts xs->(∀b o,H b=some o->b≠x->H' b=some o)->Q .non H'
  | .exc c=>∀H',Same H H'->E (T.cv c) none H')
end
mutual
theorem Rep.tups{T:Tx}{H H':Hp}{C C':Addr->Prop}(hH:∀b o,H b=some o->NotL o->(∀C dx fs,o≠ .ins C dx fs)->H' b=some o):∀(d:D)(v:V),lf d=true->Rep T H C d v->Rep T H' C' d v
 | .non,v,_,h=>h
 | .bl _,v,_,h=>h
 | .int _,v,_,h=>h
 | .str _,v,_,h=>h
 | .lst ds,v,l,h=>by simp[lf]at l
 | .tup ds,v,l,h=>by
  obtain⟨a,xs,e,q,r⟩:=h
  refine⟨a,xs,e,?_,Reps.tups hH ds xs (by simpa [lf] using l) r⟩
  rcases q with(q|⟨o,q⟩)|q
  ·exact .inl (.inl (hH _ _ q (λ_ z=>nomatch z) (λ_ _ _ z=>nomatch z)))
  ·exact .inl (.inr ⟨o,hH _ _ q (λ_ z=>nomatch z) (λ_ _ _ z=>nomatch z)⟩)
  ·exact .inr q
 | .tree n ts,v,l,h=>by simp[lf]at l
 | .scr ns,v,_,h=>by
  obtain⟨a,e,q⟩:=h
  exact⟨a,e,q.imp (λ⟨o,q⟩=>⟨o,hH _ _ q (λ_ z=>nomatch z) (λ_ _ _ z=>nomatch z)⟩) id⟩
 | .exc c,v,_,h=>by
  obtain⟨a,e,q⟩:=h
  exact⟨a,e,hH _ _ q (λ_ z=>nomatch z) (λ_ _ _ z=>nomatch z)⟩
theorem Reps.tups{T:Tx}{H H':Hp}{C C':Addr->Prop}(hH:∀b o,H b=some o->NotL o->(∀C dx fs,o≠ .ins C dx fs)->H' b=some o):∀(ds:List D)(vs:List V),lfs ds=true->Reps T H C ds vs->Reps T H' C' ds vs
 | [],vs,_,h=>h
 | d::ds,vs,l,h=>by
  obtain⟨w,ws,e,r,rs⟩:=h
  simp only[lfs,Bool.and_eq_true]at l
  exact⟨w,ws,e,Rep.tups hH d w l.1 r,Reps.tups hH ds ws l.2 rs⟩
end
section
variable{T:Tx}{P:Program}{w:World}{mg:Str->Option Value}{base:Heap}{k:Nat}
structure InitOk(st:Stmt):Prop where
 sc:FnScope ["self","many","ties"] ["self","many","ties"] (defScope st)
 body:∃p1 p2 p3 p4 p5 p6 p7 p8 p9 p10 p11 p12 p13 p14 p15,defBody st=[.Expr (.Call (.Name "check_tree" p1) [.Name "many" p2,.Name "ties" p3] [] p4) p5,.Assign [.Attribute (.Name "self" p6) "many" p7] (.Name "many" p8) p9,
  .Assign [.Attribute (.Name "self" p10) "ties" p11] (.Call (.Name "list" p12) [.Name "ties" p13] [] p14) p15]
 v0:(defScope st).names.lookup ("self":Str)=some .local
 v1:(defScope st).names.lookup ("many":Str)=some .local
 v2:(defScope st).names.lookup ("ties":Str)=some .local
 g1:(defScope st).names.lookup ("check_tree":Str)=some .globalImplicit
 g2:(defScope st).names.lookup ("list":Str)=some .globalImplicit
theorem zDR{st:Stmt}{f:Addr}{fd:FuncData}{chk:Fn}{W:Wd}(X0:Txt T P w mg W)(I:InitOk st)(F:Fun T.K "__init__" "Tree.__init__" st f fd)(cc:CallIn T P w mg base k "check_tree" chk):FnOk P w T.K mg base (CX1 P w) (k+1) f fd ["self","many","ties"] (spInit T chk):=by
 refine F.ok1 I.sc (λvs H Q E h=>?_) (λcdv A outer s H vs Q E hr h=>?_)
 ·obtain⟨x,dx,n,ts,v,r,rfl,_⟩:=h
  rfl
 ·obtain⟨x,dx,n,ts,v,r,rfl,hx,rv,hl,hfl,hm,q⟩:=h
  obtain⟨p1,p2,p3,p4,p5,p6,p7,p8,p9,p10,p11,p12,p13,p14,p15,hb⟩:=I.body
  rw[hb]
  let X:=cxOf (CX1 P w) P w T.K mg base ["self","many","ties"] "Tree.__init__" (defScope st) f cdv A outer s H E
  have pv0:∀p,PE X (.Name "self" p) (tVar 0):=λp=>z3w rfl (.inl I.v0) (by decide +kernel) (by decide +kernel)
  have pv1:∀p,PE X (.Name "many" p) (tVar 1):=λp=>z3w rfl (.inl I.v1) (by decide +kernel) (by decide +kernel)
  have pv2:∀p,PE X (.Name "ties" p) (tVar 2):=λp=>z3w rfl (.inl I.v2) (by decide +kernel) (by decide +kernel)
  have c1:PE X (.Call (.Name "check_tree" p1) [.Name "many" p2,.Name "ties" p3] [] p4) _:=cc X rfl rfl rfl rfl rfl hr E (z6e λ_ _ _ z=>z) I.g1 (by decide +kernel) _ _ _ _ _ (z0G (pv1 _) (z0G (pv2 _) z2f rfl) rfl) rfl rfl
  have c2:PE X (.Call (.Name "list" p12) [.Name "ties" p13] [] p14) _:=z1w z3x I.g2 (X0.blt _ (by decide +kernel)) (by decide +kernel) (z0G (pv2 _) z2f rfl) (by decide +kernel) (by decide +kernel) rfl rfl
  refine⟨_,z4T (z3H c1 rfl) (z4T (zCt (pv0 _) (pv1 _) rfl) (zCE (zCt (pv0 _) c2 rfl))),?_⟩
  obtain⟨p,xs,rfl,_,hp,rs⟩:=rv
  refine⟨.int n,rfl,.ref p,rfl,?_⟩
  refine⟨[.int n,.lst ts],r,λ_=>True,⟨_,_,rfl,rfl,_,_,rfl,⟨p,xs,rfl,trivial,hp,rs⟩,rfl⟩,by rw[hfl];unfold FlowOk;trivial,hm,?_⟩
  cases r with
  | exc c=>exact q
  | ok d=>
   intro v' H1 s1 _
   have npx:p≠x:=zGd hp hx (by intro z;cases z)
   refine⟨.int n,rfl,.ref x,rfl,x,T.CT,dx,[],rfl,s1 _ _ hx,X0.tx.cl,X0.tx.nM,(by show 0<1000;decide),?_⟩
   refine⟨.ref p,rfl,p,xs,rfl,.inl (SqL.of (by rw[z0f npx];exact s1 _ _ hp)),λl hl'=>?_⟩
   have nlx:x≠l:=z0u z0m hl'
   refine⟨.ref x,rfl,x,T.CT,dx,_,rfl,by rw[z0f nlx,z0m],X0.tx.cl,X0.tx.nT,(by show 1<1000;decide),?_⟩
   have hl1:H1 l=none:=by rw[z0f nlx.symm]at hl';exact hl'
   refine q l xs _ (s1.free hl1) ?_ ?_ ?_ λb o e nb=>?_
   ·rw[z0m,zDQ]
   ·rw[z0f nlx.symm,z0m]
   ·refine Reps.tups (λb o e nL nI=>?_) ts xs hl rs
    have nb:b≠x:=λz=>by subst z;rw[hx]at e;cases e;exact nI _ _ _ rfl
    have nb':b≠l:=λz=>by subst z;rw[s1.free hl1]at e;cases e
    rw[z0f nb,z0f nb',z0f nb]
    exact s1 _ _ e
   ·have nb':b≠l:=λz=>by subst z;rw[s1.free hl1]at e;cases e
    rw[z0f nb,z0f nb',z0f nb]
    exact s1 _ _ e
theorem zAj{chk:Fn}{Q:VK}{E:XK}{vs:List V}{H1:Hp}(hfl:chk.fl=[])(sp:spD T (treeFn chk) (vs++[]) H1 Q E)(x dx:Addr)(nx:H1 x=none)(ndx:H1 dx=none)(nex:dx≠x):spInit T chk (.ref x::(vs++[])) (L2.upd (L2.upd H1 dx (.own x)) x (.ins T.CT dx [])) (λv H2=>v= .non/\Q (.ref x) H2) E:=by
 obtain⟨ds,r,Pr,rs,_,hm,q⟩:=sp
 have s0:Same H1 (L2.upd (L2.upd H1 dx (.own x)) x (.ins T.CT dx [])):=λb o e=>by
  rw[z0f (z0u e nx),z0f (z0u e ndx)];exact e
 have fin:∀(n:Int)(ts:List D)(v:V),Rep T H1 (λ_=>True) (.lst ts) v->lfs ts=true->r= .ok (.tree n ts)-> ∀(l:Addr)(xs:List V)(H':Hp),(L2.upd (L2.upd H1 dx (.own x)) x (.ins T.CT dx [])) l=none->H' x=some (.ins T.CT dx [("many",.int n),("ties",.ref l)])->H' l=some (.lst xs)->Reps T H' (λ_=>True) ts xs->(∀b o,(L2.upd (L2.upd H1 dx (.own x)) x (.ins T.CT dx [])) b=some o->b≠x->H' b=some o)->V.non=V.non/\Q (.ref x) H':=λn ts v rv hl hr' l xs H' h1 h2 h3 h4 h5=>by
  subst hr'
  refine⟨rfl,q (.ref x) H' (λb o e=>h5 b o (s0 b o e) (z0u e nx)) ?_⟩
  exact⟨x,dx,l,xs,rfl,.inl (s0.free h1),h2,h3,Reps.free ts xs hl h4⟩
 unfold treeFn at hm
 dsimp only at hm
 split at hm
 ·rename_i n ts _
  obtain⟨v1,vs1,e1,hv1,v2,vs2,rfl,hv2,rfl⟩:=rs
  cases hv1
  split at hm
  ·rename_i hl
   split at hm
   ·rename_i d hc
    cases hm
    exact⟨x,dx,n,ts,v2,.ok d,by rw[e1],z0m,hv2.same s0,hl,hfl,hc,fin n ts v2 hv2 hl rfl⟩
   ·rename_i c hc
    cases hm
    exact⟨x,dx,n,ts,v2,.exc c,by rw[e1],z0m,hv2.same s0,hl,hfl,hc,λH' s'=>q H' (s0.trans s')⟩
   ·cases hm
  ·cases hm
 ·cases hm
theorem zAk{st:Stmt}{f:Addr}{fd:FuncData}{chk:Fn}{W:Wd}(X0:Txt T P w mg W)(In:InitOk st)(F:Fun T.K "__init__" "Tree.__init__" st f fd)(hb:Binds T.K fd ["self","many","ties"] [])(M:Mk T.K T.CT f)(hC:mg "Tree"=some (.ref T.CT))(hfl:chk.fl=[])(cc:CallIn T P w mg base k "check_tree" chk):
  CallIn T P w mg base (k+2) "Tree" (treeFn chk):=by
 intro X eP ew eK em eb hr E hp hg hd e es t p pos ha hs hpl
 subst eP ew em eb
 have G:=zDR X0 In F cc
 rw[<-eK]at G hb M
 intro pins s σ H Q I h
 refine wpAny_Call_Name_kw (z3G I hg hC ?_ hd)
 refine PySem.W.callWith_K (h₀:=X.base) I.ok.mod.kin M.kp (thn (ha pos pins s σ H _ I h) λus s1⟨vs,H1,I1,r,q⟩=>⟨I1.kIn,?_⟩) hs hpl
 exact zBd M G hr hb .nil hp I1 r (zAj hfl q)
end
end Ev
namespace Ev
open PySem L2
theorem zFA(K:PySem.W.Frag):∀t c b,tyTab t c=some b->PySem.W.kitOne K (.type t) (.type c)=some b:=by
 intro t c b h
 unfold tyTab at h
 split at h
 ·rename_i e;subst e;cases h;unfold PySem.W.kitOne;rw[if_pos (by simp)]
 ·rename_i ne
  split at h
  ·rename_i e;obtain⟨rfl,rfl⟩:=e;cases h;rfl
  ·rename_i nb
   split at h
   ·rename_i hm
    cases h
    rw[Bool.and_eq_true,List.contains_iff_mem,List.contains_iff_mem]at hm
    obtain⟨h1,h2⟩:=hm
    simp only[List.mem_cons,List.not_mem_nil,or_false]at h1 h2
    rcases h1 with rfl|rfl|rfl|rfl|rfl<;>rcases h2 with rfl|rfl|rfl|rfl<;>first|exact absurd rfl ne|exact absurd ⟨rfl,rfl⟩ nb|rfl
   ·cases h
def spLaw(K:PySem.W.Frag):Sp:=λvs H Q _=>∃(a:Addr)(ns:List Int),vs=[.ref a]/\Only H/\SqL K H a (ns.map V.int)/\ns.length<=63/\ ∀H',Q (.bl true) H'
theorem zDS{T:Tx}{P:Program}{w:World}{mg:Str->Option Value}{base:Heap}{k:Nat}{f:Addr}{fd:FuncData}{fn:Fn}(hfl:fn.fl=[])(hm:∀ns:List Int,ns.length<=63->fn.m [.scr ns]=some (.ok (.bl true)))(G:FnOk P w T.K mg base (CX1 P w) k f fd ["script"] (spD T fn)):
  FnOk P w T.K mg base (CX1 P w) k f fd ["script"] (spLaw T.K):=G.imp λvs H Q E⟨a,ns,e,hO,hS,hl,q⟩=>by
 subst e
 refine⟨[.scr ns],.ok (.bl true),λ_=>True,⟨_,_,rfl,⟨a,rfl,?_⟩,rfl⟩,by rw[hfl];unfold FlowOk;trivial,hm ns hl,λv H' _ r=>?_⟩
 ·rcases hS with(h|h)|h
  ·rcases hO a with z|⟨o,xs,z⟩<;>rw[z]at h<;>cases h
  ·exact .inl h
  ·exact .inr h
 ·rw[show v= .bl true from r];exact q H'
theorem zFB{P:Program}{w:World}{H:Hp}{s:Shared}{e:Value}{s':Shared}(h:CX1 P w [] H s (λ_ _ _=>False) e s'):False:=by
 obtain⟨_,_,_,_,_,_,_,_,_,z⟩:=h
 exact z
theorem walk{l:PySem.W.OpenLaw}{q:Program}{loose:List Str}{XP:(Str->Option Value)->Heap->Prop}{YP:World->Heap->Prop}{d:DefRec}{K:Params->PySem.W.Frag}(hn:l.most=some 63)(hdf:d.params.defaults=[])
  (hY:∀(w:World)(h:Heap),YP w h->(K w.params).In h)
  (F:∀(w:World)(mg:Str->Option Value)(fa:Addr)(h:Heap),(K w.params).In h->h.Ns mainGlobals mg->mg d.name=some (.ref fa)->
   ∃fd:FuncData,(∀(s:Shared)(u:Value),BindsTo s fd ⟨[u],[]⟩ [("script",u)])/\ ∀base:Heap,(K w.params).In base->base.Ns mainGlobals mg->FnOk l.prog w (K w.params) mg base (CX1 l.prog w) 60 fa fd ["script"] (spLaw (K w.params))):
  PySem.W.WalkO q loose XP YP l.row.toRowW d [] (λf vs=>PySem.call f vs):=
 L2.zCT (n:=63) (k:=60) (x:="script") (CX:=λw=>CX1 l.prog w) (sp:=λw=>spLaw (K w.params)) hn (by decide) hdf ⟨rfl,by decide,by decide⟩ hY F (λ_ _ a ns hl hO hS=>⟨a,ns,rfl,hO,hS,hl,λ_=>rfl⟩) λ_ _ _ _ _ z=>zFB z
end Ev
namespace Ev
open PySem L2
section
variable{T:Tx}{W:Wd}{cm:Bool}{k:Nat}{X:Cx}{N:List Str}{sc:List (Str×NameKind)}{E:XK}
def Hd(K:PySem.W.Frag)(x:Str)(st:Stmt)(f:Addr):Prop:=∃(od an:Option Addr)(sl:Array (Option Value))(oc kV dc pm cd ct:Value),PySem.W.nsIn K mainGlobals x=some (some (.ref f))/\K.lookup f=some ⟨oc,od,.func (PySem.W.fnOf x x (defArgs st) (defBody st) (defScope st) .none kV dc pm an cd ct),sl⟩/\PySem.W.codeIn K cd x=true/\PySem.W.keepIn K (.ref f)=true
end
end Ev
namespace Bd
open PySem Ev
def z36:List Sx:=[.ret (.and (.cmp .eq (.blt .len [(.var 1)]) (.int 2)) (.chain3 .le .lt .lt (.int 0) (.ix (.var 1) (.int 0)) (.ix (.var 1) (.int 1)) (.var 0)))]
def z2b:List Sx:=[.ret (.blt .all [(.compR [none,none,some 0] 1 (.int 1) (.blt .len [(.var 0)]) none (.cmp .lt (.ix (.var 2) (.bin .sub (.var 1) (.int 1))) (.ix (.var 2) (.var 1))))])]
def z2y:List Sx:=[.asg 2 false (.blt .listrange1 [(.var 0)]),.forL (.name 3) (.var 1) [.asg 4 false (.ix (.var 2) (.ix (.var 3) (.int 0))),.asg 5 false (.ix (.var 2) (.ix (.var 3) (.int 1))),.asg 2 false (.compL [none,none,some 5,some 4] (.name 1) (.var 2) none (.ifx (.cmp .eq (.var 1) (.var 2)) (.var 3) (.var 1)))],.ret (.cmp .eq (.count (.var 2) (.ix (.var 2) (.int 0))) (.var 0))]
def z1E:List Sx:=[.ifs (.not (.chain2 .le .le (.int 1) (.var 0) (.glob "MOST_PLACES"))) [.raise "BadTree" (.fstr "a tree has 1 to " "MOST_PLACES" " places")] [],.ifs (.cmp .ne (.blt .len [(.var 1)]) (.bin .sub (.var 0) (.int 1))) [.raise "BadTree" (.str "a tree has one tie less than places")] [],.ifs (.not (.blt .all [(.compL [none,none,some 0] (.name 1) (.var 1) none (.call "is_tie" [(.var 2),(.var 1)]))])) [.raise "BadTree" (.str "a tie holds two places of the tree, the lesser first")] [],.ifs (.not (.call "is_rising" [(.var 1)])) [.raise "BadTree" (.str "the ties of a tree rise, and none is there twice")] [],.ifs (.not (.call "is_whole" [(.var 0),(.var 1)])) [.raise "BadTree" (.str "the ties of a tree lead from each place to each other one")] []]
def z1F:List Sx:=[.asg 2 false (.compL [none,none,some 1] (.name 1) (.fld (.var 0) true) (some (.cmp .eq (.ix (.var 1) (.int 1)) (.var 2))) (.ix (.var 1) (.int 0))),.asg 3 false (.compL [none,none,some 1] (.name 1) (.fld (.var 0) true) (some (.cmp .eq (.ix (.var 1) (.int 0)) (.var 2))) (.ix (.var 1) (.int 1))),.ret (.bin .add (.var 2) (.var 3))]
def z1o:List Sx:=[.ifs (.cmp .lt (.var 1) (.blt .len [(.var 0)])) [.ret (.ix (.var 0) (.var 1))] [],.ret (.int 0)]
def z2U:List Sx:=[.asg 3 false (.lst [(.int 48271),(.int 69621),(.int 16807),(.int 39373),(.int 30269),(.int 40014),(.int 40692),(.int 50021),(.int 61687),(.int 71993),(.int 83869),(.int 95561),(.int 30307)]),.asg 4 false (.bin .add (.bin .add (.bin .mul (.bin .add (.bin .mod (.var 0) (.int 2147483647)) (.int 12345)) (.ix (.var 3) (.bin .mod (.var 1) (.int 13)))) (.bin .mul (.int 977) (.var 1))) (.bin .mul (.int 7919) (.bin .fdiv (.var 1) (.int 13)))),.asg 4 false (.bin .mod (.var 4) (.int 1000000007)),.ret (.bin .mod (.bin .fdiv (.bin .mod (.bin .add (.bin .mul (.var 4) (.var 4)) (.bin .mul (.int 48271) (.var 1))) (.int 1000000007)) (.int 7)) (.var 2))]
def z1p:List Sx:=[.asg 3 false (.call "_law_cell_at" [(.var 0),(.var 1)]),.asg 4 false (.bin .add (.int 1) (.call "_law_mix" [(.var 3),(.int 1),(.var 2)])),.asg 5 false (.call "_law_mix" [(.var 3),(.int 2),(.int 4)]),.asg 6 true (.lst []),.forR 7 (.int 0) (.var 4) [.ins 6 (.call "_law_mix" [(.call "_law_cell_at" [(.var 0),(.bin .add (.var 1) (.int 1))]),(.var 7),(.bin .add (.var 7) (.int 1))]) (.var 7)],.asg 8 true (.lst []),.forR 7 (.int 1) (.var 4) [.asg 9 false (.call "_law_mix" [(.call "_law_cell_at" [(.var 0),(.bin .add (.var 1) (.int 2))]),(.var 7),(.var 7)]),.ifs (.cmp .eq (.var 5) (.int 1)) [.asg 9 false (.blt .max [(.int 0),(.bin .sub (.bin .sub (.var 7) (.int 1)) (.call "_law_mix" [(.call "_law_cell_at" [(.var 0),(.bin .add (.var 1) (.int 2))]),(.var 7),(.int 2)]))])] [],.ifs (.and (.cmp .eq (.var 5) (.int 2)) (.cmp .gt (.var 7) (.int 1))) [.asg 9 false (.call "_law_mix" [(.call "_law_cell_at" [(.var 0),(.bin .add (.var 1) (.int 2))]),(.var 7),(.int 2)])] [],.par [10,11] [(.ix (.var 6) (.var 7)),(.ix (.var 6) (.var 9))],.app 8 (.tup [(.blt .min [(.var 10),(.var 11)]),(.blt .max [(.var 10),(.var 11)])])],.ret (.tup [(.var 4),(.blt .sorted [(.var 8)])])]
def z1q:List Sx:=[.ifs (.cmp .ne (.blt .sorted [(.var 1)]) (.blt .listrange1 [(.fld (.var 0) false)])) [.raise "BadMarks" (.str "marks hold each number from 0 to one less than the places once")] []]
def z1r:List Sx:=[.expr (.call "check_marks" [(.var 0),(.var 1)]),.ret (.compL [none,none,some 1] (.name 1) (.fld (.var 0) true) none (.blt .abs [(.bin .sub (.ix (.var 2) (.ix (.var 1) (.int 0))) (.ix (.var 2) (.ix (.var 1) (.int 1))))]))]
def z2V:List Sx:=[.asg 2 false (.call "differences" [(.var 0),(.var 1)]),.ret (.cmp .eq (.blt .lset [(.var 2)]) (.blt .len [(.var 2)]))]
def z5n:List Sx:=[.expr (.call "check_marks" [(.var 0),(.var 1)]),.ret (.compL [none,none,some 0] (.name 1) (.var 1) none (.bin .sub (.bin .sub (.fld (.var 2) false) (.int 1)) (.var 1)))]
def z1s:List Sx:=[.asg 3 false (.call "_law_cell_at" [(.var 0),(.var 1)]),.asg 4 false (.bin .add (.int 1) (.call "_law_mix" [(.var 3),(.int 1),(.var 2)])),.asg 5 true (.lst []),.forR 6 (.int 0) (.var 4) [.ins 5 (.call "_law_mix" [(.call "_law_cell_at" [(.var 0),(.bin .add (.var 1) (.int 1))]),(.var 6),(.bin .add (.var 6) (.int 1))]) (.var 6)],.asg 7 true (.lst []),.asg 8 false (.int 0),.forR 6 (.int 1) (.var 4) [.par [9,10] [(.ix (.var 5) (.var 6)),(.ix (.var 5) (.var 8))],.app 7 (.tup [(.blt .min [(.var 9),(.var 10)]),(.blt .max [(.var 9),(.var 10)])]),.ifs (.cmp .eq (.call "_law_mix" [(.call "_law_cell_at" [(.var 0),(.bin .add (.var 1) (.int 2))]),(.var 6),(.int 2)]) (.int 0)) [.asg 8 false (.var 6)] []],.ret (.tup [(.var 4),(.blt .sorted [(.var 7)])])]
def z1G:List Sx:=[.ifs (.not (.call "is_good" [(.var 0),(.var 1)])) [.raise "NotGood" (.str "two ties have the same difference")] []]
def z02:List Sx:=[.ret (.compL [none,none,some 1] (.name 1) (.call "neighbours" [(.var 0),(.var 1)]) (some (.cmp .lt (.var 1) (.var 2))) (.var 1))]
def z2c:List Sx:=[.ret (.compR [none,none,some 0] 1 (.int 0) (.fld (.var 0) false) none (.call "lesser_neighbours" [(.var 2),(.var 1)]))]
def z5o:List Sx:=[.asg 3 true (.lst []),.forR 4 (.int 0) (.blt .len [(.var 0)]) [.ifs (.cmp .notin (.var 4) (.var 1)) [.asg 5 false (.bin .add (.var 2) (.compL [none,none,some 1,some 4] (.name 1) (.ix (.var 0) (.blt .len [(.var 1)])) none (.blt .abs [(.bin .sub (.ix (.var 2) (.var 1)) (.var 3))]))),.ifs (.cmp .eq (.blt .lset [(.var 5)]) (.blt .len [(.var 5)])) [.app 3 (.tup [(.bin .add (.var 1) (.lst [(.var 4)])),(.var 5)])] []] []],.ret (.var 3)]
def z2z:List Sx:=[.ifs (.cmp .eq (.blt .len [(.var 1)]) (.blt .len [(.var 0)])) [.ret (.lst [(.var 1)])] [],.asg 3 true (.lst []),.forL (.name 4) (.call "steps" [(.var 0),(.var 1),(.var 2)]) [.ext 3 (.call "all_from" [(.var 0),(.ix (.var 4) (.int 0)),(.ix (.var 4) (.int 1))])],.ret (.var 3)]
def z3l:List Sx:=[.ret (.call "all_from" [(.call "back_ties" [(.var 0)]),(.lst []),(.lst [])])]
def z0Z:List Sx:=[.ret (.compR [none,none,some 0] 1 (.int 0) (.fld (.var 0) false) (some (.cmp .ge (.blt .len [(.call "neighbours" [(.var 2),(.var 1)])]) (.int 2))) (.var 1))]
def z04:List Sx:=[.asg 2 false (.call "inner_places" [(.var 0)]),.ret (.compL [none,none,some 2] (.name 1) (.call "neighbours" [(.var 0),(.var 1)]) (some (.cmp .isin (.var 1) (.var 2))) (.var 1))]
def z2W:List Sx:=[.ret (.blt .all [(.compL [none,none,some 0] (.name 1) (.call "inner_places" [(.var 0)]) none (.cmp .le (.blt .len [(.call "inner_neighbours" [(.var 2),(.var 1)])]) (.int 2)))])]
def z2X:List Sx:=[.forL (.name 1) (.call "inner_places" [(.var 0)]) [.ifs (.cmp .le (.blt .len [(.call "inner_neighbours" [(.var 0),(.var 1)])]) (.int 1)) [.ret (.var 1)] []],.ret (.int 0)]
def z2d:List Sx:=[.asg 1 true (.lst [(.call "row_end" [(.var 0)])]),.asg 2 false (.call "inner_neighbours" [(.var 0),(.ix (.var 1) (.int 0))]),.while_ (.cmp .gt (.blt .len [(.var 2)]) (.int 0)) [.app 1 (.ix (.var 2) (.int 0)),.asg 2 false (.compL [none,none,some 1] (.name 1) (.call "inner_neighbours" [(.var 0),(.ix (.var 1) (.neg (.int 1)))]) (some (.cmp .notin (.var 1) (.var 2))) (.var 1))],.ret (.var 1)]
def z5p:List Sx:=[.asg 1 false (.call "inner_row" [(.var 0)]),.asg 2 true (.lst [(.ix (.var 1) (.int 0))]),.asg 3 true (.lst []),.forR 4 (.int 0) (.blt .len [(.var 1)]) [.asg 5 false (.compL [none,none,some 1] (.name 1) (.call "neighbours" [(.var 0),(.ix (.var 1) (.var 4))]) (some (.cmp .notin (.var 1) (.var 2))) (.var 1)),.asg 6 false (.bin .add (.var 5) (.slice (.var 1) (some (.bin .add (.var 4) (.int 1))) (some (.bin .add (.var 4) (.int 2))))),.ifs (.cmp .eq (.bin .mod (.var 4) (.int 2)) (.int 0)) [.ext 3 (.var 6)] [.ext 2 (.var 6)]],.ret (.tup [(.var 2),(.var 3)])]
def z1a:List Sx:=[.ifs (.not (.call "is_comb" [(.var 0)])) [.raise "NoComb" (.str "a place with two ties or more has more than two such neighbours")] [],.asg 1 false (.call "sides" [(.var 0)]),.asg 2 true (.bin .mul (.lst [(.int 0)]) (.fld (.var 0) false)),.forR 3 (.int 0) (.blt .len [(.ix (.var 1) (.int 0))]) [.setix 2 (.ix (.ix (.var 1) (.int 0)) (.var 3)) (.bin .sub (.bin .sub (.fld (.var 0) false) (.int 1)) (.var 3))],.forR 3 (.int 0) (.blt .len [(.ix (.var 1) (.int 1))]) [.setix 2 (.ix (.ix (.var 1) (.int 1)) (.var 3)) (.var 3)],.ret (.var 2)]
def z29:List Sx:=[.ret (.bin .sub (.bin .mul (.int 2) (.fld (.var 0) false)) (.int 1))]
def z3m:List Sx:=[.asg 4 false (.bin .mod (.bin .add (.ix (.var 1) (.ix (.var 2) (.int 0))) (.var 3)) (.call "ring_size" [(.var 0)])),.asg 5 false (.bin .mod (.bin .add (.ix (.var 1) (.ix (.var 2) (.int 1))) (.var 3)) (.call "ring_size" [(.var 0)])),.ret (.tup [(.blt .min [(.var 4),(.var 5)]),(.blt .max [(.var 4),(.var 5)])])]
def z3n:List Sx:=[.ret (.blt .sorted [(.compL [none,none,some 1,some 2,some 0] (.name 1) (.fld (.var 0) true) none (.call "laid_tie" [(.var 4),(.var 2),(.var 1),(.var 3)]))])]
def z5q:List Sx:=[.expr (.call "check_good" [(.var 0),(.var 1)]),.ret (.compR [none,none,some 1,some 0] 1 (.int 0) (.call "ring_size" [(.var 0)]) none (.call "one_copy" [(.var 3),(.var 2),(.var 1)]))]
def z1H:List Sx:=[.asg 2 true (.lst []),.forL (.tup [3,4]) (.var 0) [.ext 2 (.lst [(.var 3),(.var 4)])],.ret (.blt .sorted [(.compR [none,none,some 2] 1 (.int 0) (.var 1) none (.count (.var 2) (.var 1)))])]
end Bd
namespace Ev
open PySem (Str)
section
variable{W:Wd}{ρ ρ1 ρ2:Env}{s:Sx}{r:List Sx}{d x y:D}{t u:Tag}{e a b src el:Ex}{i:Nat}{o:Out}
theorem z0b(h:evS W ρ s=some (.nx ρ1)):evSs W ρ (s::r)=evSs W ρ1 r:=by(conv=>lhs;whnf);rw[h]
theorem z0i(h:evS W ρ s=some (.rt d t)):evSs W ρ (s::r)=some (.rt d t):=by(conv=>lhs;whnf);rw[h]
theorem z1z{c:Str}(h:evS W ρ s=some (.exc c)):evSs W ρ (s::r)=some (.exc c):=by(conv=>lhs;whnf);rw[h]
theorem z0o(h:evS W ρ s=some o):evSs W ρ [s]=some o:=by
 (conv=>lhs;whnf);rw[h]
 cases o<;>rfl
theorem z03(h:evE W ρ e=some (.ok d .new)):evS W ρ (.asg i false e)=some (.nx (ρ.set i (some ⟨d,false,.fl⟩))):=by
 (conv=>lhs;whnf);rw[h]
 cases d<;>rfl
theorem z1L{ds:List D}(h:evE W ρ e=some (.ok (.lst ds) .new))(hl:lfs ds=true):evS W ρ (.asg i true e)=some (.nx (ρ.set i (some ⟨.lst ds,true,.fl⟩))):=by
 (conv=>lhs;whnf);rw[h]
 show some (Out.nx (ρ.set i (some ⟨.lst ds,true&&lfs ds,.fl⟩)))=_
 rw[hl];rfl
theorem z0I(h:evE W (disownAll ρ) e=some (.ok d t))(hr:Ev.rt d t=u):evS W ρ (.ret e)=some (.rt d u):=by
 (conv=>lhs;whnf);rw[h]
 show some (Out.rt d (Ev.rt d t))=_
 rw[hr]
theorem zAl(h:evE W ρ e=some (.ok d t)):evS W ρ (.expr e)=some (.nx ρ):=by
 (conv=>lhs;whnf);rw[h]
theorem z3o{c:Str}(h:evE W ρ e=some (.exc c)):evS W ρ (.expr e)=some (.exc c):=by
 (conv=>lhs;whnf);rw[h]
theorem s_if{bt be:List Sx}{c:Bool}(h:evE W ρ e=some (.ok (.bl c) t)):evS W ρ (.ifs e bt be)=if c then evSs W ρ bt else evSs W ρ be:=by
 (conv=>lhs;whnf);rw[h]
 cases c<;>rfl
theorem z2Y{bt be:List Sx}(h:evE W ρ e=some (.ok (.bl true) t)):evS W ρ (.ifs e bt be)=evSs W ρ bt:=by
 (conv=>lhs;whnf);rw[h]
theorem z1B{bt be:List Sx}(h:evE W ρ e=some (.ok (.bl false) t)):evS W ρ (.ifs e bt be)=evSs W ρ be:=by
 (conv=>lhs;whnf);rw[h]
theorem zBI{ds:List D}{c c':Cl}(ho:ρ[i]? = some (some ⟨.lst ds,true,c⟩))(h:evE W ρ e=some (.ok d t))(hc:tagC c (Ev.rt d t)=some c')(hl:ds.length<lim):evS W ρ (.app i e)=some (.nx (ρ.set i (some ⟨.lst (ds++[d]),true,c'⟩))):=by
 (conv=>lhs;whnf);rw[ho]
 dsimp only
 rw[h]
 show(match tagC c (Ev.rt d t)with|some c'=>if ds.length<lim then some (Out.nx (ρ.set i (some ⟨.lst (ds++[d]),true,c'⟩)))else none|none=>none)=_
 rw[hc]
 dsimp only
 rw[if_pos hl]
theorem zGw{ds:List D}{c c':Cl}{n:Int}{t':Tag}{k:Ex}(ho:ρ[i]? = some (some ⟨.lst ds,true,c⟩))(hk:evE W ρ k=some (.ok (.int n) t'))(h:evE W ρ e=some (.ok d t))(hc:tagC c (Ev.rt d t)=some c')(hl:0<=n/\n<=(ds.length:Int)/\ds.length<lim):
  evS W ρ (.ins i k e)=some (.nx (ρ.set i (some ⟨.lst (ds.take n.toNat++d::ds.drop n.toNat),true,c'⟩))):=by
 (conv=>lhs;whnf);rw[ho]
 dsimp only
 rw[hk]
 dsimp only[bindO]
 rw[h]
 dsimp only
 rw[hc]
 dsimp only
 rw[if_pos hl]
theorem z87{ds xs:List D}{c c':Cl}(ho:ρ[i]? = some (some ⟨.lst ds,true,c⟩))(h:evE W ρ e=some (.ok (.lst xs) t))(hc:tagC c (rts xs t.el)=some c')(hl:ds.length+xs.length<=lim):evS W ρ (.ext i e)=some (.nx (ρ.set i (some ⟨.lst (ds++xs),true,c'⟩))):=by
 (conv=>lhs;whnf);rw[ho]
 dsimp only
 rw[h]
 dsimp only[bindO]
 rw[hc]
 dsimp only
 rw[if_pos hl]
theorem zDT{ds:List D}{c c':Cl}{n:Int}{m:Nat}{t':Tag}{k:Ex}(h:evE W ρ e=some (.ok d t))(ho:ρ[i]? = some (some ⟨.lst ds,true,c⟩))(hk:evE W ρ k=some (.ok (.int n) t'))(hm:ixN ds.length n=some m)(hc:tagC c (Ev.rt d t)=some c'):
  evS W ρ (.setix i k e)=some (.nx (ρ.set i (some ⟨.lst (ds.set m d),true,c'⟩))):=by
 (conv=>lhs;whnf);rw[h]
 dsimp only[bindO]
 rw[ho]
 dsimp only
 rw[hk]
 dsimp only
 rw[hm,hc]
theorem zFC{op:Bop}(ha:evE W ρ a=some (.ok x t))(hb:evE W ρ b=some (.ok y u))(hd:binD op x y=some d):evE W ρ (.bin op a b)=some (.ok d (tagB d t u)):=by
 (conv=>lhs;whnf);rw[ha]
 dsimp only[bindR]
 rw[hb]
 dsimp only
 rw[hd]
 cases d<;>rfl
theorem z0t{op:Bop}{i j k:Int}(ha:evE W ρ a=some (.ok (.int i) t))(hb:evE W ρ b=some (.ok (.int j) u))(hd:binD op (.int i) (.int j)=some (.int k)):evE W ρ (.bin op a b)=some (.ok (.int k) .new):=zFC ha hb hd
theorem zAm{op:Bop}{ds:List D}(ha:evE W ρ a=some (.ok x t))(hb:evE W ρ b=some (.ok y u))(hd:binD op x y=some (.lst ds))(hl:lfs ds=true):evE W ρ (.bin op a b)=some (.ok (.lst ds) .new):=by
 rw[zFC ha hb hd]
 simp[tagB,rts,hl]
theorem z09{op:Cop}{c:Bool}(ha:evE W ρ a=some (.ok x t))(hb:evE W ρ b=some (.ok y u))(hd:cmpD op x y=some c):evE W ρ (.cmp op a b)=some (.ok (.bl c) .new):=by
 (conv=>lhs;whnf);rw[ha]
 dsimp only[bindR]
 rw[hb]
 dsimp only
 rw[hd]
 rfl
theorem z88{c:Bool}(ha:evE W ρ a=some (.ok (.bl c) t)):evE W ρ (.not a)=some (.ok (.bl (!c)) .new):=by(conv=>lhs;whnf);rw[ha]
theorem z89{c c':Bool}(ha:evE W ρ a=some (.ok (.bl c) t))(hb:c=true->evE W ρ b=some (.ok (.bl c') .new)):evE W ρ (.and a b)=some (.ok (.bl (c&&c')) .new):=by
 (conv=>lhs;whnf);rw[ha]
 cases c
 ·rfl
 ·show evE W ρ b=_;rw[hb rfl];rfl
theorem v_or{c c':Bool}(ha:evE W ρ a=some (.ok (.bl c) t))(hb:c=false->evE W ρ b=some (.ok (.bl c') .new)):evE W ρ (.or a b)=some (.ok (.bl (c||c')) .new):=by
 (conv=>lhs;whnf);rw[ha]
 cases c
 ·show evE W ρ b=_;rw[hb rfl];rfl
 ·rfl
theorem v_ix(ha:evE W ρ a=some (.ok x t))(hb:evE W ρ b=some (.ok y u))(hd:ixD x y=some d):evE W ρ (.ix a b)=some (.ok d (Ev.rt d t.el)):=by
 (conv=>lhs;whnf);rw[ha]
 dsimp only[bindR]
 rw[hb]
 dsimp only
 rw[hd]
theorem z0L{es:List Ex}{ds:List D}{ts:List Tag}(ha:evE W ρ a=some (.ok d t))(hr:evEs W ρ es=some (.ok ds ts)):evEs W ρ (a::es)=some (.ok (d::ds) (t::ts)):=by
 (conv=>lhs;whnf);rw[ha]
 dsimp only
 rw[hr]
theorem z1M(ha:evE W ρ a=some (.ok d t)):evEs W ρ [a]=some (.ok [d] [t]):=z0L ha rfl
theorem z2g{bl:Blt}(ha:evE W ρ a=some (.ok x t))(hd:bltD bl [x]=some d):evE W ρ (.blt bl [a])=some (.ok d (tagL d [t])):=by
 (conv=>lhs;whnf);rw[z1M ha]
 dsimp only
 rw[hd]
theorem zAn{bl:Blt}(ha:evE W ρ a=some (.ok x t))(hb:evE W ρ b=some (.ok y u))(hd:bltD bl [x,y]=some d):evE W ρ (.blt bl [a,b])=some (.ok d (tagL d [t,u])):=by
 (conv=>lhs;whnf);rw[z0L ha (z1M hb)]
 dsimp only
 rw[hd]
theorem z4s{ds:List D}(ha:evE W ρ a=some (.ok (.lst ds) t)):evE W ρ (.blt .len [a])=some (.ok (.int ds.length) .new):=z2g ha rfl
theorem zAo{f:Str}{fn:Fn}{es:List Ex}{ds:List D}{ts:List Tag}{v:Tag}(hf:W.F f=some fn)(ha:evEs W ρ es=some (.ok ds ts))(hm:fn.m ds=some (.ok d))(ht:flowTag fn.fl ts=some v):evE W ρ (.call f es)=some (.ok d (Ev.rt d v)):=by
 (conv=>lhs;whnf);rw[hf]
 dsimp only
 rw[ha]
 dsimp only
 unfold callR
 rw[hm]
 dsimp only
 rw[ht]
theorem z0c{f:Str}{fn:Fn}{es:List Ex}{ds:List D}{ts:List Tag}(hf:W.F f=some fn)(ha:evEs W ρ es=some (.ok ds ts))(hm:fn.m ds=some (.ok d))(hfl:fn.fl=[]):evE W ρ (.call f es)=some (.ok d .new):=by
 rw[zAo (v:=.new) hf ha hm (by rw[hfl];cases ts<;>rfl)]
 unfold Ev.rt
 split<;>rfl
theorem z4d{f c:Str}{fn:Fn}{es:List Ex}{ds:List D}{ts:List Tag}(hf:W.F f=some fn)(ha:evEs W ρ es=some (.ok ds ts))(hm:fn.m ds=some (.exc c)):evE W ρ (.call f es)=some (.exc c):=by
 (conv=>lhs;whnf);rw[hf]
 dsimp only
 rw[ha]
 dsimp only
 unfold callR
 rw[hm]
theorem z0l(ha:evE W ρ a=some (.ok x t))(hb:evE W ρ b=some (.ok y u)):evEs W ρ [a,b]=some (.ok [x,y] [t,u]):=z0L ha (z1M hb)
theorem z3p{α:Type}{bd:D->Option Env}{tst elf:Env->Option Res}(f:α->D)(p:α->Bool)(g:α->D):∀(xs:List α),(∀x∈xs,∃ρ t,bd (f x)=some ρ/\tst ρ=some (.ok (.bl (p x)) t)/\(p x=true-> ∃t',elf ρ=some (.ok (g x) t')/\keep (g x) t'=some .new))->compGo bd tst elf (xs.map f)=some ((xs.filter p).map g,.new)
 | [],_=>rfl
 | x::xs,h=>by
  obtain⟨ρ,t,h1,h2,h3⟩:=h x List.mem_cons_self
  have ih:=z3p f p g xs λy hy=>h y (List.mem_cons_of_mem _ hy)
  rw[List.map_cons]
  (conv=>lhs;whnf)
  rw[h1]
  dsimp only
  rw[h2]
  cases hp:p x with
  | true=>
   obtain⟨t',h4,h5⟩:=h3 hp
   dsimp only
   rw[h4,ih]
   dsimp only
   rw[h5,List.filter_cons_of_pos hp]
   rfl
  | false=>
   dsimp only
   rw[ih,List.filter_cons_of_neg (by simp[hp])]
theorem z2A{α:Type}{ix:List (Option Nat)}{tg:Tg}{tst:Option Ex}(f:α->D)(xs:List α)(p:α->Bool)(g:α->D)(hs:evE W ρ src=some (.ok (.lst (xs.map f)) t))
  (h:∀x∈xs,∃ρ1 t1,bindT (stIn ix ρ) t.el tg (f x)=some ρ1/\runT W ρ1 tst=some (.ok (.bl (p x)) t1)/\(p x=true-> ∃t2,evE W ρ1 el=some (.ok (g x) t2)/\keep (g x) t2=some .new)):
  evE W ρ (.compL ix tg src tst el)=some (.ok (.lst ((xs.filter p).map g)) .new):=by
 rw[E_cL,hs]
 show compR (compGo (bindT (stIn ix ρ) t.el tg) (λρ'=>runT W ρ' tst) (λρ'=>evE W ρ' el) (xs.map f))=_
 rw[z3p f p g xs h]
 rfl
theorem z0W{α:Type}(xs:List α):xs.filter (λ_=>true)=xs:=by induction xs<;>simp_all
theorem z2B{α:Type}{ix:List (Option Nat)}{tg:Tg}(f:α->D)(xs:List α)(g:α->D)(hs:evE W ρ src=some (.ok (.lst (xs.map f)) t))
  (h:∀x∈xs,∃ρ1 t2,bindT (stIn ix ρ) t.el tg (f x)=some ρ1/\evE W ρ1 el=some (.ok (g x) t2)/\keep (g x) t2=some .new):
  evE W ρ (.compL ix tg src none el)=some (.ok (.lst (xs.map g)) .new):=by
 have:=z2A (W:=W) (ρ:=ρ) (ix:=ix) (tg:=tg) (tst:=none) (el:=el) f xs (λ_=>true) g hs λx hx=>by
  obtain⟨ρ1,t2,h1,h2,h3⟩:=h x hx
  exact⟨ρ1,_,h1,rfl,λ_=>⟨t2,h2,h3⟩⟩
 rw[z0W]at this
 exact this
theorem z3q{ix:List (Option Nat)}{j:Nat}{lo hi:Ex}{tst:Option Ex}{m n:Int}{t':Tag}(p:Int->Bool)(g:Int->D)(hl:evE W ρ lo=some (.ok (.int m) t))(hh:evE W ρ hi=some (.ok (.int n) t'))(hz:smallI m=true/\smallI n=true/\n-m<=1000)
  (h:∀k:Nat,k<(n-m).toNat-> ∃ρ1 t1,bindT (stIn ix ρ) .new (.name j) (.int (m+k))=some ρ1/\runT W ρ1 tst=some (.ok (.bl (p (m+k))) t1)/\(p (m+k)=true-> ∃t2,evE W ρ1 el=some (.ok (g (m+k)) t2)/\keep (g (m+k)) t2=some .new)):
  evE W ρ (.compR ix j lo hi tst el)=some (.ok (.lst ((((List.range (n-m).toNat).map λk:Nat=>m+(k:Int)).filter p).map g)) .new):=by
 rw[E_cR,hl]
 dsimp only[bindR]
 rw[hh]
 dsimp only[onR,toInt,Option.bind]
 rw[if_pos hz]
 show compR (compGo (bindT (stIn ix ρ) .new (.name j)) (λρ'=>runT W ρ' tst) (λρ'=>evE W ρ' el) (rangeD m (n-m).toNat))=_
 have e:rangeD m (n-m).toNat=((List.range (n-m).toNat).map λk:Nat=>m+(k:Int)).map D.int:=by unfold rangeD;rw[List.map_map];rfl
 rw[e,z3p D.int p g _ λx hx=>?_]
 ·rfl
 ·rw[List.mem_map]at hx
  obtain⟨k,hk,rfl⟩:=hx
  exact h k (List.mem_range.mp hk)
theorem z7W{body:Env->Option Out}{bd:Env->D->Option Env}{ds:List D}(hb:bd ρ d=some ρ1)(h:body ρ1=some (.nx ρ2)):forGo body bd (d::ds) ρ=forGo body bd ds ρ2:=by
 (conv=>lhs;whnf);rw[hb];dsimp only;rw[h]
theorem zFD{body:Env->Option Out}{bd:Env->D->Option Env}{ds:List D}(hb:bd ρ d=some ρ1)(h:body ρ1=some (.rt x t)):forGo body bd (d::ds) ρ=some (.rt x t):=by
 (conv=>lhs;whnf);rw[hb];dsimp only;rw[h]
theorem z2Z{lo hi:Ex}{m n:Int}{t':Tag}{body:List Sx}(hl:evE W ρ lo=some (.ok (.int m) t))(hh:evE W ρ hi=some (.ok (.int n) t'))(hz:smallI m=true/\smallI n=true):
  evS W ρ (.forR i lo hi body)=forGo (λρ'=>evSs W ρ' body) (λρ' x=>bindT ρ' .new (.name i) x) (rangeD m (n-m).toNat) ρ:=by
 (conv=>lhs;whnf);rw[hl,hh]
 dsimp only
 rw[if_pos hz]
theorem z4K{tg:Tg}{ds:List D}{body:List Sx}(h:evE W ρ src=some (.ok (.lst ds) t))(hn:∀c,t≠ .own c)(hd:t.el≠ .cl .dp:=by decide):evS W ρ (.forL tg src body)=forGo (λρ'=>evSs W ρ' body) (λρ' x=>bindT ρ' t.el tg x) ds ρ:=by
 (conv=>lhs;whnf);rw[h]
 dsimp only
 rw[if_neg hd]
 cases t with
 | own c=>exact absurd rfl (hn c)
 | _=>rfl
theorem z05{np n:Nat}{fl:List Bool}{bo:List Sx}{ds:List D}(h:ds.length=np):(mkFn W np n fl bo).m ds=evFn W n fl bo ds:=by
 show(if ds.length=np then _ else _)=_
 rw[if_pos h]
end
theorem z3y(W:Wd)(n:Int)(ts:List (Int×Int))(p:Int)(hl:ts.length<=1000):evFn W 4 [] Bd.z1F [.tree n (ts.map tieD),.int p]=some (.ok (.lst ((MT.lower ts p++MT.higher ts p).map D.int))):=by
 unfold evFn Bd.z1F
 rw[z0b (z03 (z2A tieD ts (λt=>t.2==p) (λt=>.int t.1) rfl (λt _=>⟨_,_,rfl,rfl,λ_=>⟨_,rfl,rfl⟩⟩)))]
 rw[z0b (z03 (z2A tieD ts (λt=>t.1==p) (λt=>.int t.2) rfl (λt _=>⟨_,_,rfl,rfl,λ_=>⟨_,rfl,rfl⟩⟩)))]
 have e1:(ts.filter λt=>t.2==p).map (λt=>D.int t.1)=(MT.lower ts p).map D.int:=by
  rw[MT.lower,List.map_map];congr 1
 have e2:(ts.filter λt=>t.1==p).map (λt=>D.int t.2)=(MT.higher ts p).map D.int:=by
  rw[MT.higher,List.map_map];congr 1
 rw[e1,e2]
 have l1:(MT.lower ts p).length<=ts.length:=by rw[MT.lower,List.length_map];exact List.length_filter_le _ _
 have l2:(MT.higher ts p).length<=ts.length:=by rw[MT.higher,List.length_map];exact List.length_filter_le _ _
 rw[z0i (z0I (u:=.new) (zAm (x:=.lst ((MT.lower ts p).map D.int)) (y:=.lst ((MT.higher ts p).map D.int)) (ds:=(MT.lower ts p++MT.higher ts p).map D.int) (t:=.cl .fl) (u:=.cl .fl) ?_ ?_ ?_ (z00 _)) ?_)]
 ·rfl
 ·rfl
 ·rfl
 ·show(if _ then _ else _)=_
  rw[if_pos (by simp only[List.length_map];show _<=1000000;lia),List.map_append]
 ·unfold Ev.rt;split<;>rfl
end Ev
namespace Ev
open PySem (Str)
section
variable{W:Wd}{ρ ρ1 ρ2:Env}
theorem z7d(lo:Int)(n:Nat):rangeD lo (n+1)= .int lo::rangeD (lo+1) n:=by
 unfold rangeD
 rw[List.range_succ_eq_map,List.map_cons,List.map_map]
 simp only[Int.natCast_zero,Int.add_zero,List.cons.injEq,true_and]
 refine List.map_congr_left λk _=>?_
 show D.int (lo+((k+1:Nat):Int))=D.int (lo+1+(k:Int))
 congr 1
 lia
theorem z2l{body:Env->Option Out}{bd:Env->D->Option Env}(P:Int->Env->Prop):∀(n:Nat)(lo:Int)(ρ0:Env),P lo ρ0->(∀k ρ,lo<=k->k<lo+n->P k ρ-> ∃ρ1 ρ2,bd ρ (.int k)=some ρ1/\body ρ1=some (.nx ρ2)/\P (k+1) ρ2)->
  ∃ρ',forGo body bd (rangeD lo n) ρ0=some (.nx ρ')/\P (lo+n) ρ'
 | 0,lo,ρ0,h0,_=>⟨ρ0,rfl,by simpa using h0⟩
 | n+1,lo,ρ0,h0,step=>by
  obtain⟨ρ1,ρ2,h1,h2,h3⟩:=step lo ρ0 (Int.le_refl _) (by omega) h0
  obtain⟨ρ',h4,h5⟩:=z2l P n (lo+1) ρ2 h3 λk ρ a b c=>step k ρ (by omega) (by omega) c
  refine⟨ρ',?_,by rw[show lo+((n+1:Nat):Int)=lo+1+(n:Int) by omega];exact h5⟩
  rw[z7d,z7W h1 h2];exact h4
end
theorem z0k{n:Int}(h0:-1000000<=n)(h:n<=1000000):smallI n=true:=by
 unfold smallI
 simp only[Bool.and_eq_true,decide_eq_true_eq]
 lia
def HasCell(W:Wd):Prop:=∃fn,W.F "_law_cell_at"=some fn/\fn.fl=[]/\ ∀(ns:List Int)(k:Int),0<=k-> ∃c,fn.m [.scr ns,.int k]=some (.ok (.int c))
def HasMix(W:Wd):Prop:=∃fn,W.F "_law_mix"=some fn/\fn.fl=[]/\ ∀(c k m:Int),0<=k->k<1000000->0<m-> ∃r,0<=r/\r<m/\fn.m [.int c,.int k,.int m]=some (.ok (.int r))
theorem zFE(W:Wd)(ns:List Int)(k:Int)(hk:0<=k):∃c,evFn W 2 [] Bd.z1o [.scr ns,.int k]=some (.ok (.int c)):=by
 unfold evFn Bd.z1o
 by_cases h:k<(ns.length:Int)
 ·obtain⟨j,rfl⟩:∃j:Nat,k=(j:Int):=⟨k.toNat,by lia⟩
  have hj:j<ns.length:=by omega
  refine⟨ns[j],?_⟩
  rw[z0i (d:=.int ns[j]) (t:=.new) ((z2Y (t:=.new) (z09 (x:=.int j) (y:=.int ns.length) (t:=.new) (u:=.new) rfl rfl (by simp[cmpD,h]))).trans (z0i (z0I (v_ix (x:=.scr ns) (y:=.int j) (d:=.int ns[j]) (t:=.new) (u:=.new) rfl rfl ?_) rfl)))]
  ·rfl
  ·have e:ixN ns.length (j:Int)=some j:=by unfold ixN;rw[if_pos (by omega),if_pos (by omega)];simp
   show(atI ns (j:Int)).map D.int=_
   unfold atI;rw[e]
   show(ns[j]?).map D.int=_
   rw[List.getElem?_eq_getElem hj];rfl
 ·refine⟨0,?_⟩
  rw[z0b ((z1B (t:=.new) (z09 (x:=.int k) (y:=.int ns.length) (t:=.new) (u:=.new) rfl rfl (by simp[cmpD,h]))).trans rfl)]
  rfl
theorem zGx(W:Wd)(c k m:Int)(hk:0<=k)(hk2:k<1000000)(hm:0<m):∃r,0<=r/\r<m/\evFn W 5 [] Bd.z2U [.int c,.int k,.int m]=some (.ok (.int r)):=by
 have h13:k%13<13:=Int.emod_lt_of_pos _ (by decide)
 have h130:0<=k%13:=Int.emod_nonneg _ (by decide)
 obtain⟨j,ej⟩:∃j:Nat,k%13=(j:Int):=⟨(k%13).toNat,by lia⟩
 have hj:j<13:=by omega
 have hcm:0<=c%2147483647:=Int.emod_nonneg _ (by decide)
 have hcm2:c%2147483647<2147483647:=Int.emod_lt_of_pos _ (by decide)
 let L:List Int:=[48271,69621,16807,39373,30269,40014,40692,50021,61687,71993,83869,95561,30307]
 obtain⟨z,hz⟩:∃z,L[j]? = some z:=⟨L[j]'(by simpa [L] using hj),List.getElem?_eq_getElem _⟩
 let s0:Int:=(c%2147483647+12345)*z+977*k+7919*(k/13)
 let s1:Int:=s0%1000000007
 have b1:0<=s1:=Int.emod_nonneg _ (by decide)
 have b2:s1<1000000007:=Int.emod_lt_of_pos _ (by decide)
 refine⟨(s1*s1+48271*k)%1000000007/7%m,Int.emod_nonneg _ (by lia),Int.emod_lt_of_pos _ hm,?_⟩
 unfold evFn Bd.z2U
 rw[z0b (z03 (d:=.lst (L.map D.int)) rfl)]
 rw[z0b (z03 (d:=.int s0) ?_)]
 rw[z0b (z03 (d:=.int s1) (z0t (i:=s0) (j:=1000000007) (t:=.new) (u:=.new) rfl rfl rfl))]
 rw[z0i (z0I (d:=.int ((s1*s1+48271*k)%1000000007/7%m)) (t:=.new) (u:=.new) ?_ rfl)]
 ·rfl
 ·refine z0t (i:=(s1*s1+48271*k)%1000000007/7) (j:=m) (t:=.new) (u:=.new) ?_ rfl (by simp[binD,hm])
  refine z0t (i:=(s1*s1+48271*k)%1000000007) (j:=7) (t:=.new) (u:=.new) ?_ rfl (by simp[binD])
  refine z0t (i:=s1*s1+48271*k) (j:=1000000007) (t:=.new) (u:=.new) ?_ rfl (by simp[binD])
  refine z0t (i:=s1*s1) (j:=48271*k) (t:=.new) (u:=.new) ?_ ?_ rfl
  ·exact z0t (i:=s1) (j:=s1) (t:=.new) (u:=.new) rfl rfl (by simp only[binD,onZ_int,mulD_int,addD_int];rw[if_pos (.inl ⟨by omega,by omega⟩)])
  ·exact z0t (i:=48271) (j:=k) (t:=.new) (u:=.new) rfl rfl (by simp[binD])
 ·refine z0t (i:=(c%2147483647+12345)*z+977*k) (j:=7919*(k/13)) (t:=.new) (u:=.new) ?_ ?_ rfl
  ·refine z0t (i:=(c%2147483647+12345)*z) (j:=977*k) (t:=.new) (u:=.new) ?_ ?_ rfl
   ·refine z0t (i:=c%2147483647+12345) (j:=z) (t:=.new) (u:=.new) ?_ ?_ (by simp only[binD,onZ_int,mulD_int,addD_int];rw[if_pos (.inl ⟨by omega,by omega⟩)])
    ·exact z0t (i:=c%2147483647) (j:=12345) (t:=.new) (u:=.new) (z0t (i:=c) (j:=2147483647) (t:=.new) (u:=.new) rfl rfl rfl) rfl rfl
    ·refine v_ix (x:=.lst (L.map D.int)) (y:=.int (k%13)) (d:=.int z) (t:=.cl .fl) (u:=.new) rfl (z0t (i:=k) (j:=13) (t:=.new) (u:=.new) rfl rfl (by simp[binD])) ?_
     rw[ej]
     have e:ixN L.length (j:Int)=some j:=by unfold ixN;rw[if_pos (by omega),if_pos (by simp[L];omega)];simp
     show atI (L.map D.int) (j:Int)=_
     unfold atI;rw[List.length_map,e]
     show(L.map D.int)[j]? = _
     rw[List.getElem?_map,hz];rfl
   ·exact z0t (i:=977) (j:=k) (t:=.new) (u:=.new) rfl rfl (by simp[binD])
  ·refine z0t (i:=7919) (j:=k/13) (t:=.new) (u:=.new) rfl ?_ (by simp[binD])
   exact z0t (i:=k) (j:=13) (t:=.new) (u:=.new) rfl rfl (by simp[binD])
theorem zAp{n j:Nat}(h:j<n):ixN n (j:Int)=some j:=by unfold ixN;rw[if_pos (by lia),if_pos (by omega)];simp
theorem z1i{α:Type}{xs:List α}{j:Nat}{v:α}(h:xs[j]? = some v):atI xs (j:Int)=some v:=by
 have hj:j<xs.length:=(List.getElem?_eq_some_iff.mp h).1
 unfold atI;rw[zAp hj];exact h
theorem z7e{a b:Int}(h:a=b):cmpD .eq (.int a) (.int b)=some true:=by
 rw[h];show some (b==b)=_;rw[beq_self_eq_true]
theorem z7f{a b:Int}(h:¬a=b):cmpD .eq (.int a) (.int b)=some false:=by
 show some (a==b)=_;rw[beq_false_of_ne h]
theorem zAq{a b:Int}(h:a=b):cmpD .ne (.int a) (.int b)=some false:=by
 rw[h];show some (!(b==b))=_;rw[beq_self_eq_true];rfl
theorem zAr{a b:Int}(h:b<a):cmpD .gt (.int a) (.int b)=some true:=by
 show some (decide (b<a))=_;rw[decide_eq_true h]
theorem zDU{a b:Int}(h:¬b<a):cmpD .gt (.int a) (.int b)=some false:=by
 show some (decide (b<a))=_;rw[decide_eq_false h]
theorem ex5{A1 A2 A3 A4 A5:Type}{P:A1->A2->A3->A4->A5->Prop}{C:Prop}(h:∃a b c d e,P a b c d e)(k:∀a b c d e,P a b c d e->C):C:=by
 obtain⟨a,b,c,d,e,g⟩:=h
 exact k a b c d e g
theorem ex2{A1 A2:Type}{P:A1->A2->Prop}{C:Prop}(h:∃a b,P a b)(k:∀a b,P a b->C):C:=by
 obtain⟨a,b,g⟩:=h
 exact k a b g
theorem z7g{fM:Fn}(W:Wd)(hG:W.F "_law_mix"=some fM)
  (hM:fM.fl=[]/\ ∀(c k m:Int),0<=k->k<1000000->0<m-> ∃r,0<=r/\r<m/\fM.m [.int c,.int k,.int m]=some (.ok (.int r))) (n:Nat) (hn:n<=1000) (i j:Nat) (ca:Ex) (c:Int) (ρ0:Env) (x0:Option Ent)
  (hij:i≠j) (h0:ρ0=(ρ0.set j x0).set i (some ⟨.lst [],true,.fl⟩))
  (hv:∀x l:Option Ent,evE W ((ρ0.set j x).set i l) ca=some (.ok (.int c) .new)/\((ρ0.set j x).set i l)[i]? = some l)
  (hj:∀(k:Int)(l:Option Ent),evE W ((ρ0.set j (some ⟨.int k,false,.fl⟩)).set i l) (.var j)=some (.ok (.int k) .new)):
  ∃(x:Option Ent)(nm:List Int),MT.Each n nm/\forGo (λρ'=>evSs W ρ' [.ins i (.call "_law_mix" [ca,(.var j),(.bin .add (.var j) (.int 1))]) (.var j)]) (λρ' x=>bindT ρ' .new (.name j) x) (rangeD 0 n) ρ0=some (.nx ((ρ0.set j x).set i (some ⟨.lst (nm.map D.int),true,.fl⟩))):=by
 obtain⟨ρ',h1,h2⟩:=z2l (body:=λρ'=>evSs W ρ' [.ins i (.call "_law_mix" [ca,(.var j),(.bin .add (.var j) (.int 1))]) (.var j)]) (bd:=λρ' x=>bindT ρ' .new (.name j) x)
  (λk ρ=>∃(x:Option Ent)(nm:List Int),ρ=(ρ0.set j x).set i (some ⟨.lst (nm.map D.int),true,.fl⟩)/\MT.Each k.toNat nm) n 0 ρ0 ⟨x0,[],h0,by simp[MT.Each,MT.g0]⟩ λk ρ hk0 hk1 hI=>by
   refine ex2 hI λx nm hE=>?_
   rw[hE.1]
   clear hI
   replace hE:=hE.2
   have hlen:=hE.len
   obtain⟨r,r0,r1,hr⟩:=hM.2 c k (k+1) hk0 (by lia) (by lia)
   have es:((ρ0.set j x).set i (some ⟨.lst (nm.map D.int),true,.fl⟩)).set j (some ⟨.int k,false,.fl⟩)=(ρ0.set j (some ⟨.int k,false,.fl⟩)).set i (some ⟨.lst (nm.map D.int),true,.fl⟩):=by rw[List.set_comm _ _ hij,List.set_set]
   obtain⟨v0,v1⟩:=hv (some ⟨.int k,false,.fl⟩) (some ⟨.lst (nm.map D.int),true,.fl⟩)
   have vj:=hj k (some ⟨.lst (nm.map D.int),true,.fl⟩)
   refine⟨_,_,congrArg some es,(z0o (zGw (c:=.fl) (c':=.fl) (t':=.new) (ds:=nm.map D.int) (n:=r) (d:=.int k) v1 (z0c hG (z0L v0 (z0L vj (z1M (z0t (i:=k) (j:=1) vj rfl rfl)))) hr hM.1) vj rfl ⟨r0,by rw[List.length_map,hlen];lia,by rw[List.length_map,hlen];show k.toNat<1000000;lia⟩)).trans (by rw[List.set_set]),some ⟨.int k,false,.fl⟩,nm.take r.toNat++k::nm.drop r.toNat,by rw[List.map_append,List.map_cons,List.map_take,List.map_drop],?_⟩
   have:=hE.insert r.toNat
   rw[Int.toNat_of_nonneg hk0]at this
   rw[Int.toNat_add hk0 (by decide)]
   exact this
 obtain⟨x,nm,e,a⟩:=h2
 rw[Int.zero_add,Int.toNat_natCast]at a
 exact⟨x,nm,a,h1.trans (by rw[e])⟩
theorem z4L{fC fM:Fn}(W:Wd)(hF:W.F "_law_cell_at"=some fC)(hC:fC.fl=[]/\ ∀(ns:List Int)(k:Int),0<=k-> ∃c,fC.m [.scr ns,.int k]=some (.ok (.int c)))(hG:W.F "_law_mix"=some fM)
  (hM:fM.fl=[]/\ ∀(c k m:Int),0<=k->k<1000000->0<m-> ∃r,0<=r/\r<m/\fM.m [.int c,.int k,.int m]=some (.ok (.int r))) (ns:List Int) (b:Int) (n:Nat) (hn:n<=1000) (hb:0<=b) (i j:Nat) (idx:Ex) (ρ0:Env) (x0:Option Ent)
  (hij:i≠j) (h0:ρ0=(ρ0.set j x0).set i (some ⟨.lst [],true,.fl⟩))
  (hv:∀x l:Option Ent,evE W ((ρ0.set j x).set i l) idx=some (.ok (.int b) .new)/\evE W ((ρ0.set j x).set i l) (.var 0)=some (.ok (.scr ns) .new)/\((ρ0.set j x).set i l)[i]? = some l)
  (hj:∀(k:Int)(l:Option Ent),evE W ((ρ0.set j (some ⟨.int k,false,.fl⟩)).set i l) (.var j)=some (.ok (.int k) .new)):
  ∃(x:Option Ent)(nm:List Int),MT.Each n nm/\forGo (λρ'=>evSs W ρ' [.ins i (.call "_law_mix" [(.call "_law_cell_at" [(.var 0),idx]),(.var j),(.bin .add (.var j) (.int 1))]) (.var j)]) (λρ' x=>bindT ρ' .new (.name j) x) (rangeD 0 n) ρ0=some (.nx ((ρ0.set j x).set i (some ⟨.lst (nm.map D.int),true,.fl⟩))):=by
 obtain⟨c,hc⟩:=hC.2 ns b hb
 exact z7g W hG hM n hn i j _ c ρ0 x0 hij h0 (λx l=>⟨z0c hF (z0L (hv x l).2.1 (z1M (hv x l).1)) hc hC.1,(hv x l).2.2⟩) hj
theorem z4M{us:List (Int×Int)}(h:us.length<64):bltD .sorted [.lst (us.map tieD)]=some (.lst ((isortT us).map tieD)):=by
 show(sortD (us.map tieD)).map D.lst=_
 rw[z3V us h];rfl
theorem z7h(x y:Int):tieD (MT.tieOf x y)= .tup [.int (if y<x then y else x),.int (if y>x then y else x)]:=by
 unfold tieD MT.tieOf
 simp only[Int.min_def,Int.max_def]
 congr 1
 by_cases h:x<=y
 ·by_cases h2:x=y
  ·subst h2;simp
  ·simp[h,show ¬y<x by omega,show y>x by lia]
 ·simp[h,show y<x by omega,show ¬y>x by omega]
def trEnv(ns:List Int)(b:Int)(a2 a3:Option Ent)(n:Nat)(w:Int)(nm:List Int)(us:List (Int×Int))(x7 x9 x10 x11:Option Ent):Env:=[some ⟨.scr ns,false,.old⟩,some ⟨.int b,false,.old⟩,a2,a3,some ⟨.int n,false,.fl⟩,some ⟨.int w,false,.fl⟩,some ⟨.lst (nm.map D.int),true,.fl⟩,x7,some ⟨.lst (us.map tieD),true,.fl⟩,x9,x10,x11]
def iEn(k:Int):Option Ent:=some ⟨.int k,false,.fl⟩
theorem z1b(d:D):Ev.rt d .new= .new:=by unfold Ev.rt;split<;>rfl
theorem z8A{W:Wd}{fM:Fn}{ns:List Int}{b w c2 r1 r2:Int}{a2 a3 x9 x10 x11:Option Ent}{n j:Nat}{nm:List Int}{us:List (Int×Int)}(hG:W.F "_law_mix"=some fM)(cM:fM.fl=[])
  (hcell:∀x9:Option Ent,evE W (trEnv ns b a2 a3 n w nm us (iEn j) x9 x10 x11) (.call "_law_cell_at" [(.var 0),(.bin .add (.var 1) (.int 2))])=some (.ok (.int c2) .new)) (r10:0<=r1) (r11:r1<j) (hr1:fM.m [.int c2,.int j,.int j]=some (.ok (.int r1))) (r20:0<=r2) (r21:r2<2) (hr2:fM.m [.int c2,.int j,.int 2]=some (.ok (.int r2))):
  ∃e:Int,0<=e/\e<j/\ ∀rest,evSs W (trEnv ns b a2 a3 n w nm us (iEn j) x9 x10 x11) (.asg 9 false (.call "_law_mix" [(.call "_law_cell_at" [(.var 0),(.bin .add (.var 1) (.int 2))]),(.var 7),(.var 7)]):: .ifs (.cmp .eq (.var 5) (.int 1)) [.asg 9 false (.blt .max [(.int 0),(.bin .sub (.bin .sub (.var 7) (.int 1)) (.call "_law_mix" [(.call "_law_cell_at" [(.var 0),(.bin .add (.var 1) (.int 2))]),(.var 7),(.int 2)]))])] []:: .ifs (.and (.cmp .eq (.var 5) (.int 2)) (.cmp .gt (.var 7) (.int 1))) [.asg 9 false (.call "_law_mix" [(.call "_law_cell_at" [(.var 0),(.bin .add (.var 1) (.int 2))]),(.var 7),(.int 2)])] []::rest)=evSs W (trEnv ns b a2 a3 n w nm us (iEn j) (iEn e) x10 x11) rest:=by
 have first:∀rest,evSs W (trEnv ns b a2 a3 n w nm us (iEn j) x9 x10 x11) (.asg 9 false (.call "_law_mix" [(.call "_law_cell_at" [(.var 0),(.bin .add (.var 1) (.int 2))]),(.var 7),(.var 7)])::rest)=evSs W (trEnv ns b a2 a3 n w nm us (iEn j) (iEn r1) x10 x11) rest:=λrest=>z0b (z03 (d:=.int r1) (z0c hG (z0L (hcell x9) (z0l rfl rfl)) hr1 cM))
 have mix2:=z0c (ρ:=trEnv ns b a2 a3 n w nm us (iEn j) (iEn r1) x10 x11) (es:=[(.call "_law_cell_at" [(.var 0),(.bin .add (.var 1) (.int 2))]),.var 7,.int 2]) hG (z0L (hcell _) (z0l rfl rfl)) hr2 cM
 clear hr1 hr2 hcell
 by_cases h1:w=1
 ·refine⟨if(j:Int)-1-r2>0 then(j:Int)-1-r2 else 0,by clear first mix2;split<;>lia,by clear first mix2;split<;>lia,λrest=>?_⟩
  rw[first,z0b ((z2Y (t:=.new) (z09 (x:=.int w) (y:=.int 1) rfl rfl (z7e h1))).trans (z0o (z03 (d:=.int (if(j:Int)-1-r2>0 then(j:Int)-1-r2 else 0)) (zAn (x:=.int 0) (y:=.int ((j:Int)-1-r2)) (t:=.new) (u:=.new) rfl (z0t (i:=(j:Int)-1) (j:=r2) (t:=.new) (u:=.new) rfl mix2 rfl) rfl))))]
  rw[z0b ((z1B (t:=.new) (z89 (c:=false) (c':=false) (t:=.new) (z09 (x:=.int w) (y:=.int 2) rfl rfl (z7f (by rw[h1];decide))) (λz=>by cases z))).trans rfl)]
  rfl
 ·have no1:=λbt be=>z1B (bt:=bt) (be:=be) (W:=W) (ρ:=trEnv ns b a2 a3 n w nm us (iEn j) (iEn r1) x10 x11) (t:=.new) (e:=.cmp .eq (.var 5) (.int 1)) (z09 (x:=.int w) (y:=.int 1) rfl rfl (z7f h1))
  by_cases h2:w=2
  ·by_cases h3:(1:Int)<j
   ·refine⟨r2,r20,Int.lt_of_lt_of_le r21 h3,λrest=>?_⟩
    rw[first,z0b ((no1 _ _).trans rfl),z0b ((z2Y (t:=.new) (z89 (c:=true) (c':=true) (t:=.new) (z09 (x:=.int w) (y:=.int 2) rfl rfl (z7e h2)) (λ_=>z09 (x:=.int j) (y:=.int 1) rfl rfl (zAr h3)))).trans (z0o (z03 (d:=.int r2) mix2)))]
    rfl
   ·refine⟨r1,r10,r11,λrest=>?_⟩
    rw[first,z0b ((no1 _ _).trans rfl),z0b ((z1B (t:=.new) (z89 (c:=true) (c':=false) (t:=.new) (z09 (x:=.int w) (y:=.int 2) rfl rfl (z7e h2)) (λ_=>z09 (x:=.int j) (y:=.int 1) rfl rfl (zDU h3)))).trans rfl)]
  ·refine⟨r1,r10,r11,λrest=>?_⟩
   rw[first,z0b ((no1 _ _).trans rfl),z0b ((z1B (t:=.new) (z89 (c:=false) (c':=false) (t:=.new) (z09 (x:=.int w) (y:=.int 2) rfl rfl (z7f h2)) (λz=>by cases z))).trans rfl)]
theorem zAs{W:Wd}{fC fM:Fn}(hF:W.F "_law_cell_at"=some fC)(cC:fC.fl=[]/\ ∀(ns:List Int)(k:Int),0<=k-> ∃c,fC.m [.scr ns,.int k]=some (.ok (.int c)))(hG:W.F "_law_mix"=some fM)(cM:fM.fl=[]/\ ∀(c k m:Int),0<=k->k<1000000->0<m-> ∃r,0<=r/\r<m/\fM.m [.int c,.int k,.int m]=some (.ok (.int r)))(ns:List Int)(b:Int)(hb:0<=b)(a2 a3 a7:Option Ent)(n:Nat)(hn:n<=12)(hn1:1<=n)(w:Int)(nm:List Int)(hE:MT.Each n nm):
  ∃(x7 x9 x10 x11:Option Ent)(us:List (Int×Int)),forGo (λρ'=>evSs W ρ' [.asg 9 false (.call "_law_mix" [(.call "_law_cell_at" [(.var 0),(.bin .add (.var 1) (.int 2))]),(.var 7),(.var 7)]),.ifs (.cmp .eq (.var 5) (.int 1)) [.asg 9 false (.blt .max [(.int 0),(.bin .sub (.bin .sub (.var 7) (.int 1)) (.call "_law_mix" [(.call "_law_cell_at" [(.var 0),(.bin .add (.var 1) (.int 2))]),(.var 7),(.int 2)]))])] [],.ifs (.and (.cmp .eq (.var 5) (.int 2)) (.cmp .gt (.var 7) (.int 1))) [.asg 9 false (.call "_law_mix" [(.call "_law_cell_at" [(.var 0),(.bin .add (.var 1) (.int 2))]),(.var 7),(.int 2)])] [],.par [10,11] [(.ix (.var 6) (.var 7)),(.ix (.var 6) (.var 9))],.app 8 (.tup [(.blt .min [(.var 10),(.var 11)]),(.blt .max [(.var 10),(.var 11)])])]) (λρ' x=>bindT ρ' .new (.name 7) x) (rangeD 1 (n-1)) (trEnv ns b a2 a3 n w nm [] a7 none none none)=some (.nx (trEnv ns b a2 a3 n w nm us x7 x9 x10 x11))/\MT.Grown n nm n us:=by
 have hlen:=hE.len
 obtain⟨c2,hc2⟩:=cC.2 ns (b+2) (Int.add_nonneg hb (by decide))
 have nat:∀j:Nat,j<n-> ∃z,nm[j]? = some z:=λj hj=>⟨nm[j]'(by rw[hlen];exact hj),List.getElem?_eq_getElem _⟩
 obtain⟨ρ',h1,h2⟩:=z2l (body:=λρ'=>evSs W ρ' [.asg 9 false (.call "_law_mix" [(.call "_law_cell_at" [(.var 0),(.bin .add (.var 1) (.int 2))]),(.var 7),(.var 7)]),.ifs (.cmp .eq (.var 5) (.int 1)) [.asg 9 false (.blt .max [(.int 0),(.bin .sub (.bin .sub (.var 7) (.int 1)) (.call "_law_mix" [(.call "_law_cell_at" [(.var 0),(.bin .add (.var 1) (.int 2))]),(.var 7),(.int 2)]))])] [],.ifs (.and (.cmp .eq (.var 5) (.int 2)) (.cmp .gt (.var 7) (.int 1))) [.asg 9 false (.call "_law_mix" [(.call "_law_cell_at" [(.var 0),(.bin .add (.var 1) (.int 2))]),(.var 7),(.int 2)])] [],.par [10,11] [(.ix (.var 6) (.var 7)),(.ix (.var 6) (.var 9))],.app 8 (.tup [(.blt .min [(.var 10),(.var 11)]),(.blt .max [(.var 10),(.var 11)])])]) (bd:=λρ' x=>bindT ρ' .new (.name 7) x)
  (λk ρ=>∃(x7 x9 x10 x11:Option Ent)(us:List (Int×Int)),ρ=trEnv ns b a2 a3 n w nm us x7 x9 x10 x11/\MT.Grown n nm k.toNat us)
  (n-1) 1 (trEnv ns b a2 a3 n w nm [] a7 none none none) ⟨a7,none,none,none,[],rfl,MT.Grown.start n nm⟩ λk ρ hk0 hk1 hI=>by
   refine ex5 hI λx7 x9 x10 x11 us hG0=>?_
   rw[hG0.1]
   clear hI
   replace hG0:=hG0.2
   obtain⟨j,rfl⟩:=Int.eq_ofNat_of_zero_le (Int.le_trans (by decide) hk0)
   have hjn:j<n:=by omega
   obtain⟨r1,r10,r11,hr1⟩:=cM.2 c2 j j (by lia) (by lia) (by omega)
   obtain⟨r2,r20,r21,hr2⟩:=cM.2 c2 j 2 (by lia) (by lia) (by decide)
   obtain⟨e,he0,he1,hrun⟩:=z8A (W:=W) (ns:=ns) (b:=b) (w:=w) (a2:=a2) (a3:=a3) (x9:=x9) (x10:=x10) (x11:=x11) (n:=n) (nm:=nm) (us:=us) hG cM.1 (λx9=>z0c hF (z0l rfl rfl) hc2 cC.1) r10 r11 hr1 r20 r21 hr2
   clear hr1 hr2 r10 r11 r20 r21
   obtain⟨i,rfl⟩:=Int.eq_ofNat_of_zero_le he0
   obtain⟨zx,hzx⟩:=nat j hjn
   obtain⟨zy,hzy⟩:=nat i (by lia)
   rw[Int.toNat_natCast]at hG0
   refine⟨trEnv ns b a2 a3 n w nm us (iEn j) x9 x10 x11,trEnv ns b a2 a3 n w nm (us++[MT.tieOf zx zy]) (iEn j) (iEn i) (iEn zx) (iEn zy),rfl,(hrun _).trans ?_,_,_,_,_,us++[MT.tieOf zx zy],rfl,MT.Grown.step (e:=i) hE hG0 hzx hzy (Int.ofNat_lt.mp he1)⟩
   clear hrun
   have hp:evS W (trEnv ns b a2 a3 n w nm us (iEn j) (iEn i) x10 x11) (.par [10,11] [(.ix (.var 6) (.var 7)),(.ix (.var 6) (.var 9))])=some (.nx (trEnv ns b a2 a3 n w nm us (iEn j) (iEn i) (iEn zx) (iEn zy))):=by
    have q:=z0l (W:=W) (ρ:=trEnv ns b a2 a3 n w nm us (iEn j) (iEn i) x10 x11)
     (v_ix (a:=.var 6) (b:=.var 7) (x:=.lst (nm.map D.int)) (y:=.int j) (d:=.int zx) (t:=.own .fl) (u:=.new) rfl rfl (z1i (by rw[List.getElem?_map,hzx];rfl)))
     (v_ix (a:=.var 6) (b:=.var 9) (x:=.lst (nm.map D.int)) (y:=.int i) (d:=.int zy) (t:=.own .fl) (u:=.new) rfl rfl (z1i (by rw[List.getElem?_map,hzy];rfl)))
    (conv=>lhs;whnf)
    rw[q]
    rfl
   refine(z0b hp).trans ((z0o (zBI (ds:=us.map tieD) (c:=.fl) (c':=.fl) (d:=tieD (MT.tieOf zx zy)) (t:=.new) rfl ?_ rfl (by rw[List.length_map,lim];have:=hG0.len;lia))).trans ?_)
   ·rw[z7h];rfl
   ·unfold trEnv;rw[List.map_append];rfl
 obtain⟨x7,x9,x10,x11,us,e,hG⟩:=h2
 rw[show(1+((n-1:Nat):Int)).toNat=n by lia]at hG
 exact⟨x7,x9,x10,x11,us,h1.trans (by rw[e]),hG⟩
theorem zCy{W:Wd}{ρ:Env}{a b:Ex}{x:Int}{us:List (Int×Int)}{t:Tag}(ha:evE W ρ a=some (.ok (.int x) .new))(hb:evE W ρ b=some (.ok (.lst (us.map tieD)) (tagL (.lst (us.map tieD)) [t]))):evE W ρ (.tup [a,b])=some (.ok (.tup [.int x,.lst (us.map tieD)]) .new):=by
 have ht:tagL (.lst (us.map tieD)) [t]= .new:=if_pos (z0V _)
 rw[ht]at hb
 (conv=>lhs;whnf)
 rw[z0l ha hb]
 rfl
theorem zAt(W:Wd)(hC:HasCell W)(hM:HasMix W)(ns:List Int)(b most:Int)(hb:0<=b)(hm1:1<=most)(hm2:most<=12):∃(n:Nat)(ts:List (Int×Int)),MT.VT n ts/\1<=n/\(n:Int)<=most/\
  evFn W 12 [] Bd.z1p [.scr ns,.int b,.int most]=some (.ok (.tup [.int n,.lst (ts.map tieD)])):=by
 obtain⟨fC,hF,cC⟩:=hC
 obtain⟨fM,hG,cM⟩:=hM
 obtain⟨c0,hc0⟩:=cC.2 ns b hb
 obtain⟨m,m0,m1,hm⟩:=cM.2 c0 1 most (by decide) (by decide) (Int.lt_of_lt_of_le (by decide) hm1)
 obtain⟨w,w0,w1,hw⟩:=cM.2 c0 2 4 (by decide) (by decide) (by decide)
 clear w0 w1
 obtain⟨n,hn⟩:=Int.eq_ofNat_of_zero_le (Int.add_nonneg (show(0:Int)<=1 by decide) m0)
 have hn1:1<=n:=by omega
 have hnm:(n:Int)<=most:=by omega
 have hn2:n<=12:=by lia
 clear m0 m1 hm1 hm2
 obtain⟨a7,nm,hE,l1⟩:=z4L W hF cC hG cM ns (b+1) n (by lia) (by lia) 6 7 (.bin .add (.var 1) (.int 1))
  [some ⟨.scr ns,false,.old⟩,some ⟨.int b,false,.old⟩,some ⟨.int most,false,.old⟩,some ⟨.int c0,false,.fl⟩,some ⟨.int n,false,.fl⟩,some ⟨.int w,false,.fl⟩,some ⟨.lst [],true,.fl⟩,none,none,none,none,none] none (by decide) rfl (λ_ _=>⟨rfl,rfl,rfl⟩) (λ_ _=>rfl)
 obtain⟨x7,x9,x10,x11,us,m1',hGr⟩:=zAs hF cC hG cM ns b hb (some ⟨.int most,false,.old⟩) (some ⟨.int c0,false,.fl⟩) a7 n hn2 hn1 w nm hE
 have hus:us.length<64:=by have:=hGr.len;lia
 refine⟨n,isortT us,hGr.valid hE (z07 us) (z1m us),hn1,hnm,?_⟩
 unfold evFn Bd.z1p
 rw[z0b (z03 (d:=.int c0) (z0c hF (z0l rfl rfl) hc0 cC.1))]
 rw[z0b (z03 (d:=.int n) (z0t (i:=1) (j:=m) rfl (z0c hG (z0L rfl (z0l rfl rfl)) hm cM.1) (by rw[<-hn];rfl)))]
 rw[z0b (z03 (d:=.int w) (z0c hG (z0L rfl (z0l rfl rfl)) hw cM.1))]
 rw[z0b (z1L (ds:=[]) rfl rfl)]
 rw[z0b ((z2Z (m:=0) (n:=n) (t:=.new) (t':=.new) rfl rfl ⟨rfl,z0k (by omega) (by omega)⟩).trans (by rw[Int.sub_zero,Int.toNat_natCast];exact l1))]
 rw[z0b (z1L (ds:=[]) rfl rfl)]
 rw[z0b ((z2Z (m:=1) (n:=n) (t:=.new) (t':=.new) rfl rfl ⟨rfl,z0k (by omega) (by omega)⟩).trans (by rw[show((n:Int)-1).toNat=n-1 by lia];exact m1'))]
 rw[z0i (z0I (d:=.tup [.int n,.lst ((isortT us).map tieD)]) (t:=.new) (u:=.new) (zCy (t:=.cl .fl) rfl (z2g (x:=.lst (us.map tieD)) (t:=.cl .fl) rfl (z4M hus))) (z1b _))]
 rfl
end Ev
namespace Ev
open PySem (Str)
theorem zBJ(d:D):keep d .new=some .new:=by unfold keep;rw[z1b]
theorem z7i{α:Type}[DecidableEq α]{f:D->D->Option Bool}{g:α->D}(hf:∀x y,f (g x) (g y)=some (decide (x=y))):∀a b:List α,a.length=b.length->eqL f (a.map g) (b.map g)=some (decide (a=b))
 | [],[],_=>rfl
 | [],y::s,h=>nomatch h
 | x::r,[],h=>nomatch h
 | x::r,y::s,h=>by
  show(f (g x) (g y)).bind _=_
  rw[hf]
  show(eqL f (r.map g) (s.map g)).map _=_
  rw[z7i hf r s (Nat.succ.inj h)]
  show some (decide (x=y)&&decide (r=s))=_
  congr 1
  rw[Bool.eq_iff_iff]
  simp
theorem zAu{α:Type}[DecidableEq α]{g:α->D}(hf:∀x y,eqDn 5 (g x) (g y)=some (decide (x=y)))(a b:List α):eqD (.lst (a.map g)) (.lst (b.map g))=some (decide (a=b)):=by
 show(if(a.map g).length=(b.map g).length then eqL (eqDn 5) (a.map g) (b.map g)else some false)=_
 rw[List.length_map,List.length_map]
 by_cases h:a.length=b.length
 ·rw[if_pos h,z7i hf a b h]
 ·rw[if_neg h,decide_eq_false λe=>h (by rw[e])]
theorem zAv(n:Nat)(x y:Int):eqDn n (.int x) (.int y)=some (decide (x=y)):=by
 cases n<;>rfl
theorem z7X(a b:List Int):eqD (.lst (a.map D.int)) (.lst (b.map D.int))=some (decide (a=b)):=zAu (zAv 5) a b
theorem zDV(n:Nat)(t u:Int×Int):eqDn (n+1) (tieD t) (tieD u)=some (decide (t=u)):=by
 have e:eqDn (n+1) (tieD t) (tieD u)=some (decide ([t.1,t.2]=[u.1,u.2])):=z7i (g:=D.int) (zAv n) [t.1,t.2] [u.1,u.2] rfl
 rw[e]
 congr 1
 rw[Bool.eq_iff_iff]
 simp[Prod.ext_iff]
theorem zBK(a b:List (Int×Int)):eqD (.lst (a.map tieD)) (.lst (b.map tieD))=some (decide (a=b)):=zAu (zDV 4) a b
theorem z5r(x:Int):∀ns:List Int,inD (.int x) (ns.map D.int)=some (decide (x∈ns))
 | []=>rfl
 | n::r=>by
  show(inD (.int x) (r.map D.int)).map (λb=>(n==x)||b)=_
  rw[z5r x r]
  show some ((n==x)||decide (x∈r))=_
  congr 1
  rw[Bool.eq_iff_iff]
  simp only[Bool.or_eq_true,beq_iff_eq,decide_eq_true_eq,List.mem_cons]
  exact or_congr eq_comm Iff.rfl
theorem z2C(x:Int):∀ns:List Int,countD (.int x) (ns.map D.int)=some (ns.count x)
 | []=>rfl
 | n::r=>by
  show(countD (.int x) (r.map D.int)).map (λb=>if(n==x)=true then b+1 else b)=_
  rw[z2C x r]
  show some (if(n==x)=true then r.count x+1 else r.count x)=_
  rw[List.count_cons]
  split<;>simp
theorem zAw(n:Nat):rangeD 0 n=(MT.g0 n).map D.int:=by
 unfold rangeD MT.g0
 rw[List.map_map]
 refine List.map_congr_left λk _=>?_
 show D.int (0+(k:Int))=D.int (k:Int)
 rw[Int.zero_add]
theorem z2D{ms:List Int}{i:Int}(h0:0<=i)(h1:i<(ms.length:Int)):atI (ms.map D.int) i=some (.int (ms.getD i.toNat 0)):=by
 obtain⟨j,rfl⟩:∃j:Nat,i=(j:Int):=⟨i.toNat,by lia⟩
 have hj:j<ms.length:=by omega
 refine z1i ?_
 rw[List.getElem?_map,List.getElem?_eq_getElem hj]
 simp[List.getD_eq_getElem?_getD,List.getElem?_eq_getElem hj]
theorem zAx{ts:List (Int×Int)}{i:Int}(h0:0<=i)(h1:i<(ts.length:Int)):atI (ts.map tieD) i=some (tieD (ts.getD i.toNat (0,0))):=by
 obtain⟨j,rfl⟩:∃j:Nat,i=(j:Int):=⟨i.toNat,by lia⟩
 have hj:j<ts.length:=by omega
 refine z1i ?_
 rw[List.getElem?_map,List.getElem?_eq_getElem hj]
 simp[List.getD_eq_getElem?_getD,List.getElem?_eq_getElem hj]
theorem z2h:∀(ns l:List Int),(ns.foldl addNew l).length<=l.length+ns.length
 | [],l=>by simp
 | n::r,l=>by
  have:=z2h r (addNew l n)
  have h:(addNew l n).length<=l.length+1:=by unfold addNew;split<;>simp
  simp only[List.foldl_cons,List.length_cons]
  lia
theorem z2i:∀(ns l:List Int),l.Nodup->((ns.foldl addNew l).length=l.length+ns.length↔(l++ns).Nodup)
 | [],l,hl=>by simp[hl]
 | n::r,l,hl=>by
  simp only[List.foldl_cons,List.length_cons]
  by_cases h:n∈l
  ·have e:addNew l n=l:=by unfold addNew;rw[if_pos];simpa using h
   rw[e]
   have:=z2h r l
   constructor
   ·intro z;lia
   ·intro z
    rw[List.nodup_append]at z
    exact absurd rfl (z.2.2 n h n List.mem_cons_self)
  ·have e:addNew l n=l++[n]:=by unfold addNew;rw[if_neg];simpa using h
   rw[e]
   have hl':(l++[n]).Nodup:=by
    rw[List.nodup_append]
    refine⟨hl,by simp,λa ha b hb=>?_⟩
    rw[List.mem_singleton]at hb
    subst hb
    intro z;exact h (z▸ha)
   have ih:=z2i r (l++[n]) hl'
   rw[List.append_assoc]at ih
   refine Iff.trans ?_ ih
   simp only[List.length_append,List.length_cons,List.length_nil]
   lia
theorem zAy(ns:List Int):(dedup ns).length=ns.length↔ns.Nodup:=by
 have:=z2i ns [] List.nodup_nil
 simpa [dedup] using this
theorem z5s{ns:List Int}(h:ns.length<1000):distinct (ns.map D.int)=some (dedup ns).length:=by
 unfold distinct
 rw[if_pos (by simpa using h),z4B]
theorem on1L{f:List D->Option D}{l:List D}:on1 (onL f) [.lst l]=f l:=rfl
theorem z7j(bs:List Bool):bltD .all [.lst (bs.map D.bl)]=some (.bl (bs.all λb=>b)):=by
 show(mapO toBl (bs.map D.bl)).map _=_;rw[z95];rfl
theorem zFF(j:Int):bltD .listrange1 [.int j]=if smallI j/\j<=1000 then some (.lst (rangeD 0 j.toNat))else none:=rfl
theorem zAz{n:Nat}(h:n<=1000):bltD .listrange1 [.int n]=some (.lst ((MT.g0 n).map D.int)):=by
 rw[zFF,if_pos ⟨z0k (by omega) (by omega),by omega⟩,Int.toNat_natCast,zAw]
theorem z6v{ns:List Int}(h:ns.length<64):bltD .sorted [.lst (ns.map D.int)]=some (.lst ((isortI ns).map D.int)):=by
 show(sortD (ns.map D.int)).map D.lst=_;rw[z96 ns h];rfl
section
variable{W:Wd}{ρ ρ1 ρ2:Env}{a b c d:Ex}{t u v w:Tag}
theorem z7Y{bl:Blt}{x:D}{ns:List Int}(ha:evE W ρ a=some (.ok x t))(hd:bltD bl [x]=some (.lst (ns.map D.int))):evE W ρ (.blt bl [a])=some (.ok (.lst (ns.map D.int)) .new):=by
 rw[z2g ha hd]
 exact congrArg (λt=>some (Res.ok _ t)) (if_pos (z00 ns))
theorem zA0{ns:List Int}(h:ns.length<1000)(ha:evE W ρ a=some (.ok (.lst (ns.map D.int)) t)):evE W ρ (.cmp .eq (.blt .lset [a]) (.blt .len [a]))=some (.ok (.bl (decide ns.Nodup)) .new):=by
 refine z09 (x:=.int (dedup ns).length) (y:=.int ns.length) (t:=.new) (u:=.new) (z2g ha ?_) ?_ ?_
 ·refine(on1L (f:=λds=>(distinct ds).map λn=>.int n)).trans ?_
  rw[z5s h];rfl
 ·have:=z4s ha
  rw[List.length_map]at this
  exact this
 ·show some (((dedup ns).length:Int)==(ns.length:Int))=_
  congr 1
  rw[Bool.eq_iff_iff]
  simp only[beq_iff_eq,decide_eq_true_eq,<-zAy]
  lia
theorem zFG{e a b:Ex}{c:Bool}(h:evE W ρ e=some (.ok (.bl c) t)):evE W ρ (.ifx e a b)=if c then evE W ρ a else evE W ρ b:=by
 (conv=>lhs;whnf);rw[h]
 cases c<;>rfl
theorem zDW{ds:List D}{y:D}{n:Nat}(ha:evE W ρ a=some (.ok (.lst ds) t))(hb:evE W ρ b=some (.ok y u))(hf:flatD y=true)(hn:countD y ds=some n):evE W ρ (.count a b)=some (.ok (.int n) .new):=by
 (conv=>lhs;whnf);rw[ha]
 dsimp only[bindR]
 rw[hb]
 dsimp only
 rw[if_pos hf,hn]
theorem zBL{i j k:Int}{r:Bool}(ha:evE W ρ a=some (.ok (.int i) t))(hb:evE W ρ b=some (.ok (.int j) u))(hc:evE W ρ c=some (.ok (.int k) v))(hr:(decide (i<=j)&&decide (j<=k))=r):evE W ρ (.chain2 .le .le a b c)=some (.ok (.bl r) .new):=by
 (conv=>lhs;whnf);rw[ha]
 dsimp only[bindR]
 rw[hb]
 subst hr
 cases h:decide (i<=j)with
 | true=>simp[cmpD,h,hc,blR]
 | false=>simp[cmpD,h]
theorem zBM{i j k l:Int}{r:Bool}(ha:evE W ρ a=some (.ok (.int i) t))(hb:evE W ρ b=some (.ok (.int j) u))(hc:evE W ρ c=some (.ok (.int k) v))(hd:evE W ρ d=some (.ok (.int l) w))(hr:(decide (i<=j)&&(decide (j<k)&&decide (k<l)))=r):evE W ρ (.chain3 .le .lt .lt a b c d)=some (.ok (.bl r) .new):=by
 (conv=>lhs;whnf);rw[ha]
 dsimp only[bindR]
 rw[hb]
 subst hr
 cases h:decide (i<=j)with
 | true=>
  cases h2:decide (j<k)with
  | true=>simp[cmpD,h,h2,hc,hd,blR]
  | false=>simp[cmpD,h,h2,hc]
 | false=>simp[cmpD,h]
theorem z31{α:Type}{body:Env->Option Out}{bd:Env->D->Option Env}(f:α->D)(P:List α->Env->Prop):∀(xs acc:List α)(ρ0:Env),P acc ρ0->(∀acc x ρ,x∈xs->P acc ρ-> ∃ρ1 ρ2,bd ρ (f x)=some ρ1/\body ρ1=some (.nx ρ2)/\P (acc++[x]) ρ2)->
  ∃ρ',forGo body bd (xs.map f) ρ0=some (.nx ρ')/\P (acc++xs) ρ'
 | [],acc,ρ0,h0,_=>⟨ρ0,rfl,by simpa using h0⟩
 | x::xs,acc,ρ0,h0,step=>by
  obtain⟨ρ1,ρ2,h1,h2,h3⟩:=step acc x ρ0 List.mem_cons_self h0
  obtain⟨ρ',h4,h5⟩:=z31 f P xs (acc++[x]) ρ2 h3 λacc y ρ hy hp=>step acc y ρ (List.mem_cons_of_mem _ hy) hp
  refine⟨ρ',?_,by simpa using h5⟩
  rw[List.map_cons,z7W h1 h2];exact h4
end
theorem zBN(W:Wd)(n:Int)(t:Int×Int):evFn W 2 [] Bd.z36 [.int n,tieD t]=some (.ok (.bl (decide (0<=t.1)&&(decide (t.1<t.2)&&decide (t.2<n))))):=by
 unfold evFn Bd.z36
 rw[z0i (z0I (u:=.new) (z89 (c:=true) (t:=.new) (z09 (x:=.int 2) (y:=.int 2) (t:=.new) (u:=.new) rfl rfl rfl) (λ_=>zBM (i:=0) (j:=t.1) (k:=t.2) (l:=n) (t:=.new) (u:=.new) (v:=.new) (w:=.new) rfl rfl rfl rfl rfl)) rfl)]
 rfl
theorem z7k(W:Wd)(ts:List (Int×Int))(h:ts.length<=1000):evFn W 1 [] Bd.z2b [.lst (ts.map tieD)]=some (.ok (.bl (MT.risingB ts))):=by
 unfold evFn Bd.z2b
 have hl:(ts.map tieD).length=ts.length:=List.length_map _
 have:=z3q (W:=W) (ρ:=disownAll (entsOf [] [.lst (ts.map tieD)]++List.replicate (1-[D.lst (ts.map tieD)].length) none)) (ix:=[none,none,some 0]) (j:=1) (lo:=.int 1) (hi:=.blt .len [(.var 0)]) (tst:=none) (el:=.cmp .lt (.ix (.var 2) (.bin .sub (.var 1) (.int 1))) (.ix (.var 2) (.var 1)))
  (m:=1) (n:=ts.length) (t:=.new) (t':=.new) (λ_=>true) (λk=>.bl (tltB (ts.getD (k-1).toNat (0,0)) (ts.getD k.toNat (0,0)))) rfl (by rw[z4s (ds:=ts.map tieD) (t:=.cl .old) rfl,hl]) ⟨rfl,z0k (by lia) (by omega),by omega⟩ (λk hk=>by
   refine⟨_,_,rfl,rfl,λ_=>⟨.new,z09 (x:=tieD (ts.getD ((1:Int)+k-1).toNat (0,0))) (y:=tieD (ts.getD ((1:Int)+k).toNat (0,0))) (t:=.new) (u:=.new) ?_ ?_ rfl,rfl⟩⟩
   ·exact v_ix (x:=.lst (ts.map tieD)) (y:=.int ((1:Int)+k-1)) (t:=.cl .old) (u:=.new) rfl rfl (zAx (by lia) (by omega))
   ·exact v_ix (x:=.lst (ts.map tieD)) (y:=.int ((1:Int)+k)) (t:=.cl .old) (u:=.new) rfl rfl (zAx (by lia) (by omega)))
 rw[z0W,List.map_map]at this
 have e:(List.range ((ts.length:Int)-1).toNat).map ((λk:Int=>D.bl (tltB (ts.getD (k-1).toNat (0,0)) (ts.getD k.toNat (0,0))))∘λk:Nat=>(1:Int)+(k:Int))=(MT.steps ts).map D.bl:=by
  unfold MT.steps
  rw[List.map_map,show((ts.length:Int)-1).toNat=ts.length-1 by omega]
  refine List.map_congr_left λk _=>?_
  refine congrArg D.bl ?_
  rw[show((1:Int)+(k:Int)-1).toNat=k by lia,show((1:Int)+(k:Int)).toNat=k+1 by lia,Bool.eq_iff_iff,zBr,decide_eq_true_eq]
 rw[e]at this
 rw[z0i (z0I (u:=.new) (t:=.new) (z2g this (z7j _)) rfl),MT.z5L]
 rfl
theorem z8B(W:Wd)(n:Nat)(ts:List (Int×Int))(hn:1<=n)(hn2:n<=1000)(hr:∀t∈ts,MT.InR n t):evFn W 6 [] Bd.z2y [.int n,.lst (ts.map tieD)]=some (.ok (.bl (MT.isWhole n ts))):=by
 have loop:=z31 (body:=λρ'=>evSs W ρ' [.asg 4 false (.ix (.var 2) (.ix (.var 3) (.int 0))),.asg 5 false (.ix (.var 2) (.ix (.var 3) (.int 1))),.asg 2 false (.compL [none,none,some 5,some 4] (.name 1) (.var 2) none (.ifx (.cmp .eq (.var 1) (.var 2)) (.var 3) (.var 1)))]) (bd:=λρ' x=>bindT ρ' (Tag.cl .old).el (.name 3) x) tieD
  (λacc ρ=>∃x3 x4 x5,ρ=[some ⟨.int n,false,.old⟩,some ⟨.lst (ts.map tieD),false,.old⟩,some ⟨.lst ((MT.groups n acc).map D.int),false,.fl⟩,x3,x4,x5]) ts [] [some ⟨.int n,false,.old⟩,some ⟨.lst (ts.map tieD),false,.old⟩,some ⟨.lst ((MT.g0 n).map D.int),false,.fl⟩,none,none,none] ⟨none,none,none,rfl⟩ (λacc t ρ ht⟨x3,x4,x5,hρ⟩=>by
   subst hρ
   have hI:=hr t ht
   have hg:(MT.groups n acc).length=n:=MT.z1j n acc
   refine⟨_,[some ⟨.int n,false,.old⟩,some ⟨.lst (ts.map tieD),false,.old⟩,some ⟨.lst ((MT.groups n (acc++[t])).map D.int),false,.fl⟩,some ⟨tieD t,false,.old⟩,some ⟨.int ((MT.groups n acc).getD t.1.toNat 0),false,.fl⟩,some ⟨.int ((MT.groups n acc).getD t.2.toNat 0),false,.fl⟩],rfl,?_,_,_,_,rfl⟩
   rw[z0b (z03 (d:=.int ((MT.groups n acc).getD t.1.toNat 0)) (v_ix (x:=.lst ((MT.groups n acc).map D.int)) (y:=.int t.1) (t:=.cl .fl) (u:=.new) rfl rfl (z2D hI.1 (by rw[hg];have:=hI.2.1;have:=hI.2.2;lia))))]
   rw[z0b (z03 (d:=.int ((MT.groups n acc).getD t.2.toNat 0)) (v_ix (x:=.lst ((MT.groups n acc).map D.int)) (y:=.int t.2) (t:=.cl .fl) (u:=.new) rfl rfl (z2D (by have:=hI.1;have:=hI.2.1;lia) (by rw[hg];exact hI.2.2))))]
   refine(z0o (z03 (z2B D.int (MT.groups n acc) (λx=>.int (if x=(MT.groups n acc).getD t.2.toNat 0 then(MT.groups n acc).getD t.1.toNat 0 else x)) (t:=.cl .fl) rfl λx _=>?_))).trans ?_
   ·refine⟨_,.new,rfl,?_,rfl⟩
    by_cases hx:x=(MT.groups n acc).getD t.2.toNat 0
    ·rw[if_pos hx]
     have hb:(x==(MT.groups n acc).getD t.2.toNat 0)=true:=by simpa using hx
     rw[zFG (c:=true) (t:=.new) (z09 (x:=.int x) (y:=.int ((MT.groups n acc).getD t.2.toNat 0)) (t:=.new) (u:=.new) rfl rfl (by show some _=_;rw[hb]))]
     rfl
    ·rw[if_neg hx]
     have hb:(x==(MT.groups n acc).getD t.2.toNat 0)=false:=by simpa using hx
     rw[zFG (c:=false) (t:=.new) (z09 (x:=.int x) (y:=.int ((MT.groups n acc).getD t.2.toNat 0)) (t:=.new) (u:=.new) rfl rfl (by show some _=_;rw[hb]))]
     rfl
   ·rw[MT.z37,MT.gstep,List.map_map];rfl)
 obtain⟨ρ',h1,x3,x4,x5,rfl⟩:=loop
 rw[List.nil_append]at h1
 unfold evFn Bd.z2y
 rw[z0b (z03 (d:=.lst ((MT.g0 n).map D.int)) (z7Y (x:=.int n) (t:=.new) rfl (zAz hn2)))]
 rw[z0b ((z4K (t:=.cl .old) rfl (λc h=>by cases h)).trans (by exact h1))]
 have hg:(MT.groups n ts).length=n:=MT.z1j n ts
 rw[z0i (z0I (u:=.new) (z09 (c:=MT.isWhole n ts) (x:=.int ((MT.groups n ts).count ((MT.groups n ts).getD 0 0))) (y:=.int n) (t:=.new) (u:=.new) ?_ rfl ?_) rfl)]
 ·rfl
 ·have q:=v_ix (W:=W) (ρ:=disownAll [some ⟨.int n,false,.old⟩,some ⟨.lst (ts.map tieD),false,.old⟩,some ⟨.lst ((MT.groups n ts).map D.int),false,.fl⟩,x3,x4,x5]) (a:=.var 2) (b:=.int 0) (x:=.lst ((MT.groups n ts).map D.int)) (y:=.int 0) (t:=.cl .fl) (u:=.new) rfl rfl (z2D (i:=0) (by lia) (by rw[hg];lia))
  have q0:evE W (disownAll [some ⟨.int n,false,.old⟩,some ⟨.lst (ts.map tieD),false,.old⟩,some ⟨.lst ((MT.groups n ts).map D.int),false,.fl⟩,x3,x4,x5]) (.var 2)=some (.ok (.lst ((MT.groups n ts).map D.int)) (.cl .fl)):=rfl
  exact zDW q0 q rfl (by rw[show(0:Int).toNat=0 from rfl,z2C])
 ·show some _=_
  congr 1
  rw[Bool.eq_iff_iff,MT.isWhole]
  simp only[beq_iff_eq]
  lia
def Is(W:Wd)(f:Str)(P:(List D->Option R)->Prop):Prop:=∃fn,W.F f=some fn/\fn.fl=[]/\P fn.m
theorem z6w(W:Wd)(hg:W.glob "MOST_PLACES"=some 12)(hT:Is W "is_tie" λm=>∀(n:Int)(t:Int×Int),m [.int n,tieD t]=some (.ok (.bl (decide (0<=t.1)&&(decide (t.1<t.2)&&decide (t.2<n))))))
  (hR:Is W "is_rising" λm=>∀ts:List (Int×Int),ts.length<=1000->m [.lst (ts.map tieD)]=some (.ok (.bl (MT.risingB ts))))
  (hW:Is W "is_whole" λm=>∀(n:Nat)(ts:List (Int×Int)),1<=n->n<=1000->(∀t∈ts,MT.InR n t)->m [.int n,.lst (ts.map tieD)]=some (.ok (.bl (MT.isWhole n ts))))
  (n:Nat) (ts:List (Int×Int)) (V:MT.Valid n ts) (hn:n<=12):evFn W 2 [] Bd.z1E [.int n,.lst (ts.map tieD)]=some (.ok .non):=by
 obtain⟨fT,T1,T2,T3⟩:=hT
 obtain⟨fR,R1,R2,R3⟩:=hR
 obtain⟨fW,W1,W2,W3⟩:=hW
 have hl:=V.len
 have hp:=V.pos
 unfold evFn Bd.z1E
 rw[z0b ((z1B (t:=.new) (z88 (c:=true) (t:=.new) (zBL (i:=1) (j:=n) (k:=12) (t:=.new) (u:=.new) (v:=.new) rfl rfl (by(conv=>lhs;whnf);rw[hg]) (by simp;lia)))).trans rfl)]
 rw[z0b ((z1B (t:=.new) (z09 (c:=false) (x:=.int ts.length) (y:=.int ((n:Int)-1)) (t:=.new) (u:=.new) (by rw[z4s (ds:=ts.map tieD) (t:=.cl .old) rfl,List.length_map]) rfl (zAq (by lia)))).trans rfl)]
 rw[z0b ((z1B (t:=.new) (z88 (c:=true) (t:=.new) ?_)).trans rfl)]
 ·rw[z0b ((z1B (t:=.new) (z88 (c:=true) (t:=.new) (z0c R1 (z1M (t:=.cl .old) rfl) (by rw[R3 ts (by omega),(MT.z44 ts).mpr V.ris]) R2))).trans rfl)]
  rw[z0b ((z1B (t:=.new) (z88 (c:=true) (t:=.new) (z0c W1 (z0l (t:=.new) (u:=.cl .old) rfl rfl) (by rw[W3 n ts (by omega) (by lia) V.rg,V.whole]) W2))).trans rfl)]
  rfl
 ·have:=z2B (W:=W) (ρ:=entsOf [] [.int n,.lst (ts.map tieD)]++List.replicate (2-[D.int n,D.lst (ts.map tieD)].length) none) (src:=.var 1) (el:=.call "is_tie" [(.var 2),(.var 1)]) (ix:=[none,none,some 0]) (tg:=.name 1) tieD ts (λ_=>.bl true) (t:=.cl .old) rfl (λt ht=>⟨_,.new,rfl,z0c T1 (z0l (t:=.new) (u:=.new) rfl rfl) (by
   refine(T3 n t).trans ?_
   have hI:=V.rg t ht
   simp[hI.1,hI.2.1,hI.2.2]) T2,rfl⟩)
  have e:ts.map (λ_=>D.bl true)=(ts.map λ_=>true).map D.bl:=by rw[List.map_map];rfl
  rw[e]at this
  rw[z2g this (z7j _)]
  show some (Res.ok (.bl _) .new)=_
  simp
theorem z6x{n:Nat}{ts:List (Int×Int)}(hr:∀t∈ts,MT.InR n t)(p:Int):(MT.lower ts p++MT.higher ts p).filter (λx=>decide (x<p))=MT.lower ts p:=by
 rw[List.filter_append]
 have h1:(MT.lower ts p).filter (λx=>decide (x<p))=MT.lower ts p:=by
  rw[List.filter_eq_self]
  intro x hx
  unfold MT.lower at hx
  rw[List.mem_map]at hx
  obtain⟨t,ht,rfl⟩:=hx
  rw[List.mem_filter]at ht
  have:=hr t ht.1
  have h2:=ht.2
  simp only[decide_eq_true_eq]at h2 ⊢
  have:=this.2.1
  omega
 have h2:(MT.higher ts p).filter (λx=>decide (x<p))=[]:=by
  rw[List.filter_eq_nil_iff]
  intro x hx
  unfold MT.higher at hx
  rw[List.mem_map]at hx
  obtain⟨t,ht,rfl⟩:=hx
  rw[List.mem_filter]at ht
  have:=hr t ht.1
  have h2:=ht.2
  simp only[decide_eq_true_eq]at h2 ⊢
  have:=this.2.1
  omega
 rw[h1,h2,List.append_nil]
theorem zBO(W:Wd)(hN:Is W "neighbours" λm=>∀(n:Int)(ts:List (Int×Int))(p:Int),ts.length<=1000->m [.tree n (ts.map tieD),.int p]=some (.ok (.lst ((MT.lower ts p++MT.higher ts p).map D.int))))
  (n:Nat) (ts:List (Int×Int)) (p:Int) (hl:ts.length<=1000) (hr:∀t∈ts,MT.InR n t):evFn W 2 [] Bd.z02 [.tree n (ts.map tieD),.int p]=some (.ok (.lst ((MT.lower ts p).map D.int))):=by
 obtain⟨fN,N1,N2,N3⟩:=hN
 unfold evFn Bd.z02
 have:=z2A (W:=W) (ρ:=disownAll (entsOf [] [.tree n (ts.map tieD),.int p]++List.replicate (2-[D.tree n (ts.map tieD),D.int p].length) none)) (ix:=[none,none,some 1]) (tg:=.name 1) (src:=.call "neighbours" [(.var 0),(.var 1)]) (tst:=some (.cmp .lt (.var 1) (.var 2))) (el:=.var 1)
  D.int (MT.lower ts p++MT.higher ts p) (λx=>decide (x<p)) D.int (t:=.new) (z0c N1 (z0l (t:=.cl .old) (u:=.new) rfl rfl) (N3 n ts p hl) N2) (λx _=>⟨_,.new,rfl,rfl,λ_=>⟨.new,rfl,rfl⟩⟩)
 rw[z6x hr]at this
 rw[z0i (z0I (u:=.new) this (z1b _))]
 rfl
theorem z7l(W:Wd)(hN:Is W "lesser_neighbours" λm=>∀(n:Nat)(ts:List (Int×Int))(p:Int),ts.length<=1000->(∀t∈ts,MT.InR n t)->m [.tree n (ts.map tieD),.int p]=some (.ok (.lst ((MT.lower ts p).map D.int))))
  (n:Nat) (ts:List (Int×Int)) (hn:n<=1000) (hl:ts.length<=1000) (hr:∀t∈ts,MT.InR n t):evFn W 1 [] Bd.z2c [.tree n (ts.map tieD)]=some (.ok (.lst ((MT.g0 n).map λp=>.lst ((MT.lower ts p).map D.int)))):=by
 obtain⟨fN,N1,N2,N3⟩:=hN
 unfold evFn Bd.z2c
 have:=z3q (W:=W) (ρ:=disownAll (entsOf [] [.tree n (ts.map tieD)]++List.replicate (1-[D.tree n (ts.map tieD)].length) none)) (ix:=[none,none,some 0]) (j:=1) (lo:=.int 0) (hi:=.fld (.var 0) false) (tst:=none) (el:=.call "lesser_neighbours" [(.var 2),(.var 1)])
  (m:=0) (n:=n) (t:=.new) (t':=.new) (λ_=>true) (λp=>.lst ((MT.lower ts p).map D.int)) rfl rfl ⟨rfl,z0k (by lia) (by omega),by omega⟩ (λk _=>⟨_,.new,rfl,rfl,λ_=>⟨.new,z0c N1 (z0l (t:=.cl .old) (u:=.new) rfl rfl) (N3 n ts _ hl hr) N2,zBJ _⟩⟩)
 rw[z0W]at this
 have e:(List.range ((n:Int)-0).toNat).map (λk:Nat=>(0:Int)+(k:Int))=MT.g0 n:=by
  unfold MT.g0
  rw[show((n:Int)-0).toNat=n by lia]
  refine List.map_congr_left λk _=>?_
  lia
 rw[e]at this
 rw[z0i (z0I (u:=.new) this (z1b _))]
 rfl
end Ev
namespace Ev
open PySem (Str)
theorem z7Z{α β:Type}{body:Env->Option Out}{bd:Env->D->Option Env}(e:α->D)(P:Env->Prop)(f:α->Option β)(g:β->D)(τ:Tag):∀(xs:List α)(ρ0:Env),P ρ0->
  (∀x∈xs,∀ρ,P ρ-> ∃ρ1,bd ρ (e x)=some ρ1/\((∃b,f x=some b/\body ρ1=some (.rt (g b) τ))\/(f x=none/\ ∃ρ2,body ρ1=some (.nx ρ2)/\P ρ2)))->
  (∃b,xs.findSome? f=some b/\forGo body bd (xs.map e) ρ0=some (.rt (g b) τ))\/(xs.findSome? f=none/\ ∃ρ',forGo body bd (xs.map e) ρ0=some (.nx ρ')/\P ρ')
 | [],ρ0,h0,_=>.inr ⟨rfl,ρ0,rfl,h0⟩
 | x::xs,ρ0,h0,step=>by
  obtain⟨ρ1,h1,h2⟩:=step x List.mem_cons_self ρ0 h0
  rw[List.map_cons]
  rcases h2 with⟨b,hb,h2⟩|⟨hb,ρ2,h2,h3⟩
  ·exact .inl ⟨b,by rw[List.findSome?_cons,hb],zFD h1 h2⟩
  ·rw[z7W h1 h2,List.findSome?_cons,hb]
   exact z7Z e P f g τ xs ρ2 h3 λy hy=>step y (List.mem_cons_of_mem _ hy)
def pairD(p:List Int×List Int):D:=.tup [.lst (p.1.map D.int),.lst (p.2.map D.int)]
def listD(B:List (List Int)):D:=.lst (B.map λl=>.lst (l.map D.int))
theorem z20(x:Int)(ns:List Int):cmpD .notin (.int x) (.lst (ns.map D.int))=some (!decide (x∈ns)):=by
 have:cmpD .notin (.int x) (.lst (ns.map D.int))=(inD (.int x) (ns.map D.int)).map (!·):=rfl
 rw[this,z5r];rfl
theorem zBP{a b:List Int}(h:a.length+b.length<=1000):binD .add (.lst (a.map D.int)) (.lst (b.map D.int))=some (.lst ((a++b).map D.int)):=by
 have:binD .add (.lst (a.map D.int)) (.lst (b.map D.int))=if(a.map D.int).length+(b.map D.int).length<=lim then some (.lst (a.map D.int++b.map D.int))else none:=rfl
 rw[this,if_pos (by simp only[List.length_map];show _<=1000000;lia),List.map_append]
theorem zA1{W:Wd}{ρ:Env}{a b:Ex}{t u:Tag}{x y:List Int}(h:x.length+y.length<=1000)(ha:evE W ρ a=some (.ok (.lst (x.map D.int)) t))(hb:evE W ρ b=some (.ok (.lst (y.map D.int)) u)):evE W ρ (.bin .add a b)=some (.ok (.lst ((x++y).map D.int)) .new):=
 zAm ha hb (zBP h) (z00 _)
theorem zBQ{B:List (List Int)}{j:Nat}{l:List Int}(h:B[j]? = some l):atI (B.map λl=>D.lst (l.map D.int)) (j:Int)=some (.lst (l.map D.int)):=z1i (by rw[List.getElem?_map,h];rfl)
theorem zDX(W:Wd)(n:Nat)(B:List (List Int))(l ms met:List Int)(hn:n<=12)(hB:B.length=n)(hl:B[ms.length]? = some l)(hll:l.length<=11)(hp:∀p∈l,0<=p/\p<(ms.length:Int))(hmet:met.length<=300):
  evFn W 6 [] Bd.z5o [listD B,.lst (ms.map D.int),.lst (met.map D.int)]=some (.ok (.lst ((MT.stepsP n l ms met).map pairD))):=by
 have hms:ms.length<n:=by have:=(List.getElem?_eq_some_iff.mp hl).1;omega
 have loop:=z2l (body:=λρ'=>evSs W ρ' [.ifs (.cmp .notin (.var 4) (.var 1)) [.asg 5 false (.bin .add (.var 2) (.compL [none,none,some 1,some 4] (.name 1) (.ix (.var 0) (.blt .len [(.var 1)])) none (.blt .abs [(.bin .sub (.ix (.var 2) (.var 1)) (.var 3))]))),.ifs (.cmp .eq (.blt .lset [(.var 5)]) (.blt .len [(.var 5)])) [.app 3 (.tup [(.bin .add (.var 1) (.lst [(.var 4)])),(.var 5)])] []] []]) (bd:=λρ' x=>bindT ρ' .new (.name 4) x)
  (λk ρ=>∃x4 x5,ρ=[some ⟨listD B,false,.old⟩,some ⟨.lst (ms.map D.int),false,.old⟩,some ⟨.lst (met.map D.int),false,.old⟩,some ⟨.lst (((MT.g0 k.toNat).filterMap (MT.stepOf l ms met)).map pairD),true,.fl⟩,x4,x5]) n 0 [some ⟨listD B,false,.old⟩,some ⟨.lst (ms.map D.int),false,.old⟩,some ⟨.lst (met.map D.int),false,.old⟩,some ⟨.lst [],true,.fl⟩,none,none] ⟨none,none,rfl⟩ (λk ρ hk0 hk1⟨x4,x5,hρ⟩=>by
   subst hρ
   obtain⟨j,rfl⟩:∃j:Nat,k=(j:Int):=⟨k.toNat,by omega⟩
   have eg:MT.g0 ((j:Int)+1).toNat=MT.g0 j++[(j:Int)]:=by rw[show((j:Int)+1).toNat=j+1 by omega,MT.z4P]
   rw[eg]
   simp only[Int.toNat_natCast,List.filterMap_append]
   by_cases hk:(j:Int)∈ms
   ·refine⟨_,[some ⟨listD B,false,.old⟩,some ⟨.lst (ms.map D.int),false,.old⟩,some ⟨.lst (met.map D.int),false,.old⟩,some ⟨.lst (((MT.g0 j).filterMap (MT.stepOf l ms met)).map pairD),true,.fl⟩,some ⟨.int j,false,.fl⟩,x5],rfl,?_,some ⟨.int j,false,.fl⟩,x5,?_⟩
    ·exact(z0o ((z1B (t:=.new) (z09 (c:=false) (x:=.int j) (y:=.lst (ms.map D.int)) (t:=.new) (u:=.cl .old) rfl rfl (by rw[z20];simp[hk]))).trans rfl))
    ·have:MT.stepOf l ms met j=none:=by unfold MT.stepOf;rw[if_pos hk]
     simp[this]
   ·have hgl:(MT.grow l ms met j).length<=400:=by unfold MT.grow;rw[List.length_append,List.length_map];lia
    have h5:∀x5,evE W [some ⟨listD B,false,.old⟩,some ⟨.lst (ms.map D.int),false,.old⟩,some ⟨.lst (met.map D.int),false,.old⟩,some ⟨.lst (((MT.g0 j).filterMap (MT.stepOf l ms met)).map pairD),true,.fl⟩,some ⟨.int j,false,.fl⟩,x5] (.bin .add (.var 2) (.compL [none,none,some 1,some 4] (.name 1) (.ix (.var 0) (.blt .len [(.var 1)])) none (.blt .abs [(.bin .sub (.ix (.var 2) (.var 1)) (.var 3))])))=some (.ok (.lst ((MT.grow l ms met j).map D.int)) .new):=λx5=>by
     have hc:=z2B (W:=W) (ρ:=[some ⟨listD B,false,.old⟩,some ⟨.lst (ms.map D.int),false,.old⟩,some ⟨.lst (met.map D.int),false,.old⟩,some ⟨.lst (((MT.g0 j).filterMap (MT.stepOf l ms met)).map pairD),true,.fl⟩,some ⟨.int j,false,.fl⟩,x5]) (ix:=[none,none,some 1,some 4]) (tg:=.name 1) (src:=.ix (.var 0) (.blt .len [(.var 1)])) (el:=.blt .abs [(.bin .sub (.ix (.var 2) (.var 1)) (.var 3))]) D.int l (λp=>.int (MT.absI (ms.getD p.toNat 0-j))) (t:=.cl .old) (by
       refine v_ix (x:=listD B) (y:=.int ms.length) (t:=.cl .old) (u:=.new) rfl ?_ (zBQ hl)
       have:=z4s (W:=W) (a:=.var 1) (ρ:=[some ⟨listD B,false,.old⟩,some ⟨.lst (ms.map D.int),false,.old⟩,some ⟨.lst (met.map D.int),false,.old⟩,some ⟨.lst (((MT.g0 j).filterMap (MT.stepOf l ms met)).map pairD),true,.fl⟩,some ⟨.int j,false,.fl⟩,x5]) (ds:=ms.map D.int) (t:=.cl .old) rfl
       rw[List.length_map]at this
       exact this) (λp hpl=>⟨_,.new,rfl,z2g (x:=.int (ms.getD p.toNat 0-j)) (t:=.new) (z0t (i:=ms.getD p.toNat 0) (j:=j) (t:=.new) (u:=.new) (v_ix (x:=.lst (ms.map D.int)) (y:=.int p) (t:=.cl .old) (u:=.new) rfl rfl (z2D (hp p hpl).1 (hp p hpl).2)) rfl rfl) rfl,rfl⟩)
     have e:l.map (λp=>D.int (MT.absI (ms.getD p.toNat 0-j)))=(l.map λp=>MT.absI (ms.getD p.toNat 0-j)).map D.int:=by rw[List.map_map];rfl
     rw[e]at hc
     exact zA1 (x:=met) (t:=.cl .old) (by rw[List.length_map];lia) rfl hc
    have hq:=zA0 (W:=W) (ρ:=[some ⟨listD B,false,.old⟩,some ⟨.lst (ms.map D.int),false,.old⟩,some ⟨.lst (met.map D.int),false,.old⟩,some ⟨.lst (((MT.g0 j).filterMap (MT.stepOf l ms met)).map pairD),true,.fl⟩,some ⟨.int j,false,.fl⟩,some ⟨.lst ((MT.grow l ms met j).map D.int),false,.fl⟩]) (a:=.var 5) (ns:=MT.grow l ms met j) (t:=.cl .fl) (by lia) rfl
    have hc4:=z09 (W:=W) (ρ:=[some ⟨listD B,false,.old⟩,some ⟨.lst (ms.map D.int),false,.old⟩,some ⟨.lst (met.map D.int),false,.old⟩,some ⟨.lst (((MT.g0 j).filterMap (MT.stepOf l ms met)).map pairD),true,.fl⟩,some ⟨.int j,false,.fl⟩,x5]) (a:=.var 4) (b:=.var 1) (op:=.notin) (c:=true) (x:=.int j) (y:=.lst (ms.map D.int)) (t:=.new) (u:=.cl .old) rfl rfl (by rw[z20];simp[hk])
    by_cases hd:(MT.grow l ms met j).Nodup
    ·refine⟨_,[some ⟨listD B,false,.old⟩,some ⟨.lst (ms.map D.int),false,.old⟩,some ⟨.lst (met.map D.int),false,.old⟩,some ⟨.lst (((MT.g0 j).filterMap (MT.stepOf l ms met)).map pairD++[pairD (ms++[(j:Int)],MT.grow l ms met j)]),true,.fl⟩,some ⟨.int j,false,.fl⟩,some ⟨.lst ((MT.grow l ms met j).map D.int),false,.fl⟩],rfl,?_,some ⟨.int j,false,.fl⟩,some ⟨.lst ((MT.grow l ms met j).map D.int),false,.fl⟩,?_⟩
     ·refine z0o ((z2Y (t:=.new) hc4).trans ?_)
      rw[z0b (z03 (h5 x5))]
      refine z0o ((z2Y (t:=.new) (by rw[decide_eq_true hd]at hq;exact hq)).trans (z0o ?_))
      refine zBI (ds:=((MT.g0 j).filterMap (MT.stepOf l ms met)).map pairD) (c:=.fl) (c':=.fl) (t:=.cl .fl) (d:=pairD (ms++[(j:Int)],MT.grow l ms met j)) rfl ?_ rfl ?_
      ·have q:=z0l (W:=W) (ρ:=[some ⟨listD B,false,.old⟩,some ⟨.lst (ms.map D.int),false,.old⟩,some ⟨.lst (met.map D.int),false,.old⟩,some ⟨.lst (((MT.g0 j).filterMap (MT.stepOf l ms met)).map pairD),true,.fl⟩,some ⟨.int j,false,.fl⟩,some ⟨.lst ((MT.grow l ms met j).map D.int),false,.fl⟩]) (a:=.bin .add (.var 1) (.lst [(.var 4)])) (b:=.var 5) (t:=.new) (u:=.cl .fl) (zA1 (x:=ms) (y:=[(j:Int)]) (t:=.cl .old) (u:=.new) (by simp;lia) rfl rfl) rfl
       (conv=>lhs;whnf)
       refine(congrArg (λo=>match o with
        | some (Ress.ok ds ts)=>(match joinAll ts with
         | some u=>if ds.length<=1000 then some (Res.ok (.tup ds) (rts ds u))else none
         | none=>none)
        | some (.exc c)=>some (.exc c)
        | none=>none) q).trans rfl
      ·rw[List.length_map]
       have:=List.length_filterMap_le (MT.stepOf l ms met) (MT.g0 j)
       rw[MT.z0x]at this
       show _<1000000
       lia
     ·have:MT.stepOf l ms met j=some (ms++[(j:Int)],MT.grow l ms met j):=by unfold MT.stepOf;rw[if_neg hk,if_pos hd]
      simp[this]
    ·refine⟨_,[some ⟨listD B,false,.old⟩,some ⟨.lst (ms.map D.int),false,.old⟩,some ⟨.lst (met.map D.int),false,.old⟩,some ⟨.lst (((MT.g0 j).filterMap (MT.stepOf l ms met)).map pairD),true,.fl⟩,some ⟨.int j,false,.fl⟩,some ⟨.lst ((MT.grow l ms met j).map D.int),false,.fl⟩],rfl,?_,some ⟨.int j,false,.fl⟩,some ⟨.lst ((MT.grow l ms met j).map D.int),false,.fl⟩,?_⟩
     ·refine z0o ((z2Y (t:=.new) hc4).trans ?_)
      rw[z0b (z03 (h5 x5))]
      exact z0o ((z1B (t:=.new) (by rw[decide_eq_false hd]at hq;exact hq)).trans rfl)
     ·have:MT.stepOf l ms met j=none:=by unfold MT.stepOf;rw[if_neg hk,if_neg hd]
      simp[this])
 obtain⟨ρ',h1,x4,x5,rfl⟩:=loop
 unfold evFn Bd.z5o
 rw[z0b (z1L (ds:=[]) rfl rfl)]
 rw[z0b ((z2Z (m:=0) (n:=n) (t:=.new) (t':=.new) rfl (by rw[z4s (ds:=B.map λl=>.lst (l.map D.int)) (t:=.cl .old) rfl,List.length_map,hB]) ⟨rfl,z0k (by lia) (by lia)⟩).trans (by rw[show((n:Int)-0).toNat=n by lia];exact h1))]
 rw[show((0:Int)+(n:Int)).toNat=n by lia]
 rfl
end Ev
namespace Ev
open PySem (Str)
theorem z7m{W:Wd}{ρ:Env}{c:Str}{e:Ex}{d:D}{t:Tag}(hx:W.exn c=true)(h:evE W ρ e=some (.ok d t)):evS W ρ (.raise c e)=some (.exc c):=by
 show(if W.exn c=true then bindO (evE W ρ e) _ else none)=_;rw[if_pos hx,h];rfl
theorem z3a(W:Wd)(hx:W.exn "BadMarks"=true)(n:Nat)(ts:List D)(ms:List Int)(hm:ms.length<64)(hn:n<=1000):evFn W 2 [] Bd.z1q [.tree n ts,.lst (ms.map D.int)]=some (if isortI ms=MT.g0 n then .ok .non else .exc "BadMarks"):=by
 unfold evFn Bd.z1q
 have hc:=z09 (W:=W) (ρ:=entsOf [] [.tree n ts,.lst (ms.map D.int)]++List.replicate (2-[D.tree n ts,D.lst (ms.map D.int)].length) none) (op:=.ne) (a:=.blt .sorted [(.var 1)]) (b:=.blt .listrange1 [(.fld (.var 0) false)]) (c:=!decide (isortI ms=MT.g0 n)) (x:=.lst ((isortI ms).map D.int)) (y:=.lst ((MT.g0 n).map D.int)) (t:=.new) (u:=.new) (z7Y (x:=.lst (ms.map D.int)) (t:=.cl .old) rfl (z6v hm)) (z7Y (x:=.int n) (t:=.new) rfl (zAz hn)) (by
  have:cmpD .ne (.lst ((isortI ms).map D.int)) (.lst ((MT.g0 n).map D.int))=(eqD (.lst ((isortI ms).map D.int)) (.lst ((MT.g0 n).map D.int))).map (!·):=rfl
  rw[this,z7X];rfl)
 by_cases h:isortI ms=MT.g0 n
 ·rw[if_pos h]
  rw[decide_eq_true h]at hc
  rw[z0b ((z1B hc).trans rfl)]
  rfl
 ·rw[if_neg h]
  rw[decide_eq_false h]at hc
  rw[z1z ((z2Y hc).trans (z1z (z7m hx rfl)))]
  rfl
abbrev HasMarks(W:Wd)(f:Str)(g:Nat->List (Int×Int)->List Int->R):Prop:=Is W f λm=>∀(n:Nat)(ts:List (Int×Int))(ms:List Int),ms.length<64->n<=63->ts.length<64->(∀t∈ts,MT.InR n t)->m [.tree n (ts.map tieD),.lst (ms.map D.int)]=some (g n ts ms)
def rCheck(n:Nat)(_:List (Int×Int))(ms:List Int):R:=if isortI ms=MT.g0 n then .ok .non else .exc "BadMarks"
def rDiffs(n:Nat)(ts:List (Int×Int))(ms:List Int):R:=if isortI ms=MT.g0 n then .ok (.lst ((MT.diffs ms ts).map D.int))else .exc "BadMarks"
def rGood(n:Nat)(ts:List (Int×Int))(ms:List Int):R:=if isortI ms=MT.g0 n then .ok (.bl (decide (MT.diffs ms ts).Nodup))else .exc "BadMarks"
def rCheckG(n:Nat)(ts:List (Int×Int))(ms:List Int):R:=if isortI ms=MT.g0 n then(if(MT.diffs ms ts).Nodup then .ok .non else .exc "NotGood")else .exc "BadMarks"
theorem zBR{n:Nat}{ms:List Int}(h:isortI ms=MT.g0 n):ms.length=n:=by rw[<-z5e,h,MT.z0x]
theorem z5t(W:Wd)(hC:HasMarks W "check_marks" rCheck)(n:Nat)(ts:List (Int×Int))(ms:List Int)(hm:ms.length<64)(hn:n<=63)(hl:ts.length<64)(hr:∀t∈ts,MT.InR n t):
  evFn W 2 [] Bd.z1r [.tree n (ts.map tieD),.lst (ms.map D.int)]=some (rDiffs n ts ms):=by
 obtain⟨fC,C1,C2,C3⟩:=hC
 have hc:=C3 n ts ms hm hn hl hr
 unfold evFn Bd.z1r
 unfold rCheck at hc
 unfold rDiffs
 by_cases h:isortI ms=MT.g0 n
 ·rw[if_pos h]at hc ⊢
  have hlen:=zBR h
  rw[z0b (zAl (z0c C1 (z0l (t:=.cl .old) (u:=.cl .old) rfl rfl) hc C2))]
  have:=z2B (W:=W) (ρ:=disownAll (entsOf [] [.tree n (ts.map tieD),.lst (ms.map D.int)]++List.replicate (2-[D.tree n (ts.map tieD),D.lst (ms.map D.int)].length) none)) (src:=.fld (.var 0) true) (el:=.blt .abs [(.bin .sub (.ix (.var 2) (.ix (.var 1) (.int 0))) (.ix (.var 2) (.ix (.var 1) (.int 1))))]) (ix:=[none,none,some 1]) (tg:=.name 1) tieD ts (λt=>.int (MT.diff ms t)) (t:=.cl .old) rfl (λt ht=>by
   have hI:=hr t ht
   have h1:=hI.1
   have h2:=hI.2.1
   have h3:=hI.2.2
   refine⟨_,.new,rfl,?_,rfl⟩
   exact z2g (x:=.int (ms.getD t.1.toNat 0-ms.getD t.2.toNat 0)) (t:=.new) (z0t (i:=ms.getD t.1.toNat 0) (j:=ms.getD t.2.toNat 0) (t:=.new) (u:=.new) (v_ix (x:=.lst (ms.map D.int)) (y:=.int t.1) (t:=.cl .old) (u:=.new) rfl rfl (z2D h1 (by omega))) (v_ix (x:=.lst (ms.map D.int)) (y:=.int t.2) (t:=.cl .old) (u:=.new) rfl rfl (z2D (by lia) (by omega))) rfl) rfl)
  rw[z0i (z0I (u:=.new) this (z1b _))]
  have e:ts.map (λt=>D.int (MT.diff ms t))=(MT.diffs ms ts).map D.int:=by rw[MT.diffs,List.map_map];rfl
  rw[e]
  rfl
 ·rw[if_neg h]at hc ⊢
  rw[z1z (z3o (z4d C1 (z0l (t:=.cl .old) (u:=.cl .old) rfl rfl) hc))]
  rfl
theorem zA2{W:Wd}{ρ:Env}{c:Str}{e:Ex}{i:Nat}{m:Bool}(h:evE W ρ e=some (.exc c)):evS W ρ (.asg i m e)=some (.exc c):=by(conv=>lhs;whnf);rw[h]
theorem zBS{W:Wd}{ρ:Env}{c:Str}{e:Ex}{bt be:List Sx}(h:evE W ρ e=some (.exc c)):evS W ρ (.ifs e bt be)=some (.exc c):=by(conv=>lhs;whnf);rw[h]
theorem zA3{W:Wd}{ρ:Env}{c:Str}{e:Ex}(h:evE W ρ e=some (.exc c)):evE W ρ (.not e)=some (.exc c):=by(conv=>lhs;whnf);rw[h]
theorem zA4(W:Wd)(hC:HasMarks W "differences" rDiffs)(n:Nat)(ts:List (Int×Int))(ms:List Int)(hm:ms.length<64)(hn:n<=63)(hl:ts.length<64)(hr:∀t∈ts,MT.InR n t):
  evFn W 3 [] Bd.z2V [.tree n (ts.map tieD),.lst (ms.map D.int)]=some (rGood n ts ms):=by
 obtain⟨fC,C1,C2,C3⟩:=hC
 have hc:=C3 n ts ms hm hn hl hr
 unfold evFn Bd.z2V
 unfold rDiffs at hc
 unfold rGood
 by_cases h:isortI ms=MT.g0 n
 ·rw[if_pos h]at hc ⊢
  rw[z0b (z03 (z0c C1 (z0l (t:=.cl .old) (u:=.cl .old) rfl rfl) hc C2))]
  rw[z0i (z0I (u:=.new) (zA0 (ns:=MT.diffs ms ts) (t:=.cl .fl) (by rw[MT.diffs,List.length_map];lia) rfl) (z1b _))]
  rfl
 ·rw[if_neg h]at hc ⊢
  rw[z1z (zA2 (z4d C1 (z0l (t:=.cl .old) (u:=.cl .old) rfl rfl) hc))]
  rfl
theorem z6y(W:Wd)(hx:W.exn "NotGood"=true)(hC:HasMarks W "is_good" rGood)(n:Nat)(ts:List (Int×Int))(ms:List Int)(hm:ms.length<64)(hn:n<=63)(hl:ts.length<64)(hr:∀t∈ts,MT.InR n t):
  evFn W 2 [] Bd.z1G [.tree n (ts.map tieD),.lst (ms.map D.int)]=some (rCheckG n ts ms):=by
 obtain⟨fC,C1,C2,C3⟩:=hC
 have hc:=C3 n ts ms hm hn hl hr
 unfold evFn Bd.z1G
 unfold rGood at hc
 unfold rCheckG
 by_cases h:isortI ms=MT.g0 n
 ·rw[if_pos h]at hc ⊢
  have hv:=z88 (z0c C1 (z0l (W:=W) (ρ:=entsOf [] [.tree n (ts.map tieD),.lst (ms.map D.int)]++List.replicate (2-[D.tree n (ts.map tieD),D.lst (ms.map D.int)].length) none) (a:=.var 0) (b:=.var 1) (t:=.cl .old) (u:=.cl .old) rfl rfl) hc C2)
  by_cases hd:(MT.diffs ms ts).Nodup
  ·rw[if_pos hd]
   rw[decide_eq_true hd]at hv
   rw[z0b ((z1B hv).trans rfl)]
   rfl
  ·rw[if_neg hd]
   rw[decide_eq_false hd]at hv
   rw[z1z ((z2Y hv).trans (z1z (z7m hx rfl)))]
   rfl
 ·rw[if_neg h]at hc ⊢
  rw[z1z (zBS (zA3 (z4d C1 (z0l (t:=.cl .old) (u:=.cl .old) rfl rfl) hc)))]
  rfl
theorem zBT{W:Wd}{ρ:Env}{a b:Ex}{ns:List Int}{x:Int}{t u:Tag}(ha:evE W ρ a=some (.ok (.lst (ns.map D.int)) t))(hb:evE W ρ b=some (.ok (.int x) u)):evE W ρ (.count a b)=some (.ok (.int (ns.count x)) .new):=by
 (conv=>lhs;whnf);rw[ha]
 dsimp only[bindR]
 rw[hb]
 dsimp only
 rw[if_pos (show flatD (D.int _)=true from rfl),z2C]
end Ev
namespace Ev
open PySem (Str)
def coEnv(ns:List Int)(b:Int)(a2 a3:Option Ent)(n:Nat)(nm:List Int)(us:List (Int×Int))(e:Int)(x6 x9 x10:Option Ent):Env:=[some ⟨.scr ns,false,.old⟩,some ⟨.int b,false,.old⟩,a2,a3,some ⟨.int n,false,.fl⟩,some ⟨.lst (nm.map D.int),true,.fl⟩,x6,some ⟨.lst (us.map tieD),true,.fl⟩,some ⟨.int e,false,.fl⟩,x9,x10]
theorem zA5{W:Wd}{fC fM:Fn}(hF:W.F "_law_cell_at"=some fC)(cC:fC.fl=[]/\ ∀(ns:List Int)(k:Int),0<=k-> ∃c,fC.m [.scr ns,.int k]=some (.ok (.int c)))(hG:W.F "_law_mix"=some fM)(cM:fM.fl=[]/\ ∀(c k m:Int),0<=k->k<1000000->0<m-> ∃r,0<=r/\r<m/\fM.m [.int c,.int k,.int m]=some (.ok (.int r)))(ns:List Int)(b:Int)(hb:0<=b)(a2 a3 a6:Option Ent)(n:Nat)(hn:n<=12)(hn1:1<=n)(nm:List Int)(hE:MT.Each n nm):
  ∃(x6 x9 x10:Option Ent)(us:List (Int×Int))(e:Nat),forGo (λρ'=>evSs W ρ' [.par [9,10] [(.ix (.var 5) (.var 6)),(.ix (.var 5) (.var 8))],.app 7 (.tup [(.blt .min [(.var 9),(.var 10)]),(.blt .max [(.var 9),(.var 10)])]),.ifs (.cmp .eq (.call "_law_mix" [(.call "_law_cell_at" [(.var 0),(.bin .add (.var 1) (.int 2))]),(.var 6),(.int 2)]) (.int 0)) [.asg 8 false (.var 6)] []]) (λρ' x=>bindT ρ' .new (.name 6) x) (rangeD 1 (n-1)) (coEnv ns b a2 a3 n nm [] 0 a6 none none)=some (.nx (coEnv ns b a2 a3 n nm us e x6 x9 x10))/\MT.Grown n nm n us/\ ∃el,MT.Eld nm n us el e:=by
 have hlen:=hE.len
 obtain⟨c2,hc2⟩:=cC.2 ns (b+2) (Int.add_nonneg hb (by decide))
 have nat:∀j:Nat,j<n-> ∃z,nm[j]? = some z:=λj hj=>⟨nm[j]'(by rw[hlen];exact hj),List.getElem?_eq_getElem _⟩
 obtain⟨ρ',h1,h2⟩:=z2l (body:=λρ'=>evSs W ρ' [.par [9,10] [(.ix (.var 5) (.var 6)),(.ix (.var 5) (.var 8))],.app 7 (.tup [(.blt .min [(.var 9),(.var 10)]),(.blt .max [(.var 9),(.var 10)])]),.ifs (.cmp .eq (.call "_law_mix" [(.call "_law_cell_at" [(.var 0),(.bin .add (.var 1) (.int 2))]),(.var 6),(.int 2)]) (.int 0)) [.asg 8 false (.var 6)] []]) (bd:=λρ' x=>bindT ρ' .new (.name 6) x)
  (λk ρ=>∃(x6 x9 x10:Option Ent)(us:List (Int×Int))(e:Nat),ρ=coEnv ns b a2 a3 n nm us e x6 x9 x10/\MT.Grown n nm k.toNat us/\e<k.toNat/\ ∃el,MT.Eld nm k.toNat us el e)
  (n-1) 1 (coEnv ns b a2 a3 n nm [] 0 a6 none none) ⟨a6,none,none,[],0,rfl,MT.Grown.start n nm,by decide,_,MT.Eld.start nm⟩ λk ρ hk0 hk1 hI=>by
   refine ex5 hI λx6 x9 x10 us e hG0=>?_
   rw[hG0.1]
   clear hI
   obtain⟨_,hG0,he,el,hel⟩:=hG0
   obtain⟨j,rfl⟩:=Int.eq_ofNat_of_zero_le (Int.le_trans (by decide) hk0)
   have hjn:j<n:=by lia
   obtain⟨r2,r20,r21,hr2⟩:=cM.2 c2 j 2 (by lia) (by lia) (by decide)
   clear r20 r21 hk0 hk1
   rw[Int.toNat_natCast]at hG0 he hel
   obtain⟨zx,hzx⟩:=nat j hjn
   obtain⟨zy,hzy⟩:=nat e (Nat.lt_trans he hjn)
   have hp:evS W (coEnv ns b a2 a3 n nm us e (iEn j) x9 x10) (.par [9,10] [(.ix (.var 5) (.var 6)),(.ix (.var 5) (.var 8))])=some (.nx (coEnv ns b a2 a3 n nm us e (iEn j) (iEn zx) (iEn zy))):=by
    have q:=z0l (W:=W) (ρ:=coEnv ns b a2 a3 n nm us e (iEn j) x9 x10)
     (v_ix (a:=.var 5) (b:=.var 6) (x:=.lst (nm.map D.int)) (y:=.int j) (d:=.int zx) (t:=.own .fl) (u:=.new) rfl rfl (z1i (by rw[List.getElem?_map,hzx];rfl)))
     (v_ix (a:=.var 5) (b:=.var 8) (x:=.lst (nm.map D.int)) (y:=.int e) (d:=.int zy) (t:=.own .fl) (u:=.new) rfl rfl (z1i (by rw[List.getElem?_map,hzy];rfl)))
    (conv=>lhs;whnf)
    rw[q]
    rfl
   have happ:evS W (coEnv ns b a2 a3 n nm us e (iEn j) (iEn zx) (iEn zy)) (.app 7 (.tup [(.blt .min [(.var 9),(.var 10)]),(.blt .max [(.var 9),(.var 10)])]))=some (.nx (coEnv ns b a2 a3 n nm (us++[MT.tieOf zx zy]) e (iEn j) (iEn zx) (iEn zy))):=by
    refine(zBI (ds:=us.map tieD) (c:=.fl) (c':=.fl) (d:=tieD (MT.tieOf zx zy)) (t:=.new) rfl ?_ rfl (by rw[List.length_map,lim];have:=hG0.len;lia)).trans ?_
    ·rw[z7h];rfl
    ·unfold coEnv;rw[List.map_append];rfl
   have hmix:=z09 (op:=.eq) (W:=W) (ρ:=coEnv ns b a2 a3 n nm (us++[MT.tieOf zx zy]) e (iEn j) (iEn zx) (iEn zy)) (a:=.call "_law_mix" [(.call "_law_cell_at" [(.var 0),(.bin .add (.var 1) (.int 2))]),.var 6,.int 2]) (b:=.int 0) (x:=.int r2) (y:=.int 0) (t:=.new) (u:=.new) (z0c hG (z0L (t:=.new) (z0c hF (z0l (t:=.new) (u:=.new) rfl rfl) hc2 cC.1) (z0l (t:=.new) (u:=.new) rfl rfl)) hr2 cM.1) rfl (rfl:_=some (r2==0))
   have hgr:MT.Grown n nm (j+1) (us++[MT.tieOf zx zy]):=MT.Grown.step (e:=e) hE hG0 hzx hzy he
   rw[show((j:Int)+1).toNat=j+1 from rfl]
   refine⟨coEnv ns b a2 a3 n nm us e (iEn j) x9 x10,coEnv ns b a2 a3 n nm (us++[MT.tieOf zx zy]) (if r2==0 then j else e:Nat) (iEn j) (iEn zx) (iEn zy),rfl,(z0b hp).trans ((z0b happ).trans (z0o ((s_if hmix).trans ?_))),_,_,_,_,if r2==0 then j else e,rfl,hgr,?_,_,hel.push hG0.pos hG0.len he hzx hzy (r2==0)⟩
   ·cases(r2==0)with
    | true=>exact z0o (z03 (d:=.int j) rfl)
    | false=>rfl
   ·split
    ·exact Nat.lt_succ_self j
    ·exact Nat.lt_succ_of_lt he
 obtain⟨x6,x9,x10,us,e,hρ,hG,_,el,hel⟩:=h2
 rw[show(1+((n-1:Nat):Int)).toNat=n by lia]at hG hel
 exact⟨x6,x9,x10,us,e,h1.trans (by rw[hρ]),hG,el,hel⟩
theorem z8C(W:Wd)(hC:HasCell W)(hM:HasMix W)(ns:List Int)(b most:Int)(hb:0<=b)(hm1:1<=most)(hm2:most<=12):∃(n:Nat)(ts:List (Int×Int)),MT.VT n ts/\(∃nm us el h,MT.Each n nm/\ts.Perm us/\us.length+1=n/\MT.Eld nm n us el h)/\1<=n/\(n:Int)<=most/\
  evFn W 11 [] Bd.z1s [.scr ns,.int b,.int most]=some (.ok (.tup [.int n,.lst (ts.map tieD)])):=by
 obtain⟨fC,hF,cC⟩:=hC
 obtain⟨fM,hG,cM⟩:=hM
 obtain⟨c0,hc0⟩:=cC.2 ns b hb
 obtain⟨m,m0,m1,hm⟩:=cM.2 c0 1 most (by decide) (by decide) (Int.lt_of_lt_of_le (by decide) hm1)
 obtain⟨n,hn⟩:=Int.eq_ofNat_of_zero_le (Int.add_nonneg (show(0:Int)<=1 by decide) m0)
 have hn1:1<=n:=by omega
 have hnm:(n:Int)<=most:=by omega
 have hn2:n<=12:=by lia
 clear m0 m1 hm1 hm2
 obtain⟨a6,nm,hE,l1⟩:=z4L W hF cC hG cM ns (b+1) n (by lia) (by lia) 5 6 (.bin .add (.var 1) (.int 1))
  [some ⟨.scr ns,false,.old⟩,some ⟨.int b,false,.old⟩,some ⟨.int most,false,.old⟩,some ⟨.int c0,false,.fl⟩,some ⟨.int n,false,.fl⟩,some ⟨.lst [],true,.fl⟩,none,none,none,none,none] none (by decide) rfl (λ_ _=>⟨rfl,rfl,rfl⟩) (λ_ _=>rfl)
 obtain⟨x6,x9,x10,us,e,m1',hGr,el,hel⟩:=zA5 hF cC hG cM ns b hb (some ⟨.int most,false,.old⟩) (some ⟨.int c0,false,.fl⟩) a6 n hn2 hn1 nm hE
 have hus:us.length<64:=by have:=hGr.len;lia
 refine⟨n,isortT us,hGr.valid hE (z07 us) (z1m us),⟨nm,us,el,e,hE,z07 us,hGr.len,hel⟩,hn1,hnm,?_⟩
 unfold evFn Bd.z1s
 rw[z0b (z03 (d:=.int c0) (z0c hF (z0l rfl rfl) hc0 cC.1))]
 rw[z0b (z03 (d:=.int n) (z0t (i:=1) (j:=m) rfl (z0c hG (z0L rfl (z0l rfl rfl)) hm cM.1) (by rw[<-hn];rfl)))]
 rw[z0b (z1L (ds:=[]) rfl rfl)]
 rw[z0b ((z2Z (m:=0) (n:=n) (t:=.new) (t':=.new) rfl rfl ⟨rfl,z0k (by omega) (by omega)⟩).trans (by rw[Int.sub_zero,Int.toNat_natCast];exact l1))]
 rw[z0b (z1L (ds:=[]) rfl rfl)]
 rw[z0b (z03 (d:=.int 0) rfl)]
 rw[z0b ((z2Z (m:=1) (n:=n) (t:=.new) (t':=.new) rfl rfl ⟨rfl,z0k (by omega) (by omega)⟩).trans (by rw[show((n:Int)-1).toNat=n-1 by lia];exact m1'))]
 rw[z0i (z0I (d:=.tup [.int n,.lst ((isortT us).map tieD)]) (t:=.new) (u:=.new) (zCy (t:=.cl .fl) rfl (z2g (x:=.lst (us.map tieD)) (t:=.cl .fl) rfl (z4M hus))) (z1b _))]
 rfl
end Ev
namespace MT
def allOf(ts:List Tie)(r:List Int)(k:Int):Option (List Int):=if k∉r/\(told ts (r++[k])).Nodup then some (r++[k])else none
def allNext(n:Nat)(ts:List Tie)(rows:List (List Int)):List (List Int):=rows.flatMap λr=>(g0 n).filterMap (allOf ts r)
def allF(n:Nat)(ts:List Tie):Nat->List (List Int)
 | 0=>[[]]
 | p+1=>allNext n ts (allF n ts p)
theorem z4N(n:Nat)(ts:List Tie):∀rows:List (List Int),(allNext n ts rows).length<=rows.length*n
 | []=>by simp[allNext]
 | r::rows=>by
  have ih:=z4N n ts rows
  unfold allNext at ih ⊢
  rw[List.flatMap_cons,List.length_append,List.length_cons,Nat.add_mul,Nat.one_mul]
  have:=List.length_filterMap_le (allOf ts r) (g0 n)
  rw[z0x]at this
  omega
end MT
namespace Ev
open PySem (Str)
abbrev rowD(r:List Int):D:=.lst (r.map D.int)
theorem z5u{α:Type}{body:Env->Option Out}{bd:Env->D->Option Env}(f:α->D)(P:List α->Env->Prop)(xs:List α)(step:∀acc x rest ρ,acc++x::rest=xs->P acc ρ-> ∃ρ1 ρ2,bd ρ (f x)=some ρ1/\body ρ1=some (.nx ρ2)/\P (acc++[x]) ρ2):∀(rest acc:List α)(ρ0:Env),acc++rest=xs->P acc ρ0->
  ∃ρ',forGo body bd (rest.map f) ρ0=some (.nx ρ')/\P xs ρ'
 | [],acc,ρ0,e,h0=>⟨ρ0,rfl,by rw[<-e,List.append_nil];exact h0⟩
 | x::rest,acc,ρ0,e,h0=>by
  obtain⟨ρ1,ρ2,h1,h2,h3⟩:=step acc x rest ρ0 e h0
  obtain⟨ρ',h4,h5⟩:=z5u f P xs step rest (acc++[x]) ρ2 (by rw[List.append_assoc];exact e) h3
  refine⟨ρ',?_,h5⟩
  rw[List.map_cons,z7W h1 h2];exact h4
end Ev
namespace Ev
open PySem (Str)
theorem zA6(x:Int)(ns:List Int):cmpD .isin (.int x) (.lst (ns.map D.int))=some (decide (x∈ns)):=by
 have:cmpD .isin (.int x) (.lst (ns.map D.int))=inD (.int x) (ns.map D.int):=rfl
 rw[this,z5r]
theorem zGy{t:Env->Option Res}{body:Env->Option Out}{f:Nat}{ρ ρ2:Env}{u:Tag}(ht:t ρ=some (.ok (.bl true) u))(hb:body ρ=some (.nx ρ2)):whGo t body (f+1) ρ=whGo t body f ρ2:=by
 (conv=>lhs;whnf);rw[ht]
 dsimp only
 rw[hb]
end Ev
namespace MT
def allIt(n:Nat)(ts:List Tie):Nat->List (List Int)->List (List Int)
 | 0,r=>r
 | k+1,r=>allIt n ts k (allNext n ts r)
theorem zA7{n:Nat}{ts:List Tie}:∀k p,allIt n ts k (allF n ts p)=allF n ts (p+k)
 | 0,p=>rfl
 | k+1,p=>by
  show allIt n ts k (allF n ts (p+1))=_
  rw[zA7 k (p+1),Nat.add_assoc,Nat.add_comm 1 k]
theorem z7n{n:Nat}{ts:List Tie}(r:List Int):allNext n ts [r]=(g0 n).filterMap (allOf ts r):=by
 unfold allNext;rw[List.flatMap_cons,List.flatMap_nil,List.append_nil]
theorem z3r{n:Nat}{ts:List Tie}:∀k(rows:List (List Int)),allIt n ts k rows=rows.flatMap λr=>allIt n ts k [r]
 | 0,rows=>by show rows=rows.flatMap λr=>[r];rw[List.flatMap_singleton']
 | k+1,rows=>by
  show allIt n ts k (allNext n ts rows)=rows.flatMap λr=>allIt n ts k (allNext n ts [r])
  have e:allNext n ts rows=rows.flatMap λr=>allNext n ts [r]:=by
   unfold allNext;simp only[List.flatMap_cons,List.flatMap_nil,List.append_nil]
  rw[z3r k (allNext n ts rows),e,List.flatMap_assoc]
  congr 1
  funext r
  exact(z3r k (allNext n ts [r])).symm
theorem z8a{n:Nat}{ts:List Tie}:∀k(rows:List (List Int)),(allIt n ts k rows).length<=rows.length*n^k
 | 0,rows=>by show rows.length<=_;rw[Nat.pow_zero,Nat.mul_one];exact Nat.le_refl _
 | k+1,rows=>by
  refine Nat.le_trans (z8a k (allNext n ts rows)) ?_
  rw[Nat.pow_succ,Nat.mul_comm (n^k) n,<-Nat.mul_assoc]
  exact Nat.mul_le_mul_right _ (z4N n ts rows)
def dfsF(n:Nat)(ts:List Tie):Nat->List Int->List Int->List (List Int)
 | 0,_,_=>[]
 | f+1,ms,met=>if ms.length=n then [ms]else(stepsP n (lower ts (ms.length:Int)) ms met).flatMap λp=>dfsF n ts f p.1 p.2
def orNil{β γ:Type}(o:Option β)(h:β->List γ):List γ:=match o with|some b=>h b|none=>[]
theorem z7o{α β γ:Type}(g:α->Option β)(h:β->List γ):∀l:List α,(l.filterMap g).flatMap h=l.flatMap λx=>orNil (g x) h
 | []=>rfl
 | a::l=>by
  have ih:=z7o g h l
  cases hg:g a with
  | none=>rw[List.filterMap_cons_none hg,ih,List.flatMap_cons,hg];rfl
  | some b=>rw[List.filterMap_cons_some hg,List.flatMap_cons,List.flatMap_cons,hg,ih];rfl
theorem z7p{n:Nat}{ts:List Tie}(hr:∀t∈ts,InR n t):∀(f:Nat)(ms met:List Int),met.Perm (told ts ms)->ms.length<=n->n-ms.length<f->dfsF n ts f ms met=allIt n ts (n-ms.length) [ms]
 | 0,_,_,_,_,h=>absurd h (Nat.not_lt_zero _)
 | f+1,ms,met,hp,hle,hf=>by
  unfold dfsF
  by_cases h:ms.length=n
  ·rw[if_pos h,h,Nat.sub_self];rfl
  ·obtain⟨d,hd⟩:∃d,n-ms.length=d+1:=⟨n-ms.length-1,by omega⟩
   rw[if_neg h,stepsP,z7o,hd]
   show _=allIt n ts d (allNext n ts [ms])
   rw[z7n,z3r,z7o]
   congr 1
   funext k
   have hg:(grow (lower ts (ms.length:Int)) ms met k).Perm (told ts (ms++[k])):=(hp.append_right _).trans (z3C hr ms k)
   unfold stepOf allOf
   by_cases hk:k∈ms
   ·rw[if_pos hk,if_neg λz=>z.1 hk];rfl
   ·by_cases hn:(told ts (ms++[k])).Nodup
    ·rw[if_neg hk,if_pos (hg.nodup_iff.mpr hn),if_pos ⟨hk,hn⟩]
     show dfsF n ts f (ms++[k]) (grow (lower ts (ms.length:Int)) ms met k)=allIt n ts d [ms++[k]]
     have hl:(ms++[k]).length=ms.length+1:=by rw[List.length_append];rfl
     rw[z7p hr f _ _ hg (by omega) (by omega),hl,show n-(ms.length+1)=d by omega]
    ·rw[if_neg hk,if_neg (λz=>hn (hg.nodup_iff.mp z)),if_neg (λz=>hn z.2)];rfl
end MT
namespace Ev
open PySem (Str)
theorem zA8(xs:List (List Int))(t:Tag)(ht:t.el= .cl .fl\/t.el= .new):tagC .fl (rts (xs.map rowD) t.el)=some .fl:=by
 unfold rts
 split
 ·rfl
 ·rcases ht with h|h<;>rw[h]<;>rfl
theorem z8D(W:Wd)(n:Nat)(B:List (List Int))(l ms met:List Int)(F:List Int->List Int->List (List Int))(hB:B.length=n)(hlen:ms.length<n->((MT.stepsP n l ms met).flatMap λp=>F p.1 p.2).length<=900000)
  (hS:Is W "steps" λm=>ms.length<n->m [listD B,.lst (ms.map D.int),.lst (met.map D.int)]=some (.ok (.lst ((MT.stepsP n l ms met).map pairD)))) (hms:ms.length<=n)
  (hF:∃fn,W.F "all_from"=some fn/\fn.fl=[false,true,false]/\(ms.length<n-> ∀k:Int,fn.m [listD B,.lst ((ms++[k]).map D.int),.lst ((MT.grow l ms met k).map D.int)]=some (.ok (.lst ((F (ms++[k]) (MT.grow l ms met k)).map rowD))))):
  evFn W 5 [false,true,false] Bd.z2z [listD B,.lst (ms.map D.int),.lst (met.map D.int)]=some (.ok (.lst ((if ms.length=n then [ms]else(MT.stepsP n l ms met).flatMap λp=>F p.1 p.2).map rowD))):=by
 obtain⟨fS,S1,S2,S3⟩:=hS
 obtain⟨fF,F1,F2,F3⟩:=hF
 have hc:evE W (entsOf [false,true,false] [listD B,.lst (ms.map D.int),.lst (met.map D.int)]++List.replicate (5-[listD B,D.lst (ms.map D.int),D.lst (met.map D.int)].length) none) (.cmp .eq (.blt .len [(.var 1)]) (.blt .len [(.var 0)]))=some (.ok (.bl (decide (ms.length=n))) .new):=by
  refine z09 (x:=.int ms.length) (y:=.int n) (t:=.new) (u:=.new) (by rw[z4s (ds:=ms.map D.int) (t:=.cl .fl) rfl,List.length_map]) (by rw[z4s (ds:=B.map λl=>.lst (l.map D.int)) (t:=.cl .old) rfl,List.length_map,hB]) ?_
  show some (decide ((ms.length:Int)=(n:Int)))=_
  congr 1
  rw[decide_eq_decide]
  exact Int.ofNat_inj
 unfold evFn Bd.z2z
 by_cases h:ms.length=n
 ·rw[if_pos h]
  rw[decide_eq_true h]at hc
  rw[z0i ((z2Y hc).trans (z0i (z0I (d:=.lst [rowD ms]) (t:=.cl .fl) (u:=.cl .fl) rfl rfl)))]
  rfl
 ·rw[if_neg h]
  rw[decide_eq_false h]at hc
  have hlt:ms.length<n:=Nat.lt_of_le_of_ne hms h
  have hL:=hlen hlt
  rw[z0b ((z1B hc).trans rfl),z0b (z1L (ds:=[]) rfl rfl)]
  obtain⟨ρ',h1,x4,rfl⟩:=z5u (body:=λρ'=>evSs W ρ' [.ext 3 (.call "all_from" [(.var 0),(.ix (.var 4) (.int 0)),(.ix (.var 4) (.int 1))])]) (bd:=λρ' x=>bindT ρ' Tag.new.el (.name 4) x) pairD
   (λdone ρ=>∃x4,ρ=[some ⟨listD B,false,.old⟩,some ⟨.lst (ms.map D.int),false,.fl⟩,some ⟨.lst (met.map D.int),false,.old⟩,some ⟨.lst ((done.flatMap λp=>F p.1 p.2).map rowD),true,.fl⟩,x4]) (MT.stepsP n l ms met)
   (λdone p rest ρ hsp hI=>by
    obtain⟨x4,rfl⟩:=hI
    obtain⟨k,hk⟩:∃k,p=(ms++[k],MT.grow l ms met k):=by
     have hp:p∈MT.stepsP n l ms met:=by rw[<-hsp];simp
     unfold MT.stepsP at hp
     rw[List.mem_filterMap]at hp
     obtain⟨k,_,hk⟩:=hp
     refine⟨k,?_⟩
     unfold MT.stepOf at hk
     split at hk
     ·cases hk
     ·split at hk
      ·cases hk;rfl
      ·cases hk
    have hcall:=zAo (W:=W) (ρ:=[some ⟨listD B,false,.old⟩,some ⟨.lst (ms.map D.int),false,.fl⟩,some ⟨.lst (met.map D.int),false,.old⟩,some ⟨.lst ((done.flatMap λp=>F p.1 p.2).map rowD),true,.fl⟩,some ⟨pairD p,false,.fl⟩]) (es:=[(.var 0),(.ix (.var 4) (.int 0)),(.ix (.var 4) (.int 1))]) (v:=.cl .fl) F1 (z0L (t:=.cl .old) rfl (z0l (t:=.cl .fl) (u:=.cl .fl) rfl rfl)) (by rw[hk];exact F3 hlt k) (by rw[F2];rfl)
    have hle:(done.flatMap λp=>F p.1 p.2).length+(F p.1 p.2).length<=900000:=by
     rw[<-hsp,List.flatMap_append,List.flatMap_cons,List.length_append,List.length_append]at hL
     omega
    rw[hk]at hle
    replace hle:(done.flatMap λp=>F p.1 p.2).length+(F (ms++[k]) (MT.grow l ms met k)).length<=900000:=hle
    refine⟨_,_,rfl,z0o (z87 (c:=.fl) (c':=.fl) (ds:=(done.flatMap λp=>F p.1 p.2).map rowD) rfl hcall (zA8 _ _ ?_) ?_),some ⟨pairD p,false,.fl⟩,?_⟩
    ·show(rt _ (Tag.cl .fl)).el=_\/_
     unfold rt
     split
     ·exact .inr rfl
     ·exact .inl rfl
    ·rw[List.length_map,List.length_map,lim];omega
    ·rw[List.flatMap_append,List.flatMap_cons,List.flatMap_nil,List.append_nil,List.map_append,hk];rfl) (MT.stepsP n l ms met) [] [some ⟨listD B,false,.old⟩,some ⟨.lst (ms.map D.int),false,.fl⟩,some ⟨.lst (met.map D.int),false,.old⟩,some ⟨.lst [],true,.fl⟩,none] rfl ⟨none,rfl⟩
  have hsrc:=z0c (W:=W) (ρ:=[some ⟨listD B,false,.old⟩,some ⟨.lst (ms.map D.int),false,.fl⟩,some ⟨.lst (met.map D.int),false,.old⟩,some ⟨.lst [],true,.fl⟩,none]) (es:=[(.var 0),(.var 1),(.var 2)]) S1 (z0L (t:=.cl .old) rfl (z0l (t:=.cl .fl) (u:=.cl .old) rfl rfl)) (S3 hlt) S2
  refine(congrArg endR ((z0b ((z4K hsrc (λc h=>by cases h)).trans h1)).trans (z0i (z0I (d:=.lst (((MT.stepsP n l ms met).flatMap λp=>F p.1 p.2).map rowD)) (t:=.cl .fl) rfl rfl)))).trans ?_
  unfold Ev.rt
  split<;>rfl
section
variable{W:Wd}{ρ:Env}{a b e el:Ex}{t u:Tag}{i j:Nat}
end
end Ev
namespace Ev
open PySem (Str)
def NbOk(n:Nat)(ts:List (Int×Int))(m:List D->Option R):Prop:=∀p:Int,m [.tree n (ts.map tieD),.int p]=some (.ok (.lst ((MT.nb ts p).map D.int)))
def InOk(n:Nat)(ts:List (Int×Int))(m:List D->Option R):Prop:=m [.tree n (ts.map tieD)]=some (.ok (.lst ((MT.innerL n ts).map D.int)))
def InNbOk(n:Nat)(ts:List (Int×Int))(m:List D->Option R):Prop:=∀p:Int,m [.tree n (ts.map tieD),.int p]=some (.ok (.lst ((MT.inNb n ts p).map D.int)))
theorem rng0(n:Nat):((List.range ((n:Int)-0).toNat).map λk:Nat=>(0:Int)+(k:Int))=MT.g0 n:=by
 rw[Int.sub_zero,Int.toNat_natCast]
 unfold MT.g0
 refine List.map_congr_left λk _=>?_
 rw[Int.zero_add]
theorem z4e{W:Wd}{ρ:Env}{a:Ex}{l:List Int}{t:Tag}(ha:evE W ρ a=some (.ok (.lst (l.map D.int)) t)):evE W ρ (.blt .len [a])=some (.ok (.int l.length) .new):=by
 rw[z4s ha,List.length_map]
theorem z7q{a b:Nat}:decide ((a:Int)<=(b:Int))=decide (a<=b):=by rw[decide_eq_decide];exact Int.ofNat_le
theorem z4t(W:Wd)(n:Nat)(ts:List (Int×Int))(hn:n<=12)(hN:Is W "neighbours" (NbOk n ts)):evFn W 1 [] Bd.z0Z [.tree n (ts.map tieD)]=some (.ok (.lst ((MT.innerL n ts).map D.int))):=by
 obtain⟨fN,N1,N2,N3⟩:=hN
 have:=z3q (W:=W) (ρ:=disownAll (entsOf [] [.tree n (ts.map tieD)]++List.replicate (1-[D.tree n (ts.map tieD)].length) none)) (ix:=[none,none,some 0]) (j:=1) (lo:=.int 0) (hi:=.fld (.var 0) false) (tst:=some (.cmp .ge (.blt .len [(.call "neighbours" [(.var 2),(.var 1)])]) (.int 2))) (el:=.var 1) (m:=0) (n:=n) (t:=.new) (t':=.new) (λp=>decide (2<=(MT.nb ts p).length)) D.int rfl rfl ⟨rfl,z0k (by omega) (by omega),by omega⟩ (λk _=>⟨_,.new,rfl,z09 (x:=.int (MT.nb ts (0+(k:Int))).length) (y:=.int 2) (t:=.new) (u:=.new) (z4e (z0c N1 (z0l (t:=.cl .old) (u:=.new) rfl rfl) (N3 _) N2)) rfl (congrArg some (z7q (a:=2))),λ_=>⟨.new,rfl,rfl⟩⟩)
 rw[rng0]at this
 unfold evFn Bd.z0Z
 rw[z0i (z0I (u:=.new) this (z1b _))]
 rfl
theorem z3b(W:Wd)(n:Nat)(ts:List (Int×Int))(hI:Is W "inner_places" (InOk n ts))(hN:Is W "neighbours" (NbOk n ts))(p:Int):evFn W 3 [] Bd.z04 [.tree n (ts.map tieD),.int p]=some (.ok (.lst ((MT.inNb n ts p).map D.int))):=by
 obtain⟨fN,N1,N2,N3⟩:=hN
 obtain⟨fI,I1,I2,I3⟩:=hI
 unfold evFn Bd.z04
 rw[z0b (z03 (z0c I1 (z1M (t:=.cl .old) rfl) I3 I2))]
 have:=z2A (W:=W) (ρ:=disownAll [some ⟨.tree n (ts.map tieD),false,.old⟩,some ⟨.int p,false,.old⟩,some ⟨.lst ((MT.innerL n ts).map D.int),false,.fl⟩]) (ix:=[none,none,some 2]) (tg:=.name 1) (src:=.call "neighbours" [(.var 0),(.var 1)]) (tst:=some (.cmp .isin (.var 1) (.var 2))) (el:=.var 1) D.int (MT.nb ts p) (λx=>decide (x∈MT.innerL n ts)) D.int (t:=.new) (z0c N1 (z0l (t:=.cl .old) (u:=.new) rfl rfl) (N3 p) N2) (λx _=>⟨_,.new,rfl,z09 (x:=.int x) (y:=.lst ((MT.innerL n ts).map D.int)) (t:=.new) (u:=.cl .fl) rfl rfl (zA6 x _),λ_=>⟨.new,rfl,rfl⟩⟩)
 exact(congrArg endR (z0i (z0I (u:=.new) this (z1b _)))).trans rfl
theorem zA9(W:Wd)(n:Nat)(ts:List (Int×Int))(hI:Is W "inner_places" (InOk n ts))(hN:Is W "inner_neighbours" (InNbOk n ts)):evFn W 1 [] Bd.z2W [.tree n (ts.map tieD)]=some (.ok (.bl (MT.isComb n ts))):=by
 obtain⟨fN,N1,N2,N3⟩:=hN
 obtain⟨fI,I1,I2,I3⟩:=hI
 have:=z2B (W:=W) (ρ:=disownAll (entsOf [] [.tree n (ts.map tieD)]++List.replicate (1-[D.tree n (ts.map tieD)].length) none)) (ix:=[none,none,some 0]) (tg:=.name 1) (src:=.call "inner_places" [(.var 0)]) (el:=.cmp .le (.blt .len [(.call "inner_neighbours" [(.var 2),(.var 1)])]) (.int 2)) D.int (MT.innerL n ts) (λp=>.bl (decide ((MT.inNb n ts p).length<=2))) (t:=.new) (z0c I1 (z1M (t:=.cl .old) rfl) I3 I2) (λp _=>⟨_,.new,rfl,z09 (x:=.int (MT.inNb n ts p).length) (y:=.int 2) (t:=.new) (u:=.new) (z4e (z0c N1 (z0l (t:=.cl .old) (u:=.new) rfl rfl) (N3 _) N2)) rfl (congrArg some (z7q (b:=2))),rfl⟩)
 have e:(MT.innerL n ts).map (λp=>D.bl (decide ((MT.inNb n ts p).length<=2)))=((MT.innerL n ts).map λp=>decide ((MT.inNb n ts p).length<=2)).map D.bl:=by rw[List.map_map];rfl
 rw[e]at this
 unfold evFn Bd.z2W
 refine(congrArg endR (z0i (z0I (u:=.new) (z2g this (z7j _)) (z1b _)))).trans ?_
 show some (R.ok (.bl _))=_
 rw[List.all_map]
 rfl
theorem z8b(q:Int->Bool):∀l:List Int,(l.findSome? λp=>if q p then some p else none)=l.find? q
 | []=>rfl
 | a::l=>by
  rw[List.findSome?_cons,List.find?_cons]
  cases h:q a with
  | true=>rfl
  | false=>exact z8b q l
theorem zAA(W:Wd)(n:Nat)(ts:List (Int×Int))(hI:Is W "inner_places" (InOk n ts))(hN:Is W "inner_neighbours" (InNbOk n ts)):evFn W 2 [] Bd.z2X [.tree n (ts.map tieD)]=some (.ok (.int (MT.rowEnd n ts))):=by
 obtain⟨fN,N1,N2,N3⟩:=hN
 obtain⟨fI,I1,I2,I3⟩:=hI
 have loop:=z7Z (body:=λρ'=>evSs W ρ' [.ifs (.cmp .le (.blt .len [(.call "inner_neighbours" [(.var 0),(.var 1)])]) (.int 1)) [.ret (.var 1)] []]) (bd:=λρ' x=>bindT ρ' Tag.new.el (.name 1) x) D.int
  (λρ=>∃x1,ρ=[some ⟨.tree n (ts.map tieD),false,.old⟩,x1]) (λp=>if decide ((MT.inNb n ts p).length<=1)then some p else none) D.int .new (MT.innerL n ts) [some ⟨.tree n (ts.map tieD),false,.old⟩,none] ⟨none,rfl⟩ (λp _ ρ hI=>by
   obtain⟨x1,rfl⟩:=hI
   refine⟨_,rfl,?_⟩
   have hc:=z09 (op:=.le) (W:=W) (ρ:=[some ⟨.tree n (ts.map tieD),false,.old⟩,some ⟨.int p,false,.fl⟩]) (a:=.blt .len [(.call "inner_neighbours" [(.var 0),(.var 1)])]) (b:=.int 1) (x:=.int (MT.inNb n ts p).length) (y:=.int 1) (t:=.new) (u:=.new) (z4e (z0c N1 (z0l (t:=.cl .old) (u:=.new) rfl rfl) (N3 _) N2)) rfl (congrArg some (z7q (b:=1)))
   cases hd:decide ((MT.inNb n ts p).length<=1)with
   | true=>
    rw[hd]at hc
    exact .inl ⟨p,rfl,z0i ((z2Y hc).trans (z0i (z0I (t:=.new) rfl rfl)))⟩
   | false=>
    rw[hd]at hc
    exact .inr ⟨rfl,_,z0o ((z1B hc).trans rfl),_,rfl⟩)
 rw[z8b]at loop
 unfold evFn Bd.z2X MT.rowEnd
 have hsrc:=z0c (W:=W) (ρ:=[some ⟨.tree n (ts.map tieD),false,.old⟩,none]) (es:=[(.var 0)]) I1 (z1M (t:=.cl .old) rfl) I3 I2
 rcases loop with⟨r,h1,h2⟩|⟨h1,ρ',h2,x1,rfl⟩
 ·rw[h1]
  exact(congrArg endR (z0i ((z4K hsrc (λc h=>by cases h)).trans h2))).trans rfl
 ·rw[h1]
  exact(congrArg endR (z0b ((z4K hsrc (λc h=>by cases h)).trans h2))).trans rfl
def rowE(n:Nat)(ts:List (Int×Int))(row onward:List Int):Env:=[some ⟨.tree n (ts.map tieD),false,.old⟩,some ⟨.lst (row.map D.int),true,.fl⟩,some ⟨.lst (onward.map D.int),false,.fl⟩]
def bWalk:List Sx:=[.app 1 (.ix (.var 2) (.int 0)),.asg 2 false (.compL [none,none,some 1] (.name 1) (.call "inner_neighbours" [(.var 0),(.ix (.var 1) (.neg (.int 1)))]) (some (.cmp .notin (.var 1) (.var 2))) (.var 1))]
theorem zDY(l:List Int)(x:Int):atI ((l++[x]).map D.int) (-1)=some (.int x):=by
 have e:ixN ((l++[x]).map D.int).length (-1)=some l.length:=by
  rw[List.length_map,List.length_append,List.length_singleton]
  unfold ixN
  rw[if_neg (by decide),if_pos (by lia)]
  congr 1
  lia
 unfold atI
 rw[e]
 show((l++[x]).map D.int)[l.length]? = _
 rw[List.getElem?_map,List.getElem?_append_right (Nat.le_refl _),Nat.sub_self]
 rfl
theorem zFH{t:Env->Option Res}{body:Env->Option Out}{f:Nat}{ρ:Env}{u:Tag}(ht:t ρ=some (.ok (.bl false) u)):whGo t body (f+1) ρ=some (.nx ρ):=by
 (conv=>lhs;whnf);rw[ht]
theorem z8c(W:Wd)(n:Nat)(ts:List (Int×Int))(V:MT.VT n ts)(hn:n<=12)(hc:MT.isComb n ts=true)(hN:Is W "inner_neighbours" (InNbOk n ts)):∀(f:Nat)(pre:List Int)(l:Int)(onward:List Int),MT.Wk n ts pre l onward->n<f+(pre++[l]).length->
  whGo (λρ'=>evE W ρ' (.cmp .gt (.blt .len [(.var 2)]) (.int 0))) (λρ'=>evSs W ρ' bWalk) (f+1) (rowE n ts (pre++[l]) onward)=some (.nx (rowE n ts (MT.walk n ts f (pre++[l]) onward) []))
 | 0,pre,l,_,w,h=>by have:=MT.z3E w.nd w.rg;omega
 | f+1,pre,l,[],w,h=>zFH (u:=.new) rfl
 | f+1,pre,l,x::rest,w,h=>by
  obtain⟨fN,N1,N2,N3⟩:=id hN
  have hl:=MT.z3E w.nd w.rg
  have s1:=zBI (W:=W) (ρ:=rowE n ts (pre++[l]) (x::rest)) (i:=1) (e:=.ix (.var 2) (.int 0)) (ds:=(pre++[l]).map D.int) (c:=.fl) (c':=.fl) (d:=.int x) (t:=.new) rfl (v_ix (x:=.lst ((x::rest).map D.int)) (y:=.int 0) (t:=.cl .fl) (u:=.new) rfl rfl (z1i (j:=0) rfl)) rfl (by rw[List.length_map,lim];lia)
  have e1:(pre++[l]).map D.int++[D.int x]=(pre++[l]++[x]).map D.int:=by rw[List.map_append (l₂:=[x])];rfl
  rw[e1]at s1
  have s2:=z2A (W:=W) (ρ:=rowE n ts (pre++[l]++[x]) (x::rest)) (ix:=[none,none,some 1]) (tg:=.name 1) (src:=.call "inner_neighbours" [(.var 0),(.ix (.var 1) (.neg (.int 1)))]) (tst:=some (.cmp .notin (.var 1) (.var 2))) (el:=.var 1) D.int (MT.inNb n ts x) (λy=>decide (y∉pre++[l]++[x])) D.int (t:=.new) (z0c N1 (z0l (t:=.cl .old) (u:=.new) rfl (v_ix (x:=.lst ((pre++[l]++[x]).map D.int)) (y:=.int (-1)) (t:=.own .fl) (u:=.new) rfl rfl (zDY _ _))) (N3 x) N2)
   (λy _=>⟨_,.new,rfl,z09 (x:=.int y) (y:=.lst ((pre++[l]++[x]).map D.int)) (t:=.new) (u:=.own .fl) rfl rfl ((z20 y _).trans (by rw[<-decide_not])),λ_=>⟨.new,rfl,rfl⟩⟩)
  refine(zGy (u:=.new) (ρ2:=rowE n ts (pre++[l]++[x]) ((MT.inNb n ts x).filter λy=>decide (y∉pre++[l]++[x]))) ?_ ((z0b s1).trans (z0o (z03 s2)))).trans (z8c W n ts V hn hc hN f (pre++[l]) x _ (w.step V hc) (by rw[List.length_append,List.length_singleton];lia))
  exact z09 (x:=.int (x::rest).length) (y:=.int 0) (t:=.new) (u:=.new) (z4e (t:=.cl .fl) rfl) rfl (zAr (by rw[List.length_cons];omega))
theorem z7r(W:Wd)(n:Nat)(ts:List (Int×Int))(V:MT.VT n ts)(hn:n<=12)(hc:MT.isComb n ts=true)(hN:Is W "inner_neighbours" (InNbOk n ts))(hE:Is W "row_end" λm=>m [.tree n (ts.map tieD)]=some (.ok (.int (MT.rowEnd n ts)))):
  evFn W 3 [] Bd.z2d [.tree n (ts.map tieD)]=some (.ok (.lst ((MT.walk n ts 63 [MT.rowEnd n ts] (MT.inNb n ts (MT.rowEnd n ts))).map D.int))):=by
 obtain⟨fE,E1,E2,E3⟩:=hE
 have hw:=z8c W n ts V hn hc hN 63 [] (MT.rowEnd n ts) _ (MT.Wk.start V) (by show n<63+1;omega)
 obtain⟨fN,N1,N2,N3⟩:=hN
 unfold evFn Bd.z2d
 have q:=z1M (z0c (W:=W) (ρ:=[some ⟨.tree n (ts.map tieD),false,.old⟩,none,none]) (es:=[(.var 0)]) E1 (z1M (t:=.cl .old) rfl) E3 E2)
 have s1:evE W [some ⟨.tree n (ts.map tieD),false,.old⟩,none,none] (.lst [(.call "row_end" [(.var 0)])])=some (.ok (.lst [.int (MT.rowEnd n ts)]) .new):=by
  (conv=>lhs;whnf);rw[q];rfl
 refine(congrArg endR (z0b (z1L s1 rfl))).trans ?_
 refine(congrArg endR (z0b (z03 (z0c (W:=W) N1 (z0l (t:=.cl .old) (u:=.new) rfl rfl) (N3 _) N2)))).trans ?_
 refine(congrArg endR (z0b (ρ1:=rowE n ts (MT.walk n ts 63 [MT.rowEnd n ts] (MT.inNb n ts (MT.rowEnd n ts))) []) (by(conv=>lhs;whnf);exact hw))).trans ?_
 exact(congrArg endR (z0i (z0I (t:=.cl .fl) rfl rfl))).trans rfl
def sidE(n:Nat)(ts:List (Int×Int))(row hi lo:List Int)(x4 x5 x6:Option Ent):Env:=[some ⟨.tree n (ts.map tieD),false,.old⟩,some ⟨.lst (row.map D.int),false,.fl⟩,some ⟨.lst (hi.map D.int),true,.fl⟩,some ⟨.lst (lo.map D.int),true,.fl⟩,x4,x5,x6]
def bSide:List Sx:=[.asg 5 false (.compL [none,none,some 1] (.name 1) (.call "neighbours" [(.var 0),(.ix (.var 1) (.var 4))]) (some (.cmp .notin (.var 1) (.var 2))) (.var 1)),.asg 6 false (.bin .add (.var 5) (.slice (.var 1) (some (.bin .add (.var 4) (.int 1))) (some (.bin .add (.var 4) (.int 2))))),.ifs (.cmp .eq (.bin .mod (.var 4) (.int 2)) (.int 0)) [.ext 3 (.var 6)] [.ext 2 (.var 6)]]
theorem zDZ{row:List Int}{k:Nat}(h:k<row.length):cut (row.map D.int) (some ((k:Int)+1)) (some ((k:Int)+2))=((row.drop (k+1)).take 1).map D.int:=by
 unfold cut sIx
 dsimp only
 rw[List.length_map,if_neg (by lia),if_neg (by lia),show min ((k:Int)+1).toNat row.length=k+1 by lia,List.map_take,List.map_drop]
 by_cases h2:k+2<=row.length
 ·rw[show min ((k:Int)+2).toNat row.length-(k+1)=1 by lia]
 ·rw[List.drop_eq_nil_of_le (by rw[List.length_map];lia),List.take_nil,List.take_nil]
theorem zFI{W:Wd}{ρ:Env}{a b c:Ex}{row:List Int}{t u v:Tag}{k:Nat}(ha:evE W ρ a=some (.ok (.lst (row.map D.int)) t))(hb:evE W ρ b=some (.ok (.int ((k:Int)+1)) u))(hc:evE W ρ c=some (.ok (.int ((k:Int)+2)) v))(h:k<row.length):evE W ρ (.slice a (some b) (some c))=some (.ok (.lst (((row.drop (k+1)).take 1).map D.int)) .new):=by
 rw[E_sl,ha]
 dsimp only[bindR,opE]
 rw[hb,hc]
 dsimp only[bindI,bindR]
 rw[zDZ h]
 exact congrArg (λt=>some (Res.ok _ t)) (if_pos (z00 _))
theorem z6z(W:Wd)(n:Nat)(ts:List (Int×Int))(hN:Is W "neighbours" (NbOk n ts))(row hi lo:List Int)(k:Nat)(r:Int)(hk:row[k]? = some r)(x5 x6:Option Ent)(hl:(MT.metL ts row r (row.drop (k+1))).length<=500/\hi.length<=500/\lo.length<=500):
  ∃y5 y6,evSs W (sidE n ts row hi lo (some ⟨.int k,false,.fl⟩) x5 x6) bSide=some (.nx (if k%2=0 then sidE n ts row hi (lo++MT.metL ts row r (row.drop (k+1))) (some ⟨.int k,false,.fl⟩) y5 y6 else sidE n ts row (hi++MT.metL ts row r (row.drop (k+1))) lo (some ⟨.int k,false,.fl⟩) y5 y6)):=by
 obtain⟨fN,N1,N2,N3⟩:=hN
 have hkl:=(List.getElem?_eq_some_iff.mp hk).1
 have s1:=z2A (W:=W) (ρ:=sidE n ts row hi lo (some ⟨.int k,false,.fl⟩) x5 x6) (ix:=[none,none,some 1]) (tg:=.name 1) (src:=.call "neighbours" [(.var 0),(.ix (.var 1) (.var 4))]) (tst:=some (.cmp .notin (.var 1) (.var 2))) (el:=.var 1) D.int (MT.nb ts r) (λy=>decide (y∉row)) D.int (t:=.new) (z0c N1 (z0l (t:=.cl .old) (u:=.new) rfl (v_ix (x:=.lst (row.map D.int)) (y:=.int k) (d:=.int r) (t:=.cl .fl) (u:=.new) rfl rfl (z1i (by rw[List.getElem?_map,hk];rfl)))) (N3 r) N2)
  (λy _=>⟨_,.new,rfl,z09 (x:=.int y) (y:=.lst (row.map D.int)) (t:=.new) (u:=.cl .fl) rfl rfl ((z20 y _).trans (by rw[<-decide_not])),λ_=>⟨.new,rfl,rfl⟩⟩)
 have hml:(MT.hang ts row r).length+((row.drop (k+1)).take 1).length<=500:=by
  have:=hl.1
  unfold MT.metL at this
  rw[List.length_append]at this
  exact this
 have s2:=zA1 (W:=W) (ρ:=sidE n ts row hi lo (some ⟨.int k,false,.fl⟩) (some ⟨.lst ((MT.hang ts row r).map D.int),false,.fl⟩) x6) (a:=.var 5) (b:=.slice (.var 1) (some (.bin .add (.var 4) (.int 1))) (some (.bin .add (.var 4) (.int 2)))) (x:=MT.hang ts row r) (y:=(row.drop (k+1)).take 1) (t:=.cl .fl) (u:=.new) (by lia) rfl (zFI (t:=.cl .fl) (u:=.new) (v:=.new) rfl rfl rfl hkl)
 have c:evE W (sidE n ts row hi lo (some ⟨.int k,false,.fl⟩) (some ⟨.lst ((MT.hang ts row r).map D.int),false,.fl⟩) (some ⟨.lst ((MT.metL ts row r (row.drop (k+1))).map D.int),false,.fl⟩)) (.cmp .eq (.bin .mod (.var 4) (.int 2)) (.int 0))=some (.ok (.bl (decide (k%2=0))) .new):=by
  refine z09 (x:=.int ((k:Int)%2)) (y:=.int 0) (t:=.new) (u:=.new) rfl rfl ?_
  show some (decide ((k:Int)%2=0))=_
  congr 1
  rw[decide_eq_decide]
  omega
 have tg:tagC .fl (rts ((MT.metL ts row r (row.drop (k+1))).map D.int) (Tag.cl .fl).el)=some .fl:=by
  unfold rts;rw[if_pos (z00 _)];rfl
 refine⟨some ⟨.lst ((MT.hang ts row r).map D.int),false,.fl⟩,some ⟨.lst ((MT.metL ts row r (row.drop (k+1))).map D.int),false,.fl⟩,(z0b (z03 s1)).trans ((z0b (z03 s2)).trans (z0o ?_))⟩
 by_cases h:k%2=0
 ·rw[if_pos h]
  rw[decide_eq_true h]at c
  refine(z2Y c).trans ((z0o (z87 (ds:=lo.map D.int) (c:=.fl) (c':=.fl) (t:=.cl .fl) rfl rfl tg (by rw[List.length_map,List.length_map,lim];lia))).trans ?_)
  rw[<-List.map_append];rfl
 ·rw[if_neg h]
  rw[decide_eq_false h]at c
  refine(z1B c).trans ((z0o (z87 (ds:=hi.map D.int) (c:=.fl) (c':=.fl) (t:=.cl .fl) rfl rfl tg (by rw[List.length_map,List.length_map,lim];lia))).trans ?_)
  rw[<-List.map_append];rfl
theorem zEa(W:Wd)(n:Nat)(ts:List (Int×Int))(V:MT.Valid n ts)(hn:n<=12)(hN:Is W "neighbours" (NbOk n ts))(r0:Int)(tl:List Int)(R:MT.Row n ts (r0::tl))(hR:Is W "inner_row" λm=>m [.tree n (ts.map tieD)]=some (.ok (.lst ((r0::tl).map D.int)))):
  evFn W 7 [] Bd.z5p [.tree n (ts.map tieD)]=some (.ok (.tup [.lst ((MT.sidesF ts (r0::tl) (r0::tl) true [r0] []).1.map D.int),.lst ((MT.sidesF ts (r0::tl) (r0::tl) true [r0] []).2.map D.int)])):=by
 obtain⟨fR,R1,R2,R3⟩:=hR
 have hL:=(R.comb V).parts.len
 have hrl:=MT.z3E R.nd R.rg
 generalize hS:MT.sidesF ts (r0::tl) (r0::tl) true [r0] []=S at hL ⊢
 generalize hrow:r0::tl=row at*
 obtain⟨ρ',h1,h2⟩:=z2l (body:=λρ'=>evSs W ρ' bSide) (bd:=λρ' x=>bindT ρ' .new (.name 4) x)
  (λk ρ=>∃(hi lo:List Int)(x4 x5 x6:Option Ent),ρ=sidE n ts row hi lo x4 x5 x6/\MT.sidesF ts row (row.drop k.toNat) (decide (k.toNat%2=0)) hi lo=S) row.length 0 (sidE n ts row [r0] [] none none none) ⟨[r0],[],none,none,none,rfl,hS⟩ λk ρ hk0 hk1 hI=>by
   refine ex5 hI λhi lo x4 x5 x6 h=>?_
   rw[h.1]
   clear hI
   obtain⟨_,h⟩:=h
   obtain⟨j,rfl⟩:=Int.eq_ofNat_of_zero_le hk0
   rw[Int.toNat_natCast]at h
   have hj:j<row.length:=by lia
   have hg:row[j]? = some row[j]:=List.getElem?_eq_getElem hj
   have hd:row.drop j=row[j]::row.drop (j+1):=List.drop_eq_getElem_cons hj
   have p0:=MT.z0P (ts:=ts) (row:=row) (row.drop j) (decide (j%2=0)) hi lo
   rw[h]at p0
   have l1:=p0.1.length_le
   have l2:=p0.2.length_le
   rw[hd]at h
   rw[show((j:Int)+1).toNat=j+1 from rfl]
   by_cases hp:j%2=0
   ·rw[decide_eq_true hp]at h
    have h':MT.sidesF ts row (row.drop (j+1)) false hi (lo++MT.metL ts row row[j] (row.drop (j+1)))=S:=h
    have p1:=MT.z0P (ts:=ts) (row:=row) (row.drop (j+1)) false hi (lo++MT.metL ts row row[j] (row.drop (j+1)))
    rw[h']at p1
    have l3:=p1.2.length_le
    rw[List.length_append]at l3
    obtain⟨y5,y6,hs⟩:=z6z W n ts hN row hi lo j row[j] hg x5 x6 ⟨by omega,by omega,by omega⟩
    rw[if_pos hp]at hs
    exact⟨_,_,rfl,hs,_,_,_,_,_,rfl,by rw[decide_eq_false (by lia)];exact h'⟩
   ·rw[decide_eq_false hp]at h
    have h':MT.sidesF ts row (row.drop (j+1)) true (hi++MT.metL ts row row[j] (row.drop (j+1))) lo=S:=h
    have p1:=MT.z0P (ts:=ts) (row:=row) (row.drop (j+1)) true (hi++MT.metL ts row row[j] (row.drop (j+1))) lo
    rw[h']at p1
    have l3:=p1.1.length_le
    rw[List.length_append]at l3
    obtain⟨y5,y6,hs⟩:=z6z W n ts hN row hi lo j row[j] hg x5 x6 ⟨by lia,by omega,by lia⟩
    rw[if_neg hp]at hs
    exact⟨_,_,rfl,hs,_,_,_,_,_,rfl,by rw[decide_eq_true (show(j+1)%2=0 by lia)];exact h'⟩
 obtain⟨hi,lo,x4,x5,x6,rfl,he⟩:=h2
 rw[Int.zero_add,Int.toNat_natCast,List.drop_length]at he
 have he':(hi,lo)=S:=by rw[<-he];cases decide (row.length%2=0)<;>rfl
 unfold evFn Bd.z5p
 refine(congrArg endR (z0b (z03 (z0c R1 (z1M (t:=.cl .old) rfl) R3 R2)))).trans ?_
 refine(congrArg endR (z0b (z1L (ds:=[.int r0]) ?_ rfl))).trans ?_
 ·have q:=z1M (v_ix (W:=W) (ρ:=[some ⟨.tree n (ts.map tieD),false,.old⟩,some ⟨.lst (row.map D.int),false,.fl⟩,none,none,none,none,none]) (a:=.var 1) (b:=.int 0) (x:=.lst (row.map D.int)) (y:=.int 0) (d:=.int r0) (t:=.cl .fl) (u:=.new) rfl rfl (z1i (j:=0) (by rw[<-hrow];rfl)))
  (conv=>lhs;whnf)
  exact(congrArg (λo=>match o with
   | some (Ress.ok ds ts)=>(match joinAll ts with
    | some u=>if ds.length<=1000 then some (Res.ok (.lst ds) (rts ds u))else none
    | none=>none)
   | some (.exc c)=>some (.exc c)
   | none=>none) q).trans rfl
 refine(congrArg endR (z0b (z1L (ds:=[]) rfl rfl))).trans ?_
 refine(congrArg endR (z0b ((z2Z (m:=0) (n:=row.length) (t:=.new) (t':=.new) rfl (z4e (t:=.cl .fl) rfl) ⟨rfl,z0k (by lia) (by lia)⟩).trans (by rw[Int.sub_zero,Int.toNat_natCast];exact h1)))).trans ?_
 refine(congrArg endR (z0i (z0I (d:=.tup [.lst (hi.map D.int),.lst (lo.map D.int)]) (t:=.cl .fl) (u:=.cl .fl) rfl rfl))).trans ?_
 rw[<-he']
 rfl
theorem zEb(z:Int){n:Nat}(h:n<=1000):binD .mul (.lst [.int z]) (.int n)=some (.lst ((List.replicate n z).map D.int)):=by
 have:binD .mul (.lst [.int z]) (.int n)=if 0<=(n:Int)/\(n:Int)<=1000/\[D.int z].length<=100 then some (.lst (List.replicate (n:Int).toNat [D.int z]).flatten)else none:=rfl
 rw[this,if_pos ⟨by lia,by omega,(show 1<=100 by decide)⟩,Int.toNat_natCast]
 congr 2
 clear this h
 induction n with
 | zero=>rfl
 | succ n ih=>rw[List.replicate_succ,List.flatten_cons,ih,List.replicate_succ];rfl
def mkE(n:Nat)(ts:List (Int×Int))(HI LO m:List Int)(x3:Option Ent):Env:=[some ⟨.tree n (ts.map tieD),false,.old⟩,some ⟨.tup [.lst (HI.map D.int),.lst (LO.map D.int)],false,.fl⟩,some ⟨.lst (m.map D.int),true,.fl⟩,x3]
theorem z8d(W:Wd)(n:Nat)(ts:List (Int×Int))(HI LO:List Int)(i:Int)(L:List Int)(ve:Ex)(f:Nat->Int)(m:List Int)(hm:m.length=n)(hL:∀x∈L,0<=x/\x<(n:Int))
  (hv:∀(k:Nat)(mm:List Int),evE W (mkE n ts HI LO mm (some ⟨.int k,false,.fl⟩)) ve=some (.ok (.int (f k)) .new)) (hix:∀(mm:List Int)(x3:Option Ent),evE W (mkE n ts HI LO mm x3) (.ix (.var 1) (.int i))=some (.ok (.lst (L.map D.int)) (.cl .fl))) (x3:Option Ent):
  ∃y3,forGo (λρ'=>evSs W ρ' [.setix 2 (.ix (.ix (.var 1) (.int i)) (.var 3)) ve]) (λρ' x=>bindT ρ' .new (.name 3) x) (rangeD 0 L.length) (mkE n ts HI LO m x3)=some (.nx (mkE n ts HI LO (MT.putN m L f L.length) y3)):=by
 obtain⟨ρ',h1,h2⟩:=z2l (body:=λρ'=>evSs W ρ' [.setix 2 (.ix (.ix (.var 1) (.int i)) (.var 3)) ve]) (bd:=λρ' x=>bindT ρ' .new (.name 3) x)
  (λk ρ=>∃y3,ρ=mkE n ts HI LO (MT.putN m L f k.toNat) y3) L.length 0 (mkE n ts HI LO m x3) ⟨x3,rfl⟩ λk ρ hk0 hk1 hI=>by
   obtain⟨y3,hρ⟩:=hI
   rw[hρ]
   obtain⟨j,rfl⟩:=Int.eq_ofNat_of_zero_le hk0
   rw[Int.toNat_natCast,show((j:Int)+1).toNat=j+1 from rfl]
   have hj:j<L.length:=by lia
   have hg:L[j]? = some (L.getD j 0):=by rw[List.getD_eq_getElem?_getD,List.getElem?_eq_getElem hj];rfl
   have hx:=hL _ (List.mem_of_getElem? hg)
   refine⟨mkE n ts HI LO (MT.putN m L f j) (some ⟨.int j,false,.fl⟩),mkE n ts HI LO (MT.putN m L f (j+1)) (some ⟨.int j,false,.fl⟩),rfl,z0o ((zDT (ds:=(MT.putN m L f j).map D.int) (c:=.fl) (c':=.fl) (n:=L.getD j 0) (m:=(L.getD j 0).toNat) (t':=.new) (hv j _) rfl (v_ix (x:=.lst (L.map D.int)) (y:=.int j) (t:=.cl .fl) (u:=.new) (hix _ _) rfl (z1i (by rw[List.getElem?_map,hg];rfl))) ?_ rfl).trans ?_),_,rfl⟩
   ·rw[List.length_map,MT.z1U,hm]
    have:=zAp (n:=n) (j:=(L.getD j 0).toNat) (by omega)
    rwa [Int.toNat_of_nonneg hx.1]at this
   ·rw[<-List.map_set];rfl
 obtain⟨y3,rfl⟩:=h2
 rw[Int.zero_add,Int.toNat_natCast]at h1
 exact⟨y3,h1⟩
theorem z60(W:Wd)(hx:W.exn "NoComb"=true)(n:Nat)(ts:List (Int×Int))(hn:n<=12)(hI:Is W "is_comb" λm=>m [.tree n (ts.map tieD)]=some (.ok (.bl (MT.isComb n ts)))):
  (MT.isComb n ts=false->evFn W 4 [] Bd.z1a [.tree n (ts.map tieD)]=some (.exc "NoComb"))/\ ∀HI LO:List Int,MT.isComb n ts=true->MT.Parts n HI LO->(Is W "sides" λm=>m [.tree n (ts.map tieD)]=some (.ok (.tup [.lst (HI.map D.int),.lst (LO.map D.int)])))->
   evFn W 4 [] Bd.z1a [.tree n (ts.map tieD)]=some (.ok (.lst ((MT.combM n HI LO).map D.int))):=by
 obtain⟨fI,I1,I2,I3⟩:=hI
 have hc:=z88 (z0c (W:=W) (ρ:=[some ⟨.tree n (ts.map tieD),false,.old⟩,none,none,none]) (es:=[(.var 0)]) I1 (z1M (t:=.cl .old) rfl) I3 I2)
 unfold evFn Bd.z1a
 refine⟨λh=>?_,λHI LO h P hS=>?_⟩
 ·rw[h]at hc
  exact(congrArg endR (z1z ((z2Y hc).trans (z1z (z7m hx (d:=.str _) (t:=.new) rfl))))).trans rfl
 ·rw[h]at hc
  obtain⟨fS,S1,S2,S3⟩:=hS
  refine(congrArg endR (z0b ((z1B hc).trans rfl))).trans ?_
  refine(congrArg endR (z0b (z03 (z0c S1 (z1M (t:=.cl .old) rfl) S3 S2)))).trans ?_
  refine(congrArg endR (z0b (z1L (ds:=(List.replicate n (0:Int)).map D.int) (zAm (x:=.lst [.int 0]) (y:=.int n) (t:=.new) (u:=.new) rfl rfl (zEb 0 (by omega)) (z00 _)) (z00 _)))).trans ?_
  have hl:=P.len
  obtain⟨y3,l1⟩:=z8d W n ts HI LO 0 HI (.bin .sub (.bin .sub (.fld (.var 0) false) (.int 1)) (.var 3)) (λk=>(n:Int)-1-k) (List.replicate n 0) (List.length_replicate) (λx hx=>P.rg (.inl hx)) (λk mm=>rfl) (λmm x3=>rfl) none
  refine(congrArg endR (z0b ((z2Z (m:=0) (n:=HI.length) (t:=.new) (t':=.new) rfl (z4e (t:=.cl .fl) rfl) ⟨rfl,z0k (by lia) (by omega)⟩).trans (by rw[Int.sub_zero,Int.toNat_natCast];exact l1)))).trans ?_
  obtain⟨z3,l2⟩:=z8d W n ts HI LO 1 LO (.var 3) (λk=>(k:Int)) (MT.putN (List.replicate n 0) HI (λk=>(n:Int)-1-k) HI.length) (by rw[MT.z1U,List.length_replicate]) (λx hx=>P.rg (.inr hx)) (λk mm=>rfl) (λmm x3=>rfl) y3
  refine(congrArg endR (z0b ((z2Z (m:=0) (n:=LO.length) (t:=.new) (t':=.new) rfl (z4e (t:=.cl .fl) rfl) ⟨rfl,z0k (by omega) (by omega)⟩).trans (by rw[Int.sub_zero,Int.toNat_natCast];exact l2)))).trans ?_
  exact(congrArg endR (z0i (z0I (t:=.cl .fl) rfl rfl))).trans rfl
theorem zCz{W:Wd}{ρ:Env}{e:Ex}{a b:D}{i j:Nat}(h:evE W ρ e=some (.ok (.tup [a,b]) .new)):evS W ρ (.unp [i,j] e)=some (.nx ((ρ.set i (some ⟨a,false,.fl⟩)).set j (some ⟨b,false,.fl⟩))):=by
 (conv=>lhs;whnf);rw[h];rfl
end Ev
namespace MT
def Gd(n:Nat)(ts:List Tie)(r:List Int):Prop:=Each n r/\(diffs r ts).Nodup
theorem z61{n:Nat}{ts:List Tie}(hr:∀t∈ts,InR n t){r:List Int}(h:r.length=n):told ts r=diffs r ts:=by
 unfold told diffs
 rw[List.filter_eq_self.mpr]
 intro t ht
 rw[h]
 exact decide_eq_true (hr t ht).2.2
theorem zEc{r:List Int}{p:Nat}(h:r.length=p+1):∃q k,r=q++[k]/\q.length=p:=by
 have hne:r≠[]:=λe=>by rw[e]at h;cases h
 exact⟨r.dropLast,r.getLast hne,(List.dropLast_concat_getLast hne).symm,by rw[List.length_dropLast,h];rfl⟩
theorem z5v{n:Nat}{ts:List Tie}(hr:∀t∈ts,InR n t):∀(p:Nat)(r:List Int),r∈allF n ts p↔r.length=p/\r.Nodup/\(∀x∈r,0<=x/\x<(n:Int))/\(told ts r).Nodup
 | 0,r=>by
  unfold allF
  rw[List.mem_singleton]
  constructor
  ·rintro rfl
   refine⟨rfl,List.nodup_nil,λx h=>absurd h List.not_mem_nil,?_⟩
   unfold told
   rw[List.filter_eq_nil_iff.mpr]
   ·exact List.nodup_nil
   ·intro t ht
    have h1:=(hr t ht).1
    have h2:=(hr t ht).2.1
    rw[decide_eq_true_eq]
    exact Int.not_lt.mpr (Int.le_trans h1 (Int.le_of_lt h2))
  ·exact λh=>List.eq_nil_of_length_eq_zero h.1
 | p+1,r=>by
  unfold allF allNext
  rw[List.mem_flatMap]
  constructor
  ·rintro⟨q,hq,h⟩
   rw[List.mem_filterMap]at h
   obtain⟨k,hk,h⟩:=h
   unfold allOf at h
   obtain⟨c,h⟩:=Option.ite_none_right_eq_some.mp h
   have:=Option.some.inj h
   subst this
   obtain⟨h1,h2,h3,h4⟩:=(z5v hr p q).mp hq
   refine⟨by rw[List.length_append,h1];rfl,z8k h2 c.1,λx hx=>?_,c.2⟩
   rcases List.mem_append.mp hx with hx|hx
   ·exact h3 x hx
   ·rw[List.mem_singleton.mp hx];exact z0K.mp hk
  ·rintro⟨h1,h2,h3,h4⟩
   obtain⟨q,k,rfl,hl⟩:=zEc h1
   have nd:=List.nodup_append.mp h2
   have hk:k∉q:=λh=>nd.2.2 k h k (List.mem_singleton.mpr rfl) rfl
   have ht:=(z3C hr q k).nodup_iff.mpr h4
   refine⟨q,(z5v hr p q).mpr ⟨hl,nd.1,λx hx=>h3 x (List.mem_append_left _ hx),(List.nodup_append.mp ht).1⟩,?_⟩
   rw[List.mem_filterMap]
   refine⟨k,z0K.mpr (h3 k (List.mem_append_right _ (List.mem_singleton.mpr rfl))),?_⟩
   unfold allOf
   rw[if_pos ⟨hk,h4⟩]
theorem zEd{n:Nat}{ts:List Tie}(hr:∀t∈ts,InR n t){r:List Int}:r∈allF n ts n↔Gd n ts r:=by
 rw[z5v hr n r]
 constructor
 ·rintro⟨h1,h2,h3,h4⟩
  rw[z61 hr h1]at h4
  exact⟨z6H h2 h3 h1,h4⟩
 ·rintro⟨h1,h2⟩
  exact⟨h1.len,h1.nd,λx hx=>h1.mem.mp hx,by rw[z61 hr h1.len];exact h2⟩
def turnM(n:Nat)(r:List Int):List Int:=r.map λx=>(n:Int)-1-x
theorem zAB{n:Nat}{r:List Int}(h:Each n r):Each n (turnM n r):=by
 refine z6H ?_ (λx hx=>?_) (by unfold turnM;rw[List.length_map];exact h.len)
 ·unfold turnM
  exact List.pairwise_map.mpr (h.nd.imp λ{a b}hab e=>hab (by omega))
 ·unfold turnM at hx
  obtain⟨y,hy,rfl⟩:=List.mem_map.mp hx
  have:=h.mem.mp hy
  omega
theorem z62{n:Nat}{r:List Int}{i:Nat}(h:i<r.length):(turnM n r).getD i 0=(n:Int)-1-r.getD i 0:=by
 unfold turnM
 rw[List.getD_eq_getElem?_getD,List.getElem?_map,List.getD_eq_getElem?_getD,List.getElem?_eq_getElem h]
 rfl
theorem zEe{n:Nat}{ts:List Tie}(hr:∀t∈ts,InR n t){r:List Int}(h:Gd n ts r):Gd n ts (turnM n r):=by
 refine⟨zAB h.1,?_⟩
 have:diffs (turnM n r) ts=diffs r ts:=by
  unfold diffs
  refine List.map_congr_left λt ht=>?_
  have q:=hr t ht
  unfold InR at q
  have hl:=h.1.len
  unfold diff
  rw[z62 (by omega),z62 (by omega)]
  unfold absI
  split<;>split<;>omega
 rw[this]
 exact h.2
def renT(N:List Int)(ts:List Tie):List Tie:=ts.map λt=>tieOf (at_ N t.1) (at_ N t.2)
theorem zGz{n:Nat}{m:List Int}(h:m.length=n):(g0 n).map (at_ m)=m:=by
 refine List.ext_getElem? λi=>?_
 unfold g0
 rw[List.map_map,List.getElem?_map]
 by_cases hi:i<n
 ·rw[List.getElem?_range hi]
  show some (m.getD ((i:Int)).toNat 0)=_
  rw[Int.toNat_natCast,List.getD_eq_getElem?_getD,List.getElem?_eq_getElem (by omega)]
  rfl
 ·rw[List.getElem?_eq_none (by rw[List.length_range];omega),List.getElem?_eq_none (by omega)]
  rfl
theorem zBU{n:Nat}{N:List Int}(hN:Each n N){i:Int}(h:0<=i/\i<(n:Int)):0<=at_ N i/\at_ N i<(n:Int):=z2I hN h.1 h.2
theorem z63{n:Nat}{N:List Int}(hN:Each n N){i j:Int}(hi:0<=i/\i<(n:Int))(hj:0<=j/\j<(n:Int))(e:at_ N i=at_ N j):i=j:=by
 rcases Int.lt_trichotomy i j with h|h|h
 ·exact absurd e (z8P hN hi.1 h hj.2)
 ·exact h
 ·exact absurd e.symm (z8P hN hj.1 h hi.2)
theorem zC0{n:Nat}{N:List Int}(hN:Each n N){y:Int}(h:0<=y/\y<(n:Int)):∃x,(0<=x/\x<(n:Int))/\at_ N x=y:=by
 have:=hN.mem.mpr h
 rw[<-zGz hN.len]at this
 obtain⟨x,hx,e⟩:=List.mem_map.mp this
 exact⟨x,z0K.mp hx,e⟩
theorem zFJ{n:Nat}{ts:List Tie}(V:Valid n ts){p x:Int}:x∈nb ts p↔tieOf p x∈ts:=by
 refine⟨z8S V,λh=>z3D.mpr ?_⟩
 rcases z0O p x with e|e<;>rw[e]at h
 ·exact .inr h
 ·exact .inl h
section
variable{n:Nat}{N:List Int}{ts vs:List Tie}(hN:Each n N)(V:Valid n ts)(W:Valid n vs)(hp:vs.Perm (renT N ts))
include hN V W hp
end
end MT
namespace MT
end MT
namespace MT
theorem zFK{l:List Int}{a b:Int}(nd:l.Nodup)(h:∀y∈l,y=a\/y=b):l.length<=2:=by
 match l,nd,h with
 | [],_,_=>exact Nat.zero_le _
 | [x],_,_=>exact Nat.le_succ _
 | [x,y],_,_=>exact Nat.le_refl _
 | x::y::z::r,nd,h=>
  exfalso
  have h1:=h x (by simp)
  have h2:=h y (by simp)
  have h3:=h z (by simp)
  have n1:x≠y:=λe=>by rw[e]at nd;simp at nd
  have n2:x≠z:=λe=>by rw[e]at nd;simp at nd
  have n3:y≠z:=λe=>by rw[e]at nd;simp at nd
  rcases h1 with h1|h1<;>rcases h2 with h2|h2<;>rcases h3 with h3|h3<;>first|exact n1 (h1.trans h2.symm)|exact n2 (h1.trans h3.symm)|exact n3 (h2.trans h3.symm)
structure Elder(n:Nat)(names:List Int)(us:List Tie)(e:Nat->Nat):Prop where
 each:Each n names
 tie:∀j,j+1<n->e (j+1)<=j/\us[j]? = some (tieOf (at_ names ((j+1:Nat):Int)) (at_ names (e (j+1):Int)))
 len:us.length+1=n
 step:∀j,j+2<n->e (j+2)=e (j+1)\/e (j+2)=j+1
theorem Elder.later{n:Nat}{names:List Int}{us:List Tie}{e:Nat->Nat}(L:Elder n names us e){a:Nat}(ha:0<a):∀d,a+d<n->e (a+d)=e a\/a<=e (a+d)
 | 0,_=>.inl rfl
 | d+1,h=>by
  have s:=L.step (a+d-1) (by omega)
  rw[show a+d-1+2=a+(d+1) by omega,show a+d-1+1=a+d by omega]at s
  rcases s with s|s
  ·rw[s];exact L.later ha d (by omega)
  ·rw[s];exact .inr (by omega)
theorem Elder.one{n:Nat}{names:List Int}{us:List Tie}{e:Nat->Nat}(L:Elder n names us e){i c c' k k':Nat}(hc:0<c/\c<n/\e c=i)(hc':0<c'/\c'<n/\e c'=i)(hk:0<k/\k<n/\e k=c)(hk':0<k'/\k'<n/\e k'=c'):c=c':=by
 have lt:∀x,0<x->x<n->e x<x:=λx h0 h1=>by
  have:=(L.tie (x-1) (by omega)).1
  rw[show x-1+1=x by omega]at this
  omega
 have no:∀{c c' k:Nat},(0<c/\c<n/\e c=i)->(0<c'/\c'<n/\e c'=i)->(0<k/\k<n/\e k=c)-> ¬c<c':=λ{c c' k}hc hc' hk h=>by
  have l1:=lt c hc.1 hc.2.1
  have l3:=lt k hk.1 hk.2.1
  rcases Nat.lt_or_ge k c' with h2|h2
  ·have:=L.later hk.1 (c'-k) (by omega)
   rw[show k+(c'-k)=c' by omega]at this
   omega
  ·have:=L.later hc'.1 (k-c') (by omega)
   rw[show c'+(k-c')=k by omega]at this
   omega
 rcases Nat.lt_trichotomy c c' with h|h|h
 ·exact absurd h (no hc hc' hk)
 ·exact h
 ·exact absurd h (no hc' hc hk')
theorem Elder.comb{n:Nat}{ts us:List Tie}{names:List Int}{e:Nat->Nat}(V:Valid n ts)(hu:ts.Perm us)(L:Elder n names us e):isComb n ts=true:=by
 have rgN:∀{i:Nat},i<n->0<=(i:Int)/\(i:Int)<(n:Int):=λh=>⟨by omega,by omega⟩
 have nbs:∀{i:Nat}{x:Int},i<n->x∈nb ts (at_ names i)->(0<i/\x=at_ names (e i:Int))\/ ∃c,(0<c/\c<n/\e c=i)/\x=at_ names (c:Int):=λ{i x}hi hx=>by
  obtain⟨y,hy,rfl⟩:=zC0 L.each (z2J V hx)
  have ht:=hu.mem_iff.mp ((zFJ V).mp hx)
  obtain⟨j,hj⟩:=List.getElem?_of_mem ht
  have hjl:=(List.getElem?_eq_some_iff.mp hj).1
  have hl:=L.len
  obtain⟨t1,t2⟩:=L.tie j (by omega)
  rw[hj]at t2
  have he:e (j+1)<n:=by omega
  rcases z2K (Option.some.inj t2)with⟨a,b⟩|⟨a,b⟩
  ·have a':=z63 L.each (rgN hi) (rgN (show j+1<n by omega)) a
   have:i=j+1:=by omega
   subst this
   exact .inl ⟨Nat.succ_pos _,b⟩
  ·have a':=z63 L.each (rgN hi) (rgN he) a
   have:i=e (j+1):=by omega
   exact .inr ⟨j+1,⟨Nat.succ_pos _,by omega,this.symm⟩,b⟩
 have elder:∀{i:Nat},i<n->at_ names i∈innerL n ts-> ∃c,0<c/\c<n/\e c=i:=λ{i}hi h=>by
  by_cases hc:∃c,0<c/\c<n/\e c=i
  ·exact hc
  ·have h2:=of_decide_eq_true (List.mem_filter.mp h).2
   have:=zCj (c:=at_ names (e i:Int)) (z4R V) λy hy=>by
    rcases nbs hi hy with⟨_,z⟩|⟨c,z,_⟩
    ·exact z
    ·exact absurd ⟨c,z⟩ hc
   omega
 unfold isComb
 rw[List.all_eq_true]
 intro p hp
 obtain⟨y,hy,rfl⟩:=zC0 L.each (z0K.mp (List.mem_filter.mp hp).1)
 obtain⟨i,rfl⟩:=Int.eq_ofNat_of_zero_le hy.1
 have hi:i<n:=by omega
 refine decide_eq_true ?_
 have key:∃b:Int,∀x∈inNb n ts (at_ names i),x=at_ names (e i:Int)\/x=b:=by
  by_cases hc:∃c,(0<c/\c<n/\e c=i)/\at_ names (c:Int)∈innerL n ts
  ·obtain⟨c,hc1,hc2⟩:=hc
   obtain⟨k,hk⟩:=elder hc1.2.1 hc2
   refine⟨at_ names (c:Int),λx hx=>?_⟩
   obtain⟨h1,h2⟩:=z1C.mp hx
   rcases nbs hi h1 with⟨_,z⟩|⟨c',z,rfl⟩
   ·exact .inl z
   ·obtain⟨k',hk'⟩:=elder z.2.1 h2
    rw[L.one z hc1 hk' hk]
    exact .inr rfl
  ·refine⟨0,λx hx=>?_⟩
   obtain⟨h1,h2⟩:=z1C.mp hx
   rcases nbs hi h1 with⟨_,z⟩|⟨c',z,rfl⟩
   ·exact .inl z
   ·exact absurd ⟨c',z,h2⟩ hc
 obtain⟨b,hb⟩:=key
 exact zFK (z45 V) hb
theorem Eld.comb{n here:Nat}{ts us:List Tie}{nm:List Int}{el:Nat->Nat}(V:Valid n ts)(hE:Each n nm)(hu:ts.Perm us)(hl:us.length+1=n)(L:Eld nm n us el here):isComb n ts=true:=Elder.comb V hu ⟨hE,L.tie,hl,L.step⟩
end MT
namespace MT
def rg(n:Nat):Int:=2*(n:Int)-1
def lay(n:Nat)(ms:List Int)(s:Int)(t:Tie):Tie:=tieOf ((at_ ms t.1+s)%rg n) ((at_ ms t.2+s)%rg n)
theorem z2m{m z:Int}(h:m ∣ z)(h1:-m<z)(h2:z<m):z=0:=by
 obtain⟨k,rfl⟩:=h
 by_cases h3:1<=k
 ·have:=Int.mul_le_mul_of_nonneg_left h3 (by omega:0<=m);omega
 ·by_cases h4:k<= -1
  ·have:=Int.mul_le_mul_of_nonneg_left h4 (by omega:0<=m);omega
  ·rw[show k=0 by omega,Int.mul_zero]
theorem z0X{m a b:Int}(h:a%m=b%m):m ∣ a-b:=Int.dvd_of_emod_eq_zero (by rw[Int.sub_emod,h,Int.sub_self,Int.zero_emod])
theorem z5w{ms:List Int}:∀{ts:List Tie},(diffs ms ts).Nodup-> ∀{t u:Tie},t∈ts->u∈ts->diff ms t=diff ms u->t=u
 | [],_,t,u,h,_,_=>absurd h List.not_mem_nil
 | a::r,nd,t,u,ht,hu,e=>by
  have nd':(diff ms a::diffs ms r).Nodup:=nd
  obtain⟨n1,n2⟩:=List.nodup_cons.mp nd'
  have mem:∀{x:Tie},x∈r->diff ms x∈diffs ms r:=λh=>List.mem_map_of_mem h
  rcases List.mem_cons.mp ht with h1|h1<;>rcases List.mem_cons.mp hu with h2|h2
  ·rw[h1,h2]
  ·exact absurd (by rw[<-h1,e];exact mem h2) n1
  ·exact absurd (by rw[<-h2,<-e];exact mem h1) n1
  ·exact z5w n2 h1 h2 e
section
variable{n:Nat}{ts:List Tie}{ms:List Int}(V:Valid n ts)(E:Each n ms)(nd:(diffs ms ts).Nodup)
include V E nd
theorem zAC{s s':Int}{t u:Tie}(hs:0<=s/\s<rg n)(hs':0<=s'/\s'<rg n)(ht:t∈ts)(hu:u∈ts)(e:lay n ms s t=lay n ms s' u):s=s'/\t=u:=by
 have rt:=V.rg t ht
 have ru:=V.rg u hu
 have a1:=z2I E rt.1 (by have:=rt.2.1;have:=rt.2.2;omega:t.1<(n:Int))
 have a2:=z2I E (by have:=rt.1;have:=rt.2.1;omega:0<=t.2) rt.2.2
 have b1:=z2I E ru.1 (by have:=ru.2.1;have:=ru.2.2;omega:u.1<(n:Int))
 have b2:=z2I E (by have:=ru.1;have:=ru.2.1;omega:0<=u.2) ru.2.2
 have dt:at_ ms t.1≠at_ ms t.2:=λz=>by
  have:=z63 E ⟨rt.1,by have:=rt.2.1;have:=rt.2.2;omega⟩ ⟨by have:=rt.1;have:=rt.2.1;omega,rt.2.2⟩ z
  have:=rt.2.1;omega
 have d1:diff ms t=absI (at_ ms t.1-at_ ms t.2):=rfl
 have d2:diff ms u=absI (at_ ms u.1-at_ ms u.2):=rfl
 have a1:0<=at_ ms t.1/\at_ ms t.1<(n:Int):=a1
 have a2:0<=at_ ms t.2/\at_ ms t.2<(n:Int):=a2
 have b1:0<=at_ ms u.1/\at_ ms u.1<(n:Int):=b1
 have b2:0<=at_ ms u.2/\at_ ms u.2<(n:Int):=b2
 have fin:t=u->(rg n ∣ (at_ ms t.1+s)-(at_ ms u.1+s'))->s=s'/\t=u:=λz h=>by
  subst z
  have:=z2m h (by omega) (by omega)
  exact⟨by omega,rfl⟩
 unfold lay at e
 have hrg:rg n=2*(n:Int)-1:=rfl
 rcases z2K e with⟨e1,e2⟩|⟨e1,e2⟩
 ·have h1:=z0X e1
  have h2:=z0X e2
  have h3:=Int.dvd_sub h1 h2
  have:=z2m h3 (by omega) (by omega)
  exact fin (z5w nd ht hu (by rw[d1,d2];congr 1;omega)) h1
 ·have h1:=z0X e1
  have h2:=z0X e2
  have h3:=Int.dvd_sub h1 h2
  have h4:=z2m h3 (by omega) (by omega)
  have z:=z5w nd ht hu (by rw[d1,d2];unfold absI;omega)
  subst z
  omega
theorem zAD{s:Int}(hs:0<=s/\s<rg n):(ts.map (lay n ms s)).Nodup:=
 List.pairwise_map.mpr ((List.pairwise_iff_forall_sublist.mpr λ{a b}hsub(e:lay n ms s a=lay n ms s b)=>by
  have ha:=hsub.subset (List.mem_cons_self:a∈[a,b])
  have hb:=hsub.subset (List.mem_cons_of_mem _ List.mem_cons_self:b∈[a,b])
  have:=(zAC V E nd hs hs ha hb e).2
  subst this
  exact absurd (hsub.nodup (z3v V.ris)) (by simp)))
theorem z64(srt:List Tie->List Tie)(hp:∀l,(srt l).Perm l):∀m:Nat,(m:Int)<=rg n->((List.range m).flatMap λk:Nat=>srt (ts.map (lay n ms (k:Int)))).Nodup
 | 0,_=>List.nodup_nil
 | m+1,h=>by
  rw[List.range_succ,List.flatMap_append,List.flatMap_singleton]
  refine List.nodup_append.mpr ⟨z64 srt hp m (by omega),(hp _).nodup_iff.mpr (zAD V E nd ⟨by omega,by omega⟩),λx hx y hy z=>?_⟩
  subst z
  obtain⟨k,hk,hx⟩:=List.mem_flatMap.mp hx
  have hk:=List.mem_range.mp hk
  obtain⟨t,ht,e1⟩:=List.mem_map.mp ((hp _).mem_iff.mp hx)
  obtain⟨u,hu,e2⟩:=List.mem_map.mp ((hp _).mem_iff.mp hy)
  have:=(zAC V E nd ⟨by omega,by omega⟩ ⟨by omega,by omega⟩ ht hu (e1.trans e2.symm)).1
  omega
end
theorem z7s{ts:List Tie}{n:Nat}{ms:List Int}(srt:List Tie->List Tie)(hp:∀l,(srt l).Perm l):∀m:Nat,((List.range m).flatMap λk:Nat=>srt (ts.map (lay n ms (k:Int)))).length=m*ts.length
 | 0=>by simp
 | m+1=>by rw[List.range_succ,List.flatMap_append,List.flatMap_singleton,List.length_append,z7s srt hp m,(hp _).length_eq,List.length_map,Nat.succ_mul]
end MT
namespace MT
def dueRow(m:Nat)(a:Int):List Tie:=(List.range ((m:Int)-(a+1)).toNat).map λk:Nat=>(a,a+1+(k:Int))
def due(m:Nat):List Tie:=((g0 m).map (dueRow m)).flatten
theorem z3s{m:Nat}{a:Int}{t:Tie}:t∈dueRow m a↔t.1=a/\a<t.2/\t.2<(m:Int):=by
 unfold dueRow
 rw[List.mem_map]
 constructor
 ·rintro⟨k,hk,rfl⟩
  rw[List.mem_range]at hk
  dsimp only
  omega
 ·rintro⟨h1,h2,h3⟩
  refine⟨(t.2-(a+1)).toNat,by rw[List.mem_range];omega,?_⟩
  apply Prod.ext
  ·exact h1.symm
  ·show a+1+(((t.2-(a+1)).toNat:Nat):Int)=t.2
   omega
theorem zEf{m:Nat}{t:Tie}:t∈due m↔InR m t:=by
 unfold due
 rw[List.mem_flatten]
 constructor
 ·rintro⟨l,hl,ht⟩
  obtain⟨a,ha,rfl⟩:=List.mem_map.mp hl
  rw[z0K]at ha
  rw[z3s]at ht
  exact⟨by omega,by omega,ht.2.2⟩
 ·rintro⟨h1,h2,h3⟩
  exact⟨_,List.mem_map.mpr ⟨t.1,z0K.mpr ⟨h1,by omega⟩,rfl⟩,z3s.mpr ⟨rfl,h2,h3⟩⟩
theorem z5x(m:Nat)(a:Int):(dueRow m a).Pairwise tlt:=by
 unfold dueRow
 rw[List.pairwise_map]
 refine List.pairwise_lt_range.imp λ{i j}h=>.inr ⟨rfl,?_⟩
 dsimp only
 omega
theorem z4O(m:Nat):(due m).Pairwise tlt:=by
 unfold due
 rw[List.pairwise_flatten]
 refine⟨λl hl=>?_,?_⟩
 ·obtain⟨a,ha,rfl⟩:=List.mem_map.mp hl
  exact z5x m a
 ·unfold g0
  rw[List.pairwise_map,List.pairwise_map]
  refine List.pairwise_lt_range.imp λ{i j}h x hx y hy=>.inl ?_
  rw[z3s]at hx hy
  omega
theorem zAE(m:Nat):(due m).Nodup:=(z4O m).imp λ{a b}h e=>by subst e;exact z2s _ h
theorem zEg:∀n:Nat,n<=12->1<=n->(due (2*n-1)).length=(2*n-1)*(n-1):=by
 have:∀n:Fin 13,1<=n.val->(due (2*n.val-1)).length=(2*n.val-1)*(n.val-1):=by decide +kernel
 exact λn h1 h2=>this ⟨n,by omega⟩ h2
section
variable{n:Nat}{ts:List Tie}{ms:List Int}(V:Valid n ts)(E:Each n ms)(nd:(diffs ms ts).Nodup)
include V E nd
theorem zFL{s:Int}{t:Tie}(ht:t∈ts)(hs:0<=s/\s<rg n):InR (2*n-1) (lay n ms s t):=by
 have hp:=V.pos
 have hI:=V.rg t ht
 have hr:(0:Int)<rg n:=by unfold rg;omega
 have a0:=Int.emod_nonneg (at_ ms t.1+s) (Int.ne_of_gt hr)
 have a1:=Int.emod_lt_of_pos (at_ ms t.1+s) hr
 have b0:=Int.emod_nonneg (at_ ms t.2+s) (Int.ne_of_gt hr)
 have b1:=Int.emod_lt_of_pos (at_ ms t.2+s) hr
 have e:(at_ ms t.1+s)%rg n≠(at_ ms t.2+s)%rg n:=λe=>by
  have d:=z0X e
  have r1:=zBU E (i:=t.1) ⟨hI.1,by have:=hI.2.1;have:=hI.2.2;omega⟩
  have r2:=zBU E (i:=t.2) ⟨by have:=hI.1;have:=hI.2.1;omega,hI.2.2⟩
  have z:=z2m d (by unfold rg;omega) (by unfold rg;omega)
  have:=z63 E (i:=t.1) (j:=t.2) ⟨hI.1,by have:=hI.2.1;have:=hI.2.2;omega⟩ ⟨by have:=hI.1;have:=hI.2.1;omega,hI.2.2⟩ (by omega)
  have:=hI.2.1
  omega
 unfold lay tieOf
 generalize (at_ ms t.1+s)%rg n=x at a0 a1 e
 generalize (at_ ms t.2+s)%rg n=y at b0 b1 e
 refine⟨?_,?_,?_⟩
 ·dsimp only;omega
 ·dsimp only;omega
 ·unfold rg at a1 b1;dsimp only;omega
theorem zEh(hn:n<=12)(srt:List Tie->List Tie)(hp:∀l,(srt l).Perm l):((List.range (2*n-1)).flatMap λk:Nat=>srt (ts.map (lay n ms (k:Int)))).Perm (due (2*n-1)):=by
 have hpos:=V.pos
 have hl:=V.len
 refine z76 (z64 V E nd srt hp (2*n-1) (by unfold rg;omega)) (zAE _) (λx hx=>?_) ?_
 ·obtain⟨k,hk,hx⟩:=List.mem_flatMap.mp hx
  rw[List.mem_range]at hk
  obtain⟨t,ht,rfl⟩:=List.mem_map.mp ((hp _).mem_iff.mp hx)
  exact zEf.mpr (zFL V E nd ht ⟨by omega,by unfold rg;omega⟩)
 ·rw[zEg n hn hpos,z7s srt hp,show ts.length=n-1 by omega]
  exact Nat.le_refl _
end
def ends(us:List Tie):List Int:=us.flatMap λt=>[t.1,t.2]
def degs(us:List Tie)(m:Nat):List Int:=(g0 m).map λp=>(((ends us).count p:Nat):Int)
theorem zAF{us vs:List Tie}(h:us.Perm vs):(ends us).Perm (ends vs):=h.flatMap_right _
theorem zAG{us vs:List Tie}(h:us.Perm vs)(m:Nat):degs us m=degs vs m:=by
 unfold degs
 exact List.map_congr_left λp _=>by rw[(zAF h).count_eq]
theorem z8e(n:Nat)(ms:List Int)(s:Int):∀ts:List Tie,(ends (ts.map (lay n ms s))).Perm ((ends ts).map λp=>(at_ ms p+s)%rg n)
 | []=>List.Perm.refl _
 | t::ts=>by
  have ih:=z8e n ms s ts
  show([(lay n ms s t).1,(lay n ms s t).2]++ends (ts.map (lay n ms s))).Perm ([(at_ ms t.1+s)%rg n,(at_ ms t.2+s)%rg n]++(ends ts).map λp=>(at_ ms p+s)%rg n)
  refine List.Perm.append ?_ ih
  unfold lay
  rcases z0O ((at_ ms t.1+s)%rg n) ((at_ ms t.2+s)%rg n)with e|e<;>rw[e]
  exact List.Perm.swap _ _ _
theorem z5y{f:Int->Int}{l:List Int}{a:Int}(h:∀x∈l,f x=f a->x=a):(l.map f).count (f a)=l.count a:=by
 induction l with
 | nil=>rfl
 | cons x l ih=>
  rw[List.map_cons,List.count_cons,List.count_cons,ih λy hy=>h y (List.mem_cons_of_mem _ hy)]
  congr 1
  by_cases e:x=a
  ·subst e;simp
  ·have:f x≠f a:=λq=>e (h x (by simp) q)
   simp[e,this]
theorem z8f{n:Nat}{ts:List Tie}(hr:∀t∈ts,InR n t){x:Int}(h:x∈ends ts):0<=x/\x<(n:Int):=by
 obtain⟨t,ht,hx⟩:=List.mem_flatMap.mp h
 obtain⟨h1,h2,h3⟩:=hr t ht
 simp at hx
 rcases hx with rfl|rfl<;>omega
theorem zBV{n:Nat}{ts us:List Tie}{ms:List Int}(V:Valid n ts)(E:Each n ms){s:Int}(hu:us.Perm (ts.map (lay n ms s))):(degs us (2*n-1)).Perm (List.replicate (n-1) 0++degs ts n):=by
 have hp:=V.pos
 have hr:(0:Int)<rg n:=by unfold rg;omega
 rw[zAG hu]
 have inj:∀x y:Int,0<=x/\x<(n:Int)->0<=y/\y<(n:Int)->(at_ ms x+s)%rg n=(at_ ms y+s)%rg n->x=y:=λx y hx hy e=>by
  have r1:=zBU E hx
  have r2:=zBU E hy
  have z:=z2m (z0X e) (by unfold rg;omega) (by unfold rg;omega)
  exact z63 E hx hy (by omega)
 have cnt:∀q:Int,(ends (ts.map (lay n ms s))).count q=((ends ts).map λp=>(at_ ms p+s)%rg n).count q:=λq=>(z8e n ms s ts).count_eq q
 have ndI:((g0 n).map λp=>(at_ ms p+s)%rg n).Nodup:=by
  rw[List.Nodup,List.pairwise_map]
  refine(z1T n).imp_of_mem λ{a b}ha hb hne e=>hne (inj a b (z0K.mp ha) (z0K.mp hb) e)
 have subI:∀q∈((g0 n).map λp=>(at_ ms p+s)%rg n),q∈g0 (2*n-1):=λq hq=>by
  obtain⟨p,hp',rfl⟩:=List.mem_map.mp hq
  refine z0K.mpr ⟨Int.emod_nonneg _ (Int.ne_of_gt hr),?_⟩
  have:=Int.emod_lt_of_pos (at_ ms p+s) hr
  unfold rg at this ⊢;omega
 have pQ:(g0 (2*n-1)).Perm ((g0 (2*n-1)).filter (λq=>decide (q∉((g0 n).map λp=>(at_ ms p+s)%rg n)))++((g0 n).map λp=>(at_ ms p+s)%rg n)):=by
  refine(List.perm_ext_iff_of_nodup (z1T _) ?_).mpr λq=>?_
  ·rw[List.nodup_append]
   refine⟨(z1T _).filter _,ndI,λa ha b hb e=>?_⟩
   subst e
   rw[List.mem_filter,decide_eq_true_eq]at ha
   exact ha.2 hb
  ·rw[List.mem_append,List.mem_filter,decide_eq_true_eq]
   constructor
   ·intro h
    by_cases c:q∈((g0 n).map λp=>(at_ ms p+s)%rg n)
    ·exact .inr c
    ·exact .inl ⟨h,c⟩
   ·rintro(h|h)
    ·exact h.1
    ·exact subI q h
 have lR:=pQ.length_eq
 rw[z0x,List.length_append,List.length_map,z0x]at lR
 unfold degs
 refine(pQ.map _).trans ?_
 rw[List.map_append]
 refine List.Perm.append (List.Perm.of_eq ?_) (List.Perm.of_eq ?_)
 ·rw[List.eq_replicate_iff]
  refine⟨by rw[List.length_map];omega,λb hb=>?_⟩
  obtain⟨q,hq,rfl⟩:=List.mem_map.mp hb
  rw[List.mem_filter,decide_eq_true_eq]at hq
  rw[cnt,List.count_eq_zero.mpr]
  ·rfl
  ·intro hm
   obtain⟨p,hp',rfl⟩:=List.mem_map.mp hm
   exact hq.2 (List.mem_map.mpr ⟨p,z0K.mpr (z8f V.rg hp'),rfl⟩)
 ·rw[List.map_map]
  refine List.map_congr_left λp hp'=>?_
  show(((ends (ts.map (lay n ms s))).count ((at_ ms p+s)%rg n):Nat):Int)=_
  rw[cnt,z5y (f:=λp=>(at_ ms p+s)%rg n) λx hx e=>inj x p (z8f V.rg hx) (z0K.mp hp') e]
theorem zBW{us:List Tie}{m:Nat}{x:Int}(h:x∈degs us m):0<=x:=by
 obtain⟨p,_,rfl⟩:=List.mem_map.mp h
 omega
end MT
namespace K08
open PySem Ev
def W0:Wd:=⟨λ_=>none,λx=>if x="MOST_PLACES" then some 12 else none,λ_ _=>none,λc=>decide (c="BadTree")||decide (c="BadMarks")||decide (c="NotGood")||decide (c="NoComb")⟩
def z0h:Fn:=mkFn {W0 with F:=Fl []} 2 2 [] Bd.z1o
def z15:Fn:=mkFn {W0 with F:=Fl []} 3 5 [] Bd.z2U
def z0C:Fn:=mkFn {W0 with F:=Fl [("_law_cell_at",z0h),("_law_mix",z15)]} 3 11 [] Bd.z1s
def z2E:Fn:=mkFn {W0 with F:=Fl []} 1 1 [] Bd.z2b
def z3t:Fn:=mkFn {W0 with F:=Fl []} 2 6 [] Bd.z2y
def z5z:Fn:=mkFn {W0 with F:=Fl []} 2 2 [] Bd.z36
def z1I:Fn:=mkFn {W0 with F:=Fl [("is_rising",z2E),("is_whole",z3t),("is_tie",z5z)]} 2 2 [] Bd.z1E
def z4f:Fn:=treeFn z1I
def z0q:Fn:=mkFn {W0 with F:=Fl []} 2 4 [] Bd.z1F
def z0r:Fn:=mkFn {W0 with F:=Fl [("neighbours",z0q)]} 1 1 [] Bd.z0Z
def z0g:Fn:=mkFn {W0 with F:=Fl [("inner_places",z0r),("neighbours",z0q)]} 2 3 [] Bd.z04
def z4g:Fn:=mkFn {W0 with F:=Fl [("inner_places",z0r),("inner_neighbours",z0g)]} 1 2 [] Bd.z2X
def z2e:Fn:=mkFn {W0 with F:=Fl [("inner_neighbours",z0g),("row_end",z4g)]} 1 3 [] Bd.z2d
def z50:Fn:=mkFn {W0 with F:=Fl [("inner_row",z2e),("neighbours",z0q)]} 1 7 [] Bd.z5p
def z2n:Fn:=mkFn {W0 with F:=Fl [("inner_places",z0r),("inner_neighbours",z0g)]} 1 1 [] Bd.z2W
def z0A:Fn:=mkFn {W0 with F:=Fl [("sides",z50),("is_comb",z2n)]} 1 4 [] Bd.z1a
def z0D:Fn:=mkFn {W0 with F:=Fl [("_law_cell_at",z0h),("_law_mix",z15)]} 3 12 [] Bd.z1p
def z7t:Fn:=mkFn {W0 with F:=Fl []} 3 6 [] Bd.z5o
def z0M:Nat->Fn
 | 0=>⟨λ_=>none,[false,true,false]⟩
 | n+1=>mkFn {W0 with F:=Fl [("steps",z7t),("all_from",z0M n)]} 3 5 [false,true,false] Bd.z2z
def z0J:Fn:=mkFn {W0 with F:=Fl [("neighbours",z0q)]} 2 2 [] Bd.z02
def z16:Fn:=mkFn {W0 with F:=Fl [("lesser_neighbours",z0J)]} 1 1 [] Bd.z2c
def z1u:Fn:=mkFn {W0 with F:=Fl [("all_from",(z0M 20)),("back_ties",z16)]} 1 1 [] Bd.z3l
def z0v:Fn:=mkFn {W0 with F:=Fl []} 2 2 [] Bd.z1q
def z1t:Fn:=mkFn {W0 with F:=Fl [("check_marks",z0v)]} 2 2 [] Bd.z1r
def z3c:Fn:=mkFn {W0 with F:=Fl [("differences",z1t)]} 2 3 [] Bd.z2V
def z0y:Fn:=mkFn {W0 with F:=Fl [("is_good",z3c)]} 2 2 [] Bd.z1G
def z0j:Fn:=mkFn {W0 with F:=Fl []} 1 1 [] Bd.z29
def z1N:Fn:=mkFn {W0 with F:=Fl [("ring_size",z0j)]} 4 6 [] Bd.z3m
def z1v:Fn:=mkFn {W0 with F:=Fl [("laid_tie",z1N)]} 3 3 [] Bd.z3n
def z3d:Fn:=mkFn {W0 with F:=Fl [("check_good",z0y),("one_copy",z1v),("ring_size",z0j)]} 2 2 [] Bd.z5q
def z0N:Fn:=mkFn {W0 with F:=Fl []} 2 5 [] Bd.z1H
def z1J:List Sx:=[.asg 2 false (.bin .sub (.bin .mul (.int 2) (.fld (.var 0) false)) (.int 1)),.asg 3 true (.lst []),.forL (.name 4) (.call "copies" [(.var 0),(.var 1)]) [.asg 5 false (.slice (.call "_law_counts" [(.var 4),(.var 2)]) (some (.bin .sub (.fld (.var 0) false) (.int 1))) none),.ifs (.or (.cmp .ne (.blt .len [(.var 4)]) (.bin .sub (.fld (.var 0) false) (.int 1))) (.cmp .ne (.var 5) (.call "_law_counts" [(.fld (.var 0) true),(.fld (.var 0) false)]))) [.ret (.bl false)] [],.ext 3 (.var 4)],.asg 6 true (.lst []),.forR 4 (.int 0) (.var 2) [.ext 6 (.compR [none,none,some 4] 1 (.bin .add (.var 4) (.int 1)) (.var 2) none (.tup [(.var 2),(.var 1)]))],.ret (.cmp .eq (.blt .sorted [(.var 3)]) (.var 6))]
def z0B:Fn:=mkFn {W0 with F:=Fl [("copies",z3d),("_law_counts",z0N)]} 2 7 [] z1J
def z21:Fn:=mkFn {W0 with F:=Fl [("check_marks",z0v)]} 2 2 [] Bd.z5n
def zBX:List Sx:=[.asg 1 false (.call "_law_cell_at" [(.var 0),(.int 6)]),.unp [2,3] (.call "_law_comb_by" [(.var 0),(.int 0),(.int 12)]),.asg 4 false (.call "Tree" [(.var 2),(.var 3)]),.ifs (.cmp .eq (.bin .mod (.var 1) (.int 2)) (.int 0)) [.asg 5 false (.call "comb_marks" [(.var 4)])] [.unp [2,3] (.call "_law_tree_by" [(.var 0),(.int 0),(.int 7)]),.asg 4 false (.call "Tree" [(.var 2),(.var 3)]),.asg 6 false (.call "markings" [(.var 4)]),.ifs (.cmp .eq (.blt .len [(.var 6)]) (.int 0)) [.ret (.bl true)] [],.asg 5 false (.ix (.var 6) (.bin .mod (.bin .fdiv (.var 1) (.int 2)) (.blt .len [(.var 6)])))],.ret (.and (.call "_law_covers" [(.var 4),(.var 5)]) (.call "_law_covers" [(.var 4),(.call "turned" [(.var 4),(.var 5)])]))]
def zBY:Fn:=mkFn {W0 with F:=Fl [("_law_cell_at",z0h),("_law_comb_by",z0C),("Tree",z4f),("comb_marks",z0A),("_law_tree_by",z0D),("markings",z1u),("_law_covers",z0B),("turned",z21)]} 1 7 [] zBX
end K08
namespace K08
open PySem Ev
theorem z51:HasMarks {W0 with F:=Fl [("check_marks",z0v)]} "check_marks" rCheck:=⟨z0v,rfl,rfl,λn ts ms h1 h2 _ _=>(z05 rfl).trans (z3a _ rfl n (ts.map tieD) ms h1 (by lia))⟩
theorem z52:HasMarks {W0 with F:=Fl [("differences",z1t)]} "differences" rDiffs:=⟨z1t,rfl,rfl,λn ts ms h1 h2 h3 h4=>(z05 rfl).trans (z5t _ z51 n ts ms h1 h2 h3 h4)⟩
theorem zAH:HasMarks {W0 with F:=Fl [("is_good",z3c)]} "is_good" rGood:=⟨z3c,rfl,rfl,λn ts ms h1 h2 h3 h4=>(z05 rfl).trans (zA4 _ z52 n ts ms h1 h2 h3 h4)⟩
theorem i_cg(n:Nat)(ts:List (Int×Int))(ms:List Int)(h1:ms.length<64)(h2:n<=63)(h3:ts.length<64)(h4:∀t∈ts,MT.InR n t):z0y.m [.tree n (ts.map tieD),.lst (ms.map D.int)]=some (rCheckG n ts ms):=(z05 rfl).trans (z6y _ rfl zAH n ts ms h1 h2 h3 h4)
theorem zEi(n:Nat)(ts:List (Int×Int))(V:MT.Valid n ts)(hn:n<=12):z1I.m [.int n,.lst (ts.map tieD)]=some (.ok .non):=
 (z05 rfl).trans (z6w _ rfl ⟨z5z,rfl,rfl,λn t=>(z05 rfl).trans (zBN _ n t)⟩ ⟨z2E,rfl,rfl,λts h=>(z05 rfl).trans (z7k _ ts h)⟩ ⟨z3t,rfl,rfl,λn ts h1 h2 h3=>(z05 rfl).trans (z8B _ n ts h1 h2 h3)⟩ n ts V hn)
theorem zC1(n:Nat)(ts:List (Int×Int))(V:MT.Valid n ts)(hn:n<=12):z4f.m [.int n,.lst (ts.map tieD)]=some (.ok (.tree n (ts.map tieD))):=by
 show(if lfs (ts.map tieD)then match z1I.m [.int n,.lst (ts.map tieD)]with
  | some (.ok _)=>some (R.ok (.tree n (ts.map tieD)))
  | some (.exc c)=>some (.exc c)
  | none=>none
  else none)=_
 rw[if_pos (z0V ts),zEi n ts V hn]
theorem zC2(ns:List Int)(k:Int)(h:0<=k):∃c,z0h.m [.scr ns,.int k]=some (.ok (.int c)):=by
 obtain⟨c,hc⟩:=zFE {W0 with F:=Fl []} ns k h
 exact⟨c,(z05 rfl).trans hc⟩
theorem zFM(c k m:Int)(h1:0<=k)(h2:k<1000000)(h3:0<m):∃r,0<=r/\r<m/\z15.m [.int c,.int k,.int m]=some (.ok (.int r)):=by
 obtain⟨r,h4,h5,hr⟩:=zGx {W0 with F:=Fl []} c k m h1 h2 h3
 exact⟨r,h4,h5,(z05 rfl).trans hr⟩
theorem zFN(n:Nat)(ts:List (Int×Int))(V:MT.Valid n ts)(hn:n<=12):z16.m [.tree n (ts.map tieD)]=some (.ok (.lst ((MT.g0 n).map λp=>.lst ((MT.lower ts p).map D.int)))):=
 (z05 rfl).trans (z7l _ ⟨z0J,rfl,rfl,λn ts p h1 h2=>(z05 rfl).trans (zBO _ ⟨z0q,rfl,rfl,λn ts p h=>(z05 rfl).trans (z3y _ n ts p h)⟩ n ts p h1 h2)⟩ n ts (by omega) (by have:=V.len;omega) V.rg)
def backs(n:Nat)(ts:List (Int×Int)):List (List Int):=(MT.g0 n).map λp=>MT.lower ts p
theorem z7u(n:Nat)(ts:List (Int×Int)):listD (backs n ts)= .lst ((MT.g0 n).map λp=>.lst ((MT.lower ts p).map D.int)):=by unfold listD backs;rw[List.map_map];rfl
theorem z65(n:Nat)(ts:List (Int×Int)):(backs n ts).length=n:=by unfold backs;rw[List.length_map,MT.z0x]
theorem zAI{n j:Nat}(ts:List (Int×Int))(h:j<n):(backs n ts)[j]? = some (MT.lower ts (j:Int)):=by
 unfold backs MT.g0
 rw[List.getElem?_map,List.getElem?_map,List.getElem?_range h]
 rfl
theorem zAJ(ts:List (Int×Int))(p:Int):(MT.lower ts p).length<=ts.length:=by
 unfold MT.lower;rw[List.length_map];exact List.length_filter_le _ _
theorem zBZ{n:Nat}{ts:List (Int×Int)}(hr:∀t∈ts,MT.InR n t){p x:Int}(h:x∈MT.lower ts p):0<=x/\x<p:=by
 unfold MT.lower at h
 rw[List.mem_map]at h
 obtain⟨t,ht,rfl⟩:=h
 rw[List.mem_filter,decide_eq_true_eq]at ht
 have:=hr t ht.1
 exact⟨this.1,ht.2▸this.2.1⟩
theorem zCa{n:Nat}{ts:List (Int×Int)}(hr:∀t∈ts,MT.InR n t):MT.told ts []=[]:=by
 unfold MT.told
 rw[List.filter_eq_nil_iff.mpr]
 ·rfl
 ·intro t ht
  have h1:=(hr t ht).1
  have h2:=(hr t ht).2.1
  rw[decide_eq_true_eq]
  exact Int.not_lt.mpr (Int.le_trans h1 (Int.le_of_lt h2))
theorem few{n:Nat}(d:Nat)(hn:n<=7)(hd:d<=n):n^d<=900000:=Nat.le_trans (Nat.pow_le_pow_left hn d) (Nat.le_trans (Nat.pow_le_pow_right (by decide) (Nat.le_trans hd hn)) (by decide))
theorem zFO{n:Nat}{ts:List (Int×Int)}(V:MT.Valid n ts)(hn:n<=7):∀(f:Nat)(ms met:List Int),ms.length<=n->n-ms.length<f->met.length<=11*ms.length->met.Perm (MT.told ts ms)->(z0M f).m [listD (backs n ts),.lst (ms.map D.int),.lst (met.map D.int)]=some (.ok (.lst ((MT.dfsF n ts f ms met).map rowD)))
 | 0,_,_,_,h,_,_=>absurd h (Nat.not_lt_zero _)
 | f+1,ms,met,h1,h2,h3,hp=>by
  have hl:=V.len
  have hll:=zAJ ts (ms.length:Int)
  refine(z05 rfl).trans (z8D _ n (backs n ts) (MT.lower ts (ms.length:Int)) ms met (MT.dfsF n ts f) (z65 n ts) (λhlt=>?_) ⟨z7t,rfl,rfl,λhlt=>(z05 rfl).trans (zDX _ n (backs n ts) _ ms met (by omega) (z65 n ts) (zAI ts hlt) (by omega) (λp hp=>zBZ V.rg hp) (by omega))⟩ h1 ⟨z0M f,rfl,?_,λhlt k=>zFO V hn f (ms++[k]) _ ?_ ?_ ?_ ((hp.append_right _).trans (MT.z3C V.rg ms k))⟩)
  ·have e:=MT.z7p V.rg (f+1) ms met hp h1 h2
   unfold MT.dfsF at e
   rw[if_neg (Nat.ne_of_lt hlt)]at e
   rw[e]
   refine Nat.le_trans (MT.z8a _ _) ?_
   rw[List.length_singleton,Nat.one_mul]
   exact few _ hn (Nat.sub_le _ _)
  ·cases f<;>rfl
  ·rw[List.length_append];exact hlt
  ·rw[List.length_append,List.length_singleton];omega
  ·unfold MT.grow;rw[List.length_append,List.length_map,List.length_append,List.length_singleton];omega
theorem z8E{n:Nat}{ts:List (Int×Int)}(V:MT.Valid n ts)(hn:n<=7):z1u.m [.tree n (ts.map tieD)]=some (.ok (.lst ((MT.allF n ts n).map rowD))):=by
 refine(z05 rfl).trans ?_
 unfold evFn Bd.z3l
 have hb:=zFN n ts V (by omega)
 rw[<-z7u]at hb
 have hp:([]:List Int).Perm (MT.told ts []):=by rw[zCa V.rg]
 have hf:=zFO V hn 20 [] [] (Nat.zero_le _) (by show n-0<20;omega) (Nat.zero_le _) hp
 rw[MT.z7p V.rg 20 [] [] hp (Nat.zero_le _) (by show n-0<20;omega)]at hf
 have e:MT.allIt n ts (n-([]:List Int).length) [[]]=MT.allF n ts n:=by
  show MT.allIt n ts (n-0) (MT.allF n ts 0)=_
  rw[Nat.sub_zero,MT.zA7,Nat.zero_add]
 rw[e]at hf
 have hc:=zAo (W:={W0 with F:=Fl [("all_from",(z0M 20)),("back_ties",z16)]}) (ρ:=disownAll (entsOf [] [.tree n (ts.map tieD)]++List.replicate (1-[D.tree n (ts.map tieD)].length) none)) (f:="all_from") (fn:=z0M 20) (v:=.new) (es:=[.call "back_ties" [.var 0],.lst [],.lst []]) rfl (z0L (t:=.new) (z0c (fn:=z16) rfl (z1M (t:=.cl .old) rfl) hb rfl) (z0l (t:=.new) (u:=.new) rfl rfl)) hf rfl
 rw[z0i (z0I (u:=.new) hc (by rw[z1b,z1b]))]
 rfl
section
variable(n:Nat)(ts:List (Int×Int))(V:MT.VT n ts)(hn:n<=12)
include V hn
theorem i_nb:NbOk n ts z0q.m:=λp=>(z05 rfl).trans (z3y _ n ts p (by have:=V.len;lia))
theorem i_in:InOk n ts z0r.m:=(z05 rfl).trans (z4t _ n ts hn ⟨z0q,rfl,rfl,i_nb n ts V hn⟩)
theorem zAK:InNbOk n ts z0g.m:=λp=>(z05 rfl).trans (z3b _ n ts ⟨z0r,rfl,rfl,i_in n ts V hn⟩ ⟨z0q,rfl,rfl,i_nb n ts V hn⟩ p)
theorem zFP:z2n.m [.tree n (ts.map tieD)]=some (.ok (.bl (MT.isComb n ts))):=(z05 rfl).trans (zA9 _ n ts ⟨z0r,rfl,rfl,i_in n ts V hn⟩ ⟨z0g,rfl,rfl,zAK n ts V hn⟩)
theorem zEj:(MT.isComb n ts=false->z0A.m [.tree n (ts.map tieD)]=some (.exc "NoComb"))/\(MT.isComb n ts=true-> ∃HI LO,MT.Comb n ts HI LO/\z0A.m [.tree n (ts.map tieD)]=some (.ok (.lst ((MT.combM n HI LO).map D.int)))):=by
 have h:=z60 {W0 with F:=Fl [("sides",z50),("is_comb",z2n)]} rfl n ts hn ⟨z2n,rfl,rfl,zFP n ts V hn⟩
 refine⟨λhc=>(z05 rfl).trans (h.1 hc),λhc=>?_⟩
 have R:=MT.Wk.row V hc 63 [] (MT.rowEnd n ts) _ (MT.Wk.start V) (by show n<63+1;omega)
 have hr:z2e.m [.tree n (ts.map tieD)]=some (.ok (.lst ((MT.walk n ts 63 ([]++[MT.rowEnd n ts]) (MT.inNb n ts (MT.rowEnd n ts))).map D.int))):=(z05 rfl).trans (z7r _ n ts V hn hc ⟨z0g,rfl,rfl,zAK n ts V hn⟩ ⟨z4g,rfl,rfl,(z05 rfl).trans (zAA _ n ts ⟨z0r,rfl,rfl,i_in n ts V hn⟩ ⟨z0g,rfl,rfl,zAK n ts V hn⟩)⟩)
 generalize MT.walk n ts 63 ([]++[MT.rowEnd n ts]) (MT.inNb n ts (MT.rowEnd n ts))=row at R hr
 cases row with
 | nil=>exact absurd rfl R.ne
 | cons r0 tl=>exact⟨_,_,R.comb V.1,(z05 rfl).trans (h.2 _ _ hc (R.comb V.1).parts ⟨z50,rfl,rfl,(z05 rfl).trans (zEa _ n ts V.1 hn ⟨z0q,rfl,rfl,i_nb n ts V hn⟩ r0 tl R ⟨z2e,rfl,rfl,hr⟩)⟩)⟩
end
theorem zCb{n:Nat}(ts:List (Int×Int)){r:List Int}(h:MT.Each n r)(hn:n<=12):z21.m [.tree n (ts.map tieD),rowD r]=some (.ok (rowD (MT.turnM n r))):=by
 refine(z05 rfl).trans ?_
 have hc:z0v.m [.tree n (ts.map tieD),rowD r]=some (.ok .non):=by
  refine(z05 rfl).trans ((z3a _ rfl n (ts.map tieD) r (by rw[h.len];omega) (by omega)).trans ?_)
  rw[if_pos (z1Y (List.Perm.symm h) (MT.z5K n)).symm]
 unfold evFn Bd.z5n
 rw[z0b (zAl (z0c (fn:=z0v) rfl (z0l (t:=.cl .old) (u:=.cl .old) rfl rfl) hc rfl))]
 have:=z2B (W:={W0 with F:=Fl [("check_marks",z0v)]}) (ρ:=disownAll (entsOf [] [.tree n (ts.map tieD),.lst (r.map D.int)]++List.replicate (2-[D.tree n (ts.map tieD),D.lst (r.map D.int)].length) none)) (src:=.var 1) (el:=.bin .sub (.bin .sub (.fld (.var 2) false) (.int 1)) (.var 1)) (ix:=[none,none,some 0]) (tg:=.name 1) D.int r (λm=>.int ((n:Int)-1-m)) (t:=.cl .old) rfl (λm _=>⟨_,.new,rfl,rfl,rfl⟩)
 rw[z0i (z0I (u:=.new) this (z1b _))]
 have e:r.map (λm=>D.int ((n:Int)-1-m))=(MT.turnM n r).map D.int:=by rw[MT.turnM,List.map_map];rfl
 rw[e]
 rfl
theorem zG0{W:Wd}{ρ:Ev.Env}{a b:Ex}{x y:Int}{t u:Tag}(ha:evE W ρ a=some (.ok (.int x) t))(hb:evE W ρ b=some (.ok (.int y) u)):evE W ρ (.tup [.blt .min [a,b],.blt .max [a,b]])=some (.ok (.tup [.int (if y<x then y else x),.int (if y>x then y else x)]) .new):=by
 have h1:evE W ρ (.blt .min [a,b])=some (.ok (.int (if y<x then y else x)) .new):=zAn ha hb rfl
 have h2:evE W ρ (.blt .max [a,b])=some (.ok (.int (if y>x then y else x)) .new):=zAn ha hb rfl
 (conv=>lhs;whnf)
 rw[z0l h1 h2]
 rfl
def rgI(n:Nat):Int:=2*(n:Int)-1
def at0(ms:List Int)(i:Int):Int:=ms.getD i.toNat 0
def laid(n:Nat)(ms:List Int)(s:Int)(t:Int×Int):Int×Int:=MT.tieOf ((at0 ms t.1+s)%rgI n) ((at0 ms t.2+s)%rgI n)
def copyR(n:Nat)(ts:List (Int×Int))(ms:List Int)(s:Int):List (Int×Int):=isortT (ts.map (laid n ms s))
def tiesD(us:List (Int×Int)):D:=.lst (us.map tieD)
def copiesF(n:Nat)(ts:List (Int×Int))(ms:List Int):List (List (Int×Int)):=(List.range (2*n-1)).map λk:Nat=>copyR n ts ms (k:Int)
theorem mul2(n:Nat):binD .mul (.int 2) (.int n)=some (.int (2*(n:Int))):=(mulD_int 2 n).trans (if_pos (.inl ⟨by decide,by decide⟩))
theorem zC3{W:Wd}{ρ:Ev.Env}{a:Ex}{n:Nat}{t:Tag}(ha:evE W ρ a=some (.ok (.int n) t)):evE W ρ (.bin .sub (.bin .mul (.int 2) a) (.int 1))=some (.ok (.int (rgI n)) .new):=z0t (z0t (i:=2) (t:=.new) rfl ha (mul2 n)) (u:=.new) rfl rfl
theorem zG1{W:Wd}{ρ:Ev.Env}{a b:Ex}{x:Int}{n:Nat}{t u:Tag}(h1:1<=n)(ha:evE W ρ a=some (.ok (.int x) t))(hb:evE W ρ b=some (.ok (.int (rgI n)) u)):evE W ρ (.bin .mod a b)=some (.ok (.int (x%rgI n)) .new):=z0t ha hb (by
 simp only[binD,onZ_int]
 rw[if_pos (by unfold rgI;omega)])
theorem zC4(n:Nat)(ds:List D):z0j.m [.tree n ds]=some (.ok (.int (rgI n))):=by
 refine(z05 rfl).trans ?_
 unfold evFn Bd.z29
 exact(congrArg endR (z0i (z0I (u:=.new) (zC3 (n:=n) (t:=.new) rfl) (z1b _)))).trans rfl
theorem zFQ(n:Nat)(ds:List D)(ms:List Int)(s:Int)(t:Int×Int)(h1:1<=n)(hm:ms.length=n)(hI:MT.InR n t):z1N.m [.tree n ds,.lst (ms.map D.int),tieD t,.int s]=some (.ok (tieD (laid n ms s t))):=by
 refine(z05 rfl).trans ?_
 have q1:=hI.1
 have q2:=hI.2.1
 have q3:=hI.2.2
 unfold evFn Bd.z3m
 have key:∀(ρ:Ev.Env)(k i:Int),ρ[0]? = some (some ⟨.tree n ds,false,.old⟩)->ρ[1]? = some (some ⟨.lst (ms.map D.int),false,.old⟩)->ρ[2]? = some (some ⟨tieD t,false,.old⟩)->ρ[3]? = some (some ⟨.int s,false,.old⟩)->ixD (tieD t) (.int k)=some (.int i)->0<=i->i<(n:Int)->evE {W0 with F:=Fl [("ring_size",z0j)]} ρ (.bin .mod (.bin .add (.ix (.var 1) (.ix (.var 2) (.int k))) (.var 3)) (.call "ring_size" [(.var 0)]))=some (.ok (.int ((at0 ms i+s)%rgI n)) .new):=λρ k i e0 e1 e2 e3 hk i0 i1=>by
  have v0:evE {W0 with F:=Fl [("ring_size",z0j)]} ρ (.var 0)=some (.ok (.tree n ds) (.cl .old)):=by(conv=>lhs;whnf);rw[e0];rfl
  have v1:evE {W0 with F:=Fl [("ring_size",z0j)]} ρ (.var 1)=some (.ok (.lst (ms.map D.int)) (.cl .old)):=by(conv=>lhs;whnf);rw[e1];rfl
  have v2:evE {W0 with F:=Fl [("ring_size",z0j)]} ρ (.var 2)=some (.ok (tieD t) .new):=by(conv=>lhs;whnf);rw[e2];rfl
  have v3:evE {W0 with F:=Fl [("ring_size",z0j)]} ρ (.var 3)=some (.ok (.int s) .new):=by(conv=>lhs;whnf);rw[e3];rfl
  exact zG1 h1 (z0t (i:=at0 ms i) (j:=s) (t:=.new) (v_ix (x:=.lst (ms.map D.int)) (y:=.int i) v1 (v_ix (x:=tieD t) (y:=.int k) v2 rfl hk) (z2D i0 (by omega))) v3 rfl) (z0c (fn:=z0j) rfl (z1M v0) (zC4 n ds) rfl)
 refine(congrArg endR (z0b (z03 (key _ 0 t.1 rfl rfl rfl rfl rfl q1 (by omega))))).trans ?_
 refine(congrArg endR (z0b (z03 (key _ 1 t.2 rfl rfl rfl rfl rfl (by omega) q3)))).trans ?_
 unfold laid
 rw[z7h]
 exact(congrArg endR (z0i (z0I (u:=.new) (zG0 (t:=.new) (u:=.new) rfl rfl) rfl))).trans rfl
theorem zG2(n:Nat)(ts:List (Int×Int))(ms:List Int)(s:Int)(h1:1<=n)(hn:n<=12)(hl:ts.length+1=n)(hm:ms.length=n)(hr:∀t∈ts,MT.InR n t):z1v.m [.tree n (ts.map tieD),.lst (ms.map D.int),.int s]=some (.ok (tiesD (copyR n ts ms s))):=by
 refine(z05 rfl).trans ?_
 unfold evFn Bd.z3n
 have hc:=z2B (W:={W0 with F:=Fl [("laid_tie",z1N)]}) (ρ:=disownAll (entsOf [] [.tree n (ts.map tieD),.lst (ms.map D.int),.int s]++List.replicate (3-[D.tree n (ts.map tieD),D.lst (ms.map D.int),D.int s].length) none)) (src:=.fld (.var 0) true) (el:=.call "laid_tie" [(.var 4),(.var 2),(.var 1),(.var 3)]) (ix:=[none,none,some 1,some 2,some 0]) (tg:=.name 1) tieD ts (λt=>tieD (laid n ms s t)) (t:=.cl .old) rfl (λt ht=>⟨_,.new,rfl,z0c (fn:=z1N) rfl (z0L (t:=.cl .old) rfl (z0L (t:=.cl .old) rfl (z0l (t:=.new) (u:=.new) rfl rfl))) (zFQ n _ ms s t h1 hm (hr t ht)) rfl,rfl⟩)
 have e:ts.map (λt=>tieD (laid n ms s t))=(ts.map (laid n ms s)).map tieD:=by rw[List.map_map];rfl
 rw[e]at hc
 have hs:=z2g (bl:=.sorted) hc (show bltD .sorted [.lst ((ts.map (laid n ms s)).map tieD)]=some (.lst ((copyR n ts ms s).map tieD))from by
  show(sortD ((ts.map (laid n ms s)).map tieD)).map D.lst=_
  rw[z3V _ (by rw[List.length_map];omega)];rfl)
 have et:tagL (.lst ((copyR n ts ms s).map tieD)) [Tag.new]= .new:=if_pos (z0V _)
 rw[et]at hs
 exact(congrArg endR (z0i (z0I (u:=.new) hs (z1b _)))).trans rfl
def rCopies(n:Nat)(ts:List (Int×Int))(ms:List Int):R:=if isortI ms=MT.g0 n then(if(MT.diffs ms ts).Nodup then .ok (.lst ((copiesF n ts ms).map tiesD))else .exc "NotGood")else .exc "BadMarks"
theorem zCc(n:Nat)(ts:List (Int×Int))(ms:List Int)(h1:1<=n)(hn:n<=12)(hl:ts.length+1=n)(hm:ms.length=n)(hr:∀t∈ts,MT.InR n t):z3d.m [.tree n (ts.map tieD),.lst (ms.map D.int)]=some (rCopies n ts ms):=by
 have hc:=i_cg n ts ms (by omega) (by omega) (by omega) hr
 refine(z05 rfl).trans ?_
 unfold evFn Bd.z5q
 unfold rCheckG at hc
 unfold rCopies
 by_cases c1:isortI ms=MT.g0 n
 ·rw[if_pos c1]at hc ⊢
  by_cases c2:(MT.diffs ms ts).Nodup
  ·rw[if_pos c2]at hc ⊢
   refine(congrArg endR (z0b (zAl (z0c (fn:=z0y) rfl (z0l (t:=.cl .old) (u:=.cl .old) rfl rfl) hc rfl)))).trans ?_
   have hh:evE {W0 with F:=Fl [("check_good",z0y),("one_copy",z1v),("ring_size",z0j)]} (disownAll (entsOf [] [.tree n (ts.map tieD),.lst (ms.map D.int)]++List.replicate (2-[D.tree n (ts.map tieD),D.lst (ms.map D.int)].length) none)) (.call "ring_size" [(.var 0)])=some (.ok (.int (rgI n)) .new):=z0c (fn:=z0j) rfl (z1M (t:=.cl .old) rfl) (zC4 n _) rfl
   have hv:=z3q (W:={W0 with F:=Fl [("check_good",z0y),("one_copy",z1v),("ring_size",z0j)]}) (ρ:=disownAll (entsOf [] [.tree n (ts.map tieD),.lst (ms.map D.int)]++List.replicate (2-[D.tree n (ts.map tieD),D.lst (ms.map D.int)].length) none)) (ix:=[none,none,some 1,some 0]) (j:=1) (lo:=.int 0) (hi:=.call "ring_size" [(.var 0)]) (tst:=none) (el:=.call "one_copy" [(.var 3),(.var 2),(.var 1)]) (m:=0) (n:=rgI n) (t:=.new) (t':=.new) (λ_=>true) (λs=>tiesD (copyR n ts ms s)) rfl hh ⟨rfl,z0k (by unfold rgI;omega) (by unfold rgI;omega),by unfold rgI;omega⟩ (λk _=>⟨_,.new,rfl,rfl,λ_=>⟨.new,z0c (fn:=z1v) rfl (z0L (t:=.cl .old) rfl (z0l (t:=.cl .old) (u:=.new) rfl rfl)) (zG2 n ts ms _ h1 hn hl hm hr) rfl,rfl⟩⟩)
   rw[z0W]at hv
   have e:((List.range (rgI n-0).toNat).map λk:Nat=>(0:Int)+(k:Int)).map (λs=>tiesD (copyR n ts ms s))=(copiesF n ts ms).map tiesD:=by
    unfold copiesF
    rw[List.map_map,List.map_map,show(rgI n-0).toNat=2*n-1 by unfold rgI;omega]
    refine List.map_congr_left λk _=>?_
    show tiesD (copyR n ts ms (0+(k:Int)))=tiesD (copyR n ts ms (k:Int))
    rw[Int.zero_add]
   rw[e]at hv
   exact(congrArg endR (z0i (z0I (u:=.new) hv (z1b _)))).trans rfl
  ·rw[if_neg c2]at hc ⊢
   exact(congrArg endR (z1z (z3o (z4d (fn:=z0y) rfl (z0l (t:=.cl .old) (u:=.cl .old) rfl rfl) hc)))).trans rfl
 ·rw[if_neg c1]at hc ⊢
  exact(congrArg endR (z1z (z3o (z4d (fn:=z0y) rfl (z0l (t:=.cl .old) (u:=.cl .old) rfl rfl) hc)))).trans rfl
def cntE(us:List (Int×Int))(m:Nat)(acc:List Int)(x3 x4:Option Ent):Ev.Env:=[some ⟨.lst (us.map tieD),false,.old⟩,some ⟨.int m,false,.old⟩,some ⟨.lst (acc.map D.int),true,.fl⟩,x3,x4]
theorem z8g(us:List (Int×Int))(m:Nat)(hu:us.length<=40)(hm:m<64):z0N.m [.lst (us.map tieD),.int m]=some (.ok (.lst ((isortI (MT.degs us m)).map D.int))):=by
 refine(z05 rfl).trans ?_
 show endR (evSs {W0 with F:=Fl []} [some ⟨.lst (us.map tieD),false,.old⟩,some ⟨.int m,false,.old⟩,none,none,none] Bd.z1H)=_
 unfold Bd.z1H
 refine(congrArg endR (z0b (z1L (ds:=[]) rfl rfl))).trans ?_
 obtain⟨ρ',l1,x3,x4,hx⟩:=z5u (body:=λρ'=>evSs {W0 with F:=Fl []} ρ' [.ext 2 (.lst [(.var 3),(.var 4)])]) (bd:=λρ' x=>bindT ρ' (Tag.cl Cl.old).el (.tup [3,4]) x) tieD
  (λacc ρ=>∃x3 x4:Option Ent,ρ=cntE us m (MT.ends acc) x3 x4) us (λacc x rest ρ hs hI=>by
   obtain⟨x3,x4,rfl⟩:=hI
   have hb:(MT.ends acc).length<=2*us.length:=by
    have:∀l:List (Int×Int),(MT.ends l).length=2*l.length:=λl=>by
     induction l with
     | nil=>rfl
     | cons t l ih=>show([t.1,t.2]++MT.ends l).length=_;rw[List.length_append,ih];simp;omega
    rw[this]
    have:=congrArg List.length hs
    simp at this;omega
   refine⟨cntE us m (MT.ends acc) (some ⟨.int x.1,false,.old⟩) (some ⟨.int x.2,false,.old⟩),_,rfl,z0o (z87 (ds:=(MT.ends acc).map D.int) (xs:=[x.1,x.2].map D.int) (c:=.fl) (c':=.fl) (t:=.new) rfl rfl rfl (by rw[List.length_map];exact Nat.le_trans (Nat.add_le_add_right hb _) (Nat.le_trans (show 2*us.length+2<=100 by omega) (by decide)))),some ⟨.int x.1,false,.old⟩,some ⟨.int x.2,false,.old⟩,?_⟩
   unfold MT.ends
   rw[List.flatMap_append,List.flatMap_singleton,<-List.map_append]
   rfl) us [] (cntE us m [] none none) rfl ⟨none,none,rfl⟩
 refine(congrArg endR (z0b ((z4K (ds:=us.map tieD) (t:=.cl .old) rfl (λ_=>nofun)).trans l1))).trans ?_
 subst hx
 have hv:=z3q (W:={W0 with F:=Fl []}) (ρ:=disownAll (cntE us m (MT.ends us) x3 x4)) (ix:=[none,none,some 2]) (j:=1) (lo:=.int 0) (hi:=.var 1) (tst:=none) (el:=.count (.var 2) (.var 1)) (m:=0) (n:=m) (t:=.new) (t':=.new) (λ_=>true) (λp=>.int ((MT.ends us).count p:Nat)) rfl rfl ⟨rfl,z0k (by omega) (by omega),by omega⟩
  (λk hk=>⟨_,.new,rfl,rfl,λ_=>⟨.new,zBT (ns:=MT.ends us) (t:=.cl .fl) (u:=.new) rfl rfl,rfl⟩⟩)
 rw[z0W]at hv
 have e:((List.range ((m:Int)-0).toNat).map λk:Nat=>(0:Int)+(k:Int)).map (λp=>D.int ((MT.ends us).count p:Nat))=(MT.degs us m).map D.int:=by
  unfold MT.degs MT.g0
  rw[List.map_map,List.map_map,List.map_map,show((m:Int)-0).toNat=m by omega]
  refine List.map_congr_left λk _=>?_
  show D.int ((MT.ends us).count (0+(k:Int)):Nat)=D.int ((MT.ends us).count (k:Int):Nat)
  rw[Int.zero_add]
 rw[e]at hv
 have hs:=z7Y (bl:=.sorted) hv (z6v (by unfold MT.degs;rw[List.length_map,MT.z0x];exact hm))
 exact(congrArg endR (z0i (z0I (u:=.new) hs (z1b _)))).trans rfl
theorem zCd{ns:List Int}{k:Nat}(h:k<=ns.length):cut (ns.map D.int) (some (k:Int)) none=(ns.drop k).map D.int:=by
 unfold cut
 have e1:sIx (ns.map D.int).length 0 (some (k:Int))=k:=by
  rw[List.length_map]
  unfold sIx
  dsimp only
  rw[if_neg (by omega),Int.toNat_natCast];omega
 have e2:sIx (ns.map D.int).length (ns.map D.int).length none=ns.length:=by rw[List.length_map];rfl
 rw[e1,e2,List.take_of_length_le (by simp),List.map_drop]
theorem zFR{W:Wd}{ρ:Ev.Env}{a b:Ex}{ns:List Int}{t u:Tag}{k:Nat}(ha:evE W ρ a=some (.ok (.lst (ns.map D.int)) t))(hb:evE W ρ b=some (.ok (.int k) u))(h:k<=ns.length):evE W ρ (.slice a (some b) none)=some (.ok (.lst ((ns.drop k).map D.int)) .new):=by
 rw[E_sl,ha]
 dsimp only[bindR,opE]
 rw[hb]
 dsimp only[bindI,bindR]
 rw[zCd h]
 exact congrArg (λt=>some (Res.ok _ t)) (if_pos (z00 _))
theorem zEk{n:Nat}{ts us:List (Int×Int)}{ms:List Int}(V:MT.Valid n ts)(E:MT.Each n ms){s:Int}(hu:us.Perm (ts.map (MT.lay n ms s))):(isortI (MT.degs us (2*n-1))).drop (n-1)=isortI (MT.degs ts n):=by
 have hp:=MT.zBV V E hu
 have e:List.replicate (n-1) 0++isortI (MT.degs ts n)=isortI (MT.degs us (2*n-1)):=by
  refine z1Y ((List.Perm.append_left _ (z0H _)).trans hp.symm) ?_
  rw[List.pairwise_append]
  refine⟨?_,z1l _,λx hx y hy=>?_⟩
  ·rw[List.pairwise_replicate];exact .inr (Int.le_refl _)
  ·rw[List.eq_of_mem_replicate hx]
   exact MT.zBW ((z0H _).mem_iff.mp hy)
 rw[<-e]
 exact List.drop_left' (List.length_replicate ..)
abbrev WV:Wd:={W0 with F:=Fl [("copies",z3d),("_law_counts",z0N)]}
def cvE(n:Nat)(ts:List (Int×Int))(ms:List Int)(P:List (Int×Int))(own:Bool)(x4 x5 x6:Option Ent):Ev.Env:=[some ⟨.tree n (ts.map tieD),false,.old⟩,some ⟨.lst (ms.map D.int),false,.old⟩,some ⟨.int (rgI n),false,.fl⟩,some ⟨.lst (P.map tieD),own,.fl⟩,x4,x5,x6]
theorem z8h(n:Nat)(ts:List (Int×Int))(ms:List Int)(V:MT.Valid n ts)(E:MT.Each n ms)(nd:(MT.diffs ms ts).Nodup)(hn:n<=12):z0B.m [.tree n (ts.map tieD),.lst (ms.map D.int)]=some (.ok (.bl true)):=by
 have hl:=V.len
 have hp:=V.pos
 have hc:=zCc n ts ms hp hn (by omega) E.len V.rg
 unfold rCopies at hc
 rw[if_pos ((MT.z6G (z0H ms) (z1l ms)).mpr E),if_pos nd]at hc
 have ln:((copiesF n ts ms).flatten).length=(2*n-1)*ts.length:=MT.z7s (n:=n) (ms:=ms) isortT z07 (2*n-1)
 have hdue:((copiesF n ts ms).flatten).Perm (MT.due (2*n-1)):=MT.zEh V E nd hn isortT z07
 have le:(2*n-1)*ts.length<=23*11:=Nat.mul_le_mul (by omega) (by omega)
 have hcp:∀us∈copiesF n ts ms,∃s:Int,us.Perm (ts.map (MT.lay n ms s)):=λus hu=>by
  unfold copiesF at hu
  obtain⟨k,_,rfl⟩:=List.mem_map.mp hu
  exact⟨(k:Int),z07 _⟩
 have hct:=z8g ts n (by omega) (by omega)
 have ern:rgI n=((2*n-1:Nat):Int):=by unfold rgI;omega
 refine(z05 rfl).trans ?_
 show endR (evSs WV [some ⟨.tree n (ts.map tieD),false,.old⟩,some ⟨.lst (ms.map D.int),false,.old⟩,none,none,none,none,none] z1J)=_
 unfold z1J
 refine(congrArg endR (z0b (z03 (zC3 (n:=n) (t:=.new) rfl)))).trans ?_
 refine(congrArg endR (z0b (z1L (ds:=[]) rfl rfl))).trans ?_
 obtain⟨ρ',l1,x4,x5,hx⟩:=z5u (body:=λρ'=>evSs WV ρ' [.asg 5 false (.slice (.call "_law_counts" [(.var 4),(.var 2)]) (some (.bin .sub (.fld (.var 0) false) (.int 1))) none),.ifs (.or (.cmp .ne (.blt .len [(.var 4)]) (.bin .sub (.fld (.var 0) false) (.int 1))) (.cmp .ne (.var 5) (.call "_law_counts" [(.fld (.var 0) true),(.fld (.var 0) false)]))) [.ret (.bl false)] [],.ext 3 (.var 4)]) (bd:=λρ' x=>bindT ρ' Tag.new.el (.name 4) x) tiesD
  (λacc ρ=>∃x4 x5:Option Ent,ρ=cvE n ts ms acc.flatten true x4 x5 none) (copiesF n ts ms) (λacc x rest ρ hs hI=>by
   obtain⟨x4,x5,rfl⟩:=hI
   have hx:x∈copiesF n ts ms:=by rw[<-hs];simp
   obtain⟨s,hxp⟩:=hcp x hx
   have lx:x.length=n-1:=by rw[hxp.length_eq,List.length_map];omega
   have hb:acc.flatten.length+x.length<=23*11:=by
    have:=ln
    rw[<-hs,List.flatten_append,List.length_append,List.flatten_cons,List.length_append]at this
    omega
   have hcx:=z8g x (2*n-1) (by omega) (by omega)
   rw[<-ern]at hcx
   have dl:(isortI (MT.degs x (2*n-1))).length=2*n-1:=by rw[(z0H _).length_eq];unfold MT.degs;rw[List.length_map,MT.z0x]
   have ek:∀ρ:Ev.Env,ρ[0]? = some (some ⟨.tree n (ts.map tieD),false,.old⟩)->evE WV ρ (.bin .sub (.fld (.var 0) false) (.int 1))=some (.ok (.int ((n-1:Nat):Int)) .new):=λρ h0=>by
    have v0:evE WV ρ (.var 0)=some (.ok (.tree n (ts.map tieD)) (.cl .old)):=by(conv=>lhs;whnf);rw[h0];rfl
    have v1:evE WV ρ (.fld (.var 0) false)=some (.ok (.int n) .new):=by(conv=>lhs;whnf);rw[v0]
    exact z0t v1 (j:=1) (u:=.new) rfl (by show some (D.int ((n:Int)-1))=_;congr 2;omega)
   have s1:=zFR (W:=WV) (ρ:=cvE n ts ms acc.flatten true (some ⟨tiesD x,false,.fl⟩) x5 none) (a:=.call "_law_counts" [(.var 4),(.var 2)]) (z0c (fn:=z0N) rfl (z0l (t:=.cl .fl) (u:=.new) rfl rfl) hcx rfl) (ek _ rfl) (by rw[dl];omega)
   rw[zEk V E hxp]at s1
   have c2:=v_or (W:=WV) (ρ:=cvE n ts ms acc.flatten true (some ⟨tiesD x,false,.fl⟩) (some ⟨.lst ((isortI (MT.degs ts n)).map D.int),false,.fl⟩) none) (c:=false) (c':=false) (t:=.new) (z09 (op:=.ne) (x:=.int (x.map tieD).length) (a:=.blt .len [(.var 4)]) (b:=.bin .sub (.fld (.var 0) false) (.int 1)) (z4s (t:=.cl .fl) rfl) (ek _ rfl) (zAq (by rw[List.length_map,lx]))) λ_=>z09 (op:=.ne) (a:=.var 5) (b:=.call "_law_counts" [(.fld (.var 0) true),(.fld (.var 0) false)]) (x:=.lst ((isortI (MT.degs ts n)).map D.int)) (y:=.lst ((isortI (MT.degs ts n)).map D.int)) (t:=.cl .fl) rfl (z0c (fn:=z0N) rfl (z0l (t:=.cl .old) (u:=.new) rfl rfl) hct rfl) (by
    show(eqD (.lst ((isortI (MT.degs ts n)).map D.int)) (.lst ((isortI (MT.degs ts n)).map D.int))).map (!·)=_
    rw[z7X,decide_eq_true rfl];rfl)
   refine⟨cvE n ts ms acc.flatten true (some ⟨tiesD x,false,.fl⟩) x5 none,cvE n ts ms (acc++[x]).flatten true (some ⟨tiesD x,false,.fl⟩) (some ⟨.lst ((isortI (MT.degs ts n)).map D.int),false,.fl⟩) none,rfl,(z0b (z03 s1)).trans ((z0b ((z1B c2).trans rfl)).trans (z0o ((z87 (ds:=acc.flatten.map tieD) (xs:=x.map tieD) (c:=.fl) (c':=.fl) (t:=.cl .fl) rfl rfl ?_ (by rw[List.length_map,List.length_map];exact Nat.le_trans hb (by decide))).trans ?_))),_,_,rfl⟩
   ·unfold rts;rw[if_pos (z0V _)];rfl
   ·rw[List.flatten_append,List.flatten_singleton,<-List.map_append]
    rfl) (copiesF n ts ms) [] (cvE n ts ms [] true none none none) rfl ⟨none,none,rfl⟩
 refine(congrArg endR (z0b ((z4K (ds:=(copiesF n ts ms).map tiesD) (t:=.new) (z0c (fn:=z3d) rfl (z0l (t:=.cl .old) (u:=.cl .old) rfl rfl) hc rfl) (λ_=>nofun)).trans l1))).trans ?_
 subst hx
 have hsort:isortT (copiesF n ts ms).flatten=MT.due (2*n-1):=(z1Z hdue.symm ((MT.z4O _).imp λ{a b}q=>q.le)).symm
 generalize (copiesF n ts ms).flatten=P at ln hsort
 refine(congrArg endR (z0b (z1L (ds:=[]) rfl rfl))).trans ?_
 have rl:∀k:Nat,(((MT.g0 k).map (MT.dueRow (2*n-1))).flatten).length<=k*24:=λk=>by
  induction k with
  | zero=>exact Nat.le_refl _
  | succ k ih=>
   rw[MT.z4P,List.map_append,List.flatten_append,List.length_append]
   have:(((([(k:Int)]:List Int).map (MT.dueRow (2*n-1))).flatten).length)<=24:=by
    rw[List.map_singleton,List.flatten_singleton];unfold MT.dueRow;rw[List.length_map,List.length_range];omega
   omega
 obtain⟨ρ',l2,h2⟩:=z2l (body:=λρ'=>evSs WV ρ' [.ext 6 (.compR [none,none,some 4] 1 (.bin .add (.var 4) (.int 1)) (.var 2) none (.tup [(.var 2),(.var 1)]))]) (bd:=λρ' x=>bindT ρ' .new (.name 4) x)
  (λk ρ=>∃y4,ρ=cvE n ts ms P true y4 x5 (some ⟨.lst (((MT.g0 k.toNat).map (MT.dueRow (2*n-1))).flatten.map tieD),true,.fl⟩)) (2*n-1) 0 (cvE n ts ms P true x4 x5 (some ⟨.lst [],true,.fl⟩)) ⟨x4,rfl⟩ λk ρ hk0 hk1 hI=>by
   obtain⟨y4,hρ⟩:=hI
   rw[hρ]
   obtain⟨j,rfl⟩:=Int.eq_ofNat_of_zero_le hk0
   rw[Int.toNat_natCast,show((j:Int)+1).toNat=j+1 from rfl]
   have hv:=z3q (W:=WV) (ρ:=cvE n ts ms P true (some ⟨.int j,false,.fl⟩) x5 (some ⟨.lst (((MT.g0 j).map (MT.dueRow (2*n-1))).flatten.map tieD),true,.fl⟩)) (ix:=[none,none,some 4]) (j:=1) (lo:=.bin .add (.var 4) (.int 1)) (hi:=.var 2) (tst:=none) (el:=.tup [(.var 2),(.var 1)]) (m:=(j:Int)+1) (n:=rgI n) (t:=.new) (t':=.new) (λ_=>true) (λp=>tieD ((j:Int),p)) rfl rfl ⟨z0k (by omega) (by omega),z0k (by unfold rgI;omega) (by unfold rgI;omega),by unfold rgI;omega⟩
    (λk hk=>⟨_,.new,rfl,rfl,λ_=>⟨.new,rfl,rfl⟩⟩)
   rw[z0W]at hv
   have e:((List.range (rgI n-((j:Int)+1)).toNat).map λk:Nat=>((j:Int)+1)+(k:Int)).map (λp=>tieD ((j:Int),p))=(MT.dueRow (2*n-1) (j:Int)).map tieD:=by
    unfold MT.dueRow
    rw[List.map_map,List.map_map,ern]
    rfl
   rw[e]at hv
   have hj:=rl j
   have hj1:(MT.dueRow (2*n-1) (j:Int)).length<=24:=by unfold MT.dueRow;rw[List.length_map,List.length_range];omega
   refine⟨cvE n ts ms P true (some ⟨.int j,false,.fl⟩) x5 (some ⟨.lst (((MT.g0 j).map (MT.dueRow (2*n-1))).flatten.map tieD),true,.fl⟩),cvE n ts ms P true (some ⟨.int j,false,.fl⟩) x5 (some ⟨.lst (((MT.g0 (j+1)).map (MT.dueRow (2*n-1))).flatten.map tieD),true,.fl⟩),rfl,z0o ((z87 (ds:=((MT.g0 j).map (MT.dueRow (2*n-1))).flatten.map tieD) (c:=.fl) (c':=.fl) (t:=.new) rfl hv ?_ (by rw[List.length_map,List.length_map];exact Nat.le_trans (Nat.add_le_add hj hj1) (Nat.le_trans (show j*24+24<=1000 by omega) (by decide)))).trans ?_),⟨_,rfl⟩⟩
   ·unfold rts;rw[if_pos (z0V _)];rfl
   ·rw[MT.z4P,List.map_append,List.flatten_append,List.map_singleton,List.flatten_singleton,<-List.map_append];rfl
 obtain⟨y4,rfl⟩:=h2
 rw[Int.zero_add,Int.toNat_natCast]at l2
 refine(congrArg endR (z0b ((z2Z (m:=0) (n:=rgI n) (t:=.new) (t':=.new) rfl rfl ⟨rfl,z0k (by unfold rgI;omega) (by unfold rgI;omega)⟩).trans (by rw[Int.sub_zero,ern,Int.toNat_natCast];exact l2)))).trans ?_
 have hs:=z2g (W:=WV) (ρ:=disownAll (cvE n ts ms P true y4 x5 (some ⟨.lst ((MT.due (2*n-1)).map tieD),true,.fl⟩))) (bl:=.sorted) (a:=.var 3) (x:=.lst (P.map tieD)) (t:=.cl .fl) rfl (show bltD .sorted [.lst (P.map tieD)]=some (.lst ((isortT P).map tieD))from by
  show(sortD (P.map tieD)).map D.lst=_
  rw[z8x _ (by omega)];rfl)
 have et:tagL (.lst ((isortT P).map tieD)) [Tag.cl .fl]= .new:=if_pos (z0V _)
 rw[et,hsort]at hs
 exact(congrArg endR (z0i (z0I (d:=.bl true) (u:=.new) (z09 (op:=.eq) (y:=.lst ((MT.due (2*n-1)).map tieD)) (u:=.cl .fl) hs rfl (by
  show eqD (.lst ((MT.due (2*n-1)).map tieD)) (.lst ((MT.due (2*n-1)).map tieD))=_
  rw[zBK,decide_eq_true rfl])) rfl))).trans rfl
abbrev WL:Wd:={W0 with F:=Fl [("_law_cell_at",z0h),("_law_comb_by",z0C),("Tree",z4f),("comb_marks",z0A),("_law_tree_by",z0D),("markings",z1u),("_law_covers",z0B),("turned",z21)]}
def lE(ns:List Int)(o1 o2 o3 o4 o5 o6:Option Ent):Ev.Env:=[some ⟨.scr ns,false,.old⟩,o1,o2,o3,o4,o5,o6]
abbrev fE(d:D):Option Ent:=some ⟨d,false,.fl⟩
theorem zAL(ns:List Int){n:Nat}{ts:List (Int×Int)}{ms:List Int}(V:MT.Valid n ts)(G:MT.Gd n ts ms)(hn:n<=12)(o1 o2 o3 o6:Option Ent):endR (evSs WL (lE ns o1 o2 o3 (fE (.tree n (ts.map tieD))) (fE (.lst (ms.map D.int))) o6) [.ret (.and (.call "_law_covers" [(.var 4),(.var 5)]) (.call "_law_covers" [(.var 4),(.call "turned" [(.var 4),(.var 5)])]))])=some (.ok (.bl true)):=by
 have G':=MT.zEe V.rg G
 have ht:=zCb ts G.1 hn
 exact(congrArg endR (z0i (z0I (d:=.bl true) (u:=.new) (z89 (c:=true) (c':=true) (t:=.new) (z0c (fn:=z0B) rfl (z0l (t:=.cl .fl) (u:=.cl .fl) rfl rfl) (z8h n ts ms V G.1 G.2 hn) rfl) λ_=>z0c (fn:=z0B) rfl (z0l (t:=.cl .fl) (u:=.new) rfl (z0c (fn:=z21) rfl (z0l (t:=.cl .fl) (u:=.cl .fl) rfl rfl) ht rfl)) (z8h n ts _ V G'.1 G'.2 hn) rfl) rfl))).trans rfl
theorem z53(ns:List Int)(h:ns.length<=63):zBY.m [.scr ns]=some (.ok (.bl true)):=by
 refine(z05 rfl).trans ?_
 have iC:HasCell {W0 with F:=Fl [("_law_cell_at",z0h),("_law_mix",z15)]}:=⟨z0h,rfl,rfl,zC2⟩
 have iM:HasMix {W0 with F:=Fl [("_law_cell_at",z0h),("_law_mix",z15)]}:=⟨z15,rfl,rfl,zFM⟩
 obtain⟨c,hcell⟩:=zC2 ns 6 (by decide)
 obtain⟨n1,ts1,V1,⟨nm,us,el,hh,hE,hu,hl,L⟩,p1,a1,hc1⟩:=z8C _ iC iM ns 0 12 (by decide) (by decide) (by decide)
 replace hc1:z0C.m [.scr ns,.int 0,.int 12]=_:=(z05 rfl).trans hc1
 obtain⟨HI,LO,C,hcm⟩:=(zEj n1 ts1 V1 (by omega)).2 (MT.Eld.comb V1.1 hE hu hl L)
 clear L hl hu hE
 have E1:=C.parts.each
 have g1:=C.good
 generalize MT.combM n1 HI LO=m1 at hcm E1 g1
 have hT1:=zC1 n1 ts1 V1.1 (by omega)
 show endR (evSs WL (lE ns none none none none none none) zBX)=_
 unfold zBX
 refine(congrArg endR (z0b (z03 (z0c (fn:=z0h) rfl (z0l (t:=.new) (u:=.new) rfl rfl) hcell rfl)))).trans ?_
 refine(congrArg endR (z0b (zCz (z0c (fn:=z0C) rfl (z0L (t:=.new) rfl (z0l (t:=.new) (u:=.new) rfl rfl)) hc1 rfl)))).trans ?_
 refine(congrArg endR (z0b (z03 (z0c (fn:=z4f) rfl (z0l (t:=.new) (u:=.cl .fl) rfl rfl) hT1 rfl)))).trans ?_
 have hcond:∀o2 o3 o4 o5 o6,evE WL (lE ns (fE (.int c)) o2 o3 o4 o5 o6) (.cmp .eq (.bin .mod (.var 1) (.int 2)) (.int 0))=some (.ok (.bl (decide (c%2=0))) .new):=λo2 o3 o4 o5 o6=>z09 (op:=.eq) (x:=.int (c%2)) (y:=.int 0) (t:=.new) (u:=.new) (z0t (i:=c) (j:=2) (t:=.new) (u:=.new) rfl rfl rfl) rfl rfl
 by_cases hc:c%2=0
 ·rw[decide_eq_true hc]at hcond
  refine(congrArg endR (z0b ((z2Y (hcond _ _ _ _ _)).trans (z0o (z03 (z0c (fn:=z0A) rfl (z1M (t:=.cl .fl) rfl) hcm rfl)))))).trans ?_
  exact zAL ns V1.1 ⟨E1,g1⟩ (by omega) (fE (.int c)) (fE (.int n1)) (fE (.lst (ts1.map tieD))) none
 ·rw[decide_eq_false hc]at hcond
  obtain⟨n2,ts2,V2,p2,a2,hc2⟩:=zAt _ iC iM ns 0 7 (by decide) (by decide) (by decide)
  replace hc2:z0D.m [.scr ns,.int 0,.int 7]=_:=(z05 rfl).trans hc2
  have hT2:=zC1 n2 ts2 V2.1 (by omega)
  have mA:=z8E V2.1 (by omega:n2<=7)
  have hmem:∀r,r∈MT.allF n2 ts2 n2↔MT.Gd n2 ts2 r:=λr=>MT.zEd V2.1.rg
  generalize MT.allF n2 ts2 n2=S at mA hmem
  have b1:=zCz (i:=2) (j:=3) (z0c (W:=WL) (ρ:=lE ns (fE (.int c)) (fE (.int n1)) (fE (.lst (ts1.map tieD))) (fE (.tree n1 (ts1.map tieD))) none none) (f:="_law_tree_by") (es:=[(.var 0),(.int 0),(.int 7)]) (fn:=z0D) rfl (z0L (t:=.new) rfl (z0l (t:=.new) (u:=.new) rfl rfl)) hc2 rfl)
  have b2:=z03 (i:=4) (z0c (W:=WL) (ρ:=lE ns (fE (.int c)) (fE (.int n2)) (fE (.lst (ts2.map tieD))) (fE (.tree n1 (ts1.map tieD))) none none) (f:="Tree") (es:=[(.var 2),(.var 3)]) (fn:=z4f) rfl (z0l (t:=.new) (u:=.cl .fl) rfl rfl) hT2 rfl)
  have b3:=z03 (i:=6) (z0c (W:=WL) (ρ:=lE ns (fE (.int c)) (fE (.int n2)) (fE (.lst (ts2.map tieD))) (fE (.tree n2 (ts2.map tieD))) none none) (f:="markings") (es:=[(.var 4)]) (fn:=z1u) rfl (z1M (t:=.cl .fl) rfl) mA rfl)
  have hlen:evE WL (lE ns (fE (.int c)) (fE (.int n2)) (fE (.lst (ts2.map tieD))) (fE (.tree n2 (ts2.map tieD))) none (fE (.lst (S.map rowD)))) (.blt .len [(.var 6)])=some (.ok (.int S.length) .new):=(z4s (t:=.cl .fl) rfl).trans (by rw[List.length_map])
  have c4:=z09 (op:=.eq) (b:=.int 0) (y:=.int 0) (u:=.new) hlen rfl (show cmpD .eq (.int (S.length:Int)) (.int 0)=some (decide ((S.length:Int)=0))from rfl)
  by_cases hS:S.length=0
  ·rw[decide_eq_true (by omega)]at c4
   refine(congrArg endR (z0i ((z1B (hcond _ _ _ _ _)).trans ((z0b b1).trans ((z0b b2).trans ((z0b b3).trans (z0i ((z2Y c4).trans (z0i (z0I (d:=.bl true) (u:=.new) rfl rfl)))))))))).trans rfl
  ·rw[decide_eq_false (by omega)]at c4
   have hk0:=Int.emod_nonneg (c/2) (show(S.length:Int)≠0 by omega)
   have hk1:=Int.emod_lt_of_pos (c/2) (show(0:Int)<S.length by omega)
   obtain⟨k,hk⟩:=Int.eq_ofNat_of_zero_le hk0
   have hkl:k<S.length:=by omega
   have hr:S[k]? = some S[k]:=List.getElem?_eq_getElem hkl
   have G:=(hmem S[k]).mp (List.getElem_mem hkl)
   generalize S[k]=r at hr G
   have e5:evE WL (lE ns (fE (.int c)) (fE (.int n2)) (fE (.lst (ts2.map tieD))) (fE (.tree n2 (ts2.map tieD))) none (fE (.lst (S.map rowD)))) (.bin .mod (.bin .fdiv (.var 1) (.int 2)) (.blt .len [(.var 6)]))=some (.ok (.int k) .new):=z0t (i:=c/2) (j:=S.length) (t:=.new) (u:=.new) (z0t (i:=c) (j:=2) (t:=.new) (u:=.new) rfl rfl rfl) hlen (by
    simp only[binD,onZ_int]
    rw[if_pos (by omega),hk])
   have e6:=v_ix (x:=.lst (S.map rowD)) (t:=.cl .fl) (rfl:evE WL (lE ns (fE (.int c)) (fE (.int n2)) (fE (.lst (ts2.map tieD))) (fE (.tree n2 (ts2.map tieD))) none (fE (.lst (S.map rowD)))) (.var 6)=_) e5 (z1i (j:=k) (v:=rowD r) (by rw[List.getElem?_map,hr];rfl))
   have b5:evS WL (lE ns (fE (.int c)) (fE (.int n2)) (fE (.lst (ts2.map tieD))) (fE (.tree n2 (ts2.map tieD))) none (fE (.lst (S.map rowD)))) (.asg 5 false (.ix (.var 6) (.bin .mod (.bin .fdiv (.var 1) (.int 2)) (.blt .len [(.var 6)]))))=some (.nx (lE ns (fE (.int c)) (fE (.int n2)) (fE (.lst (ts2.map tieD))) (fE (.tree n2 (ts2.map tieD))) (fE (.lst (r.map D.int))) (fE (.lst (S.map rowD))))):=by
    (conv=>lhs;whnf)
    rw[e6]
    rfl
   refine(congrArg endR (z0b ((z1B (hcond _ _ _ _ _)).trans ((z0b b1).trans ((z0b b2).trans ((z0b b3).trans ((z0b ((z1B c4).trans rfl)).trans (z0o b5)))))))).trans ?_
   exact zAL ns V2.1 G (by omega) (fE (.int c)) (fE (.int n2)) (fE (.lst (ts2.map tieD))) (fE (.lst (S.map rowD)))
end K08
def PySem.W.Fast.tw9780050951046946310:Nat:=0
def PySem.W.Fast.tw14329209432781956920:Nat:=0
def PySem.W.Fast.tw7428835233354376288:Nat:=0
def PySem.W.Fast.tw8287448055417908439:Nat:=0
def PySem.W.Fast.tw889570223573038365:Nat:=0
def PySem.W.Fast.tw9508616878561652762:Nat:=0
def PySem.W.Fast.tw1215206932391655750:Nat:=0
def PySem.W.Fast.tw7592210567183572318:Nat:=0
def PySem.W.Fast.tw13178350984289749718:Nat:=0
def PySem.W.Fast.tw5349488183798818371:Nat:=0
def PySem.W.Fast.tw4720958789828676790:Nat:=0
def PySem.W.Fast.tw47588913393219047:Nat:=0
def PySem.W.Fast.tw9810954148941648589:Nat:=0
def PySem.W.Fast.tw16735639667734174828:Nat:=0
def PySem.W.Fast.tw12004076498925586064:Nat:=0
def PySem.W.Fast.tw1812615607166715328:Nat:=0
def PySem.W.Fast.tw6840236350387640919:Nat:=0
def PySem.W.Fast.tw5813754730069983244:Nat:=0
def PySem.W.Fast.tw2420613991687265685:Nat:=0
def PySem.W.Fast.tw17562255965450879796:Nat:=0
def PySem.W.Fast.tw4677694745395315573:Nat:=0
def PySem.W.Fast.tw7517350482708747420:Nat:=0
def PySem.W.Fast.tw7879813012542771739:Nat:=0
def PySem.W.Fast.tw13733593285508728886:Nat:=0
namespace K08
open PySem L2 Ev
def top(i:Nat):Stmt:=PySem.Challenge.pw_markedties_k08_whole_each_pair_once.main.body.getD i (.Pass ⟨0,0,0,0⟩)
abbrev z66:Stmt:=inClass (top 23) 0
theorem zEl:InitOk z66:=⟨⟨rfl,rfl,rfl,by decide +kernel,rfl,by decide +kernel,by decide +kernel⟩,⟨_,_,_,_,_,_,_,_,_,_,_,_,_,_,_,rfl⟩,rfl,rfl,rfl,rfl,rfl⟩
abbrev z0Q:Stmt:=top 40
theorem z4u:FnScope ["script","k"] ["script","k"] (defScope z0Q):=⟨rfl,rfl,rfl,by decide +kernel,rfl,by decide +kernel,by decide +kernel⟩
theorem z4v:trs (trS true 30 ["script","k"] (defScope z0Q).names []) (defBody z0Q)=some Bd.z1o:=by kernel_rfl
abbrev z2o:Stmt:=top 41
theorem z8F:FnScope ["cell","k","many","some","stir"] ["cell","k","many"] (defScope z2o):=⟨rfl,rfl,rfl,by decide +kernel,rfl,by decide +kernel,by decide +kernel⟩
theorem z8G:trs (trS true 30 ["cell","k","many","some","stir"] (defScope z2o).names []) (defBody z2o)=some Bd.z2U:=by kernel_rfl
abbrev z0R:Stmt:=top 43
theorem z4w:FnScope ["script","base","most","cell","many","names","k","ties","here","one","two"] ["script","base","most"] (defScope z0R):=⟨rfl,rfl,rfl,by decide +kernel,rfl,by decide +kernel,by decide +kernel⟩
theorem z4x:trs (trS true 30 ["script","base","most","cell","many","names","k","ties","here","one","two"] (defScope z0R).names ["names","ties"]) (defBody z0R)=some Bd.z1s:=by kernel_rfl
abbrev z17:Stmt:=top 20
theorem z67:FnScope ["ties"] ["ties"] (defScope z17):=⟨rfl,rfl,rfl,by decide +kernel,rfl,by decide +kernel,by decide +kernel⟩
theorem z68:trs (trS true 30 ["ties"] (defScope z17).names []) (defBody z17)=some Bd.z2b:=by kernel_rfl
abbrev z1O:Stmt:=top 21
theorem z7v:FnScope ["many","ties","groups","tie","kept","gone"] ["many","ties"] (defScope z1O):=⟨rfl,rfl,rfl,by decide +kernel,rfl,by decide +kernel,by decide +kernel⟩
theorem z7w:trs (trS true 30 ["many","ties","groups","tie","kept","gone"] (defScope z1O).names []) (defBody z1O)=some Bd.z2y:=by kernel_rfl
abbrev z3e:Stmt:=top 19
theorem zAM:FnScope ["many","tie"] ["many","tie"] (defScope z3e):=⟨rfl,rfl,rfl,by decide +kernel,rfl,by decide +kernel,by decide +kernel⟩
theorem zAN:trs (trS true 30 ["many","tie"] (defScope z3e).names []) (defBody z3e)=some Bd.z36:=by kernel_rfl
abbrev z1c:Stmt:=top 22
theorem z54:FnScope ["many","ties"] ["many","ties"] (defScope z1c):=⟨rfl,rfl,rfl,by decide +kernel,rfl,by decide +kernel,by decide +kernel⟩
theorem z55:trs (trS true 30 ["many","ties"] (defScope z1c).names []) (defBody z1c)=some Bd.z1E:=by kernel_rfl
abbrev z1d:Stmt:=top 24
theorem z56:FnScope ["tree","place","lower","higher"] ["tree","place"] (defScope z1d):=⟨rfl,rfl,rfl,by decide +kernel,rfl,by decide +kernel,by decide +kernel⟩
theorem z57:trs (trS true 30 ["tree","place","lower","higher"] (defScope z1d).names []) (defBody z1d)=some Bd.z1F:=by kernel_rfl
abbrev z0E:Stmt:=top 26
theorem z4h:FnScope ["tree"] ["tree"] (defScope z0E):=⟨rfl,rfl,rfl,by decide +kernel,rfl,by decide +kernel,by decide +kernel⟩
theorem z4i:trs (trS true 30 ["tree"] (defScope z0E).names []) (defBody z0E)=some Bd.z0Z:=by kernel_rfl
abbrev z0w:Stmt:=top 27
theorem z2F:FnScope ["tree","place","inner"] ["tree","place"] (defScope z0w):=⟨rfl,rfl,rfl,by decide +kernel,rfl,by decide +kernel,by decide +kernel⟩
theorem z2G:trs (trS true 30 ["tree","place","inner"] (defScope z0w).names []) (defBody z0w)=some Bd.z04:=by kernel_rfl
abbrev z2p:Stmt:=top 29
theorem z8H:FnScope ["tree","place"] ["tree"] (defScope z2p):=⟨rfl,rfl,rfl,by decide +kernel,rfl,by decide +kernel,by decide +kernel⟩
theorem z8I:trs (trS true 30 ["tree","place"] (defScope z2p).names []) (defBody z2p)=some Bd.z2X:=by kernel_rfl
abbrev z18:Stmt:=top 30
theorem z69:FnScope ["tree","row","onward"] ["tree"] (defScope z18):=⟨rfl,rfl,rfl,by decide +kernel,rfl,by decide +kernel,by decide +kernel⟩
theorem z6A:trs (trS true 30 ["tree","row","onward"] (defScope z18).names ["row"]) (defBody z18)=some Bd.z2d:=by kernel_rfl
abbrev z4j:Stmt:=top 31
theorem zCe:FnScope ["tree","row","high","low","k","hanging","met"] ["tree"] (defScope z4j):=⟨rfl,rfl,rfl,by decide +kernel,rfl,by decide +kernel,by decide +kernel⟩
theorem zCf:trs (trS true 30 ["tree","row","high","low","k","hanging","met"] (defScope z4j).names ["high","low"]) (defBody z4j)=some Bd.z5p:=by kernel_rfl
abbrev z2q:Stmt:=top 28
theorem z8J:FnScope ["tree"] ["tree"] (defScope z2q):=⟨rfl,rfl,rfl,by decide +kernel,rfl,by decide +kernel,by decide +kernel⟩
theorem z8K:trs (trS true 30 ["tree"] (defScope z2q).names []) (defBody z2q)=some Bd.z2W:=by kernel_rfl
abbrev z1e:Stmt:=top 32
theorem z58:FnScope ["tree","parts","marks","k"] ["tree"] (defScope z1e):=⟨rfl,rfl,rfl,by decide +kernel,rfl,by decide +kernel,by decide +kernel⟩
theorem z59:trs (trS true 30 ["tree","parts","marks","k"] (defScope z1e).names ["marks"]) (defBody z1e)=some Bd.z1a:=by kernel_rfl
abbrev z0S:Stmt:=top 42
theorem z4y:FnScope ["script","base","most","cell","many","way","names","k","ties","elder","one","two"] ["script","base","most"] (defScope z0S):=⟨rfl,rfl,rfl,by decide +kernel,rfl,by decide +kernel,by decide +kernel⟩
theorem z4z:trs (trS true 30 ["script","base","most","cell","many","way","names","k","ties","elder","one","two"] (defScope z0S).names ["names","ties"]) (defBody z0S)=some Bd.z1p:=by kernel_rfl
abbrev z4k:Stmt:=top 36
theorem zCg:FnScope ["back","begun","met","told","mark","grown"] ["back","begun","met"] (defScope z4k):=⟨rfl,rfl,rfl,by decide +kernel,rfl,by decide +kernel,by decide +kernel⟩
theorem zCh:trs (trS true 30 ["back","begun","met","told","mark","grown"] (defScope z4k).names ["told"]) (defBody z4k)=some Bd.z5o:=by kernel_rfl
abbrev z1P:Stmt:=top 37
theorem z7x:FnScope ["back","begun","met","found","step"] ["back","begun","met"] (defScope z1P):=⟨rfl,rfl,rfl,by decide +kernel,rfl,by decide +kernel,by decide +kernel⟩
theorem z7y:trs (trS true 30 ["back","begun","met","found","step"] (defScope z1P).names ["found"]) (defBody z1P)=some Bd.z2z:=by kernel_rfl
abbrev z0s:Stmt:=top 34
theorem z22:FnScope ["tree","place"] ["tree","place"] (defScope z0s):=⟨rfl,rfl,rfl,by decide +kernel,rfl,by decide +kernel,by decide +kernel⟩
theorem z23:trs (trS true 30 ["tree","place"] (defScope z0s).names []) (defBody z0s)=some Bd.z02:=by kernel_rfl
abbrev z19:Stmt:=top 35
theorem z6B:FnScope ["tree"] ["tree"] (defScope z19):=⟨rfl,rfl,rfl,by decide +kernel,rfl,by decide +kernel,by decide +kernel⟩
theorem z6C:trs (trS true 30 ["tree"] (defScope z19).names []) (defBody z19)=some Bd.z2c:=by kernel_rfl
abbrev z1Q:Stmt:=top 38
theorem z7z:FnScope ["tree"] ["tree"] (defScope z1Q):=⟨rfl,rfl,rfl,by decide +kernel,rfl,by decide +kernel,by decide +kernel⟩
theorem z70:trs (trS true 30 ["tree"] (defScope z1Q).names []) (defBody z1Q)=some Bd.z3l:=by kernel_rfl
abbrev z0T:Stmt:=top 7
theorem z40:FnScope ["tree","marks"] ["tree","marks"] (defScope z0T):=⟨rfl,rfl,rfl,by decide +kernel,rfl,by decide +kernel,by decide +kernel⟩
theorem z41:trs (trS true 30 ["tree","marks"] (defScope z0T).names []) (defBody z0T)=some Bd.z1q:=by kernel_rfl
abbrev z0U:Stmt:=top 8
theorem z42:FnScope ["tree","marks"] ["tree","marks"] (defScope z0U):=⟨rfl,rfl,rfl,by decide +kernel,rfl,by decide +kernel,by decide +kernel⟩
theorem z43:trs (trS true 30 ["tree","marks"] (defScope z0U).names []) (defBody z0U)=some Bd.z1r:=by kernel_rfl
abbrev z2r:Stmt:=top 9
theorem z8L:FnScope ["tree","marks","found"] ["tree","marks"] (defScope z2r):=⟨rfl,rfl,rfl,by decide +kernel,rfl,by decide +kernel,by decide +kernel⟩
theorem z8M:trs (trS true 30 ["tree","marks","found"] (defScope z2r).names []) (defBody z2r)=some Bd.z2V:=by kernel_rfl
abbrev z1f:Stmt:=top 10
theorem z5A:FnScope ["tree","marks"] ["tree","marks"] (defScope z1f):=⟨rfl,rfl,rfl,by decide +kernel,rfl,by decide +kernel,by decide +kernel⟩
theorem z5B:trs (trS true 30 ["tree","marks"] (defScope z1f).names []) (defBody z1f)=some Bd.z1G:=by kernel_rfl
abbrev z1A:Stmt:=top 13
theorem z6D:FnScope ["tree"] ["tree"] (defScope z1A):=⟨rfl,rfl,rfl,by decide +kernel,rfl,by decide +kernel,by decide +kernel⟩
theorem z6E:trs (trS true 30 ["tree"] (defScope z1A).names []) (defBody z1A)=some Bd.z29:=by kernel_rfl
abbrev z1R:Stmt:=top 14
theorem z71:FnScope ["tree","marks","tie","shift","one","two"] ["tree","marks","tie","shift"] (defScope z1R):=⟨rfl,rfl,rfl,by decide +kernel,rfl,by decide +kernel,by decide +kernel⟩
theorem z72:trs (trS true 30 ["tree","marks","tie","shift","one","two"] (defScope z1R).names []) (defBody z1R)=some Bd.z3m:=by kernel_rfl
abbrev z1S:Stmt:=top 15
theorem z73:FnScope ["tree","marks","shift"] ["tree","marks","shift"] (defScope z1S):=⟨rfl,rfl,rfl,by decide +kernel,rfl,by decide +kernel,by decide +kernel⟩
theorem z74:trs (trS true 30 ["tree","marks","shift"] (defScope z1S).names []) (defBody z1S)=some Bd.z3n:=by kernel_rfl
abbrev z3f:Stmt:=top 16
theorem zAO:FnScope ["tree","marks"] ["tree","marks"] (defScope z3f):=⟨rfl,rfl,rfl,by decide +kernel,rfl,by decide +kernel,by decide +kernel⟩
theorem zAP:trs (trS true 30 ["tree","marks"] (defScope z3f).names []) (defBody z3f)=some Bd.z5q:=by kernel_rfl
abbrev z1g:Stmt:=top 44
theorem z5C:FnScope ["ties","size","ends","one","two"] ["ties","size"] (defScope z1g):=⟨rfl,rfl,rfl,by decide +kernel,rfl,by decide +kernel,by decide +kernel⟩
theorem z5D:trs (trS true 30 ["ties","size","ends","one","two"] (defScope z1g).names ["ends"]) (defBody z1g)=some Bd.z1H:=by kernel_rfl
abbrev z1h:Stmt:=top 45
theorem z5E:FnScope ["tree","marks","size","pairs","one","told","due"] ["tree","marks"] (defScope z1h):=⟨rfl,rfl,rfl,by decide +kernel,rfl,by decide +kernel,by decide +kernel⟩
theorem z5F:trs (trS true 30 ["tree","marks","size","pairs","one","told","due"] (defScope z1h).names ["due","pairs"]) (defBody z1h)=some z1J:=by kernel_rfl
abbrev z3g:Stmt:=top 11
theorem zAQ:FnScope ["tree","marks"] ["tree","marks"] (defScope z3g):=⟨rfl,rfl,rfl,by decide +kernel,rfl,by decide +kernel,by decide +kernel⟩
theorem zAR:trs (trS true 30 ["tree","marks"] (defScope z3g).names []) (defBody z3g)=some Bd.z5n:=by kernel_rfl
abbrev z6F:Stmt:=top 46
theorem zFS:FnScope ["script","cell","many","ties","tree","marks","some"] ["script"] (defScope z6F):=⟨rfl,rfl,rfl,by decide +kernel,rfl,by decide +kernel,by decide +kernel⟩
theorem zFT:trs (trS true 30 ["script","cell","many","ties","tree","marks","some"] (defScope z6F).names []) (defBody z6F)=some zBX:=by kernel_rfl
theorem zFU(z53:∀ns:List Int,ns.length<=63->zBY.m [.scr ns]=some (.ok (.bl true))){l:PySem.W.OpenLaw}{w:World}{K:PySem.W.Frag}{h:Heap}{mg:Str->Option Value}{fa C fI f0 f1 f2 f3 f4 f5 f6 f7 f8 f9 f10 f11 f12 f13 f14 f15 f16 f17 f18 f19 f20 f21 f22 f23 f24 f25 f26 f27 f28 f29 f30 f31 f32 X0 X1 X2 X3:Addr}(X:K.In h)(G:h.Ns mainGlobals mg)(hfa:mg "law"=some (.ref fa))
  (h0:Hd K "_law_cell_at" z0Q f0)
  (h1:Hd K "_law_mix" z2o f1)
  (h2:Hd K "_law_comb_by" z0R f2)
  (h3:Hd K "is_rising" z17 f3)
  (h4:Hd K "is_whole" z1O f4)
  (h5:Hd K "is_tie" z3e f5)
  (h6:Hd K "check_tree" z1c f6)
  (h7:Hd K "neighbours" z1d f7)
  (h8:Hd K "inner_places" z0E f8)
  (h9:Hd K "inner_neighbours" z0w f9)
  (h10:Hd K "row_end" z2p f10)
  (h11:Hd K "inner_row" z18 f11)
  (h12:Hd K "sides" z4j f12)
  (h13:Hd K "is_comb" z2q f13)
  (h14:Hd K "comb_marks" z1e f14)
  (h15:Hd K "_law_tree_by" z0S f15)
  (h16:Hd K "steps" z4k f16)
  (h17:Hd K "all_from" z1P f17)
  (h18:Hd K "lesser_neighbours" z0s f18)
  (h19:Hd K "back_ties" z19 f19)
  (h20:Hd K "markings" z1Q f20)
  (h21:Hd K "check_marks" z0T f21)
  (h22:Hd K "differences" z0U f22)
  (h23:Hd K "is_good" z2r f23)
  (h24:Hd K "check_good" z1f f24)
  (h25:Hd K "ring_size" z1A f25)
  (h26:Hd K "laid_tie" z1R f26)
  (h27:Hd K "one_copy" z1S f27)
  (h28:Hd K "copies" z3f f28)
  (h29:Hd K "_law_counts" z1g f29)
  (h30:Hd K "_law_covers" z1h f30)
  (h31:Hd K "turned" z3g f31)
  (h32:Hd K "law" z6F f32)
  {od an:Option Addr} {sl:Array (Option Value)} {oc kV dc pm cd ct:Value} (aC:PySem.W.nsIn K mainGlobals "Tree"=some (some (.ref C))) (aI:PySem.W.findIn K (.ref C) "__init__"=some (some (.ref fI))) (iI:PySem.W.isFn K (.ref fI)=true) (lI:K.lookup fI=some ⟨oc,od,.func (PySem.W.fnOf "__init__" "Tree.__init__" (defArgs z66) (defBody z66) (defScope z66) .none kV dc pm an cd ct),sl⟩) (cI:PySem.W.codeIn K cd "Tree.__init__"=true) (kI:PySem.W.keepIn K (.ref fI)=true)
  (pg:PySem.W.plainGet K C Str.empty=true) (hd:PySem.W.hasDictIn K C=true) (po:PySem.W.plainOver K C=true) (sa:PySem.W.findIn K (.ref C) "__setattr__"=some (some (.builtin "object.__setattr__"))) (mk:PySem.W.makesIn K C=true) (kc:PySem.W.keepIn K (.ref C)=true) (nM:PySem.W.findIn K (.ref C) "many"=some none) (nT:PySem.W.findIn K (.ref C) "ties"=some none)
  (x0:PySem.W.nsIn K mainGlobals "BadTree"=some (some (.ref X0))) (y0:PySem.W.excIn K X0 [.type "ValueError",.type "Exception",.type "BaseException",.type "object"] "ValueError.__new__"=true)
  (x1:PySem.W.nsIn K mainGlobals "BadMarks"=some (some (.ref X1))) (y1:PySem.W.excIn K X1 [.type "ValueError",.type "Exception",.type "BaseException",.type "object"] "ValueError.__new__"=true)
  (x2:PySem.W.nsIn K mainGlobals "NotGood"=some (some (.ref X2))) (y2:PySem.W.excIn K X2 [.type "ValueError",.type "Exception",.type "BaseException",.type "object"] "ValueError.__new__"=true)
  (x3:PySem.W.nsIn K mainGlobals "NoComb"=some (some (.ref X3))) (y3:PySem.W.excIn K X3 [.type "ValueError",.type "Exception",.type "BaseException",.type "object"] "ValueError.__new__"=true)
  {tm:Tok} (mp:PySem.W.nsIn K mainGlobals "MOST_PLACES"=some (some (.int 12 tm)))
  (z0:PySem.W.nsIn K mainGlobals "len"=some none)
  (z1:PySem.W.nsIn K mainGlobals "range"=some none)
  (z2:PySem.W.nsIn K mainGlobals "max"=some none)
  (z3:PySem.W.nsIn K mainGlobals "min"=some none)
  (z4:PySem.W.nsIn K mainGlobals "sorted"=some none)
  (z5:PySem.W.nsIn K mainGlobals "list"=some none)
  (z6:PySem.W.nsIn K mainGlobals "set"=some none)
  (z7:PySem.W.nsIn K mainGlobals "all"=some none)
  (z8:PySem.W.nsIn K mainGlobals "isinstance"=some none)
  (z9:PySem.W.nsIn K mainGlobals "int"=some none)
  (z10:PySem.W.nsIn K mainGlobals "bool"=some none)
  (z11:PySem.W.nsIn K mainGlobals "abs"=some none)
  (z12:PySem.W.nsIn K mainGlobals "tuple"=some none)
  (z13:PySem.W.nsIn K mainGlobals "zip"=some none)
  (z14:PySem.W.nsIn K mainGlobals "ValueError"=some none):
  ∃fd:FuncData,(∀(s:Shared)(v:Value),BindsTo s fd ⟨[v],[]⟩ [("script",v)])/\ ∀base:Heap,K.In base->base.Ns mainGlobals mg->FnOk l.prog w K mg base (CX1 l.prog w) 60 fa fd ["script"] (spLaw K):=by
 obtain⟨_,_,_,_,_,_,_,_,_,a0,l0,c0,k0⟩:=h0
 obtain⟨_,_,_,_,_,_,_,_,_,a1,l1,c1,k1⟩:=h1
 obtain⟨_,_,_,_,_,_,_,_,_,a2,l2,c2,k2⟩:=h2
 obtain⟨_,_,_,_,_,_,_,_,_,a3,l3,c3,k3⟩:=h3
 obtain⟨_,_,_,_,_,_,_,_,_,a4,l4,c4,k4⟩:=h4
 obtain⟨_,_,_,_,_,_,_,_,_,a5,l5,c5,k5⟩:=h5
 obtain⟨_,_,_,_,_,_,_,_,_,a6,l6,c6,k6⟩:=h6
 obtain⟨_,_,_,_,_,_,_,_,_,a7,l7,c7,k7⟩:=h7
 obtain⟨_,_,_,_,_,_,_,_,_,a8,l8,c8,k8⟩:=h8
 obtain⟨_,_,_,_,_,_,_,_,_,a9,l9,c9,k9⟩:=h9
 obtain⟨_,_,_,_,_,_,_,_,_,a10,l10,c10,k10⟩:=h10
 obtain⟨_,_,_,_,_,_,_,_,_,a11,l11,c11,k11⟩:=h11
 obtain⟨_,_,_,_,_,_,_,_,_,a12,l12,c12,k12⟩:=h12
 obtain⟨_,_,_,_,_,_,_,_,_,a13,l13,c13,k13⟩:=h13
 obtain⟨_,_,_,_,_,_,_,_,_,a14,l14,c14,k14⟩:=h14
 obtain⟨_,_,_,_,_,_,_,_,_,a15,l15,c15,k15⟩:=h15
 obtain⟨_,_,_,_,_,_,_,_,_,a16,l16,c16,k16⟩:=h16
 obtain⟨_,_,_,_,_,_,_,_,_,a17,l17,c17,k17⟩:=h17
 obtain⟨_,_,_,_,_,_,_,_,_,a18,l18,c18,k18⟩:=h18
 obtain⟨_,_,_,_,_,_,_,_,_,a19,l19,c19,k19⟩:=h19
 obtain⟨_,_,_,_,_,_,_,_,_,a20,l20,c20,k20⟩:=h20
 obtain⟨_,_,_,_,_,_,_,_,_,a21,l21,c21,k21⟩:=h21
 obtain⟨_,_,_,_,_,_,_,_,_,a22,l22,c22,k22⟩:=h22
 obtain⟨_,_,_,_,_,_,_,_,_,a23,l23,c23,k23⟩:=h23
 obtain⟨_,_,_,_,_,_,_,_,_,a24,l24,c24,k24⟩:=h24
 obtain⟨_,_,_,_,_,_,_,_,_,a25,l25,c25,k25⟩:=h25
 obtain⟨_,_,_,_,_,_,_,_,_,a26,l26,c26,k26⟩:=h26
 obtain⟨_,_,_,_,_,_,_,_,_,a27,l27,c27,k27⟩:=h27
 obtain⟨_,_,_,_,_,_,_,_,_,a28,l28,c28,k28⟩:=h28
 obtain⟨_,_,_,_,_,_,_,_,_,a29,l29,c29,k29⟩:=h29
 obtain⟨_,_,_,_,_,_,_,_,_,a30,l30,c30,k30⟩:=h30
 obtain⟨_,_,_,_,_,_,_,_,_,a31,l31,c31,k31⟩:=h31
 obtain⟨odl,anl,sll,ocl,kVl,dcl,pml,cdl,ctl,a32,l32,c32,k32⟩:=h32
 have e:=hfa.symm.trans (PySem.W.mg_of X G a32)
 cases e
 let T:Tx:=⟨K,C,λc=>(mg c).getD .none⟩
 have bl:∀x∈bltNames,mg x=none:=z0a (PySem.W.mg_none_of X G z0) (z0a (PySem.W.mg_none_of X G z1) (z0a (PySem.W.mg_none_of X G z2) (z0a (PySem.W.mg_none_of X G z3) (z0a (PySem.W.mg_none_of X G z4) (z0a (PySem.W.mg_none_of X G z5) (z0a (PySem.W.mg_none_of X G z6) (z0a (PySem.W.mg_none_of X G z7) (z0a (PySem.W.mg_none_of X G z8) (z0a (PySem.W.mg_none_of X G z9) (z0a (PySem.W.mg_none_of X G z10) (z0a (PySem.W.mg_none_of X G z11) (z0a (PySem.W.mg_none_of X G z12) (z0a (PySem.W.mg_none_of X G z13) (z0a (PySem.W.mg_none_of X G z14) (z0e)))))))))))))))
 have gm:∀x i,W0.glob x=some i-> ∃t,mg x=some (.int i t):=λx i hx=>by
  simp only[W0]at hx
  split at hx
  ·rename_i e;subst e;cases hx;exact⟨_,PySem.W.mg_of X G mp⟩
  ·cases hx
 have xc:∀c,W0.exn c=true-> ∃CA,T.cv c= .ref CA/\XCls T.K mg c CA:=λc hc=>by
  simp only[W0,Bool.or_eq_true,decide_eq_true_eq]at hc
  rcases hc with(((hc)|hc)|hc)|hc
  ·subst hc;exact⟨X0,by show(mg "BadTree").getD .none=_;rw[PySem.W.mg_of X G x0];rfl,⟨PySem.W.mg_of X G x0,y0⟩⟩
  ·subst hc;exact⟨X1,by show(mg "BadMarks").getD .none=_;rw[PySem.W.mg_of X G x1];rfl,⟨PySem.W.mg_of X G x1,y1⟩⟩
  ·subst hc;exact⟨X2,by show(mg "NotGood").getD .none=_;rw[PySem.W.mg_of X G x2];rfl,⟨PySem.W.mg_of X G x2,y2⟩⟩
  ·subst hc;exact⟨X3,by show(mg "NoComb").getD .none=_;rw[PySem.W.mg_of X G x3];rfl,⟨PySem.W.mg_of X G x3,y3⟩⟩
 have X0:∀F:FEnv,Txt T l.prog w mg {W0 with F:=F}:=λF=>⟨⟨⟨pg,hd,po,sa⟩,nM,nT⟩,bl,gm,zFA K,xc⟩
 have F0:=z0n (st:=z0Q) l0 c0 k0
 have b0:=F0.binds (ps:=["script","k"]) λ_ _ _ _ _ _ us hl=>by obtain⟨x0,x1,rfl⟩:=len2 hl;rfl
 have m0:=PySem.W.mg_of X G a0
 have F1:=z0n (st:=z2o) l1 c1 k1
 have b1:=F1.binds (ps:=["cell","k","many"]) λ_ _ _ _ _ _ us hl=>by obtain⟨x0,x1,x2,rfl⟩:=len3 hl;rfl
 have m1:=PySem.W.mg_of X G a1
 have F2:=z0n (st:=z0R) l2 c2 k2
 have b2:=F2.binds (ps:=["script","base","most"]) λ_ _ _ _ _ _ us hl=>by obtain⟨x0,x1,x2,rfl⟩:=len3 hl;rfl
 have m2:=PySem.W.mg_of X G a2
 have F3:=z0n (st:=z17) l3 c3 k3
 have b3:=F3.binds (ps:=["ties"]) λ_ _ _ _ _ _ us hl=>by obtain⟨x0,rfl⟩:=len1 hl;rfl
 have m3:=PySem.W.mg_of X G a3
 have F4:=z0n (st:=z1O) l4 c4 k4
 have b4:=F4.binds (ps:=["many","ties"]) λ_ _ _ _ _ _ us hl=>by obtain⟨x0,x1,rfl⟩:=len2 hl;rfl
 have m4:=PySem.W.mg_of X G a4
 have F5:=z0n (st:=z3e) l5 c5 k5
 have b5:=F5.binds (ps:=["many","tie"]) λ_ _ _ _ _ _ us hl=>by obtain⟨x0,x1,rfl⟩:=len2 hl;rfl
 have m5:=PySem.W.mg_of X G a5
 have F6:=z0n (st:=z1c) l6 c6 k6
 have b6:=F6.binds (ps:=["many","ties"]) λ_ _ _ _ _ _ us hl=>by obtain⟨x0,x1,rfl⟩:=len2 hl;rfl
 have m6:=PySem.W.mg_of X G a6
 have F7:=z0n (st:=z1d) l7 c7 k7
 have b7:=F7.binds (ps:=["tree","place"]) λ_ _ _ _ _ _ us hl=>by obtain⟨x0,x1,rfl⟩:=len2 hl;rfl
 have m7:=PySem.W.mg_of X G a7
 have F8:=z0n (st:=z0E) l8 c8 k8
 have b8:=F8.binds (ps:=["tree"]) λ_ _ _ _ _ _ us hl=>by obtain⟨x0,rfl⟩:=len1 hl;rfl
 have m8:=PySem.W.mg_of X G a8
 have F9:=z0n (st:=z0w) l9 c9 k9
 have b9:=F9.binds (ps:=["tree","place"]) λ_ _ _ _ _ _ us hl=>by obtain⟨x0,x1,rfl⟩:=len2 hl;rfl
 have m9:=PySem.W.mg_of X G a9
 have F10:=z0n (st:=z2p) l10 c10 k10
 have b10:=F10.binds (ps:=["tree"]) λ_ _ _ _ _ _ us hl=>by obtain⟨x0,rfl⟩:=len1 hl;rfl
 have m10:=PySem.W.mg_of X G a10
 have F11:=z0n (st:=z18) l11 c11 k11
 have b11:=F11.binds (ps:=["tree"]) λ_ _ _ _ _ _ us hl=>by obtain⟨x0,rfl⟩:=len1 hl;rfl
 have m11:=PySem.W.mg_of X G a11
 have F12:=z0n (st:=z4j) l12 c12 k12
 have b12:=F12.binds (ps:=["tree"]) λ_ _ _ _ _ _ us hl=>by obtain⟨x0,rfl⟩:=len1 hl;rfl
 have m12:=PySem.W.mg_of X G a12
 have F13:=z0n (st:=z2q) l13 c13 k13
 have b13:=F13.binds (ps:=["tree"]) λ_ _ _ _ _ _ us hl=>by obtain⟨x0,rfl⟩:=len1 hl;rfl
 have m13:=PySem.W.mg_of X G a13
 have F14:=z0n (st:=z1e) l14 c14 k14
 have b14:=F14.binds (ps:=["tree"]) λ_ _ _ _ _ _ us hl=>by obtain⟨x0,rfl⟩:=len1 hl;rfl
 have m14:=PySem.W.mg_of X G a14
 have F15:=z0n (st:=z0S) l15 c15 k15
 have b15:=F15.binds (ps:=["script","base","most"]) λ_ _ _ _ _ _ us hl=>by obtain⟨x0,x1,x2,rfl⟩:=len3 hl;rfl
 have m15:=PySem.W.mg_of X G a15
 have F16:=z0n (st:=z4k) l16 c16 k16
 have b16:=F16.binds (ps:=["back","begun","met"]) λ_ _ _ _ _ _ us hl=>by obtain⟨x0,x1,x2,rfl⟩:=len3 hl;rfl
 have m16:=PySem.W.mg_of X G a16
 have F17:=z0n (st:=z1P) l17 c17 k17
 have b17:=F17.binds (ps:=["back","begun","met"]) λ_ _ _ _ _ _ us hl=>by obtain⟨x0,x1,x2,rfl⟩:=len3 hl;rfl
 have m17:=PySem.W.mg_of X G a17
 have F18:=z0n (st:=z0s) l18 c18 k18
 have b18:=F18.binds (ps:=["tree","place"]) λ_ _ _ _ _ _ us hl=>by obtain⟨x0,x1,rfl⟩:=len2 hl;rfl
 have m18:=PySem.W.mg_of X G a18
 have F19:=z0n (st:=z19) l19 c19 k19
 have b19:=F19.binds (ps:=["tree"]) λ_ _ _ _ _ _ us hl=>by obtain⟨x0,rfl⟩:=len1 hl;rfl
 have m19:=PySem.W.mg_of X G a19
 have F20:=z0n (st:=z1Q) l20 c20 k20
 have b20:=F20.binds (ps:=["tree"]) λ_ _ _ _ _ _ us hl=>by obtain⟨x0,rfl⟩:=len1 hl;rfl
 have m20:=PySem.W.mg_of X G a20
 have F21:=z0n (st:=z0T) l21 c21 k21
 have b21:=F21.binds (ps:=["tree","marks"]) λ_ _ _ _ _ _ us hl=>by obtain⟨x0,x1,rfl⟩:=len2 hl;rfl
 have m21:=PySem.W.mg_of X G a21
 have F22:=z0n (st:=z0U) l22 c22 k22
 have b22:=F22.binds (ps:=["tree","marks"]) λ_ _ _ _ _ _ us hl=>by obtain⟨x0,x1,rfl⟩:=len2 hl;rfl
 have m22:=PySem.W.mg_of X G a22
 have F23:=z0n (st:=z2r) l23 c23 k23
 have b23:=F23.binds (ps:=["tree","marks"]) λ_ _ _ _ _ _ us hl=>by obtain⟨x0,x1,rfl⟩:=len2 hl;rfl
 have m23:=PySem.W.mg_of X G a23
 have F24:=z0n (st:=z1f) l24 c24 k24
 have b24:=F24.binds (ps:=["tree","marks"]) λ_ _ _ _ _ _ us hl=>by obtain⟨x0,x1,rfl⟩:=len2 hl;rfl
 have m24:=PySem.W.mg_of X G a24
 have F25:=z0n (st:=z1A) l25 c25 k25
 have b25:=F25.binds (ps:=["tree"]) λ_ _ _ _ _ _ us hl=>by obtain⟨x0,rfl⟩:=len1 hl;rfl
 have m25:=PySem.W.mg_of X G a25
 have F26:=z0n (st:=z1R) l26 c26 k26
 have b26:=F26.binds (ps:=["tree","marks","tie","shift"]) λ_ _ _ _ _ _ us hl=>by obtain⟨x0,x1,x2,x3,rfl⟩:=len4 hl;rfl
 have m26:=PySem.W.mg_of X G a26
 have F27:=z0n (st:=z1S) l27 c27 k27
 have b27:=F27.binds (ps:=["tree","marks","shift"]) λ_ _ _ _ _ _ us hl=>by obtain⟨x0,x1,x2,rfl⟩:=len3 hl;rfl
 have m27:=PySem.W.mg_of X G a27
 have F28:=z0n (st:=z3f) l28 c28 k28
 have b28:=F28.binds (ps:=["tree","marks"]) λ_ _ _ _ _ _ us hl=>by obtain⟨x0,x1,rfl⟩:=len2 hl;rfl
 have m28:=PySem.W.mg_of X G a28
 have F29:=z0n (st:=z1g) l29 c29 k29
 have b29:=F29.binds (ps:=["ties","size"]) λ_ _ _ _ _ _ us hl=>by obtain⟨x0,x1,rfl⟩:=len2 hl;rfl
 have m29:=PySem.W.mg_of X G a29
 have F30:=z0n (st:=z1h) l30 c30 k30
 have b30:=F30.binds (ps:=["tree","marks"]) λ_ _ _ _ _ _ us hl=>by obtain⟨x0,x1,rfl⟩:=len2 hl;rfl
 have m30:=PySem.W.mg_of X G a30
 have F31:=z0n (st:=z3g) l31 c31 k31
 have b31:=F31.binds (ps:=["tree","marks"]) λ_ _ _ _ _ _ us hl=>by obtain⟨x0,x1,rfl⟩:=len2 hl;rfl
 have m31:=PySem.W.mg_of X G a31
 have F32:=z0n (st:=z6F) l32 c32 k32
 have b32:=F32.binds (ps:=["script"]) λ_ _ _ _ _ _ us hl=>by obtain⟨x0,rfl⟩:=len1 hl;rfl
 have m32:=PySem.W.mg_of X G a32
 have FI:=z0n (st:=z66) lI cI kI
 have bI:=FI.binds (ps:=["self","many","ties"]) λ_ _ _ _ _ _ us hl=>by obtain⟨x0,x1,x2,rfl⟩:=len3 hl;rfl
 refine⟨PySem.W.fnOf "law" "law" (defArgs z6F) (defBody z6F) (defScope z6F) .none kVl dcl pml anl cdl ctl,λs v=>.of_eq rfl,λbase _ _=>?_⟩
 have q_law_cell_at:CallIn T l.prog w mg base 1 "_law_cell_at" z0h:=z0d (k:=0) (X0 (Fl _)) F0 z4u m0 b0 z4v rfl rfl z0e
 have q_law_mix:CallIn T l.prog w mg base 1 "_law_mix" z15:=z0d (k:=0) (X0 (Fl _)) F1 z8F m1 b1 z8G rfl rfl z0e
 have q_law_comb_by:CallIn T l.prog w mg base 2 "_law_comb_by" z0C:=z0d (k:=1) (X0 (Fl _)) F2 z4w m2 b2 z4x rfl rfl (z0a (CallIn.mono q_law_cell_at (by decide)) (z0a (CallIn.mono q_law_mix (by decide)) z0e))
 have q_is_rising:CallIn T l.prog w mg base 1 "is_rising" z2E:=z0d (k:=0) (X0 (Fl _)) F3 z67 m3 b3 z68 rfl rfl z0e
 have q_is_whole:CallIn T l.prog w mg base 1 "is_whole" z3t:=z0d (k:=0) (X0 (Fl _)) F4 z7v m4 b4 z7w rfl rfl z0e
 have q_is_tie:CallIn T l.prog w mg base 1 "is_tie" z5z:=z0d (k:=0) (X0 (Fl _)) F5 zAM m5 b5 zAN rfl rfl z0e
 have q_check_tree:CallIn T l.prog w mg base 2 "check_tree" z1I:=z0d (k:=1) (X0 (Fl _)) F6 z54 m6 b6 z55 rfl rfl (z0a (CallIn.mono q_is_rising (by decide)) (z0a (CallIn.mono q_is_whole (by decide)) (z0a (CallIn.mono q_is_tie (by decide)) z0e)))
 have q_Tree:CallIn T l.prog w mg base 4 "Tree" z4f:=zAk (X0 (Fl [])) zEl FI bI ⟨mk,aI,iI,kc⟩ (PySem.W.mg_of X G aC) rfl (q_check_tree.mono (by decide))
 have q_neighbours:CallIn T l.prog w mg base 1 "neighbours" z0q:=z0d (k:=0) (X0 (Fl _)) F7 z56 m7 b7 z57 rfl rfl z0e
 have q_inner_places:CallIn T l.prog w mg base 2 "inner_places" z0r:=z0d (k:=1) (X0 (Fl _)) F8 z4h m8 b8 z4i rfl rfl (z0a (CallIn.mono q_neighbours (by decide)) z0e)
 have q_inner_neighbours:CallIn T l.prog w mg base 3 "inner_neighbours" z0g:=z0d (k:=2) (X0 (Fl _)) F9 z2F m9 b9 z2G rfl rfl (z0a (CallIn.mono q_inner_places (by decide)) (z0a (CallIn.mono q_neighbours (by decide)) z0e))
 have q_row_end:CallIn T l.prog w mg base 4 "row_end" z4g:=z0d (k:=3) (X0 (Fl _)) F10 z8H m10 b10 z8I rfl rfl (z0a (CallIn.mono q_inner_places (by decide)) (z0a (CallIn.mono q_inner_neighbours (by decide)) z0e))
 have q_inner_row:CallIn T l.prog w mg base 5 "inner_row" z2e:=z0d (k:=4) (X0 (Fl _)) F11 z69 m11 b11 z6A rfl rfl (z0a (CallIn.mono q_inner_neighbours (by decide)) (z0a (CallIn.mono q_row_end (by decide)) z0e))
 have q_sides:CallIn T l.prog w mg base 6 "sides" z50:=z0d (k:=5) (X0 (Fl _)) F12 zCe m12 b12 zCf rfl rfl (z0a (CallIn.mono q_inner_row (by decide)) (z0a (CallIn.mono q_neighbours (by decide)) z0e))
 have q_is_comb:CallIn T l.prog w mg base 4 "is_comb" z2n:=z0d (k:=3) (X0 (Fl _)) F13 z8J m13 b13 z8K rfl rfl (z0a (CallIn.mono q_inner_places (by decide)) (z0a (CallIn.mono q_inner_neighbours (by decide)) z0e))
 have q_comb_marks:CallIn T l.prog w mg base 7 "comb_marks" z0A:=z0d (k:=6) (X0 (Fl _)) F14 z58 m14 b14 z59 rfl rfl (z0a (CallIn.mono q_sides (by decide)) (z0a (CallIn.mono q_is_comb (by decide)) z0e))
 have q_law_tree_by:CallIn T l.prog w mg base 2 "_law_tree_by" z0D:=z0d (k:=1) (X0 (Fl _)) F15 z4y m15 b15 z4z rfl rfl (z0a (CallIn.mono q_law_cell_at (by decide)) (z0a (CallIn.mono q_law_mix (by decide)) z0e))
 have q_steps:CallIn T l.prog w mg base 1 "steps" z7t:=z0d (k:=0) (X0 (Fl _)) F16 zCg m16 b16 zCh rfl rfl z0e
 have q_all_from:CallIn T l.prog w mg base 22 "all_from" (z0M 20):=by
  have all:∀n:Nat,CallIn T l.prog w mg base (1+n) "all_from" (z0M n):=λn=>by
   induction n with
   | zero=>exact(zAi m17 F17.kp b17 λ_=>rfl).mono (Nat.zero_le _)
   | succ n ih=>exact z0d (X0 (Fl _)) F17 z7x m17 b17 z7y rfl rfl (z0a (CallIn.mono q_steps (Nat.le_trans (by decide) (Nat.le_add_right 1 n))) (z0a ih z0e))
  exact(all 20).mono (by decide)
 have q_lesser_neighbours:CallIn T l.prog w mg base 2 "lesser_neighbours" z0J:=z0d (k:=1) (X0 (Fl _)) F18 z22 m18 b18 z23 rfl rfl (z0a (CallIn.mono q_neighbours (by decide)) z0e)
 have q_back_ties:CallIn T l.prog w mg base 3 "back_ties" z16:=z0d (k:=2) (X0 (Fl _)) F19 z6B m19 b19 z6C rfl rfl (z0a (CallIn.mono q_lesser_neighbours (by decide)) z0e)
 have q_markings:CallIn T l.prog w mg base 23 "markings" z1u:=z0d (k:=22) (X0 (Fl _)) F20 z7z m20 b20 z70 rfl rfl (z0a (CallIn.mono q_all_from (by decide)) (z0a (CallIn.mono q_back_ties (by decide)) z0e))
 have q_check_marks:CallIn T l.prog w mg base 1 "check_marks" z0v:=z0d (k:=0) (X0 (Fl _)) F21 z40 m21 b21 z41 rfl rfl z0e
 have q_differences:CallIn T l.prog w mg base 2 "differences" z1t:=z0d (k:=1) (X0 (Fl _)) F22 z42 m22 b22 z43 rfl rfl (z0a (CallIn.mono q_check_marks (by decide)) z0e)
 have q_is_good:CallIn T l.prog w mg base 3 "is_good" z3c:=z0d (k:=2) (X0 (Fl _)) F23 z8L m23 b23 z8M rfl rfl (z0a (CallIn.mono q_differences (by decide)) z0e)
 have q_check_good:CallIn T l.prog w mg base 4 "check_good" z0y:=z0d (k:=3) (X0 (Fl _)) F24 z5A m24 b24 z5B rfl rfl (z0a (CallIn.mono q_is_good (by decide)) z0e)
 have q_ring_size:CallIn T l.prog w mg base 1 "ring_size" z0j:=z0d (k:=0) (X0 (Fl _)) F25 z6D m25 b25 z6E rfl rfl z0e
 have q_laid_tie:CallIn T l.prog w mg base 2 "laid_tie" z1N:=z0d (k:=1) (X0 (Fl _)) F26 z71 m26 b26 z72 rfl rfl (z0a (CallIn.mono q_ring_size (by decide)) z0e)
 have q_one_copy:CallIn T l.prog w mg base 3 "one_copy" z1v:=z0d (k:=2) (X0 (Fl _)) F27 z73 m27 b27 z74 rfl rfl (z0a (CallIn.mono q_laid_tie (by decide)) z0e)
 have q_copies:CallIn T l.prog w mg base 5 "copies" z3d:=z0d (k:=4) (X0 (Fl _)) F28 zAO m28 b28 zAP rfl rfl (z0a (CallIn.mono q_check_good (by decide)) (z0a (CallIn.mono q_one_copy (by decide)) (z0a (CallIn.mono q_ring_size (by decide)) z0e)))
 have q_law_counts:CallIn T l.prog w mg base 1 "_law_counts" z0N:=z0d (k:=0) (X0 (Fl _)) F29 z5C m29 b29 z5D rfl rfl z0e
 have q_law_covers:CallIn T l.prog w mg base 6 "_law_covers" z0B:=z0d (k:=5) (X0 (Fl _)) F30 z5E m30 b30 z5F rfl rfl (z0a (CallIn.mono q_copies (by decide)) (z0a (CallIn.mono q_law_counts (by decide)) z0e))
 have q_turned:CallIn T l.prog w mg base 2 "turned" z21:=z0d (k:=1) (X0 (Fl _)) F31 zAQ m31 b31 zAR rfl rfl (z0a (CallIn.mono q_check_marks (by decide)) z0e)
 refine(zDS (T:=T) (fn:=zBY) rfl z53 ?_).mono (show 24<=60 by decide)
 have ql:∀p∈([("_law_cell_at",z0h),("_law_comb_by",z0C),("Tree",z4f),("comb_marks",z0A),("_law_tree_by",z0D),("markings",z1u),("_law_covers",z0B),("turned",z21)]:List (Str×Fn)),CallIn T l.prog w mg base 23 p.1 p.2:=(z0a (CallIn.mono q_law_cell_at (by decide)) (z0a (CallIn.mono q_law_comb_by (by decide)) (z0a (CallIn.mono q_Tree (by decide)) (z0a (CallIn.mono q_comb_marks (by decide)) (z0a (CallIn.mono q_law_tree_by (by decide)) (z0a (CallIn.mono q_markings (by decide)) (z0a (CallIn.mono q_law_covers (by decide)) (z0a (CallIn.mono q_turned (by decide)) z0e))))))))
 refine zF9 (fn:=zBY) (X0 (Fl _)) F32 zFS zFT (z7V ql) λds r e=>?_
 have e':(if ds.length=1 then evFn _ _ _ _ ds else none)=some r:=e
 split at e'
 ·rename_i h;exact⟨h,e'⟩
 ·cases e'
end K08
open PySem PySem.W PyProof.Rows
set_option maxRecDepth 100000 in
set_option maxHeartbeats 0 in
theorem PySem.Challenge.cw_markedties_k08_whole_each_pair_once_holds : PySem.Challenge.rw_markedties_k08_whole_each_pair_once.Holds := by
 w_on;o_law;k_head;(case hw=>w_witness2)
 k_fill
 refine Ev.walk (l:=PySem.Challenge.rw_markedties_k08_whole_each_pair_once) rfl rfl (λw h Y=>PySem.W.kIn_of Y) ?F
 case F=>
  intro w mg fa h KX G hmg
  refine' K08.zFU K08.z53 KX G hmg ?h0 ?h1 ?h2 ?h3 ?h4 ?h5 ?h6 ?h7 ?h8 ?h9 ?h10 ?h11 ?h12 ?h13 ?h14 ?h15 ?h16 ?h17 ?h18 ?h19 ?h20 ?h21 ?h22 ?h23 ?h24 ?h25 ?h26 ?h27 ?h28 ?h29 ?h30 ?h31 ?h32 ?aC ?aI ?iI ?lI ?cI ?kI ?pg ?hd ?po ?sa ?mk ?kc ?nM ?nT ?x0 ?y0 ?x1 ?y1 ?x2 ?y2 ?x3 ?y3 ?mp ?z0 ?z1 ?z2 ?z3 ?z4 ?z5 ?z6 ?z7 ?z8 ?z9 ?z10 ?z11 ?z12 ?z13 ?z14
  (case h0=>exact⟨_,_,_,_,_,_,_,_,_,by k_is,by k_is,by k_is,by k_is⟩)
  (case h1=>exact⟨_,_,_,_,_,_,_,_,_,by k_is,by k_is,by k_is,by k_is⟩)
  (case h2=>exact⟨_,_,_,_,_,_,_,_,_,by k_is,by k_is,by k_is,by k_is⟩)
  (case h3=>exact⟨_,_,_,_,_,_,_,_,_,by k_is,by k_is,by k_is,by k_is⟩)
  (case h4=>exact⟨_,_,_,_,_,_,_,_,_,by k_is,by k_is,by k_is,by k_is⟩)
  (case h5=>exact⟨_,_,_,_,_,_,_,_,_,by k_is,by k_is,by k_is,by k_is⟩)
  (case h6=>exact⟨_,_,_,_,_,_,_,_,_,by k_is,by k_is,by k_is,by k_is⟩)
  (case h7=>exact⟨_,_,_,_,_,_,_,_,_,by k_is,by k_is,by k_is,by k_is⟩)
  (case h8=>exact⟨_,_,_,_,_,_,_,_,_,by k_is,by k_is,by k_is,by k_is⟩)
  (case h9=>exact⟨_,_,_,_,_,_,_,_,_,by k_is,by k_is,by k_is,by k_is⟩)
  (case h10=>exact⟨_,_,_,_,_,_,_,_,_,by k_is,by k_is,by k_is,by k_is⟩)
  (case h11=>exact⟨_,_,_,_,_,_,_,_,_,by k_is,by k_is,by k_is,by k_is⟩)
  (case h12=>exact⟨_,_,_,_,_,_,_,_,_,by k_is,by k_is,by k_is,by k_is⟩)
  (case h13=>exact⟨_,_,_,_,_,_,_,_,_,by k_is,by k_is,by k_is,by k_is⟩)
  (case h14=>exact⟨_,_,_,_,_,_,_,_,_,by k_is,by k_is,by k_is,by k_is⟩)
  (case h15=>exact⟨_,_,_,_,_,_,_,_,_,by k_is,by k_is,by k_is,by k_is⟩)
  (case h16=>exact⟨_,_,_,_,_,_,_,_,_,by k_is,by k_is,by k_is,by k_is⟩)
  (case h17=>exact⟨_,_,_,_,_,_,_,_,_,by k_is,by k_is,by k_is,by k_is⟩)
  (case h18=>exact⟨_,_,_,_,_,_,_,_,_,by k_is,by k_is,by k_is,by k_is⟩)
  (case h19=>exact⟨_,_,_,_,_,_,_,_,_,by k_is,by k_is,by k_is,by k_is⟩)
  (case h20=>exact⟨_,_,_,_,_,_,_,_,_,by k_is,by k_is,by k_is,by k_is⟩)
  (case h21=>exact⟨_,_,_,_,_,_,_,_,_,by k_is,by k_is,by k_is,by k_is⟩)
  (case h22=>exact⟨_,_,_,_,_,_,_,_,_,by k_is,by k_is,by k_is,by k_is⟩)
  (case h23=>exact⟨_,_,_,_,_,_,_,_,_,by k_is,by k_is,by k_is,by k_is⟩)
  (case h24=>exact⟨_,_,_,_,_,_,_,_,_,by k_is,by k_is,by k_is,by k_is⟩)
  (case h25=>exact⟨_,_,_,_,_,_,_,_,_,by k_is,by k_is,by k_is,by k_is⟩)
  (case h26=>exact⟨_,_,_,_,_,_,_,_,_,by k_is,by k_is,by k_is,by k_is⟩)
  (case h27=>exact⟨_,_,_,_,_,_,_,_,_,by k_is,by k_is,by k_is,by k_is⟩)
  (case h28=>exact⟨_,_,_,_,_,_,_,_,_,by k_is,by k_is,by k_is,by k_is⟩)
  (case h29=>exact⟨_,_,_,_,_,_,_,_,_,by k_is,by k_is,by k_is,by k_is⟩)
  (case h30=>exact⟨_,_,_,_,_,_,_,_,_,by k_is,by k_is,by k_is,by k_is⟩)
  (case h31=>exact⟨_,_,_,_,_,_,_,_,_,by k_is,by k_is,by k_is,by k_is⟩)
  (case h32=>exact⟨_,_,_,_,_,_,_,_,_,by k_is,by k_is,by k_is,by k_is⟩)
  (case aC=>k_is)
  (case aI=>k_is)
  (case iI=>k_is)
  (case lI=>k_is)
  (case cI=>k_is)
  (case kI=>k_is)
  (case pg=>k_is)
  (case hd=>k_is)
  (case po=>k_is)
  (case sa=>k_is)
  (case mk=>k_is)
  (case kc=>k_is)
  (case nM=>k_is)
  (case nT=>k_is)
  (case x0=>k_is)
  (case y0=>k_exc)
  (case x1=>k_is)
  (case y1=>k_exc)
  (case x2=>k_is)
  (case y2=>k_exc)
  (case x3=>k_is)
  (case y3=>k_exc)
  (case mp=>k_is)
  (case z0=>k_is)
  (case z1=>k_is)
  (case z2=>k_is)
  (case z3=>k_is)
  (case z4=>k_is)
  (case z5=>k_is)
  (case z6=>k_is)
  (case z7=>k_is)
  (case z8=>k_is)
  (case z9=>k_is)
  (case z10=>k_is)
  (case z11=>k_is)
  (case z12=>k_is)
  (case z13=>k_is)
  (case z14=>k_is)
