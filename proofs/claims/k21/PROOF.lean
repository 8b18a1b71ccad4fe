import PyProof.Rows.All
import Wide.All
import OpenK.AllK
import Wide.FinOn
import Lean
import PyProof.EqAt
import PyProof.EqKinds
import PyProof.TupleCall
import PyProof.NeKinds
import PyProof.ZipIter
import PyProof.EnumMake
import PyProof.Rows.ZipGen
import PyProof.Rows.SetFrom
import PyProof.IsiNone
import KE.KRevSl
import PyProof.Rows.ListMul
import PyProof.ListRange
import PyProof.Rows.SumAny
import PySem.Challenge.RW_inkyears_k21_steps_of_a_heap
set_option Elab.async false
set_option linter.all false
set_option maxRecDepth 100000
set_option maxHeartbeats 4000000

namespace L2
open PySem PySem.Spec PyProof.Rows
abbrev pV:=Sum Int Str
def cj3:pV->Value->Bool
 |.inl k,v=>Value.isInt k v
 |.inr x,v=>Value.isStrOf x v
def df6(w:World):pV->Int
 |.inl k=>hashInt k
 |.inr x=>hashStr w x
theorem fW:∀{k:pV}{v:Value},cj3 k v=true->(∃i t,k=Sum.inl i/\v=Value.int i t)\/(∃x t,k=Sum.inr x/\v=Value.str x t)
 |.inl i,v,h=>by
  obtain⟨t,e⟩:=Value.isInt_shape (k:=i) (v:=v) h
  exact .inl ⟨i,t,rfl,e⟩
 |.inr x,v,h=>by
  obtain⟨t,e⟩:=Value.isStrOf_shape (x:=x) (v:=v) h
  exact .inr ⟨x,t,rfl,e⟩
theorem de1(a b:Int):decide ((Sum.inl a:pV)=Sum.inl b)=(a==b):=by
 by_cases e:a=b
 . subst e;simp
 . have h:¬(Sum.inl a:pV)=Sum.inl b:=λq=>e (Sum.inl.inj q)
   rw[decide_eq_false h]
   exact(beq_eq_false_iff_ne.mpr e).symm
theorem dt0(a b:Str):decide ((Sum.inr a:pV)=Sum.inr b)=decide (a=b):=by
 by_cases e:a=b
 . subst e;simp
 . have h:¬(Sum.inr a:pV)=Sum.inr b:=λq=>e (Sum.inr.inj q)
   rw[decide_eq_false h,decide_eq_false e]
theorem dn1(a:Int)(b:Str):decide ((Sum.inl a:pV)=Sum.inr b)=false:=decide_eq_false (λq=>nomatch q)
theorem cr9(a:Str)(b:Int):decide ((Sum.inr a:pV)=Sum.inl b)=false:=decide_eq_false (λq=>nomatch q)
def at3(prog:Program)(w:World):PySem.KeyKind prog w pV where
 is:=cj3
 hash:=df6 w
 inj:=λv a b ha hb=>by
  rcases fW ha with⟨i,t,rfl,rfl⟩|⟨x,t,rfl,rfl⟩
  . rcases fW hb with⟨j,u,rfl,e⟩|⟨y,u,rfl,e⟩
    . injection e with e1 _;rw[e1]
    . exact nomatch e
  . rcases fW hb with⟨j,u,rfl,e⟩|⟨y,u,rfl,e⟩
    . exact nomatch e
    . injection e with e1 _;rw[e1]
 byValue:=λk v h=>by
  rcases fW h with⟨i,t,rfl,rfl⟩|⟨x,t,rfl,rfl⟩<;>rfl
 pyHash:=λhv h=>by
  rcases fW hv with⟨i,t,rfl,rfl⟩|⟨x,t,rfl,rfl⟩
  . exact wpAny_pyHash_int h
  . exact wpAny_pyHash_str h
 eqBool:=λhu hv h=>by
  rcases fW hu with⟨i,t,rfl,rfl⟩|⟨x,t,rfl,rfl⟩
  . rcases fW hv with⟨j,u,rfl,rfl⟩|⟨y,u,rfl,rfl⟩
    . rw[de1]at h;exact wpAny_eqBool_int h
    . rw[dn1]at h;exact SeqAt.EqAt.int_str i t y u _ _ _ _ h
  . rcases fW hv with⟨j,u,rfl,rfl⟩|⟨y,u,rfl,rfl⟩
    . rw[cr9]at h;exact SeqAt.EqAt.str_int x t j u _ _ _ _ h
    . rw[dt0]at h;exact wpAny_eqBool_str h
 «strs»:=λk x t v h=>by
  rcases fW h with⟨i,u,rfl,e⟩|⟨y,u,rfl,e⟩
  . exact nomatch e
  . injection e with e1 _
    subst e1
    cases v<;>rfl
end L2
namespace L2
open PySem PySem.Spec PyProof.Rows
inductive V where
 |non|bl (b:Bool)|int (i:Int)|str (x:Str)|byt (b:Array UInt8)|flt (b:UInt64)|ref (a:Addr)|ty (n:String)
 deriving DecidableEq
def RelV:V->Value->Prop
 |.non,u=>u=Value.none
 |.bl b,u=>u=Value.bool b
 |.int i,u=>∃t,u=Value.int i t
 |.str x,u=>∃t,u=Value.str x t
 |.byt b,u=>∃t,u=Value.bytes b t
 |.flt b,u=>∃t,u=Value.float b t
 |.ref a,u=>u=Value.ref a
 |.ty n,u=>u=Value.type n
abbrev Vals:List V->List Value->Prop:=Paired RelV
theorem Vals.length(r:Vals xs us):xs.length=us.length:=Paired.length r
theorem Vals.get:∀{xs:List V}{us:List Value}{i:Nat}{x:V},Vals xs us->xs[i]?=some x->∃u,us[i]?=some u/\RelV x u
 |_,_,_,_,.nil,e=>by simp at e
 |_,_,0,_,.cons r _,e=>by simp at e;subst e;exact⟨_,rfl,r⟩
 |_,_,i+1,x,.cons _ t,e=>by
  obtain⟨u,h1,h2⟩:=Vals.get (i:=i) (x:=x) t (by simpa using e)
  exact⟨u,by simpa using h1,h2⟩
theorem Vals.append:∀{xs ys:List V}{us ws:List Value},Vals xs us->Vals ys ws->Vals (xs++ys) (us++ws)
 |_,_,_,_,.nil,s=>s
 |_,_,_,_,.cons r t,s=>.cons r (Vals.append t s)
theorem Vals.take:∀{xs:List V}{us:List Value}(n:Nat),Vals xs us->Vals (xs.take n) (us.take n)
 |_,_,0,_=>.nil
 |_,_,_+1,.nil=>.nil
 |_,_,n+1,.cons r t=>.cons r (Vals.take n t)
theorem Vals.drop:∀{xs:List V}{us:List Value}(n:Nat),Vals xs us->Vals (xs.drop n) (us.drop n)
 |_,_,0,r=>r
 |_,_,_+1,.nil=>.nil
 |_,_,n+1,.cons _ t=>Vals.drop n t
def RelO:Option V->Option Value->Prop
 |some v,some u=>RelV v u
 |none,none=>True
 |_,_=>False
def KV{κ:Type}:List (κ×V)->List (κ×Value)->Prop:=Paired λ(p:κ×V)(q:κ×Value)=>p.1=q.1/\RelV p.2 q.2
def kV:pV->V
 |.inl i=>.int i
 |.inr x=>.str x
inductive HO where
 |lst (xs:List V)
 |tup (xs:List V)
 |dK (kvs:List (pV×V))|dT (kvs:List (List pV×V))
 |set (S:Int->Bool) (n:Nat)
 |ins (C dx:Addr) (fs:List (Str×V))
 |own (x:Addr)
 |xd (fs:List (Str×V))
 |met (f x:Addr)
 |rng (lo hi:Int)
 |frz (o:Obj) (u:HO)
 |tbl (ps:Array Value)
 |ext (φ:Heap->Prop)
abbrev Hp:=Addr->Option HO
def upd(H:Hp)(a:Addr)(o:HO):Hp:=λb=>if b=a then some o else H b
theorem dO:upd H a o a=some o:=by unfold upd;rw[if_pos rfl]
theorem bY(h:b≠a):upd H a o b=H b:=by unfold upd;rw[if_neg h]
theorem fV{H:Hp}{a b:Addr}{o:HO}(h:H a=some o)(h':H b=none):a≠b:=by
 intro e;subst e;rw[h]at h';cases h'
section
variable (P : Program) (w : World)
def ObjOk(H:Hp)(h:Heap)(a:Addr):HO->Prop
 |.lst xs=>xs.length<=sizeLine/\∃(its:List Value)(n:Nat),Vals xs its/\h.get? a=some {cls:=.type "list",data:=.seq its.toArray n}
 |.tup xs=>xs.length<=sizeLine/\∃its:List Value,Vals xs its/\IsTup h a its.toArray
 |.dK kvs=>kvs.length<=sizeLine/\(a==sysModules)=false/\∃vs,KV kvs vs/\h.DictOf (at3 P w) a vs
 |.dT kvs=>kvs.length<=sizeLine/\(a==sysModules)=false/\∃xs:List (List pV×Addr×Value),
  Paired (λ(p:List pV×V)(q:List pV×Addr×Value)=>p.1=q.1/\H q.2.1=some (.tup (p.1.map kV))/\RelV p.2 q.2.2) kvs xs/\
  ∃o es ep,h.get? a=some o/\o.ExactDict/\o.data=.dict es ep/\es.toList=xs.map (entryOfKey (tupleKind (at3 P w)))/\(xs.map (·.1)).Nodup
 |.set S n=>h.SetOf (intKind P w) a S n
 |.ins C dx fs=>H dx=some (.own a)/\fs.length<=1000/\dx≠a/\h.get? a=some (PySem.W.instObj C dx)/\
  ∃mA,h.Ns1 dx mA/\(∀f,RelO (fs.lookup f) (mA f))/\PySem.Within mA (fs.map (·.1))
 |.own _=>∃o,h.get? a=some o
 |.xd fs=>∃mA,h.Ns1 a mA/\∀f,RelO (fs.lookup f) (mA f)
 |.rng lo hi=>∃t u v,h.get? a=some {cls:=.type "range",data:=.fields #[.int lo t,.int hi u,.int 1 v]}
 |.frz o u=>h.get? a=some o/\ObjOk H h a u
 |.tbl ps=>h.get? a=some {cls:=.none,data:=.fields ps}
 |.met f x=>h.get? a=some (PySem.W.methodObj (.ref f) (.ref x))
 |.ext φ=>φ h/\(∃o,h.get? a=some o)/\∀h1 h2:Heap,φ h1->(∀o,h1.get? a=some o->h2.get? a=some o)->φ h2
def HOk(H:Hp)(h:Heap):Prop:=∀a o,H a=some o->ObjOk P w H h a o
end
section
variable {P : Program} {w : World} {H H' : Hp} {h h' : Heap} {a : Addr} {o : HO}
theorem ObjOk.lt(x:ObjOk P w H h a o):a<h.objs.size:=by
 cases o with
 |lst xs=>obtain⟨_,_,_,_,e⟩:=x;exact Heap.lt_size e
 |tup xs=>obtain⟨_,_,_,p⟩:=x;exact p.lt
 |dK kvs=>obtain⟨_,_,_,_,o,_,_,e,_⟩:=x;exact Heap.lt_size e
 |dT kvs=>obtain⟨_,_,_,_,o,_,_,e,_⟩:=x;exact Heap.lt_size e
 |set S n=>obtain⟨o,_,_,_,e,_⟩:=x;exact Heap.lt_size e
 |ins C dx fs=>obtain⟨_,_,_,e,_⟩:=x;exact Heap.lt_size e
 |own y=>obtain⟨_,e⟩:=x;exact Heap.lt_size e
 |xd fs=>obtain⟨_,⟨_,_,_,e,_⟩,_⟩:=x;exact Heap.lt_size e
 |rng lo hi=>obtain⟨_,_,_,e⟩:=x;exact Heap.lt_size e
 |frz ob u=>obtain⟨e,_⟩:=x;exact Heap.lt_size e
 |tbl ps=>exact Heap.lt_size (show h.get? a=some _ from x)
 |met f y=>exact Heap.lt_size (show h.get? a=some _ from x)
 |ext φ=>obtain⟨_,⟨_,e⟩,_⟩:=x;exact Heap.lt_size e
theorem Paired.mapP:∀{l₁:List α}{l₂:List β},Paired F l₁ l₂->(∀a b,F a b->G a b)->Paired G l₁ l₂
 |_,_,.nil,_=>.nil
 |_,_,.cons r t,f=>.cons (f _ _ r) (Paired.mapP t f)
theorem ObjOk.stay(x:ObjOk P w H h a o)(k:∀b u,(b=a\/H b=some (.own a))->h.get? b=some u->h'.get? b=some u)
 (ho:∀b,H b=some (.own a)->H' b=some (.own a))(ht:∀b xs,H b=some (.tup xs)->H' b=some (.tup xs)):ObjOk P w H' h' a o:=by
 induction o with
 |lst xs=>obtain⟨z,its,n,r,e⟩:=x;exact⟨z,its,n,r,k _ _ (.inl rfl) e⟩
 |tup xs=>obtain⟨z,its,r,ob,e,c⟩:=x;exact⟨z,its,r,ob,k _ _ (.inl rfl) e,c⟩
 |dK kvs=>obtain⟨z,y,vs,r,ob,es,ep,e,c⟩:=x;exact⟨z,y,vs,r,ob,es,ep,k _ _ (.inl rfl) e,c⟩
 |dT kvs=>
  obtain⟨z,y,xs,r,ob,es,ep,e,c⟩:=x
  exact⟨z,y,xs,Paired.mapP r λp q z=>⟨z.1,ht _ _ z.2.1,z.2.2⟩,ob,es,ep,k _ _ (.inl rfl) e,c⟩
 |set S n=>obtain⟨ob,es,ep,t,e,c⟩:=x;exact⟨ob,es,ep,t,k _ _ (.inl rfl) e,c⟩
 |ins C dx fs=>
  obtain⟨d,z,ne,e,mA,⟨od,es,ep,e2,c⟩,r⟩:=x
  exact⟨ho _ d,z,ne,k _ _ (.inl rfl) e,mA,⟨od,es,ep,k _ _ (.inr d) e2,c⟩,r⟩
 |own y=>obtain⟨ob,e⟩:=x;exact⟨ob,k _ _ (.inl rfl) e⟩
 |xd fs=>obtain⟨mA,⟨od,es,ep,e,c⟩,r⟩:=x;exact⟨mA,⟨od,es,ep,k _ _ (.inl rfl) e,c⟩,r⟩
 |rng lo hi=>obtain⟨t,u,v,e⟩:=x;exact⟨t,u,v,k _ _ (.inl rfl) e⟩
 |frz ob u ih=>obtain⟨e,q⟩:=x;exact⟨k _ _ (.inl rfl) e,ih q⟩
 |tbl ps=>
  have e:h.get? a=some {cls:=.none,data:=.fields ps}:=x
  show h'.get? a=some {cls:=.none,data:=.fields ps}
  exact k a _ (.inl rfl) e
 |met f y=>
  have e:h.get? a=some (PySem.W.methodObj (.ref f) (.ref y)):=x
  show h'.get? a=some (PySem.W.methodObj (.ref f) (.ref y))
  exact k a _ (.inl rfl) e
 |ext φ=>obtain⟨p,⟨o,e⟩,st⟩:=x;exact⟨st _ _ p λo q=>k _ _ (.inl rfl) q,⟨o,k _ _ (.inl rfl) e⟩,st⟩
theorem HOk.lt(x:HOk P w H h)(e:H a=some o):a<h.objs.size:=(x a o e).lt
theorem HOk.fresh(x:HOk P w H h)(e:h.objs.size<=a):H a=none:=by
 cases q:H a with
 |none=>rfl
 |some u=>exact absurd (Nat.lt_of_lt_of_le (x.lt q) e) (Nat.lt_irrefl _)
theorem HOk.kept(x:HOk P w H h)(k:∀b u,h.get? b=some u->h'.get? b=some u):HOk P w H h':=λa o e=>
 (x a o e).stay (λb u _ q=>k b u q) (λ_ q=>q) λ_ _ q=>q
theorem HOk.laid(x:HOk P w H h)(k:∀b u,h.get? b=some u->h'.get? b=some u)(hp:h.objs.size<=a)(new:ObjOk P w (upd H a o) h' a o):HOk P w (upd H a o) h':=λb u e=>by
 have hn:=x.fresh hp
 by_cases hb:b=a
 . subst hb;rw[dO]at e;cases e;exact new
 . rw[bY hb]at e
   exact(x b u e).stay (λc v _ q=>k c v q) (λc q=>by rw[bY (fV q hn)];exact q) λc xs q=>by rw[bY (fV q hn)];exact q
end
def Rd(H:Hp)(a:Addr)(u:HO):Prop:=H a=some u\/∃o,H a=some (.frz o u)
theorem Rd.ok(r:Rd H a u)(x:HOk P w H h):ObjOk P w H h a u:=by
 rcases r with r|⟨o,r⟩
 . exact x a u r
 . obtain⟨_,q⟩:=x a _ r
   exact q
def Mut:Option HO->Prop
 |some (.lst _)=>True
 |some (.dK _)=>True
 |some (.dT _)=>True
 |some (.set _ _)=>True
 |some (.ins _ _ _)=>True
 |some (.ext _)=>True
 |_=>False
section
variable {P : Program} {w : World} {H : Hp} {h h' : Heap} {x e : Addr} {o' : HO}
theorem HOk.write(ok:HOk P w H h)(mu:Mut (H x))(he:e=x\/H e=some (.own x))(k:∀b u,b≠e->h.get? b=some u->h'.get? b=some u)(heo:∃u,h'.get? e=some u)
 (new:ObjOk P w (upd H x o') h' x o'):HOk P w (upd H x o') h':=λb u q=>by
 have nown:∀c y,H c=some (.own y)->c≠x:=λc y r z=>by subst z;rw[r]at mu;exact mu
 have ntup:∀c xs,H c=some (.tup xs)->c≠x:=λc xs r z=>by subst z;rw[r]at mu;exact mu
 by_cases hb:b=x
 . subst hb;rw[dO]at q;cases q;exact new
 . rw[bY hb]at q
   by_cases hbe:b=e
   . have q':H b=some (.own x):=by
      rcases he with z|z
      . exact absurd (hbe.trans z) hb
      . rw[hbe];exact z
     rw[q]at q';cases q'
     obtain⟨v,hv⟩:=heo
     exact⟨v,by rw[hbe];exact hv⟩
   . refine(ok b u q).stay (λc v hc r=>k c v ?_ r) (λc r=>by rw[bY (nown c b r)];exact r) λc xs r=>by rw[bY (ntup c xs r)];exact r
     rcases hc with rfl|hc
     . exact hbe
     . rintro rfl
       rcases he with z|z
       . exact nown c b hc z
       . rw[hc]at z;cases z;exact hb rfl
end
structure Un (fs ex:List Addr) (H H':Hp) (h h':Heap):Prop where
 keep:∀b o,h.get? b=some o->H b=none->b∉fs->b∉ex->h'.get? b=some o
 slot:∀b o,h.get? b=some o->H b=none->b∈fs->b∉ex->∃sl,h'.get? b=some {o with slots:=sl}
 free:∀b o,h.get? b=some o->H b=none->b∉ex->H' b=none
 there:∀b o,h.get? b=some o->b∉ex->∃o',h'.get? b=some o'
 tups:∀b xs,H b=some (.tup xs)->H' b=some (.tup xs)
 frzs:∀b o u,H b=some (.frz o u)->H' b=some (.frz o u)
 tbls:∀b ps,H b=some (.tbl ps)->∃more,H' b=some (.tbl (ps++more))
section
variable {fs fs' ex ex' : List Addr} {H H1 H2 : Hp} {h h1 h2 h' : Heap} {a x e : Addr} {o : HO}
theorem Un.any(u:Un fs ex H H1 h h1)(q:h.get? b=some ob)(n:H b=none)(hx:b∉ex):∃sl,h1.get? b=some {ob with slots:=sl}:=by
 by_cases hb:b∈fs
 . exact u.slot b ob q n hb hx
 . exact⟨ob.slots,u.keep b ob q n hb hx⟩
theorem Un.kept(k:∀b u,h.get? b=some u->h'.get? b=some u):Un fs ex H H h h':=
 ⟨λb ob q _ _ _=>k b ob q,λb ob q _ _ _=>⟨ob.slots,k b ob q⟩,λ_ _ _ n _=>n,λb ob q _=>⟨ob,k b ob q⟩,λ_ _ q=>q,λ_ _ _ q=>q,λ_ ps q=>⟨#[],by rw[q];simp⟩⟩
theorem Un.refl:Un fs ex H H h h:=Un.kept λ_ _ q=>q
theorem Un.laid(k:∀b u,h.get? b=some u->h'.get? b=some u)(hp:h.objs.size<=a)(hn:H a=none):Un fs ex H (upd H a o) h h' where
 keep:=λb u q _ _ _=>k b u q
 slot:=λb u q _ _ _=>⟨u.slots,k b u q⟩
 free:=λb u q n _=>by rw[bY (Nat.ne_of_lt (Nat.lt_of_lt_of_le (Heap.lt_size q) hp))];exact n
 there:=λb u q _=>⟨u,k b u q⟩
 tups:=λb xs q=>by rw[bY (fV q hn)];exact q
 frzs:=λb u xs q=>by rw[bY (fV q hn)];exact q
 tbls:=λb ps q=>⟨#[],by rw[bY (fV q hn),q];simp⟩
theorem Un.write(mu:Mut (H x))(he:e=x\/H e=some (.own x))(k:∀b u,b≠e->h.get? b=some u->h'.get? b=some u)(heo:∃u,h'.get? e=some u):Un fs ex H (upd H x o) h h':=by
 have hx:∀b,H b=none->b≠x:=λb n z=>by subst z;rw[n]at mu;exact mu
 have hb:∀b,H b=none->b≠e:=λb n z=>by
  subst z
  rcases he with r|r
  . exact hx b n r
  . rw[n]at r;cases r
 have hm:∀b u,H b=some u->¬Mut (some u)->b≠x:=λb u q nm z=>by subst z;rw[q]at mu;exact nm mu
 refine⟨λb u q n _ _=>k b u (hb b n) q,λb u q n _ _=>⟨u.slots,k b u (hb b n) q⟩,λb u q n _=>by rw[bY (hx b n)];exact n,λb u q _=>?_,
  λb xs q=>by rw[bY (hm b _ q λz=>z)];exact q,λb u xs q=>by rw[bY (hm b _ q λz=>z)];exact q,λb ps q=>⟨#[],by rw[bY (hm b _ q λz=>z),q];simp⟩⟩
 by_cases hbe:b=e
 . subst hbe;exact heo
 . exact⟨u,k b u hbe q⟩
end
def trk(h:Heap)(H:Hp):List Addr:=(List.range h.objs.size).filter λa=>(H a).isSome
def uL(h:Heap)(H:Hp):Heap:=PySem.W.hideAll h (trk h H)
theorem bp5(h:Heap)(H:Hp):(uL h H).objs.size=h.objs.size:=PySem.W.hideAll_size _ _
theorem bi9(e:h.get? b=some o)(n:H b=none):(uL h H).get? b=some o:=
 PySem.W.hideAll_get _ e λhm=>by
  have q:(H b).isSome=true:=(List.mem_filter.mp hm).2
  rw[n]at q;simp at q
theorem cx6(e:(uL h H).get? b=some o):h.get? b=some o/\H b=none:=by
 have e':h.get? b=some o:=PySem.W.of_hideAll (trk h H) e
 refine⟨e',?_⟩
 cases q:H b with
 |none=>rfl
 |some x=>
  have hm:b∈trk h H:=List.mem_filter.mpr ⟨List.mem_range.mpr (Heap.lt_size e'),by simp[q]⟩
  have z:(uL h H).get? b=none:=PySem.W.hideAll_none (trk h H) hm
  rw[z]at e;cases e
end L2
namespace L2
open PySem PySem.Spec PyProof.Rows
structure Mod (K:PySem.W.Frag) (mg:Str->Option Value) (base:Heap):Prop where
 kin:K.In base
 glob:base.Ns mainGlobals mg
 blt:∃mb,base.Ns builtinsNs mb/\∀x:Str,x≠"__name__"->mb x=bootBuiltins x
 nolimit:base.NoLimit
structure Cx where
 prog:Program
 w:World
 K:PySem.W.Frag
 mg:Str->Option Value
 base:Heap
 A:Around
 N:List Str
 s₀:Shared
 H₀:Hp
 env:Env
 outer:List Env
 stack:List Env
 ex:List Addr
 fn:Str->Bool
 calm:Bool
 pn:List (Addr×Obj)
 xe:Value->Shared->Prop
def sV(l:List Env):List Addr:=l.filterMap (·.frame)
abbrev Cx.fs(X:Cx):List Addr:=sV X.outer
def Vis(sc:Scope)(x:Str):Prop:=sc.names.lookup x=some .local\/sc.names.lookup x=some .cell\/sc.names.lookup x=some .free
def Loc(sc:Scope)(x:Str):Prop:=sc.names.lookup x=some .local\/sc.names.lookup x=some .cell
def dc7(env:Env)(h:Heap)(m:Str->Option Value)(x:Str)(u:Value):Prop:=
 (env.kindOf x=some .local/\m x=some u)\/((env.kindOf x=some .cell\/env.kindOf x=some .free)/\∃c,env.cells.lookup x=some c/\h.IsCell c (some u))
structure Cx.Ok (X:Cx):Prop where
 mod:Mod X.K X.mg X.base
 kind:X.env.scope.kind=.function
 glob:X.env.globals=mainGlobals
 blt:X.env.builtins=builtinsNs
 above:X.s₀.heap.objs.size<=X.env.locals
 inj:∀x y c,X.env.cells.lookup x=some c->X.env.cells.lookup y=some c->x=y
 has:∀x,(X.env.kindOf x=some .cell\/X.env.kindOf x=some .free)->∃c,X.env.cells.lookup x=some c
 cab:∀x c,X.fn x=true->X.env.cells.lookup x=some c->X.s₀.heap.objs.size<=c
 hd:X.calm=true->X.A.handled=none
 frames:X.A.frames=some X.stack
 stk:X.stack=X.outer\/(X.stack=X.env::X.outer/\X.env.frame=some X.env.locals)
 exf:∀b∈X.ex,b≠X.env.locals/\∀x c,X.env.cells.lookup x=some c->c≠b
 bs:∀b o,X.base.get? b=some o->X.s₀.heap.get? b=some o/\X.H₀ b=none
 bsz:X.base.objs.size<=X.s₀.heap.objs.size
 noex:∀b o,X.base.get? b=some o->b∉X.ex
 exfs:∀b∈X.ex,b∉X.fs
 funs:X.s₀.heap.FunFrames X.base X.outer
 frf:∀b∈X.fs,X.H₀ b=none
structure Inv (X:Cx) (pins:List (Addr×Obj)) (σ:List (Option V)) (H:Hp) (s:Shared):Prop where
 ok:X.Ok
 os:s.os=X.s₀.os
 bare:AllBare s.gens
 base:Un X.fs X.ex X.H₀ H X.s₀.heap s.heap
 loc:∃m,s.heap.Ns X.env.locals m/\∀(i:Nat)(x:Str)(v:V),X.N[i]?=some x->σ[i]?=some (some v)->Vis X.env.scope x->∃u,RelV v u/\dc7 X.env s.heap m x u
 cell:∀x c,X.env.cells.lookup x=some c->∃v,s.heap.IsCell c v
 free:H X.env.locals=none
 freeC:∀x c,X.env.cells.lookup x=some c->H c=none
 pin:∀p∈X.pn++pins,s.heap.get? p.1=some p.2/\H p.1=none/\p.1≠X.env.locals/\p.1∉X.fs/\∀v,p.2.data≠ .cell v
 hok:HOk X.prog X.w H s.heap
 len:σ.length=X.N.length
section
variable {X : Cx} {pins : List (Addr × Obj)} {σ : List (Option V)} {H H' : Hp} {s : Shared} {h' : Heap}
theorem Cx.Ok.nofr(ok:X.Ok)(e:X.base.get? b=some o):b∉X.fs:=λhb=>by
 have:=(ok.funs.mem hb).1
 rw[e]at this;cases this
theorem Inv.bs(I:Inv X pins σ H s):∀b o,X.base.get? b=some o->s.heap.get? b=some o/\H b=none:=λb o e=>
 ⟨I.base.keep b o (I.ok.bs b o e).1 (I.ok.bs b o e).2 (I.ok.nofr e) (I.ok.noex b o e),I.base.free b o (I.ok.bs b o e).1 (I.ok.bs b o e).2 (I.ok.noex b o e)⟩
theorem Inv.bk(I:Inv X pins σ H s):∀b o,X.base.get? b=some o->s.heap.get? b=some o:=λb o e=>(I.bs b o e).1
theorem Inv.mod(I:Inv X pins σ H s):Mod X.K X.mg X.base:=I.ok.mod
theorem Inv.kIn(I:Inv X pins σ H s):X.K.In s.heap:=I.ok.mod.kin.keeps I.bk
theorem Inv.fr(I:Inv X pins σ H s):∃m,Fr X.base X.env.locals s.heap m:=
 let⟨m,hn,_⟩:=I.loc
 ⟨m,hn,I.bk,Nat.le_trans I.ok.bsz I.ok.above⟩
theorem Inv.lt(I:Inv X pins σ H s):X.env.locals<s.heap.objs.size:=let⟨_,hn,_⟩:=I.loc;hn.lt
theorem Inv.sz(I:Inv X pins σ H s):X.s₀.heap.objs.size<=s.heap.objs.size:=Nat.le_trans I.ok.above (Nat.le_of_lt I.lt)
theorem Inv.nofs(I:Inv X pins σ H s)(h:s.heap.objs.size<=a):a∉X.fs:=λhb=>by
 obtain⟨_,o,ho,_⟩:=I.ok.funs.mem hb
 exact absurd (Nat.lt_of_lt_of_le (Heap.lt_size ho) (Nat.le_trans I.sz h)) (Nat.lt_irrefl _)
theorem Inv.cne(I:Inv X pins σ H s):∀x c,X.env.cells.lookup x=some c->c≠X.env.locals:=λx c e z=>by
 obtain⟨v,o,ho,hd⟩:=I.cell x c e
 obtain⟨m,⟨o',es,ep,ho',hd',_⟩,_⟩:=I.loc
 rw[z,ho']at ho;cases ho;rw[hd']at hd;cases hd
theorem Inv.funs(I:Inv X pins σ H s):s.heap.FunFrames X.base X.outer:=by
 have all:∀(l:List Env),(∀b∈sV l,b∈X.fs)->X.s₀.heap.FunFrames X.base l->s.heap.FunFrames X.base l:=by
  intro l
  induction l with
  |nil=>intro _ _;trivial
  |cons env r ih=>
   intro hs hl
   obtain⟨hk,⟨L,o,hf,hn,ho,hd⟩,hr⟩:=hl
   have hL:L∈X.fs:=hs L (by unfold sV;rw[List.filterMap_cons,hf];exact List.mem_cons_self)
   obtain⟨sl,e⟩:=I.base.slot L o ho (I.ok.frf L hL) hL λz=>I.ok.exfs L z hL
   exact⟨hk,⟨L,_,hf,hn,e,hd⟩,ih (λb hb=>hs b (by unfold sV;rw[List.filterMap_cons,hf];exact List.mem_cons_of_mem _ hb)) hr⟩
 exact all X.outer (λ_ hb=>hb) I.ok.funs
theorem Inv.stack(I:Inv X pins σ H s):s.heap.FunFrames X.base X.stack:=by
 rcases I.ok.stk with e|⟨e,hf⟩
 . rw[e];exact I.funs
 . rw[e]
   obtain⟨m,hn,_⟩:=I.loc
   refine .cons (by rw[I.ok.kind];decide) hf hn ?_ I.funs
   exact Heap.get?_none_of_le (Nat.le_trans I.ok.bsz I.ok.above)
theorem Inv.stkSub(I:Inv X pins σ H s):∀b∈sV X.stack,b∈X.env.locals::X.fs:=λb hb=>by
 rcases I.ok.stk with e|⟨e,hf⟩
 . rw[e]at hb;exact List.mem_cons_of_mem _ hb
 . rw[e]at hb
   unfold sV at hb
   rw[List.filterMap_cons,hf]at hb
   exact hb
theorem Inv.stkFree(I:Inv X pins σ H s):∀b∈sV X.stack,H b=none:=λb hb=>by
 rcases List.mem_cons.mp (I.stkSub b hb)with e|hb
 . rw[e];exact I.free
 . obtain⟨_,o,ho,_⟩:=I.ok.funs.mem hb
   exact I.base.free b o ho (I.ok.frf b hb) λz=>I.ok.exfs b z hb
theorem Inv.step{g':Array GenState}{t':Nat}{d':Drawn}{ch:List Addr}(I:Inv X pins σ H s)
 (hch:∀b∈ch,(b∈X.ex\/X.s₀.heap.objs.size<=b)/\b≠X.env.locals/\(∀x c,X.env.cells.lookup x=some c->c≠b)/\∀p∈X.pn++pins,p.1≠b)
 (keep:∀b o,b≠X.env.locals->b∉X.fs->b∉ch->s.heap.get? b=some o->H b=none->h'.get? b=some o)
 (slot:∀b o,b≠X.env.locals->b∈X.fs->b∉ch->s.heap.get? b=some o->H b=none->∃sl,h'.get? b=some {o with slots:=sl})(free:∀b o,b∉ch->s.heap.get? b=some o->H b=none->H' b=none)
 (there:∀b o,b∉ch->s.heap.get? b=some o->∃o',h'.get? b=some o')
 (tups:∀b xs,H b=some (.tup xs)->H' b=some (.tup xs))(frzs:∀b o u,H b=some (.frz o u)->H' b=some (.frz o u))(tbls:∀b ps,H b=some (.tbl ps)->∃more,H' b=some (.tbl (ps++more)))
 (ns:∀m,s.heap.Ns X.env.locals m->h'.Ns X.env.locals m)(hok:HOk X.prog X.w H' h')(hg:AllBare g'):
 Inv X pins σ H' {s with heap:=h',gens:=g',drawn:=d',toks:=t'}:=by
 have neL:∀b o,X.s₀.heap.get? b=some o->b≠X.env.locals:=λb o e=>Nat.ne_of_lt (Nat.lt_of_lt_of_le (Heap.lt_size e) I.ok.above)
 have neC:∀b o,X.s₀.heap.get? b=some o->b∉X.ex->b∉ch:=λb o e hx hb=>by
  rcases(hch b hb).1 with z|z
  . exact hx z
  . exact absurd (Nat.lt_of_lt_of_le (Heap.lt_size e) z) (Nat.lt_irrefl _)
 have cellK:∀x c,X.env.cells.lookup x=some c->∀v,s.heap.IsCell c v->h'.IsCell c v:=λx c e v ⟨o,ho,hd⟩=>by
  have nch:c∉ch:=λz=>(hch c z).2.2.1 x c e rfl
  by_cases hc:c∈X.fs
  . obtain⟨sl,q⟩:=slot c o (I.cne x c e) hc nch ho (I.freeC x c e)
    exact⟨_,q,hd⟩
  . exact⟨o,keep c o (I.cne x c e) hc nch ho (I.freeC x c e),hd⟩
 refine⟨I.ok,I.os,hg,⟨λb o e n hb hx=>?_,λb o e n hb hx=>?_,λb o e n hx=>?_,λb o e hx=>?_,λb xs e=>tups b xs (I.base.tups b xs e),λb o xs e=>frzs b o xs (I.base.frzs b o xs e),λb ps e=>?_⟩,?_,λx c e=>?_,?_,λx c e=>?_,λp hp=>?_,hok,I.len⟩
 . exact keep b o (neL b o e) hb (neC b o e hx) (I.base.keep b o e n hb hx) (I.base.free b o e n hx)
 . obtain⟨sl,e1⟩:=I.base.slot b o e n hb hx
   obtain⟨sl',e2⟩:=slot b _ (neL b o e) hb (neC b o e hx) e1 (I.base.free b o e n hx)
   exact⟨sl',e2⟩
 . obtain⟨o',e1⟩:=I.base.there b o e hx
   exact free b o' (neC b o e hx) e1 (I.base.free b o e n hx)
 . obtain⟨o',e1⟩:=I.base.there b o e hx
   exact there b o' (neC b o e hx) e1
 . obtain⟨m1,e1⟩:=I.base.tbls b ps e
   obtain⟨m2,e2⟩:=tbls b _ e1
   exact⟨m1++m2,by rw[e2,Array.append_assoc]⟩
 . obtain⟨m,hn,hl⟩:=I.loc
   refine⟨m,ns m hn,λi x v e1 e2 e3=>?_⟩
   obtain⟨u,r,l⟩:=hl i x v e1 e2 e3
   refine⟨u,r,?_⟩
   rcases l with l|⟨k,c,e,z⟩
   . exact .inl l
   . exact .inr ⟨k,c,e,cellK x c e _ z⟩
 . obtain⟨v,z⟩:=I.cell x c e
   exact⟨v,cellK x c e v z⟩
 . obtain⟨m,⟨o,_,_,ho,_⟩,_⟩:=I.loc
   exact free _ o (λz=>(hch _ z).2.1 rfl) ho I.free
 . obtain⟨v,o,ho,hd⟩:=I.cell x c e
   exact free c o (λz=>(hch c z).2.2.1 x c e rfl) ho (I.freeC x c e)
 . obtain⟨e,n,ne,nf,d⟩:=I.pin p hp
   have nch:p.1∉ch:=λz=>(hch p.1 z).2.2.2 p hp rfl
   exact⟨keep p.1 p.2 ne nf nch e n,free p.1 p.2 nch e n,ne,nf,d⟩
theorem Inv.un{t':Nat}(I:Inv X pins σ H s)(u:Un X.fs [] H H' s.heap h')(hok:HOk X.prog X.w H' h'):Inv X pins σ H' {s with heap:=h',toks:=t'}:=by
 obtain⟨m,⟨o,es,ep,ho,r⟩,_⟩:=id I.loc
 obtain⟨sl,hL⟩:=u.any ho I.free (by simp)
 exact I.step (g':=s.gens) (d':=s.drawn) (ch:=[]) (λ_ z=>nomatch z) (λb o _ hb _ e n=>u.keep b o e n hb (by simp)) (λb o _ hb _ e n=>u.slot b o e n hb (by simp)) (λb o _ e n=>u.free b o e n (by simp)) (λb o _ e=>u.there b o e (by simp)) u.tups u.frzs u.tbls (λm' hm=>by
  obtain⟨o',es',ep',ho',r'⟩:=hm
  rw[ho]at ho';cases ho'
  exact⟨_,es',ep',hL,r'⟩) hok I.bare
theorem Inv.call{g':Array GenState}{t':Nat}{d':Drawn}{ch:List Addr}(I:Inv X pins σ H s)(u:Un (sV X.stack) ch H H' s.heap h')(hok:HOk X.prog X.w H' h')(hg:AllBare g')
 (hch:∀b∈ch,(b∈X.ex\/X.s₀.heap.objs.size<=b)/\b≠X.env.locals/\(∀x c,X.env.cells.lookup x=some c->c≠b)/\∀p∈X.pn++pins,p.1≠b):
 Inv X pins σ H' {s with heap:=h',gens:=g',drawn:=d',toks:=t'}:=by
 obtain⟨m,⟨o,es,ep,ho,r⟩,_⟩:=id I.loc
 obtain⟨sl,hL⟩:=u.any ho I.free λz=>(hch _ z).2.1 rfl
 exact I.step (ch:=ch) hch (λb o hL hb hc e n=>u.keep b o e n (λz=>(List.mem_cons.mp (I.stkSub b z)).elim hL hb) hc) (λb o _ _ hc e n=>u.any e n hc) (λb o hc e n=>u.free b o e n hc) (λb o hc e=>u.there b o e hc) u.tups u.frzs u.tbls (λm' hm=>by
  obtain⟨o',es',ep',ho',r'⟩:=hm
  rw[ho]at ho';cases ho'
  exact⟨_,es',ep',hL,r'⟩) hok hg
theorem Inv.turned{t':Nat}{it:Addr}(I:Inv X pins σ H s)(k:∀b o,b≠it->s.heap.get? b=some o->h'.get? b=some o)(hn:H it=none)(hL:it≠X.env.locals)
 (h1:it∈X.ex\/X.s₀.heap.objs.size<=it)(h2:∀x c,X.env.cells.lookup x=some c->c≠it)(h3:∀p∈X.pn++pins,p.1≠it):Inv X pins σ H {s with heap:=h',toks:=t'}:=by
 have nit:∀b u,H b=some u->b≠it:=λb u e z=>by rw[z,hn]at e;cases e
 refine I.step (g':=s.gens) (d':=s.drawn) (ch:=[it]) (λb hb=>?_) (λb o _ _ hc e _=>k b o (λz=>hc (by simp[z])) e) (λb o _ _ hc e _=>⟨o.slots,k b o (λz=>hc (by simp[z])) e⟩) (λ_ _ _ _ n=>n)
  (λb o hc e=>⟨o,k b o (λz=>hc (by simp[z])) e⟩) (λ_ _ e=>e) (λ_ _ _ e=>e) (λb ps e=>⟨#[],by rw[e];simp⟩) (λm hm=>?_) (λb u e=>?_) I.bare
 . have e:b=it:=by simpa using hb
   subst e
   exact⟨h1,hL,h2,h3⟩
 . obtain⟨o,es,ep,ho,r⟩:=hm
   exact⟨o,es,ep,k _ o (Ne.symm hL) ho,r⟩
 . refine(I.hok b u e).stay (λc v hc q=>k c v ?_ q) (λ_ q=>q) λ_ _ q=>q
   rcases hc with z|z
   . rw[z];exact nit b u e
   . exact nit c _ z
theorem Inv.tok(I:Inv X pins σ H s)(t:Nat):Inv X pins σ H {s with toks:=t}:=I.un (h':=s.heap) (t':=t) Un.refl I.hok
theorem Inv.kept(I:Inv X pins σ H s)(k:∀b u,s.heap.get? b=some u->h'.get? b=some u):Inv X pins σ H {s with heap:=h',toks:=t'}:=I.un (Un.kept k) (I.hok.kept k)
theorem Inv.laid(I:Inv X pins σ H s)(k:∀b u,s.heap.get? b=some u->h'.get? b=some u)(hp:s.heap.objs.size<=a)(new:ObjOk X.prog X.w (upd H a o) h' a o):
 Inv X pins σ (upd H a o) {s with heap:=h',toks:=t'}:=I.un (Un.laid k hp (I.hok.fresh hp)) (I.hok.laid k hp new)
theorem Inv.write(I:Inv X pins σ H s)(mu:Mut (H x))(he:e=x\/H e=some (.own x))(k:∀b u,b≠e->s.heap.get? b=some u->h'.get? b=some u)(heo:∃u,h'.get? e=some u)
 (new:ObjOk X.prog X.w (upd H x o) h' x o):Inv X pins σ (upd H x o) {s with heap:=h',toks:=t'}:=I.un (Un.write mu he k heo) (I.hok.write mu he k heo new)
theorem Inv.weak(I:Inv X pins σ H s)(hl:σ'.length=σ.length)(w:∀(i:Nat) v,σ'[i]?=some (some v)->σ[i]?=some (some v)):Inv X pins σ' H s:=
 ⟨I.ok,I.os,I.bare,I.base,let⟨m,hn,hl'⟩:=I.loc;⟨m,hn,λi x v e1 e2 e3=>hl' i x v e1 (w i v e2) e3⟩,I.cell,I.free,I.freeC,I.pin,I.hok,hl.trans I.len⟩
theorem Inv.pins_of(I:Inv X pins σ H s)(h:∀p∈pins',s.heap.get? p.1=some p.2/\H p.1=none/\p.1≠X.env.locals/\p.1∉X.fs/\∀v,p.2.data≠ .cell v):Inv X pins' σ H s:=
 ⟨I.ok,I.os,I.bare,I.base,I.loc,I.cell,I.free,I.freeC,λp hp=>(List.mem_append.mp hp).elim (λz=>I.pin p (List.mem_append_left _ z)) (h p),I.hok,I.len⟩
theorem ap9{N:List Str}(hN:N.Nodup){i j:Nat}{x:Str}(a:N[i]?=some x)(b:N[j]?=some x):i=j:=by
 obtain⟨h1,e1⟩:=List.getElem?_eq_some_iff.mp a
 obtain⟨h2,e2⟩:=List.getElem?_eq_some_iff.mp b
 exact(List.getElem_inj hN).mp (e1.trans e2.symm)
theorem au4 {M : Model} {A : Around} {E : Value → Shared → Prop} {i : Nat} {x : Str} {v : V} {u : Value} {Q : Unit → Shared → Prop} (I : Inv X pins σ H s) (hN : X.N.Nodup) (hi : X.N[i]? = some x) (hx : Loc X.env.scope x) (r : RelV v u)
    (h : ∀ s', Inv X pins (σ.set i (some v)) H s' → (∃ a, Heap.SameBut a s.heap s'.heap ∧ (a = X.env.locals ∨ X.env.cells.lookup x = some a)) → Q () s') (hf : X.fn x = true ∨ X.env.scope.names.lookup x = some .local := by first | exact .inl rfl | exact .inr rfl | assumption) : wpAny M A (storeName X.env x u) Q E s := by
  obtain ⟨m, hn, hl⟩ := id I.loc
  have hcls : (X.env.scope.kind == .class || (X.env.scope.kind == .module && X.env.locals != X.env.globals)) = false := by rw [I.ok.kind]; rfl
  have hiσ : i < σ.length := by rw [I.len]; exact (List.getElem?_eq_some_iff.mp hi).1
  have cne := I.cne
  have tracked : ∀ {a : Addr} {h' : Heap}, (∃ o, s.heap.get? a = some o ∧ H a = none) → Heap.SameBut a s.heap h' → HOk X.prog X.w H h' := fun {a h'} ha hs b ob e => by
    obtain ⟨_, _, hfree⟩ := ha
    refine (I.hok b ob e).stay (fun c w' hc q => (hs.2 c ?_).trans q) (fun _ q => q) fun _ _ q => q
    rintro rfl
    rcases hc with rfl | hc
    · rw [hfree] at e; cases e
    · rw [hfree] at hc; cases hc
  rcases hx with hk | hk
  · refine wpAny_storeName_local hk hn (fun h' hn' hs => ?_) hcls
    obtain ⟨oL, _, _, hoL, _⟩ := id hn
    refine h _ ⟨I.ok, I.os, I.bare, ⟨fun b o e n hb hx => ?_, fun b o e n hb hx => ?_, I.base.free, fun b o e hx => ?_, I.base.tups, I.base.frzs, I.base.tbls⟩, ⟨_, hn', fun j y v' e1 e2 e3 => ?_⟩, fun y c e => ?_, I.free, I.freeC, fun p hp => ?_, tracked ⟨oL, hoL, I.free⟩ hs, by simpa using I.len⟩ ⟨_, hs, .inl rfl⟩
    · exact (hs.2 b (Nat.ne_of_lt (Nat.lt_of_lt_of_le (Heap.lt_size e) I.ok.above))).trans (I.base.keep b o e n hb hx)
    · obtain ⟨sl, e1⟩ := I.base.slot b o e n hb hx
      exact ⟨sl, (hs.2 b (Nat.ne_of_lt (Nat.lt_of_lt_of_le (Heap.lt_size e) I.ok.above))).trans e1⟩
    · obtain ⟨o', e1⟩ := I.base.there b o e hx
      exact ⟨o', (hs.2 b (Nat.ne_of_lt (Nat.lt_of_lt_of_le (Heap.lt_size e) I.ok.above))).trans e1⟩
    · by_cases hj : j = i
      · subst hj
        rw [hi] at e1; cases e1
        rw [List.getElem?_set_self hiσ] at e2
        cases e2
        exact ⟨u, r, .inl ⟨hk, by simp⟩⟩
      · rw [List.getElem?_set_ne (Ne.symm hj)] at e2
        obtain ⟨u', r', q⟩ := hl j y v' e1 e2 e3
        refine ⟨u', r', ?_⟩
        rcases q with ⟨k, e⟩ | ⟨k, c, e, z⟩
        · refine .inl ⟨k, ?_⟩
          have : y ≠ x := fun e => hj (ap9 hN e1 (e ▸ hi))
          simp [this, e]
        · exact .inr ⟨k, c, e, z.sameBut hs (cne y c e)⟩
    · obtain ⟨w', z⟩ := I.cell y c e
      exact ⟨w', z.sameBut hs (cne y c e)⟩
    · obtain ⟨e, n, ne, nf, d⟩ := I.pin p hp
      exact ⟨(hs.2 p.1 ne).trans e, n, ne, nf, d⟩
  · have hfn : X.fn x = true := by
      rcases hf with z | z
      · exact z
      · rw [z] at hk; cases hk
    obtain ⟨c, hc⟩ := I.ok.has x (.inl hk)
    obtain ⟨w', z⟩ := I.cell x c hc
    refine wpAny_storeName_cell I.ok.kind hk hc z (fun h' hc' hs => ?_)
    obtain ⟨oc, hoc, hocd⟩ := id z
    refine h { s with heap := h' } ⟨I.ok, I.os, I.bare, ⟨fun b o e n hb hx => ?_, fun b o e n hb hx => ?_, I.base.free, fun b o e hx => ?_, I.base.tups, I.base.frzs, I.base.tbls⟩, ⟨m, hn.sameBut hs (Ne.symm (cne x c hc)), fun j y v' e1 e2 e3 => ?_⟩, fun y c' e => ?_, I.free, I.freeC, fun p hp => ?_, tracked ⟨oc, hoc, I.freeC x c hc⟩ hs, by simpa using I.len⟩ ⟨c, hs, .inr hc⟩
    · exact (hs.2 b (Nat.ne_of_lt (Nat.lt_of_lt_of_le (Heap.lt_size e) (I.ok.cab x c hfn hc)))).trans (I.base.keep b o e n hb hx)
    · obtain ⟨sl, e1⟩ := I.base.slot b o e n hb hx
      exact ⟨sl, (hs.2 b (Nat.ne_of_lt (Nat.lt_of_lt_of_le (Heap.lt_size e) (I.ok.cab x c hfn hc)))).trans e1⟩
    · obtain ⟨o', e1⟩ := I.base.there b o e hx
      exact ⟨o', (hs.2 b (Nat.ne_of_lt (Nat.lt_of_lt_of_le (Heap.lt_size e) (I.ok.cab x c hfn hc)))).trans e1⟩
    · by_cases hj : j = i
      · subst hj
        rw [hi] at e1; cases e1
        rw [List.getElem?_set_self hiσ] at e2
        cases e2
        exact ⟨u, r, .inr ⟨.inl hk, c, hc, hc'⟩⟩
      · rw [List.getElem?_set_ne (Ne.symm hj)] at e2
        obtain ⟨u', r', q⟩ := hl j y v' e1 e2 e3
        refine ⟨u', r', ?_⟩
        rcases q with q | ⟨k, c', e, z'⟩
        · exact .inl q
        · refine .inr ⟨k, c', e, z'.sameBut hs ?_⟩
          rintro rfl
          exact hj (ap9 hN e1 (I.ok.inj _ _ _ e hc ▸ hi))
    · by_cases hcc : c' = c
      · subst hcc; exact ⟨_, hc'⟩
      · obtain ⟨w2, z2⟩ := I.cell y c' e
        exact ⟨w2, z2.sameBut hs hcc⟩
    · obtain ⟨e, n, ne, nf, d⟩ := I.pin p hp
      refine ⟨(hs.2 p.1 ?_).trans e, n, ne, nf, d⟩
      intro q
      rw [q, hoc] at e
      have q' : oc = p.2 := Option.some.inj e
      exact d w' (by rw [← q']; exact hocd)
theorem az7(I:Inv X pins σ H s)(hN:X.N.Nodup)(hi:X.N[i]?=some x)(hx:Loc X.env.scope x)(r:RelV v u)
 (h:∀s',Inv X pins (σ.set i (some v)) H s'->Q () s')(hf:X.fn x=true\/X.env.scope.names.lookup x=some .local:=by first|exact .inl rfl|exact .inr rfl|assumption):wpAny M A (storeName X.env x u) Q E s:=
 au4 I hN hi hx r (λs' I' _=>h s' I') hf
theorem Inv.call'(I:Inv X pins σ H s)(ho:s'.os=s.os)(u:Un (sV X.stack) ch H H' s.heap s'.heap)(hok:HOk X.prog X.w H' s'.heap)(hg:AllBare s'.gens)
 (hch:∀b∈ch,(b∈X.ex\/X.s₀.heap.objs.size<=b)/\b≠X.env.locals/\(∀x c,X.env.cells.lookup x=some c->c≠b)/\∀p∈X.pn++pins,p.1≠b):Inv X pins σ H' s':=by
 obtain⟨h',g',d',t',o'⟩:=s'
 have e:o'=s.os:=ho
 subst e
 exact I.call (g':=g') (t':=t') (d':=d') u hok hg hch
end
abbrev XK:=Value->Option Addr->Hp->Prop
abbrev St:=List (Option V)
abbrev VK:=V->Hp->Prop
abbrev TE:=St->Hp->VK->Prop
abbrev TT:=St->Hp->(Bool->Hp->Prop)->Prop
abbrev TA:=St->Hp->(List V->Hp->Prop)->Prop
structure zH where
 nx:St->Hp->Prop
 rt:VK
 bk:St->Hp->Prop:=λ_ _=>False
 ct:St->Hp->Prop:=λ_ _=>False
abbrev TS:=zH->St->Hp->Prop
def EP(X:Cx)(pins:List (Addr×Obj))(σ:St)(Q:VK)(u:Value)(s':Shared):Prop:=∃v H',Inv X pins σ H' s'/\RelV v u/\Q v H'
def TP(X:Cx)(pins:List (Addr×Obj))(σ:St)(Q:Bool->Hp->Prop)(b:Bool)(s':Shared):Prop:=∃H',Inv X pins σ H' s'/\Q b H'
def AP(X:Cx)(pins:List (Addr×Obj))(σ:St)(Q:List V->Hp->Prop)(us:List Value)(s':Shared):Prop:=∃vs H',Inv X pins σ H' s'/\Vals vs us/\Q vs H'
def SP(X:Cx)(pins:List (Addr×Obj))(D:zH)(f:Flow)(s':Shared):Prop:=
 match f with
 |.next=>∃σ' H',Inv X pins σ' H' s'/\D.nx σ' H'
 |.brk=>∃σ' H',Inv X pins σ' H' s'/\D.bk σ' H'
 |.cont=>∃σ' H',Inv X pins σ' H' s'/\D.ct σ' H'
 |.ret u=>∃v σ' H',Inv X pins σ' H' s'/\RelV v u/\D.rt v H'
def PE(X:Cx)(e:Expr)(t:TE):Prop:=
 ∀⦃pins:List (Addr×Obj)⦄ (s:Shared)(σ:St)(H:Hp)(Q:VK),Inv X pins σ H s->t σ H Q->wpAny (model X.prog X.w) X.A (eval e X.env) (EP X pins σ Q) X.xe s
def PT(X:Cx)(e:Expr)(t:TT):Prop:=
 ∀⦃pins:List (Addr×Obj)⦄ (s:Shared)(σ:St)(H:Hp)(Q:Bool->Hp->Prop),Inv X pins σ H s->t σ H Q->wpAny (model X.prog X.w) X.A (isTrue e X.env (eval e X.env)) (TP X pins σ Q) X.xe s
def PW(X:Cx)(e:Expr)(t:TT):Prop:=
 ∀⦃whole:Sem Value⦄ (pins:List (Addr×Obj))(s:Shared)(σ:St)(H:Hp)(Q:Bool->Hp->Prop),Inv X pins σ H s->t σ H Q->wpAny (model X.prog X.w) X.A (isTrue e X.env whole) (TP X pins σ Q) X.xe s
theorem PW.pt(h:PW X e t):PT X e t:=λ_ s σ H Q I q=>h _ s σ H Q I q
def PA(X:Cx)(es:List Expr)(t:TA):Prop:=
 ∀⦃pos:Pos⦄ (pins:List (Addr×Obj))(s:Shared)(σ:St)(H:Hp)(Q:List V->Hp->Prop),Inv X pins σ H s->t σ H Q->wpAny (model X.prog X.w) X.A (spliced (backTo pos (starEach es X.env))) (AP X pins σ Q) X.xe s
def PS(X:Cx)(st:Stmt)(t:TS):Prop:=
 ∀⦃pins:List (Addr×Obj)⦄ (s:Shared)(σ:St)(H:Hp)(D:zH),Inv X pins σ H s->t D σ H->wpAny (model X.prog X.w) X.A (exec st X.env) (SP X pins D) X.xe s
def PSs(X:Cx)(st:List Stmt)(t:TS):Prop:=
 ∀⦃pins:List (Addr×Obj)⦄ (s:Shared)(σ:St)(H:Hp)(D:zH),Inv X pins σ H s->t D σ H->wpAny (model X.prog X.w) X.A (execs st X.env) (SP X pins D) X.xe s
theorem bS(h:wpAny M A t Q E s)(hQ:∀a s,Q a s->Q' a s):wpAny M A t Q' E s:=wpAny_mono h hQ λ_ _ x=>x
end L2
namespace L2
open PySem PySem.Spec PyProof.Rows
section
variable {X : Cx}
theorem bin{a b:Expr}{ta tb:TE}(ha:PE X a ta)(hb:PE X b tb){pins:List (Addr×Obj)}{s:Shared}{σ:St}{H:Hp}{R:V->V->Hp->Prop}(I:Inv X pins σ H s)(h:ta σ H λx H1=>tb σ H1 λy H2=>R x y H2)
 {α:Type}{Q:α->Shared->Prop}{f:Value->Value->Sem α}
 (hf:∀v u s2 x y H2,Inv X pins σ H2 s2->RelV x v->RelV y u->R x y H2->wpAny (model X.prog X.w) X.A (f v u) Q X.xe s2):
 wpAny (model X.prog X.w) X.A (eval a X.env) (λv s₁=>wpAny (model X.prog X.w) X.A (eval b X.env) (λu s₂=>wpAny (model X.prog X.w) X.A (f v u) Q X.xe s₂) X.xe s₁) X.xe s:=by
 refine bS (ha s σ H _ I h) λv s1 ⟨x,H1,I1,r1,q1⟩=>?_
 refine bS (hb s1 σ H1 _ I1 q1) λu s2 ⟨y,H2,I2,r2,q2⟩=>?_
 exact hf v u s2 x y H2 I2 r1 r2 q2
def af8(i:Nat):TE:=λσ H Q=>∃v,σ[i]?=some (some v)/\Q v H
def tC(v:V):TE:=λ_ H Q=>Q v H
theorem dp0(hN:X.N[i]?=some x)(hv:Vis X.env.scope x)(hd:(x==("__debug__":Str))=false:=by decide)(hcd:(x==("__classdict__":Str))=false:=by decide):PE X (.Name x pos) (af8 i):=by
 intro pins s σ H Q I h
 obtain⟨v,e,h⟩:=h
 obtain⟨m,hn,hl⟩:=I.loc
 obtain⟨u,r,l⟩:=hl i x v hN e hv
 have bL:EP X pins σ Q u s:=⟨v,H,I,r,h⟩
 rcases l with⟨hk,hm⟩|⟨hk,c,hc,hcell⟩
 . exact wpAny_Name (wpAny_loadName_local I.ok.kind hk hn hm bL) hd
 . rcases hk with hk|hk
   . exact wpAny_Name (wpAny_loadName_cell I.ok.kind hk hc hcell bL) hd
   . exact wpAny_Name (wpAny_loadName_free I.ok.kind hk hc hcell bL hcd) hd
theorem aF{i j pos}:PE X (.Constant (.int i) j pos) (tC (.int i)):=λ_ _ _ H _ I h=>wpAny_Constant_int ⟨.int i,H,I.tok _,⟨_,rfl⟩,h⟩
theorem kA{b j pos}:PE X (.Constant (.bool b) j pos) (tC (.bl b)):=λ_ _ _ H _ I h=>Constant_bool ⟨.bl b,H,I,rfl,h⟩
theorem dX{j pos}:PE X (.Constant .none j pos) (tC .non):=λ_ _ _ H _ I h=>Constant_none ⟨.non,H,I,rfl,h⟩
theorem bO{x j pos}:PE X (.Constant (.str x) j pos) (tC (.str x)):=λ_ _ _ H _ I h=>Calls.Constant_str ⟨.str x,H,I.tok _,⟨_,rfl⟩,h⟩
def Gl(X:Cx)(x:Str):Prop:=X.env.kindOf x=some .globalImplicit
theorem tG(I:Inv X pins σ H s)(hg:Gl X x)(hm:X.mg x=some u)(h:Q u s)
 (hd:(x==("__debug__":Str))=false:=by decide):wpAny (model X.prog X.w) X.A (eval (.Name x pos) X.env) Q E s:=
 Calls.Name_function_global I.ok.kind hg (Calls.loadGlobal_global (by rw[I.ok.glob];exact I.mod.glob.keeps I.bk) hm h) hd
theorem mX(I:Inv X pins σ H s)(hg:Gl X x)(hm:X.mg x=none)(hv:bootBuiltins x=some u)(h:Q u s)
 (hn:x≠"__name__":=by decide)(hd:(x==("__debug__":Str))=false:=by decide):wpAny (model X.prog X.w) X.A (eval (.Name x pos) X.env) Q E s:=by
 obtain⟨mb,h1,h2⟩:=I.mod.blt
 exact Calls.Name_function_global I.ok.kind hg (Calls.loadGlobal_builtin (by rw[I.ok.glob];exact I.mod.glob.keeps I.bk) hm (by rw[I.ok.blt];exact h1.keeps I.bk) ((h2 x hn).trans hv) h) hd
theorem cz3(hg:Gl X x)(hm:X.mg x=some u)(r:RelV v u)(hd:(x==("__debug__":Str))=false:=by decide):PE X (.Name x pos) (tC v):=
 λ_ _ _ H _ I h=>tG I hg hm ⟨v,H,I,r,h⟩ hd
theorem cv6(hg:Gl X x)(hm:X.mg x=none)(hv:bootBuiltins x=some u)(r:RelV v u)(hn:x≠"__name__":=by decide)(hd:(x==("__debug__":Str))=false:=by decide):PE X (.Name x pos) (tC v):=
 λ_ _ _ H _ I h=>mX I hg hm hv ⟨v,H,I,r,h⟩ hn hd
variable {a b : Expr} {ta tb : TE} {pos : Pos}
def PC(X:Cx)(op:CmpOp)(a b:Expr)(t:TE):Prop:=
 ∀⦃pins:List (Addr×Obj)⦄ (s:Shared)(σ:St)(H:Hp)(Q:VK),Inv X pins σ H s->t σ H Q->
  wpAny (model X.prog X.w) X.A (eval a X.env) (λv s₁=>wpAny (model X.prog X.w) X.A (eval b X.env) (λu s₂=>wpAny (model X.prog X.w) X.A (compareOp op v u) (EP X pins σ Q) X.xe s₂) X.xe s₁) X.xe s
def tB(t:TE):TT:=λσ H Q=>t σ H λx H1=>∃c,x=.bl c/\Q c H1
theorem cp9(h:PC X op a b t)(h1:behindInMarks op b=false:=by first|exact dq6 _ (by decide) (by decide)|rfl):PT X (.Compare a [op] [b] pos) (tB t):=by
 intro pins s σ H Q I hw
 refine wpAny_isTrue_Compare1 (bS (h s σ H _ I hw) λv s1 h1=>bS h1 λu s2 h2=>bS h2 λc s3 ⟨x,H1,I1,r1,q1⟩=>?_) h1
 obtain⟨d,rfl,q⟩:=q1
 cases r1
 exact wpAny_truthy_bool ⟨H1,I1,q⟩
variable {tA tB' : TT} {rest : List Expr}
def dr1(t u:TT):TT:=λσ H Q=>t σ H λc H1=>if c=true then u σ H1 Q else Q false H1
def tOr(t u:TT):TT:=λσ H Q=>t σ H λc H1=>if c=true then Q true H1 else u σ H1 Q
def dc1(t:TT):TT:=λσ H Q=>t σ H λc H1=>Q (!c) H1
theorem mS(ha:PT X a tA):PW X (.BoolOp .And [a] pos) tA:=by
 intro wh pins s σ H Q I h
 refine isTrue_and (bS (ha s σ H Q I h) λc s1 e=>?_)
 cases c with
 |true=>exact isTrue_and_nil e
 |false=>exact e
theorem qV(ha:PT X a tA):PW X (.BoolOp .Or [a] pos) tA:=by
 intro wh pins s σ H Q I h
 refine isTrue_or (bS (ha s σ H Q I h) λc s1 e=>?_)
 cases c with
 |false=>exact isTrue_or_nil e
 |true=>exact e
theorem pL(ha:PT X a tA)(hb:PW X (.BoolOp .And (b::rest) pos) tB'):PW X (.BoolOp .And (a::b::rest) pos) (dr1 tA tB'):=by
 intro wh pins s σ H Q I h
 refine isTrue_and (bS (ha s σ H _ I h) λc s1 ⟨H1,I1,q1⟩=>?_)
 cases c with
 |true=>exact hb pins s1 σ H1 Q I1 q1
 |false=>exact⟨H1,I1,q1⟩
theorem rZ(ha:PT X a tA)(hb:PW X (.BoolOp .Or (b::rest) pos) tB'):PW X (.BoolOp .Or (a::b::rest) pos) (tOr tA tB'):=by
 intro wh pins s σ H Q I h
 refine isTrue_or (bS (ha s σ H _ I h) λc s1 ⟨H1,I1,q1⟩=>?_)
 cases c with
 |true=>exact⟨H1,I1,q1⟩
 |false=>exact hb pins s1 σ H1 Q I1 q1
theorem fO(ha:PT X a tA):PT X (.UnaryOp .Not a pos) (dc1 tA):=by
 intro pins s σ H Q I h
 exact isTrue_not (ha s σ H (λc H1=>Q (!c) H1) I h)
def ch3(ta tb:TE):TE:=λσ H Q=>ta σ H λx H1=>∃c,x=.bl c/\if c=true then tb σ H1 Q else Q (.bl false) H1
def ct2(ta:TE):TE:=λσ H Q=>ta σ H λx H1=>∃c,x=.bl c/\Q (.bl (!c)) H1
theorem qX{op}(h:PE X a t):PE X (.BoolOp op [a] pos) t:=λpins s σ H Q I hw=>BoolOp_one (h s σ H Q I hw)
theorem rK(ha:PE X a ta)(hb:PE X (.BoolOp .And (b::rest) pos) tb):PE X (.BoolOp .And (a::b::rest) pos) (ch3 ta tb):=by
 intro pins s σ H Q I h
 refine BoolOp_and (bS (ha s σ H _ I h) λv s1 ⟨x,H1,I1,r1,q1⟩=>?_)
 obtain⟨c,rfl,q1⟩:=q1
 cases r1
 refine wpAny_truthy_bool ?_
 cases c with
 |true=>exact hb s1 σ H1 Q I1 q1
 |false=>exact⟨.bl false,H1,I1,rfl,q1⟩
theorem bx6(ha:PE X a ta):PE X (.UnaryOp .Not a pos) (ct2 ta):=by
 intro pins s σ H Q I h
 refine UnaryOp_ (bS (ha s σ H _ I h) λv s1 ⟨x,H1,I1,r1,q1⟩=>?_)
 obtain⟨c,rfl,q1⟩:=q1
 cases r1
 exact not_of (wpAny_truthy_bool ⟨.bl (!c),H1,I1,rfl,q1⟩)
def tIf(t:TT)(ta tb:TE):TE:=λσ H Q=>t σ H λc H1=>if c=true then ta σ H1 Q else tb σ H1 Q
theorem ak7(hc:PT X c tA)(ha:PE X a ta)(hb:PE X b tb):PE X (.IfExp c a b pos) (tIf tA ta tb):=by
 intro pins s σ H Q I h
 refine wpAny_IfExp (bS (hc s σ H _ I h) λd s1 ⟨H1,I1,q1⟩=>?_)
 cases d with
 |true=>exact ha s1 σ H1 Q I1 q1
 |false=>exact hb s1 σ H1 Q I1 q1
end
end L2
namespace L2
open PySem PySem.Spec PyProof.Rows
def SqL(K:PySem.W.Frag)(H:Hp)(a:Addr)(xs:List V):Prop:=
 Rd H a (.lst xs)\/
  ∃(o:Obj)(its:Array Value)(n:Nat),K.lookup a=some o/\o.cls=.type "list"/\o.dict=none/\o.data=.seq its n/\its.size<=sizeLine/\Vals xs its.toList
def SqT(K:PySem.W.Frag)(H:Hp)(a:Addr)(xs:List V):Prop:=
 Rd H a (.tup xs)\/
  ∃(o:Obj)(its:Array Value)(n:Nat),K.lookup a=some o/\o.cls=.type "tuple"/\o.data=.seq its n/\its.size<=sizeLine/\Vals xs its.toList
def dh6:Value->Option V
 |.none=>some .non
 |.bool b=>some (.bl b)
 |.int i _=>some (.int i)
 |.str x _=>some (.str x)
 |.bytes b _=>some (.byt b)
 |.float b _=>some (.flt b)
 |.ref a=>some (.ref a)
 |.type n=>some (.ty n)
 |_=>none
theorem RelV.abs(r:RelV x u):dh6 u=some x:=by
 cases x with
 |non=>cases r;rfl
 |bl _=>cases r;rfl
 |int _=>obtain⟨t,rfl⟩:=r;rfl
 |str _=>obtain⟨t,rfl⟩:=r;rfl
 |byt _=>obtain⟨t,rfl⟩:=r;rfl
 |flt _=>obtain⟨t,rfl⟩:=r;rfl
 |ref _=>cases r;rfl
 |ty _=>cases r;rfl
theorem RelV.inj(r:RelV x u)(q:RelV y u):x=y:=Option.some.inj (r.abs.symm.trans q.abs)
theorem Vals.inj:∀{xs ys:List V}{us:List Value},Vals xs us->Vals ys us->xs=ys
 |_,_,_,.nil,.nil=>rfl
 |_,_,_,.cons r t,.cons r' t'=>by rw[r.inj r',Vals.inj t t']
section
variable {X : Cx} {pins : List (Addr × Obj)} {σ : St} {H : Hp} {s : Shared} {a : Addr} {xs ys : List V}
theorem SqL.of{K:PySem.W.Frag}(h:H a=some (.lst xs)):SqL K H a xs:=.inl (.inl h)
theorem SqT.of{K:PySem.W.Frag}(h:H a=some (.tup xs)):SqT K H a xs:=.inl (.inl h)
theorem Inv.list(I:Inv X pins σ H s)(h:SqL X.K H a xs):∃its:List Value,Vals xs its/\PlainL s.heap a its.toArray/\xs.length<=sizeLine:=by
 rcases h with h|⟨o,its,n,hk,hc,hd,hs,hz,r⟩
 . obtain⟨z,its,n,r,e⟩:=h.ok I.hok
   exact⟨its,r,⟨_,n,e,rfl,rfl,rfl⟩,z⟩
 . refine⟨its.toList,r,⟨o,n,I.kIn a o hk,hc,hd,by simpa using hs⟩,?_⟩
   have e:=r.length
   simp only[Array.length_toList]at e
   omega
theorem Inv.tuple(I:Inv X pins σ H s)(h:SqT X.K H a xs):∃its:List Value,Vals xs its/\IsTup s.heap a its.toArray/\xs.length<=sizeLine:=by
 rcases h with h|⟨o,its,n,hk,hc,hs,hz,r⟩
 . obtain⟨z,its,r,p⟩:=h.ok I.hok
   exact⟨its,r,p,z⟩
 . refine⟨its.toList,r,⟨o,I.kIn a o hk,hc,n,by simpa using hs⟩,?_⟩
   have e:=r.length
   simp only[Array.length_toList]at e
   omega
theorem Inv.list_inj(I:Inv X pins σ H s)(h:SqL X.K H a xs)(h':SqL X.K H a ys):xs=ys:=by
 obtain⟨its,r,⟨o,n,e,_,_,d⟩,_⟩:=I.list h
 obtain⟨its',r',⟨o',n',e',_,_,d'⟩,_⟩:=I.list h'
 rw[e]at e';cases e'
 rw[d]at d'
 injection d' with d1 _
 have:its=its':=by simpa using congrArg Array.toList d1
 subst this
 exact r.inj r'
theorem Inv.tuple_inj(I:Inv X pins σ H s)(h:SqT X.K H a xs)(h':SqT X.K H a ys):xs=ys:=by
 obtain⟨its,r,⟨o,e,_,n,d⟩,_⟩:=I.tuple h
 obtain⟨its',r',⟨o',e',_,n',d'⟩,_⟩:=I.tuple h'
 rw[e]at e';cases e'
 rw[d]at d'
 injection d' with d1 _
 have:its=its':=by simpa using congrArg Array.toList d1
 subst this
 exact r.inj r'
end
abbrev Cx.wish(X:Cx)(E:Value->Shared->Prop):Cx:={X with xe:=E}
abbrev Cx.nox(X:Cx):Cx:=X.wish λ_ _=>False
theorem Cx.Ok.wish{X:Cx}(ok:X.Ok)(E:Value->Shared->Prop):(X.wish E).Ok:=
 ⟨ok.mod,ok.kind,ok.glob,ok.blt,ok.above,ok.inj,ok.has,ok.cab,ok.hd,ok.frames,ok.stk,ok.exf,ok.bs,ok.bsz,ok.noex,ok.exfs,ok.funs,ok.frf⟩
theorem Cx.Ok.unwish{X:Cx}{E:Value->Shared->Prop}(ok:(X.wish E).Ok):X.Ok:=
 ⟨ok.mod,ok.kind,ok.glob,ok.blt,ok.above,ok.inj,ok.has,ok.cab,ok.hd,ok.frames,ok.stk,ok.exf,ok.bs,ok.bsz,ok.noex,ok.exfs,ok.funs,ok.frf⟩
section
variable {X : Cx} {pins : List (Addr × Obj)} {σ : St} {H : Hp} {s : Shared} {E : Value → Shared → Prop}
theorem Inv.wish(I:Inv X pins σ H s)(E:Value->Shared->Prop):Inv (X.wish E) pins σ H s:=⟨I.ok.wish E,I.os,I.bare,I.base,I.loc,I.cell,I.free,I.freeC,I.pin,I.hok,I.len⟩
theorem Inv.unwish(I:Inv (X.wish E) pins σ H s):Inv X pins σ H s:=⟨I.ok.unwish,I.os,I.bare,I.base,I.loc,I.cell,I.free,I.freeC,I.pin,I.hok,I.len⟩
theorem SP.unwish(h:SP (X.wish E) pins D f s'):SP X pins D f s':=by
 cases f with
 |next=>obtain⟨σ',H',I,q⟩:=h;exact⟨σ',H',I.unwish,q⟩
 |brk=>obtain⟨σ',H',I,q⟩:=h;exact⟨σ',H',I.unwish,q⟩
 |cont=>obtain⟨σ',H',I,q⟩:=h;exact⟨σ',H',I.unwish,q⟩
 |ret u=>obtain⟨v,σ',H',I,r,q⟩:=h;exact⟨v,σ',H',I.unwish,r,q⟩
theorem PSs.nox{st:List Stmt}{t:TS}(h:PSs X.nox st t):PSs X st t:=λpins s σ H D I hw=>
 wpAny_mono (h s σ H D (I.wish _) hw) (λ_ _ q=>q.unwish) λ_ _ z=>False.elim z
end
section
variable {X : Cx} {st : Stmt} {rest : List Stmt} {t u : TS} {e : Expr} {te : TE} {pos : Pos}
def cl3:TS:=λD σ H=>D.nx σ H
def dz0(t u:TS):TS:=λD σ H=>t {D with nx:=u D} σ H
theorem bI:PSs X [] cl3:=λ_ _ σ H _ I h=>wpAny_execs_nil ⟨σ,H,I,h⟩
theorem aI(h1:PS X st t)(h2:PSs X rest u):PSs X (st::rest) (dz0 t u):=by
 intro pins s σ H D I h
 refine wpAny_execs_cons (bS (h1 s σ H {D with nx:=u D} I h) λf s1 q=>?_)
 cases f with
 |next=>
  obtain⟨σ',H',I',q⟩:=q
  exact h2 s1 σ' H' D I' q
 |ret v=>exact q
 |brk=>exact q
 |cont=>exact q
theorem aL(h1:PS X st t):PSs X [st] t:=by
 intro pins s σ H D I h
 refine wpAny_execs_cons (bS (h1 s σ H D I h) λf s1 q=>?_)
 cases f with
 |next=>exact wpAny_execs_nil q
 |ret v=>exact q
 |brk=>exact q
 |cont=>exact q
theorem Inv.quiet(I:Inv X pins σ H s):interactive X.env=false:=by simp[interactive,I.ok.kind]
def bq2(te:TE):TS:=λD σ H=>te σ H λ_ H1=>D.nx σ H1
theorem dM(he:PE X e te)(hs:swapsWith e none pos.line X.env=pure false:=by rfl):PS X (.Expr e pos) (bq2 te):=by
 intro pins s σ H D I h
 exact wpAny_Expr_any (bS (he s σ H _ I h) λv s1 ⟨x,H1,I1,r1,q1⟩=>⟨σ,H1,I1,q1⟩) I.quiet hs
def dy0(te:TE):TS:=λD σ H=>te σ H D.rt
theorem aT(he:PE X e te):PS X (.Return (some e) pos) (dy0 te):=by
 intro pins s σ H D I h
 exact wpAny_Return_some (bS (he s σ H _ I h) λv s1 ⟨x,H1,I1,r1,q1⟩=>⟨x,σ,H1,I1,r1,q1⟩)
def dk0(c:TT)(t u:TS):TS:=λD σ H=>c σ H λb H1=>if b=true then t D σ H1 else u D σ H1
theorem bV(hc:PT X c tc)(ha:PSs X a t)(hb:PSs X b u):PS X (.If c a b pos) (dk0 tc t u):=by
 intro pins s σ H D I h
 refine wpAny_If (bS (hc s σ H _ I h) λd s1 ⟨H1,I1,q1⟩=>?_)
 cases d with
 |true=>exact ha s1 σ H1 D I1 q1
 |false=>exact hb s1 σ H1 D I1 q1
end
abbrev TG:=V->St->Hp->(St->Hp->Prop)->Prop
abbrev TGs:=List V->St->Hp->(St->Hp->Prop)->Prop
def PG(X:Cx)(target:Expr)(t:TG):Prop:=
 ∀⦃pins:List (Addr×Obj)⦄ (s:Shared)(σ:St)(H:Hp)(v:V)(u:Value)(Q:St->Hp->Prop),Inv X pins σ H s->RelV v u->t v σ H Q->
  wpAny (model X.prog X.w) X.A (assign target X.env u) (λ_ s'=>∃σ' H',Inv X pins σ' H' s'/\Q σ' H') X.xe s
def PGs(X:Cx)(ts:List Expr)(t:TGs):Prop:=
 ∀⦃pins:List (Addr×Obj)⦄ (s:Shared)(σ:St)(H:Hp)(vs:List V)(us:List Value)(Q:St->Hp->Prop),Inv X pins σ H s->Vals vs us->t vs σ H Q->
  wpAny (model X.prog X.w) X.A (assignInOrder ((assignEach ts X.env).map (·.2)) us) (λ_ s'=>∃σ' H',Inv X pins σ' H' s'/\Q σ' H') X.xe s
section
variable {X : Cx} {pos : Pos}
def am0(i:Nat):TG:=λv σ H Q=>Q (σ.set i (some v)) H
theorem ca7(hN:X.N.Nodup)(hi:X.N[i]?=some x)(hx:Loc X.env.scope x)(hf:X.fn x=true\/X.env.scope.names.lookup x=some .local:=by first|exact .inl rfl|exact .inr rfl|assumption):PG X (.Name x pos) (am0 i):=by
 intro pins s σ H v u Q I r h
 exact wpAny_assign_Name (az7 I hN hi hx r (λs' I'=>⟨_,H,I',h⟩) hf)
def cz8:TGs:=λvs σ H Q=>vs=[]/\Q σ H
def bp3(t:TG)(u:TGs):TGs:=λvs σ H Q=>∃v r,vs=v::r/\t v σ H λσ' H'=>u r σ' H' Q
theorem eP:PGs X [] cz8:=by
 intro pins s σ H vs us Q I r h
 obtain⟨e,h⟩:=h
 subst e
 cases r
 exact assignInOrder_nil ⟨σ,H,I,h⟩
theorem bG(h1:PG X e t)(h2:PGs X es u)
 (hs:(assignEach (e::es) X.env).map (·.2)=assign e X.env::(assignEach es X.env).map (·.2):=by rfl):PGs X (e::es) (bp3 t u):=by
 intro pins s σ H vs us Q I r h
 obtain⟨v,vr,e1,h⟩:=h
 subst e1
 cases r with
 |cons r rr=>
  rw[hs]
  refine assignInOrder_cons (bS (h1 s σ H _ _ _ I r h) λ_ s1 ⟨σ1,H1,I1,q1⟩=>?_)
  exact h2 s1 σ1 H1 _ _ Q I1 rr q1
def bo9(K:PySem.W.Frag)(n:Nat)(t:TGs):TG:=λv σ H Q=>∃a xs,v=.ref a/\SqT K H a xs/\xs.length=n/\t xs σ H Q
theorem cq9(hc:X.calm=true)(h:PGs X es t)
 (hn:(assignEach es X.env).length=n:=by rfl)(hst:(assignEach es X.env).findIdx? (·.1)=none:=by rfl):PG X (.Tuple es k pos) (bo9 X.K n t):=by
 intro pins s σ H v u Q I r hw
 obtain⟨a,xs,e1,hq,hl,hw⟩:=hw
 subst e1
 cases r
 obtain⟨its,rv,ht,hz⟩:=I.tuple hq
 refine assign_Tuple_tuple (I.ok.hd hc) ht (by simp[hn,<-hl,rv.length]) hst λh' hx=>?_
 have I1:Inv X pins σ H {s with heap:=h'}:=I.kept (t':=s.toks) λb o e=>hx b o (Nat.ne_of_lt (Heap.lt_size e)) e
 exact h _ σ H xs _ Q I1 (by simpa using rv) hw
def bf4(te:TE)(g:TG):TS:=λD σ H=>te σ H λx H1=>g x σ H1 D.nx
theorem ax8(he:PE X e te)(hg:PG X tg g)(hs:swapsWithSole [tg] e pos.line X.env=pure false:=by rfl)(hw:swappedStores [tg] e X.env=pure none:=by rfl)
 (h1:(assignEach [tg] X.env).map (·.2)=[assign tg X.env]:=by rfl):PS X (.Assign [tg] e pos) (bf4 te g):=by
 intro pins s σ H D I h
 refine wpAny_Assign_stores (bS (he s σ H _ I h) λv s1 ⟨x,H1,I1,r1,q1⟩=>?_) hs hw
 rw[h1]
 exact bS (hg s1 σ H1 x v _ I1 r1 q1) λ_ s2 q=>q
theorem cz7(hN:X.N.Nodup)(hi:X.N[i]?=some x)(hx:Loc X.env.scope x)(he:PE X e te)(hs:swapsWith e (some (.Name x pos')) pos.line X.env=pure false:=by rfl)(hf:X.fn x=true\/X.env.scope.names.lookup x=some .local:=by first|exact .inl rfl|exact .inr rfl|assumption):
 PS X (.Assign [.Name x pos'] e pos) (bf4 te (am0 i)):=by
 intro pins s σ H D I h
 refine wpAny_Assign_Name (bS (he s σ H _ I h) λv s1 ⟨y,H1,I1,r1,q1⟩=>?_) hs
 exact az7 I1 hN hi hx r1 (λs2 I2=>⟨_,H1,I2,q1⟩) hf
end
section
variable {X : Cx} {pos : Pos}
end
structure It where
 go:Nat->Hp->Prop
 yld:Nat->Hp->V->Hp->Prop
 stop:Nat->Hp->Prop
def oA(X:Cx)(pins:List (Addr×Obj))(H:Hp)(b:Addr):Prop:=
 H b=none/\b≠X.env.locals/\b∉X.fs/\(b∈X.ex\/X.s₀.heap.objs.size<=b)/\(∀x c,X.env.cells.lookup x=some c->c≠b)/\∀p∈X.pn++pins,p.1≠b
theorem Inv.fpOk(I:Inv X pins σ H s)(hb:s.heap.objs.size<=b)(hn:H' b=none):oA X pins H' b:=by
 refine⟨hn,Nat.ne_of_gt (Nat.lt_of_lt_of_le I.lt hb),I.nofs hb,.inr (Nat.le_trans I.sz hb),λx c e z=>?_,λp hp z=>?_⟩
 . obtain⟨v,q⟩:=I.cell x c e
   exact absurd (Nat.lt_of_lt_of_le q.lt (by rw[z];exact hb)) (Nat.lt_irrefl _)
 . exact absurd (Nat.lt_of_lt_of_le (Heap.lt_size (I.pin p hp).1) (by rw[z];exact hb)) (Nat.lt_irrefl _)
structure wT (P:Program) (w:World) (K:PySem.W.Frag) (tg:Expr) (J:It) (fp:List Addr) (it:Addr) (tn:Nat->Heap->Prop):Prop where
 mem:it∈fp
 obj:∀i h,tn i h->∀b∈fp,∃o,h.get? b=some o/\∀v,o.data≠ .cell v
 keep:∀i h h',tn i h->(∀b∈fp,∀o,h.get? b=some o->h'.get? b=some o)->tn i h'
 item:∀(X:Cx),X.prog=P->X.w=w->X.K=K->X.calm=true->∀(i:Nat)(pins:List (Addr×Obj))(s:Shared)(σ:St)(H:Hp)(E:Value->Shared->Prop),Inv X pins σ H s->(∀b∈fp,oA X pins H b)->tn i s.heap->J.go i H->
  wpAny (model P w) X.A (pyNext (.ref it)) (λr s1=>∃u,r=some u/\
   wpAny (model P w) X.A (letOwnedTupleGo tg (.ref it) u) (λ_ s2=>∃x H',Inv X pins σ H' s2/\RelV x u/\J.yld i H x H'/\tn (i+1) s2.heap/\∀b∈fp,H' b=none) E s1) E s
 done:∀(X:Cx),X.prog=P->X.w=w->X.K=K->X.calm=true->∀(i:Nat)(pins:List (Addr×Obj))(s:Shared)(σ:St)(H:Hp)(E:Value->Shared->Prop),Inv X pins σ H s->(∀b∈fp,oA X pins H b)->tn i s.heap->J.stop i H->
  wpAny (model P w) X.A (pyNext (.ref it)) (λr s1=>r=none/\Inv X pins σ H s1) E s
 self:∀(A:Around)(i:Nat)(s:Shared)(Q:Value->Shared->Prop)(E:Value->Shared->Prop),tn i s.heap->Q (.ref it) s->wpAny (model P w) A (pyIter (.ref it)) Q E s
abbrev TI:=St->Hp->(It->Hp->Prop)->Prop
def PIE(X:Cx)(pins:List (Addr×Obj))(σ:St)(tg:Expr)(R:It->Hp->Prop)(itv:Value)(s2:Shared):Prop:=
 ∃(it:Addr)(fp:List Addr)(tn:Nat->Heap->Prop)(J:It)(H':Hp),itv=.ref it/\Inv X pins σ H' s2/\wT X.prog X.w X.K tg J fp it tn/\tn 0 s2.heap/\(∀b∈fp,oA X pins H' b)/\R J H'
def PI(X:Cx)(tg iter:Expr)(wi:TI):Prop:=
 ∀⦃pins:List (Addr×Obj)⦄ (s:Shared)(σ:St)(H:Hp)(R:It->Hp->Prop),Inv X pins σ H s->wi σ H R->
  wpAny (model X.prog X.w) X.A (eval iter X.env) (λv s1=>wpAny (model X.prog X.w) X.A (pyIter v) (PIE X pins σ tg R) X.xe s1) X.xe s
theorem bi2 (ho : s.heap.get? it = some o) (hc : o.cls = .type n) (hd : o.data = .fields vs)
    (hn : ["enumerate", "zip", "dict_itemiterator", "dict_reverseitemiterator", "odict_iterator", "itertools.zip_longest", "itertools.pairwise"].contains n = false) (hQ : Q () s) : wpAny M A (letOwnedTupleGo tg (.ref it) u) Q E s := by
  unfold letOwnedTupleGo
  cases tg <;> first
    | exact wpAny_pure hQ
    | (cases u <;> first
        | exact wpAny_pure hQ
        | (refine wpAny_bind (wpAny_load ho ?_)
           rw [hc, hd]
           show wpAny M A (if (["enumerate", "zip", "dict_itemiterator", "dict_reverseitemiterator", "odict_iterator", "itertools.zip_longest", "itertools.pairwise"].contains n && vs[0]? == some (rawInt _)) = true then _ else _) Q E s
           rw [if_neg (by intro h; rw [hn, Bool.false_and] at h; cases h)]
           exact wpAny_pure hQ))
def Itl(K:PySem.W.Frag)(a:Addr):It:=
 ⟨λi H=>∃xs x,SqL K H a xs/\xs[i]?=some x,λi H x H'=>H'=H/\∀xs,SqL K H a xs->xs[i]?=some x,λi H=>∃xs,SqL K H a xs/\xs.length<=i⟩
def Itt(K:PySem.W.Frag)(a:Addr):It:=
 ⟨λi H=>∃xs x,SqT K H a xs/\xs[i]?=some x,λi H x H'=>H'=H/\∀xs,SqT K H a xs->xs[i]?=some x,λi H=>∃xs,SqT K H a xs/\xs.length<=i⟩
def Itr(lo:Int)(n:Nat):It:=⟨λi _=>i<n,λi H x H'=>H'=H/\x=.int (lo+i),λi _=>n<=i⟩
theorem bn6{P:Program}{w:World}{K:PySem.W.Frag}{tg:Expr}(a it:Addr):wT P w K tg (Itl K a) [it] it (λi h=>h.IsListIter it a i) where
 mem:=by simp
 obj:=λi h st b hb=>by
  have e:b=it:=by simpa using hb
  subst e
  obtain⟨o,e,c,d⟩:=st
  exact⟨o,e,λv z=>by rw[d]at z;cases z⟩
 keep:=λi h h' st k=>st.at λo e=>k it (by simp) o e
 item:=by
  intro X hP hw hK hc i pins s σ H E I hf st hg
  subst hP hw hK
  obtain⟨xs,x,hq,hx⟩:=hg
  obtain⟨its,rv,p,hz⟩:=I.list hq
  obtain⟨u,hu,ru⟩:=rv.get hx
  obtain⟨f0,f1,f2,f3,f4,f5⟩:=hf it (by simp)
  refine wpAny_pyNext_list_item st p.isList (x:=u) (by simpa using hu) λh' st' sb=>?_
  have I1:Inv X pins σ H {s with heap:=h'}:=I.turned (t':=s.toks) (λb o hb e=>(sb.2 b hb).trans e) f0 f1 f3 f4 f5
  obtain⟨o,e,c,d⟩:=id st'
  exact⟨u,rfl,bi2 (s:={s with heap:=h'}) e c d (by decide) ⟨x,H,I1,ru,⟨rfl,λys hy=>by rw[I.list_inj hy hq];exact hx⟩,st',λb hb=>(hf b hb).1⟩⟩
 done:=by
  intro X hP hw hK hc i pins s σ H E I hf st hg
  subst hP hw hK
  obtain⟨xs,hq,hx⟩:=hg
  obtain⟨its,rv,p,hz⟩:=I.list hq
  obtain⟨f0,f1,f2,f3,f4,f5⟩:=hf it (by simp)
  have hl:=rv.length
  exact wpAny_pyNext_list_end (I.ok.hd hc) st p.isList (by simp;omega) λh' eb=>⟨rfl,I.turned (t':=s.toks) (λb o hb e=>eb b o hb e) f0 f1 f3 f4 f5⟩
 self:=λ_ _ _ _ _ st h=>wpAny_pyIter_listiter st h
theorem bc4{P:Program}{w:World}{K:PySem.W.Frag}{tg:Expr}(a it:Addr):wT P w K tg (Itt K a) [it] it (λi h=>h.IsTupleIter it a i) where
 mem:=by simp
 obj:=λi h st b hb=>by
  have e:b=it:=by simpa using hb
  subst e
  obtain⟨o,e,c,d⟩:=st
  exact⟨o,e,λv z=>by rw[d]at z;cases z⟩
 keep:=λi h h' st k=>st.at λo e=>k it (by simp) o e
 item:=by
  intro X hP hw hK hc i pins s σ H E I hf st hg
  subst hP hw hK
  obtain⟨xs,x,hq,hx⟩:=hg
  obtain⟨its,rv,p,hz⟩:=I.tuple hq
  obtain⟨u,hu,ru⟩:=rv.get hx
  obtain⟨f0,f1,f2,f3,f4,f5⟩:=hf it (by simp)
  refine wpAny_pyNext_tuple_item st (show s.heap.IsTuple a its.toArray from p) (x:=u) (by simpa using hu) λh' st' sb=>?_
  have I1:Inv X pins σ H {s with heap:=h'}:=I.turned (t':=s.toks) (λb o hb e=>(sb.2 b hb).trans e) f0 f1 f3 f4 f5
  obtain⟨o,e,c,d⟩:=id st'
  exact⟨u,rfl,bi2 (s:={s with heap:=h'}) e c d (by decide) ⟨x,H,I1,ru,⟨rfl,λys hy=>by rw[I.tuple_inj hy hq];exact hx⟩,st',λb hb=>(hf b hb).1⟩⟩
 done:=by
  intro X hP hw hK hc i pins s σ H E I hf st hg
  subst hP hw hK
  obtain⟨xs,hq,hx⟩:=hg
  obtain⟨its,rv,p,hz⟩:=I.tuple hq
  obtain⟨f0,f1,f2,f3,f4,f5⟩:=hf it (by simp)
  have hl:=rv.length
  exact wpAny_pyNext_tuple_end (I.ok.hd hc) st (show s.heap.IsTuple a its.toArray from p) (by simp;omega) λh' eb=>⟨rfl,I.turned (t':=s.toks) (λb o hb e=>eb b o hb e) f0 f1 f3 f4 f5⟩
 self:=λ_ _ _ _ _ st h=>wpAny_pyIter_tupleiter st h
theorem bg4{P:Program}{w:World}{K:PySem.W.Frag}{tg:Expr}(it:Addr)(lo:Int)(n:Nat):wT P w K tg (Itr lo n) [it] it (λi h=>IsRangeIter h it (lo+(i:Nat)*1) ((n:Int)-(i:Nat)) 1) where
 mem:=by simp
 obj:=λi h st b hb=>by
  have e:b=it:=by simpa using hb
  subst e
  exact⟨_,st,λv z=>by
   have z':Data.fields _=Data.cell v:=z
   cases z'⟩
 keep:=λi h h' st k=>k it (by simp) _ st
 item:=by
  intro X hP hw hK hc i pins s σ H E I hf st hg
  subst hP hw hK
  obtain⟨f0,f1,f2,f3,f4,f5⟩:=hf it (by simp)
  have W:=Walks.range (prog:=X.prog) (w:=X.w) (I.ok.hd hc) it lo 1 n
  refine W.item i s _ _ hg st λv h' tk hv st' kk=>?_
  obtain⟨t,rfl⟩:=hv
  have I1:Inv X pins σ H {s with heap:=h',toks:=tk}:=I.turned (λb o hb e=>kk b o (by simpa using hb) e) f0 f1 f3 f4 f5
  refine⟨_,rfl,bi2 (s:={s with heap:=h',toks:=tk}) (n:="range_iterator") st' rfl rfl (by decide) ⟨.int (lo+i),H,I1,⟨t,?_⟩,⟨rfl,rfl⟩,st',λb hb=>(hf b hb).1⟩⟩
  rw[Int.mul_one]
 done:=by
  intro X hP hw hK hc i pins s σ H E I hf st hg
  subst hP hw hK
  obtain⟨f0,f1,f2,f3,f4,f5⟩:=hf it (by simp)
  exact wpAny_pyNext_range_end (I.ok.hd hc) st (by have:n<=i:=hg;omega) λh' eb=>⟨rfl,I.turned (t':=s.toks) (λb o hb e=>eb b o hb e) f0 f1 f3 f4 f5⟩
 self:=λ_ _ _ _ _ st h=>wpAny_pyIter_rangeiter st h
end L2
namespace L2
open PySem PySem.Spec PyProof.Rows
section
variable {X : Cx} {tg : Expr}
theorem ap8{pins:List (Addr×Obj)}{σ:St}{H:Hp}{s:Shared}{R:It->Hp->Prop}{E:Value->Shared->Prop}{lo hi:Int}{t u v:Tok}{tk:Nat}(I:Inv X pins σ H s)(h1:-(2^62)<=lo)(h2:lo<2^62)(h3:-(2^62)<=hi)(h4:hi<2^62)
 (q:R (Itr lo (hi-lo).toNat) H):wpAny (model X.prog X.w) X.A (pyIter (.ref s.heap.objs.size)) (PIE X pins σ tg R) E {s with heap:=s.heap.push {cls:=.type "range",data:=.fields #[.int lo t,.int hi u,.int 1 v]},toks:=tk}:=by
 refine wpAny_pyIter_range (IsRange.new ..) (small_one h1 h2 h3 h4) ?_
 have I1:Inv X pins σ H {s with heap:=s.heap.push {cls:=.type "range",data:=.fields #[.int lo t,.int hi u,.int 1 v]},toks:=tk}:=I.kept λb o e=>Heap.get?_push_of_some _ e
 refine⟨(s.heap.push {cls:=.type "range",data:=.fields #[.int lo t,.int hi u,.int 1 v]}).objs.size,[(s.heap.push {cls:=.type "range",data:=.fields #[.int lo t,.int hi u,.int 1 v]}).objs.size],_,_,H,rfl,
  I1.kept (t':=tk) λb o e=>Heap.get?_push_of_some _ e,bg4 _ lo (hi-lo).toNat,?_,λb hb=>?_,q⟩
 . have e1:lo+((0:Nat):Int)*1=lo:=by simp
   have e2:(((hi-lo).toNat:Nat):Int)-((0:Nat):Int)=Builtin.Range.rangeSize lo hi 1:=by rw[rangeSize_one];split<;>omega
   show IsRangeIter _ _ (lo+((0:Nat):Int)*1) ((((hi-lo).toNat:Nat):Int)-((0:Nat):Int)) 1
   rw[e1,e2]
   exact Heap.get?_push_size _ rfl
 . have e:b=(s.heap.push {cls:=.type "range",data:=.fields #[.int lo t,.int hi u,.int 1 v]}).objs.size:=by simpa using hb
   subst e
   exact I1.fpOk (Nat.le_refl _) (I1.hok.fresh (Nat.le_refl _))
def cd3(ta:TA):TI:=λσ H R=>ta σ H λvs H1=>∃j:Int,vs=[.int j]/\-(2^62)<=j/\j<2^62/\R (Itr 0 j.toNat) H1
def ct3(ta:TA):TI:=λσ H R=>ta σ H λvs H1=>∃i j:Int,vs=[.int i,.int j]/\(-(2^62)<=i/\i<2^62/\-(2^62)<=j/\j<2^62)/\R (Itr i (j-i).toNat) H1
theorem gQ{a:Expr}{ta:TA}{p pos:Pos}(hg:Gl X "range")(hm:X.mg "range"=none)(ha:PA X [a] ta)(hs:starEach [a] X.env=[(false,eval a X.env)]:=by rfl):PI X tg (.Call (.Name "range" p) [a] [] pos) (cd3 ta):=by
 intro pins s σ H R I h
 refine Call_ (mX I hg hm boot_range (PyProof.Rows.callWith_type1 (bS (ha pins s σ H _ I h) λus s1 ⟨vs,H1,I1,r1,q1⟩=>?_) hs rfl))
 obtain⟨j,e,q1,q2,q⟩:=q1
 subst e
 cases r1 with
 |cons r rr=>
  cases rr
  obtain⟨t,rfl⟩:=r
  exact call_range_1 (ap8 I1 (by omega) (by omega) q1 q2 (by simpa using q))
theorem bj6(hg:Gl X "range")(hm:X.mg "range"=none)(ha:PA X [a,b] ta)(hs:starEach [a,b] X.env=[(false,eval a X.env),(false,eval b X.env)]:=by rfl)(hs2:starEach [b] X.env=[(false,eval b X.env)]:=by rfl):
 PI X tg (.Call (.Name "range" p) [a,b] [] pos) (ct3 ta):=by
 intro pins s σ H R I h
 refine Call_ (mX I hg hm boot_range (PyProof.Rows.callWith_type1 (bS (ha pins s σ H _ I h) λus s1 ⟨vs,H1,I1,r1,q1⟩=>?_) (by rw[hs,hs2]) (by rw[hs2];rfl)))
 obtain⟨i,j,e,⟨q1,q2,q3,q4⟩,q⟩:=q1
 subst e
 cases r1 with
 |cons r rr=>
  cases rr with
  |cons r' rr=>
   cases rr
   obtain⟨t,rfl⟩:=r
   obtain⟨t',rfl⟩:=r'
   exact call_range_2 (ap8 I1 q1 q2 q3 q4 q)
def cw7(wi:TI)(g:TG)(tb:TS):TS:=λD σ H=>wi σ H λJ H1=>∃W:Nat->Nat->St->Hp->Prop,(∃m,W 0 m σ H1)/\∀i m σ H,W i m σ H->
 (J.stop i H/\D.nx σ H)\/(J.go i H/\∃N:St->Hp->Prop,(∀σ' H',N σ' H'->∃m',m'<m/\W (i+1) m' σ' H')/\∀x H',J.yld i H x H'->g x σ H' λσ2 H2=>tb {D with nx:=N,ct:=N,bk:=D.nx} σ2 H2)
def tI(fp:List Addr)(h:Heap):List (Addr×Obj):=fp.filterMap λb=>(h.get? b).map λo=>(b,o)
theorem pY(hb:b∈fp)(e:h.get? b=some o):(b,o)∈tI fp h:=List.mem_filterMap.mpr ⟨b,hb,by rw[e];rfl⟩
theorem bi5(hp:p∈tI fp h):p.1∈fp/\h.get? p.1=some p.2:=by
 obtain⟨b,hb,e⟩:=List.mem_filterMap.mp hp
 cases q:h.get? b with
 |none=>rw[q]at e;cases e
 |some o=>
  rw[q]at e
  have e':(b,o)=p:=Option.some.inj e
  subst e'
  exact⟨hb,q⟩
theorem Inv.pinned(I:Inv X pins σ H s)(hf:∀b∈fp,oA X pins H b)(ho:∀b∈fp,∃o,s.heap.get? b=some o/\∀v,o.data≠ .cell v):Inv X (pins++tI fp s.heap) σ H s:=
 I.pins_of λp hp=>(List.mem_append.mp hp).elim (λz=>I.pin p (List.mem_append_right _ z)) λz=>by
  obtain⟨hb,e⟩:=bi5 z
  obtain⟨f0,f1,f2,_⟩:=hf p.1 hb
  obtain⟨o,e',d⟩:=ho p.1 hb
  rw[e]at e';cases e'
  exact⟨e,f0,f1,f2,d⟩
theorem Inv.unpinned(I:Inv X (pins++pl) σ H s):Inv X pins σ H s:=I.pins_of λp hp=>I.pin p (List.mem_append_right _ (List.mem_append_left _ hp))
theorem iD(hp:PassesOwn (model X.prog X.w) X.A X.env X.xe)(hc:X.calm=true)(hi:PI X tg iter wi)(hg:PG X tg g)(hb:PSs X body tb)
 (hs:∀x,foldedSetIterable iter X.env x=pure x:=by intro _;rfl):PS X (.For tg iter body [] pos) (cw7 wi g tb):=by
 intro pins s σ H D I h
 refine wpAny_For (bS (hi s σ H _ I h) λv s1 h1=>bS h1 λitv s2 h2=>?_) hs
 obtain⟨it,fp,tn,J,H2,e,I2,T,st2,f2,W,⟨m0,w0⟩,turn⟩:=h2
 subst e
 have stat:∀{H':Hp},(∀b∈fp,H' b=none)->∀b∈fp,oA X pins H' b:=λhn b hb=>⟨hn b hb,(f2 b hb).2⟩
 refine codeAny_forLoop_any (λn s'=>∃i σ' H',Inv X pins σ' H' s'/\tn i s'.heap/\(∀b∈fp,H' b=none)/\W i n σ' H') ?_ m0 ⟨0,σ,H2,I2,st2,λb hb=>(f2 b hb).1,w0⟩
 rintro n s3 ⟨i,σ3,H3,I3,st3,fr3,w3⟩
 rcases turn i n σ3 H3 w3 with⟨stop,qn⟩|⟨go,N,hN,step⟩
 . refine wpAny_passesOwn hp (bS (T.done X rfl rfl rfl hc i pins s3 σ3 H3 X.xe I3 (stat fr3) st3 stop) λr s4 ⟨hr,I4⟩=>?_)
   subst hr
   exact wpAny_execs_nil ⟨σ3,H3,I4,qn⟩
 . refine wpAny_passesOwn hp (bS (T.item X rfl rfl rfl hc i pins s3 σ3 H3 X.xe I3 (stat fr3) st3 go) λr s4 ⟨u,hr,h4⟩=>?_)
   subst hr
   refine wpAny_passesOwn hp (bS h4 λ_ s5 ⟨x,H5,I5,r5,y5,st5,fr5⟩=>?_)
   have I5':=I5.pinned (stat fr5) (T.obj _ _ st5)
   refine wpAny_passesOwn hp (bS (hg s5 σ3 H5 x u _ I5' r5 (step x H5 y5)) λ_ s6 ⟨σ6,H6,I6,q6⟩=>?_)
   refine wpAny_passesOwn hp (bS (hb s6 σ6 H6 _ I6 q6) λf s7 q7=>?_)
   have again:∀{σ7:St}{H7:Hp},Inv X (pins++tI fp s5.heap) σ7 H7 s7->N σ7 H7->∃m,m<n/\∃i σ' H',Inv X pins σ' H' s7/\tn i s7.heap/\(∀b∈fp,H' b=none)/\W i m σ' H':=λ{σ7 H7} I7 n7=>by
    obtain⟨m',hm,w7⟩:=hN σ7 H7 n7
    refine⟨m',hm,i+1,σ7,H7,I7.unpinned,T.keep _ _ _ st5 λb hb o e=>(I7.pin (b,o) (List.mem_append_right _ (List.mem_append_right _ (pY hb e)))).1,λb hb=>?_,w7⟩
    obtain⟨o,e,d⟩:=T.obj _ _ st5 b hb
    exact(I7.pin (b,o) (List.mem_append_right _ (List.mem_append_right _ (pY hb e)))).2.1
   cases f with
   |next=>obtain⟨σ7,H7,I7,n7⟩:=q7;exact again I7 n7
   |cont=>obtain⟨σ7,H7,I7,n7⟩:=q7;exact again I7 n7
   |brk=>obtain⟨σ7,H7,I7,q7⟩:=q7;exact⟨σ7,H7,I7.unpinned,q7⟩
   |ret v=>obtain⟨x7,σ7,H7,I7,r7,q7⟩:=q7;exact⟨x7,σ7,H7,I7.unpinned,r7,q7⟩
end
end L2
namespace L2
open PySem PySem.Spec PyProof.Rows
abbrev R2:=V->V->Hp->VK->Prop
def OpR(X:Cx)(f:Value->Value->Sem Value)(r:R2):Prop:=
 ∀⦃pins:List (Addr×Obj)⦄ (s:Shared)(σ:St)(H:Hp)(x y:V)(v u:Value)(Q:VK),Inv X pins σ H s->RelV x v->RelV y u->r x y H Q->
  wpAny (model X.prog X.w) X.A (f v u) (EP X pins σ Q) X.xe s
def UnR(X:Cx)(f:Value->Sem Value)(r:V->Hp->VK->Prop):Prop:=
 ∀⦃pins:List (Addr×Obj)⦄ (s:Shared)(σ:St)(H:Hp)(x:V)(v:Value)(Q:VK),Inv X pins σ H s->RelV x v->r x H Q->
  wpAny (model X.prog X.w) X.A (f v) (EP X pins σ Q) X.xe s
def CallR(X:Cx)(f:Value)(r:List V->Hp->VK->Prop):Prop:=
 ∀⦃pins:List (Addr×Obj)⦄ (s:Shared)(σ:St)(H:Hp)(xs:List V)(us:List Value)(Q:VK),Inv X pins σ H s->Vals xs us->r xs H Q->
  wpAny (model X.prog X.w) X.A (call f us) (EP X pins σ Q) X.xe s
def db6(X:Cx)(r:V->Hp->(Bool->Hp->Prop)->Prop):Prop:=
 ∀⦃pins:List (Addr×Obj)⦄ (s:Shared)(σ:St)(H:Hp)(x:V)(v:Value)(Q:Bool->Hp->Prop),Inv X pins σ H s->RelV x v->r x H Q->
  wpAny (model X.prog X.w) X.A (truthy v) (TP X pins σ Q) X.xe s
def tOp(r:R2)(ta tb:TE):TE:=λσ H Q=>ta σ H λx H1=>tb σ H1 λy H2=>r x y H2 Q
def tUn(r:V->Hp->VK->Prop)(ta:TE):TE:=λσ H Q=>ta σ H λx H1=>r x H1 Q
def rI(C:Int->Int->Prop)(g:Int->Int->V):R2:=λx y H Q=>∃i j,x=.int i/\y=.int j/\C i j/\Q (g i j) H
def rN(g:Int->Int->V):R2:=λx y H Q=>∃i j,x=.int i/\y=.int j/\Q (g i j) H
def rU(g:Int->V):V->Hp->VK->Prop:=λx H Q=>∃i,x=.int i/\Q (g i) H
section
variable {X : Cx} {a b c : Expr} {ta tb tc : TE} {pos : Pos}
theorem cj0(ha:PE X a ta)(hb:PE X b tb){pins:List (Addr×Obj)}{s:Shared}{σ:St}{H:Hp}{R:V->V->Hp->Prop}(I:Inv X pins σ H s)
 (h:ta σ H λx H1=>tb σ H1 λy H2=>R x y H2){Q:Value->Shared->Prop}{f:Value->Value->Sem Value}
 (hf:∀v u s2 x y H2,Inv X pins σ H2 s2->RelV x v->RelV y u->R x y H2->wpAny (model X.prog X.w) X.A (f v u) Q X.xe s2):
 wpAny (model X.prog X.w) X.A (eval a X.env) (λv s₁=>wpAny (model X.prog X.w) X.A (eval b X.env) (λu s₂=>wpAny (model X.prog X.w) X.A (f v u) Q X.xe s₂) X.xe s₁) X.xe s:=by
 refine bS (ha s σ H _ I h) λv s1 ⟨x,H1,I1,r1,q1⟩=>?_
 refine bS (hb s1 σ H1 _ I1 q1) λu s2 ⟨y,H2,I2,r2,q2⟩=>?_
 exact hf v u s2 x y H2 I2 r1 r2 q2
theorem aK{op:Operator}{r:R2}(ho:OpR X (binaryOp op) r)(ha:PE X a ta)(hb:PE X b tb):PE X (.BinOp a op b pos) (tOp r ta tb):=by
 intro pins s σ H Q I h
 exact wpAny_BinOp (cj0 ha hb I h λv u s2 x y H2 I2 rx ry q=>ho s2 σ H2 x y v u Q I2 rx ry q)
theorem oV(ho:UnR X (unaryOp op) r)(ha:PE X a ta):PE X (.UnaryOp op a pos) (tUn r ta):=by
 intro pins s σ H Q I h
 exact UnaryOp_ (bS (ha s σ H _ I h) λv s1 ⟨x,H1,I1,r1,q1⟩=>ho s1 σ H1 x v Q I1 r1 q1)
theorem opI{f:Value->Value->Sem Value}{C:Int->Int->Prop}{g:Int->Int->Int}
 (rule:∀(i j:Int)(t u:Tok)(s:Shared)(Q:Value->Shared->Prop)(E:Value->Shared->Prop),C i j->Q (.int (g i j) s.toks) {s with toks:=s.toks+1}->wpAny (model X.prog X.w) X.A (f (.int i t) (.int j u)) Q E s):
 OpR X f (rI C λi j=>.int (g i j)):=by
 intro pins s σ H x y v u Q I rx ry h
 obtain⟨i,j,rfl,rfl,hc,q⟩:=h
 obtain⟨t,rfl⟩:=rx
 obtain⟨t',rfl⟩:=ry
 exact rule i j t t' s _ _ hc ⟨.int (g i j),H,I.tok _,⟨_,rfl⟩,q⟩
theorem cn7{f:Value->Value->Sem Value}{g:Int->Int->Int}
 (rule:∀(i j:Int)(t u:Tok)(s:Shared)(Q:Value->Shared->Prop)(E:Value->Shared->Prop),Q (.int (g i j) s.toks) {s with toks:=s.toks+1}->wpAny (model X.prog X.w) X.A (f (.int i t) (.int j u)) Q E s):
 OpR X f (rN λi j=>.int (g i j)):=by
 intro pins s σ H x y v u Q I rx ry h
 obtain⟨i,j,rfl,rfl,q⟩:=h
 obtain⟨t,rfl⟩:=rx
 obtain⟨t',rfl⟩:=ry
 exact rule i j t t' s _ _ ⟨.int (g i j),H,I.tok _,⟨_,rfl⟩,q⟩
theorem bw3{f:Value->Value->Sem Value}{g:Int->Int->Bool}
 (rule:∀(i j:Int)(t u:Tok)(s:Shared)(Q:Value->Shared->Prop)(E:Value->Shared->Prop),Q (.bool (g i j)) s->wpAny (model X.prog X.w) X.A (f (.int i t) (.int j u)) Q E s):
 OpR X f (rN λi j=>.bl (g i j)):=by
 intro pins s σ H x y v u Q I rx ry h
 obtain⟨i,j,rfl,rfl,q⟩:=h
 obtain⟨t,rfl⟩:=rx
 obtain⟨t',rfl⟩:=ry
 exact rule i j t t' s _ _ ⟨.bl (g i j),H,I,rfl,q⟩
def sF(i j:Int):Prop:=0<j/\j<1073741824
def vQ(i j:Int):Prop:=0<=j/\j<=1000000/\i.natAbs<2^64
theorem op_add:OpR X (binaryOp .Add) (rN λi j=>.int (i+j)):=cn7 λ_ _ _ _ _ _ _ q=>add_int q
theorem bZ:OpR X (binaryOp .Sub) (rN λi j=>.int (i-j)):=cn7 λ_ _ _ _ _ _ _ q=>sub_int q
theorem eS:OpR X (binaryOp .FloorDiv) (rI sF λi j=>.int (i/j)):=opI λi j _ _ _ _ _ hc q=>by
 have h1:(0:Int)<j:=hc.1
 have h2:j<1073741824:=hc.2
 exact floordiv_int (by omega) (by rw[Int.fdiv_eq_ediv_of_nonneg i (by omega)];exact q) (.inl (PyProof.noPylong_small (by omega)))
theorem bH:OpR X (binaryOp .Mod) (rI (λ_ j=>0<j) λi j=>.int (i%j)):=opI λi j _ _ _ _ _ hc q=>by
 have h1:(0:Int)<j:=hc
 exact mod_int' (by omega) (by rw[Int.fmod_eq_emod_of_nonneg i (by omega)];exact q)
theorem ai7:OpR X (binaryOp .Pow) (rI vQ λi j=>.int (i^j.toNat)):=opI λ_ _ _ _ _ _ _ hc q=>pow_int_small hc.1 hc.2.1 hc.2.2 q
theorem unI{f:Value->Sem Value}{g:Int->Int}
 (rule:∀(i:Int)(t:Tok)(s:Shared)(Q:Value->Shared->Prop)(E:Value->Shared->Prop),Q (.int (g i) s.toks) {s with toks:=s.toks+1}->wpAny (model X.prog X.w) X.A (f (.int i t)) Q E s):
 UnR X f (rU λi=>.int (g i)):=by
 intro pins s σ H x v Q I rx h
 obtain⟨i,rfl,q⟩:=h
 obtain⟨t,rfl⟩:=rx
 exact rule i t s _ _ ⟨.int (g i),H,I.tok _,⟨_,rfl⟩,q⟩
theorem lU:UnR X (unaryOp .USub) (rU λi=>.int (-i)):=unI λ_ _ _ _ _ q=>neg_int q
end
def bs9:V->V->Bool
 |.non,.non=>true|.non,.int _=>true|.int _,.non=>true|.non,.bl _=>true|.bl _,.non=>true|.non,.str _=>true|.str _,.non=>true
 |.int _,.int _=>true|.bl _,.bl _=>true|.str _,.str _=>true|.byt _,.byt _=>true
 |.int _,.str _=>true|.str _,.int _=>true|.bl _,.str _=>true|.str _,.bl _=>true
 |_,_=>false
def rEq:R2:=λx y H Q=>bs9 x y=true/\Q (.bl (decide (x=y))) H
def rNe:R2:=λx y H Q=>bs9 x y=true/\Q (.bl (!decide (x=y))) H
theorem ad3:decide (V.int i=V.int j)=(i==j):=by
 rw[Bool.eq_iff_iff]
 simp
theorem ag9:decide (V.bl i=V.bl j)=(i==j):=by
 rw[Bool.eq_iff_iff]
 simp
theorem ae3:decide (V.str i=V.str j)=(i==j):=by
 rw[Bool.eq_iff_iff]
 simp
theorem bj1:decide (V.byt i=V.byt j)=(i.toList==j.toList):=by
 rw[Bool.eq_iff_iff]
 cases i
 cases j
 simp
section
variable {X : Cx} {a b c : Expr} {ta tb tc : TE} {pos : Pos}
theorem cH(I:Inv X pins σ H s)(q:Q (.bl k) H)(e:k=k'):EP X pins σ Q (.bool k') s:=by
 subst e
 exact⟨.bl k,H,I,rfl,q⟩
theorem dv5:OpR X (compareOp .Eq) rEq:=by
 intro pins s σ H x y v u Q I rx ry h
 obtain⟨hs,q⟩:=h
 cases x with
 |non=>
  cases rx
  cases y with
  |non=>cases ry;exact PySem.EqNone.eq_none_none (cH I q (by simp))
  |bl j=>cases ry;exact PySem.EqNone.eq_none_bool (cH I q (by simp))
  |int j=>obtain⟨t',rfl⟩:=ry;exact PySem.EqNone.eq_none_int (cH I q (by simp))
  |str j=>obtain⟨t',rfl⟩:=ry;exact PySem.EqNone.eq_none_str (cH I q (by simp))
  |_=>exact absurd (show false=true from hs) Bool.false_ne_true
 |bl i=>
  cases rx
  cases y with
  |non=>cases ry;exact PySem.EqNone.eq_bool_none (cH I q (by simp))
  |bl j=>cases ry;exact eq_bool (cH I q ag9)
  |str j=>obtain⟨t',rfl⟩:=ry;exact PySem.EqMixed.eq_bool_str (cH I q (by simp))
  |_=>exact absurd (show false=true from hs) Bool.false_ne_true
 |int i=>
  obtain⟨t,rfl⟩:=rx
  cases y with
  |non=>cases ry;exact PySem.EqNone.eq_int_none (cH I q (by simp))
  |int j=>obtain⟨t',rfl⟩:=ry;exact eq_int (cH I q ad3)
  |str j=>obtain⟨t',rfl⟩:=ry;exact PySem.EqMixed.eq_int_str (cH I q (by simp))
  |_=>exact absurd (show false=true from hs) Bool.false_ne_true
 |str i=>
  obtain⟨t,rfl⟩:=rx
  cases y with
  |non=>cases ry;exact PySem.EqNone.eq_str_none (cH I q (by simp))
  |bl j=>cases ry;exact PySem.EqMixed.eq_str_bool (cH I q (by simp))
  |int j=>obtain⟨t',rfl⟩:=ry;exact PySem.EqMixed.eq_str_int (cH I q (by simp))
  |str j=>obtain⟨t',rfl⟩:=ry;exact eq_str (cH I q ae3)
  |_=>exact absurd (show false=true from hs) Bool.false_ne_true
 |byt i=>
  obtain⟨t,rfl⟩:=rx
  cases y with
  |byt j=>obtain⟨t',rfl⟩:=ry;exact PySem.W.eq_bytes (cH I q bj1)
  |_=>exact absurd (show false=true from hs) Bool.false_ne_true
 |_=>cases y<;>exact absurd (show false=true from hs) Bool.false_ne_true
theorem dx4:OpR X (compareOp .NotEq) rNe:=by
 intro pins s σ H x y v u Q I rx ry h
 obtain⟨hs,q⟩:=h
 cases x with
 |non=>
  cases rx
  cases y with
  |non=>cases ry;exact PySem.EqNone.ne_none_none (cH I q (by simp))
  |bl j=>cases ry;exact PySem.EqNone.ne_none_bool (cH I q (by simp))
  |int j=>obtain⟨t',rfl⟩:=ry;exact PySem.EqNone.ne_none_int (cH I q (by simp))
  |str j=>obtain⟨t',rfl⟩:=ry;exact PySem.EqNone.ne_none_str (cH I q (by simp))
  |_=>exact absurd (show false=true from hs) Bool.false_ne_true
 |bl i=>
  cases rx
  cases y with
  |non=>cases ry;exact PySem.EqNone.ne_bool_none (cH I q (by simp))
  |bl j=>cases ry;exact ne_bool (cH I q (congrArg not ag9))
  |str j=>obtain⟨t',rfl⟩:=ry;exact PySem.EqMixed.ne_bool_str (cH I q (by simp))
  |_=>exact absurd (show false=true from hs) Bool.false_ne_true
 |int i=>
  obtain⟨t,rfl⟩:=rx
  cases y with
  |non=>cases ry;exact PySem.EqNone.ne_int_none (cH I q (by simp))
  |int j=>obtain⟨t',rfl⟩:=ry;exact ne_int (cH I q (congrArg not ad3))
  |str j=>obtain⟨t',rfl⟩:=ry;exact PySem.EqMixed.ne_int_str (cH I q (by simp))
  |_=>exact absurd (show false=true from hs) Bool.false_ne_true
 |str i=>
  obtain⟨t,rfl⟩:=rx
  cases y with
  |non=>cases ry;exact PySem.EqNone.ne_str_none (cH I q (by simp))
  |bl j=>cases ry;exact PySem.EqMixed.ne_str_bool (cH I q (by simp))
  |int j=>obtain⟨t',rfl⟩:=ry;exact PySem.EqMixed.ne_str_int (cH I q (by simp))
  |str j=>obtain⟨t',rfl⟩:=ry;exact ne_str (cH I q (congrArg not ae3))
  |_=>exact absurd (show false=true from hs) Bool.false_ne_true
 |byt i=>
  obtain⟨t,rfl⟩:=rx
  cases y with
  |byt j=>obtain⟨t',rfl⟩:=ry;exact PySem.W.ne_bytes (cH I q (congrArg not bj1))
  |_=>exact absurd (show false=true from hs) Bool.false_ne_true
 |_=>cases y<;>exact absurd (show false=true from hs) Bool.false_ne_true
theorem tT:OpR X (compareOp .Lt) (rN λi j=>.bl (decide (i<j))):=bw3 λ_ _ _ _ _ _ _ q=>lt_int q
theorem kE:OpR X (compareOp .LtE) (rN λi j=>.bl (decide (i<=j))):=bw3 λ_ _ _ _ _ _ _ q=>le_int q
theorem bk2:OpR X (compareOp .Gt) (rN λi j=>.bl (decide (j<i))):=bw3 λ_ _ _ _ _ _ _ q=>gt_int q
theorem cn3:OpR X (compareOp .GtE) (rN λi j=>.bl (decide (j<=i))):=bw3 λ_ _ _ _ _ _ _ q=>ge_int q
theorem ba8:OpR X (compareOp .In) (λx y H Q=>∃i j,x=.str i/\y=.str j/\Q (.bl (!(Builtin.Str.occurrences j i 0 j.length 1).isEmpty)) H):=by
 intro pins s σ H x y v u Q I rx ry h
 obtain⟨i,j,rfl,rfl,q⟩:=h
 obtain⟨t,rfl⟩:=rx
 obtain⟨t',rfl⟩:=ry
 exact in_str (cH I q rfl)
theorem da1:OpR X (compareOp .Is) (λx y H Q=>y=.non/\Q (.bl (decide (x=.non))) H):=by
 intro pins s σ H x y v u Q I rx ry h
 obtain⟨rfl,q⟩:=h
 cases ry
 refine is_none_gen (cH I q ?_)
 cases x<;>first
  |(cases rx;rfl)
  |(obtain⟨t,rfl⟩:=rx;rfl)
theorem xO:OpR X (compareOp .IsNot) (λx y H Q=>y=.non/\Q (.bl (!decide (x=.non))) H):=by
 intro pins s σ H x y v u Q I rx ry h
 obtain⟨rfl,q⟩:=h
 cases ry
 refine isnot_none_gen (cH I q ?_)
 cases x<;>first
  |(cases rx;rfl)
  |(obtain⟨t,rfl⟩:=rx;rfl)
theorem OpR.or(h:OpR X f r)(h':OpR X f r'):OpR X f (λx y H Q=>r x y H Q\/r' x y H Q):=by
 intro pins s σ H x y v u Q I rx ry q
 rcases q with q|q
 . exact h s σ H x y v u Q I rx ry q
 . exact h' s σ H x y v u Q I rx ry q
theorem ac1(b:Expr)(h:op≠ .In:=by decide)(h2:op≠ .NotIn:=by decide):behindInMarks op b=false:=by
 have e1:(op==CmpOp.In)=false:=by cases op<;>first|rfl|exact absurd rfl h
 have e2:(op==CmpOp.NotIn)=false:=by cases op<;>first|rfl|exact absurd rfl h2
 cases b<;>simp[behindInMarks,e1,e2]
theorem oF{op:CmpOp}{r:R2}(ho:OpR X (compareOp op) r)(ha:PE X a ta)(hb:PE X b tb)(hm:behindInMarks op b=false):PE X (.Compare a [op] [b] pos) (tOp r ta tb):=by
 intro pins s σ H Q I h
 exact wpAny_Compare1 (cj0 ha hb I h λv u s2 x y H2 I2 rx ry q=>ho s2 σ H2 x y v u Q I2 rx ry q) hm
def ax6(t:TE):TT:=λσ H Q=>t σ H λx H'=>∃k,x=.bl k/\Q k H'
theorem ch4(ho:OpR X (compareOp op) r)(ha:PE X a ta)(hb:PE X b tb)(hm:behindInMarks op b=false):PT X (.Compare a [op] [b] pos) (ax6 (tOp r ta tb)):=by
 intro pins s σ H Q I h
 refine wpAny_isTrue_Compare1 (bS (ha s σ H _ I h) λv s1 ⟨x,H1,I1,r1,q1⟩=>bS (hb s1 σ H1 _ I1 q1) λu s2 ⟨y,H2,I2,r2,q2⟩=>
  bS (ho s2 σ H2 x y v u _ I2 r1 r2 q2) λc s3 ⟨z,H3,I3,r3,k,e,q3⟩=>?_) hm
 subst e
 cases r3
 exact wpAny_truthy_bool ⟨H3,I3,q3⟩
def ag8(r r':R2)(ta tb tc:TE):TE:=λσ H Q=>ta σ H λx H1=>tb σ H1 λy H2=>r x y H2 λz H3=>∃k,z=.bl k/\
 (if k=true then tc σ H3 λw' H4=>r' y w' H4 Q else Q (.bl false) H3)
theorem zG(ho:OpR X (compareOp op) r)(ho':OpR X (compareOp op') r')(ha:PE X a ta)(hb:PE X b tb)(hc:PE X c tc)
 (hm:lastMarks [op,op'] [b,c]=false:=by with_unfolding_all rfl):PE X (.Compare a [op,op'] [b,c] pos) (ag8 r r' ta tb tc):=by
 intro pins s σ H Q I h
 refine Compare_chain (bS (ha s σ H _ I h) λv s1 ⟨x,H1,I1,r1,q1⟩=>chain_link (bS (hb s1 σ H1 _ I1 q1) λu s2 ⟨y,H2,I2,r2,q2⟩=>
  bS (ho s2 σ H2 x y v u _ I2 r1 r2 q2) λd s3 ⟨z,H3,I3,r3,k,e,q3⟩=>?_)) hm
 subst e
 cases r3
 refine wpAny_truthy_bool ?_
 cases k with
 |false=>exact ite_ff ⟨.bl false,H3,I3,rfl,q3⟩
 |true=>exact ite_tt (chain_last (bS (hc s3 σ H3 _ I3 q3) λw' s4 ⟨z',H4,I4,r4,q4⟩=>ho' s4 σ H4 y z' u w' Q I4 r2 r4 q4))
theorem uJ(ho:OpR X (compareOp op) r)(ho':OpR X (compareOp op') r')(ha:PE X a ta)(hb:PE X b tb)(hc:PE X c tc)
 (hm:lastMarks [op,op'] [b,c]=false:=by with_unfolding_all rfl):PT X (.Compare a [op,op'] [b,c] pos) (ax6 (ag8 r r' ta tb tc)):=by
 intro pins s σ H Q I h
 refine isTrue_chain (bS (ha s σ H _ I h) λv s1 ⟨x,H1,I1,r1,q1⟩=>test_link (bS (hb s1 σ H1 _ I1 q1) λu s2 ⟨y,H2,I2,r2,q2⟩=>
  bS (ho s2 σ H2 x y v u _ I2 r1 r2 q2) λd s3 ⟨z,H3,I3,r3,k,e,q3⟩=>?_)) hm
 subst e
 cases r3
 refine wpAny_truthy_bool ?_
 cases k with
 |false=>
  obtain⟨k',e',q'⟩:=q3
  cases e'
  exact ite_ff ⟨H3,I3,q'⟩
 |true=>
  refine ite_tt (test_last (bS (hc s3 σ H3 _ I3 q3) λw' s4 ⟨z',H4,I4,r4,q4⟩=>bS (ho' s4 σ H4 y z' u w' _ I4 r2 r4 q4) λd' s5 ⟨z2,H5,I5,r5,k2,e2,q5⟩=>?_))
  subst e2
  cases r5
  exact wpAny_truthy_bool ⟨H5,I5,q5⟩
def al7(K:PySem.W.Frag)(x:V)(H:Hp)(k:Bool):Prop:=
 match x with
 |.non=>k=false
 |.bl b=>k=b
 |.int i=>k=(i !=0)
 |.str y=>y.length<=sizeLine/\k=((y.length:Int) !=0)
 |.byt y=>y.size<=sizeLine/\k=((y.size:Int) !=0)
 |.ref p=>(∃xs,SqL K H p xs/\k=!xs.isEmpty)\/(∃xs,SqT K H p xs/\k=!xs.isEmpty)\/∃kvs,H p=some (.dK kvs)/\k=!kvs.isEmpty
 |_=>False
theorem bn2(r:KV kvs vs):(!vs.isEmpty)=!kvs.isEmpty:=by
 cases r<;>rfl
theorem ad1(r:Vals xs its):(!its.toArray.isEmpty)=!xs.isEmpty:=by
 cases r<;>simp
theorem xB:(sizeLine:Nat)<2^63:=by rw[sizeLine_eq];decide
theorem ca8:db6 X (λx H Q=>∃k,al7 X.K x H k/\Q k H):=by
 intro pins s σ H x v Q I rx h
 obtain⟨k,e,q⟩:=h
 have hl:=xB
 have hs:sizeLine=16777216:=sizeLine_eq
 cases x with
 |non=>
  cases rx
  have e':k=false:=e
  subst e'
  exact truthy_none ⟨H,I,q⟩
 |bl b=>
  cases rx
  have e':k=b:=e
  subst e'
  exact wpAny_truthy_bool ⟨H,I,q⟩
 |int i=>
  obtain⟨t,rfl⟩:=rx
  have e':k=(i !=0):=e
  subst e'
  exact PySem.P.truthy_int ⟨H,I,q⟩
 |str y=>
  obtain⟨t,rfl⟩:=rx
  obtain⟨hy,e'⟩:y.length<=sizeLine/\k=((y.length:Int) !=0):=e
  subst e'
  exact PySem.P.truthy_str (by omega) ⟨H,I.tok _,q⟩
 |byt y=>
  obtain⟨t,rfl⟩:=rx
  obtain⟨hy,e'⟩:y.size<=sizeLine/\k=((y.size:Int) !=0):=e
  subst e'
  exact PySem.W.truthy_bytes (by omega) ⟨H,I.tok _,q⟩
 |ref p=>
  cases rx
  have e':(∃xs,SqL X.K H p xs/\k=!xs.isEmpty)\/(∃xs,SqT X.K H p xs/\k=!xs.isEmpty)\/∃kvs,H p=some (.dK kvs)/\k=!kvs.isEmpty:=e
  rcases e' with⟨xs,hx,e'⟩|⟨xs,hx,e'⟩|⟨kvs,hx,e'⟩
  . subst e'
    obtain⟨its,r,pl,hz⟩:=I.list hx
    have hlen:=r.length
    exact wpAny_truthy_list pl.isList (by simp only[List.size_toArray];omega) ⟨H,I.tok _,by rw[ad1 r];exact q⟩
  . subst e'
    obtain⟨its,r,pl,hz⟩:=I.tuple hx
    have hlen:=r.length
    exact truthy_tuple pl (by simp only[List.size_toArray];omega) ⟨H,I.tok _,by rw[ad1 r];exact q⟩
  . subst e'
    obtain⟨hz,hS,vs,r,m⟩:kvs.length<=sizeLine/\(p==sysModules)=false/\∃vs,KV kvs vs/\s.heap.DictOf (at3 X.prog X.w) p vs:=I.hok p _ hx
    have hlen:kvs.length=vs.length:=Paired.length r
    exact wpAny_truthy_dict hS m (by omega) ⟨H,I.tok _,by rw[bn2 r];exact q⟩
 |_=>exact(show False from e).elim
theorem ca2(ha:PE X a ta)(he:∀whole,isTrue a X.env whole=(do let v<-whole;standAt a.pos;holding [v] (truthy v))):
 PT X a (λσ H Q=>ta σ H λx H'=>∃k,al7 X.K x H' k/\Q k H'):=by
 intro pins s σ H Q I h
 exact isTrue_plain (bS (ha s σ H _ I h) λv s1 ⟨x,H1,I1,r1,q1⟩=>ca8 s1 σ H1 x v Q I1 r1 q1) (he _)
theorem op_add_str:OpR X (binaryOp .Add) (λx y H Q=>∃i j,x=.str i/\y=.str j/\i.length+j.length<=sizeLine/\Q (.str (i++j)) H):=by
 intro pins s σ H x y v u Q I rx ry h
 obtain⟨i,j,rfl,rfl,hz,q⟩:=h
 obtain⟨t,rfl⟩:=rx
 obtain⟨t',rfl⟩:=ry
 exact add_str (λt' tk=>⟨.str (i++j),H,I.tok _,⟨_,rfl⟩,q⟩) hz
theorem ac0(r:Vals [x] us):∃u,us=[u]/\RelV x u:=by
 cases r with
 |cons r1 r2=>cases r2;exact⟨_,rfl,r1⟩
theorem be4(r:Vals [x,y] us):∃u w',us=[u,w']/\RelV x u/\RelV y w':=by
 cases r with
 |cons r1 r2=>
  cases r2 with
  |cons r3 r4=>cases r4;exact⟨_,_,rfl,r1,r3⟩
theorem bu9:CallR X (.builtin "abs") (λxs H Q=>∃i,xs=[.int i]/\Q (.int (if i<0 then -i else i)) H):=by
 intro pins s σ H xs us Q I r h
 obtain⟨i,rfl,q⟩:=h
 obtain⟨u,rfl,t,rfl⟩:=ac0 r
 exact call_abs_int λu tk=>⟨.int (if i<0 then -i else i),H,I.tok _,⟨_,rfl⟩,q⟩
theorem bo6(hc:X.calm=true):CallR X (.builtin "max") (λxs H Q=>∃i j,xs=[.int i,.int j]/\Q (.int (if j>i then j else i)) H):=by
 intro pins s σ H xs us Q I r h
 obtain⟨i,j,rfl,q⟩:=h
 obtain⟨u,w',rfl,⟨t,rfl⟩,⟨t',rfl⟩⟩:=be4 r
 refine max_two_ints (I.ok.hd hc) λh' tk k=>⟨_,H,I.kept k,?_,q⟩
 by_cases hj:j>i
 . rw[if_pos hj,if_pos hj];exact⟨_,rfl⟩
 . rw[if_neg hj,if_neg hj];exact⟨_,rfl⟩
theorem bt6(hc:X.calm=true):CallR X (.builtin "min") (λxs H Q=>∃i j,xs=[.int i,.int j]/\Q (.int (if j<i then j else i)) H):=by
 intro pins s σ H xs us Q I r h
 obtain⟨i,j,rfl,q⟩:=h
 obtain⟨u,w',rfl,⟨t,rfl⟩,⟨t',rfl⟩⟩:=be4 r
 refine min_two_ints (I.ok.hd hc) λh' tk k=>⟨_,H,I.kept k,?_,q⟩
 by_cases hj:j<i
 . rw[if_pos hj,if_pos hj];exact⟨_,rfl⟩
 . rw[if_neg hj,if_neg hj];exact⟨_,rfl⟩
theorem ay8:CallR X (.type "str") (λxs H Q=>∃i,xs=[.int i]/\i.natAbs.log2<1920/\Q (.str (toString i)) H):=by
 intro pins s σ H xs us Q I r h
 obtain⟨i,rfl,hz,q⟩:=h
 obtain⟨u,rfl,t,rfl⟩:=ac0 r
 exact PySem.P.str_of_int hz ⟨.str _,H,I.tok _,⟨_,rfl⟩,q⟩
def dd1(K:PySem.W.Frag)(x:V)(H:Hp)(n:Nat):Prop:=
 match x with
 |.str y=>y.length<=sizeLine/\n=y.length
 |.byt y=>y.size<=sizeLine/\n=y.size
 |.ref p=>(∃xs,SqL K H p xs/\n=xs.length)\/∃xs,SqT K H p xs/\n=xs.length
 |_=>False
theorem cj1:CallR X (.builtin "len") (λxs H Q=>∃x n,xs=[x]/\dd1 X.K x H n/\Q (.int n) H):=by
 intro pins s σ H xs us Q I r h
 obtain⟨x,n,rfl,e,q⟩:=h
 obtain⟨u,rfl,rx⟩:=ac0 r
 have hl:=xB
 have hs:sizeLine=16777216:=sizeLine_eq
 cases x with
 |str y=>
  obtain⟨t,rfl⟩:=rx
  obtain⟨hy,e'⟩:y.length<=sizeLine/\n=y.length:=e
  subst e'
  exact len_str (by omega) ⟨.int _,H,I.tok _,⟨_,rfl⟩,q⟩
 |byt y=>
  obtain⟨t,rfl⟩:=rx
  obtain⟨hy,e'⟩:y.size<=sizeLine/\n=y.size:=e
  subst e'
  exact PySem.W.len_bytes (by omega) ⟨.int _,H,I.tok _,⟨_,rfl⟩,q⟩
 |ref p=>
  cases rx
  have e':(∃xs,SqL X.K H p xs/\n=xs.length)\/∃xs,SqT X.K H p xs/\n=xs.length:=e
  rcases e' with⟨xs,hx,e'⟩|⟨xs,hx,e'⟩
  . subst e'
    obtain⟨its,r',pl,hz⟩:=I.list hx
    have hlen:=r'.length
    exact Calls.call_len_list pl.isList (by simp only[List.size_toArray];omega) ⟨.int xs.length,H,I.tok _,⟨_,by simp only[List.size_toArray];rw[hlen]⟩,q⟩
  . subst e'
    obtain⟨its,r',pl,hz⟩:=I.tuple hx
    have hlen:=r'.length
    exact len_tuple pl (by simp only[List.size_toArray];omega) ⟨.int xs.length,H,I.tok _,⟨_,by simp only[List.size_toArray];rw[hlen]⟩,q⟩
 |_=>exact(show False from e).elim
theorem bo0:CallR X (.builtin "divmod") (λxs H Q=>∃i j,xs=[.int i,.int j]/\sF i j/\∀p,H p=none->Q (.ref p) (upd H p (.tup [.int (i/j),.int (i%j)]))):=by
 intro pins s σ H xs us Q I r h
 obtain⟨i,j,rfl,⟨h1,h2⟩,q⟩:=h
 obtain⟨u,w',rfl,⟨t,rfl⟩,⟨t',rfl⟩⟩:=be4 r
 refine divmod_int (by omega) ?_ (.inl (PyProof.noPylong_small (by omega)))
 rw[Int.fdiv_eq_ediv_of_nonneg i (by omega),Int.fmod_eq_emod_of_nonneg i (by omega)]
 have hn:H s.heap.objs.size=none:=I.hok.fresh (Nat.le_refl _)
 refine⟨.ref s.heap.objs.size,_,?_,rfl,q _ hn⟩
 refine I.laid (λb o e=>Heap.get?_push_of_some _ e) (Nat.le_refl _) ⟨by simp only[List.length_cons,List.length_nil];rw[sizeLine_eq];decide,[.int (i/j) s.toks,.int (i%j) (s.toks+1)],.cons ⟨_,rfl⟩ (.cons ⟨_,rfl⟩ .nil),?_⟩
 exact⟨_,Heap.get?_push_size s.heap rfl,rfl,0,rfl⟩
end
end L2
namespace L2
open PySem PySem.Spec PyProof.Rows
structure ObjM (h:Heap) (x dx C:Addr) (mA:Str->Option Value):Prop where
 obj:h.get? x=some (PySem.W.instObj C dx)
 ns:h.Ns1 dx mA
 ne:dx≠x
theorem be6{h:Heap}{dx:Addr}{mA:Str->Option Value}(n:h.Ns1 dx mA):∃od,h.get? dx=some od/\∀name,PySem.W.lookIn name od=some (mA name):=by
 obtain⟨o,es,ep,ho,hd,hk,_,hm⟩:=n
 refine⟨o,ho,λname=>?_⟩
 have e:=hm name
 unfold nsFind findBy at e
 rw[<-Array.find?_toList]at e
 unfold PySem.W.lookIn
 rw[hd]
 dsimp only
 split
 . rename_i y q
   rw[q]at e
   exact congrArg some e
 . rename_i q
   rw[q]at e
   have a:es.toList.any (·.refKey)=false:=by
    rw[List.any_eq_false]
    intro y hy
    obtain⟨z,t,hkey⟩:=hk y (Array.mem_toList_iff.mp hy)
    simp[DictEntry.refKey,hkey]
   have a':¬es.toList.any (·.refKey)=true:=by rw[a];exact Bool.false_ne_true
   rw[if_neg a']
   exact congrArg some e
theorem ObjM.look(I:ObjM h x dx C mA):∃od,PySem.W.InstAt h x (PySem.W.instObj C dx) C (some od)/\∀name,PySem.W.lookIn name od=some (mA name):=
 let⟨od,ho,hl⟩:=be6 I.ns
 ⟨od,⟨I.obj,rfl,rfl,ho⟩,hl⟩
section
variable {prog : Program} {w : World} {A : Around} {E : Value → Shared → Prop} {s : Shared} {K : PySem.W.Frag} {x dx C f : Addr} {mA : Str → Option Value} {name : Str} {v : Value}
theorem ca5(X:K.In s.heap)(I:ObjM s.heap x dx C mA)(hg:PySem.W.plainGet K C name=true)(hh:PySem.W.hasDictIn K C=true)
 (ha:PySem.W.findIn K (.ref C) name=some none)(hv:mA name=some v)(hv':PySem.W.handedIn v=true)(h:Q v {s with toks:=s.toks+1}):
 wpAny (model prog w) A (getAttr (.ref x) name expr) Q E s:=by
 obtain⟨od,J,hl⟩:=I.look
 exact PySem.W.get_value X J (PySem.W.plainGet_of hg).1 (PySem.W.findObj_own hh ha rfl (by rw[hl,hv])) hv' h
theorem ci1(X:K.In s.heap)(I:ObjM s.heap x dx C mA)(hg:PySem.W.plainGet K C name=true)
 (hf:PySem.W.findIn K (.ref C) name=some (some (.ref f)))(ht:PySem.W.isFn K (.ref f)=true)(hv:mA name=none)(h:Q (.ref f,[.ref x]) s):
 wpAny (model prog w) A (getMethod (.ref x) name pl) Q E s:=by
 obtain⟨od,J,hl⟩:=I.look
 exact PySem.W.method_fn X J (PySem.W.plainGet_of hg).1 (PySem.W.plainGet_of hg).2 hf (beq_iff_eq.mp ht) (by show(PySem.W.lookIn name od).map (·.isSome)=some false;rw[hl,hv];rfl) h
theorem cr6(X:K.In s.heap)(I:ObjM s.heap x dx C mA)
 (hs:PySem.W.findIn K (.ref C) "__setattr__"=some (some (.builtin "object.__setattr__")))(hp:PySem.W.plainOver K C=true)(ht:PySem.W.takerIn K C name=some none)(hh:PySem.W.hasDictIn K C=true)
 (hw:PySem.Within mA ns)(hsz:ns.length<=sizeLine)
 (h:∀h',ObjM h' x dx C (λy=>if y=name then some v else mA y)->Heap.SameBut dx s.heap h'->Q () {s with heap:=h',toks:=s.toks+2}):
 wpAny (model prog w) A (setAttr (.ref x) name v) Q E s:=by
 obtain⟨od,J,hl⟩:=I.look
 refine PySem.W.set_plain X J hs (PySem.W.osa_open (s:={s with toks:=s.toks+1}) (r:=none) X J hp ht λb=>?_)
 obtain⟨cd,hc,hd'⟩:=PySem.W.any_some hh
 have hx:s.heap.get? x=some ⟨.ref C,some dx,.plain,#[]⟩:=I.obj
 refine wpAny_bind (wpAny_pure (wpAny_bind (wpAny_bind (wpAny_loadPart hx (wpAny_bind (PySem.W.Looks.here (s:={s with toks:=s.toks+1}) (PySem.W.looks_clsIn X hc) ?_))))))
 rw[hd']
 refine wpAny_pure (a:=some dx) (wpAny_bind (wpAny_pure (wpAny_bind ?_)))
 refine wpAny_nsSet1 (s:={s with toks:=s.toks+1}) I.ns λh' hn2 hs2=>?_
 obtain⟨oD,esD,epD,hoD,hdD,hcD⟩:=hn2.count (PySem.Within.cons name v hw)
 refine wpAny_bind (wpAny_lookBehind hoD (by rw[hdD];exact pastItsLine_dict (Nat.le_trans hcD (by rw[List.length_cons];omega))) ?_)
 exact wpAny_pure (h _ ⟨(hs2.2 _ (Ne.symm I.ne)).trans I.obj,hn2,I.ne⟩ hs2)
theorem bp9(X:K.In s.heap)(hm:PySem.W.makesIn K C=true)
 (hi:PySem.W.findIn K (.ref C) "__init__"=some (some (.ref f)))(hf:PySem.W.typeIn K (.ref f)=some (.type "function"))
 (h:codeAny (model prog w) (A.under (.builtin "type.__call__" ⟨.ref C::vs,kw⟩)) (.call (.ref f) ⟨.ref (s.heap.objs.size+1)::vs,kw⟩) (PySem.W.InitBack (s.heap.objs.size+1) R)
  {s with heap:=(s.heap.push PySem.W.emptyDict).push (PySem.W.instObj C s.heap.objs.size)}):
 codeAny (model prog w) A (.call (.ref C) ⟨vs,kw⟩) R s:=by
 obtain⟨hh,g,d,t,os⟩:=s
 exact PySem.W.make_core (PySem.W.makes_of X hm) (PySem.W.looks_findIn X hi) (λself=>PySem.W.bind_fn X self hf) (.inl rfl) h
end
def iT (f : Str) (v : V) : List (Str × V) → List (Str × V)
  | [] => [(f, v)]
  | (g, x) :: r => if g = f then (g, v) :: r else (g, x) :: iT f v r
theorem yQ (f g : Str) (v : V) : ∀ fs : List (Str × V), (iT f v fs).lookup g = if g = f then some v else fs.lookup g
  | [] => by
    show List.lookup g [(f, v)] = _
    by_cases h : g = f
    · have hb : (g == f) = true := beq_iff_eq.mpr h
      simp only [List.lookup, hb, if_pos h]
    · have hb : (g == f) = false := beq_eq_false_iff_ne.mpr h
      simp only [List.lookup, hb, if_neg h]
  | (k, x) :: r => by
    have ih := yQ f g v r
    rw [show iT f v ((k, x) :: r) = (if k = f then (k, v) :: r else (k, x) :: iT f v r) from rfl]
    by_cases hk : k = f
    · rw [if_pos hk]
      by_cases h : g = k
      · have hb : (g == k) = true := beq_iff_eq.mpr h
        simp only [List.lookup, hb, if_pos (h.trans hk)]
      · have hb : (g == k) = false := beq_eq_false_iff_ne.mpr h
        simp only [List.lookup, hb, if_neg (fun e : g = f => h (e.trans hk.symm))]
    · rw [if_neg hk]
      by_cases h : g = k
      · have hb : (g == k) = true := beq_iff_eq.mpr h
        simp only [List.lookup, hb, if_neg (fun e : g = f => hk (h.symm.trans e))]
      · have hb : (g == k) = false := beq_eq_false_iff_ne.mpr h
        simp only [List.lookup, hb]
        exact ih
theorem vV (f : Str) (v : V) : ∀ fs : List (Str × V), f ∈ (iT f v fs).map (·.1) ∧ ∀ g, g ∈ fs.map (·.1) → g ∈ (iT f v fs).map (·.1)
  | [] => ⟨by simp [iT], fun g h => by simp at h⟩
  | (k, x) :: r => by
    obtain ⟨i1, i2⟩ := vV f v r
    rw [show iT f v ((k, x) :: r) = (if k = f then (k, v) :: r else (k, x) :: iT f v r) from rfl]
    by_cases hk : k = f
    · rw [if_pos hk]
      subst hk
      exact ⟨by simp, fun g h => by simpa using h⟩
    · rw [if_neg hk]
      refine ⟨?_, fun g h => ?_⟩
      · rw [List.map_cons]
        exact List.mem_cons_of_mem _ i1
      · rw [List.map_cons] at h ⊢
        rcases List.mem_cons.mp h with e | e
        · exact List.mem_cons.mpr (.inl e)
        · exact List.mem_cons_of_mem _ (i2 g e)
theorem yH (f : Str) (v : V) : ∀ fs : List (Str × V), (iT f v fs).length ≤ fs.length + 1
  | [] => by simp [iT]
  | (k, x) :: r => by
    have ih := yH f v r
    rw [show iT f v ((k, x) :: r) = (if k = f then (k, v) :: r else (k, x) :: iT f v r) from rfl]
    by_cases hk : k = f
    · rw [if_pos hk, List.length_cons, List.length_cons]; omega
    · rw [if_neg hk, List.length_cons, List.length_cons]; omega
theorem RelO.some_of(r:RelO (some v) o):∃u,o=some u/\RelV v u:=by
 cases o with
 |none=>exact(show False from r).elim
 |some u=>exact⟨u,rfl,r⟩
theorem RelO.none_of(r:RelO none o):o=none:=by
 cases o with
 |none=>rfl
 |some u=>exact(show False from r).elim
theorem bs6(r:RelV v u):PySem.W.handedIn u=true:=by
 cases v with
 |non=>cases(show u=Value.none from r);rfl
 |bl b=>cases(show u=Value.bool b from r);rfl
 |int i=>obtain⟨t,e⟩:=(show∃t,u=Value.int i t from r);cases e;rfl
 |str x=>obtain⟨t,e⟩:=(show∃t,u=Value.str x t from r);cases e;rfl
 |byt b=>obtain⟨t,e⟩:=(show∃t,u=Value.bytes b t from r);cases e;rfl
 |flt b=>obtain⟨t,e⟩:=(show∃t,u=Value.float b t from r);cases e;rfl
 |ref a=>cases(show u=Value.ref a from r);rfl
 |ty n=>cases(show u=Value.type n from r);rfl
section
variable {P : Program} {w : World} {H H' : Hp} {h h' : Heap} {a C dx : Addr} {fs fs' : List (Str × V)}
theorem ag3(hok:HOk P w H h)(e:H a=some (.ins C dx fs)):∃mA,ObjM h a dx C mA/\(∀f,RelO (fs.lookup f) (mA f))/\PySem.Within mA (fs.map (·.1))/\fs.length<=1000/\H dx=some (.own a):=by
 obtain⟨d,z,ne,ob,mA,n,r,q⟩:=(show ObjOk P w H h a (.ins C dx fs) from hok a _ e)
 exact⟨mA,⟨ob,n,ne⟩,r,q,z,d⟩
end
structure Cls (K:PySem.W.Frag) (C:Addr):Prop where
 pg:PySem.W.plainGet K C Str.empty=true
 hd:PySem.W.hasDictIn K C=true
 po:PySem.W.plainOver K C=true
 sa:PySem.W.findIn K (.ref C) "__setattr__"=some (some (.builtin "object.__setattr__"))
theorem Cls.get{K:PySem.W.Frag}{C:Addr}(c:Cls K C)(f:Str):PySem.W.plainGet K C f=true:=c.pg
def NoAttr(K:PySem.W.Frag)(C:Addr)(f:Str):Prop:=PySem.W.findIn K (.ref C) f=some none
theorem NoAttr.taker{K:PySem.W.Frag}{C:Addr}{f:Str}(n:NoAttr K C f):PySem.W.takerIn K C f=some none:=by
 unfold PySem.W.takerIn
 rw[show PySem.W.findIn K (.ref C) f=some none from n]
 rfl
structure cx0 (K:PySem.W.Frag) (C:Addr) (m:Str) (f:Addr):Prop where
 at_:PySem.W.findIn K (.ref C) m=some (some (.ref f))
 fn:PySem.W.isFn K (.ref f)=true
 kp:PySem.W.keepIn K (.ref f)=true
section
variable {X : Cx} {pins : List (Addr × Obj)} {σ : St} {H : Hp} {s : Shared} {a C dx : Addr} {fs : List (Str × V)} {f : Str} {v : V} {A : Around} {E : Value → Shared → Prop}
theorem bl3(I:Inv X pins σ H s)(e:H a=some (.ins C dx fs))(c:Cls X.K C)(n:NoAttr X.K C f)(l:fs.lookup f=some v)
 (h:∀u s',Inv X pins σ H s'->RelV v u->Q u s'):wpAny (model X.prog X.w) A (getAttr (.ref a) f b) Q E s:=by
 obtain⟨mA,O,r,_,_,_⟩:=ag3 I.hok e
 obtain⟨u,hu,ru⟩:=RelO.some_of (v:=v) (o:=mA f) (by rw[<-l];exact r f)
 exact ca5 I.kIn O (c.get f) c.hd n hu (bs6 ru) (h u _ (I.tok _) ru)
theorem ab0(I:Inv X pins σ H s)(e:H a=some (.ins C dx fs))(c:Cls X.K C)(k:cx0 X.K C m g)(l:fs.lookup m=none)
 (h:Q (.ref g,[.ref a]) s):wpAny (model X.prog X.w) A (getMethod (.ref a) m pl) Q E s:=by
 obtain⟨mA,O,r,_,_,_⟩:=ag3 I.hok e
 have hn:mA m=none:=RelO.none_of (by rw[<-l];exact r m)
 exact ci1 I.kIn O (c.get m) k.at_ k.fn hn h
theorem ba3(I:Inv X pins σ H s)(e:H a=some (.ins C dx fs))(c:Cls X.K C)(n:NoAttr X.K C f)(hl:fs.length<1000)(ry:RelV y u)
 (h:∀s',Inv X pins σ (upd H a (.ins C dx (iT f y fs))) s'->Q () s'):wpAny (model X.prog X.w) A (setAttr (.ref a) f u) Q E s:=by
 obtain⟨mA,O,r,wi,_,ho⟩:=ag3 I.hok e
 have hz:(fs.map (·.1)).length<=sizeLine:=by rw[List.length_map,sizeLine_eq];omega
 refine cr6 I.kIn O c.sa c.po n.taker c.hd wi hz λh' O' sb=>h _ ?_
 have hd:∃o,h'.get? dx=some o:=let⟨o,_,_,e',_⟩:=O'.ns;⟨o,e'⟩
 refine I.write (x:=a) (e:=dx) (by rw[e];exact True.intro) (.inr ho) (λb q hb z=>(sb.2 b hb).trans z) hd ?_
 refine⟨by rw[bY O.ne];exact ho,?_,O.ne,O'.obj,_,O'.ns,λg=>?_,λg hg=>?_⟩
 . have:=yH f y fs;omega
 . show RelO ((iT f y fs).lookup g) (if g=f then some u else mA g)
   rw[yQ]
   by_cases q:g=f
   . rw[if_pos q,if_pos q];exact ry
   . rw[if_neg q,if_neg q];exact r g
 . by_cases q:g=f
   . rw[q];exact(vV f y fs).1
   . refine(vV f y fs).2 g (wi g λz=>hg ?_)
     show(if g=f then some u else mA g)=none
     rw[if_neg q];exact z
theorem Inv.made(I:Inv X pins σ H s):Inv X pins σ (upd (upd H s.heap.objs.size (.own (s.heap.objs.size+1))) (s.heap.objs.size+1) (.ins C s.heap.objs.size []))
 {s with heap:=(s.heap.push PySem.W.emptyDict).push (PySem.W.instObj C s.heap.objs.size)}:=by
 have e1:(s.heap.push PySem.W.emptyDict).get? s.heap.objs.size=some PySem.W.emptyDict:=Heap.get?_push_size s.heap rfl
 have e2:((s.heap.push PySem.W.emptyDict).push (PySem.W.instObj C s.heap.objs.size)).get? (s.heap.objs.size+1)=some (PySem.W.instObj C s.heap.objs.size):=by
  have:=Heap.get?_push_size (s.heap.push PySem.W.emptyDict) (o:=PySem.W.instObj C s.heap.objs.size) rfl
  rwa[Heap.size_push]at this
 have e3:(s.heap.push PySem.W.emptyDict).Ns s.heap.objs.size (λ_=>none):=⟨PySem.W.emptyDict,#[],_,e1,rfl,(λe he=>absurd he (by simp)),λ_=>rfl⟩
 have I1:=I.laid (a:=s.heap.objs.size) (o:=.own (s.heap.objs.size+1)) (h':=s.heap.push PySem.W.emptyDict) (t':=s.toks) (λb u q=>Heap.get?_push_of_some _ q) (Nat.le_refl _) ⟨_,e1⟩
 refine I1.laid (a:=s.heap.objs.size+1) (o:=.ins C s.heap.objs.size []) (t':=s.toks) (λb u q=>Heap.get?_push_of_some _ q) (Nat.le_of_eq (Heap.size_push _ _)) ?_
 have ne:s.heap.objs.size≠s.heap.objs.size+1:=Nat.ne_of_lt (Nat.lt_succ_self _)
 refine⟨by rw[bY ne,dO],Nat.zero_le _,ne,e2,λ_=>none,(Heap.Ns1.of_empty e3).at λo q=>Heap.get?_push_of_some _ q,λ_=>True.intro,λy hy=>absurd rfl hy⟩
theorem cy3(hb:attributeBase e f env (eval e env)=eval e env)
 (h:wpAny (model prog w) A (eval e env) (λo s₁=>wpAny (model prog w) A (getAttr o f true) Q E s₁) E s):wpAny (model prog w) A (eval (.Attribute e f pos) env) Q E s:=
 Attribute_any_ h (by rw[arm_eval_Attribute,hb])
end
def bk9(K:PySem.W.Frag)(ta:TE)(f:Str):TE:=λσ H Q=>ta σ H λx H1=>∃a C dx fs v,x=.ref a/\H1 a=some (.ins C dx fs)/\Cls K C/\NoAttr K C f/\fs.lookup f=some v/\Q v H1
def bm9(K:PySem.W.Frag)(ta tv:TE)(f:Str):TS:=λD σ H=>tv σ H λy H1=>ta σ H1 λx H2=>∃a C dx fs,x=.ref a/\H2 a=some (.ins C dx fs)/\Cls K C/\NoAttr K C f/\fs.length<1000/\
 D.nx σ (upd H2 a (.ins C dx (iT f y fs)))
section
variable {X : Cx} {o e value : Expr} {f : Str} {pos pos' tpos : Pos} {ta tv : TE}
theorem dm1(he:PE X e ta)(hb:attributeBase e f X.env (eval e X.env)=eval e X.env):PE X (.Attribute e f pos) (bk9 X.K ta f):=by
 intro pins s σ H Q I h
 refine cy3 hb (bS (he s σ H _ I h) λu s1 ⟨x,H1,I1,rx,a,C,dx,fs,v,ex,ea,c,n,l,q⟩=>?_)
 subst ex
 obtain rfl:u=Value.ref a:=rx
 exact bl3 I1 ea c n l λu' s2 I2 ru=>⟨v,H1,I2,ru,q⟩
theorem cm9(ha:PE X o ta)(hv:PE X value tv)(hs:swapsWith value (some (.Attribute o f pos')) pos.line X.env=pure false):PS X (.Assign [.Attribute o f pos'] value pos) (bm9 X.K ta tv f):=by
 intro pins s σ H D I h
 refine plainObj_wpAny_Assign_Attribute (bS (hv s σ H _ I h) λu s1 ⟨y,H1,I1,ry,q⟩=>bS (ha s1 σ H1 _ I1 q) λov s2 ⟨x,H2,I2,rx,a,C,dx,fs,ex,ea,c,n,l,q2⟩=>?_) hs
 subst ex
 obtain rfl:ov=Value.ref a:=rx
 exact ba3 I2 ea c n l ry λs3 I3=>⟨σ,_,I3,q2⟩
end
section
variable {X : Cx} {pins : List (Addr × Obj)} {σ : St} {H : Hp} {s : Shared} {A : Around} {E : Value → Shared → Prop} {Q : Value → Shared → Prop} {c : Value} {b : Bool}
end
end L2
namespace L2
open PySem PySem.Spec PyProof.Rows
structure Room (k:Nat) (A:Around):Prop where
 hd:A.handled=none
 dp:A.depth+3*k+5<recursionLimit
 un:A.units+16*k+200<cLine
theorem Room.mono(r:Room k A)(h:j<=k):Room j A:=⟨r.hd,by have:=r.dp;omega,by have:=r.un;omega⟩
theorem Room.deeper(r:Room (k+1) A)(env:Env):Room k (A.deeper env):=
 ⟨r.hd,by have:=r.dp;show A.depth+1+3*k+5<_;omega,by have:=r.un;show A.units+3+16*k+200<_;omega⟩
theorem bx2{A:Around}{C:Addr}{us:List Value}{kw:List (Str×Value)}:(A.under (.builtin "type.__call__" ⟨.ref C::us,kw⟩)).depth=A.depth+1:=by
 first|rfl|simp[Around.under,Code.weight,Code.isCreation,Code.isGuard,Code.isCaller,Code.frames,Code.isFrame,guardIds]
theorem bd3{A:Around}{C:Addr}{us:List Value}{kw:List (Str×Value)}:(A.under (.builtin "type.__call__" ⟨.ref C::us,kw⟩)).units=A.units+1:=by
 first|rfl|simp[Around.under,Code.cUnits,Code.frames,Code.isFrame]
theorem Room.make(r:Room (k+1) A)(C:Addr)(us:List Value)(kw:List (Str×Value)):Room k (A.under (.builtin "type.__call__" ⟨.ref C::us,kw⟩)):=
 ⟨r.hd,by have:=r.dp;rw[bx2];omega,by have:=r.un;rw[bd3];omega⟩
theorem Room.depth(r:Room k A):A.depth<recursionLimit:=by have:=r.dp;omega
theorem Room.units(r:Room k A):A.units+64<cLine:=by have:=r.un;omega
def yZ:TA:=λ_ H Q=>Q [] H
def xR(ta:TE)(tr:TA):TA:=λσ H Q=>ta σ H λx H1=>tr σ H1 λxs H2=>Q (x::xs) H2
section
variable {X : Cx} {e : Expr} {es : List Expr} {te : TE} {t : TA} {pos : Pos}
theorem pH:PA X [] yZ:=λ_ _ _ _ H Q I h=>Calls.spliced_nil ⟨[],H,I,.nil,h⟩
theorem aE(ha:PE X e te)(hr:PA X es t)(hs:starEach (e::es) X.env=(false,eval e X.env)::starEach es X.env:=by rfl):PA X (e::es) (xR te t):=by
 intro pos pins s σ H Q I h
 rw[hs]
 show wpAny _ _ (spliced ((false,eval e X.env)::backTo pos (starEach es X.env))) _ _ s
 refine Calls.spliced_cons (bS (ha s σ H _ I h) λu s1 ⟨x,H1,I1,r1,q1⟩=>?_)
 exact bS (hr pins s1 σ H1 _ I1 q1) λus s2 ⟨xs,H2,I2,r2,q2⟩=>⟨x::xs,H2,I2,.cons r1 r2,q2⟩
def co9(t:TA):TE:=λσ H Q=>t σ H λxs H1=>xs.length<=sizeLine/\∀p,H1 p=none->Q (.ref p) (upd H1 p (.tup xs))
def db0(t:TA):TE:=λσ H Q=>t σ H λxs H1=>xs.length<=sizeLine/\∀p,H1 p=none->Q (.ref p) (upd H1 p (.lst xs))
theorem bN{x1}(h:PA X es t):PE X (.Tuple es x1 pos) (co9 t):=by
 intro pins s σ H Q I hq
 refine wpAny_Tuple_spliced (bS (h pins s σ H _ I hq) λus s1 ⟨xs,H1,I1,r,z,q⟩=>⟨by rw[<-r.length];exact z,?_⟩)
 have hf:H1 s1.heap.objs.size=none:=I1.hok.fresh (Nat.le_refl _)
 refine⟨.ref s1.heap.objs.size,upd H1 s1.heap.objs.size (.tup xs),I1.laid (t':=s1.toks) (λb u e=>Heap.get?_push_of_some _ e) (Nat.le_refl _) ?_,rfl,q _ hf⟩
 exact⟨z,us,r,⟨_,Heap.get?_push_size _ rfl,rfl,_,rfl⟩⟩
theorem dF(h:PA X es t):PE X (.List es pos) (db0 t):=by
 intro pins s σ H Q I hq
 refine wpAny_List_spliced (bS (h pins s σ H _ I hq) λus s1 ⟨xs,H1,I1,r,z,q⟩=>⟨by rw[<-r.length];exact z,?_⟩)
 have hf:H1 s1.heap.objs.size=none:=I1.hok.fresh (Nat.le_refl _)
 refine⟨.ref s1.heap.objs.size,upd H1 s1.heap.objs.size (.lst xs),I1.laid (t':=s1.toks) (λb u e=>Heap.get?_push_of_some _ e) (Nat.le_refl _) ?_,rfl,q _ hf⟩
 exact⟨z,us,0,r,Heap.get?_push_size _ rfl⟩
end
abbrev Sp:=List V->Hp->VK->XK->Prop
abbrev vK:=List Env->Hp->Shared->XK->Value->Shared->Prop
structure Env0 (P:Program) (w:World) (K:PySem.W.Frag) (mg:Str->Option Value) (base:Heap) (A:Around) (outer:List Env) (s:Shared) (H:Hp):Prop where
 frames:A.frames=some outer
 mod:Mod K mg base
 bs:∀b o,base.get? b=some o->s.heap.get? b=some o/\H b=none
 bsz:base.objs.size<=s.heap.objs.size
 funs:s.heap.FunFrames base outer
 frf:∀b∈sV outer,H b=none
 hok:HOk P w H s.heap
 bare:AllBare s.gens
def CE(outer:List Env)(P:Program)(w:World)(H:Hp)(s:Shared)(Q:VK)(u:Value)(s':Shared):Prop:=
 ∃v H',s'.os=s.os/\AllBare s'.gens/\Un (sV outer) [] H H' s.heap s'.heap/\HOk P w H' s'.heap/\RelV v u/\Q v H'
def CR(CX:vK)(outer:List Env)(P:Program)(w:World)(H:Hp)(s:Shared)(Q:VK)(E:XK)(r:Result)(s':Shared):Prop:=
 match r with
 |.ok (.ret u)=>CE outer P w H s Q u s'
 |.ok _=>False
 |.error e=>CX outer H s E e s'
structure FnOk (P:Program) (w:World) (K:PySem.W.Frag) (mg:Str->Option Value) (base:Heap) (CX:vK) (k:Nat) (f:Addr) (fd:FuncData) (ps:List Str) (sp:Sp):Prop where
 len:∀vs H Q E,sp vs H Q E->vs.length=ps.length
 run:∀(A:Around)(outer:List Env)(s:Shared)(H:Hp)(args:Args)(us:List Value)(vs:List V)(Q:VK)(E:XK),Room k A->Env0 P w K mg base A outer s H->BindsTo s fd args (ps.zip us)->Vals vs us->sp vs H Q E->
  codeAny (model P w) A (.call (.ref f) args) (CR CX outer P w H s Q E) s
theorem FnOk.mono{P:Program}{w:World}{K:PySem.W.Frag}{mg:Str->Option Value}{base:Heap}{CX:vK}{j k:Nat}{f:Addr}{fd:FuncData}{ps:List Str}{sp:Sp}(F:FnOk P w K mg base CX j f fd ps sp)(h:j<=k):
 FnOk P w K mg base CX k f fd ps sp:=⟨F.len,λA outer s H args us vs Q E hr=>F.run A outer s H args us vs Q E (hr.mono h)⟩
theorem FnOk.imp{P:Program}{w:World}{K:PySem.W.Frag}{mg:Str->Option Value}{base:Heap}{CX:vK}{k:Nat}{f:Addr}{fd:FuncData}{ps:List Str}{sp sp':Sp}(F:FnOk P w K mg base CX k f fd ps sp)
 (h:∀vs H Q E,sp' vs H Q E->sp vs H Q E):FnOk P w K mg base CX k f fd ps sp':=
 ⟨λvs H Q E q=>F.len vs H Q E (h _ _ _ _ q),λA outer s H args us vs Q E hr he hb hv hs=>F.run A outer s H args us vs Q E hr he hb hv (h _ _ _ _ hs)⟩
theorem Env0.make {P : Program} {w : World} {K : PySem.W.Frag} {mg : Str → Option Value} {base : Heap} {A : Around} {outer : List Env} {s : Shared} {H : Hp} (e : Env0 P w K mg base A outer s H) (C : Addr) (us : List Value) (kw : List (Str × Value)) :
    Env0 P w K mg base (A.under (.builtin "type.__call__" ⟨.ref C :: us, kw⟩)) outer s H := ⟨by first | exact e.frames | (simpa [Around.under, Code.envs, Code.isFrame, pushEnvs] using e.frames), e.mod, e.bs, e.bsz, e.funs, e.frf, e.hok, e.bare⟩
section
variable {X : Cx} {pins : List (Addr × Obj)} {σ : St} {H : Hp} {s s' : Shared}
theorem Inv.env0(I:Inv X pins σ H s):Env0 X.prog X.w X.K X.mg X.base X.A X.stack s H:=
 ⟨I.ok.frames,I.ok.mod,I.bs,Nat.le_trans I.ok.bsz I.sz,I.stack,I.stkFree,I.hok,I.bare⟩
theorem Inv.after(I:Inv X pins σ H s)(h:CE X.stack X.prog X.w H s Q u s'):EP X pins σ Q u s':=by
 obtain⟨v,H',os,bare,un,hok,r,q⟩:=h
 obtain⟨hh,g,d,t,os'⟩:=s'
 obtain rfl:os'=s.os:=os
 exact⟨v,H',I.call (h':=hh) (g':=g) (d':=d) (t':=t) (ch:=[]) un hok bare (λb z=>absurd z (by simp)),r,q⟩
end
def de3(sp:Sp)(dvs:List V)(E:XK)(t:TA):TE:=λσ H Q=>t σ H λvs H1=>sp (vs++dvs) H1 Q E
def bm2(C:Addr)(sp:Sp)(dvs:List V)(E:XK)(t:TA):TE:=λσ H Q=>t σ H λvs H1=>∀x dx,H1 x=none->H1 dx=none->dx≠x->
 sp (.ref x::(vs++dvs)) (upd (upd H1 dx (.own x)) x (.ins C dx [])) (λv H2=>v=.non/\Q (.ref x) H2) E
def Binds(K:PySem.W.Frag)(fd:FuncData)(ps:List Str)(ds:List Value):Prop:=
 ∀(s:Shared)(us:List Value),K.In s.heap->(us++ds).length=ps.length->BindsTo s fd ⟨us,[]⟩ (ps.zip (us++ds))
theorem Binds.all{K:PySem.W.Frag}{fd:FuncData}{ps:List Str}(h:∀us:List Value,us.length=ps.length->bindArgs fd ⟨us,[]⟩=pure (ps.zip us)):Binds K fd ps []:=λs us _ hl=>by
 rw[List.append_nil]at hl⊢
 exact .of_eq (h us hl)
def wY(CX:vK)(X:Cx)(E:XK):Prop:=∀(pins:List (Addr×Obj))(σ:St)(H:Hp)(s:Shared)(e:Value)(s':Shared),Inv X pins σ H s->CX X.stack H s E e s'->X.xe e s'
section
variable {X : Cx} {CX : vK} {k : Nat} {f C : Addr} {fd : FuncData} {ps : List Str} {sp : Sp} {dvs : List V} {ds : List Value} {E : XK} {x m : Str} {p pos apos : Pos} {e o : Expr} {es : List Expr} {ta : TE} {t : TA}
theorem ap0(F:FnOk X.prog X.w X.K X.mg X.base CX k f fd ps sp)(hr:Room k X.A)(hb:Binds X.K fd ps ds)(hd:Vals dvs ds)(hx:wY CX X E)
 (I:Inv X pins σ H s)(r:Vals vs us)(h:sp (vs++dvs) H Q E):wpAny (model X.prog X.w) X.A (call (.ref f) us) (EP X pins σ Q) X.xe s:=by
 have r2:Vals (vs++dvs) (us++ds):=r.append hd
 have hl:(us++ds).length=ps.length:=by rw[<-r2.length];exact F.len _ _ _ _ h
 refine wpAny_call (codeAny_mono (F.run X.A X.stack s H ⟨us,[]⟩ (us++ds) (vs++dvs) Q E hr I.env0 (hb s us I.kIn hl) r2 h) λr s' hq=>?_)
 cases r with
 |error e=>exact hx pins σ H s e s' I hq
 |ok fl=>
  cases fl with
  |ret u=>exact I.after hq
  |next=>exact False.elim hq
  |brk=>exact False.elim hq
  |cont=>exact False.elim hq
theorem ce7(F:FnOk X.prog X.w X.K X.mg X.base CX k f fd ps sp)(hr:Room k X.A)(hg:Gl X x)(hm:X.mg x=some (.ref f))(hk:PySem.W.keepIn X.K (.ref f)=true)(hb:Binds X.K fd ps ds)(hd:Vals dvs ds)(hx:wY CX X E)
 (ha:PA X (e::es) t)(hdb:(x==("__debug__":Str))=false:=by decide)(he:starEach (e::es) X.env=(false,eval e X.env)::starEach es X.env:=by rfl)(hpl:(backTo pos (starEach es X.env)).any (·.1)=false:=by rfl):
 PE X (.Call (.Name x p) (e::es) [] pos) (de3 sp dvs E t):=by
 intro pins s σ H Q I h
 refine wpAny_Call_Name_kw (tG I hg hm ?_ hdb)
 refine PySem.W.callWith_K (h₀:=X.base) I.ok.mod.kin hk (bS (ha pins s σ H _ I h) λus s1 ⟨vs,H1,I1,r,q⟩=>⟨I1.kIn,?_⟩) he hpl
 exact ap0 F hr hb hd hx I1 r q
structure Mk (K:PySem.W.Frag) (C f:Addr):Prop where
 makes:PySem.W.makesIn K C=true
 init:PySem.W.findIn K (.ref C) "__init__"=some (some (.ref f))
 fn:PySem.W.isFn K (.ref f)=true
 kp:PySem.W.keepIn K (.ref C)=true
theorem by8(M:Mk X.K C f)(F:FnOk X.prog X.w X.K X.mg X.base CX k f fd ps sp)(hr:Room (k+1) X.A)(hb:Binds X.K fd ps ds)(hd:Vals dvs ds)
 (hx:wY CX X E)(I:Inv X pins σ H s)(r:Vals vs us)
 (h:∀x dx,H x=none->H dx=none->dx≠x->sp (.ref x::(vs++dvs)) (upd (upd H dx (.own x)) x (.ins C dx [])) (λv H2=>v=.non/\Q (.ref x) H2) E):
 wpAny (model X.prog X.w) X.A (call (.ref C) us) (EP X pins σ Q) X.xe s:=by
 have hq:=h (s.heap.objs.size+1) s.heap.objs.size (I.hok.fresh (Nat.le_succ _)) (I.hok.fresh (Nat.le_refl _)) (Nat.ne_of_lt (Nat.lt_succ_self _))
 have I2:=Inv.made (C:=C) I
 have r2:Vals (V.ref (s.heap.objs.size+1)::(vs++dvs)) (Value.ref (s.heap.objs.size+1)::(us++ds)):=.cons rfl (r.append hd)
 have hl:(Value.ref (s.heap.objs.size+1)::us++ds).length=ps.length:=by
  have e:=r2.length
  rw[F.len _ _ _ _ hq]at e
  exact e.symm
 refine wpAny_call (bp9 (f:=f) I.kIn M.makes M.init (beq_iff_eq.mp M.fn) (codeAny_mono (F.run _ X.stack _ _ ⟨Value.ref (s.heap.objs.size+1)::us,[]⟩ (Value.ref (s.heap.objs.size+1)::(us++ds)) _ _ E (hr.make C us [])
  (I2.env0.make C us []) (hb _ (Value.ref (s.heap.objs.size+1)::us) I2.kIn hl) r2 hq) λr s' hq'=>?_))
 cases r with
 |error e=>exact hx pins σ _ _ e s' I2 hq'
 |ok fl=>
  cases fl with
  |ret u=>
   obtain⟨v,H',I3,rv,ev,q3⟩:=I2.after hq'
   subst ev
   exact⟨rv,⟨V.ref (s.heap.objs.size+1),H',I3,rfl,q3⟩⟩
  |next=>exact False.elim hq'
  |brk=>exact False.elim hq'
  |cont=>exact False.elim hq'
theorem ca4(M:Mk X.K C f)(F:FnOk X.prog X.w X.K X.mg X.base CX k f fd ps sp)(hr:Room (k+1) X.A)(hg:Gl X x)(hm:X.mg x=some (.ref C))(hb:Binds X.K fd ps ds)(hd:Vals dvs ds)(hx:wY CX X E)
 (ha:PA X (e::es) t)(hdb:(x==("__debug__":Str))=false:=by decide)(he:starEach (e::es) X.env=(false,eval e X.env)::starEach es X.env:=by rfl)(hpl:(backTo pos (starEach es X.env)).any (·.1)=false:=by rfl):
 PE X (.Call (.Name x p) (e::es) [] pos) (bm2 C sp dvs E t):=by
 intro pins s σ H Q I h
 refine wpAny_Call_Name_kw (tG I hg hm ?_ hdb)
 refine PySem.W.callWith_K (h₀:=X.base) I.ok.mod.kin M.kp (bS (ha pins s σ H _ I h) λus s1 ⟨vs,H1,I1,r,q⟩=>⟨I1.kIn,?_⟩) he hpl
 exact by8 M F hr hb hd hx I1 r q
end
section
variable {X : Cx} {CX : vK} {k : Nat} {f C : Addr} {fd : FuncData} {ps ks : List Str} {sp : Sp} {E : XK} {x m : Str} {p pos apos kpos : Pos} {e o : Expr} {es : List Expr} {kws : List Keyword} {te ta : TE} {t tk : TA} {nm : Option Str}
variable {g : List Value → List Value → List Value} {gV : List V → List V → List V}
end
structure aW (N P:List Str) (sc:Scope):Prop where
 kind:sc.kind=.function
 co:sc.isCoroutine=false
 gen:sc.isGenerator=false
 nd:N.Nodup
 pre:N.take P.length=P
 par:∀x∈P,sc.names.lookup x=some .local\/sc.names.lookup x=some .cell
 nofree:∀y∈sc.names,y.2≠ .free
theorem at4 {kindOf : Str → Option NameKind} {x : Str} : ∀ {binds : List (Str × Value)} {m : Str → Option Value}, (∀ v, (x, v) ∉ binds) → bindL kindOf binds m x = m x
  | [], _, _ => rfl
  | (n, v) :: r, m, h => by
    unfold bindL
    rw [at4 fun w hw => h w (List.mem_cons_of_mem _ hw)]
    split
    · have : x ≠ n := by rintro rfl; exact h v List.mem_cons_self
      simp [this]
    · rfl
theorem an5 {kindOf : Str → Option NameKind} {x : Str} : ∀ {binds : List (Str × Value)} {m : Str → Option Value}, (∀ v, (x, v) ∉ binds) → bindC kindOf binds m x = m x
  | [], _, _ => rfl
  | (n, v) :: r, m, h => by
    unfold bindC
    rw [an5 fun w hw => h w (List.mem_cons_of_mem _ hw)]
    split
    · rfl
    · have : x ≠ n := by rintro rfl; exact h v List.mem_cons_self
      simp [this]
theorem af5{kindOf:Str->Option NameKind}{x:Str}{v:Value}:∀{P:List Str}{vs:List Value}{i:Nat}{m:Str->Option Value},P.Nodup->P[i]?=some x->vs[i]?=some v->kindOf x=some .local->
 bindL kindOf (P.zip vs) m x=some v
 |[],_,_,_,_,h,_,_=>by simp at h
 |_::_,[],_,_,_,_,h,_=>by simp at h
 |p::P,w::vs,0,m,nd,h1,h2,hk=>by
  simp at h1 h2;subst h1;subst h2
  show bindL kindOf ((p,w)::P.zip vs) m p=_
  unfold bindL
  rw[at4 λv hv=>(List.nodup_cons.mp nd).1 (List.of_mem_zip hv).1,if_pos hk]
  simp
 |p::P,w::vs,i+1,m,nd,h1,h2,hk=>by
  show bindL kindOf ((p,w)::P.zip vs) m x=_
  unfold bindL
  exact af5 (i:=i) (List.nodup_cons.mp nd).2 (by simpa using h1) (by simpa using h2) hk
theorem aw4{kindOf:Str->Option NameKind}{x:Str}{v:Value}:∀{P:List Str}{vs:List Value}{i:Nat}{m:Str->Option Value},P.Nodup->P[i]?=some x->vs[i]?=some v->kindOf x≠some .local->
 bindC kindOf (P.zip vs) m x=some v
 |[],_,_,_,_,h,_,_=>by simp at h
 |_::_,[],_,_,_,_,h,_=>by simp at h
 |p::P,w::vs,0,m,nd,h1,h2,hk=>by
  simp at h1 h2;subst h1;subst h2
  show bindC kindOf ((p,w)::P.zip vs) m p=_
  unfold bindC
  rw[an5 λv hv=>(List.nodup_cons.mp nd).1 (List.of_mem_zip hv).1,if_neg hk]
  simp
 |p::P,w::vs,i+1,m,nd,h1,h2,hk=>by
  show bindC kindOf ((p,w)::P.zip vs) m x=_
  unfold bindC
  exact aw4 (i:=i) (List.nodup_cons.mp nd).2 (by simpa using h1) (by simpa using h2) hk
def iI(N:List Str)(vs:List V):St:=vs.map some++List.replicate (N.length-vs.length) none
def lP(CX:vK)(P:Program)(w:World)(K:PySem.W.Frag)(mg:Str->Option Value)(base:Heap)(N:List Str)(qual:Str)(scope:Scope)(f:Addr)(cd:Value)(A:Around)(outer:List Env)(s:Shared)(H:Hp)(E:XK):Cx where
 prog:=P
 w:=w
 K:=K
 mg:=mg
 base:=base
 A:=A.deeper (envOfC qual scope s.heap.objs.size f cd)
 N:=N
 s₀:=s
 H₀:=H
 env:=envOfC qual scope s.heap.objs.size f cd
 outer:=outer
 stack:=envOfC qual scope s.heap.objs.size f cd::outer
 ex:=[]
 calm:=true
 fn:=λ_=>true
 pn:=[]
 xe:=λe s'=>wpAny (model P w) (A.deeper (envOfC qual scope s.heap.objs.size f cd)) (leaving (envOfC qual scope s.heap.objs.size f cd) e) (λ_ s''=>CX outer H s E e s'') (λe' s''=>CX outer H s E e' s'') s'
theorem aj8{sc:Scope}{n:Nat}{x:Str}(h:sc.names.lookup x=some .cell):∃c,(cellsFrom n sc.names []).lookup x=some c:=by
 have q:=PySem.W.cellsFrom_some sc.names n [] (.inl h)
 exact Option.isSome_iff_exists.mp q
theorem bj7{CX:vK}{P:Program}{w:World}{K:PySem.W.Frag}{mg:Str->Option Value}{base:Heap}{N ps:List Str}{qual:Str}{scope:Scope}{f:Addr}{cd:Value}{A:Around}{outer:List Env}{s s1:Shared}{H:Hp}{E:XK}{us:List Value}{vs:List V}
 (S:aW N ps scope)(hd:A.handled=none)(e0:Env0 P w K mg base A outer s H)(hl:vs.length=ps.length)(r:Vals vs us)
 (x:InCallC s s.heap.objs.size (bindL (envOfC qual scope s.heap.objs.size f cd).kindOf (ps.zip us) λ_=>none) (cellsFrom (s.heap.objs.size+1) scope.names []) (bindC (envOfC qual scope s.heap.objs.size f cd).kindOf (ps.zip us) λ_=>none) s1):
 Inv (lP CX P w K mg base N qual scope f cd A outer s H E) [] (iI N vs) H s1:=by
 have hpl:ps.length<=N.length:=by have:=congrArg List.length S.pre;rw[List.length_take]at this;omega
 obtain⟨h1,tk,rfl,hk⟩:=x.done
 have noA:∀b:Addr,b∉(lP CX P w K mg base N qual scope f cd A outer s H E).ex:=λb z=>absurd (show b∈([]:List Addr) from z) (by simp)
 refine⟨⟨e0.mod,S.kind,rfl,rfl,Nat.le_refl _,λy z c h1 h2=>?_,λy hy=>?_,λy c _ h=>?_,λ_=>hd,Around.frames_deeper e0.frames,.inr ⟨rfl,rfl⟩,λb z=>absurd z (noA b),e0.bs,e0.bsz,λb _ _=>noA b,λb z=>absurd z (noA b),e0.funs,e0.frf⟩,
  rfl,e0.bare,Un.kept hk,⟨_,x.toInCall.ns,λi y v h1 h2 h3=>?_⟩,λy c h=>⟨_,x.cell y c h⟩,e0.hok.fresh (Nat.le_refl _),λy c h=>?_,λp hp=>absurd (show p∈([]:List (Addr×Obj)) from hp) (by simp),e0.hok.kept hk,?_⟩
 . exact name_of_addr x.apart (PySem.mem_of_lookup h1) (PySem.mem_of_lookup h2)
 . have hy:scope.names.lookup y=some .cell\/scope.names.lookup y=some .free:=hy
   rcases hy with hy|hy
   . exact aj8 hy
   . exact absurd rfl (S.nofree _ (PySem.mem_of_lookup hy))
 . exact Nat.le_of_lt (x.above y c (PySem.mem_of_lookup h))
 . have hi:i<vs.length:=by
    unfold iI at h2
    by_cases hi:i<vs.length
    . exact hi
    . rw[List.getElem?_append_right (by simpa using hi)]at h2
      rw[List.getElem?_replicate]at h2
      split at h2<;>cases h2
   have ha:vs[i]?=some v:=by
    unfold iI at h2
    rw[List.getElem?_append_left (by simpa using hi),List.getElem?_map]at h2
    cases e:vs[i]? with
    |none=>rw[e]at h2;cases h2
    |some a=>rw[e]at h2;cases h2;rfl
   obtain⟨u,hu,rv⟩:=r.get ha
   have hp:ps[i]?=some y:=by
    rw[<-S.pre,List.getElem?_take_of_lt (by omega)];exact h1
   have ndP:ps.Nodup:=by rw[<-S.pre];exact S.nd.sublist (List.take_sublist _ _)
   refine⟨u,rv,?_⟩
   rcases S.par y (List.mem_of_getElem? hp)with k|k
   . exact .inl ⟨k,af5 ndP hp hu k⟩
   . obtain⟨c,e⟩:=aj8 (n:=s.heap.objs.size+1) k
     refine .inr ⟨.inl k,c,e,?_⟩
     have q:=x.cell y c e
     rw[aw4 ndP hp hu (by show scope.names.lookup y≠_;rw[k];decide)]at q
     exact q
 . exact e0.hok.fresh (Nat.le_of_lt (x.above y c (PySem.mem_of_lookup h)))
 . unfold iI
   show _=N.length
   rw[List.length_append,List.length_map,List.length_replicate]
   omega
theorem df2{CX:vK}{P:Program}{w:World}{K:PySem.W.Frag}{mg:Str->Option Value}{base:Heap}{k:Nat}{f:Addr}{name qual:Str}{params:Arguments}{body:List Stmt}{scope:Scope}{dV kV doc pm cdv ct oc:Value}{an od:Option Addr}
 {osl:Array (Option Value)}{N ps:List Str}{sp:Sp}(lk:K.lookup f=some ⟨oc,od,.func (PySem.W.fnOf name qual params body scope dV kV doc pm an cdv ct),osl⟩)(hcd:PySem.W.codeIn K cdv qual=true)(S:aW N ps scope)
 (len:∀vs H Q E,sp vs H Q E->vs.length=ps.length)
 (hbody:∀(A:Around)(outer:List Env)(s:Shared)(H:Hp)(vs:List V)(Q:VK)(E:XK),Room k (A.deeper (envOfC qual scope s.heap.objs.size f cdv))->sp vs H Q E->
  ∃t,PSs (lP CX P w K mg base N qual scope f cdv A outer s H E) body t/\t {nx:=λ_ H'=>Q .non H',rt:=Q} (iI N vs) H):
 FnOk P w K mg base CX (k+1) f (PySem.W.fnOf name qual params body scope dV kV doc pm an cdv ct) ps sp:=by
 refine⟨len,λA outer s H args us vs Q E hr e0 hb r hsp=>?_⟩
 have hl:=len _ _ _ _ hsp
 have KX:K.In s.heap:=e0.mod.kin.keeps λb o e=>(e0.bs b o e).1
 have lim:s.heap.NoLimit:=e0.mod.nolimit.keeps λb o e=>(e0.bs b o e).1
 have hkind:∀y∈ps.zip us,scope.names.lookup y.1=some .local\/(scope.names.lookup y.1=some .cell/\((cellsFrom (s.heap.objs.size+1) scope.names []).lookup y.1).isSome=true):=λ⟨n,v⟩ hy=>by
  rcases S.par n (List.of_mem_zip hy).1 with q|q
  . exact .inl q
  . exact .inr ⟨q,PySem.W.cellsFrom_some _ _ _ (.inl q)⟩
 refine codeAny_call_function hr.depth (KX _ _ lk) rfl S.co S.gen rfl (PySem.W.codeRec_of KX hcd) (hb _ _ _ _ ?_)
 refine wpAny_newFunctionEnv_cells S.kind hkind λenv he s1 x=>?_
 subst he
 refine⟨lim.keeps x.toInCall.keep,codeAny_func ?_⟩
 obtain⟨t,ht,hq⟩:=hbody A outer s H vs Q E (hr.deeper _) hsp
 have I:Inv (lP CX P w K mg base N qual scope f cdv A outer s H E) [] (iI N vs) H s1:=bj7 S hr.hd e0 hl r x
 refine wpAny_mono (ht s1 (iI N vs) H _ I hq) (λfl s' hs=>?_) λe s' hs=>hs
 have bL:∀{σ':St}{H':Hp}{v:V}{u:Value},Inv (lP CX P w K mg base N qual scope f cdv A outer s H E) [] σ' H' s'->RelV v u->Q v H'->CE outer P w H s Q u s':=
  λ{σ' H' v u} J rv q=>⟨v,H',J.os,J.bare,J.base,J.hok,rv,q⟩
 cases fl with
 |ret u=>
  obtain⟨v,σ',H',J,rv,q⟩:=hs
  exact bL J rv q
 |next=>
  obtain⟨σ',H',J,q⟩:=hs
  exact bL (v:=V.non) (u:=Value.none) J rfl q
 |brk=>
  obtain⟨_,_,_,q⟩:=hs
  exact False.elim q
 |cont=>
  obtain⟨_,_,_,q⟩:=hs
  exact False.elim q
end L2
namespace L2
open PySem PySem.Spec PyProof.Rows
section
variable {X : Cx} {x : Str} {p pos : Pos} {e : Expr} {es : List Expr} {t : TA} {id T : String} {r : List V → Hp → VK → Prop}
def tCB(r:List V->Hp->VK->Prop)(t:TA):TE:=λσ H Q=>t σ H λvs H1=>r vs H1 Q
theorem aS(hc:CallR X (.builtin id) r)(hg:Gl X x)(hm:X.mg x=none)(hv:bootBuiltins x=some (.builtin id))(ha:PA X (e::es) t)(hn:x≠"__name__":=by decide)(hdb:(x==("__debug__":Str))=false:=by decide)
 (he:starEach (e::es) X.env=(false,eval e X.env)::starEach es X.env:=by rfl)(hpl:(backTo pos (starEach es X.env)).any (·.1)=false:=by rfl):PE X (.Call (.Name x p) (e::es) [] pos) (tCB r t):=by
 intro pins s σ H Q I h
 refine wpAny_Call_Name_kw (mX I hg hm hv ?_ hn hdb)
 exact PyProof.Rows.callWith_builtin1 (bS (ha pins s σ H _ I h) λus s1 ⟨vs,H1,I1,r1,q1⟩=>hc s1 σ H1 vs us Q I1 r1 q1) he hpl
theorem fI(hc:CallR X (.type T) r)(hg:Gl X x)(hm:X.mg x=none)(hv:bootBuiltins x=some (.type T))(ha:PA X (e::es) t)(hn:x≠"__name__":=by decide)(hdb:(x==("__debug__":Str))=false:=by decide)
 (he:starEach (e::es) X.env=(false,eval e X.env)::starEach es X.env:=by rfl)(hpl:(backTo pos (starEach es X.env)).any (·.1)=false:=by rfl):PE X (.Call (.Name x p) (e::es) [] pos) (tCB r t):=by
 intro pins s σ H Q I h
 refine wpAny_Call_Name_kw (mX I hg hm hv ?_ hn hdb)
 exact PyProof.Rows.callWith_type1 (bS (ha pins s σ H _ I h) λus s1 ⟨vs,H1,I1,r1,q1⟩=>hc s1 σ H1 vs us Q I1 r1 q1) he hpl
end
end L2
namespace HT
open PySem PyProof.Rows
section
open PySem.SeqAt
open PySem.AutoSeq1 (wpAny_loadPart')
open PySem.MeetsSeq PySem.MeetsSeq2 PySem.MeetsSeq3
end
section
variable {prog : Program} {w : World} {A : Around} {E : Value → Shared → Prop} {s : Shared}
theorem cat_tup(ht:IsTup s.heap t vs.toArray)(hb:IsTup s.heap b ws.toArray)(hv:vs≠[])
 (h1:ws=[]->Q (.ref t) s)(h2:ws≠[]->Q (.ref s.heap.objs.size) {s with heap:=s.heap.push {cls:=.type "tuple",data:=.seq (vs++ws).toArray}})
 (hsz:vs.length+ws.length<=sizeLine):wpAny (model prog w) A (binaryOp .Add (.ref t) (.ref b)) Q E s:=by
 obtain⟨⟨cls,dd,data,sl⟩,ho,hc,n,hd⟩:=id ht
 obtain⟨⟨cls2,dd2,data2,sl2⟩,ho2,hc2,n2,hd2⟩:=id hb
 simp only at hc hd hc2 hd2
 subst hc hd hc2 hd2
 have e:vs.toArray++ws.toArray=(vs++ws).toArray:=by simp
 by_cases hw:ws=[]
 . exact concat_meets ⟨_,ho,rfl⟩ ⟨_,ho2,rfl⟩ noFill_tuple_add seq_tuple_add PySem.F.slot_tuple_add PySem.F.entry_tuple_add (PySem.F.args_tuple_add_2 _ _)
    (tuple_addW1 t b vs.toArray ws.toArray n n2 dd dd2 sl sl2 (by simpa using hv) (by simp[hw])) ⟨ho,ho2,h1 hw⟩
 . refine concat_meets ⟨_,ho,rfl⟩ ⟨_,ho2,rfl⟩ noFill_tuple_add seq_tuple_add PySem.F.slot_tuple_add PySem.F.entry_tuple_add (PySem.F.args_tuple_add_2 _ _)
    (tuple_addW2 t b vs.toArray ws.toArray n n2 dd dd2 sl sl2 (by simpa using hv) (by simpa using hw) (by rw[List.size_toArray,List.size_toArray];exact hsz)) ⟨ho,ho2,?_⟩
   rw[e]
   exact h2 hw
def sIx(n d:Nat):Option Int->Nat
 |none=>d
 |some v=>if v<0 then(v+(n:Int)).toNat else min v.toNat n
theorem sIx_le(n d:Nat)(hd:d<=n)(o:Option Int):sIx n d o<=n:=by
 cases o with
 |none=>exact hd
 |some v=>
  show(if v<0 then(v+(n:Int)).toNat else min v.toNat n)<=n
  by_cases hv:v<0
  . rw[if_pos hv];omega
  . rw[if_neg hv];exact Nat.min_le_right _ _
theorem clip_eq(v:Int)(n d:Nat):(if v<0 then max (v+(n:Int)) 0 else min v (n:Int))=((sIx n d (some v):Nat):Int):=by
 show(if v<0 then max (v+(n:Int)) 0 else min v (n:Int))=(((if v<0 then(v+(n:Int)).toNat else min v.toNat n):Nat):Int)
 by_cases hv:v<0
 . simp only[if_pos hv];omega
 . simp only[if_neg hv];omega
theorem adjust_gen(lo hi:Option Int)(n:Nat):Builtin.Slice.sliceAdjust lo hi 1 (n:Int)=(((sIx n 0 lo:Nat):Int),((sIx n n hi:Nat):Int)):=by
 have h1:¬((1:Int)<0):=by omega
 unfold Builtin.Slice.sliceAdjust
 simp only[h1,if_false]
 refine Prod.ext ?_ ?_
 . cases lo with
   |none=>rfl
   |some v=>exact clip_eq v n 0
 . cases hi with
   |none=>rfl
   |some v=>exact clip_eq v n n
theorem places_gen(i j:Nat):Builtin.Slice.slicePlaces (i:Int) (j:Int) 1=j-i:=by
 unfold Builtin.Slice.slicePlaces
 have h1:(1:Int)>0:=by omega
 simp only[h1,if_true,Int.ediv_one]
 split<;>omega
theorem slicePart_(p:IsPart v o)(h:Q o s):wpAny (model prog w) A (Builtin.Slice.slicePartIndex v) Q E s:=by
 cases p with
 |none=>exact slicePart_none h
 |int i t=>exact slicePart_int h
theorem sliceApplied_gen {sl : Addr} {vl vu : Value} {lo hi : Option Int} {n : Nat} {Q : Int × Int × Nat → Shared → Prop} (hs : s.heap.IsSliceOf sl vl vu .none) (pl : IsPart vl lo) (pu : IsPart vu hi)
    (h : Q (((sIx n 0 lo : Nat) : Int), 1, sIx n n hi - sIx n 0 lo) s) : wpAny (model prog w) A (Builtin.Slice.sliceApplied (.ref sl) (pure (n : Int))) Q E s := by
  obtain ⟨os, hos, hcs, hds⟩ := id hs
  unfold Builtin.Slice.sliceApplied Builtin.Slice.sliceFields
  refine wpAny_bind (wpAny_bind (wpAny_field hos hds (x := vl) rfl (wpAny_bind (wpAny_field hos hds (x := vu) rfl (wpAny_bind (wpAny_field hos hds (x := .none) rfl (wpAny_pure ?_)))))))
  refine wpAny_bind (slicePart_none ?_)
  show wpAny _ _ (if ((1 : Int) == 0) = true then _ else _) _ _ s
  rw [if_neg (by decide)]
  refine wpAny_bind (slicePart_ pl (wpAny_bind (slicePart_ pu (wpAny_bind (wpAny_pure ?_)))))
  show wpAny _ _ (match Builtin.Slice.sliceAdjust lo hi 1 (n : Int) with | (lo, hi) => pure (lo, (1 : Int), Builtin.Slice.slicePlaces lo hi 1)) _ _ s
  rw [adjust_gen lo hi n]
  show wpAny _ _ (pure (((sIx n 0 lo : Nat) : Int), (1 : Int), Builtin.Slice.slicePlaces ((sIx n 0 lo : Nat) : Int) ((sIx n n hi : Nat) : Int) 1)) _ _ s
  rw [places_gen]
  exact wpAny_pure h
theorem pick_gen(xs:Array Value)(i k:Nat):((List.range k).filterMap λ(m:Nat)=>xs[((i:Int)+(m:Int)*1).toNat]?).toArray=((xs.toList.drop i).take k).toArray:=by
 have e:(λ(m:Nat)=>xs[((i:Int)+(m:Int)*1).toNat]?)=λm=>xs[i+m]?:=by
  funext m
  have:((i:Int)+(m:Int)*1).toNat=i+m:=by omega
  rw[this]
 rw[e]
 have:=pick_run xs i k
 rw[List.filterMap_map]at this
 have e2:((λx=>xs[x]?)∘λx=>i+x)=λm=>xs[i+m]?:=rfl
 rw[e2]at this
 rw[this]
theorem getItem_tuple_cut{t sl:Addr}{items:Array Value}{vl vu:Value}{lo hi:Option Int}{Q:Value->Shared->Prop}(ht:IsTup s.heap t items)(hs:s.heap.IsSliceOf sl vl vu .none)(pl:IsPart vl lo)(pu:IsPart vu hi)
 (hw:¬(sIx items.size 0 lo=0/\sIx items.size items.size hi=items.size))
 (h:Q (.ref s.heap.objs.size) {s with heap:=s.heap.push {cls:=.type "tuple",data:=.seq ((items.toList.drop (sIx items.size 0 lo)).take (sIx items.size items.size hi-sIx items.size 0 lo)).toArray}})
 (hsz:items.size<=sizeLine):wpAny (model prog w) A (getItem (.ref t) (.ref sl)) Q E s:=by
 have htake:sizeOk (.seq ((items.toList.drop (sIx items.size 0 lo)).take (sIx items.size items.size hi-sIx items.size 0 lo)).toArray):=by
  show((items.toList.drop (sIx items.size 0 lo)).take (sIx items.size items.size hi-sIx items.size 0 lo)).toArray.size<=sizeLine
  rw[List.size_toArray,List.length_take,List.length_drop,Array.length_toList]
  omega
 have hj:sIx items.size items.size hi<=items.size:=sIx_le _ _ (Nat.le_refl _) hi
 obtain⟨os,hos,hcs,hds⟩:=id hs
 have hTs:s.TypeIs (.ref sl) "slice":=⟨os,hos,hcs⟩
 unfold getItem
 try with_reducible refine wpAny_holding ?_
 first|refine wpAny_bind (wpAny_pure ?_)|skip
 refine wpAny_bind (wpAny_sequenceKey ht.typeIs (by decide) ?_)
 refine wpAny_bind (wpAny_callSpecial?_slot (name:=Str.ofString "__getitem__") ht.typeIs PyProof.Rows.slot_tuple_getitem
  (wpAny_call_entry PyProof.Rows.slot_tuple_getitem ht.typeIs entry_tuple_getitem ?_ (args_tuple_getitem _ _)))
 show wpAny _ _ (Builtin.Tuple.tupleItemsOf (.ref t)>>=_) _ _ s
 refine wpAny_bind (tupleItemsOf_ ht ?_)
 refine wpAny_bind (wpAny_typeOf hTs ?_)
 rw[if_pos (by decide)]
 refine wpAny_bind (sliceApplied_gen hs pl pu ?_)
 have hno:¬((((sIx items.size 0 lo:Nat):Int)==0&&(1:Int)==1&&(sIx items.size items.size hi-sIx items.size 0 lo)==items.size)=true):=by
  intro q
  rw[Bool.and_eq_true,Bool.and_eq_true]at q
  have q1:((sIx items.size 0 lo:Nat):Int)=0:=eq_of_beq q.1.1
  have q2:sIx items.size items.size hi-sIx items.size 0 lo=items.size:=eq_of_beq q.2
  exact hw ⟨by omega,by omega⟩
 show wpAny _ _ (if(((sIx items.size 0 lo:Nat):Int)==0&&(1:Int)==1&&(sIx items.size items.size hi-sIx items.size 0 lo)==items.size)=true then _ else _) _ _ s
 rw[if_neg hno,pick_gen]
 first
  |exact wpAny_bind (m:=Builtin.Tuple.tupleExact _) (wpAny_newObj_type (wpAny_pure ⟨_,rfl,wpAny_pure h⟩) htake)
  |exact wpAny_bind (m:=Builtin.Tuple.tupleExact _) (wpAny_newObj_type (wpAny_bind (wpAny_pure (wpAny_pure ⟨_,rfl,wpAny_pure h⟩))) htake)
  |exact wpAny_bind (wpAny_bind (m:=Builtin.Tuple.tupleExact _) (wpAny_newObj_type (wpAny_pure (wpAny_pure ⟨_,rfl,wpAny_pure h⟩)) htake))
  |exact wpAny_bind (wpAny_bind (m:=Builtin.Tuple.tupleExact _) (wpAny_newObj_type (wpAny_pure ⟨_,rfl,wpAny_pure h⟩) htake))
end
end HT
namespace L2
open PySem PySem.Spec PyProof.Rows
abbrev TO:=St->Hp->(Option Int->Hp->Prop)->Prop
def PO(X:Cx)(e:Option Expr)(t:TO):Prop:=
 ∀⦃pins:List (Addr×Obj)⦄ (s:Shared)(σ:St)(H:Hp)(Q:Option Int->Hp->Prop),Inv X pins σ H s->t σ H Q->
  wpAny (model X.prog X.w) X.A (evalPart e X.env) (λu s'=>∃o H',Inv X pins σ H' s'/\IsPart u o/\Q o H') X.xe s
def bh2:TO:=λ_ H Q=>Q none H
def cq3(t:TE):TO:=λσ H Q=>t σ H λx H1=>∃i,x=.int i/\Q (some i) H1
theorem as1:∀{us:List Value},Vals (ns.map V.int) us->IntsAre us ns:=by
 induction ns with
 |nil=>intro us r;rw[List.map_nil]at r;cases r;exact .nil
 |cons n ns ih=>
  intro us r
  rw[List.map_cons]at r
  cases r with
  |cons r1 r2=>
   obtain⟨t,e⟩:=r1
   subst e
   exact .cons n t (ih r2)
section
variable {X : Cx} {e : Expr} {te : TE} {lo hi : Option Expr} {tl th : TO} {pos p2 : Pos}
theorem nZ:PO X none bh2:=by
 intro pins s σ H Q I h
 rw[evalPart_none]
 exact wpAny_pure ⟨none,H,I,.none,h⟩
theorem iY(h:PE X e te):PO X (some e) (cq3 te):=by
 intro pins s σ H Q I hw
 rw[evalPart_some]
 refine bS (h s σ H _ I hw) λu s1 ⟨x,H1,I1,r1,q1⟩=>?_
 obtain⟨i,rfl,q⟩:=q1
 obtain⟨t,rfl⟩:=r1
 exact⟨some i,H1,I1,.int i t,q⟩
def SlR(X:Cx)(r:V->Option Int->Option Int->Hp->VK->Prop):Prop:=
 ∀⦃pins:List (Addr×Obj)⦄ (s:Shared)(σ:St)(H:Hp)(x:V)(v vl vu:Value)(lo hi:Option Int)(sl:Addr)(Q:VK),Inv X pins σ H s->RelV x v->s.heap.IsSliceOf sl vl vu .none->IsPart vl lo->IsPart vu hi->r x lo hi H Q->
  ∃T id,typeLookup (.type T) "__getitem__"=pure (some (.builtin id))/\s.TypeIs v T/\wpAny (model X.prog X.w) X.A (getItem v (.ref sl)) (EP X pins σ Q) X.xe s
theorem SlR.or(h:SlR X r)(h':SlR X r'):SlR X (λx lo hi H Q=>r x lo hi H Q\/r' x lo hi H Q):=by
 intro pins s σ H x v vl vu lo hi sl Q I rx hs pl pu q
 rcases q with q|q
 . exact h s σ H x v vl vu lo hi sl Q I rx hs pl pu q
 . exact h' s σ H x v vl vu lo hi sl Q I rx hs pl pu q
def tSl(r:V->Option Int->Option Int->Hp->VK->Prop)(te:TE)(tl th:TO):TE:=λσ H Q=>te σ H λx H1=>tl σ H1 λl H2=>th σ H2 λu H3=>r x l u H3 Q
theorem kQ(hr:SlR X r)(he:PE X e te)(hl:PO X lo tl)(hu:PO X hi th):PE X (.Subscript e (.Slice lo hi none p2) pos) (tSl r te tl th):=by
 intro pins s σ H Q I h
 refine Subscript_ (bS (he s σ H _ I h) λv s1 ⟨x,H1,I1,r1,q1⟩=>?_)
 refine wpAny_Slice (bS (hl s1 σ H1 _ I1 q1) λvl s2 ⟨l,H2,I2,pl,q2⟩=>bS (hu s2 σ H2 _ I2 q2) λvu s3 ⟨u,H3,I3,pu,q3⟩=>?_)
 rw[evalPart_none]
 refine wpAny_pure ?_
 have I4:Inv X pins σ H3 {s3 with heap:=s3.heap.push {cls:=.type "slice",data:=.fields #[vl,vu,.none]}}:=I3.kept (t':=s3.toks) λb ob q=>Heap.get?_push_of_some _ q
 obtain⟨T,id,hT,ht,hg⟩:=hr {s3 with heap:=s3.heap.push {cls:=.type "slice",data:=.fields #[vl,vu,.none]}} σ H3 x v vl vu l u s3.heap.objs.size Q I4 r1 (Heap.IsSliceOf.new ..) pl pu q3
 show wpAny (model X.prog X.w) X.A (subscriptTail e (.Slice lo hi none p2) v (.ref s3.heap.objs.size)) (EP X pins σ Q) X.xe {s3 with heap:=s3.heap.push {cls:=.type "slice",data:=.fields #[vl,vu,.none]}}
 exact tail_any (ops:=[.ref s3.heap.objs.size,v]) ht hT hg (by with_unfolding_all rfl)
def vT(xs:List V)(lo hi:Option Int):List V:=(xs.drop (HT.sIx xs.length 0 lo)).take (HT.sIx xs.length xs.length hi-HT.sIx xs.length 0 lo)
theorem yN(xs:List V)(lo hi:Option Int):(vT xs lo hi).length<=xs.length:=by
 unfold vT
 rw[List.length_take,List.length_drop]
 omega
def cw8(K:PySem.W.Frag):V->Option Int->Option Int->Hp->VK->Prop:=λx lo hi H Q=>∃a xs,x=.ref a/\SqT K H a xs/\
 ¬(HT.sIx xs.length 0 lo=0/\HT.sIx xs.length xs.length hi=xs.length)/\∀p,H p=none->Q (.ref p) (upd H p (.tup (vT xs lo hi)))
theorem cr7:SlR X (cw8 X.K):=by
 intro pins s σ H x v vl vu lo hi sl Q I rx hs pl pu h
 obtain⟨a,xs,rfl,hx,hw,q⟩:=h
 cases rx
 obtain⟨its,r,ht,hz⟩:=I.tuple hx
 have hlen:its.toArray.size=xs.length:=by rw[List.size_toArray];exact r.length.symm
 refine⟨"tuple",_,PyProof.Rows.slot_tuple_getitem.lookup,ht.typeIs,?_⟩
 refine HT.getItem_tuple_cut ht hs pl pu (by rw[hlen];exact hw) ?_ (by rw[hlen];exact hz)
 rw[hlen]
 refine⟨.ref s.heap.objs.size,_,I.laid (t':=s.toks) (o:=.tup (vT xs lo hi)) (λb ob q=>Heap.get?_push_of_some _ q) (Nat.le_refl _) ?_,rfl,q _ (I.hok.fresh (Nat.le_refl _))⟩
 exact⟨Nat.le_trans (yN xs lo hi) hz,_,(r.drop (HT.sIx xs.length 0 lo)).take (HT.sIx xs.length xs.length hi-HT.sIx xs.length 0 lo),IsTup.new _ _⟩
def ce3(K:PySem.W.Frag):R2:=λx y H Q=>∃a b xs ys,x=.ref a/\y=.ref b/\SqT K H a xs/\SqT K H b ys/\xs≠[]/\xs.length+ys.length<=sizeLine/\
 (ys=[]->Q (.ref a) H)/\(ys≠[]->∀p,H p=none->Q (.ref p) (upd H p (.tup (xs++ys))))
theorem Vals.nil_iff(r:Vals xs us):us=[]↔xs=[]:=by
 cases r with
 |nil=>simp
 |cons _ _=>simp
theorem cb4:OpR X (binaryOp .Add) (ce3 X.K):=by
 intro pins s σ H x y v u Q I rx ry h
 obtain⟨a,b,xs,ys,rfl,rfl,ha,hb,hx,hz,q1,q2⟩:=h
 cases rx
 cases ry
 obtain⟨its,r1,p1,_⟩:=I.tuple ha
 obtain⟨its2,r2,p2,_⟩:=I.tuple hb
 refine HT.cat_tup p1 p2 (λz=>hx (r1.nil_iff.mp z)) (λz=>⟨.ref a,H,I,rfl,q1 (r2.nil_iff.mp z)⟩) (λz=>?_) (by rw[<-r1.length,<-r2.length];exact hz)
 refine⟨.ref s.heap.objs.size,_,I.laid (t':=s.toks) (o:=.tup (xs++ys)) (λb ob q=>Heap.get?_push_of_some _ q) (Nat.le_refl _) ?_,rfl,q2 (λw=>z (r2.nil_iff.mpr w)) _ (I.hok.fresh (Nat.le_refl _))⟩
 exact⟨by rw[List.length_append];exact hz,_,r1.append r2,IsTup.new _ _⟩
end
end L2
namespace L2
open PySem PySem.Spec PyProof.Rows
def yR(n:Nat)(i:Int):Option Nat:=if 0<=i then(if i<n then some i.toNat else none)else if -(n:Int)<=i then some (i+n).toNat else none
def atI{α:Type}(xs:List α)(i:Int):Option α:=(yR xs.length i).bind λj=>xs[j]?
theorem cl4(h:yR n i=some j):seqIndex? i n=some j/\j<n/\-(n:Int)<=i/\i<n:=by
 unfold yR at h
 by_cases h0:0<=i
 . rw[if_pos h0]at h
   by_cases h1:i<n
   . rw[if_pos h1]at h
     have e:i.toNat=j:=Option.some.inj h
     exact⟨by rw[seqIndex_of h0 h1,e],by omega,by omega,h1⟩
   . rw[if_neg h1]at h;cases h
 . rw[if_neg h0]at h
   by_cases h1:-(n:Int)<=i
   . rw[if_pos h1]at h
     have e:(i+n).toNat=j:=Option.some.inj h
     exact⟨by rw[seqIndex_neg (by omega) h1,e],by omega,h1,by omega⟩
   . rw[if_neg h1]at h;cases h
theorem au2(h:atI xs i=some v):∃j,seqIndex? i xs.length=some j/\xs[j]?=some v/\j<xs.length/\-(xs.length:Int)<=i/\i<xs.length:=by
 unfold atI at h
 cases e:yR xs.length i with
 |none=>rw[e]at h;cases h
 |some j=>
  rw[e]at h
  obtain⟨h1,h2,h3,h4⟩:=cl4 e
  exact⟨j,h1,h,h2,h3,h4⟩
theorem fP{α:Type}{xs:List α}{j:Nat}{v:α}(h:xs[j]?=some v):atI xs (j:Int)=some v:=by
 have hj:j<xs.length:=(List.getElem?_eq_some_iff.mp h).1
 have e:yR xs.length (j:Int)=some j:=by
  unfold yR
  rw[if_pos (by omega),if_pos (by omega)];simp
 unfold atI;rw[e];exact h
def br1(b:Expr):Prop:=∀o i,subscripted b false o i=operate [o,i] (getItem o i)
def IxR(X:Cx)(r:R2):Prop:=
 ∀(value slice:Expr)(pins:List (Addr×Obj))(s:Shared)(σ:St)(H:Hp)(x y:V)(v u:Value)(Q:VK),Inv X pins σ H s->RelV x v->RelV y u->r x y H Q->
  subscripted slice false v u=operate [v,u] (getItem v u)->wpAny (model X.prog X.w) X.A (subscriptTail value slice v u) (EP X pins σ Q) X.xe s
def MtR(X:Cx)(id:String)(r:V->List V->Hp->VK->Prop):Prop:=
 ∀⦃pins:List (Addr×Obj)⦄ (s:Shared)(σ:St)(H:Hp)(x:V)(xs:List V)(v:Value)(us:List Value)(Q:VK),Inv X pins σ H s->RelV x v->Vals xs us->r x xs H Q->
  wpAny (model X.prog X.w) X.A (call (.builtin id) (v::us)) (EP X pins σ Q) X.xe s
section
variable {X : Cx} {a b : Expr} {ta tb : TE} {pos : Pos}
theorem IxR.or(h:IxR X r)(h':IxR X r'):IxR X (λx y H Q=>r x y H Q\/r' x y H Q):=by
 intro value slice pins s σ H x y v u Q I rx ry q hs
 rcases q with q|q
 . exact h value slice pins s σ H x y v u Q I rx ry q hs
 . exact h' value slice pins s σ H x y v u Q I rx ry q hs
theorem dh3(hr:IxR X r)(ha:PE X a ta)(hb:PE X b tb)(hs:br1 b):PE X (.Subscript a b pos) (tOp r ta tb):=by
 intro pins s σ H Q I h
 exact Subscript_ (cj0 ha hb I h λv u s2 x y H2 I2 rx ry q=>hr a b pins s2 σ H2 x y v u Q I2 rx ry q (hs _ _))
def cy7(K:PySem.W.Frag):R2:=λx y H Q=>∃p xs i v,x=.ref p/\y=.int i/\SqL K H p xs/\atI xs i=some v/\Q v H
def ck9(K:PySem.W.Frag):R2:=λx y H Q=>∃p xs i v,x=.ref p/\y=.int i/\SqT K H p xs/\atI xs i=some v/\Q v H
def dx1:R2:=λx y H Q=>∃z i c,x=.str z/\y=.int i/\z.length<=sizeLine/\atI z.cps.toList i=some c/\Q (.str ⟨#[c]⟩) H
theorem ix_list:IxR X (cy7 X.K):=by
 intro value slice pins s σ H x y v u Q I rx ry h hs
 obtain⟨p,xs,i,z,rfl,rfl,hq,he,q⟩:=h
 cases rx
 obtain⟨t,rfl⟩:=ry
 obtain⟨its,r,pl,hz⟩:=I.list hq
 obtain⟨j,h1,h2,h3,h4,h5⟩:=au2 he
 obtain⟨w,ew,rw'⟩:=r.get h2
 have hl:=r.length
 have hn:=xB
 have bL:EP X pins σ Q w s:=⟨z,H,I,rw',q⟩
 by_cases h0:0<=i
 . have hj:i.toNat=j:=by
    rw[seqIndex_of h0 h5]at h1
    exact Option.some.inj h1
   exact item_listR pl.isList h0 (by omega) (by rw[hj];simpa using ew) bL hs
 . have hj:(i+(its.toArray.size:Int)).toNat=j:=by
    rw[seqIndex_neg (by omega) h4]at h1
    rw[List.size_toArray,<-hl]
    exact Option.some.inj h1
   exact subscriptTail_builtinR (x:=w) pl.isList.typeIs slot_list_getitem.lookup
    (wpAny_getItem_list_neg (Q:=λr s'=>r=w/\EP X pins σ Q r s') pl.isList (by omega) (by rw[List.size_toArray]<;>omega) (by omega) (by rw[hj];simpa using ew) ⟨rfl,bL⟩) hs
theorem ix_tup:IxR X (ck9 X.K):=by
 intro value slice pins s σ H x y v u Q I rx ry h hs
 obtain⟨p,xs,i,z,rfl,rfl,hq,he,q⟩:=h
 cases rx
 obtain⟨t,rfl⟩:=ry
 obtain⟨its,r,pl,hz⟩:=I.tuple hq
 obtain⟨j,h1,h2,h3,h4,h5⟩:=au2 he
 obtain⟨w,ew,rw'⟩:=r.get h2
 have hl:=r.length
 have hn:=xB
 have bL:EP X pins σ Q w s:=⟨z,H,I,rw',q⟩
 exact subscriptTail_builtinR (x:=w) pl.typeIs slot_tuple_getitem.lookup
  (getItem_tuple (j:=j) (Q:=λr s'=>r=w/\EP X pins σ Q r s') pl (by omega) (by omega) (by rw[List.size_toArray,<-hl];exact h1) (by simpa using ew) ⟨rfl,bL⟩) hs
theorem cy9:IxR X dx1:=by
 intro value slice pins s σ H x y v u Q I rx ry h hs
 obtain⟨z,i,c,rfl,rfl,hz,he,q⟩:=h
 obtain⟨t,rfl⟩:=rx
 obtain⟨t',rfl⟩:=ry
 obtain⟨j,h1,h2,h3,h4,h5⟩:=au2 he
 have hl:z.cps.toList.length=z.length:=by simp[Str.length]
 rw[hl]at h1 h4 h5
 have hn:=xB
 exact tail_any (typeIs_str s z t) slot_str_getitem.lookup (getItem_str (c:=c) (by
  have e1:decide (i< -(2^63:Int))=false:=decide_eq_false (by omega)
  have e2:decide (i>=2^63)=false:=decide_eq_false (by omega)
  rw[e1,e2,Bool.or_false]) (by rw[h1];simpa using h2) ⟨.str ⟨#[c]⟩,H,I.tok _,⟨_,rfl⟩,q⟩) hs
def rIx(K:PySem.W.Frag):R2:=λx y H Q=>cy7 K x y H Q\/ck9 K x y H Q\/dx1 x y H Q
theorem du0:IxR X (rIx X.K):=ix_list.or (ix_tup.or cy9)
theorem ab9(lo hi:Option Int)(n:Nat):(sliceBounds lo hi none n).1=((HT.sIx n 0 lo:Nat):Int)/\(sliceBounds lo hi none n).2.1=((HT.sIx n n hi:Nat):Int)/\(sliceBounds lo hi none n).2.2=1:=by
 refine⟨?_,?_,rfl⟩
 . cases lo with
   |none=>simp[sliceBounds,HT.sIx]
   |some i=>
    simp only[sliceBounds,HT.sIx,Option.getD_none,show(1:Int)>0 by decide,if_true]
    by_cases h:i<0
    . simp only[h,if_true]<;>omega
    . simp only[h,if_false]<;>omega
 . cases hi with
   |none=>simp[sliceBounds,HT.sIx]
   |some i=>
    simp only[sliceBounds,HT.sIx,Option.getD_none,show(1:Int)>0 by decide,if_true]
    by_cases h:i<0
    . simp only[h,if_true]<;>omega
    . simp only[h,if_false]<;>omega
theorem ab6(its:List Value)(lo hi:Option Int):slicePick its.toArray lo hi none=((its.drop (HT.sIx its.length 0 lo)).take (HT.sIx its.length its.length hi-HT.sIx its.length 0 lo)).toArray:=by
 obtain⟨h1,h2,h3⟩:=ab9 lo hi its.toArray.size
 unfold slicePick
 rw[h1,h2,h3]
 simp only[sliceRange_one,pick_run,List.size_toArray]<;>rfl
def cn9(K:PySem.W.Frag):V->Option Int->Option Int->Hp->VK->Prop:=λx lo hi H Q=>∃a xs,x=.ref a/\SqL K H a xs/\∀p,H p=none->Q (.ref p) (upd H p (.lst (vT xs lo hi)))
theorem cs4:SlR X (cn9 X.K):=by
 intro pins s σ H x v vl vu lo hi sl Q I rx hs pl pu h
 obtain⟨a,xs,rfl,hx,q⟩:=h
 cases rx
 obtain⟨its,r,ht,hz⟩:=I.list hx
 have hlen:=r.length
 refine⟨"list",_,slot_list_getitem.lookup,ht.isList.typeIs,?_⟩
 refine wpAny_getItem_list_slice ht.isList hs pl pu .none (by simp) ?_ (by rw[List.size_toArray]<;>omega)
 rw[ab6,<-hlen]
 refine⟨.ref s.heap.objs.size,_,I.laid (t':=s.toks) (o:=.lst (vT xs lo hi)) (λb ob q=>Heap.get?_push_of_some _ q) (Nat.le_refl _) ?_,rfl,q _ (I.hok.fresh (Nat.le_refl _))⟩
 exact⟨Nat.le_trans (yN xs lo hi) hz,_,0,(r.drop (HT.sIx xs.length 0 lo)).take (HT.sIx xs.length xs.length hi-HT.sIx xs.length 0 lo),Heap.get?_push_size _ rfl⟩
def oQ:V->Bool
 |.non=>true
 |.bl _=>true
 |.int _=>true
 |.str _=>true
 |_=>false
def eqV:V->V->Bool
 |.non,.non=>true
 |.bl a,.bl b=>a==b
 |.bl a,.int b=>(if a then 1 else 0)==b
 |.int a,.bl b=>a==(if b then 1 else 0)
 |.int a,.int b=>a==b
 |.str a,.str b=>a==b
 |_,_=>false
theorem bk5(ry:RelV y u)(rx:RelV x v)(fy:oQ y=true)(fx:oQ x=true):SeqAt.EqAt A s u v (eqV y x):=by
 cases y with
 |non=>
  cases ry
  cases x with
  |non=>cases rx;exact SeqAt.EqAt.same _
  |bl b=>cases rx;exact SeqAt.EqAt.none_bool b
  |int b=>obtain⟨t,rfl⟩:=rx;exact SeqAt.EqAt.none_int b t
  |str b=>obtain⟨t,rfl⟩:=rx;exact SeqAt.EqAt.none_str b t
  |_=>exact absurd (show false=true from fx) Bool.false_ne_true
 |bl a=>
  cases ry
  cases x with
  |non=>cases rx;exact SeqAt.EqAt.bool_none a
  |bl b=>cases rx;exact SeqAt.EqAt.bool_bool a b
  |int b=>obtain⟨t,rfl⟩:=rx;exact SeqAt.EqAt.bool_int a b t
  |str b=>obtain⟨t,rfl⟩:=rx;exact SeqAt.EqAt.bool_str a b t
  |_=>exact absurd (show false=true from fx) Bool.false_ne_true
 |int a=>
  obtain⟨t',rfl⟩:=ry
  cases x with
  |non=>cases rx;exact SeqAt.EqAt.int_none a t'
  |bl b=>cases rx;exact SeqAt.EqAt.int_bool a t' b
  |int b=>obtain⟨t,rfl⟩:=rx;exact SeqAt.EqAt.int_int a t' b t
  |str b=>obtain⟨t,rfl⟩:=rx;exact SeqAt.EqAt.int_str a t' b t
  |_=>exact absurd (show false=true from fx) Bool.false_ne_true
 |str a=>
  obtain⟨t',rfl⟩:=ry
  cases x with
  |non=>cases rx;exact SeqAt.EqAt.str_none a t'
  |bl b=>cases rx;exact SeqAt.EqAt.str_bool a t' b
  |int b=>obtain⟨t,rfl⟩:=rx;exact SeqAt.EqAt.str_int a t' b t
  |str b=>obtain⟨t,rfl⟩:=rx;exact SeqAt.EqAt.str_str a t' b t
  |_=>exact absurd (show false=true from fx) Bool.false_ne_true
 |_=>exact absurd (show false=true from fy) Bool.false_ne_true
theorem CallR.or(h:CallR X f r)(h':CallR X f r'):CallR X f (λxs H Q=>r xs H Q\/r' xs H Q):=by
 intro pins s σ H xs us Q I rs q
 rcases q with q|q
 . exact h s σ H xs us Q I rs q
 . exact h' s σ H xs us Q I rs q
theorem au8:CallR X (.type "list") (λxs H Q=>∃p ys,xs=[.ref p]/\(SqL X.K H p ys\/SqT X.K H p ys)/\∀l,H l=none->Q (.ref l) (upd H l (.lst ys))):=by
 intro pins s σ H xs us Q I r h
 obtain⟨p,ys,rfl,hq,q⟩:=h
 obtain⟨u,rfl,rx⟩:=ac0 r
 cases rx
 have bL:∀(its:List Value),Vals ys its->ys.length<=sizeLine->∀(h':Heap)(c':Nat),(∀b o',s.heap.get? b=some o'->h'.get? b=some o')->
  h'.get? s.heap.objs.size=some {cls:=.type "list",dict:=none,data:=.seq its.toArray c',slots:=#[]}->EP X pins σ Q (.ref s.heap.objs.size) {s with heap:=h'}:=λits r' hz h' c' kp e=>
  ⟨.ref s.heap.objs.size,_,I.laid (t':=s.toks) kp (Nat.le_refl _) (show ObjOk X.prog X.w _ h' _ (.lst ys) from⟨hz,its,c',r',e⟩),rfl,q _ (I.hok.fresh (Nat.le_refl _))⟩
 rcases hq with hq|hq
 . obtain⟨its,r',pl,hz⟩:=I.list hq
   have hlen:=r'.length
   obtain⟨o,ho,hc,n,hd⟩:=pl.isList
   exact call_list_seq p (.inl rfl) ho hc hd (λh' c' kp e=>bL its r' hz h' c' kp e) (by simp only[List.size_toArray]<;>omega)
 . obtain⟨its,r',pl,hz⟩:=I.tuple hq
   have hlen:=r'.length
   obtain⟨o,ho,hc,n,hd⟩:=pl
   exact call_list_seq p (.inr rfl) ho hc hd (λh' c' kp e=>bL its r' hz h' c' kp e) (by simp only[List.size_toArray]<;>omega)
def tyV(K:PySem.W.Frag)(T:String)(x:V)(H:Hp):Prop:=match x with
 |.str _=>T="str"
 |.int _=>T="int"
 |.ref p=>(T="list"/\∃xs,SqL K H p xs)\/(T="tuple"/\∃o,K.lookup p=some o/\o.cls=.type "tuple"/\o.dict=none)\/
  (T="dict"/\((∃kvs,H p=some (.dK kvs))\/∃kvs,H p=some (.dT kvs)))\/(T="set"/\∃S n,H p=some (.set S n))
 |_=>False
theorem bq6(I:Inv X pins σ H s)(r:RelV x v)(ty:tyV X.K T x H):
 s.TypeIs v T/\∀a,v=.ref a->∃ob,s.heap.get? a=some ob/\ob.dict=none:=by
 cases x with
 |str z=>
  obtain⟨t,rfl⟩:=r
  cases(show T="str" from ty)
  exact⟨typeIs_str s z t,λ_ e=>nomatch e⟩
 |int i=>
  obtain⟨t,rfl⟩:=r
  cases(show T="int" from ty)
  exact⟨typeIs_int s i t,λ_ e=>nomatch e⟩
 |ref p=>
  cases r
  rcases ty with⟨rfl,xs,hq⟩|⟨rfl,o,hk,hc,hd⟩|⟨rfl,hk⟩|⟨rfl,S,n,hk⟩
  . obtain⟨its,_,pl,_⟩:=I.list hq
    refine⟨pl.isList.typeIs,λa e=>?_⟩
    cases e
    obtain⟨o,n,e,c,hd,_⟩:=pl
    exact⟨o,e,hd⟩
  . refine⟨⟨o,I.kIn p o hk,hc⟩,λa e=>?_⟩
    cases e
    exact⟨o,I.kIn _ o hk,hd⟩
  . have z:∃o,s.heap.get? p=some o/\o.ExactDict:=by
     rcases hk with⟨kvs,hk⟩|⟨kvs,hk⟩
     . obtain⟨_,_,_,_,o,_,_,e,ex,_⟩:=I.hok p _ hk
       exact⟨o,e,ex⟩
     . obtain⟨_,_,_,_,o,_,_,e,ex,_⟩:=I.hok p _ hk
       exact⟨o,e,ex⟩
    obtain⟨o,e,ex⟩:=z
    refine⟨⟨o,e,ex.1⟩,λa e2=>?_⟩
    cases e2
    exact⟨o,e,ex.2.1⟩
  . obtain⟨o,_,_,_,e,ex,_⟩:=I.hok p _ hk
    refine⟨⟨o,e,ex.1⟩,λa e2=>?_⟩
    cases e2
    exact⟨o,e,ex.2.1⟩
 |_=>exact False.elim ty
def db7(K:PySem.W.Frag)(T:String)(r:V->List V->Hp->VK->Prop)(to:TE):TE:=λσ H Q=>to σ H λx H1=>tyV K T x H1/\r x [] H1 Q
def tBM(K:PySem.W.Frag)(T:String)(r:V->List V->Hp->VK->Prop)(to:TE)(t:TA):TE:=λσ H Q=>to σ H λx H1=>tyV K T x H1/\t σ H1 λxs H2=>r x xs H2 Q
variable {o e : Expr} {es : List Expr} {to : TE} {t : TA} {name : Str} {apos cpos : Pos} {T id : String} {r : V → List V → Hp → VK → Prop}
theorem cn8(pa:PlainAttrs T)(slot:Slot T name id)(hty:typeOf (.builtin id)=pure (.type "method_descriptor"))(hm:MtR X id r)(ho:PE X o to)
 (hbase:attributeBase o name X.env (eval o X.env)=eval o X.env:=by rfl)(hline:(apos.endLine==cpos.line)=true:=by rfl):PE X (.Call (.Attribute o name apos) [] [] cpos) (db7 X.K T r to):=by
 intro pins s σ H Q I h
 refine wpAny_Call_method0_late hbase hline (bS (ho s σ H _ I h) λv s1 ⟨x,H1,I1,r1,ty,q1⟩=>?_)
 obtain⟨h1,h2⟩:=bq6 I1 r1 ty
 exact⟨T,id,pa,slot,hty,h1,h2,Calls.callWith_builtin rfl (PySem.evalArgs_none (hm s1 σ H1 x [] v [] Q I1 r1 .nil q1))⟩
theorem dn2(pa:PlainAttrs T)(slot:Slot T name id)(hty:typeOf (.builtin id)=pure (.type "method_descriptor"))(hm:MtR X id r)(ho:PE X o to)(ha:PA X (e::es) t)
 (hbase:attributeBase o name X.env (eval o X.env)=eval o X.env:=by rfl)
 (hfew:((backTo cpos (starEach (e::es) X.env)).all (λx=>!x.1)&&(backToKw cpos (keywordEach [] X.env)).all (λx=>x.1.isSome)
  &&decide ((e::es).length+([]:List Keyword).length+(if([]:List Keyword).isEmpty then 0 else 1)<30))=true:=by rfl)
 (hline:(apos.endLine==cpos.line)=true:=by rfl)(hs:starEach (e::es) X.env=(false,eval e X.env)::starEach es X.env:=by rfl)(hplain:(backTo cpos (starEach es X.env)).any (·.1)=false:=by rfl):
 PE X (.Call (.Attribute o name apos) (e::es) [] cpos) (tBM X.K T r to t):=by
 intro pins s σ H Q I h
 refine wpAny_Call_method_late hbase hfew hline rfl (bS (ho s σ H _ I h) λv s1 ⟨x,H1,I1,r1,ty,q1⟩=>?_)
 obtain⟨h1,h2⟩:=bq6 I1 r1 ty
 refine⟨T,id,pa,slot,hty,h1,h2,?_⟩
 have hA:=@ha cpos pins s1 σ H1 _ I1 q1
 rw[hs]at hA⊢
 refine Calls.callWith_builtin (by show(false||(backTo cpos (starEach es X.env)).any (·.1))=false;rw[hplain]<;>rfl) (Calls.evalArgs_plain ?_)
 exact bS hA λus s2 ⟨vs,H2,I2,r2,q2⟩=>hm s2 σ H2 x vs v us Q I2 r1 r2 q2
/- xs.append(e), list.index on a module's tuple .. are MtR facts of 06m -/
end
end L2
namespace L2
open PySem PySem.Spec PyProof.Rows
def MtM(X:Cx)(id:String)(r:V->List V->Hp->VK->Prop):Prop:=
 ∀(pins:List (Addr×Obj))(s:Shared)(σ:St)(H:Hp)(x:V)(xs:List V)(v:Value)(us:List Value)(Q:VK),Inv X pins σ H s->RelV x v->Vals xs us->r x xs H Q->
  wpAny (model X.prog X.w) X.A (call (.builtin id) (v::us)) (EP X pins σ Q) X.xe s
theorem Vals.one:∀{x:V}{us:List Value},Vals [x] us->∃u,us=[u]/\RelV x u
 |_,_,.cons r .nil=>⟨_,rfl,r⟩
theorem Vals.two:∀{x y:V}{us:List Value},Vals [x,y] us->∃u v,us=[u,v]/\RelV x u/\RelV y v
 |_,_,_,.cons r (.cons q .nil)=>⟨_,_,rfl,r,q⟩
theorem Vals.zero:∀{us:List Value},Vals [] us->us=[]
 |_,.nil=>rfl
theorem Vals.reverse(h:Vals xs us):Vals xs.reverse us.reverse:=by
 induction h with
 |nil=>exact .nil
 |cons r t ih=>rw[List.reverse_cons,List.reverse_cons];exact Vals.append ih (.cons r .nil)
section
variable {X : Cx} {pins : List (Addr × Obj)} {σ : St} {H : Hp} {s : Shared} {l b : Addr} {xs ys zs : List V}
theorem Inv.lset{its its':List Value}{n:Nat}{f:Array Value->Array Value}{t':Nat}(I:Inv X pins σ H s)(hH:H l=some (.lst xs))
 (e:s.heap.get? l=some {cls:=.type "list",data:=.seq its.toArray n})(hf:f its.toArray=its'.toArray)(hv:Vals ys its')(hz:ys.length<=sizeLine):
 Inv X pins σ (upd H l (.lst ys)) {s with heap:=s.heap.update l (Obj.mapSeq f),toks:=t'}:=by
 have q:=PySem.IsL.update e f
 rw[hf]at q
 refine I.write (x:=l) (e:=l) (by rw[hH];exact trivial) (.inl rfl) (λb' u hb hu=>(Heap.get?_update_other s.heap (Obj.mapSeq f) (Ne.symm hb)).trans hu) ⟨_,q⟩ ?_
 exact⟨hz,its',_,hv,q⟩
theorem Inv.lnew(I:Inv X pins σ H s)(hv:Vals ys its)(hz:ys.length<=sizeLine):
 Inv X pins σ (upd H s.heap.objs.size (.lst ys)) {s with heap:=s.heap.push {cls:=.type "list",data:=.seq its.toArray},toks:=t'}:=
 I.laid (λ_ _ q=>Heap.get?_push_of_some _ q) (Nat.le_refl _) ⟨hz,its,0,hv,Heap.get?_push_size _ rfl⟩
theorem Inv.fresh(I:Inv X pins σ H s):H s.heap.objs.size=none:=I.hok.fresh (Nat.le_refl _)
theorem Inv.lstM(I:Inv X pins σ H s)(hH:H l=some (.lst xs)):xs.length<=sizeLine/\∃(its:List Value)(n:Nat),Vals xs its/\xs.length=its.length/\s.heap.get? l=some {cls:=.type "list",data:=.seq its.toArray n}:=by
 obtain⟨z,its,n,r,e⟩:=I.hok l _ hH
 exact⟨z,its,n,r,r.length,e⟩
theorem bv8(h:n<=sizeLine):Builtin.List.listTooLong n=false:=by
 unfold Builtin.List.listTooLong
 exact decide_eq_false (by omega)
end
section
variable {X : Cx}
def an3:V->List V->Hp->VK->Prop:=λx vs H Q=>∃l xs y,x=.ref l/\vs=[y]/\H l=some (.lst xs)/\xs.length<sizeLine/\Q .non (upd H l (.lst (xs++[y])))
theorem bc6:MtM X "list.append" an3:=by
 intro pins s σ H x vs v us Q I rx rv h
 obtain⟨l,xs,y,rfl,rfl,hH,hz,q⟩:=h
 cases rx
 obtain⟨u,rfl,ru⟩:=rv.one
 obtain⟨z,its,n,r,hl,e⟩:=I.lstM hH
 refine call_meets F.slot_list_append ⟨_,e,rfl⟩ F.entry_list_append (F.args_list_append_2 _ _) (PySem.list_append l its.toArray n u (by rw[List.size_toArray];omega)) ⟨e,?_⟩
 refine⟨.non,_,I.lset (its':=its++[u]) hH e (by simp) (r.append (.cons ru .nil)) ?_,rfl,q⟩
 rw[List.length_append,List.length_singleton]
 omega
def bp1:V->List V->Hp->VK->Prop:=λx vs H Q=>∃l b xs zs,x=.ref l/\vs=[.ref b]/\H l=some (.lst xs)/\H b=some (.lst zs)/\xs.length+zs.length<=sizeLine/\Q .non (upd H l (.lst (xs++zs)))
theorem ad5:MtM X "list.extend" bp1:=by
 intro pins s σ H x vs v us Q I rx rv h
 obtain⟨l,b,xs,zs,rfl,rfl,hH,hB,hz,q⟩:=h
 cases rx
 obtain⟨u,rfl,ru⟩:=rv.one
 cases ru
 obtain⟨z,its,n,r,hl,e⟩:=I.lstM hH
 obtain⟨z2,its2,n2,r2,hl2,e2⟩:=I.lstM hB
 have hsz:its.toArray.size+its2.toArray.size<=sizeLine:=by rw[List.size_toArray,List.size_toArray];omega
 have hlong:¬(!its.toArray.isEmpty&&Builtin.List.listTooLong (its.toArray.size+its2.toArray.size))=true:=by
  rw[bv8 hsz,Bool.and_false]
  exact Bool.false_ne_true
 refine call_meets F.slot_list_extend ⟨_,e,rfl⟩ F.entry_list_extend (F.args_list_extend_2 _ _)
  (AutoSeq1.list_extend_list_list_0 l its.toArray n b its2.toArray n2 hlong (by rw[List.size_toArray];omega) (by omega)) ⟨e,e2,?_⟩
 refine⟨.non,_,I.lset (its':=its++its2) hH e (by simp) (r.append r2) ?_,rfl,q⟩
 rw[List.length_append]
 omega
def bt7:V->List V->Hp->VK->Prop:=λx vs H Q=>∃l xs,x=.ref l/\vs=[]/\H l=some (.lst xs)/\Q .non (upd H l (.lst []))
theorem cd2:MtM X "list.clear" bt7:=by
 intro pins s σ H x vs v us Q I rx rv h
 obtain⟨l,xs,rfl,rfl,hH,q⟩:=h
 cases rx
 have hus:=rv.zero
 subst hus
 obtain⟨z,its,n,r,hl,e⟩:=I.lstM hH
 refine call_meets F.slot_list_clear ⟨_,e,rfl⟩ F.entry_list_clear (F.args_list_clear_1 _) (AutoSeq1.list_clear_list_0 l its.toArray n (by rw[List.size_toArray];omega)) ⟨e,?_⟩
 exact⟨.non,_,I.lset (its':=[]) (ys:=[]) hH e rfl .nil (Nat.zero_le _),rfl,q⟩
theorem cw6(xs:List α)(k:Nat):(List.replicate k xs).flatten.length=k*xs.length:=by
 induction k with
 |zero=>simp
 |succ k ih=>rw[List.replicate_succ,List.flatten_cons,List.length_append,ih,Nat.succ_mul,Nat.add_comm]
end
section
variable {prog : Program} {w : World} {A : Around} {E : Value → Shared → Prop} {s : Shared}
set_option maxRecDepth 100000 in
end
section
variable {X : Cx}
end
end L2
namespace Att
open PySem PySem.W PySem.Calls PyProof.Rows
theorem ints_of_wellAll:∀(ns:List Int)(vs:List Value),WellAll P h vs (ns.map WData.int)->IntsAre vs ns:=by
 intro ns
 induction ns with
 |nil=>
  intro vs w
  rw[List.map_nil]at w
  cases w
  exact .nil
 |cons n ns ih=>
  intro vs w
  rw[List.map_cons]at w
  cases w with
  |cons a b=>
   cases a
   exact .cons _ _ (ih _ b)
theorem script_of{l:OpenLaw}{n:Nat}(hn:l.most=some n){P:Params}{h:Heap}{args:List WData}{vals:List Value}
 (hpre:l.row.toRowW.claim.pre args=true)(hwl:WellAll P h vals args):
 ∃a vs ns,vals=[Value.ref a]/\args=[WData.list (ns.map WData.int)]/\h.get? a=some {cls:=.type "list",data:=.seq vs.toArray}/\IntsAre vs ns/\ns.length<=n:=by
 have hsh:WShape.hasAll [] args [.list .int]=true:=(pre_splitW hpre).1
 have hc:l.pre.holds [] {args:=args}=true:=(pre_splitW hpre).2
 obtain⟨d,r,rfl,h1,h2⟩:=hasAllW_cons hsh
 obtain rfl:=hasAllW_nil h2
 obtain⟨xs,rfl,h3⟩:=hasW_list h1
 obtain⟨ns,rfl⟩:=items_int h3
 have hlen:ns.length<=n:=by
  unfold OpenLaw.pre at hc
  have h4:(WTm.not (.lt (.lit (.int (n:Int))) (.len (.arg 0)))).holds [] {args:=[.list (ns.map .int)]}=true:=by
   have h4:=(holds_andW hc).1
   rw[hn]at h4
   exact h4
  have h5:=condW_of h4 (w_not (w_lt w_lit (w_len_list (w_arg rfl))))
  rw[List.length_map]at h5
  refine Nat.le_of_not_lt λq=>?_
  have q':(n:Int)<((ns.length:Nat):Int):=by omega
  first
   |(rw[decide_eq_true q']at h5;exact absurd h5 (by decide))
   |(simp at h5;omega)
 cases hwl with
 |cons w1 w2=>
  cases w2
  cases w1 with
  |list ho hall=>exact⟨_,_,ns,rfl,rfl,ho,ints_of_wellAll ns _ hall,hlen⟩
theorem post_true(l:OpenLaw)(args:List WData):l.row.toRowW.claim.post args (.bool true) args=true:=
 postW_of (r:=l.row.toRowW) (X:=(true==true))
  (show WShape.has [] (.bool true) .bool=true by first|rfl|decide|simp[WShape.has,WShape.arms,WShape.armsAll])
  (show(WTm.eq .res (.lit (.bool true))).value [] {args:=args,res:=some (.bool true),after:=args}=some (.bool (true==true)) from w_eq_bool (w_res rfl) w_lit) rfl
section
variable {prog : Program} {w : World} {A : Around} {E : Value → Shared → Prop} {s : Shared} {K : Frag}
end
end Att
namespace L2
open PySem PySem.Spec PyProof.Rows
theorem ag5:∀{vs:List Value}{ns:List Int},IntsAre vs ns->Vals (ns.map V.int) vs
 |_,_,.nil=>.nil
 |_,_,.cons n t h=>.cons ⟨t,rfl⟩ (ag5 h)
def cf9(H:Hp):Prop:=∀b,H b=none\/∃o xs,H b=some (.frz o (.lst xs))
theorem cv0{P:Program}{w:World}{K:PySem.W.Frag}{mg mb:Str->Option Value}{CX:vK}{k:Nat}{fa a:Addr}{fd:FuncData}{x:Str}{sp:Sp}{s₁:Shared}{vs:List Value}{ns:List Int}
 (KX:K.In s₁.heap)(hns:s₁.heap.Ns mainGlobals mg)(hb:s₁.heap.Ns builtinsNs mb)(hbb:∀x:Str,x≠"__name__"->mb x=bootBuiltins x)(hlim:s₁.heap.NoLimit)(hg:s₁.gens=#[])
 (ha:s₁.heap.get? a=some {cls:=.type "list",data:=.seq vs.toArray})(hi:IntsAre vs ns)(hl:ns.length<=sizeLine)(hr:Room k callerA)
 (F:∀base:Heap,K.In base->base.Ns mainGlobals mg->FnOk P w K mg base CX k fa fd [x] sp)(hbind:∀(s:Shared)(u:Value),BindsTo s fd ⟨[u],[]⟩ [(x,u)])
 (hsp:∀H:Hp,cf9 H->SqL K H a (ns.map V.int)->sp [.ref a] H (λv _=>v=.bl true) λ_ _ _=>False)
 (hCX:∀H e s',CX [] H s₁ (λ_ _ _=>False) e s'->False):
 codeAny (model P w) callerA (.call (.ref fa) ⟨[.ref a],[]⟩) (λr s'=>r=.ok (.ret (.bool true))/\OldK s₁.heap s'.heap/\s'.os=s₁.os/\AllBare s'.gens) s₁:=by
 have rv:=ag5 hi
 have lenV:=hi.length
 have core:∀H:Hp,cf9 H->SqL K H a (ns.map V.int)->HOk P w H s₁.heap->(∀b,H b≠none->b=a)->(H a≠none->K.lookup a=none)->
  codeAny (model P w) callerA (.call (.ref fa) ⟨[.ref a],[]⟩) (λr s'=>r=.ok (.ret (.bool true))/\OldK s₁.heap s'.heap/\s'.os=s₁.os/\AllBare s'.gens) s₁:=by
  intro H hO hS hok hA hK
  have base_of:∀{b:Addr}{o:Obj},s₁.heap.get? b=some o->H b=none->(uL s₁.heap H).get? b=some o:=λe n=>bi9 e n
  have noA:∀{b:Addr}{o:Obj}{es:Array DictEntry}{ep:Nat},s₁.heap.get? b=some o->o.data=.dict es ep->H b=none:=λ{b o es ep} e d=>by
   cases q:H b with
   |none=>rfl
   |some u=>
    have e':b=a:=hA b (by rw[q];simp)
    subst e'
    rw[ha]at e;cases e
    have d':Data.seq vs.toArray _=Data.dict es ep:=d
    cases d'
  have nsK:∀{b:Addr}{m:Str->Option Value},s₁.heap.Ns b m->(uL s₁.heap H).Ns b m:=λ{b m} ⟨o,es,ep,e,d,r⟩=>⟨o,es,ep,base_of e (noA e d),d,r⟩
  have hKb:K.In (uL s₁.heap H):=λb o e=>base_of (KX b o e) (by
   cases q:H b with
   |none=>rfl
   |some u=>
    have e':b=a:=hA b (by rw[q];simp)
    subst e'
    rw[hK (by rw[q];simp)]at e;cases e)
  have hM:Mod K mg (uL s₁.heap H):=⟨hKb,nsK hns,⟨mb,nsK hb,hbb⟩,let⟨mc,h1,h2⟩:=hlim;⟨mc,nsK h1,h2⟩⟩
  have e0:Env0 P w K mg (uL s₁.heap H) callerA [] s₁ H:=⟨rfl,hM,λb o e=>cx6 e,Nat.le_of_eq (bp5 _ _),trivial,λb hb=>absurd (show b∈([]:List Addr) from hb) (by simp),hok,.of_eq hg⟩
  refine codeAny_mono ((F _ hKb (nsK hns)).run callerA [] s₁ H ⟨[.ref a],[]⟩ [.ref a] [.ref a] _ _ hr e0 (hbind s₁ (.ref a)) (.cons rfl .nil) (hsp H hO hS)) λr s' h=>?_
  cases r with
  |error e=>exact(hCX H e s' h).elim
  |ok fl=>
   cases fl with
   |next=>exact False.elim h
   |brk=>exact False.elim h
   |cont=>exact False.elim h
   |ret u=>
    obtain⟨v,H',os,bare,un,hok',r',q⟩:=h
    have q':v=.bl true:=q
    subst q'
    obtain rfl:u=Value.bool true:=r'
    refine⟨rfl,OldK.of_keep λb o e=>?_,os,bare⟩
    cases q:H b with
    |none=>exact un.keep b o e q (by intro z;exact absurd (show b∈([]:List Addr) from z) (by simp)) (by simp)
    |some u=>
     rcases hO b with z|⟨ob,xs,z⟩
     . rw[q]at z;cases z
     . have z2:=un.frzs b ob _ z
       obtain⟨e1,_⟩:=hok b _ z
       obtain⟨e2,_⟩:=hok' b _ z2
       rw[e]at e1;cases e1
       exact e2
 cases hk:K.lookup a with
 |some o=>
  have e:=KX a o hk
  rw[ha]at e
  cases e
  refine core (λ_=>none) (λ_=>.inl rfl) (.inr ⟨_,vs.toArray,_,hk,rfl,rfl,rfl,by rw[List.size_toArray,lenV];exact hl,by simpa using rv⟩) (λb u z=>by have z':(none:Option HO)=some u:=z;cases z') (λb z=>absurd rfl z) λz=>absurd rfl z
 |none=>
  refine core (λb=>if b=a then some (.frz {cls:=.type "list",data:=.seq vs.toArray} (.lst (ns.map V.int)))else none) (λb=>?_) (.inl (.inr ⟨{cls:=.type "list",data:=.seq vs.toArray},if_pos rfl⟩)) (λb u z=>?_) (λb z=>?_) λ_=>hk
  . by_cases hb:b=a
    . exact .inr ⟨_,_,if_pos hb⟩
    . exact .inl (if_neg hb)
  . by_cases hb:b=a
    . have z':=(if_pos hb).symm.trans z
      cases z'
      subst hb
      exact⟨ha,by rw[List.length_map];exact hl,vs,_,rv,ha⟩
    . have z':=(if_neg hb).symm.trans z
      cases z'
  . by_cases hb:b=a
    . exact hb
    . exact absurd (if_neg hb) z
end L2
namespace L2
open PySem PySem.Spec PyProof.Rows
end L2
namespace L2
open PySem PySem.Spec PyProof.Rows
def tQ(s:Stmt)(j:Nat):Stmt:=match s with
 |.ClassDef _ _ _ body _ _ _ _ _ _ _=>body.getD j (.Pass ⟨0,0,0,0⟩)
 |_=>.Pass ⟨0,0,0,0⟩
def hV(s:Stmt):Arguments:=match s with
 |.FunctionDef _ a _ _ _ _ _ _ _ _=>a
 |_=>{posonlyargs:=[],args:=[],vararg:=none,kwonlyargs:=[],kw_defaults:=[],kwarg:=none,defaults:=[]}
def cZ(s:Stmt):List Stmt:=match s with
 |.FunctionDef _ _ b _ _ _ _ _ _ _=>b
 |_=>[]
def aN(s:Stmt):Scope:=match s with
 |.FunctionDef _ _ _ _ _ _ sc _ _ _=>sc
 |_=>{kind:=.function,names:=[],isGenerator:=false,isCoroutine:=false}
abbrev jD:vK:=λ_ _ _ _ _ _=>False
abbrev E0:XK:=λ_ _ _=>False
theorem ad0:wY jD X E0:=λ_ _ _ _ _ _ _ h=>h.elim
structure Fun (K:PySem.W.Frag) (x qual:Str) (st:Stmt) (f:Addr) (fd:FuncData):Prop where
 ex:∃(oc:Value)(od:Option Addr)(kV doc pm:Value)(an:Option Addr)(cdv ct:Value)(osl:Array (Option Value)),
  fd=PySem.W.fnOf x qual (hV st) (cZ st) (aN st) .none kV doc pm an cdv ct/\K.lookup f=some ⟨oc,od,.func fd,osl⟩/\PySem.W.codeIn K cdv qual=true
 kp:PySem.W.keepIn K (.ref f)=true
section
variable {P : Program} {w : World} {K : PySem.W.Frag} {mg : Str → Option Value} {base : Heap}
theorem Fun.ok{x qual:Str}{st:Stmt}{f:Addr}{fd:FuncData}{N ps:List Str}{k:Nat}{sp:Sp}(F:Fun K x qual st f fd)(S:aW N ps (aN st))(len:∀vs H Q E,sp vs H Q E->vs.length=ps.length)
 (hbody:∀(cdv:Value)(A:Around)(outer:List Env)(s:Shared)(H:Hp)(vs:List V)(Q:VK)(E:XK),Room k (A.deeper (envOfC qual (aN st) s.heap.objs.size f cdv))->sp vs H Q E->
  ∃t,PSs (lP jD P w K mg base N qual (aN st) f cdv A outer s H E).nox (cZ st) t/\t {nx:=λ_ H'=>Q .non H',rt:=Q} (iI N vs) H):FnOk P w K mg base jD (k+1) f fd ps sp:=by
 obtain⟨oc,od,kV,doc,pm,an,cdv,ct,osl,rfl,lk,hcd⟩:=F.ex
 refine df2 lk hcd S len λA outer s H vs Q E hr hsp=>?_
 obtain⟨t,h,q⟩:=hbody cdv A outer s H vs Q E hr hsp
 exact⟨t,h.nox,q⟩
theorem Fun.binds{x qual:Str}{st:Stmt}{f:Addr}{fd:FuncData}{ps:List Str}(F:Fun K x qual st f fd)
 (h:∀(kV doc pm:Value)(an:Option Addr)(cdv ct:Value)(us:List Value),us.length=ps.length->bindArgs (PySem.W.fnOf x qual (hV st) (cZ st) (aN st) .none kV doc pm an cdv ct) ⟨us,[]⟩=pure (ps.zip us)):Binds K fd ps []:=by
 obtain⟨oc,od,kV,doc,pm,an,cdv,ct,osl,rfl,lk,hcd⟩:=F.ex
 exact .all (h kV doc pm an cdv ct)
theorem aj1{x qual:Str}{st:Stmt}{f:Addr}{oc:Value}{od an:Option Addr}{osl:Array (Option Value)}{kV doc pm cdv ct:Value}(l:K.lookup f=some ⟨oc,od,.func (PySem.W.fnOf x qual (hV st) (cZ st) (aN st) .none kV doc pm an cdv ct),osl⟩)
 (c:PySem.W.codeIn K cdv qual=true)(k:PySem.W.keepIn K (.ref f)=true):Fun K x qual st f (PySem.W.fnOf x qual (hV st) (cZ st) (aN st) .none kV doc pm an cdv ct):=⟨⟨oc,od,kV,doc,pm,an,cdv,ct,osl,rfl,l,c⟩,k⟩
end
section
variable {X : Cx}
theorem pv(i:Nat)(hN:X.N[i]?=some x:=by rfl)(hv:Vis X.env.scope x:=by first|exact Or.inl rfl|exact Or.inr (Or.inl rfl)|exact Or.inr (Or.inr rfl))(hd:(x==("__debug__":Str))=false:=by decide)
 (hcd:(x==("__classdict__":Str))=false:=by decide):PE X (.Name x pos) (af8 i):=dp0 hN hv hd hcd
end
def Same(H H':Hp):Prop:=∀b o,H b=some o->H' b=some o
theorem Same.refl(H:Hp):Same H H:=λ_ _ h=>h
theorem Same.trans(a:Same H H1)(b:Same H1 H2):Same H H2:=λc o h=>b c o (a c o h)
theorem Same.free(e:Same H H')(h:H' l=Option.none):H l=Option.none:=by
 cases q:H l with
 |none=>rfl
 |some o=>
  rw[e l o q]at h
  cases h
theorem Same.seq{K:PySem.W.Frag}{H H':Hp}{a:Addr}{xs:List V}(e:Same H H')(h:SqL K H a xs):SqL K H' a xs:=by
 rcases h with(h|⟨o,h⟩)|h
 . exact .inl (.inl (e _ _ h))
 . exact .inl (.inr ⟨o,e _ _ h⟩)
 . exact .inr h
end L2
namespace L2
open PySem PySem.Spec PyProof.Rows
def ct7:R2:=λx y H Q=>∃i j,x=.int i/\y=.int j/\IntMulOk i j/\Q (.int (i*j)) H
section
variable {X : Cx}
theorem op_mulB:OpR X (binaryOp .Mult) ct7:=by
 intro pins s σ H x y v u Q I rx ry h
 obtain⟨i,j,rfl,rfl,hc,q⟩:=h
 obtain⟨t,rfl⟩:=rx
 obtain⟨t',rfl⟩:=ry
 exact mul_int ⟨.int (i*j),H,I.tok _,⟨_,rfl⟩,q⟩ hc
def TyN(K:PySem.W.Frag)(H:Hp)(x:V)(tx:String):Prop:=match x with
 |.int _=>tx="int"
 |.bl _=>tx="bool"
 |.str _=>tx="str"
 |.ref p=>(tx="list"/\∃xs,SqL K H p xs)\/(tx="tuple"/\∃xs,SqT K H p xs)
 |_=>False
inductive fB:String->String->Bool->Prop where
 |int_int:fB "int" "int" true
 |int_bool:fB "int" "bool" false
 |int_str:fB "int" "str" false
 |int_list:fB "int" "list" false
 |int_tuple:fB "int" "tuple" false
 |bool_int:fB "bool" "int" true
 |bool_bool:fB "bool" "bool" true
 |bool_str:fB "bool" "str" false
 |bool_list:fB "bool" "list" false
 |bool_tuple:fB "bool" "tuple" false
 |str_int:fB "str" "int" false
 |str_bool:fB "str" "bool" false
 |str_str:fB "str" "str" true
 |str_list:fB "str" "list" false
 |str_tuple:fB "str" "tuple" false
 |list_int:fB "list" "int" false
 |list_bool:fB "list" "bool" false
 |list_str:fB "list" "str" false
 |list_list:fB "list" "list" true
 |list_tuple:fB "list" "tuple" false
 |tuple_int:fB "tuple" "int" false
 |tuple_bool:fB "tuple" "bool" false
 |tuple_str:fB "tuple" "str" false
 |tuple_list:fB "tuple" "list" false
 |tuple_tuple:fB "tuple" "tuple" true
theorem bm8:CallR X (.builtin "isinstance") (λxs H Q=>∃x T tx b,xs=[x,.ty T]/\TyN X.K H x tx/\fB tx T b/\Q (.bl b) H):=by
 intro pins s σ H xs us Q I r h
 obtain⟨x,T,tx,b,rfl,ht,ho,q⟩:=h
 obtain⟨u,v,rfl,rx,rT⟩:=r.two
 obtain rfl:v=Value.type T:=rT
 have fin1:EP X pins σ Q (.bool b) s:=⟨.bl b,H,I,rfl,q⟩
 have fin2:EP X pins σ Q (.bool b) {s with toks:=s.toks+1}:=⟨.bl b,H,I.tok _,rfl,q⟩
 cases x with
 |int i=>
  obtain⟨t,rfl⟩:=rx
  have ht:tx="int":=ht
  cases ho with
  |int_int=>exact IsiPair.int_int fin1
  |int_bool=>exact IsiPair.int_bool fin2
  |int_str=>exact IsiPair.int_str fin2
  |int_list=>exact IsiPair.int_list fin2
  |int_tuple=>exact IsiPair.int_tuple fin2
  |bool_int=>exact absurd ht (by decide+kernel)
  |bool_bool=>exact absurd ht (by decide+kernel)
  |bool_str=>exact absurd ht (by decide+kernel)
  |bool_list=>exact absurd ht (by decide+kernel)
  |bool_tuple=>exact absurd ht (by decide+kernel)
  |str_int=>exact absurd ht (by decide+kernel)
  |str_bool=>exact absurd ht (by decide+kernel)
  |str_str=>exact absurd ht (by decide+kernel)
  |str_list=>exact absurd ht (by decide+kernel)
  |str_tuple=>exact absurd ht (by decide+kernel)
  |list_int=>exact absurd ht (by decide+kernel)
  |list_bool=>exact absurd ht (by decide+kernel)
  |list_str=>exact absurd ht (by decide+kernel)
  |list_list=>exact absurd ht (by decide+kernel)
  |list_tuple=>exact absurd ht (by decide+kernel)
  |tuple_int=>exact absurd ht (by decide+kernel)
  |tuple_bool=>exact absurd ht (by decide+kernel)
  |tuple_str=>exact absurd ht (by decide+kernel)
  |tuple_list=>exact absurd ht (by decide+kernel)
  |tuple_tuple=>exact absurd ht (by decide+kernel)
 |bl i=>
  cases rx
  have ht:tx="bool":=ht
  cases ho with
  |int_int=>exact absurd ht (by decide+kernel)
  |int_bool=>exact absurd ht (by decide+kernel)
  |int_str=>exact absurd ht (by decide+kernel)
  |int_list=>exact absurd ht (by decide+kernel)
  |int_tuple=>exact absurd ht (by decide+kernel)
  |bool_int=>exact IsiPair.bool_int fin1
  |bool_bool=>exact IsiPair.bool_bool fin1
  |bool_str=>exact IsiPair.bool_str fin2
  |bool_list=>exact IsiPair.bool_list fin2
  |bool_tuple=>exact IsiPair.bool_tuple fin2
  |str_int=>exact absurd ht (by decide+kernel)
  |str_bool=>exact absurd ht (by decide+kernel)
  |str_str=>exact absurd ht (by decide+kernel)
  |str_list=>exact absurd ht (by decide+kernel)
  |str_tuple=>exact absurd ht (by decide+kernel)
  |list_int=>exact absurd ht (by decide+kernel)
  |list_bool=>exact absurd ht (by decide+kernel)
  |list_str=>exact absurd ht (by decide+kernel)
  |list_list=>exact absurd ht (by decide+kernel)
  |list_tuple=>exact absurd ht (by decide+kernel)
  |tuple_int=>exact absurd ht (by decide+kernel)
  |tuple_bool=>exact absurd ht (by decide+kernel)
  |tuple_str=>exact absurd ht (by decide+kernel)
  |tuple_list=>exact absurd ht (by decide+kernel)
  |tuple_tuple=>exact absurd ht (by decide+kernel)
 |str i=>
  obtain⟨t,rfl⟩:=rx
  have ht:tx="str":=ht
  cases ho with
  |int_int=>exact absurd ht (by decide+kernel)
  |int_bool=>exact absurd ht (by decide+kernel)
  |int_str=>exact absurd ht (by decide+kernel)
  |int_list=>exact absurd ht (by decide+kernel)
  |int_tuple=>exact absurd ht (by decide+kernel)
  |bool_int=>exact absurd ht (by decide+kernel)
  |bool_bool=>exact absurd ht (by decide+kernel)
  |bool_str=>exact absurd ht (by decide+kernel)
  |bool_list=>exact absurd ht (by decide+kernel)
  |bool_tuple=>exact absurd ht (by decide+kernel)
  |str_int=>exact IsiPair.str_int fin2
  |str_bool=>exact IsiPair.str_bool fin2
  |str_str=>exact IsiPair.str_str fin1
  |str_list=>exact IsiPair.str_list fin2
  |str_tuple=>exact IsiPair.str_tuple fin2
  |list_int=>exact absurd ht (by decide+kernel)
  |list_bool=>exact absurd ht (by decide+kernel)
  |list_str=>exact absurd ht (by decide+kernel)
  |list_list=>exact absurd ht (by decide+kernel)
  |list_tuple=>exact absurd ht (by decide+kernel)
  |tuple_int=>exact absurd ht (by decide+kernel)
  |tuple_bool=>exact absurd ht (by decide+kernel)
  |tuple_str=>exact absurd ht (by decide+kernel)
  |tuple_list=>exact absurd ht (by decide+kernel)
  |tuple_tuple=>exact absurd ht (by decide+kernel)
 |ref p=>
  cases rx
  have ht:(tx="list"/\∃xs,SqL X.K H p xs)\/(tx="tuple"/\∃xs,SqT X.K H p xs):=ht
  rcases ht with⟨ht,ys,hq⟩|⟨ht,ys,hq⟩
  . obtain⟨its,rv,⟨o,n,e,c,d,dt⟩,hz⟩:=I.list hq
    cases ho with
    |int_int=>exact absurd ht (by decide+kernel)
    |int_bool=>exact absurd ht (by decide+kernel)
    |int_str=>exact absurd ht (by decide+kernel)
    |int_list=>exact absurd ht (by decide+kernel)
    |int_tuple=>exact absurd ht (by decide+kernel)
    |bool_int=>exact absurd ht (by decide+kernel)
    |bool_bool=>exact absurd ht (by decide+kernel)
    |bool_str=>exact absurd ht (by decide+kernel)
    |bool_list=>exact absurd ht (by decide+kernel)
    |bool_tuple=>exact absurd ht (by decide+kernel)
    |str_int=>exact absurd ht (by decide+kernel)
    |str_bool=>exact absurd ht (by decide+kernel)
    |str_str=>exact absurd ht (by decide+kernel)
    |str_list=>exact absurd ht (by decide+kernel)
    |str_tuple=>exact absurd ht (by decide+kernel)
    |list_int=>exact IsiPair.list_int e c fin2
    |list_bool=>exact IsiPair.list_bool e c fin2
    |list_str=>exact IsiPair.list_str e c fin2
    |list_list=>exact IsiPair.list_list e c fin1
    |list_tuple=>exact IsiPair.list_tuple e c fin2
    |tuple_int=>exact absurd ht (by decide+kernel)
    |tuple_bool=>exact absurd ht (by decide+kernel)
    |tuple_str=>exact absurd ht (by decide+kernel)
    |tuple_list=>exact absurd ht (by decide+kernel)
    |tuple_tuple=>exact absurd ht (by decide+kernel)
  . obtain⟨its,rv,⟨o,e,c,n,d⟩,hz⟩:=I.tuple hq
    cases ho with
    |int_int=>exact absurd ht (by decide+kernel)
    |int_bool=>exact absurd ht (by decide+kernel)
    |int_str=>exact absurd ht (by decide+kernel)
    |int_list=>exact absurd ht (by decide+kernel)
    |int_tuple=>exact absurd ht (by decide+kernel)
    |bool_int=>exact absurd ht (by decide+kernel)
    |bool_bool=>exact absurd ht (by decide+kernel)
    |bool_str=>exact absurd ht (by decide+kernel)
    |bool_list=>exact absurd ht (by decide+kernel)
    |bool_tuple=>exact absurd ht (by decide+kernel)
    |str_int=>exact absurd ht (by decide+kernel)
    |str_bool=>exact absurd ht (by decide+kernel)
    |str_str=>exact absurd ht (by decide+kernel)
    |str_list=>exact absurd ht (by decide+kernel)
    |str_tuple=>exact absurd ht (by decide+kernel)
    |list_int=>exact absurd ht (by decide+kernel)
    |list_bool=>exact absurd ht (by decide+kernel)
    |list_str=>exact absurd ht (by decide+kernel)
    |list_list=>exact absurd ht (by decide+kernel)
    |list_tuple=>exact absurd ht (by decide+kernel)
    |tuple_int=>exact IsiPair.tuple_int e c fin2
    |tuple_bool=>exact IsiPair.tuple_bool e c fin2
    |tuple_str=>exact IsiPair.tuple_str e c fin2
    |tuple_list=>exact IsiPair.tuple_list e c fin2
    |tuple_tuple=>exact IsiPair.tuple_tuple e c fin1
 |_=>exact(show False from ht).elim
theorem sN:∀{bs:List Bool}{us:List Value}{i:Nat}{u:Value},Vals (bs.map V.bl) us->us[i]?=some u->∃b,bs[i]?=some b/\u=.bool b
 |[],_,_,_,.nil,e=>by simp at e
 |b::bs,_,0,_,.cons r _,e=>by
  simp at e
  subst e
  exact⟨b,rfl,r⟩
 |b::bs,_,i+1,_,.cons _ t,e=>by
  obtain⟨c,h1,h2⟩:=sN (i:=i) t (by simpa using e)
  exact⟨c,by simpa using h1,h2⟩
theorem bv6(bs:List Bool):((List.range bs.length).all λi=>(bs[i]?).getD true)=bs.all id:=by
 rw[Bool.eq_iff_iff,List.all_eq_true,List.all_eq_true]
 constructor
 . intro h b hb
   obtain⟨i,hi,e⟩:=List.mem_iff_getElem.mp hb
   have q:=h i (List.mem_range.mpr hi)
   rw[List.getElem?_eq_getElem hi,e]at q
   exact q
 . intro h i hi
   have hi':=List.mem_range.mp hi
   rw[List.getElem?_eq_getElem hi']
   exact h _ (List.getElem_mem hi')
theorem bl5(bs:List Bool):((List.range bs.length).any λi=>(bs[i]?).getD true)=bs.any id:=by
 rw[Bool.eq_iff_iff,List.any_eq_true,List.any_eq_true]
 constructor
 . rintro⟨i,hi,q⟩
   have hi':=List.mem_range.mp hi
   rw[List.getElem?_eq_getElem hi']at q
   exact⟨_,List.getElem_mem hi',q⟩
 . rintro⟨b,hb,q⟩
   obtain⟨i,hi,e⟩:=List.mem_iff_getElem.mp hb
   refine⟨i,List.mem_range.mpr hi,?_⟩
   rw[List.getElem?_eq_getElem hi,e]
   exact q
theorem wG{s:Shared}{h':Heap}{o:Obj}(hk:∀b x,b∉[s.heap.objs.size]->(s.heap.push o).get? b=some x->h'.get? b=some x):∀b x,s.heap.get? b=some x->h'.get? b=some x:=
 λb x e=>hk b x (λhm=>by rw[List.mem_singleton.mp hm]at e;exact Nat.lt_irrefl _ (Heap.lt_size e)) (Heap.get?_push_of_some _ e)
theorem cg2(hc:X.calm=true):CallR X (.builtin "all") (λxs H Q=>∃(p:Addr)(bs:List Bool),xs=[.ref p]/\SqL X.K H p (bs.map V.bl)/\Q (.bl (bs.all id)) H):=by
 intro pins s σ H xs us Q I r h
 obtain⟨p,bs,rfl,hq,q⟩:=h
 obtain⟨u,rfl,r1⟩:=r.one
 obtain rfl:u=Value.ref p:=r1
 obtain⟨its,rv,pl,hz⟩:=I.list hq
 have hl:=pl.isList
 have hlen:bs.length=its.length:=by have:=rv.length;rwa[List.length_map]at this
 have hlt:p<s.heap.objs.size:=by obtain⟨_,_,e,_⟩:=pl;exact Heap.lt_size e
 refine call_all_walk (wpAny_pyIter_list hl ?_)
 refine⟨s.heap.objs.size,[s.heap.objs.size,p],[s.heap.objs.size],its.toArray.size,_,_,λi=>(bs[i]?).getD true,rfl,Walks.list (A:=X.A.in1) (I.ok.hd hc) _ p (Nat.ne_of_lt hlt) its.toArray,
  ⟨⟨_,Heap.get?_push_size _ rfl,rfl,rfl⟩,hl.push _⟩,λi v s' Q' E' hP hQ=>?_,λh' tk hk=>?_⟩
 . obtain⟨b,e,rfl⟩:=sN rv (i:=i) (u:=v) (by simpa using hP)
   simp only[e,Option.getD_some]at hQ
   exact wpAny_truthy_bool hQ
 . have e:((List.range its.toArray.size).all λi=>(bs[i]?).getD true)=bs.all id:=by
    rw[List.size_toArray,<-hlen]
    exact bv6 bs
   rw[e]
   exact⟨.bl _,H,I.kept (wG hk),rfl,q⟩
theorem bx8(hc:X.calm=true):CallR X (.builtin "any") (λxs H Q=>∃(p:Addr)(bs:List Bool),xs=[.ref p]/\SqL X.K H p (bs.map V.bl)/\Q (.bl (bs.any id)) H):=by
 intro pins s σ H xs us Q I r h
 obtain⟨p,bs,rfl,hq,q⟩:=h
 obtain⟨u,rfl,r1⟩:=r.one
 obtain rfl:u=Value.ref p:=r1
 obtain⟨its,rv,pl,hz⟩:=I.list hq
 have hl:=pl.isList
 have hlen:bs.length=its.length:=by have:=rv.length;rwa[List.length_map]at this
 have hlt:p<s.heap.objs.size:=by obtain⟨_,_,e,_⟩:=pl;exact Heap.lt_size e
 refine call_any_walk (wpAny_pyIter_list hl ?_)
 refine⟨s.heap.objs.size,[s.heap.objs.size,p],[s.heap.objs.size],its.toArray.size,_,_,λi=>(bs[i]?).getD true,rfl,Walks.list (A:=X.A.in1) (I.ok.hd hc) _ p (Nat.ne_of_lt hlt) its.toArray,
  ⟨⟨_,Heap.get?_push_size _ rfl,rfl,rfl⟩,hl.push _⟩,λi v s' Q' E' hP hQ=>?_,λh' tk hk=>?_⟩
 . obtain⟨b,e,rfl⟩:=sN rv (i:=i) (u:=v) (by simpa using hP)
   simp only[e,Option.getD_some]at hQ
   exact wpAny_truthy_bool hQ
 . have e:((List.range its.toArray.size).any λi=>(bs[i]?).getD true)=bs.any id:=by
    rw[List.size_toArray,<-hlen]
    exact bl5 bs
   rw[e]
   exact⟨.bl _,H,I.kept (wG hk),rfl,q⟩
end
structure dS (P:Program) (w:World) (K:PySem.W.Frag) (mg:Str->Option Value) (base:Heap) (k:Nat) (x:Str) (ps:List Str) (sp:Sp):Prop where
 ex:∃f fd,FnOk P w K mg base jD k f fd ps sp/\mg x=some (.ref f)/\PySem.W.keepIn K (.ref f)=true/\Binds K fd ps []
def co1(sp:Sp)(t:TA):TE:=λσ H Q=>t σ H λvs H1=>sp vs H1 Q E0
section
variable {X : Cx}
theorem dv1(d:dS X.prog X.w X.K X.mg X.base k x ps sp)(hr:Room k X.A)(ha:PA X (e::es) t)(hg:Gl X x:=by rfl)
 (hdb:(x==("__debug__":Str))=false:=by decide)(he:starEach (e::es) X.env=(false,eval e X.env)::starEach es X.env:=by rfl)(hpl:(backTo pos (starEach es X.env)).any (·.1)=false:=by rfl):
 PE X (.Call (.Name x p) (e::es) [] pos) (co1 sp t):=by
 obtain⟨f,fd,F,hm,hk,hb⟩:=d.ex
 intro pins s σ H Q I h
 have e1:(λvs H1=>sp (vs++[]) H1 Q E0)=λvs H1=>sp vs H1 Q E0:=by
  funext vs H1
  rw[List.append_nil]
 refine ce7 F hr hg hm hk hb .nil ad0 ha hdb he hpl s σ H Q I ?_
 show t σ H λvs H1=>sp (vs++[]) H1 Q E0
 rw[e1]
 exact h
end
end L2
namespace Att
open PySem PySem.W PySem.Calls PyProof.Rows
theorem weight_mem:∀(ns:List Int)(n:Int),n∈ns->WData.weight (.int n)<=WData.weightAll (ns.map WData.int)
 |m::ns,n,h=>by
  rw[List.map_cons]
  simp only[WData.weightAll]
  rcases List.mem_cons.mp h with rfl|h
  . omega
  . have:=weight_mem ns n h
    omega
theorem bits_of{ns:List Int}(h:WData.layableAll [.list (ns.map WData.int)]=true):∀n∈ns,Builtin.Int.intBits n<=1048576:=by
 intro n hn
 have h1:WData.layable (.list (ns.map WData.int))=true:=by
  have h2:([WData.list (ns.map WData.int)].all WData.layable)=true:=h
  rw[List.all_cons,Bool.and_eq_true]at h2
  exact h2.1
 unfold WData.layable at h1
 rw[Bool.and_eq_true]at h1
 have h3:=of_decide_eq_true h1.2
 have h4:=weight_mem ns n hn
 have h5:WData.weight (.int n)=Builtin.Int.intBits n:=by
  unfold WData.weight Builtin.Int.intBits
  rfl
 have h6:WData.weight (.list (ns.map WData.int))=WData.weightAll (ns.map WData.int):=by
  conv=>lhs;unfold WData.weight
 rw[h6]at h3
 rw[h5]at h4
 have h7:(2:Nat)^20=1048576:=by decide
 omega
theorem attach_callB{l:OpenLaw}{n:Nat}{q:Program}{loose:List Str}{XP:(Str->Option Value)->Heap->Prop}{YP:World->Heap->Prop}{d:DefRec}
 (hn:l.most=some n)(hdf:d.params.defaults=[])
 (call:∀(w:World)(s₀ s₁:Shared)(mg mb:Str->Option Value)(fa:Addr)(o:Obj)(pm cd doc:Value)(a:Addr)(vs:List Value)(ns:List Int),
  Ground q loose [] XP w s₀ mg mb s₁.heap->YP w s₁.heap->
  s₁.heap.get? fa=some o->o.data=.func (docDef d.name d.params d.body d.scope pm cd doc)->s₁.heap.CodeRec cd d.name->mg d.name=some (.ref fa)->
  s₁.heap.get? a=some {cls:=.type "list",data:=.seq vs.toArray}->IntsAre vs ns->ns.length<=n->s₁.gens=#[]->(∀n∈ns,Builtin.Int.intBits n<=1048576)->
  codeAny (model l.prog w) callerA (.call (.ref fa) ⟨[.ref a],[]⟩) (λr s'=>r=.ok (.ret (.bool true))/\OldK s₁.heap s'.heap/\s'.os=s₁.os/\AllBare s'.gens) s₁):
 WalkO q loose XP YP l.row.toRowW d [] (λf vs=>PySem.call f vs):=by
 intro w s₀ s₁ mg mb G Y fa o pm cd doc dV kV ho hd hcd hD hmg hg args vals as hpre hlay hrd hwl hlo
 obtain rfl:dV=.none:=Dflts.none hD hdf
 obtain rfl:kV=.none:=Dflts.noKw hD
 obtain⟨a,vs,ns,rfl,rfl,hobj,hints,hlen⟩:=script_of hn hpre hwl
 refine enter_call (codeAny_mono (call w s₀ s₁ mg mb fa o pm cd doc a vs ns G Y ho (fd_plain hd) hcd hmg hobj hints hlen hg (bits_of hlay)) λr s' hq=>?_)
 obtain⟨rfl,h2,h3,h4⟩:=hq
 exact⟨.inl ⟨.bool true,.bool true,[],rfl,λ_=>rfl,.bool true,post_true l _,λ_=>⟨List.Pairwise.nil,λ_ hm=>(nomatch hm)⟩⟩,h2,h3,h4⟩
end Att
namespace L2
open PySem PySem.Spec PyProof.Rows
def SqS(K:PySem.W.Frag)(H:Hp)(a:Addr)(xs:List V):Prop:=
 Rd H a (.lst xs)\/
  ∃(o:Obj)(its:Array Value)(n:Nat),K.lookup a=some o/\o.cls=.type "list"/\o.dict=none/\o.slots=#[]/\o.data=.seq its n/\its.size<=sizeLine/\Vals xs its.toList
theorem SqS.sq{K:PySem.W.Frag}{H:Hp}{a:Addr}{xs:List V}(h:SqS K H a xs):SqL K H a xs:=by
 rcases h with h|⟨o,its,n,h1,h2,h3,_,h5,h6,h7⟩
 . exact .inl h
 . exact .inr ⟨o,its,n,h1,h2,h3,h5,h6,h7⟩
theorem Inv.listS(I:Inv X pins σ H s)(h:SqS X.K H a xs):∃(its:List Value)(n:Nat),Vals xs its/\s.heap.get? a=some {cls:=.type "list",data:=.seq its.toArray n}/\xs.length<=sizeLine:=by
 rcases h with h|⟨o,its,n,hk,hc,hd,hsl,hs,hz,r⟩
 . obtain⟨z,its,n,r,e⟩:=h.ok I.hok
   exact⟨its,n,r,e,z⟩
 . have e:=I.kIn a o hk
   obtain⟨cls,dict,data,slots⟩:=o
   simp only at hc hd hsl hs
   subst hc hd hsl hs
   refine⟨its.toList,n,r,by simpa using e,?_⟩
   have:=r.length
   simp only[Array.length_toList]at this
   omega
def aw6(K:PySem.W.Frag):Sp:=λvs H Q _=>∃(a:Addr)(ns:List Int),vs=[.ref a]/\SqS K H a (ns.map V.int)/\ns.length<=63/\(∀n∈ns,Builtin.Int.intBits n<=1048576)/\∀H',Q (.bl true) H'
theorem cn1{l:PySem.W.OpenLaw}{k:Nat}{q:Program}{loose:List Str}{XP:(Str->Option Value)->Heap->Prop}{YP:World->Heap->Prop}{d:DefRec}{K:Params->PySem.W.Frag}{x:Str}
 (hn:l.most=some 63)(hdf:d.params.defaults=[])(hr:Room k callerA)
 (hY:∀(w:World)(h:Heap),YP w h->(K w.params).In h)
 (F:∀(w:World)(mg:Str->Option Value)(fa:Addr)(h:Heap),(K w.params).In h->h.Ns mainGlobals mg->mg d.name=some (.ref fa)->
  ∃fd:FuncData,(∀(s:Shared)(u:Value),BindsTo s fd ⟨[u],[]⟩ [(x,u)])/\
   ∀base:Heap,(K w.params).In base->base.Ns mainGlobals mg->FnOk l.prog w (K w.params) mg base jD k fa fd [x] (aw6 (K w.params))):
 PySem.W.WalkO q loose XP YP l.row.toRowW d [] (λf vs=>PySem.call f vs):=by
 refine Att.attach_callB hn hdf λw s₀ s₁ mg mb fa o pm cd doc a vs ns G Y ho hd hcd hmg hobj hints hlen hg hbits=>?_
 have KX:=hY w _ Y
 obtain⟨fd,hb,hF⟩:=F w mg fa _ KX G.T.g hmg
 have hS':∀{H:Hp},SqL (K w.params) H a (ns.map V.int)->SqS (K w.params) H a (ns.map V.int):=λ{H} h=>by
  rcases h with h|⟨o,its,n,h1,h2,h3,h5,h6,h7⟩
  . exact .inl h
  . have e:=KX a o h1
    rw[hobj]at e
    cases e
    exact .inr ⟨_,its,n,h1,h2,h3,rfl,h5,h6,h7⟩
 exact cv0 KX G.T.g G.T.b G.T.builtins G.T.nolimit hg hobj hints (Nat.le_trans hlen (by decide)) hr hF hb (λH hO hS=>⟨a,ns,rfl,hS' hS,hlen,hbits,λ_=>rfl⟩) λH e s' h=>h
end L2
namespace L2
open PySem PySem.Spec PyProof.Rows
abbrev kS(X:Cx)(scope:Scope)(cl:List (Str×Addr))(C:Addr)(s₀:Shared)(H₀:Hp)(ex:List Addr):Cx:=
 {X with s₀:=s₀,H₀:=H₀,env:=compEnvC scope cl C X.env,outer:=X.stack,ex:=ex,fn:=λ_=>false,pn:=[],xe:=λ_ _=>False}
def eO (cells : List (Str × Addr)) : List (Str × NameKind) → List (Str × Addr) → List (Str × Addr)
  | [], acc => acc
  | (n, k) :: r, acc => if (k == .free) = true then eO cells r ((n, (cells.lookup n).getD 0) :: acc) else eO cells r acc
theorem uV : ∀ (names : List (Str × NameKind)) (acc : List (Str × Addr)), (∀ x ∈ names, x.2 = .free → ∃ c, env.cells.lookup x.1 = some c) →
    (forIn names acc fun (x : Str × NameKind) (cs : List (Str × Addr)) => (if (x.2 == .free) = true then (do let c ← cellOf env x.1; pure (ForInStep.yield ((x.1, c) :: cs))) else pure (ForInStep.yield cs) : Sem (ForInStep (List (Str × Addr))))) = (pure (eO env.cells names acc) : Sem (List (Str × Addr)))
  | [], acc, _ => rfl
  | (n, k) :: r, acc, h => by
    rw [List.forIn_cons]
    have hr : ∀ x ∈ r, x.2 = .free → ∃ c, env.cells.lookup x.1 = some c := fun x hx => h x (List.mem_cons_of_mem _ hx)
    by_cases hk : (k == NameKind.free) = true
    · obtain ⟨c, hc⟩ := h (n, k) List.mem_cons_self (by simpa using hk)
      have e1 : cellOf env n = pure c := by unfold cellOf; rw [hc]
      simp only [hk, if_true, e1, pure_bind]
      have e2 : eO env.cells ((n, k) :: r) acc = eO env.cells r ((n, c) :: acc) := by
        conv => lhs; unfold eO
        rw [if_pos hk, hc]
        all_goals rfl
      rw [e2]
      exact uV r _ hr
    · simp only [hk, if_false, pure_bind]
      have e2 : eO env.cells ((n, k) :: r) acc = eO env.cells r acc := by
        conv => lhs; unfold eO
        rw [if_neg hk]
      rw [e2]
      exact uV r _ hr
theorem uW (h : ∀ x ∈ scope.names, x.2 = .free → ∃ c, env.cells.lookup x.1 = some c) : closureFor scope env = pure (eO env.cells scope.names []) := by
  have q := uV (env := env) scope.names [] h
  unfold closureFor
  have e : (forIn scope.names ([] : List (Str × Addr)) fun (x : Str × NameKind) (r : List (Str × Addr)) =>
      (match x with
      | (name, kind) => if (kind == NameKind.free) = true then (do let c ← cellOf env name; pure (ForInStep.yield ((name, c) :: r))) else pure (ForInStep.yield r) : Sem (ForInStep (List (Str × Addr))))) = pure (eO env.cells scope.names []) := q
  first
    | (show (do let r ← (forIn scope.names ([] : List (Str × Addr)) _); pure r) = _; erw [e]; rfl)
    | (simp only [bind_pure]; exact e)
    | exact e
theorem rE : ∀ (names : List (Str × NameKind)) (acc : List (Str × Addr)), (∀ x ∈ names, x.2 = .free → ∃ c, cells.lookup x.1 = some c) → (∀ y c, acc.lookup y = some c → cells.lookup y = some c) →
    ∀ y c, (eO cells names acc).lookup y = some c → cells.lookup y = some c
  | [], _, _, ha => ha
  | (n, k) :: r, acc, h, ha => by
    have hr : ∀ x ∈ r, x.2 = .free → ∃ c, cells.lookup x.1 = some c := fun x hx => h x (List.mem_cons_of_mem _ hx)
    unfold eO
    by_cases hk : (k == NameKind.free) = true
    · rw [if_pos hk]
      obtain ⟨c, hc⟩ := h (n, k) List.mem_cons_self (by simpa using hk)
      refine rE r _ hr fun y d e => ?_
      rw [List.lookup_cons] at e
      cases q : y == n with
      | true =>
        rw [q] at e
        have e' : (cells.lookup n).getD 0 = d := Option.some.inj e
        have yn : y = n := by simpa using q
        subst yn
        have hc' : cells.lookup y = some c := hc
        rw [hc'] at e' ⊢
        exact congrArg some e'
      | false =>
        rw [q] at e
        exact ha y d e
    · rw [if_neg hk]
      exact rE r acc hr ha
theorem rF : ∀ (names : List (Str × NameKind)) (acc : List (Str × Addr)) (y : Str), (∃ c, acc.lookup y = some c) → ∃ c, (eO cells names acc).lookup y = some c
  | [], _, _, h => h
  | (n, k) :: r, acc, y, h => by
    unfold eO
    split
    · refine rF r _ y ?_
      rw [List.lookup_cons]
      cases q : y == n with
      | true => exact ⟨_, rfl⟩
      | false => exact h
    · exact rF r acc y h
theorem qF : ∀ (names : List (Str × NameKind)) (acc : List (Str × Addr)) (y : Str), (y, NameKind.free) ∈ names → ∃ c, (eO cells names acc).lookup y = some c
  | (n, k) :: r, acc, y, h => by
    unfold eO
    rcases List.mem_cons.mp h with e | h
    · have e1 : y = n := congrArg Prod.fst e
      have e2 : NameKind.free = k := congrArg Prod.snd e
      subst e1
      subst e2
      rw [if_pos (by rfl)]
      refine rF r _ y ?_
      rw [List.lookup_cons, beq_self_eq_true]
      exact ⟨_, rfl⟩
    · split
      · exact qF r _ y h
      · exact qF r _ y h
theorem sQ {env : Env} {x : Str} : ∀ (names : List (Str × NameKind)),
    (names.map fun (n, k) => if (k == NameKind.free && env.scope.kind == .function && env.kindOf n == some .cell) then (n, NameKind.cell) else (n, k)).lookup x
      = (names.lookup x).map fun k => if (k == NameKind.free && env.scope.kind == .function && env.kindOf x == some .cell) = true then NameKind.cell else k
  | [] => rfl
  | (n, k) :: r => by
    have ih := sQ (env := env) (x := x) r
    show List.lookup x ((if (k == NameKind.free && env.scope.kind == .function && env.kindOf n == some .cell) = true then (n, NameKind.cell) else (n, k)) :: _) = _
    rw [List.lookup_cons (a := x) (as := r)]
    cases hx : x == n with
    | true =>
      have e : x = n := by simpa using hx
      subst e
      by_cases hc : (k == NameKind.free && env.scope.kind == .function && env.kindOf x == some .cell) = true
      · rw [if_pos hc, List.lookup_cons, beq_self_eq_true]
        show some NameKind.cell = some (if _ then _ else _)
        rw [if_pos hc]
      · rw [if_neg hc, List.lookup_cons, beq_self_eq_true]
        show some k = some (if _ then _ else _)
        rw [if_neg hc]
    | false =>
      by_cases hc : (k == NameKind.free && env.scope.kind == .function && env.kindOf n == some .cell) = true
      · rw [if_pos hc, List.lookup_cons, hx]; exact ih
      · rw [if_neg hc, List.lookup_cons, hx]; exact ih
theorem yJ : ∀ {names : List (Str × NameKind)}, names.lookup x = some k → (x, k) ∈ names
  | (n, k') :: r, h => by
    rw [List.lookup_cons] at h
    cases hx : x == n with
    | true =>
      rw [hx] at h
      have e : x = n := by simpa using hx
      subst e
      cases h
      exact List.mem_cons_self
    | false =>
      rw [hx] at h
      exact List.mem_cons_of_mem _ (yJ h)
structure CScope (X : Cx) (ks : List Nat) (scope : Scope) : Prop where
  kind : scope.kind = .function
  cell : ∀ y ∈ scope.names, y.2 ≠ .cell
  names : ∀ y ∈ scope.names, y.2 = .local → scope.names.lookup y.1 = some .local
  freeB : (scope.names.all fun y => !(y.2 == NameKind.free) || (X.env.kindOf y.1 == some NameKind.cell || X.env.kindOf y.1 == some NameKind.free)) = true
  slotsB : (X.N.zipIdx.all fun p => !(scope.names.lookup p.1 == some NameKind.local) || ks.contains p.2) = true
theorem CScope.free(S:CScope X ks scope):∀y∈scope.names,y.2=.free->X.env.kindOf y.1=some .cell\/X.env.kindOf y.1=some .free:=λy hy hk=>by
 have h:=List.all_eq_true.mp S.freeB y hy
 rw[hk]at h
 simpa using h
theorem CScope.slots(S:CScope X ks scope):∀p∈X.N.zipIdx,scope.names.lookup p.1=some .local->p.2∈ks:=λp hp hk=>by
 have h:=List.all_eq_true.mp S.slotsB p hp
 rw[hk]at h
 simpa using h
def clr:List Nat->St->St
 |[],σ=>σ
 |k::ks,σ=>clr ks (σ.set k none)
theorem nI:∀(ks:List Nat)(σ:St),(clr ks σ).length=σ.length
 |[],_=>rfl
 |k::ks,σ=>by
  show(clr ks (σ.set k none)).length=_
  rw[nI ks,List.length_set]
theorem ao3:∀(ks:List Nat)(σ:St){i:Nat}{v:V},(clr ks σ)[i]?=some (some v)->σ[i]?=some (some v)/\i∉ks
 |[],_,_,_,h=>⟨h,List.not_mem_nil⟩
 |k::ks,σ,i,v,h=>by
  obtain⟨h1,h2⟩:=ao3 ks (σ.set k none) h
  by_cases e:i=k
  . subst e
    rw[List.getElem?_set_self']at h1
    cases q:σ[i]? with
    |none=>rw[q]at h1;cases h1
    |some o=>rw[q]at h1;cases h1
  . rw[List.getElem?_set_ne (Ne.symm e)]at h1
    exact⟨h1,λz=>(List.mem_cons.mp z).elim e h2⟩
def PIf(Y:Cx)(ifs:List Expr)(t:TT):Prop:=
 ∀⦃pins:List (Addr×Obj)⦄ (s:Shared)(σ:St)(H:Hp)(Q:Bool->Hp->Prop),Inv Y pins σ H s->t σ H Q->
  wpAny (model Y.prog Y.w) Y.A (forIn ifs true λc r=>if r=true then do let ok<-isTrue c Y.env (eval c Y.env);pure (ForInStep.yield ok)else pure (ForInStep.yield r)) (TP Y pins σ Q) Y.xe s
def ci8:TT:=λ_ H Q=>Q true H
theorem dN:PIf Y [] ci8:=λ_ _ _ H _ I h=>wpAny_tests_nil ⟨H,I,h⟩
theorem bu1(h:PT Y c t):PIf Y [c] t:=λpins s σ H Q I q=>wpAny_tests_one (h s σ H Q I q)
theorem bu7(I:Nat->Shared->Prop)
 (turn:∀n s,I n s->wpAny (model prog w) A (pyNext it) (λr s₁=>match r with
  |none=>R (.ok .next) s₁
  |some v=>wpAny (model prog w) A (letOwnedTupleGo target it v) (λ_ s₁'=>wpAny (model prog w) A (assign target env v) (λ_ s₂=>
   wpAny (model prog w) A (forIn ifs true λc r=>if r=true then do let ok<-isTrue c env (eval c env);pure (ForInStep.yield ok)else pure (ForInStep.yield r)) (λok s₃=>
    if ok=true then wpAny (model prog w) A (eval elt env) (λx s₄=>
     wpAny (model prog w) A (call (.builtin "list.append") [acc,x]) (λ_ s₅=>∃m,m<n/\I m s₅) (λ_ _=>False) s₄) (λ_ _=>False) s₃
    else∃m,m<n/\I m s₃) (λ_ _=>False) s₂) (λ_ _=>False) s₁') (λ_ _=>False) s₁) (λ_ _=>False) s)
 (n:Nat)(h:I n s):
 codeAny (model prog w) A (.compLoop (.ListComp elt [⟨target,iter,ifs,0⟩] scope pos) 0 it acc env) R s:=by
 refine codeAny_loop rfl I (λn s hI=>?_) n h
 show wpAny _ A ((compTurn (.ListComp elt [⟨target,iter,ifs,0⟩] scope pos) 0 it acc env).onRaise (λx=>do noteFrame x env;theTreesLotGoes x)) _ _ s
 refine wpAny_noted ?_
 rw[compTurn_list]
 refine wpAny_bind (wpAny_standAt (wpAny_bind (wpAny_mono (turn n s hI) (λr s₁ h₁=>?_) λ_ _ h'=>h'.elim)))
 cases r with
 |none=>exact wpAny_pure h₁
 |some v=>
  refine wpAny_bind (wpAny_mono h₁ (λ_ s₁' h₁'=>?_) λ_ _ h'=>h'.elim)
  refine wpAny_bind (wpAny_mono h₁' (λ_ s₂ h₂=>wpAny_bind (wpAny_mono h₂ (λok s₃ h₃=>?_) λ_ _ h'=>h'.elim)) λ_ _ h'=>h'.elim)
  cases ok with
  |false=>exact wpAny_pure ⟨rfl,h₃⟩
  |true=>
   exact wpAny_bind (wpAny_bind (wpAny_mono h₃ (λx s₄ h₄=>wpAny_bind (wpAny_mono h₄ (λ_ s₅ h₅=>wpAny_pure (wpAny_pure ⟨rfl,h₅⟩)) λ_ _ h'=>h'.elim)) λ_ _ h'=>h'.elim))
theorem Inv.track(I:Inv X pins σ H s)(hn:H D=none)(hl:X.s₀.heap.objs.size<=D)(hL:D≠X.env.locals)
 (hc:∀x c,X.env.cells.lookup x=some c->c≠D)(hp:∀p∈X.pn++pins,p.1≠D)(e:s.heap.get? D=some {cls:=.type "list",data:=.seq its.toArray n})(rv:Vals ys its)(hz:ys.length<=sizeLine):
 Inv X pins σ (upd H D (.lst ys)) s:=by
 have old:∀b o,X.s₀.heap.get? b=some o->b≠D:=λb o q z=>by
  subst z
  exact absurd (Nat.lt_of_lt_of_le (Heap.lt_size q) hl) (Nat.lt_irrefl _)
 have ne:∀b o,H b=some o->b≠D:=λb o q=>fV q hn
 refine⟨I.ok,I.os,I.bare,⟨I.base.keep,I.base.slot,λb o q n' hx=>?_,I.base.there,λb xs q=>?_,λb o u q=>?_,λb ps q=>?_⟩,I.loc,I.cell,?_,λx c q=>?_,λp q=>?_,λb u q=>?_,I.len⟩
 . rw[bY (old b o q)]
   exact I.base.free b o q n' hx
 . have z:=I.base.tups b xs q
   rw[bY (ne _ _ z)]
   exact z
 . have z:=I.base.frzs b o u q
   rw[bY (ne _ _ z)]
   exact z
 . obtain⟨more,z⟩:=I.base.tbls b ps q
   exact⟨more,by rw[bY (ne _ _ z)];exact z⟩
 . rw[bY (Ne.symm hL)]
   exact I.free
 . rw[bY (hc x c q)]
   exact I.freeC x c q
 . obtain⟨h1,h2,h3⟩:=I.pin p q
   exact⟨h1,by rw[bY (hp p q)];exact h2,h3⟩
 . by_cases hb:b=D
   . subst hb
     rw[dO]at q
     cases q
     exact⟨hz,its,n,rv,e⟩
   . rw[bY hb]at q
     exact(I.hok b u q).stay (λc v _ z=>z) (λc z=>by rw[bY (ne _ _ z)];exact z) λc xs z=>by rw[bY (ne _ _ z)];exact z
def Ext(ks:List Nat)(σ σ2:St):Prop:=σ2.length=σ.length/\∀(i:Nat)(v:V),(clr ks σ)[i]?=some (some v)->σ2[i]?=some (some v)
def CGo(ks:List Nat)(g:TG)(tc:TT)(te:TE)(σ:St)(F:Addr->Hp->Prop)(J:It)(H1:Hp):Prop:=
 ∃W:Nat->Nat->List V->Hp->Prop,(∃m,W 0 m [] H1)/\∀i m ys H,W i m ys H->
  (J.stop i H/\∀D,H D=none->F D (upd H D (.lst ys)))\/
  (J.go i H/\ys.length<sizeLine/\∃N:List V->Hp->Prop,(∀ys' H',N ys' H'->∃m',m'<m/\W (i+1) m' ys' H')/\∀x H',J.yld i H x H'->g x (clr ks σ) H' λσ2 H2=>Ext ks σ σ2/\tc σ2 H2 λb H3=>
   if b=true then te σ2 H3 λv H4=>N (ys++[v]) H4 else N ys H3)
def bb4(ks:List Nat)(wi:TI)(g:TG)(tc:TT)(te:TE):TE:=λσ H Q=>wi σ H (CGo ks g tc te σ λD H'=>Q (.ref D) H')
def zP(k:Nat)(ks:List Nat)(wi:TI)(g:TG)(tc:TT)(te:TE):TS:=λD σ H=>wi σ H (CGo ks g tc te σ λa H'=>D.nx (σ.set k (some (.ref a))) H')
section
variable {X : Cx}
theorem bz1 {tg iter elt : Expr} {ifs : List Expr} {scope : Scope} {pos : Pos} {ks : List Nat} {g : TG} {tc : TT} {te : TE} {F : Addr → Hp → Prop} {RR : Value → Addr → Result → Shared → Prop} {E : Value → Shared → Prop}
    {pins : List (Addr × Obj)} {σ : St} {s2 : Shared} {itv : Value} (S : CScope X ks scope) (hc : X.calm = true)
    (hg : ∀ cl C s₀ H₀ ex, PG (kS X scope cl C s₀ H₀ ex) tg g) (hi : ∀ cl C s₀ H₀ ex, PIf (kS X scope cl C s₀ H₀ ex) ifs tc) (he : ∀ cl C s₀ H₀ ex, PE (kS X scope cl C s₀ H₀ ex) elt te)
    (h : PIE X pins σ tg (CGo ks g tc te σ F) itv s2)
    (hRR : ∀ D C s' H', Inv X pins σ H' s' → (∃ m, s'.heap.Ns C m) → oA X pins H' C → F D H' → RR (.ref D) C (.ok .next) s') :
    wpAny (model X.prog X.w) X.A (newList []) (fun acc s₃ => wpAny (model X.prog X.w) X.A (newFunctionEnv scope X.env.globals (eO X.env.cells scope.names []) [] X.env.qual none .none (some X.env)) (fun cenv s₄ =>
      codeAny (model X.prog X.w) X.A (.compStart (.ListComp elt [⟨tg, iter, ifs, 0⟩] scope pos) 0 itv acc { cenv with scope := relabel scope X.env }) (RR acc cenv.locals) s₄) E s₃) E s2 := by
  obtain ⟨it, fp, tn, J, H2, rfl, I2, T, st2, f2, W, ⟨m0, w0⟩, turn⟩ := h
  refine wpAny_newObj_type (wpAny_newFunctionEnv S.cell (by intro y hy; simp at hy) (fun h₁ hns₁ hsb₁ => ?_) S.kind)
  dsimp only at hns₁ hsb₁ ⊢
  have hD2 : s2.heap.get? s2.heap.objs.size = none := Heap.get?_none_of_le (Nat.le_refl _)
  have nD : H2 s2.heap.objs.size = none := I2.hok.fresh (Nat.le_refl _)
  have I3 : Inv X pins σ H2 { s2 with heap := s2.heap.push { cls := .type "list", dict := none, data := .seq ([] : List Value).toArray } } := I2.kept (t' := s2.toks) fun b o e => Heap.get?_push_of_some _ e
  have eD3 : (s2.heap.push { cls := .type "list", dict := none, data := .seq ([] : List Value).toArray }).get? s2.heap.objs.size = some { cls := .type "list", dict := none, data := .seq ([] : List Value).toArray } := Heap.get?_push_size _ rfl
  have hsz3 : (s2.heap.push { cls := .type "list", dict := none, data := .seq ([] : List Value).toArray }).objs.size = s2.heap.objs.size + 1 := Heap.size_push _ _
  have fD := I2.fpOk (b := s2.heap.objs.size) (Nat.le_refl _) nD
  have fplt : ∀ b ∈ fp, b < s2.heap.objs.size := fun b hb => by
    obtain ⟨o, e, _⟩ := T.obj _ _ st2 b hb
    exact Heap.lt_size e
  have hDfp : s2.heap.objs.size ∉ fp := fun z => Nat.lt_irrefl _ (fplt _ z)
  generalize hs3 : ({ s2 with heap := s2.heap.push { cls := .type "list", dict := none, data := .seq ([] : List Value).toArray } } : Shared) = s3 at I3
  generalize hDD : s2.heap.objs.size = D at *
  have s3h : s3.heap = s2.heap.push { cls := .type "list", dict := none, data := .seq ([] : List Value).toArray } := by rw [← hs3]
  rw [← s3h] at hns₁ hsb₁ eD3 hsz3
  have fC := I3.fpOk (H' := H2) (b := s3.heap.objs.size) (Nat.le_refl _) (I3.hok.fresh (Nat.le_refl _))
  have old : ∀ b o, s3.heap.get? b = some o → h₁.get? b = some o := fun b o e => hsb₁.extBut b o (Nat.ne_of_lt (Heap.lt_size e)) (Heap.get?_push_of_some _ e)
  generalize hCC : s3.heap.objs.size = C at *
  have hDltC : D < C := by rw [hsz3]; exact Nat.lt_succ_self _
  have hDC : D ≠ C := Nat.ne_of_lt hDltC
  have hclos := uW (env := X.env) (scope := scope) fun x hx hk => I2.ok.has x.1 (S.free x hx hk)
  have csound : ∀ y c, (eO X.env.cells scope.names []).lookup y = some c → X.env.cells.lookup y = some c :=
    rE scope.names [] (fun x hx hk => I2.ok.has x.1 (S.free x hx hk)) fun y c e => by cases e
  generalize hcl : eO X.env.cells scope.names [] = cl at *
  have kin : ∀ y, (compEnvC scope cl C X.env).kindOf y = (scope.names.lookup y).map fun k => if (k == NameKind.free && X.env.scope.kind == .function && X.env.kindOf y == some .cell) = true then NameKind.cell else k := fun y => sQ scope.names
  have isFree : ∀ y, ((compEnvC scope cl C X.env).kindOf y = some .cell ∨ (compEnvC scope cl C X.env).kindOf y = some .free) → (y, NameKind.free) ∈ scope.names := fun y hy => by
    rw [kin y] at hy
    cases q : scope.names.lookup y with
    | none =>
      rw [q] at hy
      rcases hy with z | z <;> cases z
    | some k =>
      rw [q] at hy
      have hm := yJ q
      cases k with
      | free => exact hm
      | cell => exact absurd rfl (S.cell _ hm)
      | _ =>
        rcases hy with z | z
        · exact absurd (Option.some.inj z) (by simp)
        · exact absurd (Option.some.inj z) (by simp)
  have neFs : ∀ b, oA X pins H2 b → b ∉ sV X.stack := fun b f z => by
    rcases List.mem_cons.mp (I2.stkSub b z) with e | e
    · exact f.2.1 e
    · exact f.2.2.1 e
  have exs : ∀ b ∈ D :: fp, oA X pins H2 b := fun b hb => by
    rcases List.mem_cons.mp hb with e | e
    · rw [e]; exact fD
    · exact f2 b e
  have exlt : ∀ b ∈ D :: fp, b < C := fun b hb => by
    rcases List.mem_cons.mp hb with e | e
    · rw [e]; exact hDltC
    · exact Nat.lt_trans (fplt b e) hDltC
  have okY : (kS X scope cl C s3 H2 (D :: fp)).Ok :=
    { mod := I2.ok.mod, kind := S.kind, glob := I2.ok.glob, blt := I2.ok.blt, above := Nat.le_of_eq hCC
      inj := fun x y c h1 h2 => I2.ok.inj x y c (csound _ _ h1) (csound _ _ h2)
      has := fun y hy => by
        have z := qF (cells := X.env.cells) scope.names [] y (isFree y hy)
        rw [hcl] at z
        exact z
      cab := fun _ _ z => by cases z
      hd := I2.ok.hd, frames := I2.ok.frames, stk := .inl rfl
      exf := fun b hb => ⟨Nat.ne_of_lt (exlt b hb), fun x c e z => (exs b hb).2.2.2.2.1 x c (csound _ _ e) z⟩
      bs := I3.bs
      bsz := Nat.le_trans I2.ok.bsz I3.sz
      noex := fun b o e hb => by
        rcases (exs b hb).2.2.2.1 with z | z
        · exact I2.ok.noex b o e z
        · exact absurd (Nat.lt_of_lt_of_le (Heap.lt_size e) (Nat.le_trans I2.ok.bsz z)) (Nat.lt_irrefl _)
      exfs := fun b hb => neFs b (exs b hb)
      funs := I3.stack
      frf := I3.stkFree }
  have outP : ∀ p ∈ X.pn ++ pins, p.1 ≠ C ∧ p.1 ∉ sV X.stack ∧ p.1 ≠ D := fun p hp => by
    obtain ⟨e, n, ne, nf, d⟩ := I2.pin p hp
    have lt : p.1 < D := by rw [← hDD]; exact Heap.lt_size e
    refine ⟨Nat.ne_of_lt (Nat.lt_trans lt hDltC), fun z => ?_, Nat.ne_of_lt lt⟩
    rcases List.mem_cons.mp (I2.stkSub p.1 z) with q | q
    · exact ne q
    · exact nf q
  have I4 : Inv (kS X scope cl C s3 H2 (D :: fp)) (X.pn ++ pins) (clr ks σ) H2 { s3 with heap := h₁, toks := s3.toks + ([] : List (Str × Value)).length } := by
    refine ⟨okY, rfl, I3.bare, Un.kept old, ⟨_, hns₁, fun i x v e1 e2 e3 => ?_⟩, fun x c e => ?_, ?_, fun x c e => ?_, fun p hp => ?_, I3.hok.kept old, ?_⟩
    · obtain ⟨e2, nk⟩ := ao3 ks σ e2
      have hv : (compEnvC scope cl C X.env).kindOf x = some .cell ∨ (compEnvC scope cl C X.env).kindOf x = some .free := by
        rcases e3 with z | z | z
        · exfalso
          have z' : (compEnvC scope cl C X.env).kindOf x = some .local := z
          rw [kin x] at z'
          have hm : (x, i) ∈ X.N.zipIdx := by
            rw [List.mem_zipIdx_iff_getElem?]
            exact e1
          refine nk (S.slots (x, i) hm ?_)
          show scope.names.lookup x = some .local
          cases q : scope.names.lookup x with
          | none => rw [q] at z'; cases z'
          | some k =>
            rw [q] at z'
            have z2 := Option.some.inj z'
            cases k with
            | «local» => rfl
            | free =>
              exfalso
              dsimp only at z2
              split at z2 <;> cases z2
            | _ => exact absurd z2 (by simp)
        · exact .inl z
        · exact .inr z
      have hf := isFree x hv
      have hX := S.free (x, .free) hf rfl
      obtain ⟨m, hn, hl⟩ := I3.loc
      obtain ⟨u, r, lk⟩ := hl i x v e1 e2 (by rcases hX with z | z; exact .inr (.inl z); exact .inr (.inr z))
      refine ⟨u, r, .inr ⟨hv, ?_⟩⟩
      have z := qF (cells := X.env.cells) scope.names [] x hf
      rw [hcl] at z
      obtain ⟨c, hcx⟩ := z
      rcases lk with ⟨kl, _⟩ | ⟨_, c', e', z'⟩
      · have hX' : X.env.kindOf x = some .cell ∨ X.env.kindOf x = some .free := hX
        rw [kl] at hX'
        rcases hX' with z | z <;> cases z
      · have q := csound x c hcx
        rw [e'] at q
        cases q
        obtain ⟨o, ho, hd⟩ := z'
        exact ⟨c, hcx, o, old _ _ ho, hd⟩
    · obtain ⟨v, o, ho, hd⟩ := I3.cell x c (csound x c e)
      exact ⟨v, o, old _ _ ho, hd⟩
    · exact I3.hok.fresh (Nat.le_of_eq hCC)
    · exact I3.freeC x c (csound x c e)
    · have hp' : p ∈ X.pn ++ pins := hp
      obtain ⟨e, n, ne, nf, d⟩ := I3.pin p hp'
      exact ⟨old _ _ e, n, (outP p hp').1, (outP p hp').2.1, d⟩
    · rw [nI]
      exact I3.len
  have fpY : ∀ {pl : List (Addr × Obj)} {H' : Hp}, (∀ p ∈ pl, p.1 ∉ fp) → (∀ b ∈ fp, H' b = none) → ∀ b ∈ fp, oA (kS X scope cl C s3 H2 (D :: fp)) ((X.pn ++ pins) ++ pl) H' b := fun {pl H'} hpl hn b hb => by
    have f := f2 b hb
    refine ⟨hn b hb, Nat.ne_of_lt (exlt b (List.mem_cons_of_mem _ hb)), neFs b f, .inl (List.mem_cons_of_mem _ hb), fun x c e z => f.2.2.2.2.1 x c (csound x c e) z, fun p hp => ?_⟩
    have hp' : p ∈ (X.pn ++ pins) ++ pl := hp
    rcases List.mem_append.mp hp' with q | q
    · exact f.2.2.2.2.2 p q
    · exact fun z => hpl p q (by rw [z]; exact hb)
  have iI : ∀ s₅ : Shared, s₅ = { s3 with heap := h₁, toks := s3.toks + ([] : List (Str × Value)).length } →
      codeAny (model X.prog X.w) X.A (.compLoop (.ListComp elt [⟨tg, iter, ifs, 0⟩] scope pos) 0 (.ref it) (.ref D) (compEnvC scope cl C X.env)) (RR (.ref D) C) s₅ := by
    rintro s₅ rfl
    refine bu7 (fun n s' => ∃ i H' ys its nn, Inv (kS X scope cl C s3 H2 (D :: fp)) (X.pn ++ pins) (clr ks σ) H' s' ∧ tn i s'.heap ∧ (∀ b ∈ fp, H' b = none) ∧ H' D = none ∧ s'.heap.get? D = some { cls := .type "list", data := .seq its nn } ∧ Vals ys its.toList ∧ ys.length ≤ sizeLine ∧ W i n ys H') ?_ m0
      ⟨0, H2, [], #[], 0, I4, T.keep _ _ _ st2 (fun b hb o e => old _ _ (by rw [s3h]; exact Heap.get?_push_of_some _ e)), fun b hb => (f2 b hb).1, nD, old _ _ eD3, .nil, Nat.zero_le _, w0⟩
    rintro n s6 ⟨i, H6, ys, its, nn, I6, st6, fr6, nD6, eD6, rv6, hz6, w6⟩
    have I6' : Inv (kS X scope cl C s3 H2 (D :: fp)) ((X.pn ++ pins) ++ [(D, { cls := .type "list", data := .seq its nn })]) (clr ks σ) H6 s6 := I6.pins_of fun p hp => (List.mem_append.mp hp).elim (fun z => I6.pin p (List.mem_append_right _ z)) fun z => by
      obtain rfl := List.mem_singleton.mp z
      exact ⟨eD6, nD6, hDC, neFs D fD, fun v q => by cases q⟩
    have plD : ∀ p ∈ [((D, { cls := .type "list", data := .seq its nn }) : Addr × Obj)], p.1 ∉ fp := fun p hp => by
      obtain rfl := List.mem_singleton.mp hp
      exact hDfp
    rcases turn i n ys H6 w6 with ⟨stop, bL⟩ | ⟨go, hz, N, hN, step⟩
    · refine bS (T.done (kS X scope cl C s3 H2 (D :: fp)) rfl rfl rfl hc i _ s6 (clr ks σ) H6 _ I6' (fpY plD fr6) st6 stop) fun r s7 ⟨hr, I7⟩ => ?_
      subst hr
      have IX : Inv X pins σ H6 s7 := I3.call' (ch := D :: fp) I7.os I7.base I7.hok I7.bare fun b hb => ⟨(exs b hb).2.2.2.1, (exs b hb).2.1, (exs b hb).2.2.2.2.1, (exs b hb).2.2.2.2.2⟩
      have eD7 := (I7.pin (D, { cls := .type "list", data := .seq its nn }) (List.mem_append_right _ (List.mem_append_right _ (List.mem_singleton.mpr rfl)))).1
      have rv7 : Vals ys its.toList := rv6
      have IT : Inv X pins σ (upd H6 D (.lst ys)) s7 := IX.track (its := its.toList) (n := nn) nD6 (by
        have := I2.sz
        omega) fD.2.1 fD.2.2.2.2.1 fD.2.2.2.2.2 (by simpa using eD7) rv7 hz6
      obtain ⟨m7, hn7, _⟩ := I7.loc
      refine hRR D C s7 _ IT ⟨m7, hn7⟩ ⟨?_, fC.2⟩ (bL D nD6)
      rw [bY (Ne.symm hDC)]
      exact I7.free
    · refine bS (T.item (kS X scope cl C s3 H2 (D :: fp)) rfl rfl rfl hc i _ s6 (clr ks σ) H6 _ I6' (fpY plD fr6) st6 go) fun r s7 ⟨u, hr, h7⟩ => ?_
      subst hr
      refine bS h7 fun _ s8 ⟨x, H8, I8, r8, y8, st8, fr8⟩ => ?_
      have I8' := I8.pinned (fpY plD fr8) (T.obj _ _ st8)
      refine bS (hg cl C s3 H2 (D :: fp) s8 (clr ks σ) H8 x u _ I8' r8 (step x H8 y8)) fun _ s9 ⟨σ9, H9, I9, hE, q9⟩ => ?_
      refine bS (hi cl C s3 H2 (D :: fp) s9 σ9 H9 _ I9 q9) fun ok s10 ⟨H10, I10, q10⟩ => ?_
      have memD : (D, ({ cls := .type "list", data := .seq its nn } : Obj)) ∈ ([] : List (Addr × Obj)) ++ (((X.pn ++ pins) ++ [(D, { cls := .type "list", data := .seq its nn })]) ++ tI fp s8.heap) := List.mem_append_right _ (List.mem_append_left _ (List.mem_append_right _ (List.mem_singleton.mpr rfl)))
      have keepT : ∀ {σ' : St} {H' : Hp} {s' : Shared}, Inv (kS X scope cl C s3 H2 (D :: fp)) (((X.pn ++ pins) ++ [(D, { cls := .type "list", data := .seq its nn })]) ++ tI fp s8.heap) σ' H' s' → tn (i + 1) s'.heap ∧ (∀ b ∈ fp, H' b = none) := fun {σ' H' s'} I' =>
        ⟨T.keep _ _ _ st8 fun b hb o e => (I'.pin (b, o) (List.mem_append_right _ (List.mem_append_right _ (pY hb e)))).1, fun b hb => by
          obtain ⟨o, e, d⟩ := T.obj _ _ st8 b hb
          exact (I'.pin (b, o) (List.mem_append_right _ (List.mem_append_right _ (pY hb e)))).2.1⟩
      cases ok with
      | false =>
        obtain ⟨m', hm, w10⟩ := hN ys H10 q10
        obtain ⟨k1, k2⟩ := keepT I10
        obtain ⟨p1, p2, _⟩ := I10.pin _ memD
        exact ⟨m', hm, i + 1, H10, ys, its, nn, I10.unpinned.unpinned.weak (by rw [nI]; exact hE.1.symm) hE.2, k1, k2, p2, p1, rv6, hz6, w10⟩
      | true =>
        refine bS (he cl C s3 H2 (D :: fp) s10 σ9 H10 _ I10 q10) fun vv s11 ⟨v, H11, I11, r11, n11⟩ => ?_
        obtain ⟨m', hm, w11⟩ := hN _ _ n11
        obtain ⟨k1, k2⟩ := keepT I11
        obtain ⟨p1, p2, _⟩ := I11.pin _ memD
        have hlen : ys.length = its.size := by have := rv6.length; simpa using this
        refine call_meets PySem.F.slot_list_append ⟨_, p1, rfl⟩ PySem.F.entry_list_append (PySem.F.args_list_append_2 _ _) (PySem.list_append D its nn vv (by omega)) ⟨p1, ?_⟩
        have q := PySem.IsL.update p1 fun xs => xs.push vv
        refine ⟨m', hm, i + 1, H11, ys ++ [v], its.push vv, _, (I11.unpinned.unpinned.weak (by rw [nI]; exact hE.1.symm) hE.2).turned (fun b o hb e => (Heap.get?_update_other _ _ (Ne.symm hb)).trans e) p2 hDC (.inl List.mem_cons_self) (fun x c e z => fD.2.2.2.2.1 x c (csound x c e) z) (fun p hp => (outP p hp).2.2), ?_, k2, p2, q, ?_, ?_, w11⟩
        · refine T.keep _ _ _ k1 fun b hb o e => (Heap.get?_update_other _ _ ?_).trans e
          intro z
          exact hDfp (by rw [z]; exact hb)
        · have : (its.push vv).toList = its.toList ++ [vv] := by simp
          rw [this]
          exact rv6.append (.cons r11 .nil)
        · rw [List.length_append, List.length_singleton]
          omega
  have hCC' : (s2.heap.push { cls := .type "list", dict := none, data := .seq ([] : List Value).toArray }).objs.size = C := by rw [← s3h]; exact hCC
  rw [hCC']
  exact codeAny_compStart_list (iI _ (by rw [← hs3])) (T.self _ 0 _ _ _ (T.keep _ _ _ st2 (fun b hb o e => old _ _ (by rw [s3h]; exact Heap.get?_push_of_some _ e))) (iI _ (by rw [← hs3])))
theorem cm4(S:CScope X ks scope)(hc:X.calm=true)(hit:PI X tg iter wi)
 (hg:∀cl C s₀ H₀ ex,PG (kS X scope cl C s₀ H₀ ex) tg g)(hi:∀cl C s₀ H₀ ex,PIf (kS X scope cl C s₀ H₀ ex) ifs tc)(he:∀cl C s₀ H₀ ex,PE (kS X scope cl C s₀ H₀ ex) elt te)
 (hs:∀x,foldedSetIterable iter X.env x=pure x:=by intro _;rfl):PE X (.ListComp elt [⟨tg,iter,ifs,0⟩] scope pos) (bb4 ks wi g tc te):=by
 intro pins s σ H Q I h
 rw[eval_ListComp]
 refine wpAny_comprehension_free (use:=none) rfl hs (uW λx hx hk=>I.ok.has x.1 (S.free x hx hk)) S.kind S.names (bS (hit s σ H _ I h) λv s1 h1=>bS h1 λitv s2 h2=>?_)
 refine bz1 (RR:=λacc C=>compPost (model X.prog X.w) X.A X.xe none (EP X pins σ Q) acc C) S hc hg hi he h2 ?_
 rintro D C s' H' I' ⟨m,hn⟩ f q
 exact⟨m,hn,λh'' sb=>⟨.ref D,H',I'.turned (t':=s'.toks) (λb o hb e=>(sb.2 b hb).trans e) f.1 f.2.1 f.2.2.2.1 f.2.2.2.2.1 f.2.2.2.2.2,rfl,q⟩⟩
theorem br3(hN:X.N.Nodup)(hi':X.N[i]?=some y)(hy:Loc X.env.scope y)
 (S:CScope X ks scope)(hc:X.calm=true)(hit:PI X tg iter wi)
 (hg:∀cl C s₀ H₀ ex,PG (kS X scope cl C s₀ H₀ ex) tg g)(hi:∀cl C s₀ H₀ ex,PIf (kS X scope cl C s₀ H₀ ex) ifs tc)(he:∀cl C s₀ H₀ ex,PE (kS X scope cl C s₀ H₀ ex) elt te)
 (hsw:swapsWith (.ListComp elt [⟨tg,iter,ifs,0⟩] scope pos) (some (.Name y py)) spos.line X.env=pure true:=by rfl)
 (hs:∀x,foldedSetIterable iter X.env x=pure x:=by intro _;rfl)(hf:X.fn y=true\/X.env.scope.names.lookup y=some .local:=by first|exact .inl rfl|exact .inr rfl|assumption):
 PS X (.Assign [.Name y py] (.ListComp elt [⟨tg,iter,ifs,0⟩] scope pos) spos) (zP i ks wi g tc te):=by
 intro pins s σ H D I h
 rw[exec_Assign_Name_used _ _ _ _ hsw]
 refine wpAny_bind (wpAny_standAt (wpAny_bind ?_))
 show wpAny _ X.A (do let _<-comprehension (.ListComp elt [⟨tg,iter,ifs,0⟩] scope pos) scope X.env _ (newList []) false (eval iter X.env) (some (assign (.Name y py) X.env))) _ _ s
 refine wpAny_bind (wpAny_mono (wpAny_comprehension_free (use:=some (assign (.Name y py) X.env)) (Q:=λ_ s'=>SP X pins D .next s') rfl hs (uW λx hx hk=>I.ok.has x.1 (S.free x hx hk)) S.kind S.names
  (bS (hit s σ H _ I h) λv s1 h1=>bS h1 λitv s2 h2=>?_)) (λ_ s' hq=>wpAny_pure (wpAny_pure hq)) λ_ _ e=>e)
 refine bz1 (RR:=λacc C=>compPost (model X.prog X.w) X.A X.xe (some (assign (.Name y py) X.env)) (λ_ s'=>SP X pins D .next s') acc C) S hc hg hi he h2 ?_
 rintro L C s' H' I' ⟨m,hn⟩ f q
 show wpAny _ _ (assign (.Name y py) X.env (.ref L)) _ _ s'
 refine wpAny_assign_Name (au4 (v:=.ref L) I' hN hi' hy rfl (λs'' I'' hh=>?_) hf)
 obtain⟨a,sb,ha⟩:=hh
 have hCa:C≠a:=by
  rcases ha with e|e
  . rw[e];exact f.2.1
  . exact λz=>f.2.2.2.2.1 y a e z.symm
 exact⟨m,hn.sameBut sb hCa,λh'' sb'=>⟨_,H',I''.turned (t':=s''.toks) (λb o hb e=>(sb'.2 b hb).trans e) f.1 f.2.1 f.2.2.2.1 f.2.2.2.2.1 f.2.2.2.2.2,q⟩⟩
end
end L2
namespace L2
open PySem PySem.Spec PyProof.Rows
section
variable {X : Cx}
theorem bz7(hc:X.calm=true):CallR X (.builtin "max") (λxs H Q=>∃(p:Addr)(ns:List Int),xs=[.ref p]/\SqL X.K H p (ns.map V.int)/\ns≠[]/\∀M,M∈ns->(∀a∈ns,a<=M)->Q (.int M) H):=by
 intro pins s σ H xs us Q I r h
 obtain⟨p,ns,rfl,hp,hne,q⟩:=h
 obtain⟨u,rfl,ru⟩:=r.one
 obtain rfl:u=Value.ref p:=ru
 obtain⟨its,rv,pl,_⟩:=I.list hp
 have hi:IntsAre its ns:=as1 rv
 have hl:=pl.isList
 obtain⟨xs,e⟩:=hi.allInts.items
 have hns:ns=xs.toList.map (·.1):=by
  rw[<-hi.numsOf,<-nums_intItems,<-e]
 have hsz:0<xs.size:=by
  have h3:=List.length_pos_iff.mpr hne
  rw[hns,List.length_map,Array.length_toList]at h3
  exact h3
 rw[e]at hl
 refine max_intList (I.ok.hd hc) hl hsz λv h' tk hv hk=>?_
 obtain⟨t,rfl⟩:=intItems_at hv
 obtain⟨h1,h2⟩:=argBest_gt (numAt xs) (xs.size-1)
 refine⟨.int _,H,I.kept hk,⟨t,rfl⟩,q _ ?_ λa ha=>?_⟩
 . rw[hns,numAt_eq];exact getD_mem (by rw[List.length_map,Array.length_toList];omega)
 . rw[hns]at ha
   obtain⟨j,hj,rfl⟩:=mem_getD ha
   rw[List.length_map,Array.length_toList]at hj
   rw[<-numAt_eq];exact h2 j (by omega)
theorem bs5(hc:X.calm=true):CallR X (.builtin "min") (λxs H Q=>∃(p:Addr)(ns:List Int),xs=[.ref p]/\SqL X.K H p (ns.map V.int)/\ns≠[]/\∀M,M∈ns->(∀a∈ns,M<=a)->Q (.int M) H):=by
 intro pins s σ H xs us Q I r h
 obtain⟨p,ns,rfl,hp,hne,q⟩:=h
 obtain⟨u,rfl,ru⟩:=r.one
 obtain rfl:u=Value.ref p:=ru
 obtain⟨its,rv,pl,_⟩:=I.list hp
 have hi:IntsAre its ns:=as1 rv
 have hl:=pl.isList
 obtain⟨xs,e⟩:=hi.allInts.items
 have hns:ns=xs.toList.map (·.1):=by
  rw[<-hi.numsOf,<-nums_intItems,<-e]
 have hsz:0<xs.size:=by
  have h3:=List.length_pos_iff.mpr hne
  rw[hns,List.length_map,Array.length_toList]at h3
  exact h3
 rw[e]at hl
 refine min_intList (I.ok.hd hc) hl hsz λv h' tk hv hk=>?_
 obtain⟨t,rfl⟩:=intItems_at hv
 obtain⟨h1,h2⟩:=argBest_lt (numAt xs) (xs.size-1)
 refine⟨.int _,H,I.kept hk,⟨t,rfl⟩,q _ ?_ λa ha=>?_⟩
 . rw[hns,numAt_eq];exact getD_mem (by rw[List.length_map,Array.length_toList];omega)
 . rw[hns]at ha
   obtain⟨j,hj,rfl⟩:=mem_getD ha
   rw[List.length_map,Array.length_toList]at hj
   rw[<-numAt_eq];exact h2 j (by omega)
def cy1(K:PySem.W.Frag)(te:TE)(ts:TO):TE:=λσ H Q=>te σ H λx H1=>ts σ H1 λk H2=>k=some (-1)/\∃a xs,x=.ref a/\SqL K H2 a xs/\∀p,H2 p=none->Q (.ref p) (upd H2 p (.lst xs.reverse))
theorem cv7{e st:Expr}{te:TE}{ts:TO}{pos p2:Pos}(he:PE X e te)(hst:PO X (some st) ts)(hops:∀o i,subscripted (.Slice none none (some st) p2) false o i=operate [o,i] (getItem o i):=by intros;rfl):PE X (.Subscript e (.Slice none none (some st) p2) pos) (cy1 X.K te ts):=by
 intro pins s σ H Q I h
 refine Subscript_ (bS (he s σ H _ I h) λv s1 ⟨x,H1,I1,r1,q1⟩=>?_)
 refine wpAny_Slice ?_
 rw[evalPart_none]
 refine wpAny_pure (wpAny_pure (bS (hst s1 σ H1 _ I1 q1) λvs s2 ⟨k,H2,I2,pk,hk,a,xs,ex,hx,q⟩=>?_))
 subst ex
 subst hk
 cases r1
 have I3:Inv X pins σ H2 {s2 with heap:=s2.heap.push {cls:=.type "slice",data:=.fields #[.none,.none,vs]}}:=I2.kept (t':=s2.toks) λb ob q=>Heap.get?_push_of_some _ q
 obtain⟨its,rv,pl,hz⟩:=I3.list hx
 have hlen:=rv.length
 show wpAny (model X.prog X.w) X.A (subscriptTail e (.Slice none none (some st) p2) (.ref a) (.ref s2.heap.objs.size)) (EP X pins σ Q) X.xe {s2 with heap:=s2.heap.push {cls:=.type "slice",data:=.fields #[.none,.none,vs]}}
 refine tail_any (ops:=[.ref a,.ref s2.heap.objs.size]) pl.isList.typeIs slot_list_getitem.lookup (wpAny_getItem_list_slice pl.isList (Heap.IsSliceOf.new ..) .none .none pk (by decide) ?_ (by rw[List.size_toArray];omega)) (hops _ _)
 rw[PySem.W.krv_pick]
 have e2:its.toArray.toList.reverse.toArray=its.reverse.toArray:=by simp
 rw[e2]
 refine⟨.ref _,_,I3.laid (t':=s2.toks) (o:=.lst xs.reverse) (λb ob q=>Heap.get?_push_of_some _ q) (Nat.le_refl _) ?_,rfl,q _ (I3.hok.fresh (Nat.le_refl _))⟩
 exact⟨by rw[List.length_reverse];exact hz,_,0,rv.reverse,Heap.get?_push_size _ rfl⟩
end
section
variable {X : Cx}
end
end L2
namespace L2
open PySem PySem.Spec PyProof.Rows
def Its(z:Str):It:=⟨λi _=>i<z.cps.size,λi H x H'=>H'=H/\∃c,z.cps[i]?=some c/\x=.str ⟨#[c]⟩,λi _=>z.cps.size<=i⟩
theorem bx7(hQ:Q () s):wpAny M A (letOwnedTupleGo tg (.ref it) (.str x t)) Q E s:=by
 unfold letOwnedTupleGo
 cases tg<;>exact wpAny_pure hQ
theorem bg3{P:Program}{w:World}{K:PySem.W.Frag}{tg:Expr}(it:Addr)(z:Str)(t:Tok):wT P w K tg (Its z) [it] it (λi h=>h.IsStrIter it "str_ascii_iterator" z t i) where
 mem:=by simp
 obj:=λi h st b hb=>by
  have e:b=it:=by simpa using hb
  subst e
  obtain⟨o,e,c,d⟩:=st
  exact⟨o,e,λv q=>by rw[d]at q;cases q⟩
 keep:=λi h h' st k=>let⟨o,e,r⟩:=st;⟨o,k it (by simp) o e,r⟩
 item:=by
  intro X hP hw hK hc i pins s σ H E I hf st hg
  subst hP hw hK
  obtain⟨f0,f1,f2,f3,f4,f5⟩:=hf it (by simp)
  have hg':i<z.cps.size:=hg
  refine wpAny_pyNext_ascii_item st (c:=z.cps[i]) (by simp[hg']) λh' hit' hs'=>?_
  have I1:Inv X pins σ H {s with heap:=h',toks:=s.toks+1}:=I.turned (λb o hb e=>hs'.extBut b o hb e) f0 f1 f3 f4 f5
  exact⟨_,rfl,bx7 ⟨.str ⟨#[z.cps[i]]⟩,H,I1,⟨_,rfl⟩,⟨rfl,_,by simp[hg'],rfl⟩,hit',λb hb=>(hf b hb).1⟩⟩
 done:=by
  intro X hP hw hK hc i pins s σ H E I hf st hg
  subst hP hw hK
  obtain⟨f0,f1,f2,f3,f4,f5⟩:=hf it (by simp)
  have hg':z.cps.size<=i:=hg
  exact wpAny_pyNext_ascii_end (I.ok.hd hc) st (by simp[hg']) λh' he'=>⟨rfl,I.turned (t':=s.toks) (λb o hb e=>he' b o hb e) f0 f1 f3 f4 f5⟩
 self:=λ_ _ _ _ _ st h=>wpAny_pyIter_striter_ascii st h
theorem bb7{P:Program}{w:World}{K:PySem.W.Frag}{tg:Expr}(it:Addr)(z:Str)(t:Tok):wT P w K tg (Its z) [it] it (λi h=>h.IsStrIter it "str_iterator" z t i) where
 mem:=by simp
 obj:=λi h st b hb=>by
  have e:b=it:=by simpa using hb
  subst e
  obtain⟨o,e,c,d⟩:=st
  exact⟨o,e,λv q=>by rw[d]at q;cases q⟩
 keep:=λi h h' st k=>let⟨o,e,r⟩:=st;⟨o,k it (by simp) o e,r⟩
 item:=by
  intro X hP hw hK hc i pins s σ H E I hf st hg
  subst hP hw hK
  obtain⟨f0,f1,f2,f3,f4,f5⟩:=hf it (by simp)
  have hg':i<z.cps.size:=hg
  refine wpAny_pyNext_wide_item st (c:=z.cps[i]) (by simp[hg']) λh' hit' hs'=>?_
  have I1:Inv X pins σ H {s with heap:=h',toks:=s.toks+1}:=I.turned (λb o hb e=>hs'.extBut b o hb e) f0 f1 f3 f4 f5
  exact⟨_,rfl,bx7 ⟨.str ⟨#[z.cps[i]]⟩,H,I1,⟨_,rfl⟩,⟨rfl,_,by simp[hg'],rfl⟩,hit',λb hb=>(hf b hb).1⟩⟩
 done:=by
  intro X hP hw hK hc i pins s σ H E I hf st hg
  subst hP hw hK
  obtain⟨f0,f1,f2,f3,f4,f5⟩:=hf it (by simp)
  have hg':z.cps.size<=i:=hg
  exact wpAny_pyNext_wide_end (I.ok.hd hc) st (by simp[hg']) λh' he'=>⟨rfl,I.turned (t':=s.toks) (λb o hb e=>he' b o hb e) f0 f1 f3 f4 f5⟩
 self:=λ_ _ _ _ _ st h=>wpAny_pyIter_striter_wide st h
section
variable {X : Cx}
def ci9:V->Option Int->Option Int->Hp->VK->Prop:=λx lo hi H Q=>∃z,x=.str z/\z.length<=sizeLine/\Q (.str (Txt.slice z lo hi)) H
theorem cs8:SlR X ci9:=by
 intro pins s σ H x v vl vu lo hi sl Q I rx hs pl pu h
 obtain⟨z,rfl,hz,q⟩:=h
 obtain⟨t,rfl⟩:=rx
 refine⟨"str",_,F.slot_str_getitem.lookup,typeIs_str s z t,?_⟩
 obtain⟨o,e,c,d⟩:=hs
 have go:∀(l u:Option (Int×Tok)),vl=partValue l->vu=partValue u->lo=l.map (·.1)->hi=u.map (·.1)->wpAny (model X.prog X.w) X.A (getItem (.str z t) (.ref sl)) (EP X pins σ Q) X.xe s:=by
  rintro l u rfl rfl rfl rfl
  refine wpAny_getItem_str_slice (l:=l) (u:=u) (st:=none) ⟨o,e,c,d⟩ rfl ?_
  unfold sliceMade
  unfold Txt.slice at q
  have e1:((((none:Option (Int×Tok)).map (·.1)).getD 1==1&&(slicePicked z l u none).length==z.length)=true)=(((1:Int)==1&&(Builtin.Str.strSliceIndices (l.map (·.1)) (u.map (·.1)) 1 z.length).length==z.length)=true):=rfl
  split
  . rename_i hh
    rw[if_pos (e1▸hh)]at q
    exact⟨.str z,H,I,⟨t,rfl⟩,q⟩
  . rename_i hh
    rw[if_neg (e1▸hh)]at q
    refine⟨Nat.le_trans (Nat.le_trans (List.length_filterMap_le _ _) (sliceIndices_le _ _ _)) hz,.str _,H,I.tok _,⟨_,rfl⟩,q⟩
 cases pl with
 |none=>
  cases pu with
  |none=>exact go none none rfl rfl rfl rfl
  |int j u=>exact go none (some (j,u)) rfl rfl rfl rfl
 |int i t'=>
  cases pu with
  |none=>exact go (some (i,t')) none rfl rfl rfl rfl
  |int j u=>exact go (some (i,t')) (some (j,u)) rfl rfl rfl rfl
theorem aa5:∀{ys:List Str}{us:List Value},Vals (ys.map V.str) us->StrsAre us ys
 |[],_,.nil=>.nil
 |y::ys,_,.cons r t=>by
  obtain⟨k,rfl⟩:=r
  exact .cons _ _ (aa5 t)
def bd4(K:PySem.W.Frag):V->List V->Hp->VK->Prop:=λx vs H Q=>∃(z:Str)(p:Addr)(ys:List Str),x=.str z/\vs=[.ref p]/\SqL K H p (ys.map V.str)/\(ys.map (·.length)).sum+ys.length*z.length<=16777216/\Q (.str (Txt.join z ys)) H
theorem cx5:MtR X "str.join" (bd4 X.K):=by
 intro pins s σ H x xs v us Q I rx rv h
 obtain⟨z,p,ys,rfl,rfl,hp,hz,q⟩:=h
 obtain⟨t,rfl⟩:=rx
 obtain⟨u,rfl,ru⟩:=rv.one
 obtain rfl:u=Value.ref p:=ru
 obtain⟨its,r,pl,_⟩:=I.list hp
 exact join_list pl.isList (by simpa using aa5 r) hz λt' k=>⟨.str _,H,I.tok _,⟨_,rfl⟩,q⟩
end
end L2
namespace L2
open PySem PySem.Spec PyProof.Rows
section
variable {X : Cx}
def dm2:R2:=λx y H Q=>∃i j,x=.str i/\y=.str j/\i.length+j.length<=sizeLine/\Q (.str (i++j)) H
def ci7(K:PySem.W.Frag):List V->Hp->VK->Prop:=λxs H Q=>∃x n,xs=[x]/\dd1 K x H n/\Q (.int n) H
def cu8:List V->Hp->VK->Prop:=λxs H Q=>∃i,xs=[.int i]/\Q (.int (if i<0 then -i else i)) H
def be2:List V->Hp->VK->Prop:=λxs H Q=>∃i j,xs=[.int i,.int j]/\sF i j/\∀p,H p=none->Q (.ref p) (upd H p (.tup [.int (i/j),.int (i%j)]))
def ds6(K:PySem.W.Frag):List V->Hp->VK->Prop:=λxs H Q=>∃x T tx b,xs=[x,.ty T]/\TyN K H x tx/\fB tx T b/\Q (.bl b) H
def cw9(K:PySem.W.Frag):List V->Hp->VK->Prop:=λxs H Q=>∃(p:Addr)(bs:List Bool),xs=[.ref p]/\SqL K H p (bs.map V.bl)/\Q (.bl (bs.all id)) H
def cy8(K:PySem.W.Frag):List V->Hp->VK->Prop:=λxs H Q=>∃(p:Addr)(bs:List Bool),xs=[.ref p]/\SqL K H p (bs.map V.bl)/\Q (.bl (bs.any id)) H
def dg5:List V->Hp->VK->Prop:=λxs H Q=>∃i j,xs=[.int i,.int j]/\Q (.int (if j>i then j else i)) H
def di4:List V->Hp->VK->Prop:=λxs H Q=>∃i j,xs=[.int i,.int j]/\Q (.int (if j<i then j else i)) H
def dz3(K:PySem.W.Frag):List V->Hp->VK->Prop:=λxs H Q=>∃(p:Addr)(ns:List Int),xs=[.ref p]/\SqL K H p (ns.map V.int)/\ns≠[]/\∀M,M∈ns->(∀a∈ns,a<=M)->Q (.int M) H
def dr3(K:PySem.W.Frag):List V->Hp->VK->Prop:=λxs H Q=>∃(p:Addr)(ns:List Int),xs=[.ref p]/\SqL K H p (ns.map V.int)/\ns≠[]/\∀M,M∈ns->(∀a∈ns,M<=a)->Q (.int M) H
def bl9(K:PySem.W.Frag):List V->Hp->VK->Prop:=λxs H Q=>dg5 xs H Q\/dz3 K xs H Q
def ca0(K:PySem.W.Frag):List V->Hp->VK->Prop:=λxs H Q=>di4 xs H Q\/dr3 K xs H Q
theorem bz6(hc:X.calm=true:=by rfl):CallR X (.builtin "max") (bl9 X.K):=(bo6 hc).or (bz7 hc)
theorem bm5(hc:X.calm=true:=by rfl):CallR X (.builtin "min") (ca0 X.K):=(bt6 hc).or (bs5 hc)
theorem uO(hm:X.mg x=none)(hv:bootBuiltins x=some (.type ty))(hg:Gl X x:=by rfl)(hn:x≠"__name__":=by decide)(hd:(x==("__debug__":Str))=false:=by decide):PE X (.Name x pos) (tC (.ty ty)):=
 cv6 (v:=.ty ty) hg hm hv rfl hn hd
def tO(mg:Str->Option Value)(x:Str)(v:V):Prop:=∃u,mg x=some u/\RelV v u
theorem gR(h:tO X.mg x v)(hg:Gl X x:=by rfl)(hd:(x==("__debug__":Str))=false:=by decide):PE X (.Name x pos) (tC v):=by
 obtain⟨u,hm,r⟩:=h
 exact cz3 hg hm r hd
end
theorem cY:bootBuiltins "len"=some (.builtin "len"):=PySem.boot_len
theorem ad9:bootBuiltins "abs"=some (.builtin "abs"):=by decide+kernel
theorem bv5:bootBuiltins "divmod"=some (.builtin "divmod"):=by decide+kernel
theorem gG:bootBuiltins "isinstance"=some (.builtin "isinstance"):=by decide+kernel
theorem qU:bootBuiltins "all"=some (.builtin "all"):=by decide+kernel
theorem dp1:bootBuiltins "any"=some (.builtin "any"):=by decide+kernel
theorem wN:bootBuiltins "max"=some (.builtin "max"):=by decide+kernel
theorem qZ:bootBuiltins "min"=some (.builtin "min"):=by decide+kernel
theorem bw7:bootBuiltins "int"=some (.type "int"):=by decide+kernel
theorem ac3:bootBuiltins "bool"=some (.type "bool"):=by decide+kernel
theorem cm7:bootBuiltins "str"=some (.type "str"):=by decide+kernel
theorem hU:bootBuiltins "list"=some (.type "list"):=by decide+kernel
theorem ck2:bootBuiltins "tuple"=some (.type "tuple"):=by decide+kernel
section
variable {t u : TS} {D : zH} {σ : St} {H : Hp} {te ta tb tc : TE} {g : TG} {i : Nat} {v : V} {Q : VK} {c : TT} {K : PySem.W.Frag} {r r' : R2}
end
end L2
namespace L2
open PySem PySem.Spec PyProof.Rows
structure eC (K:PySem.W.Frag) (mg:Str->Option Value) (x:Str) (st:Stmt):Prop where
 ex:∃f fd,Fun K x x st f fd/\mg x=some (.ref f)
theorem cc9{K:PySem.W.Frag}{h:Heap}{mg:Str->Option Value}(X:K.In h)(G:h.Ns mainGlobals mg){x:Str}{st:Stmt}{f:Addr}{oc:Value}{od an:Option Addr}{osl:Array (Option Value)}{kV doc pm cdv ct:Value}
 (a:PySem.W.nsIn K mainGlobals x=some (some (.ref f)))(l:K.lookup f=some ⟨oc,od,.func (PySem.W.fnOf x x (hV st) (cZ st) (aN st) .none kV doc pm an cdv ct),osl⟩)
 (c:PySem.W.codeIn K cdv x=true)(k:PySem.W.keepIn K (.ref f)=true):eC K mg x st:=⟨f,_,aj1 l c k,PySem.W.mg_of X G a⟩
theorem ch7{K:PySem.W.Frag}{h:Heap}{mg:Str->Option Value}(X:K.In h)(G:h.Ns mainGlobals mg){x:Str}{v:V}{u:Value}(a:PySem.W.nsIn K mainGlobals x=some (some u))(r:RelV v u):tO mg x v:=⟨u,PySem.W.mg_of X G a,r⟩
section
variable {P : Program} {w : World} {K : PySem.W.Frag} {mg : Str → Option Value} {base : Heap}
end
theorem bu3(h:Builtin.Int.intBits a+Builtin.Int.intBits b<=134217728):IntMulOk a b:=by
 have e:(2:Nat)^27=134217728:=by decide
 have h:Builtin.Int.intTooBig (Builtin.Int.intBits a+Builtin.Int.intBits b)=false:=by
  unfold Builtin.Int.intTooBig bitsLine
  exact decide_eq_false (by omega)
 unfold IntMulOk
 rw[h]
 simp
theorem cp4(h1:-(2^64)<b)(h2:b<2^64):IntMulOk a b:=IntMulOk.of_right (intBits_le_64 h1 h2)
theorem co4(h1:-(2^64)<a)(h2:a<2^64):IntMulOk a b:=IntMulOk.of_left (intBits_le_64 h1 h2)
end L2
namespace L2
open PySem PySem.Spec PyProof.Rows
def SI(k:Bool)(h:Heap)(it l:Addr)(i:Nat):Prop:=∃o,h.get? it=some o/\o.cls=.type (cond k "tuple_iterator" "list_iterator")/\o.data=.fields #[.ref l,.int i 0]
def SQ(k:Bool)(h:Heap)(l:Addr)(us:Array Value):Prop:=∃o,h.get? l=some o/\o.cls=.type (cond k "tuple" "list")/\∃n,o.data=.seq us n
theorem SI.at(x:SI k h it l i)(e:∀o,h.get? it=some o->h'.get? it=some o):SI k h' it l i:=by
 obtain⟨o,ho,r⟩:=x
 exact⟨o,e o ho,r⟩
theorem SQ.at(x:SQ k h l us)(e:∀o,h.get? l=some o->h'.get? l=some o):SQ k h' l us:=by
 obtain⟨o,ho,r⟩:=x
 exact⟨o,e o ho,r⟩
section
variable {prog : Program} {w : World} {A : Around} {E : Value → Shared → Prop} {s : Shared}
theorem xA(hit:SI k s.heap it l i)(hl:SQ k s.heap l us)(hx:us[i]?=some x)
 (hQ:∀h',SI k h' it l (i+1)->Heap.SameBut it s.heap h'->Q x {s with heap:=h'}):wpAny (model prog w) A (Builtin.SmallTypes.nextOf (.ref it)) Q E s:=by
 cases k with
 |false=>exact wpAny_nextOf_list_item hit hl hx hQ
 |true=>
  obtain⟨o,ho,hc,hd⟩:=hit
  obtain⟨ol,hol,_,nl,hdl⟩:=hl
  have hT:s.TypeIs (.ref it) "tuple_iterator":=⟨o,ho,hc⟩
  unfold Builtin.SmallTypes.nextOf
  refine wpAny_bind (wpAny_callSpecial?_slot (name:=Str.ofString "__next__") hT F.slot_tuple_iterator_next (wpAny_call_entry F.slot_tuple_iterator_next hT F.entry_tuple_iterator_next ?_ (F.args_tuple_iterator_next_1 _)))
  (show wpAny _ _ (field (.ref it) 0>>=_) _ _ s);refine wpAny_bind (wpAny_field ho hd (x:=.ref l) rfl ?_)
  (show wpAny _ _ (if(Value.ref l==Value.none)=true then _ else _) _ _ s);rw[if_neg (show¬((Value.ref l==Value.none)=true) from Bool.false_ne_true)]
  (show wpAny _ _ (field (.ref it) 1>>=_) _ _ s);refine wpAny_bind (wpAny_field ho hd (x:=.int i 0) rfl ?_)
  (show wpAny _ _ (seqItems? (.ref l)>>=_) _ _ s);refine wpAny_bind (wpAny_seqItems hol hdl ?_)
  simp only[Int.toNat_natCast,hx];refine wpAny_bind (wpAny_setField ho hd (by simp) (wpAny_pure ⟨x,rfl,wpAny_pure (hQ _ ?_ (Heap.SameBut.update ..))⟩))
  refine⟨_,Heap.get?_update_self _ ho (Obj.isFreed_of_fields (Obj.data_mapFields hd _)),(Obj.cls_mapFields ..).trans hc,?_⟩
  rw[Obj.data_mapFields hd];simp[rawInt]
theorem ac9(hh:A.handled=none)(hit:SI k s.heap it l i)(hl:SQ k s.heap l us)(hx:us[i]?=none)
 (hE:∀h' e,Heap.ExtBut it s.heap h'->(∃o,h'.get? e=some o/\o.cls=.type "StopIteration")->E (.ref e) {s with heap:=h'}):wpAny (model prog w) A (Builtin.SmallTypes.nextOf (.ref it)) Q E s:=by
 cases k with
 |false=>exact wpAny_nextOf_list_end hh hit hl hx hE
 |true=>
  obtain⟨o,ho,hc,hd⟩:=hit
  obtain⟨ol,hol,_,nl,hdl⟩:=hl
  have hT:s.TypeIs (.ref it) "tuple_iterator":=⟨o,ho,hc⟩
  unfold Builtin.SmallTypes.nextOf
  refine wpAny_bind (wpAny_callSpecial?_slot (name:=Str.ofString "__next__") hT F.slot_tuple_iterator_next (wpAny_call_entry F.slot_tuple_iterator_next hT F.entry_tuple_iterator_next ?_ (F.args_tuple_iterator_next_1 _)))
  (show wpAny _ _ (field (.ref it) 0>>=_) _ _ s);refine wpAny_bind (wpAny_field ho hd (x:=.ref l) rfl ?_)
  (show wpAny _ _ (if(Value.ref l==Value.none)=true then _ else _) _ _ s);rw[if_neg (show¬((Value.ref l==Value.none)=true) from Bool.false_ne_true)]
  (show wpAny _ _ (field (.ref it) 1>>=_) _ _ s);refine wpAny_bind (wpAny_field ho hd (x:=.int i 0) rfl ?_)
  (show wpAny _ _ (seqItems? (.ref l)>>=_) _ _ s);refine wpAny_bind (wpAny_seqItems hol hdl ?_)
  simp only[Int.toNat_natCast,hx];refine wpAny_bind (wpAny_rule (wpAny_bind (wpAny_setField ho hd (by simp) ?_)))
  (show wpAny _ _ (newExc (.type "StopIteration") []>>=_) _ _ _);refine wpAny_bind ?_;simp only[newExc,newTuple]
  refine wpAny_bind (wpAny_newObj_type ?_ (by size_fits));refine wpAny_bind (m:=firstArgMember _ _) (wpAny_of_eq (a:=Value.none) (by first|rfl|(simp only[firstArgMember];rfl)) ?_)
  refine wpAny_newObj_type ?_ (by size_fits);simp only[raiseNew];refine wpAny_bind (wpAny_handled ?_)
  first|rw[show A.in1.handled=none from hh]|rw[hh]
  refine wpAny_bind (wpAny_pure (wpAny_throw ?_));exact hE _ _ (((Heap.SameBut.update ..).extBut.push _).push _) ⟨_,Heap.get?_push_size _ rfl,rfl⟩
theorem ai8(hl:SQ k s.heap l us)
 (hQ:Q (.ref s.heap.objs.size) {s with heap:=s.heap.push {cls:=.type (cond k "tuple_iterator" "list_iterator"),data:=.fields #[.ref l,.int 0 0]}}):wpAny (model prog w) A (pyIter (.ref l)) Q E s:=by
 cases k with
 |false=>exact wpAny_pyIter_list hl hQ
 |true=>exact wpAny_pyIter_tuple hl hQ
theorem ce0{k1 k2:Bool}{z TI TO i1 i2 l1 l2:Addr}{i:Nat}{us vs:Array Value}{x y a b:Value}{Q:Option Value->Shared->Prop}(D:ZipApart z TI TO i1 i2 l1 l2)
 (hz:IsZip s.heap z TI TO .none)(hTI:IsPair s.heap TI (.ref i1) (.ref i2))(hTO:IsPair s.heap TO a b)(n1:SI k1 s.heap i1 l1 i)(n2:SI k2 s.heap i2 l2 i)(q1:SQ k1 s.heap l1 us)(q2:SQ k2 s.heap l2 vs)(hx:us[i]?=some x)(hy:vs[i]?=some y)
 (hQ:∀h',IsZip h' z TI TO (rawInt s.heap.objs.size)->IsPair h' TO x y->SI k1 h' i1 l1 (i+1)->SI k2 h' i2 l2 (i+1)->IsPair h' s.heap.objs.size x y->
  (∀c o,c≠z->c≠TO->c≠i1->c≠i2->s.heap.get? c=some o->h'.get? c=some o)->Q (some (.ref s.heap.objs.size)) {s with heap:=h'}):
 wpAny (model prog w) A (pyNext (.ref z)) Q E s:=by
 have hT:s.TypeIs (.ref z) "zip":=⟨_,hz,rfl⟩
 unfold pyNext
 refine wpAny_bind (wpAny_attempt (wpAny_callSpecial?_slot (name:=Str.ofString "__next__") hT F.slot_zip_next (wpAny_call_entry F.slot_zip_next hT F.entry_zip_next ?_ (F.args_zip_next_1 _))))
 (show wpAny _ _ (field (.ref z) 2>>=_) _ _ _);refine wpAny_bind (wpAny_field hz rfl (x:=.bool false) rfl ?_)
 (show wpAny _ _ (field (.ref z) 3>>=_) _ _ _);refine wpAny_bind (wpAny_field hz rfl (x:=.ref TI) rfl ?_)
 refine wpAny_bind (wpAny_seqItems hTI rfl ?_);(show wpAny _ _ (Builtin.SmallTypes.ownedTupleIsFree (.ref z)>>=_) _ _ _)
 refine wpAny_bind ?_;unfold Builtin.SmallTypes.ownedTupleIsFree
 refine wpAny_bind (wpAny_field hz rfl (x:=.none) rfl (wpAny_pure ?_));simp only[if_true]
 refine wpAny_bind (wpAny_rule ?_);refine wpAny_bind (wpAny_field hz rfl (x:=.ref TO) rfl ?_)
 refine wpAny_bind (wpAny_setField_rec hz (by simp) λh₁ hz₁ g1=>?_)
 replace hz₁:IsZip h₁ z TI TO .ellipsis:=hz₁
 refine wpAny_bind ?_;simp only[List.zipIdx_cons,List.zipIdx_nil,List.forIn_cons,List.forIn_nil]
 refine wpAny_bind (wpAny_bind (wpAny_onRaise ?_));(show wpAny _ _ (Builtin.SmallTypes.nextOf (.ref i1)>>=_) _ _ _)
 refine wpAny_bind (xA (n1.at λo e=>g1.extBut _ _ D.i1z e) (q1.at λo e=>g1.extBut _ _ D.l1z e) hx λh₂ n1' g2=>wpAny_pure ?_)
 have t2:IsPair h₂ TO a b:=g2.extBut _ _ D.TOi1 (g1.extBut _ _ D.TOz hTO)
 refine wpAny_bind (wpAny_seqItems t2 rfl ?_);refine wpAny_bind (wpAny_updateSeq_pair t2 λh₃ t3 g3=>?_)
 replace t3:IsPair h₃ TO x b:=t3
 refine wpAny_bind (wpAny_letGo (wpAny_pure ?_));refine wpAny_bind (wpAny_bind (wpAny_onRaise ?_));(show wpAny _ _ (Builtin.SmallTypes.nextOf (.ref i2)>>=_) _ _ _)
 refine wpAny_bind (xA (n2.at λo e=>g3.extBut _ _ D.TOi2.symm (g2.extBut _ _ D.i12.symm (g1.extBut _ _ D.i2z e))) (q2.at λo e=>g3.extBut _ _ D.l2TO (g2.extBut _ _ D.l2i1 (g1.extBut _ _ D.l2z e))) hy λh₄ n2' g4=>wpAny_pure ?_)
 have t4:IsPair h₄ TO x b:=g4.extBut _ _ D.TOi2 t3
 refine wpAny_bind (wpAny_seqItems t4 rfl ?_);refine wpAny_bind (wpAny_updateSeq_pair t4 λh₅ t5 g5=>?_)
 replace t5:IsPair h₅ TO x y:=t5
 refine wpAny_bind (wpAny_letGo (wpAny_pure (wpAny_pure ?_)));refine wpAny_bind (wpAny_seqItems t5 rfl ?_);refine wpAny_bind (wpAny_newTuple ?_)
 have hsz:h₅.objs.size=s.heap.objs.size:=by rw[g5.1,g4.1,g3.1,g2.1,g1.1]
 have z5:IsZip h₅ z TI TO .ellipsis:=g5.extBut _ _ D.TOz.symm (g4.extBut _ _ D.i2z.symm (g3.extBut _ _ D.TOz.symm (g2.extBut _ _ D.i1z.symm hz₁)))
 have m1:SI k1 h₅ i1 l1 (i+1):=n1'.at λo e=>g5.extBut _ _ D.TOi1.symm (g4.extBut _ _ D.i12 (g3.extBut _ _ D.TOi1.symm e))
 have m2:SI k2 h₅ i2 l2 (i+1):=n2'.at λo e=>g5.extBut _ _ D.TOi2.symm e
 have zlt:z<h₅.objs.size:=Heap.lt_size z5
 (show wpAny _ _ (Builtin.SmallTypes.ownedTupleHandOut (.ref z) (.ref h₅.objs.size)>>=_) _ _ _);refine wpAny_bind ?_;unfold Builtin.SmallTypes.ownedTupleHandOut
 have z6:IsZip (h₅.push {cls:=.type "tuple",data:=.seq #[x,y]}) z TI TO .ellipsis:=Heap.get?_push_of_some _ z5
 refine wpAny_bind (wpAny_setField_rec z6 (by simp) λh₇ z7 g7=>?_)
 replace z7:IsZip h₇ z TI TO (rawInt h₅.objs.size):=z7
 refine wpAny_setField_rec z7 (by simp) λh₈ z8 g8=>?_
 replace z8:IsZip h₈ z TI TO (rawInt h₅.objs.size):=z8
 have up:∀c o,c≠z->h₅.get? c=some o->h₈.get? c=some o:=λc o c1 e=>g8.extBut _ _ c1 (g7.extBut _ _ c1 (Heap.get?_push_of_some _ e))
 have t8:IsPair h₈ h₅.objs.size x y:=g8.extBut _ _ (Nat.ne_of_gt zlt) (g7.extBut _ _ (Nat.ne_of_gt zlt) (Heap.get?_push_size _ rfl))
 rw[hsz]at z8 t8
 refine wpAny_pure ⟨_,rfl,?_⟩
 (show wpAny _ _ _ _ _ _);refine wpAny_pure ?_
 show Q (some (.ref h₅.objs.size)) _
 rw[hsz]
 refine hQ h₈ z8 (up _ _ D.TOz t5) (m1.at λo e=>up _ o D.i1z e) (m2.at λo e=>up _ o D.i2z e) t8 λc o c1 c2 c3 c4 e=>up c o c1 ?_
 exact g5.extBut _ _ c2 (g4.extBut _ _ c4 (g3.extBut _ _ c2 (g2.extBut _ _ c3 (g1.extBut _ _ c1 e))))
theorem cs0{k1 k2:Bool}{z TI TO i1 i2 l1 l2:Addr}{i:Nat}{us vs:Array Value}{a b:Value}{Q:Option Value->Shared->Prop}(hh:A.handled=none)(D:ZipApart z TI TO i1 i2 l1 l2)
 (hz:IsZip s.heap z TI TO .none)(hTI:IsPair s.heap TI (.ref i1) (.ref i2))(hTO:IsPair s.heap TO a b)(n1:SI k1 s.heap i1 l1 i)(n2:SI k2 s.heap i2 l2 i)(q1:SQ k1 s.heap l1 us)(q2:SQ k2 s.heap l2 vs)(hend:us[i]?=none\/vs[i]?=none)
 (hQ:∀h',(∀c o,c≠z->c≠TO->c≠i1->c≠i2->s.heap.get? c=some o->h'.get? c=some o)->Q none {s with heap:=h'}):
 wpAny (model prog w) A (pyNext (.ref z)) Q E s:=by
 have hT:s.TypeIs (.ref z) "zip":=⟨_,hz,rfl⟩
 unfold pyNext
 have bL:∀h' e,(∀c o,c≠z->c≠TO->c≠i1->c≠i2->s.heap.get? c=some o->h'.get? c=some o)->(∃o,h'.get? e=some o/\o.cls=.type "StopIteration")->
  wpAny (model prog w) A (do if(<-isInstance (.ref e) (.type "StopIteration"))=true then pure none else throw (.ref e)) Q E {s with heap:=h'}:=λh' e hk ⟨o,ho,hc⟩=>
  wpAny_bind (wpAny_isInstance (T:="StopIteration") (b:=true) ⟨o,ho,hc⟩ isSubtype_stop (wpAny_pure (hQ _ hk)))
 refine wpAny_bind (wpAny_attempt (wpAny_callSpecial?_slot (name:=Str.ofString "__next__") hT F.slot_zip_next (wpAny_call_entry F.slot_zip_next hT F.entry_zip_next ?_ (F.args_zip_next_1 _))))
 (show wpAny _ _ (field (.ref z) 2>>=_) _ _ _);refine wpAny_bind (wpAny_field hz rfl (x:=.bool false) rfl ?_)
 (show wpAny _ _ (field (.ref z) 3>>=_) _ _ _);refine wpAny_bind (wpAny_field hz rfl (x:=.ref TI) rfl ?_)
 refine wpAny_bind (wpAny_seqItems hTI rfl ?_);(show wpAny _ _ (Builtin.SmallTypes.ownedTupleIsFree (.ref z)>>=_) _ _ _)
 refine wpAny_bind ?_;unfold Builtin.SmallTypes.ownedTupleIsFree
 refine wpAny_bind (wpAny_field hz rfl (x:=.none) rfl (wpAny_pure ?_));simp only[if_true]
 refine wpAny_bind (wpAny_rule ?_);refine wpAny_bind (wpAny_field hz rfl (x:=.ref TO) rfl ?_)
 refine wpAny_bind (wpAny_setField_rec hz (by simp) λh₁ hz₁ g1=>?_)
 replace hz₁:IsZip h₁ z TI TO .ellipsis:=hz₁
 refine wpAny_bind ?_;simp only[List.zipIdx_cons,List.zipIdx_nil,List.forIn_cons,List.forIn_nil]
 refine wpAny_bind (wpAny_bind (wpAny_onRaise ?_));(show wpAny _ _ (Builtin.SmallTypes.nextOf (.ref i1)>>=_) _ _ _)
 have p1:SI k1 h₁ i1 l1 i:=n1.at λo e=>g1.extBut _ _ D.i1z e
 have p2:SQ k1 h₁ l1 us:=q1.at λo e=>g1.extBut _ _ D.l1z e
 cases hx:us[i]? with
 |none=>
  refine wpAny_bind (ac9 hh p1 p2 hx λh₂ e g2 he=>?_)
  obtain⟨oe,hoe,hce⟩:=he
  have z2:IsZip h₂ z TI TO .ellipsis:=g2 _ _ D.i1z.symm hz₁
  have hez:e≠z:=λq=>by subst q;rw[z2]at hoe;cases hoe;simp at hce
  refine wpAny_setField_rec z2 (by simp) λh₃ _ g3=>?_
  exact bL h₃ e (λc o c1 _ c3 _ q=>g3.extBut _ _ c1 (g2 _ _ c3 (g1.extBut _ _ c1 q))) ⟨oe,g3.extBut _ _ hez hoe,hce⟩
 |some x=>
  have hy:vs[i]?=none:=by
   rcases hend with h|h
   . rw[hx]at h;cases h
   . exact h
  refine wpAny_bind (xA p1 p2 hx λh₂ n1' g2=>wpAny_pure ?_)
  have t2:IsPair h₂ TO a b:=g2.extBut _ _ D.TOi1 (g1.extBut _ _ D.TOz hTO)
  refine wpAny_bind (wpAny_seqItems t2 rfl ?_);refine wpAny_bind (wpAny_updateSeq_pair t2 λh₃ t3 g3=>?_)
  refine wpAny_bind (wpAny_letGo (wpAny_pure ?_));refine wpAny_bind (wpAny_bind (wpAny_onRaise ?_));(show wpAny _ _ (Builtin.SmallTypes.nextOf (.ref i2)>>=_) _ _ _)
  refine wpAny_bind (ac9 hh (n2.at λo e=>g3.extBut _ _ D.TOi2.symm (g2.extBut _ _ D.i12.symm (g1.extBut _ _ D.i2z e))) (q2.at λo e=>g3.extBut _ _ D.l2TO (g2.extBut _ _ D.l2i1 (g1.extBut _ _ D.l2z e))) hy λh₄ e g4 he=>?_)
  obtain⟨oe,hoe,hce⟩:=he
  have z4:IsZip h₄ z TI TO .ellipsis:=g4 _ _ D.i2z.symm (g3.extBut _ _ D.TOz.symm (g2.extBut _ _ D.i1z.symm hz₁))
  have hez:e≠z:=λq=>by subst q;rw[z4]at hoe;cases hoe;simp at hce
  refine wpAny_setField_rec z4 (by simp) λh₅ _ g5=>?_
  exact bL h₅ e (λc o c1 c2 c3 c4 q=>g5.extBut _ _ c1 (g4 _ _ c4 (g3.extBut _ _ c2 (g2.extBut _ _ c3 (g1.extBut _ _ c1 q))))) ⟨oe,g5.extBut _ _ hez hoe,hce⟩
end
abbrev itO(k:Bool)(l:Addr):Obj:={cls:=.type (cond k "tuple_iterator" "list_iterator"),data:=.fields #[.ref l,.int 0 0]}
abbrev zA(k1:Bool)(h:Heap)(l1:Addr):Heap:=h.push (itO k1 l1)
abbrev zB(k1 k2:Bool)(h:Heap)(l1 l2:Addr):Heap:=(zA k1 h l1).push (itO k2 l2)
abbrev zC(k1 k2:Bool)(h:Heap)(l1 l2:Addr):Heap:=(zB k1 k2 h l1 l2).push {cls:=.type "tuple",data:=.seq #[.ref h.objs.size,.ref (zA k1 h l1).objs.size]}
abbrev zD(k1 k2:Bool)(h:Heap)(l1 l2:Addr):Heap:=(zC k1 k2 h l1 l2).push {cls:=.type "tuple",data:=.seq #[.none,.none]}
abbrev zE(k1 k2:Bool)(h:Heap)(l1 l2:Addr):Heap:=(zD k1 k2 h l1 l2).push {cls:=.type "zip",data:=.fields #[.none,.bool false,.bool false,.ref (zB k1 k2 h l1 l2).objs.size,.ref (zC k1 k2 h l1 l2).objs.size]}
theorem ct5(k1 k2:Bool)(l1 l2:Addr)(us vs:Array Value):
 Meets (Builtin.«zip.__new__» ⟨[.type "zip",.ref l1,.ref l2],[]⟩) (λ_ R s=>SQ k1 s.heap l1 us/\SQ k2 s.heap l2 vs/\R (.ok (.ret (.ref (zD k1 k2 s.heap l1 l2).objs.size))) {s with heap:=zE k1 k2 s.heap l1 l2}):=
 .of_wp λprog w A R s h=>by
  obtain⟨hp,g,d,tk,os⟩:=s
  obtain⟨hl1,hl2,h⟩:=h
  have hsub:=sub_zip
  have a1:SQ k1 (Shared.heap ⟨hp,g,d,tk,os⟩) l1 us:=hl1
  have a2:SQ k2 (Shared.heap ⟨hp.push (itO k1 l1),g,d,tk,os⟩) l2 vs:=SQ.at hl2 λo e=>Heap.get?_push_of_some _ e
  wp_walk using ai8 a1,ai8 a2
  exact⟨_,rfl,h⟩
section
variable {prog : Program} {w : World} {A : Around} {E : Value → Shared → Prop} {s : Shared}
theorem cl1(hl1:SQ k1 s.heap l1 us)(hl2:SQ k2 s.heap l2 vs)
 (h:∀h',IsZip h' (s.heap.objs.size+4) (s.heap.objs.size+2) (s.heap.objs.size+3) .none->IsPair h' (s.heap.objs.size+2) (.ref s.heap.objs.size) (.ref (s.heap.objs.size+1))->IsPair h' (s.heap.objs.size+3) .none .none->
  SI k1 h' s.heap.objs.size l1 0->SI k2 h' (s.heap.objs.size+1) l2 0->(∀c o,s.heap.get? c=some o->h'.get? c=some o)->Q (.ref (s.heap.objs.size+4)) {s with heap:=h'}):
 wpAny (model prog w) A (call (.type "zip") [.ref l1,.ref l2]) Q E s:=by
 refine callType_new F.called_zip (by decide) (F.typeCall_zip_2 _ _) (F.newCall_zip_2 _ _) (λobj=>F.args_object_init_3 obj _ _) F.entry_zip_new (ct5 k1 k2 l1 l2 us vs) ⟨hl1,hl2,?_⟩
 have z1:(zA k1 s.heap l1).objs.size=s.heap.objs.size+1:=Heap.size_push ..
 have z2:(zB k1 k2 s.heap l1 l2).objs.size=s.heap.objs.size+2:=(Heap.size_push ..).trans (by rw[z1])
 have z3:(zC k1 k2 s.heap l1 l2).objs.size=s.heap.objs.size+3:=(Heap.size_push ..).trans (by rw[z2])
 have z4:(zD k1 k2 s.heap l1 l2).objs.size=s.heap.objs.size+4:=(Heap.size_push ..).trans (by rw[z3])
 have u1:∀c o,(zA k1 s.heap l1).get? c=some o->(zE k1 k2 s.heap l1 l2).get? c=some o:=λc o e=>Heap.get?_push_of_some _ (Heap.get?_push_of_some _ (Heap.get?_push_of_some _ (Heap.get?_push_of_some _ e)))
 have u2:∀c o,(zB k1 k2 s.heap l1 l2).get? c=some o->(zE k1 k2 s.heap l1 l2).get? c=some o:=λc o e=>Heap.get?_push_of_some _ (Heap.get?_push_of_some _ (Heap.get?_push_of_some _ e))
 have g5:(zE k1 k2 s.heap l1 l2).get? (zD k1 k2 s.heap l1 l2).objs.size=some _:=Heap.get?_push_size _ rfl
 have g4:(zE k1 k2 s.heap l1 l2).get? (zC k1 k2 s.heap l1 l2).objs.size=some _:=Heap.get?_push_of_some _ (Heap.get?_push_size _ rfl)
 have g3:(zE k1 k2 s.heap l1 l2).get? (zB k1 k2 s.heap l1 l2).objs.size=some _:=Heap.get?_push_of_some _ (Heap.get?_push_of_some _ (Heap.get?_push_size _ rfl))
 have g2:(zE k1 k2 s.heap l1 l2).get? (zA k1 s.heap l1).objs.size=some _:=u2 _ _ (Heap.get?_push_size _ rfl)
 have g1:(zE k1 k2 s.heap l1 l2).get? s.heap.objs.size=some _:=u1 _ _ (Heap.get?_push_size _ rfl)
 show _/\_
 rw[z2,z3,z4]at g5
 rw[z1,z2]at g3
 rw[z3]at g4
 rw[z1]at g2
 rw[z4]
 exact⟨⟨_,g5,rfl⟩,h _ g5 g3 g4 ⟨_,g1,rfl,rfl⟩ ⟨_,g2,rfl,rfl⟩ λc o x=>u1 c o (Heap.get?_push_of_some _ x)⟩
end
end L2
namespace L2
open PySem PySem.Spec PyProof.Rows
def vC(k:Bool)(K:PySem.W.Frag)(H:Hp)(l:Addr)(xs:List V):Prop:=cond k (SqT K H l xs) (SqL K H l xs)
section
variable {X : Cx} {pins : List (Addr × Obj)} {σ : St} {H : Hp} {s : Shared} {l : Addr} {xs ys : List V}
theorem Inv.row(I:Inv X pins σ H s)(h:vC k X.K H l xs):∃its:List Value,Vals xs its/\SQ k s.heap l its.toArray/\xs.length<=sizeLine:=by
 cases k with
 |false=>obtain⟨its,r,p,z⟩:=I.list h;exact⟨its,r,p.isList,z⟩
 |true=>obtain⟨its,r,p,z⟩:=I.tuple h;exact⟨its,r,p,z⟩
theorem Inv.row_inj(I:Inv X pins σ H s)(h:vC k X.K H l xs)(h':vC k X.K H l ys):xs=ys:=by
 cases k with
 |false=>exact I.list_inj h h'
 |true=>exact I.tuple_inj h h'
theorem Inv.turnedL{t':Nat}{fp:List Addr}{h':Heap}(I:Inv X pins σ H s)(k:∀b o,b∉fp->s.heap.get? b=some o->h'.get? b=some o)(hf:∀b∈fp,oA X pins H b):Inv X pins σ H {s with heap:=h',toks:=t'}:=by
 have nit:∀b u,H b=some u->b∉fp:=λb u e z=>by rw[(hf b z).1]at e;cases e
 refine I.step (g':=s.gens) (d':=s.drawn) (ch:=fp) (λb hb=>?_) (λb o _ _ hc e _=>k b o hc e) (λb o _ _ hc e _=>⟨o.slots,k b o hc e⟩) (λ_ _ _ _ n=>n)
  (λb o hc e=>⟨o,k b o hc e⟩) (λ_ _ e=>e) (λ_ _ _ e=>e) (λb ps e=>⟨#[],by rw[e];simp⟩) (λm hm=>?_) (λb u e=>?_) I.bare
 . obtain⟨_,f1,_,f3,f4,f5⟩:=hf b hb
   exact⟨f3,f1,f4,f5⟩
 . obtain⟨o,es,ep,ho,r⟩:=hm
   exact⟨o,es,ep,k _ o (λz=>(hf _ z).2.1 rfl) ho,r⟩
 . refine(I.hok b u e).stay (λc v hc q=>k c v ?_ q) (λ_ q=>q) λ_ _ q=>q
   rcases hc with z|z
   . rw[z];exact nit b u e
   . exact nit c _ z
theorem Inv.paired{h':Heap}{t':Nat}{fp:List Addr}{x y:V}{u v:Value}(I:Inv X pins σ H s)(rx:RelV x u)(ry:RelV y v)(hf:∀b∈fp,oA X pins H b)(hl:∀b∈fp,b<s.heap.objs.size)
 (hp:h'.get? s.heap.objs.size=some {cls:=.type "tuple",data:=.seq #[u,v]})(k:∀b o,b∉fp->s.heap.get? b=some o->h'.get? b=some o):
 Inv X pins σ (upd H s.heap.objs.size (.tup [x,y])) {s with heap:=h',toks:=t'}/\∀b∈fp,upd H s.heap.objs.size (.tup [x,y]) b=none:=by
 have I0:Inv X pins σ (upd H s.heap.objs.size (.tup [x,y])) {s with heap:=s.heap.push {cls:=.type "tuple",data:=.seq #[u,v]},toks:=t'}:=
  I.laid (λ_ _ q=>Heap.get?_push_of_some _ q) (Nat.le_refl _) ⟨(show(2:Nat)<=sizeLine by decide),[u,v],.cons rx (.cons ry .nil),⟨_,Heap.get?_push_size _ rfl,rfl,_,rfl⟩⟩
 have hn:∀b∈fp,upd H s.heap.objs.size (.tup [x,y]) b=none:=λb hb=>by rw[bY (Nat.ne_of_lt (hl b hb))];exact(hf b hb).1
 refine⟨I0.turnedL (fp:=fp) (h':=h') (t':=t') (λb o hb e=>?_) λb hb=>⟨hn b hb,(hf b hb).2⟩,hn⟩
 rcases Heap.get?_push_cases e with⟨rfl,rfl⟩|e
 . exact hp
 . exact k b o hb e
end
def Itz(K:PySem.W.Frag)(k1 k2:Bool)(l1 l2:Addr):It:=
 ⟨λi H=>∃xs ys x y,vC k1 K H l1 xs/\vC k2 K H l2 ys/\xs[i]?=some x/\ys[i]?=some y,
  λi H v H'=>∃p,H p=none/\v=.ref p/\∀xs ys,vC k1 K H l1 xs->vC k2 K H l2 ys->∃x y,xs[i]?=some x/\ys[i]?=some y/\H'=upd H p (.tup [x,y]),
  λi H=>∃xs ys,vC k1 K H l1 xs/\vC k2 K H l2 ys/\(xs.length<=i\/ys.length<=i)⟩
def Ite(K:PySem.W.Frag)(l:Addr):It:=
 ⟨λi H=>∃xs x,SqL K H l xs/\xs[i]?=some x,λi H v H'=>∃p,H p=none/\v=.ref p/\∀xs,SqL K H l xs->∃x,xs[i]?=some x/\H'=upd H p (.tup [.int i,x]),λi H=>∃xs,SqL K H l xs/\xs.length<=i⟩
theorem bz8{P:Program}{w:World}{K:PySem.W.Frag}{es:List Expr}{n:Nat}{pos:Pos}{k1 k2:Bool}{z TI TO i1 i2 l1 l2:Addr}(D:ZipApart z TI TO i1 i2 l1 l2):
 wT P w K (.Tuple es n pos) (Itz K k1 k2 l1 l2) [z,TI,TO,i1,i2] z (λi h=>IsZip h z TI TO .none/\IsPair h TI (.ref i1) (.ref i2)/\(∃a b,IsPair h TO a b)/\SI k1 h i1 l1 i/\SI k2 h i2 l2 i) where
 mem:=by simp
 obj:=λi h st b hb=>by
  obtain⟨hz,hTI,⟨a,c,hTO⟩,n1,n2⟩:=st
  simp only[List.mem_cons,List.not_mem_nil,or_false]at hb
  rcases hb with rfl|rfl|rfl|rfl|rfl
  . exact⟨_,hz,λv e=>nomatch e⟩
  . exact⟨_,hTI,λv e=>nomatch e⟩
  . exact⟨_,hTO,λv e=>nomatch e⟩
  . obtain⟨o,e,_,d⟩:=n1;exact⟨o,e,λv q=>by rw[d]at q;cases q⟩
  . obtain⟨o,e,_,d⟩:=n2;exact⟨o,e,λv q=>by rw[d]at q;cases q⟩
 keep:=λi h h' st k=>by
  obtain⟨hz,hTI,⟨a,c,hTO⟩,n1,n2⟩:=st
  exact⟨k z (by simp) _ hz,k TI (by simp) _ hTI,⟨a,c,k TO (by simp) _ hTO⟩,n1.at λo e=>k i1 (by simp) o e,n2.at λo e=>k i2 (by simp) o e⟩
 item:=by
  intro X hP hw hK hc i pins s σ H E I hf st hg
  subst hP hw hK
  obtain⟨hz,hTI,⟨a,b,hTO⟩,n1,n2⟩:=st
  obtain⟨xs,ys,x,y,hq1,hq2,hx,hy⟩:=hg
  obtain⟨its,r1,p1,_⟩:=I.row hq1
  obtain⟨jts,r2,p2,_⟩:=I.row hq2
  obtain⟨u,hu,ru⟩:=r1.get hx
  obtain⟨v,hv,rv⟩:=r2.get hy
  refine ce0 D hz hTI hTO n1 n2 p1 p2 (x:=u) (y:=v) (by simpa using hu) (by simpa using hv) λh' a1 a2 a3 a4 a5 kk=>⟨_,rfl,wpAny_letOwnedTupleGo_zip a1 λh2 b1 gg=>?_⟩
  have lts:∀b∈[z,TI,TO,i1,i2],b<s.heap.objs.size:=λb hb=>by
   simp only[List.mem_cons,List.not_mem_nil,or_false]at hb
   rcases hb with rfl|rfl|rfl|rfl|rfl
   . exact Heap.lt_size hz
   . exact Heap.lt_size hTI
   . exact Heap.lt_size hTO
   . obtain⟨o,e,_⟩:=n1;exact Heap.lt_size e
   . obtain⟨o,e,_⟩:=n2;exact Heap.lt_size e
  have zne:s.heap.objs.size≠z:=Nat.ne_of_gt (lts z (by simp))
  obtain⟨I1,hn⟩:=I.paired (t':=s.toks) ru rv hf lts (gg.extBut _ _ zne a5) (λc o hc e=>gg.extBut _ _ (λq=>hc (by simp[q])) (kk c o (λq=>hc (by simp[q])) (λq=>hc (by simp[q])) (λq=>hc (by simp[q])) (λq=>hc (by simp[q])) e))
  refine⟨.ref s.heap.objs.size,_,I1,rfl,⟨_,I.fresh,rfl,λxs' ys' q1 q2=>⟨x,y,by rw[I.row_inj q1 hq1];exact hx,by rw[I.row_inj q2 hq2];exact hy,rfl⟩⟩,⟨b1,?_,⟨u,v,?_⟩,?_,?_⟩,hn⟩
  . exact gg.extBut _ _ D.TIz (kk _ _ D.TIz D.TITO D.TIi1 D.TIi2 hTI)
  . exact gg.extBut _ _ D.TOz a2
  . exact a3.at λo e=>gg.extBut _ _ D.i1z e
  . exact a4.at λo e=>gg.extBut _ _ D.i2z e
 done:=by
  intro X hP hw hK hc i pins s σ H E I hf st hg
  subst hP hw hK
  obtain⟨hz,hTI,⟨a,b,hTO⟩,n1,n2⟩:=st
  obtain⟨xs,ys,hq1,hq2,hx⟩:=hg
  obtain⟨its,r1,p1,_⟩:=I.row hq1
  obtain⟨jts,r2,p2,_⟩:=I.row hq2
  have e1:=r1.length
  have e2:=r2.length
  exact cs0 (I.ok.hd hc) D hz hTI hTO n1 n2 p1 p2 (hx.imp (λq=>by simp;omega) (λq=>by simp;omega)) λh' kk=>⟨rfl,I.turnedL (t':=s.toks) (λc o hc e=>kk c o (λq=>hc (by simp[q])) (λq=>hc (by simp[q])) (λq=>hc (by simp[q])) (λq=>hc (by simp[q])) e) hf⟩
 self:=λ_ _ _ _ _ st h=>wpAny_pyIter_zip st.1 h
theorem ba5{P:Program}{w:World}{K:PySem.W.Frag}{es:List Expr}{n:Nat}{pos:Pos}{e it l:Addr}(ne:e≠it):
 wT P w K (.Tuple es n pos) (Ite K l) [e,it] e (λi h=>(∃old,IsEnum h e it (i:Nat) old)/\h.IsListIter it l i) where
 mem:=by simp
 obj:=λi h st b hb=>by
  obtain⟨⟨old,he⟩,n1⟩:=st
  simp only[List.mem_cons,List.not_mem_nil,or_false]at hb
  rcases hb with rfl|rfl
  . exact⟨_,he,λv q=>nomatch q⟩
  . obtain⟨o,e,_,d⟩:=n1;exact⟨o,e,λv q=>by rw[d]at q;cases q⟩
 keep:=λi h h' st k=>by
  obtain⟨⟨old,he⟩,n1⟩:=st
  exact⟨⟨old,k e (by simp) _ he⟩,n1.at λo q=>k it (by simp) o q⟩
 item:=by
  intro X hP hw hK hc i pins s σ H E I hf st hg
  subst hP hw hK
  obtain⟨⟨old,he⟩,n1⟩:=st
  obtain⟨xs,x,hq,hx⟩:=hg
  obtain⟨its,r1,p1,_⟩:=I.list hq
  obtain⟨u,hu,ru⟩:=r1.get hx
  refine wpAny_pyNext_enum_item he n1 p1.isList (x:=u) (by simpa using hu) ne λh' a1 a2 a3 a4 kk=>⟨_,rfl,wpAny_letOwnedTupleGo_enum a1 λh2 b1 gg=>?_⟩
  have lts:∀b∈[e,it],b<s.heap.objs.size:=λb hb=>by
   simp only[List.mem_cons,List.not_mem_nil,or_false]at hb
   rcases hb with rfl|rfl
   . exact Heap.lt_size he
   . obtain⟨o,e,_⟩:=n1;exact Heap.lt_size e
  have zne:s.heap.objs.size≠e:=Nat.ne_of_gt (lts e (by simp))
  obtain⟨I1,hn⟩:=I.paired (t':=s.toks+1) (x:=.int (i:Nat)) (u:=.int (i:Nat) s.toks) ⟨_,rfl⟩ ru hf lts (gg.extBut _ _ zne a3) (λc o hc q=>gg.extBut _ _ (λz=>hc (by simp[z])) (kk c o (λz=>hc (by simp[z])) (λz=>hc (by simp[z])) q))
  exact⟨.ref s.heap.objs.size,_,I1,rfl,⟨_,I.fresh,rfl,λxs' q1=>⟨x,by rw[I.list_inj q1 hq];exact hx,rfl⟩⟩,⟨⟨u,b1⟩,a2.at λo q=>gg.extBut _ _ (Ne.symm ne) q⟩,hn⟩
 done:=by
  intro X hP hw hK hc i pins s σ H E I hf st hg
  subst hP hw hK
  obtain⟨⟨old,he⟩,n1⟩:=st
  obtain⟨xs,hq,hx⟩:=hg
  obtain⟨its,r1,p1,_⟩:=I.list hq
  have e1:=r1.length
  obtain⟨f0,f1,f2,f3,f4,f5⟩:=hf it (by simp)
  exact wpAny_pyNext_enum_end (I.ok.hd hc) he n1 p1.isList (by simp;omega) λh' eb=>⟨rfl,I.turned (t':=s.toks) (λb o hb q=>eb b o hb q) f0 f1 f3 f4 f5⟩
 self:=λ_ _ _ _ _ st h=>by
  obtain⟨⟨old,he⟩,_⟩:=st
  exact wpAny_pyIter_enum he h
theorem ck0:bootBuiltins "zip"=some (.type "zip"):=by decide+kernel
theorem bu6:bootBuiltins "enumerate"=some (.type "enumerate"):=by decide+kernel
section
variable {X : Cx}
def bj8(K:PySem.W.Frag)(ta:TA):TI:=λσ H R=>ta σ H λvs H1=>∃k1 k2 l1 l2,vs=[.ref l1,.ref l2]/\(∃xs,vC k1 K H1 l1 xs)/\(∃ys,vC k2 K H1 l2 ys)/\R (Itz K k1 k2 l1 l2) H1
def bz3(K:PySem.W.Frag)(ta:TA):TI:=λσ H R=>ta σ H λvs H1=>∃l,vs=[.ref l]/\(∃xs,SqL K H1 l xs)/\R (Ite K l) H1
theorem ch8{es:List Expr}{n:Nat}{tpos:Pos}{a b:Expr}{ta:TA}{p pos:Pos}(hg:Gl X "zip")(hm:X.mg "zip"=none)(ha:PA X [a,b] ta)(hs:starEach [a,b] X.env=[(false,eval a X.env),(false,eval b X.env)]:=by rfl)(hs2:starEach [b] X.env=[(false,eval b X.env)]:=by rfl):
 PI X (.Tuple es n tpos) (.Call (.Name "zip" p) [a,b] [] pos) (bj8 X.K ta):=by
 intro pins s σ H R I h
 refine Call_ (mX I hg hm ck0 (PyProof.Rows.callWith_type1 (bS (ha pins s σ H _ I h) λus s1 ⟨vs,H1,I1,r1,q1⟩=>?_) (by rw[hs,hs2]) (by rw[hs2];rfl)))
 obtain⟨k1,k2,l1,l2,e,⟨xs,hq1⟩,⟨ys,hq2⟩,q⟩:=q1
 subst e
 cases r1 with
 |cons r rr=>
  cases rr with
  |cons r' rr=>
   cases rr
   cases r
   cases r'
   obtain⟨its,r1,p1,_⟩:=I1.row hq1
   obtain⟨jts,r2,p2,_⟩:=I1.row hq2
   refine cl1 p1 p2 λh' a1 a2 a3 a4 a5 kk=>wpAny_pyIter_zip a1 ?_
   have c1:l1<s1.heap.objs.size:=by obtain⟨_,z,_⟩:=p1;exact Heap.lt_size z
   have c2:l2<s1.heap.objs.size:=by obtain⟨_,z,_⟩:=p2;exact Heap.lt_size z
   refine⟨_,_,_,_,H1,rfl,I1.kept (t':=s1.toks) kk,bz8 (zipApart_new c1 c2),⟨a1,a2,⟨_,_,a3⟩,a4,a5⟩,λc hc=>?_,q⟩
   have le:s1.heap.objs.size<=c:=by
    simp only[List.mem_cons,List.not_mem_nil,or_false]at hc
    rcases hc with rfl|rfl|rfl|rfl|rfl<;>omega
   exact I1.fpOk le (I1.hok.fresh le)
theorem cp5{es:List Expr}{n:Nat}{tpos:Pos}{a:Expr}{ta:TA}{p pos:Pos}(hg:Gl X "enumerate")(hm:X.mg "enumerate"=none)(ha:PA X [a] ta)(hs:starEach [a] X.env=[(false,eval a X.env)]:=by rfl):
 PI X (.Tuple es n tpos) (.Call (.Name "enumerate" p) [a] [] pos) (bz3 X.K ta):=by
 intro pins s σ H R I h
 refine Call_ (mX I hg hm bu6 (PyProof.Rows.callWith_type1 (bS (ha pins s σ H _ I h) λus s1 ⟨vs,H1,I1,r1,q1⟩=>?_) hs rfl))
 obtain⟨l,e,⟨xs,hq1⟩,q⟩:=q1
 subst e
 cases r1 with
 |cons r rr=>
  cases rr
  cases r
  obtain⟨its,r1,p1,_⟩:=I1.list hq1
  refine call_enumerate_list p1.isList λh' a1 a2 a3 kk=>wpAny_pyIter_enum a1 ?_
  refine⟨_,_,_,_,H1,rfl,I1.kept (t':=s1.toks) kk,ba5 (e:=s1.heap.objs.size+1) (it:=s1.heap.objs.size) (Nat.succ_ne_self _),⟨⟨_,a1⟩,a2⟩,λc hc=>?_,q⟩
  have le:s1.heap.objs.size<=c:=by
   simp only[List.mem_cons,List.not_mem_nil,or_false]at hc
   rcases hc with rfl|rfl<;>omega
  exact I1.fpOk le (I1.hok.fresh le)
end
end L2
namespace L2
open PySem PySem.Spec PyProof.Rows
def oY(σ:List Str)(x:Str):List Str:=if σ.any (· ==x)=true then σ else σ++[x]
def jK(val:Nat->Str)(i:Nat):List Str:=((List.range i).map val).foldl oY []
theorem wW(val:Nat->Str)(i:Nat):jK val (i+1)=oY (jK val i) (val i):=by
 unfold jK
 rw[List.range_succ,List.map_append,List.foldl_append]
 rfl
theorem am9(val:Nat->Str):∀i,(jK val i).length<=i
 |0=>Nat.le_refl _
 |i+1=>by
  rw[wW]
  unfold oY
  have ih:=am9 val i
  split
  . omega
  . simp;omega
theorem bf7(σ:List Str)(v k:Str):(oY σ v).any (· ==k)=(σ.any (· ==k)||decide (k=v)):=by
 unfold oY
 by_cases h:σ.any (· ==v)=true
 . rw[if_pos h]
   by_cases e:k=v
   . subst e
     rw[h]
     simp
   . simp[e]
 . rw[if_neg h,List.any_append]
   by_cases e:k=v
   . subst e
     simp
   . have hb:(v==k)=false:=by simpa using(λh':v=k=>e h'.symm)
     simp[hb,e]
theorem by4(σ:List Str)(v:Str):(oY σ v).length=if σ.any (· ==v)then σ.length else σ.length+1:=by
 unfold oY
 split<;>simp
section
variable {prog : Program} {w : World} {A : Around} {R : Result → Shared → Prop} {I : Addr} {fp wr : List Addr} {G : Array GenState → Array GenState → Prop} {n : Nat} {P : Nat → Value → Prop} {St : Nat → Shared → Prop}
theorem bl8(W:WalksS prog w A.in1 I fp wr G n P St)(S:Addr)(hS:S∉fp)(val:Nat->Str)(hval:∀i v,P i v->∃t,v=.str (val i) t)(hb:n+1<scanBound):
 ∀(k i:Nat)(s:Shared),n-i=k->i<=n->St i s->s.heap.SetOf (strKind prog w) S (λx=>(jK val i).any (· ==x)) (jK val i).length->
  (∀s',Moved (S::wr) G s s'->s'.heap.SetOf (strKind prog w) S (λx=>(jK val n).any (· ==x)) (jK val n).length->R (.ok (.ret .none)) s')->
  codeAny (model prog w) A (.builtin "set.update.loop" ⟨[.ref S,.ref I],[]⟩) R s:=by
 have hw:S∉wr:=λh=>hS (W.sub _ h)
 have sub:∀b∈wr,b∈S::wr:=λb hb=>List.mem_cons_of_mem _ hb
 intro k
 induction k with
 |zero=>
  intro i s hk hi st hs hR
  obtain rfl:i=n:=by omega
  refine codeAny_builtin PyProof.Rows.F.entry_set_update_loop ?_;rw[Around.under_plainId PyProof.Rows.F.plain_set_update_loop _]
  (show wpAny _ A.in1 (pyNext (.ref I)>>=_) _ _ s);refine wpAny_bind (W.done s _ _ st λs' hm=>?_)
  (show wpAny _ A.in1 (ret Value.none) _ _ s');refine wpAny_pure (hR s' (hm.mono sub) ?_)
  obtain⟨o,es,ep,t,ho,r⟩:=hs
  exact⟨o,es,ep,t,hm.heap S _ hw ho,r⟩
 |succ k ih=>
  intro i s hk hi st hs hR
  have lt:i<n:=by omega
  refine codeAny_builtin PyProof.Rows.F.entry_set_update_loop ?_;rw[Around.under_plainId PyProof.Rows.F.plain_set_update_loop _]
  (show wpAny _ A.in1 (pyNext (.ref I)>>=_) _ _ s);refine wpAny_bind (W.item i s _ _ lt st λv s' hP st' hm=>?_)
  obtain⟨t,rfl⟩:=hval i v hP
  have hs':s'.heap.SetOf (strKind prog w) S (λx=>(jK val i).any (· ==x)) (jK val i).length:=by
   obtain⟨o,es,ep,tb,ho,r⟩:=hs
   exact⟨o,es,ep,tb,hm.heap S _ hw ho,r⟩
  (show wpAny _ A.in1 (holding [Value.str (val i) t] (setAdd S (.str (val i) t))>>=_) _ _ s');refine wpAny_bind (wpAny_holding ?_);unfold setAdd
  refine wpAny_holding ?_;refine wpAny_bind ((strKind prog w).pyHash (k:=val i) (strKind_is _ _ _ _) ?_)
  have room:(jK val i).length+1<scanBound:=by have:=am9 val i;omega
  refine wpAny_setAddHashed_of (knd:=strKind prog w) (s:={s' with toks:=s'.toks+1}) (strKind_is _ _ _ _) rfl hs' room λh' hsb hS2=>?_
  have hi':h'.SetOf (strKind prog w) S (λx=>(jK val (i+1)).any (· ==x)) (jK val (i+1)).length:=SetOf_congr hS2 (λx=>by rw[wW,bf7]) (by rw[wW,by4])
  refine wpAny_pure ⟨plainId_quiet PyProof.Rows.F.plain_set_update_loop _,ih (i+1) _ (by omega) lt (W.frame _ s' _ _ st' (Nat.le_succ _) λb hb o e=>?_) hi' λs'' hm'' hS''=>?_⟩
  . exact(hsb.2 b (λh:b=S=>hS (by rw[<-h];exact hb))).trans e
  . refine hR s'' (Moved.trans W.gtrans ((hm.mono sub).then_heap (Nat.le_succ _) λb o hb e=>?_) hm'') hS''
    exact(hsb.2 b (λh:b=S=>hb (by rw[h];exact List.mem_cons_self))).trans e
end
section
variable {prog : Program} {w : World} {A : Around} {E : Value → Shared → Prop} {s : Shared}
abbrev jH(led:Bool):Obj:={cls:=.type "set",dict:=none,data:=.set #[] 0 (.fresh 0 0 led)}
set_option maxHeartbeats 3200000 in
theorem az5(hh:A.handled=none)(hl:s.heap.IsList l us)(hv:∀(i:Nat) v,us[i]?=some v->∃t,v=.str (val i) t)(hb:us.size+1<scanBound)
 (h:∀(h':Heap)(tk:Nat),h'.SetOf (strKind prog w) s.heap.objs.size (λx=>(jK val us.size).any (· ==x)) (jK val us.size).length->(∀b o,b<s.heap.objs.size->s.heap.get? b=some o->h'.get? b=some o)->Q (.ref s.heap.objs.size) {s with heap:=h',toks:=tk}):
 wpAny (model prog w) A (call (.type "set") [.ref l]) Q E s:=by
 obtain⟨c,tl,hmro⟩:=PySem.F.called_set.mro
 have hmade:=PySem.F.called_set.made
 have hsub:=PySem.F.called_set.sub
 refine wpAny_call (codeAny_of_tree ?_);(show wpAny _ _ (callAny (.type "set") _) _ _ _)
 refine wpAny_pure ⟨Code.quiet_builtin _ (by decide+kernel),codeAny_builtin PySem.F.entry_type_call ?_⟩;rw[Around.under_plain (weight_type_call_type "set" [.ref l] []) rfl]
 have h1:=PySem.F.called_set.notType
 have h2:=PySem.F.called_set.canCreate
 have hct:=PySem.F.typeCall_set_1 (.ref l)
 (repeat(any_goals(first|assumption|wp_step)))
 refine codeAny_mono (code_set_new_1 (.ref l) (E:=E) (Q₁:=λobj s₁=>∃led:Bool,obj=.ref s.heap.objs.size/\s₁={s with heap:=s.heap.push (jH led)}) λled=>⟨led,rfl,rfl⟩) λr s₁ hr=>?_
 cases r with
 |error e=>exact hr
 |ok fl=>
  cases fl with
  |ret obj=>
   obtain⟨led,rfl,rfl⟩:=hr
   have hS:(s.heap.push (jH led)).get? s.heap.objs.size=some (jH led):=Heap.get?_push_size _ rfl
   have hT:Shared.TypeIs {s with heap:=s.heap.push (jH led)} (.ref s.heap.objs.size) "set":=⟨_,hS,rfl⟩
   have hli:=PySem.F.called_set.init.lookup
   have hbi:=PySem.F.called_set.init.bind (.ref s.heap.objs.size)
   (repeat(any_goals(first|assumption|wp_step)))
   refine codeAny_mono (codeAny_call_builtin (R:=wants (λr s₂=>r=.none/\∃h' tk,s₂={s with heap:=h',toks:=tk}/\h'.SetOf (strKind prog w) s.heap.objs.size (λx=>(jK val us.size).any (· ==x)) (jK val us.size).length/\
    (∀b o,b<s.heap.objs.size->s.heap.get? b=some o->h'.get? b=some o)) E) PySem.F.called_set.init.plain PySem.F.entry_set_init (check_set_init_1 hT ?_)) λr₂ s₂ hr₂=>?_
   . obtain⟨ol,hol,hcl,nl,hdl⟩:=hl
     obtain⟨ocls,odict,odata,oslots⟩:=ol
     simp only at hcl hdl;subst hcl;subst hdl
     have hol':(s.heap.push (jH led)).get? l=some {cls:=.type "list",dict:=odict,data:=.seq us nl,slots:=oslots}:=Heap.get?_push_of_some _ hol
     have hsls:=PySem.F.sub_list_set
     have hslf:=PySem.F.sub_list_frozenset
     have hne:(Value.type "list"==Value.type "dict")=false:=by decide
     have hl1:(s.heap.push (jH led)).IsList l us:=⟨_,hol',rfl,nl,rfl⟩
     unfold Builtin.«set.__init__» noKeywords Builtin.Frozenset.updateFrom;generalize hPI:pyIter=PI;wp_walk;subst hPI
     refine wpAny_pyIter_list hl1 ?_;refine wpAny_bind (wpAny_runValue ?_)
     have hlS:l<s.heap.objs.size:=Heap.lt_size hol
     have hh3:A.in1.in1.in1.handled=none:=by simp[hh]
     have hneI:l≠(s.heap.push (jH led)).objs.size:=by rw[Heap.size_push];exact Nat.ne_of_lt (Nat.lt_succ_of_lt hlS)
     have hSf:s.heap.objs.size∉[(s.heap.push (jH led)).objs.size,l]:=by
      rw[Heap.size_push];simp only[List.mem_cons,List.not_mem_nil,or_false,not_or];exact⟨Nat.ne_of_lt (Nat.lt_succ_self _),Nat.ne_of_gt hlS⟩
     refine bl8 ((Walks.list hh3 _ l hneI us).toS) s.heap.objs.size hSf val hv hb (us.size-0) 0 _ (by omega) (Nat.zero_le _) ⟨⟨_,Heap.get?_push_size _ rfl,rfl,rfl⟩,(hl1.push _)⟩ ?hS0 ?hR
     case hS0=>exact SetOf_congr ((setObjOf_fresh (knd:=strKind prog w) led).setOf (Heap.get?_push_of_some _ hS) (by unfold scanBound;omega)) (λ_=>rfl) rfl
     case hR=>
      intro s' hm hS'
      obtain⟨h',g',d',tk',os'⟩:=s'
      obtain rfl:g'=s.gens:=hm.gens
      obtain rfl:d'=s.drawn:=hm.drawn
      obtain rfl:os'=s.os:=hm.os
      (show wpAny _ _ _ _ _ _);refine wpAny_pure ?_;(show wpAny _ _ (ret Value.none) _ _ _)
      refine wpAny_pure ⟨rfl,h',tk',rfl,hS',λb o hb e=>?_⟩
      have hb2:b≠(s.heap.push (jH led)).objs.size:=by rw[Heap.size_push];exact Nat.ne_of_lt (Nat.lt_succ_of_lt hb)
      exact hm.heap b o (by simp only[List.mem_cons,List.not_mem_nil,or_false,not_or];exact⟨Nat.ne_of_lt hb,hb2⟩) (Heap.get?_push_of_some _ (Heap.get?_push_of_some _ e))
   . cases r₂ with
     |error e=>exact hr₂
     |ok fl₂=>
      cases fl₂ with
      |ret r=>
       obtain⟨rfl,h',tk,rfl,hS',hk'⟩:=hr₂
       (repeat(any_goals(first|assumption|wp_step)))
       exact h _ _ hS' hk'
      |_=>exact hr₂
  |_=>exact hr
end
end L2
namespace TL
open PySem PySem.Spec PyProof.Rows L2
inductive T where
 |non|bl (b:Bool)|int (i:Int)|str (x:Str)|ty (n:String)
 |lst (o:Bool) (xs:List T)
 |tup (xs:List T)
 |ins (o:Bool) (c:Str) (ns:List Str) (xs:List T)
mutual
def frz:T->T
 |.lst _ xs=>.lst false (frzs xs)
 |.tup xs=>.tup (frzs xs)
 |.ins _ c ns xs=>.ins false c ns (frzs xs)
 |.non=>.non
 |.bl b=>.bl b
 |.int i=>.int i
 |.str x=>.str x
 |.ty n=>.ty n
def frzs:List T->List T
 |[]=>[]
 |t::ts=>frz t::frzs ts
end
mutual
def dL:T->Bool
 |.lst o xs=>!o&&aU xs
 |.tup xs=>aU xs
 |.ins o _ _ xs=>!o&&aU xs
 |.non=>true
 |.bl _=>true
 |.int _=>true
 |.str _=>true
 |.ty _=>true
def aU:List T->Bool
 |[]=>true
 |t::ts=>dL t&&aU ts
end
mutual
def dJ:T->Bool
 |.lst o xs=>o&&dA xs
 |.tup xs=>dA xs
 |.ins o _ _ xs=>o&&dA xs
 |.non=>true
 |.bl _=>true
 |.int _=>true
 |.str _=>true
 |.ty _=>true
def dA:List T->Bool
 |[]=>true
 |t::ts=>dJ t&&dA ts
end
theorem wX:∀ts,aU ts=ts.all dL
 |[]=>rfl
 |t::ts=>by simp[aU,wX ts]
theorem ax4:∀ts,dA ts=ts.all dJ
 |[]=>rfl
 |t::ts=>by simp[dA,ax4 ts]
mutual
theorem ac5:∀t,dL t=true->frz t=t
 |.lst o xs,h=>by
  simp only[dL,Bool.and_eq_true,Bool.not_eq_true']at h
  rw[frz,fS xs h.2,h.1]
 |.tup xs,h=>by
  simp only[dL]at h
  rw[frz,fS xs h]
 |.ins o _ _ xs,h=>by
  simp only[dL,Bool.and_eq_true,Bool.not_eq_true']at h
  rw[frz,fS xs h.2,h.1]
 |.non,_=>rfl
 |.bl _,_=>rfl
 |.int _,_=>rfl
 |.str _,_=>rfl
 |.ty _,_=>rfl
theorem fS:∀ts,aU ts=true->frzs ts=ts
 |[],_=>rfl
 |t::ts,h=>by
  simp only[aU,Bool.and_eq_true]at h
  rw[frzs,ac5 t h.1,fS ts h.2]
end
structure Exc where
 c:Str
 ns:List Str
 xs:List T
inductive Res (α:Type) where
 |ok (a:α)|ex (x:Exc)|no
def Res.bind{α β:Type}:Res α->(α->Res β)->Res β
 |.ok a,f=>f a
 |.ex x,_=>.ex x
 |.no,_=>.no
abbrev Fr:=List (Option T)
inductive bR where
 |nx (ρ:Fr)|rt (t:T)|rm (ρ:Fr) (t:T)|bk (ρ:Fr)|ct (ρ:Fr)|ex (x:Exc)|no
def rH:HO->Bool
 |.tup _=>true
 |.frz _ _=>true
 |_=>false
def FzL(K:PySem.W.Frag)(H:Hp)(Z:Addr->Prop)(a:Addr)(xs:List V):Prop:=
 (H a=some (.lst xs)/\Z a)\/(∃o,H a=some (.frz o (.lst xs)))\/
  ∃(o:Obj)(its:Array Value)(n:Nat),K.lookup a=some o/\o.cls=.type "list"/\o.dict=none/\o.slots=#[]/\o.data=.seq its n/\its.size<=sizeLine/\Vals xs its.toList
theorem FzL.sqS{K:PySem.W.Frag}{H:Hp}{Z:Addr->Prop}{a:Addr}{xs:List V}(h:FzL K H Z a xs):SqS K H a xs:=by
 rcases h with⟨h,_⟩|⟨o,h⟩|h
 . exact .inl (.inl h)
 . exact .inl (.inr ⟨o,h⟩)
 . exact .inr h
theorem FzL.sq{K:PySem.W.Frag}{H:Hp}{Z:Addr->Prop}{a:Addr}{xs:List V}(h:FzL K H Z a xs):SqL K H a xs:=h.sqS.sq
section
variable (K : PySem.W.Frag) (cn : Str → Option Addr)
mutual
def Rep(H:Hp)(Z:Addr->Prop):T->V->List Addr->Prop
 |.non,v,A=>v=.non/\A=[]
 |.bl b,v,A=>v=.bl b/\A=[]
 |.int i,v,A=>v=.int i/\A=[]
 |.str x,v,A=>v=.str x/\A=[]
 |.ty n,v,A=>v=.ty n/\A=[]
 |.lst true ts,v,A=>∃a vs B,v=.ref a/\A=a::B/\H a=some (.lst vs)/\Reps H Z ts vs B
 |.lst false ts,v,A=>∃a vs,v=.ref a/\A=[]/\FzL K H Z a vs/\Reps H Z ts vs []
 |.tup ts,v,A=>∃a vs,v=.ref a/\SqT K H a vs/\Reps H Z ts vs A
 |.ins true c ns ts,v,A=>∃a C dx vs B,v=.ref a/\A=a::B/\cn c=some C/\H a=some (.ins C dx (ns.zip vs))/\ns.length=vs.length/\Reps H Z ts vs B
 |.ins false c ns ts,v,A=>∃a C dx vs,v=.ref a/\A=[]/\cn c=some C/\H a=some (.ins C dx (ns.zip vs))/\Z a/\ns.length=vs.length/\Reps H Z ts vs []
def Reps(H:Hp)(Z:Addr->Prop):List T->List V->List Addr->Prop
 |[],vs,A=>vs=[]/\A=[]
 |t::ts,vs,A=>∃v r B C,vs=v::r/\A=B++C/\Rep H Z t v B/\Reps H Z ts r C
end
end
section
variable {K : PySem.W.Frag} {cn : Str → Option Addr} {H H' : Hp} {Z Z' : Addr → Prop}
theorem FzL.keep(h:FzL K H Z a xs)(hk:∀a o,H a=some o->(Z a\/rH o=true)->H' a=some o)(hz:∀a,Z a->Z' a):FzL K H' Z' a xs:=by
 rcases h with⟨h,z⟩|⟨o,h⟩|h
 . exact .inl ⟨hk _ _ h (.inl z),hz _ z⟩
 . exact .inr (.inl ⟨o,hk _ _ h (.inr rfl)⟩)
 . exact .inr (.inr h)
theorem SqT.keep(h:SqT K H a xs)(hk:∀a o,H a=some o->rH o=true->H' a=some o):SqT K H' a xs:=by
 rcases h with(h|⟨o,h⟩)|h
 . exact .inl (.inl (hk _ _ h rfl))
 . exact .inl (.inr ⟨o,hk _ _ h rfl⟩)
 . exact .inr h
mutual
theorem Rep.keep:∀(t:T){v:V}{A:List Addr},Rep K cn H Z t v A->(∀a o,H a=some o->(a∈A\/Z a\/rH o=true)->H' a=some o)->(∀a,Z a->Z' a)->Rep K cn H' Z' t v A
 |.non,_,_,h,_,_=>by simpa only[Rep]using h
 |.bl _,_,_,h,_,_=>by simpa only[Rep]using h
 |.int _,_,_,h,_,_=>by simpa only[Rep]using h
 |.str _,_,_,h,_,_=>by simpa only[Rep]using h
 |.ty _,_,_,h,_,_=>by simpa only[Rep]using h
 |.lst true ts,v,A,h,hk,hz=>by
  simp only[Rep]at h⊢
  obtain⟨a,vs,B,rfl,rfl,e,r⟩:=h
  exact⟨a,vs,B,rfl,rfl,hk a _ e (.inl List.mem_cons_self),Reps.keep ts r (λb o q c=>hk b o q (c.imp_left (List.mem_cons_of_mem _))) hz⟩
 |.lst false ts,v,A,h,hk,hz=>by
  simp only[Rep]at h⊢
  obtain⟨a,vs,rfl,rfl,e,r⟩:=h
  exact⟨a,vs,rfl,rfl,e.keep (λb o q c=>hk b o q (.inr c)) hz,Reps.keep ts r hk hz⟩
 |.tup ts,v,A,h,hk,hz=>by
  simp only[Rep]at h⊢
  obtain⟨a,vs,rfl,e,r⟩:=h
  exact⟨a,vs,rfl,SqT.keep e (λb o q c=>hk b o q (.inr (.inr c))),Reps.keep ts r hk hz⟩
 |.ins true c ns ts,v,A,h,hk,hz=>by
  simp only[Rep]at h⊢
  obtain⟨a,C,dx,vs,B,rfl,rfl,hc,e,l,r⟩:=h
  exact⟨a,C,dx,vs,B,rfl,rfl,hc,hk a _ e (.inl List.mem_cons_self),l,Reps.keep ts r (λb o q c=>hk b o q (c.imp_left (List.mem_cons_of_mem _))) hz⟩
 |.ins false c ns ts,v,A,h,hk,hz=>by
  simp only[Rep]at h⊢
  obtain⟨a,C,dx,vs,rfl,rfl,hc,e,z,l,r⟩:=h
  exact⟨a,C,dx,vs,rfl,rfl,hc,hk a _ e (.inr (.inl z)),hz a z,l,Reps.keep ts r hk hz⟩
theorem Reps.keep:∀(ts:List T){vs:List V}{A:List Addr},Reps K cn H Z ts vs A->(∀a o,H a=some o->(a∈A\/Z a\/rH o=true)->H' a=some o)->(∀a,Z a->Z' a)->Reps K cn H' Z' ts vs A
 |[],_,_,h,_,_=>by simpa only[Reps]using h
 |t::ts,vs,A,h,hk,hz=>by
  simp only[Reps]at h⊢
  obtain⟨v,r,B,C,rfl,rfl,h1,h2⟩:=h
  exact⟨v,r,B,C,rfl,rfl,Rep.keep t h1 (λb o q c=>hk b o q (c.imp_left (List.mem_append_left _))) hz,Reps.keep ts h2 (λb o q c=>hk b o q (c.imp_left (List.mem_append_right _))) hz⟩
end
theorem Rep.same(h:Rep K cn H Z t v A)(s:Same H H')(hz:∀a,Z a->Z' a):Rep K cn H' Z' t v A:=Rep.keep t h (λa o q _=>s a o q) hz
theorem Reps.same(h:Reps K cn H Z t v A)(s:Same H H')(hz:∀a,Z a->Z' a):Reps K cn H' Z' t v A:=Reps.keep t h (λa o q _=>s a o q) hz
theorem bg5(h:H a=some o)(h':H b=some o')(i:rH o=true)(i':rH o'=false):a≠b:=by
 rintro rfl
 rw[h]at h'
 cases h'
 rw[i]at i'
 cases i'
theorem Rep.upd(h:Rep K cn H Z t v A)(ha:H a=some o)(hi:rH o=false)(hA:a∉A)(hZ:¬Z a):Rep K cn (L2.upd H a o') Z t v A:=
 Rep.keep t h (λb u q c=>by
  rw[bY]
  . exact q
  . rcases c with c|c|c
    . rintro rfl;exact hA c
    . rintro rfl;exact hZ c
    . exact bg5 q ha c hi) (λ_ z=>z)
theorem Reps.upd(h:Reps K cn H Z t v A)(ha:H a=some o)(hi:rH o=false)(hA:a∉A)(hZ:¬Z a):Reps K cn (L2.upd H a o') Z t v A:=
 Reps.keep t h (λb u q c=>by
  rw[bY]
  . exact q
  . rcases c with c|c|c
    . rintro rfl;exact hA c
    . rintro rfl;exact hZ c
    . exact bg5 q ha c hi) (λ_ z=>z)
mutual
theorem Rep.frz:∀(t:T){v:V}{A:List Addr},Rep K cn H Z t v A->(∀a,Z a->Z' a)->(∀a∈A,Z' a)->Rep K cn H Z' (frz t) v []
 |.non,_,_,h,_,_=>by simp only[Rep,TL.frz]at h⊢;exact⟨h.1,trivial⟩
 |.bl _,_,_,h,_,_=>by simp only[Rep,TL.frz]at h⊢;exact⟨h.1,trivial⟩
 |.int _,_,_,h,_,_=>by simp only[Rep,TL.frz]at h⊢;exact⟨h.1,trivial⟩
 |.str _,_,_,h,_,_=>by simp only[Rep,TL.frz]at h⊢;exact⟨h.1,trivial⟩
 |.ty _,_,_,h,_,_=>by simp only[Rep,TL.frz]at h⊢;exact⟨h.1,trivial⟩
 |.lst true ts,v,A,h,hz,hA=>by
  simp only[Rep,TL.frz]at h⊢
  obtain⟨a,vs,B,rfl,rfl,e,r⟩:=h
  exact⟨a,vs,rfl,trivial,.inl ⟨e,hA a List.mem_cons_self⟩,Reps.frz ts r hz λb hb=>hA b (List.mem_cons_of_mem _ hb)⟩
 |.lst false ts,v,A,h,hz,hA=>by
  simp only[Rep,TL.frz]at h⊢
  obtain⟨a,vs,rfl,rfl,e,r⟩:=h
  exact⟨a,vs,rfl,trivial,e.keep (λ_ _ q _=>q) hz,Reps.frz ts r hz hA⟩
 |.tup ts,v,A,h,hz,hA=>by
  simp only[Rep,TL.frz]at h⊢
  obtain⟨a,vs,rfl,e,r⟩:=h
  exact⟨a,vs,rfl,e,Reps.frz ts r hz hA⟩
 |.ins true c ns ts,v,A,h,hz,hA=>by
  simp only[Rep,TL.frz]at h⊢
  obtain⟨a,C,dx,vs,B,rfl,rfl,hc,e,l,r⟩:=h
  exact⟨a,C,dx,vs,rfl,trivial,hc,e,hA a List.mem_cons_self,l,Reps.frz ts r hz λb hb=>hA b (List.mem_cons_of_mem _ hb)⟩
 |.ins false c ns ts,v,A,h,hz,hA=>by
  simp only[Rep,TL.frz]at h⊢
  obtain⟨a,C,dx,vs,rfl,rfl,hc,e,z,l,r⟩:=h
  exact⟨a,C,dx,vs,rfl,trivial,hc,e,hz a z,l,Reps.frz ts r hz hA⟩
theorem Reps.frz:∀(ts:List T){vs:List V}{A:List Addr},Reps K cn H Z ts vs A->(∀a,Z a->Z' a)->(∀a∈A,Z' a)->Reps K cn H Z' (frzs ts) vs []
 |[],_,_,h,_,_=>by simp only[Reps,TL.frzs]at h⊢;exact⟨h.1,trivial⟩
 |t::ts,vs,A,h,hz,hA=>by
  simp only[Reps,TL.frzs]at h⊢
  obtain⟨v,r,B,C,rfl,rfl,h1,h2⟩:=h
  exact⟨v,r,[],[],rfl,rfl,Rep.frz t h1 hz λb hb=>hA b (List.mem_append_left _ hb),Reps.frz ts h2 hz λb hb=>hA b (List.mem_append_right _ hb)⟩
end
mutual
theorem Rep.any:∀(t:T){v:V}{A:List Addr},dJ t=true->Rep K cn H Z t v A->Rep K cn H Z' t v A
 |.non,_,_,_,h=>by simpa only[Rep]using h
 |.bl _,_,_,_,h=>by simpa only[Rep]using h
 |.int _,_,_,_,h=>by simpa only[Rep]using h
 |.str _,_,_,_,h=>by simpa only[Rep]using h
 |.ty _,_,_,_,h=>by simpa only[Rep]using h
 |.lst true ts,v,A,c,h=>by
  simp only[Rep,dJ,Bool.true_and]at h c⊢
  obtain⟨a,vs,B,rfl,rfl,e,r⟩:=h
  exact⟨a,vs,B,rfl,rfl,e,Reps.any ts c r⟩
 |.lst false ts,v,A,c,h=>by simp[dJ]at c
 |.tup ts,v,A,c,h=>by
  simp only[Rep,dJ]at h c⊢
  obtain⟨a,vs,rfl,e,r⟩:=h
  exact⟨a,vs,rfl,e,Reps.any ts c r⟩
 |.ins true cc ns ts,v,A,c,h=>by
  simp only[Rep,dJ,Bool.true_and]at h c⊢
  obtain⟨a,C,dx,vs,B,rfl,rfl,hc,e,l,r⟩:=h
  exact⟨a,C,dx,vs,B,rfl,rfl,hc,e,l,Reps.any ts c r⟩
 |.ins false cc ns ts,v,A,c,h=>by simp[dJ]at c
theorem Reps.any:∀(ts:List T){vs:List V}{A:List Addr},dA ts=true->Reps K cn H Z ts vs A->Reps K cn H Z' ts vs A
 |[],_,_,_,h=>by simpa only[Reps]using h
 |t::ts,vs,A,c,h=>by
  simp only[Reps,dA,Bool.and_eq_true]at h c⊢
  obtain⟨v,r,B,C,rfl,rfl,h1,h2⟩:=h
  exact⟨v,r,B,C,rfl,rfl,Rep.any t c.1 h1,Reps.any ts c.2 h2⟩
end
mutual
theorem Rep.bare:∀(t:T){v:V}{A:List Addr},dL t=true->Rep K cn H Z t v A->A=[]
 |.non,_,_,_,h=>by simp only[Rep]at h;exact h.2
 |.bl _,_,_,_,h=>by simp only[Rep]at h;exact h.2
 |.int _,_,_,_,h=>by simp only[Rep]at h;exact h.2
 |.str _,_,_,_,h=>by simp only[Rep]at h;exact h.2
 |.ty _,_,_,_,h=>by simp only[Rep]at h;exact h.2
 |.lst true ts,v,A,c,h=>by simp[dL]at c
 |.lst false ts,v,A,c,h=>by
  simp only[Rep]at h
  obtain⟨a,vs,rfl,rfl,e,r⟩:=h
  rfl
 |.tup ts,v,A,c,h=>by
  simp only[Rep,dL]at h c
  obtain⟨a,vs,rfl,e,r⟩:=h
  exact Reps.bare ts c r
 |.ins true cc ns ts,v,A,c,h=>by simp[dL]at c
 |.ins false cc ns ts,v,A,c,h=>by
  simp only[Rep]at h
  obtain⟨a,C,dx,vs,rfl,rfl,_⟩:=h
  rfl
theorem Reps.bare:∀(ts:List T){vs:List V}{A:List Addr},aU ts=true->Reps K cn H Z ts vs A->A=[]
 |[],_,_,_,h=>by simp only[Reps]at h;exact h.2
 |t::ts,vs,A,c,h=>by
  simp only[Reps,aU,Bool.and_eq_true]at h c
  obtain⟨v,r,B,C,rfl,rfl,h1,h2⟩:=h
  rw[Rep.bare t c.1 h1,Reps.bare ts c.2 h2]
  rfl
end
mutual
theorem Rep.dom:∀(t:T){v:V}{A:List Addr},Rep K cn H Z t v A->∀a∈A,∃o,H a=some o/\rH o=false
 |.non,_,_,h=>by simp only[Rep]at h;rw[h.2];intro a ha;cases ha
 |.bl _,_,_,h=>by simp only[Rep]at h;rw[h.2];intro a ha;cases ha
 |.int _,_,_,h=>by simp only[Rep]at h;rw[h.2];intro a ha;cases ha
 |.str _,_,_,h=>by simp only[Rep]at h;rw[h.2];intro a ha;cases ha
 |.ty _,_,_,h=>by simp only[Rep]at h;rw[h.2];intro a ha;cases ha
 |.lst true ts,v,A,h=>by
  simp only[Rep]at h
  obtain⟨a,vs,B,rfl,rfl,e,r⟩:=h
  intro b hb
  rcases List.mem_cons.mp hb with rfl|hb
  . exact⟨_,e,rfl⟩
  . exact Reps.dom ts r b hb
 |.lst false ts,v,A,h=>by
  simp only[Rep]at h
  obtain⟨a,vs,rfl,rfl,e,r⟩:=h
  intro a ha;cases ha
 |.tup ts,v,A,h=>by
  simp only[Rep]at h
  obtain⟨a,vs,rfl,e,r⟩:=h
  exact Reps.dom ts r
 |.ins true cc ns ts,v,A,h=>by
  simp only[Rep]at h
  obtain⟨a,C,dx,vs,B,rfl,rfl,hc,e,l,r⟩:=h
  intro b hb
  rcases List.mem_cons.mp hb with rfl|hb
  . exact⟨_,e,rfl⟩
  . exact Reps.dom ts r b hb
 |.ins false cc ns ts,v,A,h=>by
  simp only[Rep]at h
  obtain⟨a,C,dx,vs,rfl,rfl,_⟩:=h
  intro a ha;cases ha
theorem Reps.dom:∀(ts:List T){vs:List V}{A:List Addr},Reps K cn H Z ts vs A->∀a∈A,∃o,H a=some o/\rH o=false
 |[],_,_,h=>by simp only[Reps]at h;rw[h.2];intro a ha;cases ha
 |t::ts,vs,A,h=>by
  simp only[Reps]at h
  obtain⟨v,r,B,C,rfl,rfl,h1,h2⟩:=h
  intro a ha
  rcases List.mem_append.mp ha with ha|ha
  . exact Rep.dom t h1 a ha
  . exact Reps.dom ts h2 a ha
end
theorem Reps.length:∀(ts:List T){vs:List V}{A:List Addr},Reps K cn H Z ts vs A->vs.length=ts.length
 |[],_,_,h=>by simp only[Reps]at h;rw[h.1];rfl
 |t::ts,vs,A,h=>by
  simp only[Reps]at h
  obtain⟨v,r,B,C,rfl,rfl,h1,h2⟩:=h
  simp[Reps.length ts h2]
theorem Reps.get:∀(ts:List T){vs:List V}{A:List Addr}{i:Nat}{t:T},Reps K cn H Z ts vs A->ts[i]?=some t->∃v B,vs[i]?=some v/\Rep K cn H Z t v B/\(∀b∈B,b∈A)/\B.Sublist A
 |[],_,_,_,_,h,e=>by simp at e
 |t::ts,vs,A,0,t',h,e=>by
  simp only[Reps]at h
  obtain⟨v,r,B,C,rfl,rfl,h1,h2⟩:=h
  simp at e
  subst e
  exact⟨v,B,rfl,h1,λb hb=>List.mem_append_left _ hb,List.sublist_append_left _ _⟩
 |t::ts,vs,A,i+1,t',h,e=>by
  simp only[Reps]at h
  obtain⟨v,r,B,C,rfl,rfl,h1,h2⟩:=h
  obtain⟨v',B',e1,e2,e3,e4⟩:=Reps.get ts (i:=i) h2 (by simpa using e)
  exact⟨v',B',by simpa using e1,e2,λb hb=>List.mem_append_right _ (e3 b hb),e4.trans (List.sublist_append_right _ _)⟩
theorem Reps.append:∀(ts:List T){us:List T}{vs ws:List V}{A B:List Addr},Reps K cn H Z ts vs A->Reps K cn H Z us ws B->Reps K cn H Z (ts++us) (vs++ws) (A++B)
 |[],us,vs,ws,A,B,h,h'=>by
  simp only[Reps]at h
  obtain⟨rfl,rfl⟩:=h
  exact h'
 |t::ts,us,vs,ws,A,B,h,h'=>by
  simp only[Reps,List.cons_append]at h⊢
  obtain⟨v,r,C,D,rfl,rfl,h1,h2⟩:=h
  exact⟨v,r++ws,C,D++B,rfl,by simp,h1,Reps.append ts h2 h'⟩
theorem Reps.one(h:Rep K cn H Z t v B):Reps K cn H Z [t] [v] B:=by
 simp only[Reps]
 exact⟨v,[],B,[],rfl,by simp,h,rfl,rfl⟩
theorem Reps.nil:Reps K cn H Z [] [] []:=by simp[Reps]
theorem Reps.take:∀(n:Nat)(ts:List T){vs:List V},Reps K cn H Z ts vs []->Reps K cn H Z (ts.take n) (vs.take n) []
 |0,ts,vs,h=>by simp[Reps]
 |n+1,[],vs,h=>by
  simp only[Reps]at h
  obtain⟨rfl,_⟩:=h
  simp[Reps]
 |n+1,t::ts,vs,h=>by
  simp only[Reps]at h
  obtain⟨v,r,B,C,rfl,e,h1,h2⟩:=h
  have eb:B=[]/\C=[]:=by simpa using e.symm
  obtain⟨rfl,rfl⟩:=eb
  simp only[List.take_succ_cons,Reps]
  exact⟨v,r.take n,[],[],rfl,rfl,h1,Reps.take n ts h2⟩
theorem Reps.drop:∀(n:Nat)(ts:List T){vs:List V},Reps K cn H Z ts vs []->Reps K cn H Z (ts.drop n) (vs.drop n) []
 |0,ts,vs,h=>h
 |n+1,[],vs,h=>by
  simp only[Reps]at h
  obtain⟨rfl,_⟩:=h
  simp[Reps]
 |n+1,t::ts,vs,h=>by
  simp only[Reps]at h
  obtain⟨v,r,B,C,rfl,e,h1,h2⟩:=h
  have eb:B=[]/\C=[]:=by simpa using e.symm
  obtain⟨rfl,rfl⟩:=eb
  simpa using Reps.drop n ts h2
theorem Reps.reverse:∀(ts:List T){vs:List V},Reps K cn H Z ts vs []->Reps K cn H Z ts.reverse vs.reverse []
 |[],vs,h=>by
  simp only[Reps]at h
  obtain⟨rfl,_⟩:=h
  simp[Reps]
 |t::ts,vs,h=>by
  simp only[Reps]at h
  obtain⟨v,r,B,C,rfl,e,h1,h2⟩:=h
  have eb:B=[]/\C=[]:=by simpa using e.symm
  obtain⟨rfl,rfl⟩:=eb
  simp only[List.reverse_cons]
  exact Reps.append _ (Reps.reverse ts h2) (Reps.one h1)
end
end TL
namespace TL
open PySem PySem.Spec PyProof.Rows L2
abbrev St:=L2.St
theorem am8(h:H p=none)(o:HO):Same H (L2.upd H p o):=λb u q=>by rw[bY (fV q h)];exact q
theorem cV{α:Type}{P:α->Prop}:∀b∈([]:List α),P b:=λ_ h=>nomatch h
def Slot(K:PySem.W.Frag)(cn:Str->Option Addr)(H:Hp)(Z:Addr->Prop)(o:Option T)(w:Option V)(A:List Addr):Prop:=
 match o with
 |none=>A=[]
 |some t=>∃v,w=some v/\Rep K cn H Z t v A
def Slots(K:PySem.W.Frag)(cn:Str->Option Addr)(H:Hp)(Z:Addr->Prop):Fr->St->List (List Addr)->Prop
 |[],σ,As=>σ=[]/\As=[]
 |o::ρ,σ,As=>∃w σ' A As',σ=w::σ'/\As=A::As'/\Slot K cn H Z o w A/\Slots K cn H Z ρ σ' As'
abbrev gB:=List (Nat×V)
structure Frm (Jn:gB) (K:PySem.W.Frag) (cn:Str->Option Addr) (H:Hp) (Z:Addr->Prop) (ρ:Fr) (σ:St) (As:List (List Addr)):Prop where
 sl:Slots K cn H Z ρ σ As
 nd:As.flatten.Nodup
 nz:∀a∈As.flatten,¬Z a
 zi:∀a,Z a->H a≠none
 pn:∀p∈Jn,σ[p.1]?=some (some p.2)
structure Ev (As:List (List Addr)) (H:Hp) (Z:Addr->Prop) (As':List (List Addr)) (H':Hp) (Z':Addr->Prop):Prop where
 keep:∀a o,H a=some o->a∉As.flatten->H' a=some o
 own:∀a∈As'.flatten,a∈As.flatten\/H a=none
 zz:∀a,Z a->Z' a
 zn:∀a,Z' a->Z a\/a∈As.flatten\/H a=none
 dom:∀a,H' a=none->H a=none
theorem Ev.refl:Ev As H Z As H Z:=
 ⟨λ_ _ h _=>h,λ_ h=>.inl h,λ_ h=>h,λ_ h=>.inl h,λ_ h=>h⟩
theorem Ev.trans(a:Ev As H Z As1 H1 Z1)(b:Ev As1 H1 Z1 As2 H2 Z2):Ev As H Z As2 H2 Z2 where
 keep:=λx o h n=>b.keep x o (a.keep x o h n) λq=>by
  rcases a.own x q with q|q
  . exact n q
  . rw[h]at q;cases q
 own:=λx h=>by
  rcases b.own x h with q|q
  . exact a.own x q
  . exact .inr (a.dom x q)
 zz:=λx h=>b.zz x (a.zz x h)
 zn:=λx h=>by
  rcases b.zn x h with q|q|q
  . exact a.zn x q
  . exact .inr (a.own x q)
  . exact .inr (.inr (a.dom x q))
 dom:=λx h=>a.dom x (b.dom x h)
structure Post (K:PySem.W.Frag) (cn:Str->Option Addr) (As:List (List Addr)) (H:Hp) (Z:Addr->Prop) (mv:List Nat) (H':Hp) (Z':Addr->Prop) (t:T) (v:V) (B:List Addr):Prop where
 same:Same H H'
 zz:∀a,Z a->Z' a
 zn:∀a,Z' a->Z a\/H a=none
 zi:∀a,Z' a->H' a≠none
 rep:Rep K cn H' Z' t v B
 nd:B.Nodup
 bz:∀b∈B,¬Z' b
 bn:∀b∈B,H b=none\/∃i∈mv,b∈As.getD i []
structure PostB (K:PySem.W.Frag) (cn:Str->Option Addr) (H:Hp) (Z:Addr->Prop) (H':Hp) (Z':Addr->Prop) (t:T) (v:V) (B:List Addr):Prop where
 same:Same H H'
 zz:∀a,Z a->Z' a
 zn:∀a,Z' a->Z a\/H a=none
 zi:∀a,Z' a->H' a≠none
 rep:Rep K cn H' Z' t v B
structure de5 (K:PySem.W.Frag) (cn:Str->Option Addr) (As:List (List Addr)) (H:Hp) (Z:Addr->Prop) (x:Exc) (C:Addr) (a:Option Addr) (H':Hp) (Z':Addr->Prop):Prop where
 ev:Ev As H Z [] H' Z'
 cls:cn x.c=some C
 zi:∀a,Z' a->H' a≠none
 flds:∃dx vs,a=some dx/\H' dx=some (.xd (x.ns.zip vs))/\x.ns.length=vs.length/\Reps K cn H' Z' x.xs vs []
section
variable (Jn : gB) (K : PySem.W.Frag) (cn : Str → Option Addr) (E : XK)
def WpX(As:List (List Addr))(H:Hp)(Z:Addr->Prop)(x:Exc):Prop:=∀C a H' Z',de5 K cn As H Z x C a H' Z'->E (.ref C) a H'
def WpE(As:List (List Addr))(H:Hp)(Z:Addr->Prop)(mv:List Nat)(Q:VK):Res T->Prop
 |.ok t=>∀v H' Z' B,Post K cn As H Z mv H' Z' t v B->Q v H'
 |.ex x=>WpX K cn E As H Z x
 |.no=>False
def WpB(As:List (List Addr))(H:Hp)(Z:Addr->Prop)(Q:VK):Res T->Prop
 |.ok t=>∀v H' Z' B,PostB K cn H Z H' Z' t v B->Q v H'
 |.ex x=>WpX K cn E As H Z x
 |.no=>False
structure PostT (H:Hp) (Z:Addr->Prop) (H':Hp) (Z':Addr->Prop):Prop where
 same:Same H H'
 zz:∀a,Z a->Z' a
 zn:∀a,Z' a->Z a\/H a=none
 zi:∀a,Z' a->H' a≠none
def WpT(As:List (List Addr))(H:Hp)(Z:Addr->Prop)(Q:Bool->Hp->Prop):Res Bool->Prop
 |.ok b=>∀H' Z',PostT H Z H' Z'->Q b H'
 |.ex x=>WpX K cn E As H Z x
 |.no=>False
structure dc3 (As:List (List Addr)) (H:Hp) (Z:Addr->Prop) (t:T) (v:V) (H':Hp) (Z':Addr->Prop) (B:List Addr):Prop where
 ev:Ev As H Z [B] H' Z'
 rep:Rep K cn H' Z' t v B
 nd:B.Nodup
 bz:∀b∈B,¬Z' b
 zi:∀a,Z' a->H' a≠none
def Wp(As:List (List Addr))(H:Hp)(Z:Addr->Prop)(D:zH):bR->Prop
 |.nx ρ=>∀σ' As' H' Z',Frm Jn K cn H' Z' ρ σ' As'->Ev As H Z As' H' Z'->D.nx σ' H'
 |.bk ρ=>∀σ' As' H' Z',Frm Jn K cn H' Z' ρ σ' As'->Ev As H Z As' H' Z'->D.bk σ' H'
 |.ct ρ=>∀σ' As' H' Z',Frm Jn K cn H' Z' ρ σ' As'->Ev As H Z As' H' Z'->D.ct σ' H'
 |.rt t=>∀v H' Z' B,dc3 K cn As H Z t v H' Z' B->D.rt v H'
 |.rm ρ t=>∀v σ' As' H' Z',Frm Jn K cn H' Z' ρ σ' As'->Ev As H Z As' H' Z'->Rep K cn H' Z' t v []->D.rt v H'
 |.ex x=>WpX K cn E As H Z x
 |.no=>False
def RE(mv:List Nat)(te:TE)(d:Fr->Res T):Prop:=∀As H Z ρ σ,Frm Jn K cn H Z ρ σ As->∀Q,WpE K cn E As H Z mv Q (d ρ)->te σ H Q
def RB(te:TE)(d:Fr->Res T):Prop:=∀As H Z ρ σ,Frm Jn K cn H Z ρ σ As->∀Q,WpB K cn E As H Z Q (d ρ)->te σ H Q
def RT(tt:TT)(d:Fr->Res Bool):Prop:=∀As H Z ρ σ,Frm Jn K cn H Z ρ σ As->∀Q,WpT K cn E As H Z Q (d ρ)->tt σ H Q
def RS(ts:TS)(d:Fr->bR):Prop:=∀As H Z ρ σ,Frm Jn K cn H Z ρ σ As->∀D,Wp Jn K cn E As H Z D (d ρ)->ts D σ H
end
section
variable {Jn : gB} {K : PySem.W.Frag} {cn : Str → Option Addr} {E : XK} {As As1 : List (List Addr)} {H H1 : Hp} {Z Z1 : Addr → Prop} {ρ : Fr} {σ : St}
theorem WpX.ev(h:WpX K cn E As H Z x)(e:Ev As H Z As1 H1 Z1):WpX K cn E As1 H1 Z1 x:=λC a H' Z' p=>h C a H' Z' ⟨e.trans p.ev,p.cls,p.zi,p.flds⟩
theorem Wp.ev(h:Wp Jn K cn E As H Z D o)(e:Ev As H Z As1 H1 Z1):Wp Jn K cn E As1 H1 Z1 D o:=by
 cases o with
 |nx ρ=>exact λσ' As' H' Z' f q=>h σ' As' H' Z' f (e.trans q)
 |bk ρ=>exact λσ' As' H' Z' f q=>h σ' As' H' Z' f (e.trans q)
 |ct ρ=>exact λσ' As' H' Z' f q=>h σ' As' H' Z' f (e.trans q)
 |rt t=>exact λv H' Z' B p=>h v H' Z' B ⟨e.trans p.ev,p.rep,p.nd,p.bz,p.zi⟩
 |rm ρ t=>exact λv σ' As' H' Z' f q r=>h v σ' As' H' Z' f (e.trans q) r
 |ex x=>exact WpX.ev h e
 |no=>exact h
structure Mo (H:Hp) (Z:Addr->Prop) (H':Hp) (Z':Addr->Prop):Prop where
 same:Same H H'
 zz:∀a,Z a->Z' a
 zn:∀a,Z' a->Z a\/H a=none
 zi:∀a,Z' a->H' a≠none
theorem Mo.ev(m:Mo H Z H' Z'):Ev As H Z As H' Z':=
 ⟨λa o h _=>m.same a o h,λ_ h=>.inl h,m.zz,λa h=>(m.zn a h).imp_right .inr,λa h=>m.same.free h⟩
theorem Mo.trans(a:Mo H Z H1 Z1)(b:Mo H1 Z1 H2 Z2):Mo H Z H2 Z2:=
 ⟨a.same.trans b.same,λx h=>b.zz x (a.zz x h),λx h=>by
  rcases b.zn x h with q|q
  . exact a.zn x q
  . exact .inr (a.same.free q),b.zi⟩
theorem Frm.mo0(F:Frm Jn K cn H Z ρ σ As):Mo H Z H Z:=⟨Same.refl _,λ_ h=>h,λ_ h=>.inl h,F.zi⟩
theorem Post.mo(p:Post K cn As H Z mv H' Z' t v B):Mo H Z H' Z':=⟨p.same,p.zz,p.zn,p.zi⟩
theorem PostB.mo(p:PostB K cn H Z H' Z' t v B):Mo H Z H' Z':=⟨p.same,p.zz,p.zn,p.zi⟩
theorem PostT.mo(p:PostT H Z H' Z'):Mo H Z H' Z':=⟨p.same,p.zz,p.zn,p.zi⟩
theorem Mo.postT(p:Mo H Z H' Z'):PostT H Z H' Z':=⟨p.same,p.zz,p.zn,p.zi⟩
theorem Slot.mo(h:Slot K cn H Z o w A)(s:Same H H')(hz:∀a,Z a->Z' a):Slot K cn H' Z' o w A:=by
 cases o with
 |none=>exact h
 |some t=>obtain⟨v,e,r⟩:=h;exact⟨v,e,r.same s hz⟩
theorem Slots.mo(s:Same H H')(hz:∀a,Z a->Z' a):∀{ρ:Fr}{σ:St}{As:List (List Addr)},Slots K cn H Z ρ σ As->Slots K cn H' Z' ρ σ As
 |[],_,_,h=>h
 |o::ρ,_,_,h=>by
  obtain⟨w,σ',A,As',rfl,rfl,h1,h2⟩:=h
  exact⟨w,σ',A,As',rfl,rfl,h1.mo s hz,Slots.mo s hz h2⟩
theorem Slots.dom:∀{ρ:Fr}{σ:St}{As:List (List Addr)},Slots K cn H Z ρ σ As->∀a∈As.flatten,∃o,H a=some o/\rH o=false
 |[],_,_,h,a,ha=>by obtain⟨rfl,rfl⟩:=h;simp at ha
 |o::ρ,_,_,h,a,ha=>by
  obtain⟨w,σ',A,As',rfl,rfl,h1,h2⟩:=h
  rw[List.flatten_cons,List.mem_append]at ha
  rcases ha with ha|ha
  . cases o with
    |none=>have:A=[]:=h1;subst this;cases ha
    |some t=>obtain⟨v,e,r⟩:=h1;exact r.dom t a ha
  . exact Slots.dom h2 a ha
theorem Frm.mo(F:Frm Jn K cn H Z ρ σ As)(m:Mo H Z H' Z'):Frm Jn K cn H' Z' ρ σ As:=by
 refine⟨F.sl.mo m.same m.zz,F.nd,λa ha z=>?_,m.zi,F.pn⟩
 rcases m.zn a z with q|q
 . exact F.nz a ha q
 . obtain⟨o,e,_⟩:=F.sl.dom a ha
   rw[e]at q
   cases q
theorem WpE.mo(F:Frm Jn K cn H Z ρ σ As)(h:WpE K cn E As H Z mv Q r)(m:Mo H Z H' Z'):WpE K cn E As H' Z' mv Q r:=by
 cases r with
 |ok t=>exact λv H2 Z2 B p=>h v H2 Z2 B ⟨m.same.trans p.same,λa q=>p.zz a (m.zz a q),(m.trans p.mo).zn,p.zi,p.rep,p.nd,p.bz,λb hb=>(p.bn b hb).imp_left m.same.free⟩
 |ex x=>exact WpX.ev h m.ev
 |no=>exact h
theorem WpT.mo(h:WpT K cn E As H Z Q r)(m:Mo H Z H' Z'):WpT K cn E As H' Z' Q r:=by
 cases r with
 |ok b=>exact λH2 Z2 p=>h H2 Z2 (m.trans p.mo).postT
 |ex x=>exact WpX.ev h m.ev
 |no=>exact h
theorem Slots.get:∀{ρ:Fr}{σ:St}{As:List (List Addr)}{i:Nat}{t:T},Slots K cn H Z ρ σ As->ρ[i]?=some (some t)->∃v,σ[i]?=some (some v)/\Rep K cn H Z t v (As.getD i [])
 |[],_,_,_,_,h,e=>by simp at e
 |o::ρ,_,_,0,t,h,e=>by
  obtain⟨w,σ',A,As',rfl,rfl,h1,h2⟩:=h
  simp at e
  subst e
  obtain⟨v,rfl,r⟩:=h1
  exact⟨v,rfl,r⟩
 |o::ρ,_,_,i+1,t,h,e=>by
  obtain⟨w,σ',A,As',rfl,rfl,h1,h2⟩:=h
  obtain⟨v,e1,e2⟩:=Slots.get (i:=i) h2 (by simpa using e)
  exact⟨v,by simpa using e1,by simpa using e2⟩
theorem Slots.set(r:Rep K cn H Z t v B):∀{ρ:Fr}{σ:St}{As:List (List Addr)}(i:Nat),Slots K cn H Z ρ σ As->Slots K cn H Z (ρ.set i (some t)) (σ.set i (some v)) (As.set i B)
 |[],_,_,_,h=>by obtain⟨rfl,rfl⟩:=h;exact⟨rfl,rfl⟩
 |o::ρ,_,_,0,h=>by
  obtain⟨w,σ',A,As',rfl,rfl,h1,h2⟩:=h
  exact⟨some v,σ',B,As',rfl,rfl,⟨v,rfl,r⟩,h2⟩
 |o::ρ,_,_,i+1,h=>by
  obtain⟨w,σ',A,As',rfl,rfl,h1,h2⟩:=h
  exact⟨w,σ'.set i (some v),A,As'.set i B,rfl,rfl,h1,Slots.set r i h2⟩
theorem Slots.kill:∀{ρ:Fr}{σ:St}{As:List (List Addr)}(i:Nat),Slots K cn H Z ρ σ As->Slots K cn H Z (ρ.set i none) σ (As.set i [])
 |[],_,_,_,h=>by obtain⟨rfl,rfl⟩:=h;exact⟨rfl,rfl⟩
 |o::ρ,_,_,0,h=>by
  obtain⟨w,σ',A,As',rfl,rfl,h1,h2⟩:=h
  exact⟨w,σ',[],As',rfl,rfl,rfl,h2⟩
 |o::ρ,_,_,i+1,h=>by
  obtain⟨w,σ',A,As',rfl,rfl,h1,h2⟩:=h
  exact⟨w,σ',A,As'.set i [],rfl,rfl,h1,Slots.kill i h2⟩
theorem Slots.kill2(o:Option V):∀{ρ:Fr}{σ:St}{As:List (List Addr)}(i:Nat),Slots K cn H Z ρ σ As->Slots K cn H Z (ρ.set i none) (σ.set i o) (As.set i [])
 |[],_,_,_,h=>by obtain⟨rfl,rfl⟩:=h;exact⟨rfl,rfl⟩
 |o::ρ,_,_,0,h=>by
  obtain⟨w,σ',A,As',rfl,rfl,h1,h2⟩:=h
  exact⟨_,σ',[],As',rfl,rfl,rfl,h2⟩
 |o::ρ,_,_,i+1,h=>by
  obtain⟨w,σ',A,As',rfl,rfl,h1,h2⟩:=h
  exact⟨w,_,A,As'.set i [],rfl,rfl,h1,Slots.kill2 _ i h2⟩
theorem fZ:∀{As:List (List Addr)}{i:Nat},a∈(As.set i B).flatten->a∈B\/a∈As.flatten
 |[],_,h=>by simp at h
 |A::As,0,h=>by
  rw[List.set_cons_zero,List.flatten_cons,List.mem_append]at h
  rw[List.flatten_cons,List.mem_append]
  exact h.imp_right .inr
 |A::As,i+1,h=>by
  rw[List.set_cons_succ,List.flatten_cons,List.mem_append]at h
  rw[List.flatten_cons,List.mem_append]
  rcases h with h|h
  . exact .inr (.inl h)
  . exact(fZ h).imp_right .inr
theorem lQ(hB:B.Nodup):∀{As:List (List Addr)}{i:Nat},As.flatten.Nodup->(∀b∈B,b∈As.flatten->b∈As.getD i [])->(As.set i B).flatten.Nodup
 |[],_,h,_=>h
 |A::As,0,h,d=>by
  rw[List.flatten_cons,List.nodup_append]at h
  rw[List.set_cons_zero,List.flatten_cons,List.nodup_append]
  refine⟨hB,h.2.1,λb hb c hc e=>?_⟩
  subst e
  have q:=d b hb (by rw[List.flatten_cons,List.mem_append];exact .inr hc)
  exact h.2.2 b (by simpa using q) b hc rfl
 |A::As,i+1,h,d=>by
  rw[List.flatten_cons,List.nodup_append]at h
  rw[List.set_cons_succ,List.flatten_cons,List.nodup_append]
  have d':∀b∈B,b∈As.flatten->b∈As.getD i []:=λb hb hc=>by
   have q:=d b hb (by rw[List.flatten_cons,List.mem_append];exact .inr hc)
   simpa using q
  refine⟨h.1,lQ hB h.2.1 d',λa ha c hc e=>?_⟩
  subst e
  rcases fZ hc with q|q
  . have z:=d a q (by rw[List.flatten_cons,List.mem_append];exact .inl ha)
    have z':a∈As.getD i []:=by simpa using z
    have z2:a∈As.flatten:=by
     rw[List.getD_eq_getElem?_getD]at z'
     cases e:As[i]? with
     |none=>rw[e]at z';cases z'
     |some C=>rw[e]at z';exact List.mem_flatten.mpr ⟨C,List.mem_of_getElem? e,z'⟩
    exact h.2.2 a ha a z2 rfl
  . exact h.2.2 a ha a q rfl
theorem bA(h:a∈As.getD i []):a∈As.flatten:=by
 rw[List.getD_eq_getElem?_getD]at h
 cases e:As[i]? with
 |none=>rw[e]at h;cases h
 |some C=>rw[e]at h;exact List.mem_flatten.mpr ⟨C,List.mem_of_getElem? e,h⟩
def xS(Jn:gB)(i:Nat):Bool:=Jn.all λp=>!(p.1==i)
theorem aj5(h:xS Jn i=true)(o:Option V)(q:∀p∈Jn,σ[p.1]?=some (some p.2)):∀p∈Jn,(σ.set i o)[p.1]?=some (some p.2):=λp hp=>by
 unfold xS at h
 rw[List.all_eq_true]at h
 have:=h p hp
 rw[List.getElem?_set_ne (by intro z;simp[z]at this)]
 exact q p hp
theorem Frm.set(F:Frm Jn K cn H Z ρ σ As)(r:Rep K cn H Z t v B)(nd:B.Nodup)(bz:∀b∈B,¬Z b)(i:Nat)(fr:∀b∈B,b∈As.flatten->b∈As.getD i [])(hJ:xS Jn i=true):Frm Jn K cn H Z (ρ.set i (some t)) (σ.set i (some v)) (As.set i B):=
 ⟨F.sl.set r i,lQ nd F.nd fr,λa ha=>(fZ ha).elim (bz a) (F.nz a),F.zi,aj5 hJ _ F.pn⟩
theorem Frm.kill(F:Frm Jn K cn H Z ρ σ As)(i:Nat):Frm Jn K cn H Z (ρ.set i none) σ (As.set i []):=
 ⟨F.sl.kill i,lQ List.nodup_nil F.nd (λb hb=>by cases hb),λa ha=>(fZ ha).elim (λq=>by cases q) (F.nz a),F.zi,F.pn⟩
def kills:List Nat->Fr->Fr
 |[],ρ=>ρ
 |i::is,ρ=>kills is (ρ.set i none)
def fN:List Nat->List (List Addr)->List (List Addr)
 |[],As=>As
 |i::is,As=>fN is (As.set i [])
theorem Frm.kills(mv:List Nat):∀{ρ:Fr}{As:List (List Addr)},Frm Jn K cn H Z ρ σ As->Frm Jn K cn H Z (TL.kills mv ρ) σ (fN mv As):=by
 induction mv with
 |nil=>exact λF=>F
 |cons i is ih=>exact λF=>ih (F.kill i)
theorem fJ:∀{As:List (List Addr)},a∈(fN mv As).flatten->a∈As.flatten:=by
 induction mv with
 |nil=>exact λh=>h
 |cons i is ih=>exact λh=>(fZ (ih h)).elim (λq=>by cases q) id
theorem vR:∀{As:List (List Addr)},As.flatten.Nodup->i∈mv->a∈As.getD i []->a∉(fN mv As).flatten:=by
 induction mv with
 |nil=>exact λ_ h=>by cases h
 |cons j js ih=>
  intro As nd hi ha hm
  by_cases e:i=j
  . subst e
    have h1:=fJ (mv:=js) (As:=As.set i []) hm
    have:∀{As:List (List Addr)}{i:Nat},As.flatten.Nodup->a∈As.getD i []->a∉(As.set i []).flatten:=by
     intro As
     induction As with
     |nil=>intro i _ h;simp at h
     |cons A As ih2=>
      intro i nd h hm
      rw[List.flatten_cons,List.nodup_append]at nd
      cases i with
      |zero=>
       rw[List.set_cons_zero,List.flatten_cons,List.nil_append]at hm
       exact nd.2.2 a (by simpa using h) a hm rfl
      |succ i=>
       rw[List.set_cons_succ,List.flatten_cons,List.mem_append]at hm
       have h':a∈As.getD i []:=by simpa using h
       rcases hm with hm|hm
       . exact nd.2.2 a hm a (bA h') rfl
       . exact ih2 nd.2.1 h' hm
    exact this nd ha h1
  . have hi':i∈js:=(List.mem_cons.mp hi).resolve_left e
    refine ih (As:=As.set j []) (lQ List.nodup_nil nd (λb hb=>by cases hb)) hi' ?_ hm
    rw[List.getD_eq_getElem?_getD,List.getElem?_set_ne (Ne.symm e),<-List.getD_eq_getElem?_getD]
    exact ha
def dy4(i:Nat)(ρ:Fr):Fr:=match ρ[i]? with
 |some (some t)=>ρ.set i (some (frz t))
 |_=>ρ
end
end TL
namespace TL
open PySem PySem.Spec PyProof.Rows L2
section
variable {Jn : gB} {K : PySem.W.Frag} {cn : Str → Option Addr} {E : XK}
theorem WpB.wpE(w:WpB K cn E As H Z Q r):WpE K cn E As H Z mv Q r:=by
 cases r with
 |ok t=>exact λv H' Z' B p=>w v H' Z' B ⟨p.same,p.zz,p.zn,p.zi,p.rep⟩
 |ex x=>exact w
 |no=>exact w
theorem RE.rb(h:RE Jn K cn E mv te d):RB Jn K cn E te d:=λAs H Z ρ σ F Q w=>h As H Z ρ σ F Q w.wpE
def aD(i:Nat):Fr->Res T:=λρ=>match ρ[i]? with
 |some (some t)=>.ok t
 |_=>.no
theorem cd9(i:Nat):RB Jn K cn E (af8 i) (aD i):=λAs H Z ρ σ F Q w=>by
 unfold aD at w
 cases e:ρ[i]? with
 |none=>rw[e]at w;exact False.elim w
 |some o=>
  rw[e]at w
  cases o with
  |none=>exact False.elim w
  |some t=>
   obtain⟨v,es,r⟩:=F.sl.get e
   exact⟨v,es,w v H Z _ ⟨Same.refl _,λ_ h=>h,λ_ h=>.inl h,F.zi,r⟩⟩
theorem dr2(i:Nat):RE Jn K cn E [i] (af8 i) (aD i):=λAs H Z ρ σ F Q w=>by
 unfold aD at w
 cases e:ρ[i]? with
 |none=>rw[e]at w;exact False.elim w
 |some o=>
  rw[e]at w
  cases o with
  |none=>exact False.elim w
  |some t=>
   obtain⟨v,es,r⟩:=F.sl.get e
   refine⟨v,es,w v H Z _ ⟨Same.refl _,λ_ h=>h,λ_ h=>.inl h,F.zi,r,?_,λb hb=>F.nz b (bA hb),λb hb=>.inr ⟨i,List.mem_cons_self,hb⟩⟩⟩
   have nd:=F.nd
   rw[List.getD_eq_getElem?_getD]
   cases q:As[i]? with
   |none=>exact List.nodup_nil
   |some C=>exact List.Nodup.sublist (List.sublist_flatten_of_mem (List.mem_of_getElem? q)) nd
def aR(d:Fr->Res T):Fr->Res T:=λρ=>(d ρ).bind λt=>if dL t=true then .ok t else .no
theorem RB.chk(h:RB Jn K cn E te d):RE Jn K cn E [] te (aR d):=λAs H Z ρ σ F Q w=>h As H Z ρ σ F Q (by
 unfold aR at w
 cases e:d ρ with
 |ok t=>
  rw[e]at w
  intro v H' Z' B p
  by_cases c:dL t=true
  . simp only[Res.bind,if_pos c]at w
    have:=p.rep.bare t c
    subst this
    exact w v H' Z' [] ⟨p.same,p.zz,p.zn,p.zi,p.rep,List.nodup_nil,cV,cV⟩
  . simp only[Res.bind,if_neg c]at w
    exact False.elim w
 |ex x=>rw[e]at w;exact w
 |no=>rw[e]at w;exact w)
def bz2(d:Fr->Res T):Fr->Res T:=λρ=>(d ρ).bind λt=>.ok (frz t)
theorem RE.frz{te:TE}{d:Fr->Res T}(h:RE Jn K cn E [] te d):RE Jn K cn E [] te (bz2 d):=λAs H Z ρ σ F Q w=>h As H Z ρ σ F Q (by
 unfold bz2 at w
 cases e:d ρ with
 |ok t=>
  rw[e]at w
  intro v H' Z' B p
  refine w v H' (λa=>Z' a\/a∈B) [] ⟨p.same,λa h=>.inl (p.zz a h),λa h=>?_,λa h=>?_,Rep.frz t p.rep (λa h=>.inl h) (λa h=>.inr h),List.nodup_nil,cV,cV⟩
  . rcases h with h|h
    . exact p.zn a h
    . rcases p.bn a h with q|⟨i,q,_⟩
      . exact .inr q
      . cases q
  . rcases h with h|h
    . exact p.zi a h
    . obtain⟨o,q,_⟩:=p.rep.dom t a h
      rw[q]
      exact(λz=>nomatch z)
 |ex x=>rw[e]at w;exact w
 |no=>rw[e]at w;exact w)
def dC(t:T):Fr->Res T:=λ_=>.ok t
theorem an7(h:∀H Z,Rep K cn H Z t v []):RE Jn K cn E [] (tC v) (dC t):=λAs H Z ρ σ F Q w=>
 w v H Z [] ⟨Same.refl _,λ_ h=>h,λ_ h=>.inl h,F.zi,h H Z,List.nodup_nil,cV,cV⟩
theorem do0:RE Jn K cn E [] (tC (.int i)) (dC (.int i)):=an7 λH Z=>by simp[Rep]
theorem dg0:RE Jn K cn E [] (tC (.str i)) (dC (.str i)):=an7 λH Z=>by simp[Rep]
theorem dg4:RE Jn K cn E [] (tC (.bl i)) (dC (.bl i)):=an7 λH Z=>by simp[Rep]
theorem dx0:RE Jn K cn E [] (tC .non) (dC .non):=an7 λH Z=>by simp[Rep]
theorem df3:RE Jn K cn E [] (tC (.ty n)) (dC (.ty n)):=an7 λH Z=>by simp[Rep]
def lR(K:PySem.W.Frag)(cn:Str->Option Addr)(r:R2)(f:T->T->Res T):Prop:=
 ∀(E:XK)(As:List (List Addr))(H:Hp)(Z:Addr->Prop)(t u:T)(x y:V)(A B:List Addr)(Q:VK),(∀a,Z a->H a≠none)->Rep K cn H Z t x A->Rep K cn H Z u y B->WpE K cn E As H Z [] Q (f t u)->r x y H Q
def aG(f:T->T->Res T)(a b:Fr->Res T):Fr->Res T:=λρ=>(a ρ).bind λx=>(b ρ).bind λy=>f x y
theorem dr4(hr:lR K cn r f)(ha:RB Jn K cn E ta a)(hb:RB Jn K cn E tb b):RE Jn K cn E [] (tOp r ta tb) (aG f a b):=λAs H Z ρ σ F Q w=>by
 unfold aG at w
 refine ha As H Z ρ σ F _ ?_
 cases e:a ρ with
 |ok t=>
  rw[e]at w
  intro v H1 Z1 B p
  refine hb As H1 Z1 ρ σ (F.mo p.mo) _ ?_
  simp only[Res.bind]at w
  cases e2:b ρ with
  |ok u=>
   rw[e2]at w
   intro v2 H2 Z2 B2 p2
   exact hr E As H2 Z2 t u v v2 B B2 Q p2.zi (p.rep.same p2.same p2.zz) p2.rep (w.mo F (p.mo.trans p2.mo))
  |ex x=>rw[e2]at w;exact WpX.ev w p.mo.ev
  |no=>rw[e2]at w;exact w
 |ex x=>rw[e]at w;exact w
 |no=>rw[e]at w;exact w
def dZ(f:T->Res T)(a:Fr->Res T):Fr->Res T:=λρ=>(a ρ).bind f
def R1R(K:PySem.W.Frag)(cn:Str->Option Addr)(r:V->Hp->VK->Prop)(f:T->Res T):Prop:=
 ∀(E:XK)(As:List (List Addr))(H:Hp)(Z:Addr->Prop)(t:T)(x:V)(A:List Addr)(Q:VK),(∀a,Z a->H a≠none)->Rep K cn H Z t x A->WpE K cn E As H Z [] Q (f t)->r x H Q
theorem db5(hr:R1R K cn r f)(ha:RB Jn K cn E ta a):RE Jn K cn E [] (tUn r ta) (dZ f a):=λAs H Z ρ σ F Q w=>by
 unfold dZ at w
 refine ha As H Z ρ σ F _ ?_
 cases e:a ρ with
 |ok t=>
  rw[e]at w
  exact λv H1 Z1 B p=>hr E As H1 Z1 t v B Q p.zi p.rep (WpE.mo F w p.mo)
 |ex x=>rw[e]at w;exact w
 |no=>rw[e]at w;exact w
def kI(f g:T->T->Res T)(a b c:Fr->Res T):Fr->Res T:=λρ=>(a ρ).bind λx=>(b ρ).bind λy=>(f x y).bind λk=>match k with
 |.bl true=>(c ρ).bind λz=>g y z
 |.bl false=>.ok (.bl false)
 |_=>.no
theorem WpE.bl(w:WpE K cn E As H Z [] Q (.ok (.bl b)))(zi:∀a,Z a->H a≠none):Q (.bl b) H:=
 w (.bl b) H Z [] ⟨Same.refl _,λ_ h=>h,λ_ h=>.inl h,zi,by simp[Rep],List.nodup_nil,cV,cV⟩
theorem bp8(hr:lR K cn r f)(hr':lR K cn r' g)(ha:RB Jn K cn E ta a)(hb:RB Jn K cn E tb b)(hc:RB Jn K cn E tc c):RE Jn K cn E [] (ag8 r r' ta tb tc) (kI f g a b c):=λAs H Z ρ σ F Q w=>by
 unfold kI at w
 refine ha As H Z ρ σ F _ ?_
 cases e:a ρ with
 |ok t=>
  rw[e]at w
  intro v H1 Z1 B p
  refine hb As H1 Z1 ρ σ (F.mo p.mo) _ ?_
  simp only[Res.bind]at w
  cases e2:b ρ with
  |ok u=>
   rw[e2]at w
   intro v2 H2 Z2 B2 p2
   refine hr E As H2 Z2 t u v v2 B B2 _ p2.zi (p.rep.same p2.same p2.zz) p2.rep ?_
   simp only at w
   cases e3:f t u with
   |ok k=>
    rw[e3]at w
    intro v3 H3 Z3 B3 p3
    have m3:=(p.mo.trans p2.mo).trans p3.mo
    cases k with
    |bl k=>
     have q:=p3.rep
     simp only[Rep]at q
     obtain⟨rfl,rfl⟩:=q
     refine⟨k,rfl,?_⟩
     cases k with
     |true=>
      rw[if_pos rfl]
      refine hc As H3 Z3 ρ σ (F.mo m3) _ ?_
      simp only at w
      cases e4:c ρ with
      |ok z=>
       rw[e4]at w
       intro v4 H4 Z4 B4 p4
       exact hr' E As H4 Z4 u z v2 v4 B2 B4 Q p4.zi (p2.rep.same (p3.same.trans p4.same) (λa h=>p4.zz a (p3.zz a h))) p4.rep (WpE.mo F w (m3.trans p4.mo))
      |ex x=>rw[e4]at w;exact WpX.ev w m3.ev
      |no=>rw[e4]at w;exact w
     |false=>
      rw[if_neg (by decide)]
      exact WpE.bl (WpE.mo F w m3) p3.zi
    |_=>exact False.elim w
   |ex x=>rw[e3]at w;exact WpX.ev w (p.mo.trans p2.mo).ev
   |no=>rw[e3]at w;exact w
  |ex x=>rw[e2]at w;exact WpX.ev w p.mo.ev
  |no=>rw[e2]at w;exact w
 |ex x=>rw[e]at w;exact w
 |no=>rw[e]at w;exact w
def nA(a b:Fr->Res T):Fr->Res T:=λρ=>(a ρ).bind λx=>match x with
 |.bl true=>b ρ
 |.bl false=>.ok (.bl false)
 |_=>.no
def do6(a b:Fr->Res T):Fr->Res T:=λρ=>(a ρ).bind λx=>match x with
 |.bl true=>.ok (.bl true)
 |.bl false=>b ρ
 |_=>.no
def ae0(a:Fr->Res T):Fr->Res T:=λρ=>(a ρ).bind λx=>match x with
 |.bl b=>.ok (.bl (!b))
 |_=>.no
theorem cy4(ha:RB Jn K cn E ta a)(hb:RE Jn K cn E [] tb b):RE Jn K cn E [] (ch3 ta tb) (nA a b):=λAs H Z ρ σ F Q w=>by
 unfold nA at w
 refine ha As H Z ρ σ F _ ?_
 cases e:a ρ with
 |ok t=>
  rw[e]at w
  intro v H1 Z1 B p
  cases t with
  |bl k=>
   have q:=p.rep
   simp only[Rep]at q
   obtain⟨rfl,rfl⟩:=q
   refine⟨k,rfl,?_⟩
   cases k with
   |true=>rw[if_pos rfl];exact hb As H1 Z1 ρ σ (F.mo p.mo) Q (WpE.mo F w p.mo)
   |false=>rw[if_neg (by decide)];exact WpE.bl (WpE.mo F w p.mo) p.zi
  |_=>exact False.elim w
 |ex x=>rw[e]at w;exact w
 |no=>rw[e]at w;exact w
theorem co6(ha:RB Jn K cn E ta a):RE Jn K cn E [] (ct2 ta) (ae0 a):=λAs H Z ρ σ F Q w=>by
 unfold ae0 at w
 refine ha As H Z ρ σ F _ ?_
 cases e:a ρ with
 |ok t=>
  rw[e]at w
  intro v H1 Z1 B p
  cases t with
  |bl k=>
   have q:=p.rep
   simp only[Rep]at q
   obtain⟨rfl,rfl⟩:=q
   exact⟨k,rfl,WpE.bl (WpE.mo F w p.mo) p.zi⟩
  |_=>exact False.elim w
 |ex x=>rw[e]at w;exact w
 |no=>rw[e]at w;exact w
def dIf(c:Fr->Res Bool)(a b:Fr->Res T):Fr->Res T:=λρ=>(c ρ).bind λk=>if k=true then a ρ else b ρ
theorem dq4(hc:RT Jn K cn E tt c)(ha:RE Jn K cn E [] ta a)(hb:RE Jn K cn E [] tb b):RE Jn K cn E [] (tIf tt ta tb) (dIf c a b):=λAs H Z ρ σ F Q w=>by
 unfold dIf at w
 refine hc As H Z ρ σ F _ ?_
 cases e:c ρ with
 |ok k=>
  rw[e]at w
  intro H1 Z1 p
  simp only[Res.bind]at w
  split
  . next h=>rw[if_pos h]at w;exact ha As H1 Z1 ρ σ (F.mo p.mo) Q (WpE.mo F w p.mo)
  . next h=>rw[if_neg h]at w;exact hb As H1 Z1 ρ σ (F.mo p.mo) Q (WpE.mo F w p.mo)
 |ex x=>rw[e]at w;exact w
 |no=>rw[e]at w;exact w
def toB:T->Res Bool
 |.bl b=>.ok b
 |_=>.no
def bK(a:Fr->Res T):Fr->Res Bool:=λρ=>(a ρ).bind toB
theorem bt1(ha:RB Jn K cn E ta a):RT Jn K cn E (ax6 ta) (bK a):=λAs H Z ρ σ F Q w=>by
 unfold bK at w
 refine ha As H Z ρ σ F _ ?_
 cases e:a ρ with
 |ok t=>
  rw[e]at w
  intro v H1 Z1 B p
  cases t with
  |bl k=>
   have q:=p.rep
   simp only[Rep]at q
   obtain⟨rfl,rfl⟩:=q
   exact⟨k,rfl,w H1 Z1 p.mo.postT⟩
  |_=>exact False.elim w
 |ex x=>rw[e]at w;exact w
 |no=>rw[e]at w;exact w
def sH:T->Res Bool
 |.non=>.ok false
 |.bl b=>.ok b
 |.int i=>.ok (i !=0)
 |.str x=>if x.length<=sizeLine then .ok ((x.length:Int) !=0)else .no
 |.lst _ xs=>.ok (!xs.isEmpty)
 |.tup xs=>.ok (!xs.isEmpty)
 |_=>.no
def gL(a:Fr->Res T):Fr->Res Bool:=λρ=>(a ρ).bind sH
theorem Reps.isEmpty(r:Reps K cn H Z ts vs A):vs.isEmpty=ts.isEmpty:=by
 have h:=Reps.length ts r
 cases ts<;>cases vs<;>simp_all
theorem cd6(r:Rep K cn H Z t v B)(h:sH t=.ok k):al7 K v H k:=by
 cases t with
 |non=>simp only[Rep]at r;obtain⟨rfl,_⟩:=r;cases h;rfl
 |bl b=>simp only[Rep]at r;obtain⟨rfl,_⟩:=r;cases h;rfl
 |int b=>simp only[Rep]at r;obtain⟨rfl,_⟩:=r;cases h;rfl
 |str b=>
  simp only[Rep]at r
  obtain⟨rfl,_⟩:=r
  simp only[sH]at h
  split at h
  . cases h;exact⟨by assumption,rfl⟩
  . cases h
 |lst o xs=>
  cases h
  cases o with
  |true=>
   simp only[Rep]at r
   obtain⟨a,vs,B,rfl,rfl,e,r⟩:=r
   exact .inl ⟨vs,SqL.of e,by rw[r.isEmpty]⟩
  |false=>
   simp only[Rep]at r
   obtain⟨a,vs,rfl,rfl,e,r⟩:=r
   exact .inl ⟨vs,e.sq,by rw[r.isEmpty]⟩
 |tup xs=>
  cases h
  simp only[Rep]at r
  obtain⟨a,vs,rfl,e,r⟩:=r
  exact .inr (.inl ⟨vs,e,by rw[r.isEmpty]⟩)
 |ty _=>cases h
 |ins _ _ _ _=>cases h
theorem br6(h:sH t=.ex x):False:=by
 cases t<;>simp only[sH]at h<;>first|cases h|(split at h<;>cases h)
theorem dm0(ha:RB Jn K cn E ta a):RT Jn K cn E (λσ H Q=>ta σ H λx H'=>∃k,al7 K x H' k/\Q k H') (gL a):=λAs H Z ρ σ F Q w=>by
 unfold gL at w
 refine ha As H Z ρ σ F _ ?_
 cases e:a ρ with
 |ok t=>
  rw[e]at w
  intro v H1 Z1 B p
  simp only[Res.bind]at w
  cases e2:sH t with
  |ok k=>rw[e2]at w;exact⟨k,cd6 p.rep e2,w H1 Z1 p.mo.postT⟩
  |ex x=>exact(br6 e2).elim
  |no=>rw[e2]at w;exact w.elim
 |ex x=>rw[e]at w;exact w
 |no=>rw[e]at w;exact w
def gT(c:Fr->Res Bool):Fr->Res Bool:=λρ=>(c ρ).bind λk=>.ok (!k)
def pT(c d:Fr->Res Bool):Fr->Res Bool:=λρ=>(c ρ).bind λk=>if k=true then d ρ else .ok false
def vM(c d:Fr->Res Bool):Fr->Res Bool:=λρ=>(c ρ).bind λk=>if k=true then .ok true else d ρ
theorem cb8(hc:RT Jn K cn E tt c):RT Jn K cn E (dc1 tt) (gT c):=λAs H Z ρ σ F Q w=>by
 unfold gT at w
 refine hc As H Z ρ σ F _ ?_
 cases e:c ρ with
 |ok k=>rw[e]at w;exact λH1 Z1 p=>w H1 Z1 p
 |ex x=>rw[e]at w;exact w
 |no=>rw[e]at w;exact w
theorem ch9(hc:RT Jn K cn E tt c)(hd:RT Jn K cn E uu d):RT Jn K cn E (dr1 tt uu) (pT c d):=λAs H Z ρ σ F Q w=>by
 unfold pT at w
 refine hc As H Z ρ σ F _ ?_
 cases e:c ρ with
 |ok k=>
  rw[e]at w
  intro H1 Z1 p
  cases k with
  |true=>rw[if_pos rfl];exact hd As H1 Z1 ρ σ (F.mo p.mo) Q (WpT.mo w p.mo)
  |false=>rw[if_neg (by decide)];exact w H1 Z1 p
 |ex x=>rw[e]at w;exact w
 |no=>rw[e]at w;exact w
theorem dy2(hc:RT Jn K cn E tt c)(hd:RT Jn K cn E uu d):RT Jn K cn E (tOr tt uu) (vM c d):=λAs H Z ρ σ F Q w=>by
 unfold vM at w
 refine hc As H Z ρ σ F _ ?_
 cases e:c ρ with
 |ok k=>
  rw[e]at w
  intro H1 Z1 p
  cases k with
  |false=>rw[if_neg (by decide)];exact hd As H1 Z1 ρ σ (F.mo p.mo) Q (WpT.mo w p.mo)
  |true=>rw[if_pos rfl];exact w H1 Z1 p
 |ex x=>rw[e]at w;exact w
 |no=>rw[e]at w;exact w
end
end TL
namespace TL
open PySem PySem.Spec PyProof.Rows L2
section
variable {Jn : gB} {K : PySem.W.Frag} {cn : Str → Option Addr} {E : XK}
structure dx2 (K:PySem.W.Frag) (cn:Str->Option Addr) (As:List (List Addr)) (H:Hp) (Z:Addr->Prop) (mv:List Nat) (H':Hp) (Z':Addr->Prop) (ts:List T) (vs:List V) (B:List Addr):Prop where
 mo:Mo H Z H' Z'
 rep:Reps K cn H' Z' ts vs B
 nd:B.Nodup
 bz:∀b∈B,¬Z' b
 bn:∀b∈B,H b=none\/∃i∈mv,b∈As.getD i []
def WpA(K:PySem.W.Frag)(cn:Str->Option Addr)(E:XK)(As:List (List Addr))(H:Hp)(Z:Addr->Prop)(mv:List Nat)(Q:List V->Hp->Prop):Res (List T)->Prop
 |.ok ts=>∀vs H' Z' B,dx2 K cn As H Z mv H' Z' ts vs B->Q vs H'
 |.ex x=>WpX K cn E As H Z x
 |.no=>False
def de7(K:PySem.W.Frag)(cn:Str->Option Addr)(E:XK)(As:List (List Addr))(H:Hp)(Z:Addr->Prop)(Q:List V->Hp->Prop):Res (List T)->Prop
 |.ok ts=>∀vs H' Z' B,Mo H Z H' Z'->Reps K cn H' Z' ts vs B->Q vs H'
 |.ex x=>WpX K cn E As H Z x
 |.no=>False
def RA(Jn:gB)(K:PySem.W.Frag)(cn:Str->Option Addr)(E:XK)(mv:List Nat)(ta:TA)(d:Fr->Res (List T)):Prop:=∀As H Z ρ σ,Frm Jn K cn H Z ρ σ As->∀Q,WpA K cn E As H Z mv Q (d ρ)->ta σ H Q
def tN(Jn:gB)(K:PySem.W.Frag)(cn:Str->Option Addr)(E:XK)(ta:TA)(d:Fr->Res (List T)):Prop:=∀As H Z ρ σ,Frm Jn K cn H Z ρ σ As->∀Q,de7 K cn E As H Z Q (d ρ)->ta σ H Q
def aH:Fr->Res (List T):=λ_=>.ok []
def aB(a:Fr->Res T)(r:Fr->Res (List T)):Fr->Res (List T):=λρ=>(a ρ).bind λt=>(r ρ).bind λts=>.ok (t::ts)
theorem ct9:RA Jn K cn E [] yZ aH:=λAs H Z ρ σ F Q w=>w [] H Z [] ⟨F.mo0,Reps.nil,List.nodup_nil,cV,cV⟩
theorem cr5:tN Jn K cn E yZ aH:=λAs H Z ρ σ F Q w=>w [] H Z [] F.mo0 Reps.nil
theorem bw8{As:List (List Addr)}{a:Addr}:∀{i j:Nat},As.flatten.Nodup->a∈As.getD i []->a∈As.getD j []->i=j:=by
 induction As with
 |nil=>intro i j _ h;simp at h
 |cons A As ih=>
  intro i j nd h1 h2
  rw[List.flatten_cons,List.nodup_append]at nd
  cases i with
  |zero=>
   cases j with
   |zero=>rfl
   |succ j=>exact absurd rfl (nd.2.2 a (by simpa using h1) a (bA (by simpa using h2)))
  |succ i=>
   cases j with
   |zero=>exact absurd rfl (nd.2.2 a (by simpa using h2) a (bA (by simpa using h1)))
   |succ j=>exact congrArg (· +1) (ih (i:=i) (j:=j) nd.2.1 (by simpa using h1) (by simpa using h2))
theorem cx3{mv mw:List Nat}{te:TE}{tr:TA}{a:Fr->Res T}{r:Fr->Res (List T)}(ha:RE Jn K cn E mv te a)(hr:RA Jn K cn E mw tr r)(hd:(mv.all λi=>!mw.contains i)=true:=by rfl):RA Jn K cn E (mv++mw) (xR te tr) (aB a r):=λAs H Z ρ σ F Q w=>by
 unfold aB at w
 refine ha As H Z ρ σ F _ ?_
 cases e:a ρ with
 |ok t=>
  rw[e]at w
  intro v H1 Z1 B p
  refine hr As H1 Z1 ρ σ (F.mo p.mo) _ ?_
  simp only[Res.bind]at w
  cases e2:r ρ with
  |ok ts=>
   rw[e2]at w
   intro vs H2 Z2 B2 p2
   refine w (v::vs) H2 Z2 (B++B2) ⟨p.mo.trans p2.mo,?_,?_,?_,?_⟩
   . simp only[Reps]
     exact⟨v,vs,B,B2,rfl,rfl,p.rep.same p2.mo.same p2.mo.zz,p2.rep⟩
   . rw[List.nodup_append]
     refine⟨p.nd,p2.nd,λb hb c hc z=>?_⟩
     subst z
     obtain⟨o,ho,_⟩:=p.rep.dom t b hb
     rcases p2.bn b hc with q|⟨j,hj,q⟩
     . rw[ho]at q;cases q
     . rcases p.bn b hb with z|⟨i,hi,z⟩
       . obtain⟨o',ho',_⟩:=F.sl.dom b (bA q)
         rw[ho']at z;cases z
       . have eij:=bw8 F.nd z q
         subst eij
         have hh:=List.all_eq_true.mp hd i hi
         simp at hh
         exact hh hj
   . intro b hb
     rcases List.mem_append.mp hb with hb|hb
     . intro z
       rcases p2.mo.zn b z with z|z
       . exact p.bz b hb z
       . obtain⟨o,ho,_⟩:=p.rep.dom t b hb
         rw[ho]at z;cases z
     . exact p2.bz b hb
   . intro b hb
     rcases List.mem_append.mp hb with hb|hb
     . exact(p.bn b hb).imp_right λ⟨i,hi,z⟩=>⟨i,List.mem_append_left _ hi,z⟩
     . rcases p2.bn b hb with z|⟨i,hi,z⟩
       . exact .inl (p.same.free z)
       . exact .inr ⟨i,List.mem_append_right _ hi,z⟩
  |ex x=>rw[e2]at w;exact WpX.ev w p.mo.ev
  |no=>rw[e2]at w;exact w
 |ex x=>rw[e]at w;exact w
 |no=>rw[e]at w;exact w
theorem cj2(ha:RB Jn K cn E te a)(hr:tN Jn K cn E tr r):tN Jn K cn E (xR te tr) (aB a r):=λAs H Z ρ σ F Q w=>by
 unfold aB at w
 refine ha As H Z ρ σ F _ ?_
 cases e:a ρ with
 |ok t=>
  rw[e]at w
  intro v H1 Z1 B p
  refine hr As H1 Z1 ρ σ (F.mo p.mo) _ ?_
  simp only[Res.bind]at w
  cases e2:r ρ with
  |ok ts=>
   rw[e2]at w
   intro vs H2 Z2 B2 m2 r2
   refine w (v::vs) H2 Z2 (B++B2) (p.mo.trans m2) ?_
   simp only[Reps]
   exact⟨v,vs,B,B2,rfl,rfl,p.rep.same m2.same m2.zz,r2⟩
  |ex x=>rw[e2]at w;exact WpX.ev w p.mo.ev
  |no=>rw[e2]at w;exact w
 |ex x=>rw[e]at w;exact w
 |no=>rw[e]at w;exact w
def fE(r:Fr->Res (List T)):Fr->Res T:=λρ=>(r ρ).bind λts=>if ts.length<=sizeLine then .ok (.lst true ts)else .no
def cG(r:Fr->Res (List T)):Fr->Res T:=λρ=>(r ρ).bind λts=>if ts.length<=sizeLine then .ok (.tup ts)else .no
theorem Mo.new(o:HO)(hp:H p=none)(zi:∀a,Z a->H a≠none):Mo H Z (L2.upd H p o) Z:=
 ⟨am8 hp o,λ_ h=>h,λ_ h=>.inl h,λa h=>by
  by_cases e:a=p
  . subst e;rw[dO];exact(λz=>nomatch z)
  . rw[bY e];exact zi a h⟩
theorem cf8(h:RA Jn K cn E mv ta r):RE Jn K cn E mv (db0 ta) (fE r):=λAs H Z ρ σ F Q w=>by
 unfold fE at w
 refine h As H Z ρ σ F _ ?_
 cases e:r ρ with
 |ok ts=>
  rw[e]at w
  intro vs H1 Z1 B p
  simp only[Res.bind]at w
  split at w
  . next hl=>
    refine⟨by rw[Reps.length ts p.rep];exact hl,λq hq=>?_⟩
    have hZ:¬Z1 q:=λz=>p.mo.zi q z hq
    have m:=Mo.new (.lst vs) hq p.mo.zi
    refine w (.ref q) _ Z1 (q::B) ⟨(p.mo.trans m).same,(p.mo.trans m).zz,(p.mo.trans m).zn,m.zi,?_,?_,?_,?_⟩
    . simp only[Rep]
      exact⟨q,vs,B,rfl,rfl,dO,p.rep.same m.same m.zz⟩
    . refine List.nodup_cons.mpr ⟨λhb=>?_,p.nd⟩
      obtain⟨o,ho,_⟩:=Reps.dom ts p.rep q hb
      rw[ho]at hq;cases hq
    . intro b hb
      rcases List.mem_cons.mp hb with rfl|hb
      . exact hZ
      . exact p.bz b hb
    . intro b hb
      rcases List.mem_cons.mp hb with rfl|hb
      . exact .inl (p.mo.same.free hq)
      . exact p.bn b hb
  . exact w.elim
 |ex x=>rw[e]at w;exact w
 |no=>rw[e]at w;exact w
theorem cq7(h:RA Jn K cn E mv ta r):RE Jn K cn E mv (co9 ta) (cG r):=λAs H Z ρ σ F Q w=>by
 unfold cG at w
 refine h As H Z ρ σ F _ ?_
 cases e:r ρ with
 |ok ts=>
  rw[e]at w
  intro vs H1 Z1 B p
  simp only[Res.bind]at w
  split at w
  . next hl=>
    refine⟨by rw[Reps.length ts p.rep];exact hl,λq hq=>?_⟩
    have m:=Mo.new (.tup vs) hq p.mo.zi
    refine w (.ref q) _ Z1 B ⟨(p.mo.trans m).same,(p.mo.trans m).zz,(p.mo.trans m).zn,m.zi,?_,p.nd,p.bz,p.bn⟩
    simp only[Rep]
    exact⟨q,vs,rfl,SqT.of dO,p.rep.same m.same m.zz⟩
  . exact w.elim
 |ex x=>rw[e]at w;exact w
 |no=>rw[e]at w;exact w
def tP(K:PySem.W.Frag)(cn:Str->Option Addr)(r:List V->Hp->VK->Prop)(f:List T->Res T):Prop:=
 ∀(E:XK)(As:List (List Addr))(H:Hp)(Z:Addr->Prop)(ts:List T)(xs:List V)(A:List Addr)(Q:VK),(∀a,Z a->H a≠none)->Reps K cn H Z ts xs A->WpE K cn E As H Z [] Q (f ts)->r xs H Q
def bP(f:List T->Res T)(r:Fr->Res (List T)):Fr->Res T:=λρ=>(r ρ).bind f
theorem dk3(hr:tP K cn r f)(ha:tN Jn K cn E ta a):RE Jn K cn E [] (tCB r ta) (bP f a):=λAs H Z ρ σ F Q w=>by
 unfold bP at w
 refine ha As H Z ρ σ F _ ?_
 cases e:a ρ with
 |ok ts=>rw[e]at w;exact λvs H1 Z1 B m p=>hr E As H1 Z1 ts vs B Q m.zi p (WpE.mo F w m)
 |ex x=>rw[e]at w;exact w
 |no=>rw[e]at w;exact w
def RMR(K:PySem.W.Frag)(cn:Str->Option Addr)(ty:String)(r:V->List V->Hp->VK->Prop)(f:T->List T->Res T):Prop:=
 ∀(E:XK)(As:List (List Addr))(H:Hp)(Z:Addr->Prop)(t:T)(ts:List T)(x:V)(xs:List V)(A B:List Addr)(Q:VK),(∀a,Z a->H a≠none)->Rep K cn H Z t x A->Reps K cn H Z ts xs B->WpE K cn E As H Z [] Q (f t ts)->r x xs H Q
def dBM(ok:T->Bool)(f:T->List T->Res T)(o:Fr->Res T)(r:Fr->Res (List T)):Fr->Res T:=λρ=>(o ρ).bind λt=>if ok t=true then(r ρ).bind λts=>f t ts else .no
def ae8:T->Bool
 |.str _=>true
 |_=>false
def aa1:T->Bool
 |.lst _ _=>true
 |_=>false
theorem bt5(h:ae8 t=true)(r:Rep K cn H Z t v B):tyV K "str" v H:=by
 cases t with
 |str x=>simp only[Rep]at r;obtain⟨rfl,_⟩:=r;rfl
 |_=>cases h
theorem Rep.lstSq(r:Rep K cn H Z (.lst o ts) v B):∃a vs C,v=.ref a/\SqS K H a vs/\Reps K cn H Z ts vs C/\C.Sublist B:=by
 cases o with
 |true=>
  simp only[Rep]at r
  obtain⟨a,vs,C,rfl,rfl,e,r⟩:=r
  exact⟨a,vs,C,rfl,.inl (.inl e),r,List.sublist_cons_self _ _⟩
 |false=>
  simp only[Rep]at r
  obtain⟨a,vs,rfl,rfl,e,r⟩:=r
  exact⟨a,vs,[],rfl,e.sqS,r,List.Sublist.slnil⟩
theorem by6(h:aa1 t=true)(r:Rep K cn H Z t v B):tyV K "list" v H:=by
 cases t with
 |lst o xs=>obtain⟨a,vs,C,rfl,s,_⟩:=r.lstSq;exact .inl ⟨rfl,vs,s.sq⟩
 |_=>cases h
theorem cw2(hty:∀{H:Hp}{Z:Addr->Prop}{t:T}{v:V}{B:List Addr},ok t=true->Rep K cn H Z t v B->tyV K ty v H)(hr:RMR K cn ty r f)
 (ho:RB Jn K cn E to o)(ha:tN Jn K cn E ta a):RE Jn K cn E [] (tBM K ty r to ta) (dBM ok f o a):=λAs H Z ρ σ F Q w=>by
 unfold dBM at w
 refine ho As H Z ρ σ F _ ?_
 cases e:o ρ with
 |ok t=>
  rw[e]at w
  intro v H1 Z1 B p
  simp only[Res.bind]at w
  split at w
  . next hok=>
    refine⟨hty hok p.rep,ha As H1 Z1 ρ σ (F.mo p.mo) _ ?_⟩
    cases e2:a ρ with
    |ok ts=>rw[e2]at w;exact λvs H2 Z2 B2 m r2=>hr E As H2 Z2 t ts v vs B B2 Q m.zi (p.rep.same m.same m.zz) r2 (WpE.mo F w (p.mo.trans m))
    |ex x=>rw[e2]at w;exact WpX.ev w p.mo.ev
    |no=>rw[e2]at w;exact w
  . exact w.elim
 |ex x=>rw[e]at w;exact w
 |no=>rw[e]at w;exact w
def bJ(K:PySem.W.Frag)(cn:Str->Option Addr)(n:Nat)(F:List T->Res T):Sp:=λvs H Q E=>vs.length=n/\∃ts Z,(∀a,Z a->H a≠none)/\Reps K cn H Z ts vs []/\WpE K cn E [] H Z [] Q (F ts)
def aX(n:Nat)(F:List T->Res T)(r:Fr->Res (List T)):Fr->Res T:=λρ=>(r ρ).bind λts=>if ts.length=n then match F (frzs ts)with
 |.ok t=>if(dJ t||aU ts)=true then .ok t else .no
 |_=>.no else .no
theorem cx8(ha:tN Jn K cn E ta a):RE Jn K cn E [] (co1 (bJ K cn n G) ta) (aX n G a):=λAs H Z ρ σ F Q w=>by
 unfold aX at w
 refine ha As H Z ρ σ F _ ?_
 cases e:a ρ with
 |ok ts=>
  rw[e]at w
  intro vs H1 Z1 B m r1
  simp only[Res.bind]at w
  split at w
  . next hn=>
    refine⟨by rw[Reps.length ts r1,hn],frzs ts,(λa=>Z1 a\/a∈B),λa h=>?_,Reps.frz ts r1 (λa h=>.inl h) (λa h=>.inr h),?_⟩
    . rcases h with h|h
      . exact m.zi a h
      . obtain⟨o,q,_⟩:=Reps.dom ts r1 a h
        rw[q]
        exact(λz=>nomatch z)
    cases e2:G (frzs ts)with
    |ok t=>
     rw[e2]at w
     intro v H2 Z2 C p
     simp only at w
     split at w
     . next hc=>
       rw[Bool.or_eq_true]at hc
       have bn:∀b∈C,H1 b=none:=λb hb=>(p.bn b hb).resolve_right (λ⟨i,hi,_⟩=>by cases hi)
       by_cases hcl:dJ t=true
       . refine w v H2 Z1 C ⟨m.same.trans p.same,m.zz,λa h=>m.zn a h,λa h=>?_,Rep.any t hcl p.rep,p.nd,λb hb z=>?_,λb hb=>.inl (m.same.free (bn b hb))⟩
         . intro q
           exact m.zi a h (p.same.free q)
         . exact m.zi b z (bn b hb)
       . have hno:=hc.resolve_left hcl
         have hB:=Reps.bare ts hno r1
         subst hB
         refine w v H2 Z2 C ⟨m.same.trans p.same,λa h=>p.zz a (.inl (m.zz a h)),λa h=>?_,p.zi,p.rep,p.nd,p.bz,λb hb=>.inl (m.same.free (bn b hb))⟩
         rcases p.zn a h with(h|h)|h
         . exact m.zn a h
         . cases h
         . exact .inr (m.same.free h)
     . exact w.elim
    |ex x=>rw[e2]at w;exact w.elim
    |no=>rw[e2]at w;exact w.elim
  . exact w.elim
 |ex x=>rw[e]at w;exact w
 |no=>rw[e]at w;exact w
def WpO(K:PySem.W.Frag)(cn:Str->Option Addr)(E:XK)(As:List (List Addr))(H:Hp)(Z:Addr->Prop)(Q:Option Int->Hp->Prop):Res (Option Int)->Prop
 |.ok o=>∀H' Z',Mo H Z H' Z'->Q o H'
 |.ex x=>WpX K cn E As H Z x
 |.no=>False
def RO(Jn:gB)(K:PySem.W.Frag)(cn:Str->Option Addr)(E:XK)(t:TO)(d:Fr->Res (Option Int)):Prop:=∀As H Z ρ σ,Frm Jn K cn H Z ρ σ As->∀Q,WpO K cn E As H Z Q (d ρ)->t σ H Q
def jX:Fr->Res (Option Int):=λ_=>.ok none
def toI:T->Res (Option Int)
 |.int i=>.ok (some i)
 |_=>.no
def gP(a:Fr->Res T):Fr->Res (Option Int):=λρ=>(a ρ).bind toI
theorem cy5:RO Jn K cn E bh2 jX:=λAs H Z ρ σ F Q w=>w H Z F.mo0
theorem cc5(ha:RB Jn K cn E te a):RO Jn K cn E (cq3 te) (gP a):=λAs H Z ρ σ F Q w=>by
 unfold gP at w
 refine ha As H Z ρ σ F _ ?_
 cases e:a ρ with
 |ok t=>
  rw[e]at w
  intro v H1 Z1 B p
  cases t with
  |int i=>
   have q:=p.rep
   simp only[Rep]at q
   obtain⟨rfl,rfl⟩:=q
   exact⟨i,rfl,w H1 Z1 p.mo⟩
  |_=>exact False.elim w
 |ex x=>rw[e]at w;exact w
 |no=>rw[e]at w;exact w
def RSR(K:PySem.W.Frag)(cn:Str->Option Addr)(r:V->Option Int->Option Int->Hp->VK->Prop)(f:T->Option Int->Option Int->Res T):Prop:=
 ∀(E:XK)(As:List (List Addr))(H:Hp)(Z:Addr->Prop)(t:T)(x:V)(A:List Addr)(lo hi:Option Int)(Q:VK),(∀a,Z a->H a≠none)->Rep K cn H Z t x A->WpE K cn E As H Z [] Q (f t lo hi)->r x lo hi H Q
def sW(f:T->Option Int->Option Int->Res T)(a:Fr->Res T)(l h:Fr->Res (Option Int)):Fr->Res T:=λρ=>(a ρ).bind λt=>(l ρ).bind λlo=>(h ρ).bind λhi=>f t lo hi
theorem dp5(hr:RSR K cn r f)(ha:RB Jn K cn E te a)(hl:RO Jn K cn E tl l)(hh:RO Jn K cn E th h):RE Jn K cn E [] (tSl r te tl th) (sW f a l h):=λAs H Z ρ σ F Q w=>by
 unfold sW at w
 refine ha As H Z ρ σ F _ ?_
 cases e:a ρ with
 |ok t=>
  rw[e]at w
  intro v H1 Z1 B p
  refine hl As H1 Z1 ρ σ (F.mo p.mo) _ ?_
  simp only[Res.bind]at w
  cases e2:l ρ with
  |ok lo=>
   rw[e2]at w
   intro H2 Z2 m2
   have m12:=p.mo.trans m2
   refine hh As H2 Z2 ρ σ (F.mo m12) _ ?_
   simp only at w
   cases e3:h ρ with
   |ok hi=>
    rw[e3]at w
    intro H3 Z3 m3
    exact hr E As H3 Z3 t v B lo hi Q m3.zi (p.rep.same (m2.same.trans m3.same) λa h=>m3.zz a (m2.zz a h)) (WpE.mo F w (m12.trans m3))
   |ex x=>rw[e3]at w;exact WpX.ev w m12.ev
   |no=>rw[e3]at w;exact w
  |ex x=>rw[e2]at w;exact WpX.ev w p.mo.ev
  |no=>rw[e2]at w;exact w
 |ex x=>rw[e]at w;exact w
 |no=>rw[e]at w;exact w
end
end TL
namespace TL
open PySem PySem.Spec PyProof.Rows L2
section
variable {Jn : gB} {K : PySem.W.Frag} {cn : Str → Option Addr} {E : XK}
def SqF(fz k:Bool)(K:PySem.W.Frag)(H:Hp)(Z:Addr->Prop)(l:Addr)(xs:List V):Prop:=cond k (SqT K H l xs) (if fz=true then FzL K H Z l xs else SqL K H l xs)
def gW(ts us:List T):List T:=List.zipWith (λt u=>T.tup [t,u]) ts us
def xP(ts:List T):List T:=List.zipWith (λi t=>T.tup [.int (i:Nat),t]) (List.range ts.length) ts
def Src(K:PySem.W.Frag)(cn:Str->Option Addr)(fz:Bool)(H:Hp)(Z:Addr->Prop)(J:It)(ts:List T):Prop:=
 (∃a vs,J=Itl K a/\(if fz=true then FzL K H Z a vs else SqL K H a vs)/\Reps K cn H Z ts vs [])\/
 (∃a vs,J=Itt K a/\SqT K H a vs/\Reps K cn H Z ts vs [])\/
 (∃(lo:Int)(n:Nat),J=Itr lo n/\ts=(List.range n).map λi=>T.int (lo+(i:Nat)))\/
 (∃z:Str,J=Its z/\ts=z.cps.toList.map λc=>T.str ⟨#[c]⟩)\/
 (∃k1 k2 l1 l2 vs ws us us',J=Itz K k1 k2 l1 l2/\SqF fz k1 K H Z l1 vs/\SqF fz k2 K H Z l2 ws/\Reps K cn H Z us vs []/\Reps K cn H Z us' ws []/\ts=gW us us')\/
 (∃l vs us,J=Ite K l/\SqF fz false K H Z l vs/\Reps K cn H Z us vs []/\ts=xP us)
theorem af3(h:if fz=true then FzL K H Z a vs else SqL K H a vs):SqL K H a vs:=by
 cases fz with
 |true=>rw[if_pos rfl]at h;exact h.sq
 |false=>rw[if_neg (by decide)]at h;exact h
theorem SqF.sq(h:SqF fz k K H Z l xs):vC k K H l xs:=by
 cases k with
 |true=>exact h
 |false=>exact af3 h
theorem wV:∀{us us':List T}{i:Nat},(gW us us')[i]?=some t->∃t1 t2,us[i]?=some t1/\us'[i]?=some t2/\t=.tup [t1,t2]:=by
 intro us us' i h
 unfold gW at h
 rw[List.getElem?_zipWith]at h
 cases h1:us[i]? with
 |none=>rw[h1]at h;cases h
 |some t1=>
  cases h2:us'[i]? with
  |none=>rw[h1,h2]at h;cases h
  |some t2=>
   rw[h1,h2]at h
   exact⟨t1,t2,rfl,rfl,(Option.some.inj h).symm⟩
theorem vU(us us':List T):(gW us us').length=min us.length us'.length:=by simp[gW]
theorem ar4(us:List T):(xP us).length=us.length:=by simp[xP]
theorem ao5{t:T}{us:List T}{i:Nat}(h:(xP us)[i]?=some t):∃t2,us[i]?=some t2/\t=.tup [.int i,t2]:=by
 unfold xP at h
 rw[List.getElem?_zipWith]at h
 cases h2:us[i]? with
 |none=>rw[h2]at h;cases q:(List.range us.length)[i]?<;>rw[q]at h<;>cases h
 |some t2=>
  have hi:=(List.getElem?_eq_some_iff.mp h2).1
  rw[h2,List.getElem?_range hi]at h
  exact⟨t2,rfl,(Option.some.inj h).symm⟩
theorem an9(ex:x=.ref p)(hp:H p=some (.tup [v1,v2]))(h1:Rep K cn H Z t1 v1 [])(h2:Rep K cn H Z t2 v2 []):Rep K cn H Z (.tup [t1,t2]) x []:=by
 simp only[Rep]
 refine⟨p,[v1,v2],ex,SqT.of hp,?_⟩
 simp only[Reps]
 exact⟨v1,[v2],[],[],rfl,rfl,h1,v2,[],[],[],rfl,rfl,h2,rfl,rfl⟩
theorem Src.turn{fz:Bool}{H:Hp}{Z:Addr->Prop}{J:It}{ts:List T}{i:Nat}{t:T}(h:Src K cn fz H Z J ts)(zi:∀a,Z a->H a≠none)(e:ts[i]?=some t):J.go i H/\∀x H',J.yld i H x H'->Mo H Z H' Z/\Rep K cn H' Z t x []:=by
 have m0:Mo H Z H Z:=⟨Same.refl _,λ_ h=>h,λ_ h=>.inl h,zi⟩
 rcases h with⟨a,vs,rfl,hs,r⟩|⟨a,vs,rfl,hs,r⟩|⟨lo,n,rfl,rfl⟩|⟨z,rfl,rfl⟩|⟨k1,k2,l1,l2,vs,ws,us,us',rfl,q1,q2,r1,r2,rfl⟩|⟨l,vs,us,rfl,q1,r1,rfl⟩
 . obtain⟨v,B,ev,rv,hB,_⟩:=Reps.get ts r e
   have hs:=af3 hs
   have eB:B=[]:=List.eq_nil_iff_forall_not_mem.mpr λb hb=>by cases hB b hb
   subst eB
   refine⟨⟨vs,v,hs,ev⟩,λx H' ⟨e1,e2⟩=>⟨e1▸m0,?_⟩⟩
   subst e1
   have:=e2 vs hs
   rw[ev]at this
   cases this
   exact rv
 . obtain⟨v,B,ev,rv,hB,_⟩:=Reps.get ts r e
   have eB:B=[]:=List.eq_nil_iff_forall_not_mem.mpr λb hb=>by cases hB b hb
   subst eB
   refine⟨⟨vs,v,hs,ev⟩,λx H' ⟨e1,e2⟩=>⟨e1▸m0,?_⟩⟩
   subst e1
   have:=e2 vs hs
   rw[ev]at this
   cases this
   exact rv
 . rw[List.getElem?_map]at e
   cases q:(List.range n)[i]? with
   |none=>rw[q]at e;cases e
   |some j=>
    rw[q]at e
    obtain⟨h1,h2⟩:=List.getElem?_eq_some_iff.mp q
    simp at h1 h2
    subst h2
    cases e
    refine⟨h1,λx H' ⟨e1,e2⟩=>⟨e1▸m0,?_⟩⟩
    subst e1
    subst e2
    simp[Rep]
 . rw[List.getElem?_map]at e
   cases q:z.cps.toList[i]? with
   |none=>rw[q]at e;cases e
   |some c=>
    rw[q]at e
    cases e
    have h1:=(List.getElem?_eq_some_iff.mp q).1
    refine⟨show i<z.cps.size by simpa using h1,λx H' ⟨e1,c',e2,e3⟩=>⟨e1▸m0,?_⟩⟩
    subst e1
    rw[<-Array.getElem?_toList]at e2
    rw[q]at e2
    cases e2
    subst e3
    simp[Rep]
 . obtain⟨t1,t2,e1,e2,rfl⟩:=wV e
   obtain⟨v1,B1,ev1,rv1,hB1,_⟩:=Reps.get us r1 e1
   obtain⟨v2,B2,ev2,rv2,hB2,_⟩:=Reps.get us' r2 e2
   have n1:B1=[]:=List.eq_nil_iff_forall_not_mem.mpr λb hb=>by cases hB1 b hb
   have n2:B2=[]:=List.eq_nil_iff_forall_not_mem.mpr λb hb=>by cases hB2 b hb
   subst n1 n2
   refine⟨⟨vs,ws,v1,v2,q1.sq,q2.sq,ev1,ev2⟩,λx H' ⟨p,hp,ex,h⟩=>?_⟩
   obtain⟨y1,y2,f1,f2,rfl⟩:=h vs ws q1.sq q2.sq
   rw[ev1]at f1
   rw[ev2]at f2
   cases f1
   cases f2
   have m:=Mo.new (.tup [v1,v2]) hp zi
   exact⟨m,an9 ex dO (rv1.same m.same m.zz) (rv2.same m.same m.zz)⟩
 . obtain⟨t2,e2,rfl⟩:=ao5 e
   obtain⟨v2,B2,ev2,rv2,hB2,_⟩:=Reps.get us r1 e2
   have n2:B2=[]:=List.eq_nil_iff_forall_not_mem.mpr λb hb=>by cases hB2 b hb
   subst n2
   refine⟨⟨vs,v2,q1.sq,ev2⟩,λx H' ⟨p,hp,ex,h⟩=>?_⟩
   obtain⟨y2,f2,rfl⟩:=h vs q1.sq
   rw[ev2]at f2
   cases f2
   have m:=Mo.new (.tup [.int i,v2]) hp zi
   exact⟨m,an9 ex dO (by simp[Rep]) (rv2.same m.same m.zz)⟩
theorem Src.stop(h:Src K cn fz H Z J ts)(e:ts.length<=i):J.stop i H:=by
 rcases h with⟨a,vs,rfl,hs,r⟩|⟨a,vs,rfl,hs,r⟩|⟨lo,n,rfl,rfl⟩|⟨z,rfl,rfl⟩|⟨k1,k2,l1,l2,vs,ws,us,us',rfl,q1,q2,r1,r2,rfl⟩|⟨l,vs,us,rfl,q1,r1,rfl⟩
 . exact⟨vs,af3 hs,by rw[Reps.length ts r];exact e⟩
 . exact⟨vs,hs,by rw[Reps.length ts r];exact e⟩
 . show n<=i
   simpa using e
 . have:z.cps.size<=i:=by simpa using e
   exact this
 . refine⟨vs,ws,q1.sq,q2.sq,?_⟩
   rw[Reps.length us r1,Reps.length us' r2]
   rw[vU]at e
   omega
 . refine⟨vs,q1.sq,?_⟩
   rw[Reps.length us r1]
   rw[ar4]at e
   exact e
theorem Same.sqT(e:Same H H')(h:SqT K H a xs):SqT K H' a xs:=SqT.keep h λb o q _=>e b o q
theorem SqF.mo(h:SqF fz k K H Z l xs)(m:Mo H Z H' Z'):SqF fz k K H' Z' l xs:=by
 cases k with
 |true=>exact Same.sqT m.same h
 |false=>
  cases fz with
  |true=>exact FzL.keep (show FzL K H Z l xs from h) (λb o q _=>m.same b o q) m.zz
  |false=>exact m.same.seq (show SqL K H l xs from h)
theorem SqF.kept(h:SqF true k K H Z l xs)(kz:∀b o,H b=some o->(Z b\/rH o=true)->H' b=some o)(hz:∀a,Z a->Z' a):SqF true k K H' Z' l xs:=by
 cases k with
 |true=>exact SqT.keep (show SqT K H l xs from h) λb o q c=>kz b o q (.inr c)
 |false=>exact FzL.keep (show FzL K H Z l xs from h) kz hz
theorem Src.mo(h:Src K cn fz H Z J ts)(m:Mo H Z H' Z'):Src K cn fz H' Z' J ts:=by
 rcases h with⟨a,vs,rfl,hs,r⟩|⟨a,vs,rfl,hs,r⟩|h|h|⟨k1,k2,l1,l2,vs,ws,us,us',rfl,q1,q2,r1,r2,rfl⟩|⟨l,vs,us,rfl,q1,r1,rfl⟩
 . refine .inl ⟨a,vs,rfl,?_,r.same m.same m.zz⟩
   cases fz with
   |true=>rw[if_pos rfl]at hs⊢;exact hs.keep (λb o q _=>m.same b o q) m.zz
   |false=>rw[if_neg (by decide)]at hs⊢;exact m.same.seq hs
 . exact .inr (.inl ⟨a,vs,rfl,Same.sqT m.same hs,r.same m.same m.zz⟩)
 . exact .inr (.inr (.inl h))
 . exact .inr (.inr (.inr (.inl h)))
 . exact .inr (.inr (.inr (.inr (.inl ⟨k1,k2,l1,l2,vs,ws,us,us',rfl,q1.mo m,q2.mo m,r1.same m.same m.zz,r2.same m.same m.zz,rfl⟩))))
 . exact .inr (.inr (.inr (.inr (.inr ⟨l,vs,us,rfl,q1.mo m,r1.same m.same m.zz,rfl⟩))))
theorem Src.ev(h:Src K cn true H Z J ts)(F:Frm Jn K cn H Z ρ σ As)(e:Ev As H Z As' H' Z'):Src K cn true H' Z' J ts:=by
 have kz:∀b o,H b=some o->(Z b\/rH o=true)->H' b=some o:=λb o q c=>e.keep b o q λhb=>by
  rcases c with c|c
  . exact F.nz b hb c
  . obtain⟨o',q',i'⟩:=F.sl.dom b hb
    rw[q]at q'
    cases q'
    rw[c]at i'
    cases i'
 rcases h with⟨a,vs,rfl,hs,r⟩|⟨a,vs,rfl,hs,r⟩|h|h|⟨k1,k2,l1,l2,vs,ws,us,us',rfl,q1,q2,r1,r2,rfl⟩|⟨l,vs,us,rfl,q1,r1,rfl⟩
 . rw[if_pos rfl]at hs
   refine .inl ⟨a,vs,rfl,?_,Reps.keep ts r (λb o q c=>kz b o q (c.resolve_left ((λz=>nomatch z)))) e.zz⟩
   rw[if_pos rfl]
   exact hs.keep kz e.zz
 . exact .inr (.inl ⟨a,vs,rfl,SqT.keep hs (λb o q c=>kz b o q (.inr c)),Reps.keep ts r (λb o q c=>kz b o q (c.resolve_left ((λz=>nomatch z)))) e.zz⟩)
 . exact .inr (.inr (.inl h))
 . exact .inr (.inr (.inr (.inl h)))
 . exact .inr (.inr (.inr (.inr (.inl ⟨k1,k2,l1,l2,vs,ws,us,us',rfl,q1.kept kz e.zz,q2.kept kz e.zz,Reps.keep us r1 (λb o q c=>kz b o q (c.resolve_left ((λz=>nomatch z)))) e.zz,Reps.keep us' r2 (λb o q c=>kz b o q (c.resolve_left ((λz=>nomatch z)))) e.zz,rfl⟩))))
 . exact .inr (.inr (.inr (.inr (.inr ⟨l,vs,us,rfl,q1.kept kz e.zz,Reps.keep us r1 (λb o q c=>kz b o q (c.resolve_left ((λz=>nomatch z)))) e.zz,rfl⟩))))
def WpI(K:PySem.W.Frag)(cn:Str->Option Addr)(E:XK)(fz:Bool)(As:List (List Addr))(H:Hp)(Z:Addr->Prop)(R:It->Hp->Prop):Res (List T)->Prop
 |.ok ts=>∀J H' Z',Mo H Z H' Z'->Src K cn fz H' Z' J ts->R J H'
 |.ex x=>WpX K cn E As H Z x
 |.no=>False
def RI(Jn:gB)(K:PySem.W.Frag)(cn:Str->Option Addr)(E:XK)(fz:Bool)(wi:TI)(d:Fr->Res (List T)):Prop:=∀As H Z ρ σ,Frm Jn K cn H Z ρ σ As->∀R,WpI K cn E fz As H Z R (d ρ)->wi σ H R
noncomputable def gate{α:Type}(p:Prop)(a:Res α):Res α:=@ite _ p (Classical.propDecidable p) a .no
theorem bh5(a:Res α):gate True a=a:=by unfold gate;rw[if_pos trivial]
theorem uK(h:p):gate p a=a:=by unfold gate;rw[if_pos h]
theorem WpI.gate(w:WpI K cn E fz As H Z R (TL.gate p r)):p/\WpI K cn E fz As H Z R r:=by
 unfold TL.gate at w
 split at w
 . exact⟨by assumption,w⟩
 . exact w.elim
theorem WpE.gate(w:WpE K cn E As H Z mv Q (TL.gate p r)):p/\WpE K cn E As H Z mv Q r:=by
 unfold TL.gate at w
 split at w
 . exact⟨by assumption,w⟩
 . exact w.elim
def iH(lo:Int)(n:Nat):List T:=(List.range n).map λi=>T.int (lo+(i:Nat))
noncomputable def oI:List T->Res (List T)
 |[.int j]=>gate (-(2^62)<=j/\j<2^62) (.ok (iH 0 j.toNat))
 |_=>.no
noncomputable def bh3:List T->Res (List T)
 |[.int i,.int j]=>gate (-(2^62)<=i/\i<2^62/\-(2^62)<=j/\j<2^62) (.ok (iH i (j-i).toNat))
 |_=>.no
def gN(f:List T->Res (List T))(a:Fr->Res (List T)):Fr->Res (List T):=λρ=>(a ρ).bind f
theorem Reps.ints1(r:Reps K cn H Z [.int i] vs A):vs=[.int i]:=by
 simp only[Reps,Rep]at r
 obtain⟨v,w,B,C,rfl,rfl,⟨rfl,rfl⟩,rfl,rfl⟩:=r
 rfl
theorem Reps.ints2(r:Reps K cn H Z [.int i,.int j] vs A):vs=[.int i,.int j]:=by
 simp only[Reps,Rep]at r
 obtain⟨v,w,B,C,rfl,rfl,⟨rfl,rfl⟩,v2,w2,B2,C2,rfl,rfl,⟨rfl,rfl⟩,rfl,rfl⟩:=r
 rfl
theorem cd7(ha:tN Jn K cn E ta a):RI Jn K cn E fz (cd3 ta) (gN oI a):=λAs H Z ρ σ F R w=>by
 unfold gN at w
 refine ha As H Z ρ σ F _ ?_
 cases e:a ρ with
 |ok ts=>
  rw[e]at w
  intro vs H1 Z1 B m r
  simp only[Res.bind]at w
  unfold oI at w
  split at w
  . next j=>
    obtain⟨hb,w⟩:=w.gate
    exact⟨j,r.ints1,hb.1,hb.2,w (Itr 0 j.toNat) H1 Z1 m (.inr (.inr (.inl ⟨0,j.toNat,rfl,rfl⟩)))⟩
  . exact w.elim
 |ex x=>rw[e]at w;exact w
 |no=>rw[e]at w;exact w
theorem cj6(ha:tN Jn K cn E ta a):RI Jn K cn E fz (ct3 ta) (gN bh3 a):=λAs H Z ρ σ F R w=>by
 unfold gN at w
 refine ha As H Z ρ σ F _ ?_
 cases e:a ρ with
 |ok ts=>
  rw[e]at w
  intro vs H1 Z1 B m r
  simp only[Res.bind]at w
  unfold bh3 at w
  split at w
  . next i j=>
    obtain⟨hb,w⟩:=w.gate
    exact⟨i,j,r.ints2,hb,w (Itr i (j-i).toNat) H1 Z1 m (.inr (.inr (.inl ⟨i,_,rfl,rfl⟩)))⟩
  . exact w.elim
 |ex x=>rw[e]at w;exact w
 |no=>rw[e]at w;exact w
def iV(K:PySem.W.Frag)(tl:TE):TI:=λσ H R=>tl σ H λx H1=>(∃a,x=.ref a/\(((∃xs,SqL K H1 a xs)/\R (Itl K a) H1)\/((∃xs,SqT K H1 a xs)/\R (Itt K a) H1)))\/∃z,x=.str z/\R (Its z) H1
def kD:T->Res (List T)
 |.lst _ ts=>if aU ts=true then .ok ts else .no
 |.tup ts=>if aU ts=true then .ok ts else .no
 |.str z=>.ok (z.cps.toList.map λc=>T.str ⟨#[c]⟩)
 |_=>.no
def vY:T->Res (List T)
 |.lst o ts=>if(!o&&aU ts)=true then .ok ts else .no
 |.tup ts=>if aU ts=true then .ok ts else .no
 |.str z=>.ok (z.cps.toList.map λc=>T.str ⟨#[c]⟩)
 |_=>.no
def iW(f:T->Res (List T))(a:Fr->Res T):Fr->Res (List T):=λρ=>(a ρ).bind f
theorem Reps.bareE(r:Reps K cn H Z ts vs A)(h:aU ts=true):Reps K cn H Z ts vs []:=by
 have:=Reps.bare ts h r
 subst this
 exact r
theorem dz6(ha:RB Jn K cn E tl a):RI Jn K cn E false (iV K tl) (iW kD a):=λAs H Z ρ σ F R w=>by
 unfold iW at w
 refine ha As H Z ρ σ F _ ?_
 cases e:a ρ with
 |ok t=>
  rw[e]at w
  intro v H1 Z1 B p
  simp only[Res.bind]at w
  cases t with
  |lst o ts=>
   simp only[kD]at w
   split at w
   . next hn=>
     obtain⟨b,vs,C,rfl,hs,r,_⟩:=p.rep.lstSq
     have hs:=hs.sq
     exact .inl ⟨b,rfl,.inl ⟨⟨vs,hs⟩,w _ H1 Z1 p.mo (.inl ⟨b,vs,rfl,by rw[if_neg (by decide)];exact hs,r.bareE hn⟩)⟩⟩
   . exact w.elim
  |tup ts=>
   simp only[kD]at w
   split at w
   . next hn=>
     have q:=p.rep
     simp only[Rep]at q
     obtain⟨b,vs,rfl,hs,r⟩:=q
     exact .inl ⟨b,rfl,.inr ⟨⟨vs,hs⟩,w _ H1 Z1 p.mo (.inr (.inl ⟨b,vs,rfl,hs,r.bareE hn⟩))⟩⟩
   . exact w.elim
  |str z=>
   have q:=p.rep
   simp only[Rep]at q
   obtain⟨rfl,_⟩:=q
   exact .inr ⟨z,rfl,w _ H1 Z1 p.mo (.inr (.inr (.inr (.inl ⟨z,rfl,rfl⟩))))⟩
  |_=>exact w.elim
 |ex x=>rw[e]at w;exact w
 |no=>rw[e]at w;exact w
theorem dd7(ha:RB Jn K cn E tl a):RI Jn K cn E true (iV K tl) (iW vY a):=λAs H Z ρ σ F R w=>by
 unfold iW at w
 refine ha As H Z ρ σ F _ ?_
 cases e:a ρ with
 |ok t=>
  rw[e]at w
  intro v H1 Z1 B p
  simp only[Res.bind]at w
  cases t with
  |lst o ts=>
   simp only[vY]at w
   split at w
   . next hn=>
     rw[Bool.and_eq_true]at hn
     cases o with
     |true=>exact absurd hn.1 (by decide)
     |false=>
      have q:=p.rep
      simp only[Rep]at q
      obtain⟨b,vs,rfl,rfl,hs,r⟩:=q
      exact .inl ⟨b,rfl,.inl ⟨⟨vs,hs.sq⟩,w _ H1 Z1 p.mo (.inl ⟨b,vs,rfl,by rw[if_pos rfl];exact hs,r⟩)⟩⟩
   . exact w.elim
  |tup ts=>
   simp only[vY]at w
   split at w
   . next hn=>
     have q:=p.rep
     simp only[Rep]at q
     obtain⟨b,vs,rfl,hs,r⟩:=q
     exact .inl ⟨b,rfl,.inr ⟨⟨vs,hs⟩,w _ H1 Z1 p.mo (.inr (.inl ⟨b,vs,rfl,hs,r.bareE hn⟩))⟩⟩
   . exact w.elim
  |str z=>
   have q:=p.rep
   simp only[Rep]at q
   obtain⟨rfl,_⟩:=q
   exact .inr ⟨z,rfl,w _ H1 Z1 p.mo (.inr (.inr (.inr (.inl ⟨z,rfl,rfl⟩))))⟩
  |_=>exact w.elim
 |ex x=>rw[e]at w;exact w
 |no=>rw[e]at w;exact w
def zQ(fz:Bool):T->Option (List T)
 |.lst o ts=>if((!fz||!o)&&aU ts)=true then some ts else none
 |.tup ts=>if aU ts=true then some ts else none
 |_=>none
def ay3(fz:Bool):List T->Res (List T)
 |[t,u]=>match zQ fz t,zQ fz u with
  |some ts,some us=>.ok (gW ts us)
  |_,_=>.no
 |_=>.no
def bj3(fz:Bool):List T->Res (List T)
 |[.lst o ts]=>if((!fz||!o)&&aU ts)=true then .ok (xP ts)else .no
 |_=>.no
theorem bl1(r:Rep K cn H Z (.lst o ts) v A)(hc:((!fz||!o)&&aU ts)=true):∃l vs,v=.ref l/\SqF fz false K H Z l vs/\Reps K cn H Z ts vs []:=by
 rw[Bool.and_eq_true]at hc
 cases o with
 |true=>
  simp only[Rep]at r
  obtain⟨a,vs,B,rfl,rfl,e,r⟩:=r
  cases fz with
  |true=>simp at hc
  |false=>exact⟨a,vs,rfl,SqL.of e,r.bareE hc.2⟩
 |false=>
  simp only[Rep]at r
  obtain⟨a,vs,rfl,rfl,e,r⟩:=r
  cases fz with
  |true=>exact⟨a,vs,rfl,e,r⟩
  |false=>exact⟨a,vs,rfl,e.sq,r⟩
theorem bw1(r:Rep K cn H Z t v A)(h:zQ fz t=some ts):∃k l vs,v=.ref l/\SqF fz k K H Z l vs/\Reps K cn H Z ts vs []:=by
 cases t with
 |lst o us=>
  simp only[zQ]at h
  split at h
  . next hc=>
    cases h
    exact⟨false,bl1 r hc⟩
  . cases h
 |tup us=>
  simp only[zQ]at h
  split at h
  . next hc=>
    cases h
    simp only[Rep]at r
    obtain⟨a,vs,rfl,e,r⟩:=r
    exact⟨true,a,vs,rfl,e,r.bareE hc⟩
  . cases h
 |_=>simp[zQ]at h
theorem dt1(ha:tN Jn K cn E ta a):RI Jn K cn E fz (bj8 K ta) (gN (ay3 fz) a):=λAs H Z ρ σ F R w=>by
 unfold gN at w
 refine ha As H Z ρ σ F _ ?_
 cases e:a ρ with
 |ok ts=>
  rw[e]at w
  intro vs H1 Z1 B m r1
  simp only[Res.bind]at w
  unfold ay3 at w
  split at w
  . next t u=>
    split at w
    . next p q h1 h2=>
      simp only[Reps]at r1
      obtain⟨v,r',B1,C1,rfl,rfl,ra,v2,r2,B2,C2,rfl,rfl,rb,rfl,rfl⟩:=r1
      obtain⟨k1,l1,us,rfl,s1,p1⟩:=bw1 ra h1
      obtain⟨k2,l2,us',rfl,s2,p2⟩:=bw1 rb h2
      exact⟨k1,k2,l1,l2,rfl,⟨_,s1.sq⟩,⟨_,s2.sq⟩,w _ H1 Z1 m (.inr (.inr (.inr (.inr (.inl ⟨k1,k2,l1,l2,us,us',_,_,rfl,s1,s2,p1,p2,rfl⟩)))))⟩
    . exact w.elim
  . exact w.elim
 |ex x=>rw[e]at w;exact w
 |no=>rw[e]at w;exact w
theorem ch5(ha:tN Jn K cn E ta a):RI Jn K cn E fz (bz3 K ta) (gN (bj3 fz) a):=λAs H Z ρ σ F R w=>by
 unfold gN at w
 refine ha As H Z ρ σ F _ ?_
 cases e:a ρ with
 |ok ts=>
  rw[e]at w
  intro vs H1 Z1 B m r1
  simp only[Res.bind]at w
  unfold bj3 at w
  split at w
  . next o ts=>
    split at w
    . next hc=>
      simp only[Reps]at r1
      obtain⟨v,r',B1,C1,rfl,rfl,ra,rfl,rfl⟩:=r1
      obtain⟨l1,us,rfl,s1,p1⟩:=bl1 (fz:=fz) ra hc
      exact⟨l1,rfl,⟨_,s1.sq⟩,w _ H1 Z1 m (.inr (.inr (.inr (.inr (.inr ⟨l1,us,_,rfl,s1,p1,rfl⟩)))))⟩
    . exact w.elim
  . exact w.elim
 |ex x=>rw[e]at w;exact w
 |no=>rw[e]at w;exact w
def RG(Jn:gB)(K:PySem.W.Frag)(cn:Str->Option Addr)(ks:List Nat)(g:TG)(b:T->Fr->Option Fr):Prop:=
 ∀As H Z ρ σ t v B,Frm Jn K cn H Z ρ σ As->Rep K cn H Z t v B->B.Nodup->(∀x∈B,¬Z x)->(∀x∈B,x∉As.flatten)->∀(Q:St->Hp->Prop) ρ',b t ρ=some ρ'->
  (∀σ' As',Frm Jn K cn H Z ρ' σ' As'->(∀a∈As'.flatten,a∈As.flatten\/a∈B)->σ'.length=σ.length->(∀i,i∉ks->σ'[i]?=σ[i]?)->Q σ' H)->g v σ H Q
structure RGs (Jn:gB) (K:PySem.W.Frag) (cn:Str->Option Addr) (ks:List Nat) (n:Nat) (g:TGs) (b:List T->Fr->Option Fr):Prop where
 len:∀ts ρ ρ',b ts ρ=some ρ'->ts.length=n
 run:∀As H Z ρ σ ts vs B,Frm Jn K cn H Z ρ σ As->Reps K cn H Z ts vs B->B.Nodup->(∀x∈B,¬Z x)->(∀x∈B,x∉As.flatten)->∀(Q:St->Hp->Prop) ρ',b ts ρ=some ρ'->
  (∀σ' As',Frm Jn K cn H Z ρ' σ' As'->(∀a∈As'.flatten,a∈As.flatten\/a∈B)->σ'.length=σ.length->(∀i,i∉ks->σ'[i]?=σ[i]?)->Q σ' H)->g vs σ H Q
def aJ(i:Nat):T->Fr->Option Fr:=λt ρ=>some (ρ.set i (some t))
def eI:List T->Fr->Option Fr
 |[],ρ=>some ρ
 |_::_,_=>none
def bB(b:T->Fr->Option Fr)(bs:List T->Fr->Option Fr):List T->Fr->Option Fr
 |[],_=>none
 |t::ts,ρ=>match b t ρ with
  |some ρ1=>bs ts ρ1
  |none=>none
def eD(bs:List T->Fr->Option Fr):T->Fr->Option Fr
 |.tup ts,ρ=>bs ts ρ
 |_,_=>none
theorem bf2(i:Nat)(hJ:xS Jn i=true:=by rfl):RG Jn K cn [i] (am0 i) (aJ i):=λAs H Z ρ σ t v B F r nd bz bo Q ρ' e h=>by
 cases e
 refine h _ (As.set i B) (F.set r nd bz i (λb hb hA=>absurd hA (bo b hb)) hJ) (λa ha=>(fZ ha).symm) (by rw[List.length_set]) λj hj=>?_
 rw[List.getElem?_set_ne (λz=>hj (by rw[z];exact List.mem_cons_self))]
theorem cg4:RGs Jn K cn [] 0 cz8 eI where
 len:=λts ρ ρ' e=>by
  cases ts with
  |nil=>rfl
  |cons _ _=>cases e
 run:=λAs H Z ρ σ ts vs B F r nd bz bo Q ρ' e h=>by
  cases ts with
  |nil=>
   cases e
   simp only[Reps]at r
   exact⟨r.1,h σ As F (λa ha=>.inl ha) rfl λ_ _=>rfl⟩
  |cons _ _=>cases e
theorem cz1(h1:RG Jn K cn ks g b)(h2:RGs Jn K cn ls n gs bs):RGs Jn K cn (ks++ls) (n+1) (bp3 g gs) (bB b bs) where
 len:=λts ρ ρ' e=>by
  cases ts with
  |nil=>cases e
  |cons t ts=>
   simp only[bB]at e
   cases e1:b t ρ with
   |none=>rw[e1]at e;cases e
   |some ρ1=>rw[e1]at e;rw[List.length_cons,h2.len ts ρ1 ρ' e]
 run:=λAs H Z ρ σ ts vs B F r nd bz bo Q ρ' e h=>by
  cases ts with
  |nil=>cases e
  |cons t ts=>
   simp only[bB]at e
   cases e1:b t ρ with
   |none=>rw[e1]at e;cases e
   |some ρ1=>
    rw[e1]at e
    simp only[Reps]at r
    obtain⟨v,vs',B1,B2,rfl,rfl,r1,r2⟩:=r
    rw[List.nodup_append]at nd
    refine⟨v,vs',rfl,h1 As H Z ρ σ t v B1 F r1 nd.1 (λx hx=>bz x (List.mem_append_left _ hx)) (λx hx=>bo x (List.mem_append_left _ hx)) _ ρ1 e1 λσ1 As1 F1 o1 l1 k1=>?_⟩
    refine h2.run As1 H Z ρ1 σ1 ts vs' B2 F1 r2 nd.2.1 (λx hx=>bz x (List.mem_append_right _ hx)) (λx hx hA=>?_) Q ρ' e λσ2 As2 F2 o2 l2 k2=>?_
    . rcases o1 x hA with z|z
      . exact bo x (List.mem_append_right _ hx) z
      . exact nd.2.2 x z x hx rfl
    . refine h σ2 As2 F2 (λa ha=>?_) (l2.trans l1) λi hi=>?_
      . rcases o2 a ha with z|z
        . exact(o1 a z).imp_right (List.mem_append_left _)
        . exact .inr (List.mem_append_right _ z)
      . rw[k2 i (λz=>hi (List.mem_append_right _ z)),k1 i (λz=>hi (List.mem_append_left _ z))]
theorem dv0(h:RGs Jn K cn ks n gs bs):RG Jn K cn ks (bo9 K n gs) (eD bs):=λAs H Z ρ σ t v B F r nd bz bo Q ρ' e h'=>by
 cases t with
 |tup ts=>
  simp only[eD]at e
  simp only[Rep]at r
  obtain⟨a,vs,rfl,hs,r⟩:=r
  exact⟨a,vs,rfl,hs,by rw[Reps.length ts r];exact h.len ts ρ ρ' e,h.run As H Z ρ σ ts vs B F r nd bz bo Q ρ' e h'⟩
 |_=>cases e
def bX(b:T->Fr->Option Fr)(c:Fr->Res Bool)(d:Fr->Res T)(ρ:Fr):List T->Res (List T)
 |[]=>.ok []
 |t::ts=>match b t ρ with
  |none=>.no
  |some ρ1=>(c ρ1).bind λk=>if k=true then(d ρ1).bind λu=>(bX b c d ρ ts).bind λus=>.ok (u::us)else bX b c d ρ ts
def eA(ks:List Nat)(di:Fr->Res (List T))(b:T->Fr->Option Fr)(c:Fr->Res Bool)(d:Fr->Res T):Fr->Res T:=λρ=>
 (di ρ).bind λts=>if ts.length<=sizeLine then(bX b c d (kills ks ρ) ts).bind λus=>.ok (.lst true us)else .no
def cI:Fr->Res Bool:=λ_=>.ok true
theorem cx9:RT Jn K cn E ci8 cI:=λAs H Z ρ σ F Q w=>w H Z F.mo0.postT
theorem Slots.clr(ks:List Nat):∀{ρ:Fr}{σ:St}{As:List (List Addr)},Slots K cn H Z ρ σ As->Slots K cn H Z (kills ks ρ) (L2.clr ks σ) (fN ks As):=by
 induction ks with
 |nil=>exact λh=>h
 |cons k ks ih=>exact λh=>ih (h.kill2 none k)
def tD(Jn:gB)(ks:List Nat):Bool:=ks.all (xS Jn)
theorem ao1:∀(ks:List Nat){σ:St},tD Jn ks=true->(∀p∈Jn,σ[p.1]?=some (some p.2))->∀p∈Jn,(L2.clr ks σ)[p.1]?=some (some p.2)
 |[],_,_,q=>q
 |k::ks,σ,h,q=>by
  unfold tD at h
  rw[List.all_cons,Bool.and_eq_true]at h
  exact ao1 ks h.2 (aj5 h.1 none q)
theorem Frm.clr(ks:List Nat)(F:Frm Jn K cn H Z ρ σ As)(hk:tD Jn ks=true):Frm Jn K cn H Z (TL.kills ks ρ) (L2.clr ks σ) (fN ks As):=
 ⟨F.sl.clr ks,(F.kills ks).nd,(F.kills ks).nz,F.zi,ao1 ks hk F.pn⟩
theorem cu5(hg:RG Jn K cn ks g b)(hc:RT Jn K cn E tc c)(he:RE Jn K cn E [] te d)(hk:tD Jn ks=true)
 (F:Frm Jn K cn H Z ρ σ As)(hs:Src K cn false H Z J ts)(hl:ts.length<=sizeLine)
 (w:WpE K cn E As H Z [] Q ((bX b c d (kills ks ρ) ts).bind λus=>.ok (.lst true us))):CGo ks g tc te σ (λD H'=>Q (.ref D) H') J H:=by
 let R (us:List T) (rest:List T):Res T:=(bX b c d (kills ks ρ) rest).bind λus'=>.ok (.lst true (us++us'))
 refine⟨λi m ys H'=>m=ts.length-i/\i<=ts.length/\∃us Z' B,Mo H Z H' Z'/\Reps K cn H' Z' us ys B/\B.Nodup/\(∀x∈B,¬Z' x/\H x=none)/\us.length<=i/\WpE K cn E As H Z [] Q (R us (ts.drop i)),⟨ts.length,by simp,Nat.zero_le _,[],Z,[],F.mo0,Reps.nil,List.nodup_nil,cV,Nat.le_refl _,?_⟩,?_⟩
 . simpa[R]using w
 rintro i m ys H1 ⟨rfl,hi,us,Z1,B,m1,r1,nd,bz,hul,w⟩
 have hyl:=Reps.length us r1
 have s1:=hs.mo m1
 by_cases hlt:i<ts.length
 . obtain⟨t,et⟩:∃t,ts[i]?=some t:=⟨ts[i],List.getElem?_eq_getElem hlt⟩
   obtain⟨go,yl⟩:=s1.turn m1.zi et
   have ed:ts.drop i=t::ts.drop (i+1):=by
    have:=List.getElem?_eq_some_iff.mp et
    obtain⟨h1,h2⟩:=this
    rw[<-h2]
    exact List.drop_eq_getElem_cons hlt
   refine .inr ⟨go,by omega,_,λys' H' p'=>⟨ts.length-(i+1),by omega,p'⟩,λx H' y=>?_⟩
   obtain⟨my,rx⟩:=yl x H' y
   have r1:=r1.same my.same my.zz
   have m1:=m1.trans my
   have F1:=(F.mo m1).clr ks hk
   rw[ed]at w
   simp only[R,bX]at w
   cases eb:b t (kills ks ρ)with
   |none=>rw[eb]at w;exact w.elim
   |some ρ1=>
    rw[eb]at w
    simp only at w
    refine hg (fN ks As) H' Z1 (kills ks ρ) (L2.clr ks σ) t x [] F1 rx List.nodup_nil (cV) (cV) _ ρ1 eb λσ2 As2 F2 o2 l2 k2=>⟨⟨?_,λj v hj=>?_⟩,?_⟩
    . rw[l2,nI]
    . have:=(ao3 ks σ hj).2
      rw[k2 j this,hj]
    refine hc As2 H' Z1 ρ1 σ2 F2 _ ?_
    have toX:∀{x:Exc}{H2:Hp}{Z2:Addr->Prop},Mo H' Z1 H2 Z2->WpX K cn E As H Z x->WpX K cn E As2 H2 Z2 x:=by
     intro x H2 Z2 m2 h
     refine h.ev (m1.trans m2).ev|>.ev ⟨λ_ _ q _=>q,λa ha=>?_,λ_ q=>q,λ_ q=>.inl q,λ_ q=>q⟩
     rcases o2 a ha with z|z
     . exact .inl (fJ z)
     . cases z
    cases ec:c ρ1 with
    |ok k=>
     rw[ec]at w
     intro H2 Z2 p2
     simp only[Res.bind]at w
     cases k with
     |true=>
      rw[if_pos rfl]at w
      rw[if_pos rfl]
      refine he As2 H2 Z2 ρ1 σ2 (F2.mo p2.mo) _ ?_
      cases ee:d ρ1 with
      |ok u=>
       rw[ee]at w
       intro v H3 Z3 C p3
       have m3:=(m1.trans p2.mo).trans p3.mo
       have bnC:∀y∈C,H2 y=none:=λy hy=>(p3.bn y hy).resolve_right (λ⟨i,hi,_⟩=>by cases hi)
       refine⟨rfl,hlt,us++[u],Z3,B++C,m3,Reps.append us (r1.same (p2.same.trans p3.same) (λa h=>p3.zz a (p2.zz a h))) (Reps.one p3.rep),?_,?_,by simp;omega,?_⟩
       . rw[List.nodup_append]
         refine⟨nd,p3.nd,λx hx y hy e=>?_⟩
         subst e
         obtain⟨o,ho,_⟩:=Reps.dom us r1 x hx
         have:=bnC x hy
         rw[p2.same x o ho]at this
         cases this
       . intro x hx
         rcases List.mem_append.mp hx with hx|hx
         . refine⟨λz=>?_,(bz x hx).2⟩
           obtain⟨o,ho,_⟩:=Reps.dom us r1 x hx
           rcases(p2.mo.trans p3.mo).zn x z with z|z
           . exact(bz x hx).1 z
           . rw[ho]at z;cases z
         . exact⟨p3.bz x hx,(m1.trans p2.mo).same.free (bnC x hx)⟩
       . simp only[R]
         have:∀r:Res (List T),((r.bind λus'=>Res.ok (u::us')).bind λus'=>Res.ok (T.lst true (us++us')))=r.bind λus'=>Res.ok (T.lst true (us++[u]++us')):=by
          intro r
          cases r<;>simp[Res.bind]
         simp only at w
         rw[<-this]
         exact w
      |ex x=>rw[ee]at w;exact toX p2.mo w
      |no=>rw[ee]at w;exact w.elim
     |false=>
      rw[if_neg (by decide)]at w
      rw[if_neg (by decide)]
      refine⟨rfl,hlt,us,Z2,B,m1.trans p2.mo,r1.same p2.same p2.zz,nd,λx hx=>⟨λz=>?_,(bz x hx).2⟩,by omega,w⟩
      obtain⟨o,ho,_⟩:=Reps.dom us r1 x hx
      rcases p2.zn x z with z|z
      . exact(bz x hx).1 z
      . rw[ho]at z;cases z
    |ex x=>rw[ec]at w;exact toX ⟨Same.refl _,λ_ h=>h,λ_ h=>.inl h,m1.zi⟩ w
    |no=>rw[ec]at w;exact w.elim
 . have ei:i=ts.length:=by omega
   subst ei
   refine .inl ⟨s1.stop (Nat.le_refl _),λD hD=>?_⟩
   rw[List.drop_length]at w
   simp only[R,bX,Res.bind,List.append_nil]at w
   have hm:=m1.trans (Mo.new (.lst ys) hD m1.zi)
   refine w (.ref D) _ Z1 (D::B) ⟨hm.same,hm.zz,hm.zn,hm.zi,?_,?_,?_,?_⟩
   . simp only[Rep]
     exact⟨D,ys,B,rfl,rfl,dO,r1.same (am8 hD _) (λ_ h=>h)⟩
   . refine List.nodup_cons.mpr ⟨λhb=>?_,nd⟩
     obtain⟨o,ho,_⟩:=Reps.dom us r1 D hb
     rw[ho]at hD;cases hD
   . intro x hx
     rcases List.mem_cons.mp hx with rfl|hx
     . exact λz=>m1.zi _ z hD
     . exact(bz x hx).1
   . intro x hx
     rcases List.mem_cons.mp hx with rfl|hx
     . exact .inl (m1.same.free hD)
     . exact .inl (bz x hx).2
theorem bh1(hi:RI Jn K cn E false wi di)(hg:RG Jn K cn ks g b)(hc:RT Jn K cn E tc c)(he:RE Jn K cn E [] te d)(hk:tD Jn ks=true:=by rfl):
 RE Jn K cn E [] (bb4 ks wi g tc te) (eA ks di b c d):=λAs H Z ρ σ F Q w=>by
 unfold eA at w
 refine hi As H Z ρ σ F _ ?_
 cases e:di ρ with
 |ok ts=>
  rw[e]at w
  intro J H1 Z1 m s
  simp only[Res.bind]at w
  split at w
  . next hl=>exact cu5 hg hc he hk (F.mo m) s hl (WpE.mo F w m)
  . exact w.elim
 |ex x=>rw[e]at w;exact w
 |no=>rw[e]at w;exact w
def aO(a b:Fr->bR):Fr->bR:=λρ=>match a ρ with
 |.nx ρ'=>b ρ'
 |o=>o
def bQ:Fr->bR:=λρ=>.nx ρ
theorem cw5:RS Jn K cn E cl3 bQ:=λAs H Z ρ σ F D w=>w σ As H Z F Ev.refl
theorem cg8(ha:RS Jn K cn E t a)(hb:RS Jn K cn E u b):RS Jn K cn E (dz0 t u) (aO a b):=λAs H Z ρ σ F D w=>by
 unfold aO at w
 refine ha As H Z ρ σ F _ ?_
 cases e:a ρ with
 |nx ρ'=>
  rw[e]at w
  exact λσ' As' H' Z' F' ev=>hb As' H' Z' ρ' σ' F' D (Wp.ev w ev)
 |bk ρ'=>rw[e]at w;exact w
 |ct ρ'=>rw[e]at w;exact w
 |rt t=>rw[e]at w;exact w
 |rm ρ' t=>rw[e]at w;exact w
 |ex x=>rw[e]at w;exact w
 |no=>rw[e]at w;exact w
def bE(mv:List Nat)(d:Fr->Res T)(b:T->Fr->Option Fr):Fr->bR:=λρ=>match d ρ with
 |.ok t=>match b t (kills mv ρ)with
  |some ρ'=>.nx ρ'
  |none=>.no
 |.ex x=>.ex x
 |.no=>.no
theorem Post.out(F:Frm Jn K cn H Z ρ σ As)(p:Post K cn As H Z mv H' Z' t v B):∀x∈B,x∉(fN mv As).flatten:=λx hx hA=>by
 rcases p.bn x hx with z|⟨i,hi,z⟩
 . obtain⟨o,ho,_⟩:=F.sl.dom x (fJ hA)
   rw[ho]at z;cases z
 . exact vR F.nd hi z hA
theorem Post.inA(p:Post K cn As H Z mv H' Z' t v B):∀x∈B,x∈As.flatten\/H x=none:=λx hx=>by
 rcases p.bn x hx with z|⟨i,hi,z⟩
 . exact .inr z
 . exact .inl (bA z)
theorem bm6(he:RE Jn K cn E mv te d)(hg:RG Jn K cn ks g b):RS Jn K cn E (bf4 te g) (bE mv d b):=λAs H Z ρ σ F D w=>by
 unfold bE at w
 refine he As H Z ρ σ F _ ?_
 cases e:d ρ with
 |ok t=>
  rw[e]at w
  intro v H1 Z1 B p
  simp only at w
  cases eb:b t (kills mv ρ)with
  |none=>rw[eb]at w;exact w.elim
  |some ρ'=>
   rw[eb]at w
   refine hg (fN mv As) H1 Z1 (kills mv ρ) σ t v B ((F.mo p.mo).kills mv) p.rep p.nd p.bz (p.out F) _ ρ' eb λσ' As' F' o' _ _=>?_
   refine w σ' As' H1 Z1 F' ⟨λa o h _=>p.same a o h,λa ha=>?_,p.zz,λa h=>(p.zn a h).imp_right .inr,λa h=>p.same.free h⟩
   rcases o' a ha with z|z
   . exact .inl (fJ z)
   . exact p.inA a z
 |ex x=>rw[e]at w;exact w
 |no=>rw[e]at w;exact w
theorem bx3(hi:RI Jn K cn E false wi di)(hg:RG Jn K cn ks g b)(hc:RT Jn K cn E tc c)(he:RE Jn K cn E [] te d)(hk:tD Jn ks=true:=by rfl)(hJ:xS Jn k=true:=by rfl):
 RS Jn K cn E (zP k ks wi g tc te) (bE [] (eA ks di b c d) (aJ k)):=λAs H Z ρ σ F D w=>
 bm6 (bh1 hi hg hc he hk) (bf2 k hJ) As H Z ρ σ F D w
def bF(mv:List Nat)(d:Fr->Res T):Fr->bR:=λρ=>match d ρ with
 |.ok t=>.rt t
 |.ex x=>.ex x
 |.no=>.no
theorem cv8(he:RE Jn K cn E mv te d):RS Jn K cn E (dy0 te) (bF mv d):=λAs H Z ρ σ F D w=>by
 unfold bF at w
 refine he As H Z ρ σ F _ ?_
 cases e:d ρ with
 |ok t=>
  rw[e]at w
  intro v H1 Z1 B p
  refine w v H1 Z1 B ⟨⟨λa o h _=>p.same a o h,λa ha=>?_,p.zz,λa h=>(p.zn a h).imp_right .inr,λa h=>p.same.free h⟩,p.rep,p.nd,p.bz,p.zi⟩
  rw[List.flatten_cons,List.flatten_nil,List.append_nil]at ha
  exact p.inA a ha
 |ex x=>rw[e]at w;exact w
 |no=>rw[e]at w;exact w
def cU(c:Fr->Res Bool)(a b:Fr->bR):Fr->bR:=λρ=>match c ρ with
 |.ok k=>if k=true then a ρ else b ρ
 |.ex x=>.ex x
 |.no=>.no
theorem db4(hc:RT Jn K cn E tt c)(ha:RS Jn K cn E t a)(hb:RS Jn K cn E u b):RS Jn K cn E (dk0 tt t u) (cU c a b):=λAs H Z ρ σ F D w=>by
 unfold cU at w
 refine hc As H Z ρ σ F _ ?_
 cases e:c ρ with
 |ok k=>
  rw[e]at w
  intro H1 Z1 p
  simp only at w
  split
  . next h=>rw[if_pos h]at w;exact ha As H1 Z1 ρ σ (F.mo p.mo) D (Wp.ev w p.mo.ev)
  . next h=>rw[if_neg h]at w;exact hb As H1 Z1 ρ σ (F.mo p.mo) D (Wp.ev w p.mo.ev)
 |ex x=>rw[e]at w;exact w
 |no=>rw[e]at w;exact w
def dl4(d:Fr->Res T):Fr->bR:=λρ=>match d ρ with
 |.ok _=>.nx ρ
 |.ex x=>.ex x
 |.no=>.no
def do1:Fr->bR:=λρ=>.bk ρ
def dj3:Fr->bR:=λρ=>.ct ρ
def eV(b:T->Fr->Option Fr)(body:Fr->bR):List T->Fr->bR
 |[],ρ=>.nx ρ
 |t::ts,ρ=>match b t ρ with
  |none=>.no
  |some ρ1=>match body ρ1 with
   |.nx ρ2=>eV b body ts ρ2
   |.ct ρ2=>eV b body ts ρ2
   |.bk ρ2=>.nx ρ2
   |o=>o
def kH(di:Fr->Res (List T))(b:T->Fr->Option Fr)(body:Fr->bR):Fr->bR:=λρ=>match di ρ with
 |.ok ts=>eV b body ts ρ
 |.ex x=>.ex x
 |.no=>.no
theorem cd8(hi:RI Jn K cn E true wi di)(hg:RG Jn K cn ks g b)(hb:RS Jn K cn E tb body):RS Jn K cn E (cw7 wi g tb) (kH di b body):=λAs H Z ρ σ F D w=>by
 unfold kH at w
 refine hi As H Z ρ σ F _ ?_
 cases e:di ρ with
 |ok ts=>
  rw[e]at w
  intro J H1 Z1 m s
  refine⟨λi k σ' H'=>k=ts.length-i/\i<=ts.length/\∃ρ' Z' As',Frm Jn K cn H' Z' ρ' σ' As'/\Src K cn true H' Z' J ts/\Wp Jn K cn E As' H' Z' D (eV b body (ts.drop i) ρ'),⟨ts.length,by simp,Nat.zero_le _,ρ,Z1,As,F.mo m,s,Wp.ev w m.ev⟩,?_⟩
  rintro i k σ1 H2 ⟨rfl,hle,ρ1,Z2,As1,F1,s1,w1⟩
  by_cases hlt:i<ts.length
  . obtain⟨t,et⟩:∃t,ts[i]?=some t:=⟨ts[i],List.getElem?_eq_getElem hlt⟩
    obtain⟨go,yl⟩:=s1.turn F1.zi et
    have ed:ts.drop i=t::ts.drop (i+1):=by
     obtain⟨h1,h2⟩:=List.getElem?_eq_some_iff.mp et
     rw[<-h2]
     exact List.drop_eq_getElem_cons hlt
    refine .inr ⟨go,_,λσ' H' p'=>⟨ts.length-(i+1),by omega,p'⟩,λx H' y=>?_⟩
    obtain⟨my,rx⟩:=yl x H' y
    have F1:=F1.mo my
    have s1:=s1.mo my
    have w1:=Wp.ev w1 (my.ev (As:=As1))
    rw[ed]at w1
    simp only[eV]at w1
    cases eb:b t ρ1 with
    |none=>rw[eb]at w1;exact w1.elim
    |some ρ2=>
     rw[eb]at w1
     simp only at w1
     refine hg As1 H' Z2 ρ1 σ1 t x [] F1 rx List.nodup_nil (cV) (cV) _ ρ2 eb λσ2 As2 F2 o2 _ _=>?_
     have ev2:Ev As1 H' Z2 As2 H' Z2:=⟨λ_ _ q _=>q,λa ha=>.inl ((o2 a ha).resolve_right ((λz=>nomatch z))),λ_ q=>q,λ_ q=>.inl q,λ_ q=>q⟩
     refine hb As2 H' Z2 ρ2 σ2 F2 _ ?_
     have w2:=Wp.ev w1 ev2
     cases eo:body ρ2 with
     |nx ρ3=>
      rw[eo]at w2
      exact λσ' As' H'' Z' F' ev=>⟨rfl,hlt,ρ3,Z',As',F',(s1.ev F1 ev2).ev F2 ev,Wp.ev w2 ev⟩
     |ct ρ3=>
      rw[eo]at w2
      exact λσ' As' H'' Z' F' ev=>⟨rfl,hlt,ρ3,Z',As',F',(s1.ev F1 ev2).ev F2 ev,Wp.ev w2 ev⟩
     |bk ρ3=>rw[eo]at w2;exact w2
     |rt t=>rw[eo]at w2;exact w2
     |rm ρ3 t=>rw[eo]at w2;exact w2
     |ex x=>rw[eo]at w2;exact w2
     |no=>rw[eo]at w2;exact w2
  . have ei:i=ts.length:=by omega
    subst ei
    rw[List.drop_length]at w1
    exact .inl ⟨s1.stop (Nat.le_refl _),w1 σ1 As1 H2 Z2 F1 Ev.refl⟩
 |ex x=>rw[e]at w;exact w
 |no=>rw[e]at w;exact w
end
end TL
namespace TL
open PySem PySem.Spec PyProof.Rows L2
section
variable {Jn : gB} {K : PySem.W.Frag} {cn : Str → Option Addr} {E : XK}
def uM(t':T):List Nat->T->Option T
 |[],_=>some t'
 |k::p,.lst o ts=>match ts[k]? with
  |some t=>(uM t' p t).map λu=>.lst o (ts.set k u)
  |none=>none
 |k::p,.tup ts=>match ts[k]? with
  |some t=>(uM t' p t).map λu=>.tup (ts.set k u)
  |none=>none
 |k::p,.ins o c ns ts=>match ts[k]? with
  |some t=>(uM t' p t).map λu=>.ins o c ns (ts.set k u)
  |none=>none
 |_::_,_=>none
structure Plug (K:PySem.W.Frag) (cn:Str->Option Addr) (H:Hp) (Z:Addr->Prop) (t0:T) (v0:V) (A0:List Addr) (p:List Nat) (u:T) (v:V) (B:List Addr):Prop where
 rep:Rep K cn H Z u v B
 sub:B.Sublist A0
 plug:∀H' Z' u' B',(∀a,Z a->Z' a)->(∀b o,H b=some o->((b∈A0/\b∉B)\/Z b\/rH o=true)->H' b=some o)->Rep K cn H' Z' u' v B'->B'.Nodup->(∀x∈B',x∈A0->x∈B)->
  ∃t' A',uM u' p t0=some t'/\Rep K cn H' Z' t' v0 A'/\A'.Nodup/\∀x∈A',(x∈A0/\x∉B)\/x∈B'
theorem Plug.mo(h:Plug K cn H Z t0 v0 A0 p u v B)(s:Same H H1)(zz:∀a,Z a->Z1 a):Plug K cn H1 Z1 t0 v0 A0 p u v B:=
 ⟨h.rep.same s zz,h.sub,λH' Z' u' B' z k=>h.plug H' Z' u' B' (λa q=>z a (zz a q)) λb o q c=>k b o (s b o q) (by
  rcases c with c|c|c
  . exact .inl c
  . exact .inr (.inl (zz b c))
  . exact .inr (.inr c))⟩
theorem Plug.root(h:Rep K cn H Z t0 v0 A0):Plug K cn H Z t0 v0 A0 [] t0 v0 A0:=
 ⟨h,List.Sublist.refl _,λH' Z' u' B' z k r nd _=>⟨u',B',rfl,r,nd,λx hx=>.inr hx⟩⟩
def kL:List Nat->T->Option T
 |[],t=>some t
 |k::p,.lst _ ts=>(ts[k]?).bind (kL p)
 |k::p,.tup ts=>(ts[k]?).bind (kL p)
 |k::p,.ins _ _ _ ts=>(ts[k]?).bind (kL p)
 |_::_,_=>none
def WpP(K:PySem.W.Frag)(cn:Str->Option Addr)(E:XK)(As:List (List Addr))(H:Hp)(Z:Addr->Prop)(A0:List Addr)(t0:T)(v0:V)(Q:VK):Res (List Nat)->Prop
 |.ok p=>∀u v B H' Z',Mo H Z H' Z'->kL p t0=some u->Plug K cn H' Z' t0 v0 A0 p u v B->Q v H'
 |.ex x=>WpX K cn E As H Z x
 |.no=>False
def RP(Jn:gB)(K:PySem.W.Frag)(cn:Str->Option Addr)(E:XK)(j:Nat)(to:TE)(d:Fr->Res (List Nat)):Prop:=∀As H Z ρ σ,Frm Jn K cn H Z ρ σ As->∀t0 v0,ρ[j]?=some (some t0)->σ[j]?=some (some v0)->Rep K cn H Z t0 v0 (As.getD j [])->∀Q,WpP K cn E As H Z (As.getD j []) t0 v0 Q (d ρ)->to σ H Q
def cO:Fr->Res (List Nat):=λ_=>.ok []
theorem dq0(j:Nat):RP Jn K cn E j (af8 j) cO:=λAs H Z ρ σ F t0 v0 e1 e2 r Q w=>⟨v0,e2,w t0 v0 _ H Z F.mo0 rfl (Plug.root r)⟩
def dt6:T->Option (List T)
 |.lst o ts=>if o=true then some ts else none
 |.tup ts=>some ts
 |_=>none
def pIx(j:Nat)(d:Fr->Res (List Nat))(i:Fr->Res T):Fr->Res (List Nat):=λρ=>(d ρ).bind λp=>(i ρ).bind λx=>match ρ[j]?,x with
 |some (some t0),.int n=>match(kL p t0).bind dt6 with
  |some ts=>match yR ts.length n with
   |some k=>.ok (p++[k])
   |none=>.no
  |none=>.no
 |_,_=>.no
theorem sX{As:List (List Addr)}(h:As.flatten.Nodup)(i:Nat):(As.getD i []).Nodup:=by
 rw[List.getD_eq_getElem?_getD]
 cases q:As[i]? with
 |none=>exact List.nodup_nil
 |some C=>exact List.Nodup.sublist (List.sublist_flatten_of_mem (List.mem_of_getElem? q)) h
def ak0(j:Nat)(p:List Nat)(us:List T)(ρ:Fr):bR:=match ρ[j]? with
 |some (some t0)=>match uM (.lst true us) p t0 with
  |some t'=>.nx (ρ.set j (some t'))
  |none=>.no
 |_=>.no
def al8(j:Nat)(p:List Nat)(u:T)(ρ:Fr):bR:=match ρ[j]? with
 |some (some t0)=>match uM u p t0 with
  |some t'=>.nx (ρ.set j (some t'))
  |none=>.no
 |_=>.no
theorem az3{As As1:List (List Addr)}{H H1:Hp}{Z Z1:Addr->Prop}{ρ1:Fr}{σ:St}{j:Nat}{t0:T}{v0:V}{p:List Nat}{u u':T}{v:V}{B:List Addr}{D:zH}
 (F1:Frm Jn K cn H1 Z1 ρ1 σ As1)(e1:ρ1[j]?=some (some t0))(e2:σ[j]?=some (some v0))(pl:Plug K cn H1 Z1 t0 v0 (As1.getD j []) p u v B)
 {a:Addr}{o0 o1:HO}{C0 C:List Addr}(ev:v=.ref a)(eB:B=a::C0)(ha:H1 a=some o0)(hi:rH o0=false)(hC:a∉C->¬Z1 a->Rep K cn (L2.upd H1 a o1) Z1 u' (.ref a) (a::C))(ndC:C.Nodup)(hCz:∀x∈C,¬Z1 x)(hCa:∀x∈C,x∈As1.flatten->x∈C0)
 (evl:Ev As H Z As1 H1 Z1)(hCn:∀x∈C,x∈As.flatten\/H x=none)(w:Wp Jn K cn E As H Z D (al8 j p u' ρ1)):D.nx σ (L2.upd H1 a o1):=by
 subst ev eB
 have nd:=sX F1.nd j
 have ndB:(a::C0).Nodup:=nd.sublist pl.sub
 have aA:a∈As1.getD j []:=pl.sub.mem List.mem_cons_self
 have aZ:¬Z1 a:=F1.nz a (bA aA)
 have aC:a∉C:=λh=>(List.nodup_cons.mp ndB).1 (hCa a h (bA aA))
 obtain⟨t',A',es,r',ndA,hA⟩:=pl.plug (L2.upd H1 a o1) Z1 u' (a::C) (λ_ h=>h) (λb o q c=>by
  rw[bY]
  . exact q
  . rintro rfl
    rcases c with c|c|c
    . exact c.2 List.mem_cons_self
    . exact aZ c
    . rw[ha]at q;cases q;rw[hi]at c;cases c) (hC aC aZ) (List.nodup_cons.mpr ⟨aC,ndC⟩) (λx hx hxa=>by
    rcases List.mem_cons.mp hx with rfl|hx
    . exact List.mem_cons_self
    . exact List.mem_cons_of_mem _ (hCa x hx (bA hxa)))
 unfold al8 at w
 rw[e1]at w
 simp only[es]at w
 have hA':∀x∈A',x∈As1.getD j []\/x∈C:=λx hx=>by
  rcases hA x hx with q|q
  . exact .inl q.1
  . rcases List.mem_cons.mp q with rfl|q
    . exact .inl aA
    . exact .inr q
 have slots:∀{ρ:Fr}{σ:St}{As:List (List Addr)}{i:Nat},Slots K cn H1 Z1 ρ σ As->As.flatten.Nodup->(∀x∈As.flatten,x=a->x∈As.getD i [])->σ[i]?=some (some v0)->Slots K cn (L2.upd H1 a o1) Z1 (ρ.set i (some t')) σ (As.set i A'):=by
  intro ρ
  induction ρ with
  |nil=>intro σ As i h _ _ e;obtain⟨rfl,rfl⟩:=h;simp at e
  |cons o ρ ih=>
   intro σ As i h nd hx e
   obtain⟨w',σ',A,As',rfl,rfl,h1,h2⟩:=h
   rw[List.flatten_cons,List.nodup_append]at nd
   cases i with
   |zero=>
    simp at e
    subst e
    refine⟨_,σ',A',As',rfl,rfl,⟨v0,rfl,r'⟩,?_⟩
    have na:a∉As'.flatten:=λh=>by
     have:=hx a (by rw[List.flatten_cons,List.mem_append];exact .inr h) rfl
     exact nd.2.2 a (by simpa using this) a h rfl
    have:∀{ρ:Fr}{σ:St}{As:List (List Addr)},Slots K cn H1 Z1 ρ σ As->a∉As.flatten->Slots K cn (L2.upd H1 a o1) Z1 ρ σ As:=by
     intro ρ
     induction ρ with
     |nil=>intro σ As h _;exact h
     |cons o ρ ih=>
      intro σ As h hn
      obtain⟨w',σ',A,As',rfl,rfl,h1,h2⟩:=h
      rw[List.flatten_cons,List.mem_append,not_or]at hn
      refine⟨w',σ',A,As',rfl,rfl,?_,ih h2 hn.2⟩
      cases o with
      |none=>exact h1
      |some t=>obtain⟨v,e,r⟩:=h1;exact⟨v,e,r.upd ha hi hn.1 aZ⟩
    exact this h2 na
   |succ i=>
    refine⟨w',σ',A,As'.set i A',rfl,rfl,?_,ih h2 nd.2.1 (λx hx' ex=>?_) (by simpa using e)⟩
    . have na:a∉A:=λh=>by
       have:=hx a (by rw[List.flatten_cons,List.mem_append];exact .inl h) rfl
       have:a∈As'.getD i []:=by simpa using this
       exact nd.2.2 a h a (bA this) rfl
      cases o with
      |none=>exact h1
      |some t=>obtain⟨v,e,r⟩:=h1;exact⟨v,e,r.upd ha hi na aZ⟩
    . have:=hx x (by rw[List.flatten_cons,List.mem_append];exact .inr hx') ex
      simpa using this
 refine w σ (As1.set j A') _ Z1 ⟨slots F1.sl F1.nd (λx _ ex=>by rw[ex];exact aA) e2,lQ ndA F1.nd (λb hb hf=>?_),λb hb z=>?_,λb z=>?_,F1.pn⟩ ?_
 . rcases hA' b hb with q|q
   . exact q
   . exact pl.sub.mem (List.mem_cons_of_mem _ (hCa b q hf))
 . rcases fZ hb with q|q
   . rcases hA' b q with q|q
     . exact F1.nz b (bA q) z
     . exact hCz b q z
   . exact F1.nz b q z
 . by_cases e:b=a
   . rw[e,dO];exact(λz=>nomatch z)
   . rw[bY e];exact F1.zi b z
 . refine⟨λb o q hb=>?_,λb hb=>?_,evl.zz,evl.zn,λb hb=>evl.dom b ?_⟩
   . rw[bY]
     . exact evl.keep b o q hb
     . rintro rfl
       rcases evl.own b (bA aA)with z|z
       . exact hb z
       . rw[q]at z;cases z
   . rcases fZ hb with q|q
     . rcases hA' b q with q|q
       . exact evl.own b (bA q)
       . exact hCn b q
     . exact evl.own b q
   . by_cases e:b=a
     . rw[e,dO]at hb;cases hb
     . rw[bY e]at hb;exact hb
theorem bh7
 (F1:Frm Jn K cn H1 Z1 ρ1 σ As1)(e1:ρ1[j]?=some (some t0))(e2:σ[j]?=some (some v0))(pl:Plug K cn H1 Z1 t0 v0 (As1.getD j []) p (.lst true us) v B)
 (ev:v=.ref a)(eB:B=a::C0)(ha:H1 a=some (.lst ws))(hC:Reps K cn H1 Z1 us' ws' C)(ndC:C.Nodup)(hCz:∀x∈C,¬Z1 x)(hCa:∀x∈C,x∈As1.flatten->x∈C0)
 (evl:Ev As H Z As1 H1 Z1)(hCn:∀x∈C,x∈As.flatten\/H x=none)(w:Wp Jn K cn E As H Z D (ak0 j p us' ρ1)):D.nx σ (L2.upd H1 a (.lst ws')):=by
 subst ev eB
 refine az3 (E:=E) F1 e1 e2 pl rfl rfl ha rfl (u':=.lst true us') (λaC aZ=>?_) ndC hCz hCa evl hCn w
 simp only[Rep]
 exact⟨a,ws',C,rfl,rfl,dO,Reps.upd hC ha rfl aC aZ⟩
def gS(j:Nat)(mv:List Nat)(d:Fr->Res (List Nat))(e:Fr->Res T):Fr->bR:=λρ=>match ρ[j]? with
 |some (some t0)=>match d ρ with
  |.ok p=>match kL p t0 with
   |some (.lst true us)=>match e ρ with
    |.ok t=>if us.length<sizeLine then ak0 j p (us++[t]) (kills mv ρ)else .no
    |.ex x=>.ex x
    |.no=>.no
   |_=>.no
  |.ex x=>.ex x
  |.no=>.no
 |_=>.no
theorem uD:∀(mv:List Nat),mv.contains j=false->∀As:List (List Addr),(fN mv As).getD j []=As.getD j []
 |[],_,_=>rfl
 |i::is,h,As=>by
  simp only[List.contains_cons,Bool.or_eq_false_iff,beq_eq_false_iff_ne]at h
  show(fN is (As.set i [])).getD j []=_
  rw[uD is h.2,List.getD_eq_getElem?_getD,List.getElem?_set_ne (Ne.symm h.1),<-List.getD_eq_getElem?_getD]
theorem xE:∀(mv:List Nat),mv.contains j=false->∀ρ:Fr,(kills mv ρ)[j]?=ρ[j]?
 |[],_,_=>rfl
 |i::is,h,ρ=>by
  simp only[List.contains_cons,Bool.or_eq_false_iff,beq_eq_false_iff_ne]at h
  show(kills is (ρ.set i none))[j]?=_
  rw[xE is h.2,List.getElem?_set_ne (Ne.symm h.1)]
theorem co8{j:Nat}{mv:List Nat}{to te:TE}{d:Fr->Res (List Nat)}{e:Fr->Res T}(hd:RP Jn K cn E j to d)(he:RE Jn K cn E mv te e)(hj:mv.contains j=false:=by rfl):RS Jn K cn E (bq2 (tBM K "list" an3 to (xR te yZ))) (gS j mv d e):=λAs H Z ρ σ F D w=>by
 unfold gS at w
 cases e1:ρ[j]? with
 |none=>rw[e1]at w;exact w.elim
 |some o=>
  rw[e1]at w
  cases o with
  |none=>exact w.elim
  |some t0=>
   obtain⟨v0,e2,r0⟩:=F.sl.get e1
   refine hd As H Z ρ σ F t0 v0 e1 e2 r0 _ ?_
   simp only at w
   cases ed:d ρ with
   |ok p=>
    rw[ed]at w
    intro u v B H1 Z1 m1 hn pl
    simp only[hn]at w
    split at w
    . next us hq=>
      cases hq
      have q:=pl.rep
      simp only[Rep]at q
      obtain⟨a,ws,C0,rfl,rfl,ea,rs⟩:=q
      refine⟨.inl ⟨rfl,ws,SqL.of ea⟩,he As H1 Z1 ρ σ (F.mo m1) _ ?_⟩
      cases ee:e ρ with
      |ok t=>
       rw[ee]at w
       intro y H2 Z2 C p2
       simp only at w
       split at w
       . next hlen=>
         have pl2:=pl.mo p2.same p2.zz
         have ea2:=p2.same _ _ ea
         have rs2:=rs.same p2.same p2.zz
         refine⟨a,ws,y,rfl,rfl,ea2,by rw[Reps.length us rs];exact hlen,?_⟩
         have m2:=m1.trans p2.mo
         have F2:=(F.mo m2).kills mv
         have gD:(fN mv As).getD j []=As.getD j []:=uD mv hj As
         have pl3:Plug K cn H2 Z2 t0 v0 ((fN mv As).getD j []) p (.lst true us) (.ref a) (a::C0):=by rw[gD];exact pl2
         have ndB:(a::C0).Nodup:=(sX F.nd j).sublist pl.sub
         have c0A:∀x∈C0,x∈As.getD j []:=λx hx=>pl.sub.mem (List.mem_cons_of_mem _ hx)
         have cOut:∀x∈C,x∉(fN mv As).flatten:=λx hx hA=>by
          rcases p2.bn x hx with z|⟨i,hi,z⟩
          . obtain⟨o,ho,_⟩:=(F.mo m1).sl.dom x (fJ hA)
            rw[ho]at z;cases z
          . exact vR F.nd hi z hA
         have c0In:∀x∈C0,x∈(fN mv As).flatten:=λx hx=>bA (i:=j) (by rw[gD];exact c0A x hx)
         refine bh7 (As:=As) (H:=H) (Z:=Z) (E:=E) F2 (by rw[xE mv hj];exact e1) e2 pl3 rfl rfl ea2 (us':=us++[t]) (ws':=ws++[y]) (C:=C0++C) (Reps.append us rs2 (Reps.one p2.rep)) ?_ ?_ ?_ ?_ ?_ w
         . rw[List.nodup_append]
           exact⟨(List.nodup_cons.mp ndB).2,p2.nd,λx hx y hy e=>by subst e;exact cOut x hy (c0In x hx)⟩
         . intro x hx
           rcases List.mem_append.mp hx with hx|hx
           . exact F2.nz x (c0In x hx)
           . exact p2.bz x hx
         . intro x hx hA
           rcases List.mem_append.mp hx with hx|hx
           . exact hx
           . exact absurd hA (cOut x hx)
         . exact⟨λb o q _=>m2.same b o q,λb hb=>.inl (fJ hb),m2.zz,λb h=>(m2.zn b h).imp_right .inr,λb h=>m2.same.free h⟩
         . intro x hx
           rcases List.mem_append.mp hx with hx|hx
           . exact .inl (bA (c0A x hx))
           . rcases p2.bn x hx with z|⟨i,hi,z⟩
             . exact .inr (m1.same.free z)
             . exact .inl (bA z)
       . exact w.elim
      |ex x=>rw[ee]at w;exact WpX.ev w m1.ev
      |no=>rw[ee]at w;exact w
    . exact w.elim
   |ex x=>rw[ed]at w;exact w
   |no=>rw[ed]at w;exact w
def dn6(j:Nat)(mv:List Nat)(e:Fr->Res T)(d:Fr->Res (List Nat))(i:Fr->Res T):Fr->bR:=λρ=>match e ρ with
 |.ok t=>match(kills mv ρ)[j]? with
  |some (some t0)=>match d (kills mv ρ)with
   |.ok p=>match kL p t0 with
    |some (.lst true us)=>match i (kills mv ρ)with
     |.ok (.int n)=>match yR us.length n with
      |some k=>ak0 j p (us.set k t) (kills mv ρ)
      |none=>.no
     |.ok _=>.no
     |.ex x=>.ex x
     |.no=>.no
    |_=>.no
   |.ex x=>.ex x
   |.no=>.no
  |_=>.no
 |.ex x=>.ex x
 |.no=>.no
theorem Reps.put(rt:Rep K cn H Z t y C):∀(us:List T){ws:List V}{A:List Addr}{k:Nat},Reps K cn H Z us ws A->k<us.length->∃B1 Bo B2,A=B1++Bo++B2/\Reps K cn H Z (us.set k t) (ws.set k y) (B1++C++B2)
 |[],_,_,_,_,e=>by simp at e
 |u::us,ws,A,0,r,e=>by
  simp only[Reps]at r
  obtain⟨v,r',P,Q',rfl,rfl,h1,h2⟩:=r
  refine⟨[],P,Q',by simp,?_⟩
  simp only[List.set_cons_zero,Reps]
  exact⟨y,r',C,Q',rfl,by simp,rt,h2⟩
 |u::us,ws,A,k+1,r,e=>by
  simp only[Reps]at r
  obtain⟨v,r',P,Q',rfl,rfl,h1,h2⟩:=r
  obtain⟨X1,X2,X3,rfl,hr⟩:=Reps.put rt us (k:=k) h2 (by simpa using e)
  refine⟨P++X1,X2,X3,by simp,?_⟩
  simp only[List.set_cons_succ,Reps]
  exact⟨v,r'.set k y,P,X1++C++X3,rfl,by simp,h1,hr⟩
def bL:bR->Res T
 |.nx _=>.ok .non
 |.rt t=>.ok t
 |.ex x=>.ex x
 |_=>.no
def cE(n:Nat)(ts:List T):Fr:=ts.map some++List.replicate (n-ts.length) none
theorem ay4:∀(m:Nat),Slots K cn H Z (List.replicate m none) (List.replicate m none) (List.replicate m [])
 |0=>⟨rfl,rfl⟩
 |m+1=>⟨none,List.replicate m none,[],List.replicate m [],rfl,rfl,rfl,ay4 m⟩
theorem wD:∀(ts:List T){vs:List V},Reps K cn H Z ts vs []->Slots K cn H Z (ts.map some++List.replicate m none) (vs.map some++List.replicate m none) (List.replicate (ts.length+m) [])
 |[],vs,h=>by
  simp only[Reps]at h
  obtain⟨rfl,_⟩:=h
  simpa using ay4 m
 |t::ts,vs,h=>by
  simp only[Reps]at h
  obtain⟨v,r,B,C,rfl,e,h1,h2⟩:=h
  have eb:B=[]/\C=[]:=by simpa using e.symm
  obtain⟨rfl,rfl⟩:=eb
  have:=wD (m:=m) ts h2
  refine⟨some v,_,[],List.replicate (ts.length+m) [],rfl,?_,⟨v,rfl,h1⟩,this⟩
  rw[List.length_cons,show ts.length+1+m=(ts.length+m)+1 by omega]
  rfl
theorem kO:∀m:Nat,(List.replicate m ([]:List Addr)).flatten=[]
 |0=>rfl
 |m+1=>by rw[List.replicate_succ,List.flatten_cons,kO m];rfl
theorem ab3 {P : Program} {w : World} {mg : Str → Option Value} {base : Heap} {x qual : Str} {st : Stmt} {f : Addr} {fd : FuncData} {N ps : List Str} {k : Nat} {d : Fr → bR} (F : Fun K x qual st f fd) (S : aW N ps (aN st))
    (hbody : ∀ (cdv : Value) (A : Around) (outer : List Env) (s : Shared) (H : Hp) (E : XK), Room k (A.deeper (envOfC qual (aN st) s.heap.objs.size f cdv)) →
      ∃ t, PSs (lP jD P w K mg base N qual (aN st) f cdv A outer s H E).nox (cZ st) t ∧ RS [] K cn E t d) {n : Nat} {G : List T → Res T} (hn : ps.length = n) (hG : ∀ ts, G ts = bL (d (cE N.length ts))) : FnOk P w K mg base jD (k + 1) f fd ps (bJ K cn n G) := by
  have eG : G = fun ts => bL (d (cE N.length ts)) := funext hG
  subst hn eG
  refine F.ok S (fun vs H Q E h => h.1) fun cdv A outer s H vs Q E hr h => ?_
  obtain ⟨hl, ts, Z, zi, r, w⟩ := h
  obtain ⟨t, hp, ht⟩ := hbody cdv A outer s H E hr
  refine ⟨t, hp, ?_⟩
  have lt := Reps.length ts r
  have sl : Slots K cn H Z (cE N.length ts) (L2.iI N vs) (List.replicate (ts.length + (N.length - ts.length)) []) := by
    unfold cE L2.iI
    rw [lt]
    exact wD ts r
  have F0 : Frm [] K cn H Z (cE N.length ts) (L2.iI N vs) (List.replicate (ts.length + (N.length - ts.length)) []) := ⟨sl, by rw [kO]; exact List.nodup_nil, by rw [kO]; exact cV, zi, cV⟩
  refine ht _ H Z _ _ F0 _ ?_
  have bn : ∀ {B : List Addr} {H' : Hp} {Z' : Addr → Prop}, Ev (List.replicate (ts.length + (N.length - ts.length)) []) H Z [B] H' Z' → ∀ b ∈ B, H b = none := fun {B H' Z'} e b hb => by
    rcases e.own b (by simpa using hb) with q | q
    · rw [kO] at q; cases q
    · exact q
  have sm : ∀ {As' : List (List Addr)} {H' : Hp} {Z' : Addr → Prop}, Ev (List.replicate (ts.length + (N.length - ts.length)) []) H Z As' H' Z' → Same H H' ∧ ∀ a, Z' a → Z a ∨ H a = none := fun {As' H' Z'} e => ⟨fun b o q => e.keep b o q (by rw [kO]; exact (fun z => nomatch z)), fun a z => by
    rcases e.zn a z with q | q | q
    · exact .inl q
    · rw [kO] at q; cases q
    · exact .inr q⟩
  cases ed : d (cE N.length ts) with
  | nx ρ =>
    simp only [ed, bL] at w
    intro σ' As' H' Z' F' ev
    exact w .non H' Z' [] ⟨(sm ev).1, ev.zz, (sm ev).2, F'.zi, by simp [Rep], List.nodup_nil, cV, cV⟩
  | rt t =>
    simp only [ed, bL] at w
    intro v H' Z' B p
    exact w v H' Z' B ⟨(sm p.ev).1, p.ev.zz, (sm p.ev).2, p.zi, p.rep, p.nd, p.bz, fun b hb => .inl (bn p.ev b hb)⟩
  | ex x =>
    simp only [ed, bL] at w
    exact WpX.ev w ⟨fun _ _ q _ => q, fun a ha => (by rw [kO] at ha; exact nomatch ha), fun _ h => h, fun _ h => .inl h, fun _ h => h⟩
  | bk ρ => simp only [ed, bL] at w; exact w.elim
  | rm ρ t => simp only [ed, bL] at w; exact w.elim
  | ct ρ => simp only [ed, bL] at w; exact w.elim
  | no => simp only [ed, bL] at w; exact w.elim
theorem bD{P:Program}{w:World}{mg:Str->Option Value}{base:Heap}{x:Str}{st:Stmt}{N ps:List Str}{k:Nat}{d:Fr->bR}(F:eC K mg x st)(S:aW N ps (aN st))
 (hb:∀(kV doc pm:Value)(an:Option Addr)(cdv ct:Value)(us:List Value),us.length=ps.length->bindArgs (PySem.W.fnOf x x (hV st) (cZ st) (aN st) .none kV doc pm an cdv ct) ⟨us,[]⟩=pure (ps.zip us))
 (hbody:∀(f:Addr)(cdv:Value)(A:Around)(outer:List Env)(s:Shared)(H:Hp)(E:XK),Room k (A.deeper (envOfC x (aN st) s.heap.objs.size f cdv))->
  ∃t,PSs (lP jD P w K mg base N x (aN st) f cdv A outer s H E).nox (cZ st) t/\RS [] K cn E t d){n:Nat}{G:List T->Res T}(hn:ps.length=n)(hG:∀ts,G ts=bL (d (cE N.length ts))):dS P w K mg base (k+1) x ps (bJ K cn n G):=by
 obtain⟨f,fd,F,hm⟩:=F.ex
 exact⟨f,fd,ab3 F S (λcdv A outer s H E hr=>hbody f cdv A outer s H E hr) hn hG,hm,F.kp,F.binds hb⟩
theorem law_fn(F:FnOk P w K mg base jD k f fd [p] (bJ K cn 1 G))
 (h:∀ns:List Int,ns.length<=63->(∀n∈ns,Builtin.Int.intBits n<=1048576)->G [.lst false (ns.map .int)]=.ok (.bl true)):FnOk P w K mg base jD k f fd [p] (aw6 K):=by
 refine F.imp λvs H Q E q=>?_
 obtain⟨a,ns,rfl,hs,h63,hbits,hq⟩:=q
 have rints:∀(Z:Addr->Prop)(ns:List Int),Reps K cn H Z (ns.map T.int) (ns.map V.int) []:=by
  intro Z ns
  induction ns with
  |nil=>simp[Reps]
  |cons n ns ih=>
   simp only[List.map_cons,Reps]
   exact⟨.int n,ns.map V.int,[],[],rfl,rfl,by simp[Rep],ih⟩
 refine⟨rfl,[.lst false (ns.map .int)],λb=>b=a/\H b≠none,λb z=>z.2,Reps.one ?_,?_⟩
 . simp only[Rep]
   refine⟨a,ns.map V.int,rfl,trivial,?_,rints _ ns⟩
   rcases hs with(hs|⟨o,hs⟩)|hs
   . exact .inl ⟨hs,rfl,by rw[hs];exact(λz=>nomatch z)⟩
   . exact .inr (.inl ⟨o,hs⟩)
   . exact .inr (.inr hs)
 . rw[h ns h63 hbits]
   intro v H' Z' B p
   have q:=p.rep
   simp only[Rep]at q
   rw[q.1]
   exact hq H'
end
end TL
namespace L2
open PySem PySem.Spec PyProof.Rows
def EqD(K:PySem.W.Frag)(H:Hp):Nat->V->V->Bool->Prop
 |0,x,y,b=>oQ x=true/\oQ y=true/\b=eqV x y
 |n+1,x,y,b=>(oQ x=true/\oQ y=true/\b=eqV x y)\/
  (∃p q xs ys,x=.ref p/\y=.ref q/\SqL K H p xs/\SqL K H q ys/\((xs.length≠ys.length/\b=false)\/
   (xs.length=ys.length/\∃es:List Bool,es.length=xs.length/\(∀(j:Nat) x y e,xs[j]?=some x->ys[j]?=some y->es[j]?=some e->EqD K H n x y e)/\b=es.all id)))\/
  (∃p q xs ys,x=.ref p/\y=.ref q/\SqT K H p xs/\SqT K H q ys/\∃es:List Bool,es.length=min xs.length ys.length/\
   (∀(j:Nat) x y e,xs[j]?=some x->ys[j]?=some y->es[j]?=some e->EqD K H n x y e)/\b=(es.all id&&xs.length==ys.length))
theorem av7:∀{x:V},oQ x=true->eqV x x=true
 |.non,_=>rfl
 |.bl b,_=>by simp[eqV]
 |.int i,_=>by simp[eqV]
 |.str s,_=>by simp[eqV]
theorem oH(es:List Bool):((List.range es.length).all λj=>es.getD j true)=es.all id:=by
 induction es with
 |nil=>rfl
 |cons b es ih=>
  show(List.range (es.length+1)).all _=_
  rw[List.range_succ_eq_map,List.all_cons,List.all_map]
  show(b&&_)=(b&&es.all id)
  rw[<-ih]
  rfl
section
variable {X : Cx} {pins : List (Addr × Obj)} {σ : St} {H : Hp} {s : Shared}
theorem EqD.self(I:Inv X pins σ H s):∀(n:Nat)(x:V)(b:Bool),EqD X.K H n x x b->b=true
 |0,x,b,h=>by
  obtain⟨h1,_,rfl⟩:=h
  exact av7 h1
 |n+1,x,b,h=>by
  rcases h with⟨h1,_,rfl⟩|⟨p,q,xs,ys,e1,e2,s1,s2,h⟩|⟨p,q,xs,ys,e1,e2,s1,s2,es,hl,he,rfl⟩
  . exact av7 h1
  . rw[e1]at e2
    cases e2
    have:=I.list_inj s1 s2
    subst this
    rcases h with⟨h,_⟩|⟨_,es,hl,he,rfl⟩
    . exact absurd rfl h
    . rw[List.all_eq_true]
      intro e hm
      obtain⟨j,hj,rfl⟩:=List.getElem_of_mem hm
      exact EqD.self I n xs[j] es[j] (he j xs[j] xs[j] es[j] (List.getElem?_eq_getElem (by omega)) (List.getElem?_eq_getElem (by omega)) (List.getElem?_eq_getElem hj))
  . rw[e1]at e2
    cases e2
    have:=I.tuple_inj s1 s2
    subst this
    rw[beq_self_eq_true,Bool.and_true,List.all_eq_true]
    intro e hm
    obtain⟨j,hj,rfl⟩:=List.getElem_of_mem hm
    have hx:j<xs.length:=by omega
    exact EqD.self I n xs[j] es[j] (he j xs[j] xs[j] es[j] (List.getElem?_eq_getElem hx) (List.getElem?_eq_getElem hx) (List.getElem?_eq_getElem hj))
theorem eR(r:Vals xs us)(h:j<us.length):∃x,xs[j]?=some x/\RelV x us[j]:=by
 have l:=r.length
 have e1:xs[j]?=some xs[j]:=List.getElem?_eq_getElem (by omega)
 obtain⟨u,hu,ru⟩:=r.get e1
 rw[List.getElem?_eq_getElem h]at hu
 exact⟨xs[j],e1,by rw[Option.some.inj hu];exact ru⟩
theorem mZ(I:Inv X pins σ H s):∀(n:Nat){A:Around}{x y:V}{u v:Value}{b:Bool},A.units+n<cLine->RelV x u->RelV y v->EqD X.K H n x y b->SeqAt.EqAt A s u v b
 |0,A,x,y,u,v,b,hu,rx,ry,h=>by
  obtain⟨h1,h2,rfl⟩:=h
  exact bk5 rx ry h1 h2
 |n+1,A,x,y,u,v,b,hu,rx,ry,h=>by
  have h0:=h
  rcases h with⟨h1,h2,rfl⟩|⟨p,q,xs,ys,rfl,rfl,s1,s2,h⟩|⟨p,q,xs,ys,rfl,rfl,s1,s2,es,hl,he,rfl⟩
  . exact bk5 rx ry h1 h2
  . cases rx
    cases ry
    by_cases hpq:p=q
    . subst hpq
      rw[EqD.self I (n+1) _ b h0]
      exact SeqAt.EqAt.same _
    . obtain⟨its,r1,p1,_⟩:=I.list s1
      obtain⟨jts,r2,p2,_⟩:=I.list s2
      have l1:=r1.length
      have l2:=r2.length
      refine SeqAt.EqAt.of_refs hpq ?_
      rcases h with⟨hne,rfl⟩|⟨heq,es,hl,he,rfl⟩
      . exact SeqAt.RcAt.lists_lengths p1.isList p2.isList (by simp only[List.size_toArray,bne_iff_ne,ne_eq];omega) (by omega)
      . have:=SeqAt.RcAt.lists (A:=A) (s:=s) (e:=λj=>es.getD j true) p1.isList p2.isList (by simp only[List.size_toArray];omega) (by omega) (λj h1 h2=>by
         simp only[List.size_toArray]at h1 h2
         simp only[List.getElem_toArray]
         obtain⟨x,ex,rx⟩:=eR r1 h1
         obtain⟨y,ey,ry⟩:=eR r2 h2
         have hj:j<es.length:=by omega
         have eg:es.getD j true=es[j]:=by rw[List.getD_eq_getElem?_getD,List.getElem?_eq_getElem hj];rfl
         rw[eg]
         exact mZ I n (by show A.units+1+n<cLine;omega) rx ry (he j x y es[j] ex ey (List.getElem?_eq_getElem hj)))
        rw[List.size_toArray,show its.length=es.length by omega,oH]at this
        exact this
  . cases rx
    cases ry
    by_cases hpq:p=q
    . subst hpq
      rw[EqD.self I (n+1) _ _ h0]
      exact SeqAt.EqAt.same _
    . obtain⟨its,r1,p1,_⟩:=I.tuple s1
      obtain⟨jts,r2,p2,_⟩:=I.tuple s2
      have l1:=r1.length
      have l2:=r2.length
      refine SeqAt.EqAt.of_refs hpq ?_
      have:=SeqAt.RcAt.tuples (A:=A) (s:=s) (e:=λj=>es.getD j true) (show s.heap.IsTuple p its.toArray from p1) (show s.heap.IsTuple q jts.toArray from p2) (by omega) (λj h1 h2=>by
       simp only[List.size_toArray]at h1 h2
       simp only[List.getElem_toArray]
       obtain⟨x,ex,rx⟩:=eR r1 h1
       obtain⟨y,ey,ry⟩:=eR r2 h2
       have hj:j<es.length:=by omega
       have eg:es.getD j true=es[j]:=by rw[List.getD_eq_getElem?_getD,List.getElem?_eq_getElem hj];rfl
       rw[eg]
       exact mZ I n (by show A.units+1+n<cLine;omega) rx ry (he j x y es[j] ex ey (List.getElem?_eq_getElem hj)))
      simp only[List.size_toArray]at this
      rw[show min its.length jts.length=es.length by omega,oH,<-l1,<-l2]at this
      exact this
def bb3(K:PySem.W.Frag)(n:Nat):R2:=λx y H Q=>rEq x y H Q\/(∃p q b,x=.ref p/\y=.ref q/\EqD K H n x y b/\Q (.bl b) H)
theorem ds0(hu:X.A.units+n<cLine):OpR X (compareOp .Eq) (bb3 X.K n):=by
 intro pins s σ H x y v u Q I rx ry h
 rcases h with h|⟨p,q,b,rfl,rfl,h,hq⟩
 . exact dv5 s σ H x y v u Q I rx ry h
 . cases rx
   cases ry
   have bL:EP X pins σ Q (.bool b) s:=⟨.bl b,H,I,rfl,hq⟩
   cases n with
   |zero=>exact absurd h.1 (λz=>by cases z)
   |succ n=>
    rcases h with⟨h1,_,_⟩|⟨p,q,xs,ys,e1,e2,s1,s2,h⟩|⟨p,q,xs,ys,e1,e2,s1,s2,es,hl,he,rfl⟩
    . exact absurd h1 (λz=>by cases z)
    . cases e1
      cases e2
      obtain⟨its,r1,p1,_⟩:=I.list s1
      obtain⟨jts,r2,p2,_⟩:=I.list s2
      have l1:=r1.length
      have l2:=r2.length
      rcases h with⟨hne,rfl⟩|⟨heq,es,hl,he,rfl⟩
      . exact SeqAt.eq_list_lengthsAt p1.isList p2.isList (by simp only[List.size_toArray,bne_iff_ne,ne_eq];omega) (by omega) bL
      . refine SeqAt.eq_listAt (e:=λj=>es.getD j true) p1.isList p2.isList (by simp only[List.size_toArray];omega) (by omega) (λj h1 h2=>?_) ?_
        . simp only[List.size_toArray]at h1 h2
          simp only[List.getElem_toArray]
          obtain⟨x,ex,rx⟩:=eR r1 h1
          obtain⟨y,ey,ry⟩:=eR r2 h2
          have hj:j<es.length:=by omega
          have eg:es.getD j true=es[j]:=by rw[List.getD_eq_getElem?_getD,List.getElem?_eq_getElem hj];rfl
          rw[eg]
          exact mZ I n (by show X.A.units+1+n<cLine;omega) rx ry (he j x y es[j] ex ey (List.getElem?_eq_getElem hj))
        . rw[List.size_toArray,show its.length=es.length by omega,oH]
          exact bL
    . cases e1
      cases e2
      obtain⟨its,r1,p1,_⟩:=I.tuple s1
      obtain⟨jts,r2,p2,_⟩:=I.tuple s2
      have l1:=r1.length
      have l2:=r2.length
      refine SeqAt.eq_tupleAt (e:=λj=>es.getD j true) (show s.heap.IsTuple p its.toArray from p1) (show s.heap.IsTuple q jts.toArray from p2) (by omega) (λj h1 h2=>?_) ?_
      . simp only[List.size_toArray]at h1 h2
        simp only[List.getElem_toArray]
        obtain⟨x,ex,rx⟩:=eR r1 h1
        obtain⟨y,ey,ry⟩:=eR r2 h2
        have hj:j<es.length:=by omega
        have eg:es.getD j true=es[j]:=by rw[List.getD_eq_getElem?_getD,List.getElem?_eq_getElem hj];rfl
        rw[eg]
        exact mZ I n (by show X.A.units+1+n<cLine;omega) rx ry (he j x y es[j] ex ey (List.getElem?_eq_getElem hj))
      . simp only[List.size_toArray]
        rw[show min its.length jts.length=es.length by omega,oH,<-l1,<-l2]
        exact bL
def cg1(K:PySem.W.Frag)(n:Nat)(neg:Bool):R2:=λx y H Q=>(∃p ys,y=.ref p/\(SqL K H p ys\/SqT K H p ys)/\∃es:List Bool,es.length=ys.length/\(∀(j:Nat) y e,ys[j]?=some y->es[j]?=some e->EqD K H n y x e)/\Q (.bl (if neg then !es.any id else es.any id)) H)\/
 (∃i j,x=.str i/\y=.str j/\Q (.bl (if neg then !(!(Builtin.Str.occurrences j i 0 j.length 1).isEmpty)else(!(Builtin.Str.occurrences j i 0 j.length 1).isEmpty))) H)
theorem EqD.det(I:Inv X pins σ H s):∀(n:Nat)(x y:V)(b c:Bool),EqD X.K H n x y b->EqD X.K H n x y c->b=c:=by
 intro n
 induction n with
 |zero=>intro x y b c h1 h2;rw[h1.2.2,h2.2.2]
 |succ n ih=>
  intro x y b c h1 h2
  have flat_ref:∀{p:Addr},oQ (.ref p)=true->False:=λh=>by cases h
  rcases h1 with⟨a1,a2,rfl⟩|⟨p,q,xs,ys,rfl,rfl,s1,s2,h1⟩|⟨p,q,xs,ys,rfl,rfl,s1,s2,es,hl,he,rfl⟩
  . rcases h2 with⟨b1,b2,rfl⟩|⟨p,q,xs,ys,rfl,rfl,_⟩|⟨p,q,xs,ys,rfl,rfl,_⟩
    . rfl
    . exact(flat_ref a1).elim
    . exact(flat_ref a1).elim
  . rcases h2 with⟨b1,b2,rfl⟩|⟨p',q',xs',ys',e1,e2,t1,t2,h2⟩|⟨p',q',xs',ys',e1,e2,t1,t2,_⟩
    . exact(flat_ref b1).elim
    . cases e1
      cases e2
      have z1:=I.list_inj s1 t1
      have z2:=I.list_inj s2 t2
      subst z1 z2
      rcases h1 with⟨n1,rfl⟩|⟨n1,es,hl,he,rfl⟩
      . rcases h2 with⟨n2,rfl⟩|⟨n2,_⟩
        . rfl
        . exact absurd n2 n1
      . rcases h2 with⟨n2,rfl⟩|⟨n2,es',hl',he',rfl⟩
        . exact absurd n1 n2
        . have:es=es':=by
           apply List.ext_getElem (by omega)
           intro j h1 h2
           exact ih xs[j] ys[j] es[j] es'[j] (he j _ _ _ (List.getElem?_eq_getElem (by omega)) (List.getElem?_eq_getElem (by omega)) (List.getElem?_eq_getElem h1)) (he' j _ _ _ (List.getElem?_eq_getElem (by omega)) (List.getElem?_eq_getElem (by omega)) (List.getElem?_eq_getElem h2))
          rw[this]
    . cases e1
      obtain⟨_,_,⟨o,n',eo,c1,_⟩,_⟩:=I.list s1
      obtain⟨_,_,⟨o',eo',c2,_⟩,_⟩:=I.tuple t1
      rw[eo]at eo'
      cases eo'
      rw[c1]at c2
      exact absurd c2 (by decide)
  . rcases h2 with⟨b1,b2,rfl⟩|⟨p',q',xs',ys',e1,e2,t1,t2,h2⟩|⟨p',q',xs',ys',e1,e2,t1,t2,es',hl',he',rfl⟩
    . exact(flat_ref b1).elim
    . cases e1
      obtain⟨_,_,⟨o,n',eo,c1,_⟩,_⟩:=I.list t1
      obtain⟨_,_,⟨o',eo',c2,_⟩,_⟩:=I.tuple s1
      rw[eo]at eo'
      cases eo'
      rw[c1]at c2
      exact absurd c2 (by decide)
    . cases e1
      cases e2
      have z1:=I.tuple_inj s1 t1
      have z2:=I.tuple_inj s2 t2
      subst z1 z2
      have:es=es':=by
       apply List.ext_getElem (by omega)
       intro j h1 h2
       have hx:j<xs.length:=by omega
       have hy:j<ys.length:=by omega
       exact ih xs[j] ys[j] es[j] es'[j] (he j _ _ _ (List.getElem?_eq_getElem hx) (List.getElem?_eq_getElem hy) (List.getElem?_eq_getElem h1)) (he' j _ _ _ (List.getElem?_eq_getElem hx) (List.getElem?_eq_getElem hy) (List.getElem?_eq_getElem h2))
      rw[this]
theorem bi3(I:Inv X pins σ H s){n:Nat}{x:V}{ys:List V}{us:List Value}{es:List Bool}(r:Vals ys us)(hl:es.length=ys.length)(he:∀(j:Nat) y e,ys[j]?=some y->es[j]?=some e->EqD X.K H n y x e):
 ∃e:Value->Bool,(∀u∈us,∃y,RelV y u/\EqD X.K H n y x (e u))/\us.any e=es.any id:=by
 refine⟨λu=>@decide (∃y,RelV y u/\EqD X.K H n y x true) (Classical.propDecidable _),?_,?_⟩
 . intro u hu
   obtain⟨j,hj,rfl⟩:=List.getElem_of_mem hu
   obtain⟨y,ey,ry⟩:=eR r hj
   have lj:j<es.length:=by rw[hl,r.length];exact hj
   have q:=he j y es[j] ey (List.getElem?_eq_getElem lj)
   refine⟨y,ry,?_⟩
   by_cases c:∃y,RelV y us[j]/\EqD X.K H n y x true
   . obtain⟨y',ry',q'⟩:=c
     have:=ry.inj ry'
     subst this
     simp only[show(∃y,RelV y us[j]/\EqD X.K H n y x true) from⟨y,ry,q'⟩,decide_true]
     exact q'
   . simp only[c,decide_false]
     cases eb:es[j]with
     |false=>rw[eb]at q;exact q
     |true=>rw[eb]at q;exact absurd ⟨y,ry,q⟩ c
 . rw[Bool.eq_iff_iff,List.any_eq_true,List.any_eq_true]
   constructor
   . rintro⟨u,hu,c⟩
     obtain⟨j,hj,rfl⟩:=List.getElem_of_mem hu
     obtain⟨y,ey,ry⟩:=eR r hj
     have lj:j<es.length:=by rw[hl,r.length];exact hj
     obtain⟨y',ry',q'⟩:=@of_decide_eq_true _ (Classical.propDecidable _) c
     have:=ry.inj ry'
     subst this
     have q:=he j y es[j] ey (List.getElem?_eq_getElem lj)
     exact⟨es[j],List.getElem_mem lj,EqD.det I n y x es[j] true q q'⟩
   . rintro⟨e,hm,c⟩
     obtain⟨j,hj,rfl⟩:=List.getElem_of_mem hm
     have c':es[j]=true:=c
     have lj:j<us.length:=by rw[<-r.length,<-hl];exact hj
     obtain⟨y,ey,ry⟩:=eR r lj
     have q:=he j y es[j] ey (List.getElem?_eq_getElem hj)
     rw[c']at q
     exact⟨us[j],List.getElem_mem lj,@decide_eq_true _ (Classical.propDecidable _) ⟨y,ry,q⟩⟩
theorem df0{n:Nat}(hu:X.A.units+n+1<cLine):OpR X (compareOp .In) (cg1 X.K n false):=by
 intro pins s σ H x y v u Q I rx ry h
 rcases h with⟨p,ys,rfl,hs,es,hl,he,q⟩|⟨i,j,rfl,rfl,q⟩
 . cases ry
   rcases hs with hs|hs
   . obtain⟨its,r,pl,_⟩:=I.list hs
     obtain⟨e,h1,h2⟩:=bi3 I r hl he
     refine SeqAt.in_listAt e pl.isList (λy hy=>?_) ?_
     . obtain⟨y',ry',q'⟩:=h1 y (by simpa using hy)
       exact mZ I n (by show X.A.units+1+n<cLine;omega) ry' rx q'
     . exact⟨.bl _,H,I,by rw[List.any_toArray,h2];rfl,q⟩
   . obtain⟨its,r,pl,_⟩:=I.tuple hs
     obtain⟨e,h1,h2⟩:=bi3 I r hl he
     refine SeqAt.in_tupleAt e (show s.heap.IsTuple p its.toArray from pl) (λy hy=>?_) ?_
     . obtain⟨y',ry',q'⟩:=h1 y (by simpa using hy)
       exact mZ I n (by show X.A.units+1+n<cLine;omega) ry' rx q'
     . exact⟨.bl _,H,I,by rw[List.any_toArray,h2];rfl,q⟩
 . exact ba8 s σ H _ _ v u Q I rx ry ⟨i,j,rfl,rfl,q⟩
def dy1:R2:=λx y H Q=>(y=.non/\Q (.bl (decide (x=.non))) H)\/(∃a b,x=.bl a/\y=.bl b/\Q (.bl (a==b)) H)
theorem bz4:OpR X (compareOp .Is) dy1:=by
 intro pins s σ H x y v u Q I rx ry h
 rcases h with h|⟨a,b,rfl,rfl,q⟩
 . exact da1 s σ H x y v u Q I rx ry h
 . cases rx
   cases ry
   exact is_bool ⟨.bl _,H,I,rfl,q⟩
end
end L2
namespace L2
open PySem PySem.Spec PyProof.Rows
def uG(z:Str)(k:Nat):Str:=⟨((List.replicate k z.cps.toList).flatten).toArray⟩
theorem af0(z:Str):∀(k:Nat)(acc:List Nat),List.foldl (λx1 x2=>x1++x2) acc.toArray (List.replicate k z.cps)=(acc++(List.replicate k z.cps.toList).flatten).toArray
 |0,acc=>by simp
 |k+1,acc=>by
  rw[List.replicate_succ,List.foldl_cons,List.replicate_succ,List.flatten_cons]
  have e:acc.toArray++z.cps=(acc++z.cps.toList).toArray:=by simp
  rw[e,af0 z k,List.append_assoc]
section
variable {X : Cx}
def cr3(K:PySem.W.Frag):R2:=λx y H Q=>∃l b xs zs,x=.ref l/\y=.ref b/\SqS K H l xs/\SqS K H b zs/\xs.length+zs.length<=sizeLine/\∀p,H p=none->Q (.ref p) (upd H p (.lst (xs++zs)))
theorem op_catS:OpR X (binaryOp .Add) (cr3 X.K):=by
 intro pins s σ H x y v u Q I rx ry h
 obtain⟨l,b,xs,zs,rfl,rfl,hH,hB,hz,q⟩:=h
 cases rx
 cases ry
 obtain⟨its,n,r,e,_⟩:=I.listS hH
 obtain⟨its2,n2,r2,e2,_⟩:=I.listS hB
 have hl:=r.length
 have hl2:=r2.length
 refine PySem.P.add_list e e2 ?_ (by rw[List.size_toArray,List.size_toArray];omega)
 have ea:its.toArray++its2.toArray=(its++its2).toArray:=by simp
 rw[ea]
 exact⟨.ref _,_,I.lnew (t':=s.toks) (r.append r2) (by rw[List.length_append];omega),rfl,q _ I.fresh⟩
def cf3(K:PySem.W.Frag):R2:=λx y H Q=>rN (λi j=>.int (i+j)) x y H Q\/dm2 x y H Q\/cr3 K x y H Q\/ce3 K x y H Q
theorem bC(K:PySem.W.Frag)(hK:X.K=K:=by rfl):OpR X (binaryOp .Add) (cf3 K):=by
 subst hK
 exact op_add.or (op_add_str.or (op_catS.or cb4))
def ci3:R2:=λx y H Q=>∃z k,x=.str z/\y=.int k/\-(2^63)<=k/\k<2^62/\z.length*k.toNat<=sizeLine/\Q (.str (uG z k.toNat)) H
theorem cy6:OpR X (binaryOp .Mult) ci3:=by
 intro pins s σ H x y v u Q I rx ry h
 obtain⟨z,k,rfl,rfl,h1,h2,hz,q⟩:=h
 obtain⟨t,rfl⟩:=rx
 obtain⟨t',rfl⟩:=ry
 have hn:=sizeLine_eq
 refine PySem.P.mul_str ?_ ?_ ?_ ?_
 . rw[decide_eq_false (by omega),decide_eq_false (by omega)]
   rfl
 . intro hk _
   have hk1:1<=k:=by omega
   have:((z.length:Int))<=16777216:=by
    have:z.length*1<=z.length*k.toNat:=Nat.mul_le_mul_left _ (by omega)
    omega
   have hq:(2^63-1:Int)/k>=(z.length:Int):=by
    refine(Int.le_ediv_iff_mul_le (by omega)).mpr ?_
    have e:(z.length:Int)*k=((z.length*k.toNat:Nat):Int):=by
     rw[Int.natCast_mul,Int.toNat_of_nonneg (by omega)]
    rw[e]
    omega
   omega
 . intro _ _
   unfold Builtin.Str.tooLong
   exact decide_eq_false (by omega)
 . split
   . next hk=>
     have e:uG z k.toNat=Str.empty:=by
      have:k.toNat=0:=by omega
      rw[this]
      rfl
     rw[e]at q
     exact⟨by decide,.str _,H,I.tok _,⟨_,rfl⟩,q⟩
   . next hk=>
     split
     . next hc=>
       have e:uG z k.toNat=z:=by
        rw[Bool.or_eq_true,beq_iff_eq,beq_iff_eq]at hc
        rcases hc with hc|hc
        . subst hc
          simp[uG]
        . have hz0:z.cps.toList=[]:=by
           have:z.cps.toList.length=0:=by rw[Array.length_toList];exact hc
           exact List.eq_nil_of_length_eq_zero this
          have:(List.replicate k.toNat z.cps.toList).flatten=[]:=by
           rw[hz0]
           simp
          unfold uG
          rw[this]
          obtain⟨⟨l⟩⟩:=z
          simp at hz0
          rw[hz0]
       rw[e]at q
       exact⟨.str _,H,I,⟨_,rfl⟩,q⟩
     . have e:(⟨(List.replicate k.toNat z.cps).foldl (· ++ ·) #[]⟩:Str)=uG z k.toNat:=by
        have:=af0 z k.toNat []
        rw[List.nil_append]at this
        unfold uG
        rw[<-this]
       rw[e]
       refine⟨?_,.str _,H,I.tok _,⟨_,rfl⟩,q⟩
       show((List.replicate k.toNat z.cps.toList).flatten.toArray).size<=sizeLine
       rw[List.size_toArray,cw6,Array.length_toList,Nat.mul_comm]
       exact hz
def cv2:R2:=λx y H Q=>ct7 x y H Q\/ci3 x y H Q
theorem iR:OpR X (binaryOp .Mult) cv2:=op_mulB.or cy6
end
end L2
namespace TL
open PySem PySem.Spec PyProof.Rows L2
section
variable {Jn : gB} {K : PySem.W.Frag} {cn : Str → Option Addr} {E : XK} {As : List (List Addr)} {H : Hp} {Z : Addr → Prop} {Q : VK}
theorem WpE.val(w:WpE K cn E As H Z [] Q (.ok t))(zi:∀a,Z a->H a≠none)(r:Rep K cn H Z t v []):Q v H:=
 w v H Z [] ⟨Same.refl _,λ_ h=>h,λ_ h=>.inl h,zi,r,List.nodup_nil,cV,cV⟩
theorem WpE.newL(w:WpE K cn E As H Z [] Q (.ok (.lst true ts)))(zi:∀a,Z a->H a≠none)(r:Reps K cn H Z ts vs [])(p:Addr)(hp:H p=none):Q (.ref p) (L2.upd H p (.lst vs)):=by
 have m:=Mo.new (.lst vs) hp zi
 refine w (.ref p) _ Z [p] ⟨m.same,m.zz,m.zn,m.zi,?_,by simp,λb hb=>?_,λb hb=>?_⟩
 . simp only[Rep]
   exact⟨p,vs,[],rfl,rfl,dO,r.same m.same m.zz⟩
 . rw[List.mem_singleton.mp hb];exact λz=>zi p z hp
 . rw[List.mem_singleton.mp hb];exact .inl hp
theorem WpE.newT(w:WpE K cn E As H Z [] Q (.ok (.tup ts)))(zi:∀a,Z a->H a≠none)(r:Reps K cn H Z ts vs [])(p:Addr)(hp:H p=none):Q (.ref p) (L2.upd H p (.tup vs)):=by
 have m:=Mo.new (.tup vs) hp zi
 refine w (.ref p) _ Z [] ⟨m.same,m.zz,m.zn,m.zi,?_,List.nodup_nil,cV,cV⟩
 simp only[Rep]
 exact⟨p,vs,rfl,SqT.of dO,r.same m.same m.zz⟩
theorem Rep.int{i:Int}{v:V}{A:List Addr}(h:Rep K cn H Z (.int i) v A):v=.int i:=by simp only[Rep]at h;exact h.1
theorem Rep.str{i:Str}{v:V}{A:List Addr}(h:Rep K cn H Z (.str i) v A):v=.str i:=by simp only[Rep]at h;exact h.1
theorem Rep.bl(h:Rep K cn H Z (.bl i) v A):v=.bl i:=by simp only[Rep]at h;exact h.1
theorem Rep.non(h:Rep K cn H Z .non v A):v=.non:=by simp only[Rep]at h;exact h.1
theorem Rep.tupS(h:Rep K cn H Z (.tup ts) v A):∃a vs,v=.ref a/\SqT K H a vs/\Reps K cn H Z ts vs A:=by simp only[Rep]at h;exact h
theorem iX(i:Int):Rep K cn H Z (.int i) (.int i) []:=by simp[Rep]
theorem nY(i:Bool):Rep K cn H Z (.bl i) (.bl i) []:=by simp[Rep]
theorem wS(i:Str):Rep K cn H Z (.str i) (.str i) []:=by simp[Rep]
noncomputable def bU:T->T->Res T
 |.int i,.int j=>.ok (.int (i+j))
 |.str a,.str b=>gate (a.length+b.length<=sizeLine) (.ok (.str (a++b)))
 |.lst _ xs,.lst _ ys=>gate ((aU xs&&aU ys)=true/\xs.length+ys.length<=sizeLine) (.ok (.lst true (xs++ys)))
 |.tup xs,.tup ys=>gate ((aU xs&&aU ys)=true/\xs.length+ys.length<=sizeLine/\xs.isEmpty=false/\ys.isEmpty=false) (.ok (.tup (xs++ys)))
 |_,_=>.no
theorem do2:lR K cn (cf3 K) bU:=λE As H Z t u x y A B Q zi rt ru w=>by
 unfold bU at w
 split at w
 . next i j=>rw[rt.int,ru.int];exact .inl ⟨i,j,rfl,rfl,w.val zi (iX _)⟩
 . next a b=>
   obtain⟨h,w⟩:=w.gate
   rw[rt.str,ru.str];exact .inr (.inl ⟨a,b,rfl,rfl,h,w.val zi (wS _)⟩)
 . next o xs o' ys=>
   obtain⟨h,w⟩:=w.gate
   rw[Bool.and_eq_true]at h
   obtain⟨a,vs,C,rfl,hs,r1,_⟩:=rt.lstSq
   obtain⟨b,ws,D,rfl,hs',r2,_⟩:=ru.lstSq
   exact .inr (.inr (.inl ⟨a,b,vs,ws,rfl,rfl,hs,hs',by rw[Reps.length xs r1,Reps.length ys r2];exact h.2,λp hp=>w.newL zi (Reps.append xs (r1.bareE h.1.1) (r2.bareE h.1.2)) p hp⟩))
 . next xs ys=>
   obtain⟨h,w⟩:=w.gate
   rw[Bool.and_eq_true]at h
   obtain⟨a,vs,rfl,hs,r1⟩:=rt.tupS
   obtain⟨b,ws,rfl,hs',r2⟩:=ru.tupS
   have e1:=r1.isEmpty
   have e2:=r2.isEmpty
   refine .inr (.inr (.inr ⟨a,b,vs,ws,rfl,rfl,hs,hs',λz=>?_,by rw[Reps.length xs r1,Reps.length ys r2];exact h.2.1,λz=>?_,λ_ p hp=>w.newT zi (Reps.append xs (r1.bareE h.1.1) (r2.bareE h.1.2)) p hp⟩))
   . rw[z,h.2.2.1]at e1;cases e1
   . rw[z,h.2.2.2]at e2;cases e2
 . exact w.elim
def mE(f:Int->Int->Res T):T->T->Res T
 |.int i,.int j=>f i j
 |_,_=>.no
theorem af9{g:Int->Int->T}{g':Int->Int->V}(hg:∀i j H Z,Rep K cn H Z (g i j) (g' i j) []):lR K cn (rN g') (mE λi j=>.ok (g i j)):=λE As H Z t u x y A B Q zi rt ru w=>by
 unfold mE at w
 split at w
 . next i j=>rw[rt.int,ru.int];exact⟨i,j,rfl,rfl,w.val zi (hg i j _ _)⟩
 . exact w.elim
theorem r_i{C:Int->Int->Prop}{g:Int->Int->T}{g':Int->Int->V}(hg:∀i j H Z,Rep K cn H Z (g i j) (g' i j) []):lR K cn (rI C g') (mE λi j=>gate (C i j) (.ok (g i j))):=λE As H Z t u x y A B Q zi rt ru w=>by
 unfold mE at w
 split at w
 . next i j=>
   obtain⟨h,w⟩:=WpE.gate w
   rw[rt.int,ru.int];exact⟨i,j,rfl,rfl,h,w.val zi (hg i j _ _)⟩
 . exact w.elim
def cT:=mE λi j=>.ok (.int (i-j))
theorem da4:lR K cn (rN λi j=>.int (i-j)) cT:=af9 λ_ _ _ _=>iX _
def wH:=mE λi j=>.ok (.bl (decide (i<j)))
def nX:=mE λi j=>.ok (.bl (decide (i<=j)))
def gtT:=mE λi j=>.ok (.bl (decide (j<i)))
def geT:=mE λi j=>.ok (.bl (decide (j<=i)))
theorem dm6:lR K cn (rN λi j=>.bl (decide (i<j))) wH:=af9 λ_ _ _ _=>nY _
theorem dj6:lR K cn (rN λi j=>.bl (decide (i<=j))) nX:=af9 λ_ _ _ _=>nY _
theorem da7:lR K cn (rN λi j=>.bl (decide (j<i))) gtT:=af9 λ_ _ _ _=>nY _
theorem dk6:lR K cn (rN λi j=>.bl (decide (j<=i))) geT:=af9 λ_ _ _ _=>nY _
noncomputable def fT:=mE λi j=>gate (sF i j) (.ok (.int (i/j)))
theorem cj9:lR K cn (rI sF λi j=>.int (i/j)) fT:=r_i λ_ _ _ _=>iX _
noncomputable def bW:=mE λi j=>gate (0<j) (.ok (.int (i%j)))
theorem di3:lR K cn (rI (λ_ j=>0<j) λi j=>.int (i%j)) bW:=r_i (C:=λ_ j=>0<j) λ_ _ _ _=>iX _
noncomputable def wU:=mE λi j=>gate (vQ i j) (.ok (.int (i^j.toNat)))
theorem da3:lR K cn (rI vQ λi j=>.int (i^j.toNat)) wU:=r_i λ_ _ _ _=>iX _
def mulOk(i j:Int):Prop:=(-(2^64)<i/\i<2^64)\/(-(2^64)<j/\j<2^64)\/Builtin.Int.intBits i+Builtin.Int.intBits j<=134217728
theorem mulOk.ok(h:mulOk i j):IntMulOk i j:=by
 rcases h with h|h|h
 . exact co4 h.1 h.2
 . exact cp4 h.1 h.2
 . exact bu3 h
noncomputable def jY:T->T->Res T
 |.int i,.int j=>gate (mulOk i j) (.ok (.int (i*j)))
 |.str z,.int k=>gate (-(2^63)<=k/\k<2^62/\z.length*k.toNat<=sizeLine) (.ok (.str (uG z k.toNat)))
 |_,_=>.no
theorem do4:lR K cn cv2 jY:=λE As H Z t u x y A B Q zi rt ru w=>by
 unfold jY at w
 split at w
 . next i j=>
   obtain⟨h,w⟩:=w.gate
   rw[rt.int,ru.int];exact .inl ⟨i,j,rfl,rfl,h.ok,w.val zi (iX _)⟩
 . next z k=>
   obtain⟨h,w⟩:=w.gate
   rw[rt.str,ru.int];exact .inr ⟨z,k,rfl,rfl,h.1,h.2.1,h.2.2,w.val zi (wS _)⟩
 . exact w.elim
def mG:T->Res T
 |.int i=>.ok (.int (-i))
 |_=>.no
theorem dt4:R1R K cn (rU λi=>.int (-i)) mG:=λE As H Z t x A Q zi rt w=>by
 unfold mG at w
 split at w
 . next i=>rw[rt.int];exact⟨i,rfl,w.val zi (iX _)⟩
 . exact w.elim
def yF:T->T->Res T
 |.bl a,.bl b=>.ok (.bl (a==b))
 |.non,.non=>.ok (.bl true)
 |_,.non=>.ok (.bl false)
 |_,_=>.no
theorem Rep.notNon(h:Rep K cn H Z t v A)(n:t≠ .non):v≠ .non:=by
 cases t with
 |non=>exact absurd rfl n
 |bl _=>rw[h.bl];exact λz=>nomatch z
 |int _=>rw[h.int];exact λz=>nomatch z
 |str _=>rw[h.str];exact λz=>nomatch z
 |ty _=>simp only[Rep]at h;rw[h.1];exact λz=>nomatch z
 |lst o ts=>obtain⟨a,vs,C,rfl,_⟩:=h.lstSq;exact λz=>nomatch z
 |tup ts=>obtain⟨a,vs,rfl,_⟩:=h.tupS;exact λz=>nomatch z
 |ins o c ns ts=>
  cases o with
  |true=>simp only[Rep]at h;obtain⟨a,C,dx,vs,B,rfl,_⟩:=h;exact λz=>nomatch z
  |false=>simp only[Rep]at h;obtain⟨a,C,dx,vs,rfl,_⟩:=h;exact λz=>nomatch z
theorem dl6:lR K cn dy1 yF:=λE As H Z t u x y A B Q zi rt ru w=>by
 unfold yF at w
 split at w
 . next a b=>rw[rt.bl,ru.bl];exact .inr ⟨a,b,rfl,rfl,w.val zi (nY _)⟩
 . rw[rt.non,ru.non];exact .inl ⟨rfl,w.val zi (nY _)⟩
 . next h1 h2=>rw[ru.non];exact .inl ⟨rfl,by rw[decide_eq_false (rt.notNon (by rintro rfl;exact h2 rfl))];exact w.val zi (nY _)⟩
 . exact w.elim
def kU:T->T->Res T
 |.non,.non=>.ok (.bl false)
 |_,.non=>.ok (.bl true)
 |_,_=>.no
theorem cx4:lR K cn (λx y H Q=>y=.non/\Q (.bl (!decide (x=.non))) H) kU:=λE As H Z t u x y A B Q zi rt ru w=>by
 unfold kU at w
 split at w
 . rw[rt.non,ru.non];exact⟨rfl,w.val zi (nY _)⟩
 . next h2=>rw[ru.non];exact⟨rfl,by rw[decide_eq_false (rt.notNon (by rintro rfl;exact h2 rfl))];exact w.val zi (nY _)⟩
 . exact w.elim
def kN:T->T->Option Bool
 |.non,.non=>some true
 |.non,.bl _=>some false
 |.non,.int _=>some false
 |.non,.str _=>some false
 |.bl _,.non=>some false
 |.bl a,.bl b=>some (a==b)
 |.bl a,.int b=>some ((if a then 1 else 0)==b)
 |.bl _,.str _=>some false
 |.int _,.non=>some false
 |.int a,.bl b=>some (a==(if b then 1 else 0))
 |.int a,.int b=>some (a==b)
 |.int _,.str _=>some false
 |.str _,.non=>some false
 |.str _,.bl _=>some false
 |.str _,.int _=>some false
 |.str a,.str b=>some (a==b)
 |_,_=>none
mutual
def vL:Nat->T->T->Option Bool
 |n+1,.lst _ xs,.lst _ ys=>if xs.length=ys.length then(wJ n xs ys).map λes=>es.all id else some false
 |n+1,.tup xs,.tup ys=>(wJ n xs ys).map λes=>es.all id&&xs.length==ys.length
 |_,t,u=>kN t u
def wJ:Nat->List T->List T->Option (List Bool)
 |n,x::xs,y::ys=>(vL n x y).bind λb=>(wJ n xs ys).map λes=>b::es
 |_,_,_=>some []
end
theorem bd5(rt:Rep K cn H Z t x A)(ru:Rep K cn H Z u y B)(h:kN t u=some b):oQ x=true/\oQ y=true/\b=eqV x y:=by
 unfold kN at h
 split at h
 all_goals first
  |(simp only[Rep]at rt ru;obtain⟨rfl,_⟩:=rt;obtain⟨rfl,_⟩:=ru;cases h;exact⟨rfl,rfl,rfl⟩)
  |cases h
theorem aa9(rt:Rep K cn H Z t x A)(ru:Rep K cn H Z u y B)(h:kN t u=some b):EqD K H n x y b:=by
 have q:=bd5 rt ru h
 cases n with
 |zero=>exact q
 |succ n=>exact .inl q
theorem as2(ih:∀(t u:T){x y:V}{A B:List Addr}{b:Bool},Rep K cn H Z t x A->Rep K cn H Z u y B->vL n t u=some b->EqD K H n x y b):∀(ts us:List T){vs ws:List V}{A B:List Addr}{es:List Bool},Reps K cn H Z ts vs A->Reps K cn H Z us ws B->wJ n ts us=some es->
 es.length=min ts.length us.length/\∀(j:Nat) x y e,vs[j]?=some x->ws[j]?=some y->es[j]?=some e->EqD K H n x y e
 |x::xs,y::ys,vs,ws,A,B,es,r1,r2,h=>by
  simp only[Reps]at r1 r2
  obtain⟨v,vs',B1,C1,rfl,rfl,a1,a2⟩:=r1
  obtain⟨w,ws',B2,C2,rfl,rfl,b1,b2⟩:=r2
  rw[wJ,Option.bind_eq_some_iff]at h
  obtain⟨b,h1,h⟩:=h
  rw[Option.map_eq_some_iff]at h
  obtain⟨es',h2,rfl⟩:=h
  obtain⟨q1,q2⟩:=as2 ih xs ys a2 b2 h2
  refine⟨by simp only[List.length_cons];omega,λj x' y' e e1 e2 e3=>?_⟩
  cases j with
  |zero=>
   simp at e1 e2 e3
   subst e1 e2 e3
   exact ih x y a1 b1 h1
  |succ j=>exact q2 j x' y' e (by simpa using e1) (by simpa using e2) (by simpa using e3)
 |[],us,vs,ws,A,B,es,r1,r2,h=>by
  have e:wJ n [] us=some []:=by cases us<;>rfl
  rw[e]at h
  cases h
  exact⟨by simp,λj x y e _ _ e3=>by simp at e3⟩
 |t::ts,[],vs,ws,A,B,es,r1,r2,h=>by
  have e:wJ n (t::ts) []=some []:=rfl
  rw[e]at h
  cases h
  exact⟨by simp,λj x y e _ _ e3=>by simp at e3⟩
theorem aw7(n:Nat):∀(t u:T){x y:V}{A B:List Addr}{b:Bool},Rep K cn H Z t x A->Rep K cn H Z u y B->vL n t u=some b->EqD K H n x y b:=by
 induction n with
 |zero=>
  intro t u x y A B b rt ru h
  have e:vL 0 t u=kN t u:=by cases t<;>cases u<;>rfl
  rw[e]at h
  exact aa9 rt ru h
 |succ n ih=>
  intro t u x y A B b rt ru h
  by_cases h1:∃o o' xs ys,t=.lst o xs/\u=.lst o' ys
  . obtain⟨o,o',xs,ys,rfl,rfl⟩:=h1
    obtain⟨a,vs,C,rfl,hs,r1,_⟩:=rt.lstSq
    obtain⟨b',ws,D,rfl,hs',r2,_⟩:=ru.lstSq
    rw[vL]at h
    have l1:=Reps.length xs r1
    have l2:=Reps.length ys r2
    split at h
    . next hl=>
      rw[Option.map_eq_some_iff]at h
      obtain⟨es,h1,rfl⟩:=h
      obtain⟨q1,q2⟩:=as2 ih xs ys r1 r2 h1
      exact .inr (.inl ⟨a,b',vs,ws,rfl,rfl,hs.sq,hs'.sq,.inr ⟨by omega,es,by rw[q1];omega,q2,rfl⟩⟩)
    . next hl=>
      cases h
      exact .inr (.inl ⟨a,b',vs,ws,rfl,rfl,hs.sq,hs'.sq,.inl ⟨by omega,rfl⟩⟩)
  . by_cases h2:∃xs ys,t=.tup xs/\u=.tup ys
    . obtain⟨xs,ys,rfl,rfl⟩:=h2
      obtain⟨a,vs,rfl,hs,r1⟩:=rt.tupS
      obtain⟨b',ws,rfl,hs',r2⟩:=ru.tupS
      rw[vL]at h
      have l1:=Reps.length xs r1
      have l2:=Reps.length ys r2
      rw[Option.map_eq_some_iff]at h
      obtain⟨es,h1,rfl⟩:=h
      obtain⟨q1,q2⟩:=as2 ih xs ys r1 r2 h1
      exact .inr (.inr ⟨a,b',vs,ws,rfl,rfl,hs,hs',es,by rw[q1];omega,q2,by rw[l1,l2]⟩)
    . have e:vL (n+1) t u=kN t u:=by
       cases t<;>cases u<;>first|rfl|exact absurd ⟨_,_,_,_,rfl,rfl⟩ h1|exact absurd ⟨_,_,rfl,rfl⟩ h2
      rw[e]at h
      exact aa9 rt ru h
def dU:Nat:=6
def rP:T->Bool
 |.lst _ _=>true
 |.tup _=>true
 |_=>false
def bt2:T->T->Bool
 |.bl _,.int _=>false
 |.int _,.bl _=>false
 |t,u=>!rP t&&!rP u
def eqB(t u:T):Option Bool:=if rP t=true/\rP u=true then vL dU t u else if bt2 t u=true then kN t u else none
def fR(t u:T):Res T:=match eqB t u with
 |some b=>.ok (.bl b)
 |none=>.no
theorem Rep.seqRef(h:Rep K cn H Z t v A)(i:rP t=true):∃a,v=.ref a:=by
 cases t with
 |lst o ts=>obtain⟨a,vs,C,rfl,_⟩:=h.lstSq;exact⟨a,rfl⟩
 |tup ts=>obtain⟨a,vs,rfl,_⟩:=h.tupS;exact⟨a,rfl⟩
 |_=>cases i
theorem bi1(rt:Rep K cn H Z t x A)(ru:Rep K cn H Z u y B)(hs:bt2 t u=true)(h:kN t u=some b):bs9 x y=true/\b=decide (x=y):=by
 unfold kN at h
 split at h
 all_goals first
  |(cases hs;done)
  |(simp only[Rep]at rt ru;obtain⟨rfl,_⟩:=rt;obtain⟨rfl,_⟩:=ru;cases h;exact⟨rfl,by first|rfl|(rw[ad3])|(rw[ag9])|(rw[ae3])|(symm;exact decide_eq_false (λz=>nomatch z))⟩)
  |(cases h;done)
theorem dp6:lR K cn (bb3 K dU) fR:=λE As H Z t u x y A B Q zi rt ru w=>by
 unfold fR at w
 split at w
 . next b h=>
   unfold eqB at h
   split at h
   . next hs=>
     obtain⟨p,rfl⟩:=rt.seqRef hs.1
     obtain⟨q,rfl⟩:=ru.seqRef hs.2
     exact .inr ⟨p,q,b,rfl,rfl,aw7 dU t u rt ru h,w.val zi (nY _)⟩
   . split at h
     . next hs=>
       obtain⟨q1,rfl⟩:=bi1 rt ru hs h
       exact .inl ⟨q1,w.val zi (nY _)⟩
     . cases h
 . exact w.elim
def neT(t u:T):Res T:=if bt2 t u=true then match kN t u with
 |some b=>.ok (.bl (!b))
 |none=>.no else .no
theorem dz5:lR K cn rNe neT:=λE As H Z t u x y A B Q zi rt ru w=>by
 unfold neT at w
 split at w
 . next hs=>
   split at w
   . next b h=>
     obtain⟨q1,rfl⟩:=bi1 rt ru hs h
     exact⟨q1,w.val zi (nY _)⟩
   . exact w.elim
 . exact w.elim
def occ(j i:Str):Bool:=!(Builtin.Str.occurrences j i 0 j.length 1).isEmpty
def uU(t:T):List T->Option (List Bool)
 |[]=>some []
 |u::us=>(vL dU u t).bind λb=>(uU t us).map λes=>b::es
theorem xT(rt:Rep K cn H Z t x A):∀(us:List T){ws:List V}{B:List Addr}{es:List Bool},Reps K cn H Z us ws B->uU t us=some es->es.length=ws.length/\∀(j:Nat) y e,ws[j]?=some y->es[j]?=some e->EqD K H dU y x e
 |[],ws,B,es,r,h=>by
  simp only[Reps]at r
  obtain⟨rfl,_⟩:=r
  cases h
  exact⟨rfl,λj y e e1=>by simp at e1⟩
 |u::us,ws,B,es,r,h=>by
  simp only[Reps]at r
  obtain⟨w,ws',B1,C1,rfl,rfl,a1,a2⟩:=r
  rw[uU,Option.bind_eq_some_iff]at h
  obtain⟨b,h1,h⟩:=h
  rw[Option.map_eq_some_iff]at h
  obtain⟨es',h2,rfl⟩:=h
  obtain⟨q1,q2⟩:=xT rt us a2 h2
  refine⟨by simp[q1],λj y e e1 e2=>?_⟩
  cases j with
  |zero=>
   simp at e1 e2
   subst e1 e2
   exact aw7 dU u t a1 rt h1
  |succ j=>exact q2 j y e (by simpa using e1) (by simpa using e2)
def yL(neg:Bool):T->T->Res T
 |t,.lst _ us=>match uU t us with
  |some es=>.ok (.bl (if neg=true then !es.any id else es.any id))
  |none=>.no
 |t,.tup us=>match uU t us with
  |some es=>.ok (.bl (if neg=true then !es.any id else es.any id))
  |none=>.no
 |.str i,.str j=>.ok (.bl (if neg=true then !occ j i else occ j i))
 |_,_=>.no
theorem dr6:lR K cn (cg1 K dU neg) (yL neg):=λE As H Z t u x y A B Q zi rt ru w=>by
 unfold yL at w
 split at w
 . next t o us=>
   split at w
   . next es h=>
     obtain⟨a,vs,C,rfl,hs,r1,_⟩:=ru.lstSq
     obtain⟨q1,q2⟩:=xT rt us r1 h
     exact .inl ⟨a,vs,rfl,.inl hs.sq,es,q1,q2,w.val zi (nY _)⟩
   . exact w.elim
 . next t us=>
   split at w
   . next es h=>
     obtain⟨a,vs,rfl,hs,r1⟩:=ru.tupS
     obtain⟨q1,q2⟩:=xT rt us r1 h
     exact .inl ⟨a,vs,rfl,.inr hs,es,q1,q2,w.val zi (nY _)⟩
   . exact w.elim
 . next i j=>rw[rt.str,ru.str];exact .inr ⟨i,j,rfl,rfl,w.val zi (nY _)⟩
 . exact w.elim
end
end TL
namespace L2
open PySem PySem.Spec PyProof.Rows
section
variable {X : Cx} (K : PySem.W.Frag)
theorem ck8(hr:Room k X.A)(hn:n<=60:=by decide)(hK:X.K=K:=by rfl):OpR X (compareOp .Eq) (bb3 K n):=by
 subst hK
 exact ds0 (by have:=hr.units;omega)
theorem ar1(hr:Room k X.A)(hn:n<=60:=by decide)(hK:X.K=K:=by rfl):OpR X (compareOp .In) (cg1 K n false):=by
 subst hK
 exact df0 (by have:=hr.units;omega)
theorem da6(hK:X.K=K:=by rfl):IxR X (rIx K):=by
 subst hK
 exact du0
def du1:V->Option Int->Option Int->Hp->VK->Prop:=λx lo hi H Q=>cn9 K x lo hi H Q\/cw8 K x lo hi H Q\/ci9 x lo hi H Q
theorem wK(hK:X.K=K:=by rfl):SlR X (du1 K):=by
 subst hK
 exact SlR.or cs4 (SlR.or cr7 cs8)
theorem cS(ha:PE X a ta)(he:∀whole,isTrue a X.env whole=(do let v<-whole;standAt a.pos;holding [v] (truthy v)))(hK:X.K=K:=by rfl):
 PT X a (λσ H Q=>ta σ H λx H'=>∃k,al7 K x H' k/\Q k H'):=by
 subst hK
 exact ca2 ha he
theorem gX(hl:PE X l tl)(hK:X.K=K:=by rfl):PI X tg l (TL.iV K tl):=by
 subst hK
 intro pins s σ H R I h
 refine bS (hl s σ H _ I h) λv s1 ⟨x,H1,I1,r1,q1⟩=>?_
 rcases q1 with⟨a,e,q⟩|⟨z,e,q⟩
 . subst e
   cases r1
   rcases q with⟨⟨xs,hq⟩,q⟩|⟨⟨xs,hq⟩,q⟩
   . obtain⟨its,rv,p,hz⟩:=I1.list hq
     refine wpAny_pyIter_list p.isList ?_
     refine⟨s1.heap.objs.size,[s1.heap.objs.size],_,_,H1,rfl,I1.kept (t':=s1.toks) λb o e=>Heap.get?_push_of_some _ e,bn6 a _,⟨_,Heap.get?_push_size _ rfl,rfl,rfl⟩,λb hb=>?_,q⟩
     have e:b=s1.heap.objs.size:=by simpa using hb
     subst e
     exact I1.fpOk (Nat.le_refl _) (I1.hok.fresh (Nat.le_refl _))
   . obtain⟨its,rv,p,hz⟩:=I1.tuple hq
     refine wpAny_pyIter_tuple (show s1.heap.IsTuple a its.toArray from p) ?_
     refine⟨s1.heap.objs.size,[s1.heap.objs.size],_,_,H1,rfl,I1.kept (t':=s1.toks) λb o e=>Heap.get?_push_of_some _ e,bc4 a _,⟨_,Heap.get?_push_size _ rfl,rfl,rfl⟩,λb hb=>?_,q⟩
     have e:b=s1.heap.objs.size:=by simpa using hb
     subst e
     exact I1.fpOk (Nat.le_refl _) (I1.hok.fresh (Nat.le_refl _))
 . subst e
   obtain⟨t,rfl⟩:=r1
   have fp:∀b∈[s1.heap.objs.size],oA X pins H1 b:=λb hb=>by
    have e:b=s1.heap.objs.size:=by simpa using hb
    subst e
    exact I1.fpOk (Nat.le_refl _) (I1.hok.fresh (Nat.le_refl _))
   cases ha:z.cps.all (· <128)
   . exact wpAny_pyIter_wide ha ⟨s1.heap.objs.size,[s1.heap.objs.size],_,_,H1,rfl,I1.kept (t':=s1.toks) λb o e=>Heap.get?_push_of_some _ e,bb7 _ z t,⟨_,Heap.get?_push_size _ rfl,rfl,rfl⟩,fp,q⟩
   . exact wpAny_pyIter_ascii ha ⟨s1.heap.objs.size,[s1.heap.objs.size],_,_,H1,rfl,I1.kept (t':=s1.toks) λb o e=>Heap.get?_push_of_some _ e,bg3 _ z t,⟨_,Heap.get?_push_size _ rfl,rfl,rfl⟩,fp,q⟩
theorem eQ(n:Nat)(hc:X.calm=true)(h:PGs X es t)
 (hn:(assignEach es X.env).length=n:=by rfl)(hst:(assignEach es X.env).findIdx? (·.1)=none:=by rfl)(hK:X.K=K:=by rfl):PG X (.Tuple es k pos) (bo9 K n t):=by
 subst hK
 exact cq9 hc h hn hst
theorem tM{o e:Expr}{es:List Expr}{to:TE}{t:TA}{name:Str}{apos cpos:Pos}{T id:String}{r:V->List V->Hp->VK->Prop}(pa:PlainAttrs T)(slot:Slot T name id)(hty:typeOf (.builtin id)=pure (.type "method_descriptor"))(hm:MtR X id r)(ho:PE X o to)(ha:PA X (e::es) t)
 (hbase:attributeBase o name X.env (eval o X.env)=eval o X.env:=by rfl)
 (hfew:((backTo cpos (starEach (e::es) X.env)).all (λx=>!x.1)&&(backToKw cpos (keywordEach [] X.env)).all (λx=>x.1.isSome)
  &&decide ((e::es).length+([]:List Keyword).length+(if([]:List Keyword).isEmpty then 0 else 1)<30))=true:=by rfl)
 (hline:(apos.endLine==cpos.line)=true:=by rfl)(hs:starEach (e::es) X.env=(false,eval e X.env)::starEach es X.env:=by rfl)(hplain:(backTo cpos (starEach es X.env)).any (·.1)=false:=by rfl)(hK:X.K=K:=by rfl):
 PE X (.Call (.Attribute o name apos) (e::es) [] cpos) (tBM K T r to t):=by
 subst hK
 exact dn2 pa slot hty hm ho ha hbase hfew hline hs hplain
theorem bc2{e st:Expr}{te:TE}{ts:TO}{pos p2:Pos}(he:PE X e te)(hst:PO X (some st) ts)(hops:∀o i,subscripted (.Slice none none (some st) p2) false o i=operate [o,i] (getItem o i):=by intros;rfl)(hK:X.K=K:=by rfl):PE X (.Subscript e (.Slice none none (some st) p2) pos) (cy1 K te ts):=by
 subst hK
 exact cv7 he hst hops
theorem bT(hK:X.K=K:=by rfl):CallR X (.builtin "len") (ci7 K):=by subst hK;exact cj1
theorem wR(hK:X.K=K:=by rfl):CallR X (.builtin "abs") cu8:=bu9
theorem ag7(hK:X.K=K:=by rfl):CallR X (.builtin "divmod") be2:=bo0
theorem kR(hc:X.calm=true:=by rfl)(hK:X.K=K:=by rfl):CallR X (.builtin "all") (cw9 K):=by subst hK;exact cg2 hc
theorem bg7(hc:X.calm=true:=by rfl)(hK:X.K=K:=by rfl):CallR X (.builtin "any") (cy8 K):=by subst hK;exact bx8 hc
theorem pP(hc:X.calm=true:=by rfl)(hK:X.K=K:=by rfl):CallR X (.builtin "max") (bl9 K):=by subst hK;exact bz6 hc
theorem kP(hc:X.calm=true:=by rfl)(hK:X.K=K:=by rfl):CallR X (.builtin "min") (ca0 K):=by subst hK;exact bm5 hc
def br7:List V->Hp->VK->Prop:=λxs H Q=>∃p ys,xs=[.ref p]/\(SqL K H p ys\/SqT K H p ys)/\∀l,H l=none->Q (.ref l) (upd H l (.lst ys))
theorem eZ(hK:X.K=K:=by rfl):CallR X (.type "list") (br7 K):=by subst hK;exact au8
theorem cm0(hK:X.K=K:=by rfl):MtR X "str.join" (bd4 K):=by subst hK;exact cx5
end
end L2
namespace TL
open PySem PySem.Spec PyProof.Rows L2
section
variable {Jn : gB} {K : PySem.W.Frag} {cn : Str → Option Addr} {E : XK} {As : List (List Addr)} {H : Hp} {Z : Addr → Prop} {Q : VK}
def aV:T->T->Res T
 |.lst _ ts,.int n=>match atI ts n with
  |some t=>.ok t
  |none=>.no
 |.tup ts,.int n=>match atI ts n with
  |some t=>.ok t
  |none=>.no
 |.str z,.int n=>if z.length<=sizeLine then match atI z.cps.toList n with
  |some c=>.ok (.str ⟨#[c]⟩)
  |none=>.no else .no
 |_,_=>.no
theorem Reps.atI(r:Reps K cn H Z ts vs A)(h:L2.atI ts n=some t):∃v B,L2.atI vs n=some v/\Rep K cn H Z t v B:=by
 unfold L2.atI at h⊢
 rw[Option.bind_eq_some_iff]at h
 obtain⟨j,h1,h2⟩:=h
 obtain⟨v,B,e,rv,_⟩:=Reps.get ts r h2
 exact⟨v,B,by rw[Reps.length ts r,h1];exact e,rv⟩
theorem dj4(ha:RB Jn K cn E ta a)(hb:RB Jn K cn E tb b):RB Jn K cn E (tOp (rIx K) ta tb) (aG aV a b):=λAs H Z ρ σ F Q w=>by
 unfold aG at w
 refine ha As H Z ρ σ F _ ?_
 cases e:a ρ with
 |ok t=>
  rw[e]at w
  intro v H1 Z1 B p
  refine hb As H1 Z1 ρ σ (F.mo p.mo) _ ?_
  simp only[Res.bind]at w
  cases e2:b ρ with
  |ok u=>
   rw[e2]at w
   intro v2 H2 Z2 B2 p2
   have rt:=p.rep.same p2.same p2.zz
   have m:=p.mo.trans p2.mo
   have bL:∀{t:T}{v:V}{C:List Addr},WpB K cn E As H Z Q (.ok t)->Rep K cn H2 Z2 t v C->Q v H2:=λw r=>w _ H2 Z2 _ ⟨m.same,m.zz,m.zn,m.zi,r⟩
   simp only at w
   unfold aV at w
   split at w
   . next o ts n=>
     split at w
     . next t' h=>
       obtain⟨q,vs,C,rfl,hs,r,_⟩:=rt.lstSq
       obtain⟨v',D,e3,rv⟩:=r.atI h
       exact .inl ⟨q,vs,n,v',rfl,p2.rep.int,hs.sq,e3,bL w rv⟩
     . exact w.elim
   . next ts n=>
     split at w
     . next t' h=>
       obtain⟨q,vs,rfl,hs,r⟩:=rt.tupS
       obtain⟨v',D,e3,rv⟩:=r.atI h
       exact .inr (.inl ⟨q,vs,n,v',rfl,p2.rep.int,hs,e3,bL w rv⟩)
     . exact w.elim
   . next z n=>
     split at w
     . next hz=>
       split at w
       . next c h=>exact .inr (.inr ⟨z,n,c,rt.str,p2.rep.int,hz,h,bL w (wS _)⟩)
       . exact w.elim
     . exact w.elim
   . exact w.elim
  |ex x=>rw[e2]at w;exact WpX.ev w p.mo.ev
  |no=>rw[e2]at w;exact w
 |ex x=>rw[e]at w;exact w
 |no=>rw[e]at w;exact w
def fM{α:Type}(xs:List α)(lo hi:Option Int):List α:=(xs.drop (HT.sIx xs.length 0 lo)).take (HT.sIx xs.length xs.length hi-HT.sIx xs.length 0 lo)
def pO:T->Option Int->Option Int->Res T
 |.lst _ ts,lo,hi=>if aU ts=true then .ok (.lst true (fM ts lo hi))else .no
 |.tup ts,lo,hi=>if aU ts=true/\¬(HT.sIx ts.length 0 lo=0/\HT.sIx ts.length ts.length hi=ts.length)then .ok (.tup (fM ts lo hi))else .no
 |.str z,lo,hi=>if z.length<=sizeLine then .ok (.str (Txt.slice z lo hi))else .no
 |_,_,_=>.no
theorem Reps.cut(r:Reps K cn H Z ts vs [])(lo hi:Option Int):Reps K cn H Z (fM ts lo hi) (vT vs lo hi) []:=by
 unfold fM vT
 rw[Reps.length ts r]
 exact Reps.take _ _ (Reps.drop _ _ r)
theorem dv6:RSR K cn (du1 K) pO:=λE As H Z t x A lo hi Q zi rt w=>by
 cases t with
 |lst o ts=>
  simp only[pO]at w
  split at w
  . next h=>
    obtain⟨q,vs,C,rfl,hs,r,_⟩:=rt.lstSq
    exact .inl ⟨q,vs,rfl,hs.sq,λp hp=>w.newL zi ((r.bareE h).cut lo hi) p hp⟩
  . exact w.elim
 |tup ts=>
  simp only[pO]at w
  split at w
  . next h=>
    obtain⟨q,vs,rfl,hs,r⟩:=rt.tupS
    exact .inr (.inl ⟨q,vs,rfl,hs,by rw[Reps.length ts r];exact h.2,λp hp=>w.newT zi ((r.bareE h.1).cut lo hi) p hp⟩)
  . exact w.elim
 |str z=>
  simp only[pO]at w
  split at w
  . next h=>rw[rt.str];exact .inr (.inr ⟨z,rfl,h,w.val zi (wS _)⟩)
  . exact w.elim
 |_=>exact w.elim
def bj2(k:Option Int):T->Res T
 |.lst _ ts=>if aU ts=true/\k=some (-1)then .ok (.lst true ts.reverse)else .no
 |_=>.no
def zM(a:Fr->Res T)(s:Fr->Res (Option Int)):Fr->Res T:=λρ=>(a ρ).bind λt=>(s ρ).bind λk=>bj2 k t
theorem dn0(ha:RB Jn K cn E te a)(hs:RO Jn K cn E ts s):RE Jn K cn E [] (cy1 K te ts) (zM a s):=λAs H Z ρ σ F Q w=>by
 unfold zM at w
 refine ha As H Z ρ σ F _ ?_
 cases e:a ρ with
 |ok t=>
  rw[e]at w
  intro v H1 Z1 B p
  refine hs As H1 Z1 ρ σ (F.mo p.mo) _ ?_
  simp only[Res.bind]at w
  cases e2:s ρ with
  |ok k=>
   rw[e2]at w
   intro H2 Z2 m2
   have m:=p.mo.trans m2
   simp only at w
   have w2:=WpE.mo F w m
   cases t with
   |lst o ts=>
    simp only[bj2]at w2
    split at w2
    . next h=>
      obtain⟨q,vs,C,rfl,hs,r,_⟩:=(p.rep.same m2.same m2.zz).lstSq
      exact⟨h.2,q,vs,rfl,hs.sq,λp hp=>WpE.newL w2 m.zi (Reps.reverse ts (r.bareE h.1)) p hp⟩
    . exact w2.elim
   |_=>exact w2.elim
  |ex x=>rw[e2]at w;exact WpX.ev w p.mo.ev
  |no=>rw[e2]at w;exact w
 |ex x=>rw[e]at w;exact w
 |no=>rw[e]at w;exact w
theorem Reps.one1(r:Reps K cn H Z [t] vs A):∃v,vs=[v]/\Rep K cn H Z t v A:=by
 simp only[Reps]at r
 obtain⟨v,w,B,C,rfl,rfl,r,rfl,rfl⟩:=r
 exact⟨v,rfl,by simpa using r⟩
theorem Reps.two2(r:Reps K cn H Z [t,u] vs A):∃v w B C,vs=[v,w]/\A=B++C/\Rep K cn H Z t v B/\Rep K cn H Z u w C:=by
 simp only[Reps]at r
 obtain⟨v,w,B,C,rfl,rfl,r,v2,w2,B2,C2,rfl,rfl,r2,rfl,rfl⟩:=r
 exact⟨v,v2,B,B2,rfl,by simp,r,r2⟩
def dQ:List T->Res T
 |[.str z]=>if z.length<=sizeLine then .ok (.int z.length)else .no
 |[.lst _ ts]=>.ok (.int ts.length)
 |[.tup ts]=>.ok (.int ts.length)
 |_=>.no
theorem dm5:tP K cn (ci7 K) dQ:=λE As H Z ts xs A Q zi r w=>by
 unfold dQ at w
 split at w
 . next z=>
   split at w
   . next h=>obtain⟨v,rfl,rv⟩:=r.one1;rw[rv.str];exact⟨_,_,rfl,⟨h,rfl⟩,w.val zi (iX _)⟩
   . exact w.elim
 . next o ts=>
   obtain⟨v,rfl,rv⟩:=r.one1
   obtain⟨q,vs,C,rfl,hs,r',_⟩:=rv.lstSq
   exact⟨_,_,rfl,.inl ⟨vs,hs.sq,rfl⟩,by rw[Reps.length ts r'];exact w.val zi (iX _)⟩
 . next ts=>
   obtain⟨v,rfl,rv⟩:=r.one1
   obtain⟨q,vs,rfl,hs,r'⟩:=rv.tupS
   exact⟨_,_,rfl,.inr ⟨vs,hs,rfl⟩,by rw[Reps.length ts r'];exact w.val zi (iX _)⟩
 . exact w.elim
def yY:List T->Res T
 |[.int i]=>.ok (.int (if i<0 then -i else i))
 |_=>.no
theorem dk4:tP K cn cu8 yY:=λE As H Z ts xs A Q zi r w=>by
 unfold yY at w
 split at w
 . next i=>rw[r.ints1];exact⟨i,rfl,w.val zi (iX _)⟩
 . exact w.elim
noncomputable def xQ:List T->Res T
 |[.int i,.int j]=>gate (sF i j) (.ok (.tup [.int (i/j),.int (i%j)]))
 |_=>.no
theorem dw6(i j:Int):Reps K cn H Z [.int i,.int j] [.int i,.int j] []:=by
 simp only[Reps]
 exact⟨_,_,[],[],rfl,rfl,iX _,_,_,[],[],rfl,rfl,iX _,rfl,rfl⟩
theorem by9:tP K cn be2 xQ:=λE As H Z ts xs A Q zi r w=>by
 unfold xQ at w
 split at w
 . next i j=>
   obtain⟨h,w⟩:=w.gate
   rw[r.ints2];exact⟨i,j,rfl,h,λp hp=>w.newT zi (dw6 _ _) p hp⟩
 . exact w.elim
def az6:T->Option String
 |.int _=>some "int"
 |.bl _=>some "bool"
 |.str _=>some "str"
 |.lst _ _=>some "list"
 |.tup _=>some "tuple"
 |_=>none
def br9(tx ty:String):Option Bool:=
 if(ty="int"\/ty="bool"\/ty="str"\/ty="list"\/ty="tuple")then some (tx=ty\/(tx="bool"/\ty="int"))else none
theorem cw3(h0:az6 t=some tx)(h:br9 tx ty=some b):fB tx ty b:=by
 have hx:tx="int"\/tx="bool"\/tx="str"\/tx="list"\/tx="tuple":=by
  cases t<;>simp[az6]at h0<;>subst h0<;>simp
 unfold br9 at h
 split at h
 . next hy=>
   cases h
   rcases hx with rfl|rfl|rfl|rfl|rfl<;>rcases hy with rfl|rfl|rfl|rfl|rfl<;>constructor
 . cases h
theorem bf9(r:Rep K cn H Z t v A)(h:az6 t=some tx):TyN K H v tx:=by
 cases t with
 |int i=>rw[r.int];cases h;rfl
 |bl i=>rw[r.bl];cases h;rfl
 |str i=>rw[r.str];cases h;rfl
 |lst o ts=>obtain⟨q,vs,C,rfl,hs,_⟩:=r.lstSq;cases h;exact .inl ⟨rfl,vs,hs.sq⟩
 |tup ts=>obtain⟨q,vs,rfl,hs,_⟩:=r.tupS;cases h;exact .inr ⟨rfl,vs,hs⟩
 |_=>cases h
def qY:List T->Res T
 |[t,.ty n]=>match az6 t with
  |some tx=>match br9 tx n with
   |some b=>.ok (.bl b)
   |none=>.no
  |none=>.no
 |_=>.no
theorem dl2:tP K cn (ds6 K) qY:=λE As H Z ts xs A Q zi r w=>by
 unfold qY at w
 split at w
 . next t n=>
   split at w
   . next tx h1=>
     split at w
     . next b h2=>
       obtain⟨v,u,B,C,rfl,_,r1,r2⟩:=r.two2
       simp only[Rep]at r2
       rw[r2.1]
       exact⟨v,n,tx,b,rfl,bf9 r1 h1,cw3 h1 h2,w.val zi (nY _)⟩
     . exact w.elim
   . exact w.elim
 . exact w.elim
def xU:List T->Option (List Bool)
 |[]=>some []
 |.bl b::ts=>(xU ts).map (b:: ·)
 |_::_=>none
theorem zN:∀(ts:List T){vs:List V}{A:List Addr}{bs:List Bool},Reps K cn H Z ts vs A->xU ts=some bs->vs=bs.map V.bl
 |[],vs,A,bs,r,h=>by
  simp only[Reps]at r
  cases h
  exact r.1
 |t::ts,vs,A,bs,r,h=>by
  simp only[Reps]at r
  obtain⟨v,vs',B,C,rfl,rfl,r1,r2⟩:=r
  cases t with
  |bl b=>
   simp only[xU]at h
   rw[Option.map_eq_some_iff]at h
   obtain⟨bs',h1,rfl⟩:=h
   rw[zN ts r2 h1,r1.bl]
   rfl
  |_=>cases h
def lO(any:Bool):List T->Res T
 |[.lst _ ts]=>match xU ts with
  |some bs=>.ok (.bl (if any=true then bs.any id else bs.all id))
  |none=>.no
 |_=>.no
theorem dv3:tP K cn (cw9 K) (lO false):=λE As H Z ts xs A Q zi r w=>by
 unfold lO at w
 split at w
 . next o ts=>
   split at w
   . next bs h=>
     obtain⟨v,rfl,rv⟩:=r.one1
     obtain⟨q,vs,C,rfl,hs,r',_⟩:=rv.lstSq
     have:=zN ts r' h
     subst this
     exact⟨q,bs,rfl,hs.sq,w.val zi (nY _)⟩
   . exact w.elim
 . exact w.elim
theorem dc5:tP K cn (cy8 K) (lO true):=λE As H Z ts xs A Q zi r w=>by
 unfold lO at w
 split at w
 . next o ts=>
   split at w
   . next bs h=>
     obtain⟨v,rfl,rv⟩:=r.one1
     obtain⟨q,vs,C,rfl,hs,r',_⟩:=rv.lstSq
     have:=zN ts r' h
     subst this
     exact⟨q,bs,rfl,hs.sq,w.val zi (nY _)⟩
   . exact w.elim
 . exact w.elim
def wM:List T->Option (List Int)
 |[]=>some []
 |.int b::ts=>(wM ts).map (b:: ·)
 |_::_=>none
theorem ak3:∀(ts:List T){vs:List V}{A:List Addr}{bs:List Int},Reps K cn H Z ts vs A->wM ts=some bs->vs=bs.map V.int
 |[],vs,A,bs,r,h=>by
  simp only[Reps]at r
  cases h
  exact r.1
 |t::ts,vs,A,bs,r,h=>by
  simp only[Reps]at r
  obtain⟨v,vs',B,C,rfl,rfl,r1,r2⟩:=r
  cases t with
  |int b=>
   simp only[wM]at h
   rw[Option.map_eq_some_iff]at h
   obtain⟨bs',h1,rfl⟩:=h
   rw[ak3 ts r2 h1,r1.int]
   rfl
  |_=>cases h
theorem uS:∀ns:List Int,wM (ns.map T.int)=some ns
 |[]=>rfl
 |n::ns=>by simp[wM,uS ns]
theorem ae5:∀ns:List Bool,xU (ns.map T.bl)=some ns
 |[]=>rfl
 |n::ns=>by simp[xU,ae5 ns]
def cy0:List Int->Int
 |[]=>0
 |n::ns=>ns.foldl (λa b=>if b>a then b else a) n
def cg0:List Int->Int
 |[]=>0
 |n::ns=>ns.foldl (λa b=>if b<a then b else a) n
theorem aq5:∀(n:Int)(ns:List Int),(ns.foldl (λa b=>if b>a then b else a) n∈n::ns)/\∀a∈n::ns,a<=ns.foldl (λa b=>if b>a then b else a) n
 |n,[]=>by simp
 |n,m::ns=>by
  simp only[List.foldl_cons]
  have ih:=aq5 (if m>n then m else n) ns
  refine⟨?_,λa ha=>?_⟩
  . rcases List.mem_cons.mp ih.1 with h|h
    . rw[h];split<;>simp
    . exact List.mem_cons_of_mem _ (List.mem_cons_of_mem _ h)
  . have h1:=ih.2 (if m>n then m else n) List.mem_cons_self
    rcases List.mem_cons.mp ha with rfl|ha
    . split at h1<;>rename_i hc
      . simp only[hc,if_true];omega
      . simp only[hc,if_false];exact h1
    . rcases List.mem_cons.mp ha with rfl|ha
      . split at h1<;>rename_i hc
        . simp only[hc,if_true];exact h1
        . simp only[hc,if_false];omega
      . exact ih.2 a (List.mem_cons_of_mem _ ha)
theorem al5:∀(n:Int)(ns:List Int),(ns.foldl (λa b=>if b<a then b else a) n∈n::ns)/\∀a∈n::ns,ns.foldl (λa b=>if b<a then b else a) n<=a
 |n,[]=>by simp
 |n,m::ns=>by
  simp only[List.foldl_cons]
  have ih:=al5 (if m<n then m else n) ns
  refine⟨?_,λa ha=>?_⟩
  . rcases List.mem_cons.mp ih.1 with h|h
    . rw[h];split<;>simp
    . exact List.mem_cons_of_mem _ (List.mem_cons_of_mem _ h)
  . have h1:=ih.2 (if m<n then m else n) List.mem_cons_self
    rcases List.mem_cons.mp ha with rfl|ha
    . split at h1<;>rename_i hc
      . simp only[hc,if_true];omega
      . simp only[hc,if_false];exact h1
    . rcases List.mem_cons.mp ha with rfl|ha
      . split at h1<;>rename_i hc
        . simp only[hc,if_true];exact h1
        . simp only[hc,if_false];omega
      . exact ih.2 a (List.mem_cons_of_mem _ ha)
def sO:List T->Res T
 |[.int i,.int j]=>.ok (.int (if j>i then j else i))
 |[.lst _ ts]=>match wM ts with
  |some (n::ns)=>.ok (.int (cy0 (n::ns)))
  |_=>.no
 |_=>.no
def pS:List T->Res T
 |[.int i,.int j]=>.ok (.int (if j<i then j else i))
 |[.lst _ ts]=>match wM ts with
  |some (n::ns)=>.ok (.int (cg0 (n::ns)))
  |_=>.no
 |_=>.no
theorem du5:tP K cn (bl9 K) sO:=λE As H Z ts xs A Q zi r w=>by
 unfold sO at w
 split at w
 . next i j=>rw[r.ints2];exact .inl ⟨i,j,rfl,w.val zi (iX _)⟩
 . next o ts=>
   split at w
   . next n ns h=>
     obtain⟨v,rfl,rv⟩:=r.one1
     obtain⟨q,vs,C,rfl,hs,r',_⟩:=rv.lstSq
     have:=ak3 ts r' h
     subst this
     refine .inr ⟨q,n::ns,rfl,hs.sq,List.cons_ne_nil _ _,λM h1 h2=>?_⟩
     obtain⟨g1,g2⟩:=aq5 n ns
     have:M=cy0 (n::ns):=Int.le_antisymm (g2 M h1) (h2 _ g1)
     rw[this]
     exact w.val zi (iX _)
   . exact w.elim
 . exact w.elim
theorem dp4:tP K cn (ca0 K) pS:=λE As H Z ts xs A Q zi r w=>by
 unfold pS at w
 split at w
 . next i j=>rw[r.ints2];exact .inl ⟨i,j,rfl,w.val zi (iX _)⟩
 . next o ts=>
   split at w
   . next n ns h=>
     obtain⟨v,rfl,rv⟩:=r.one1
     obtain⟨q,vs,C,rfl,hs,r',_⟩:=rv.lstSq
     have:=ak3 ts r' h
     subst this
     refine .inr ⟨q,n::ns,rfl,hs.sq,List.cons_ne_nil _ _,λM h1 h2=>?_⟩
     obtain⟨g1,g2⟩:=al5 n ns
     have:M=cg0 (n::ns):=Int.le_antisymm (h2 _ g1) (g2 M h1)
     rw[this]
     exact w.val zi (iX _)
   . exact w.elim
 . exact w.elim
def da2(n:Int):List Int->List Int
 |[]=>[n]
 |m::ms=>if n<=m then n::m::ms else m::da2 n ms
def bk3:List Int->List Int
 |[]=>[]
 |n::ns=>da2 n (bk3 ns)
def bg2:List T->Res T
 |[.lst _ ts]=>match wM ts with
  |some ns=>if ns.length<64 then .ok (.lst true ((bk3 ns).map .int))else .no
  |none=>.no
 |_=>.no
def gE:List T->Res T
 |[.lst _ ts]=>if aU ts=true then .ok (.lst true ts)else .no
 |[.tup ts]=>if aU ts=true then .ok (.lst true ts)else .no
 |_=>.no
theorem cb9:tP K cn (br7 K) gE:=λE As H Z ts xs A Q zi r w=>by
 unfold gE at w
 split at w
 . next o ts=>
   split at w
   . next h=>
     obtain⟨v,rfl,rv⟩:=r.one1
     obtain⟨q,vs,C,rfl,hs,r',_⟩:=rv.lstSq
     exact⟨q,vs,rfl,.inl hs.sq,λl hl=>w.newL zi (r'.bareE h) l hl⟩
   . exact w.elim
 . next ts=>
   split at w
   . next h=>
     obtain⟨v,rfl,rv⟩:=r.one1
     obtain⟨q,vs,rfl,hs,r'⟩:=rv.tupS
     exact⟨q,vs,rfl,.inr hs,λl hl=>w.newL zi (r'.bareE h) l hl⟩
   . exact w.elim
 . exact w.elim
def cm5:T->List T->Res T
 |.str z,[.str y]=>.ok (.bl (Txt.startswith z y))
 |_,_=>.no
def tS:List T->Option (List Str)
 |[]=>some []
 |.str b::ts=>(tS ts).map (b:: ·)
 |_::_=>none
theorem as3:∀(ts:List T){vs:List V}{A:List Addr}{bs:List Str},Reps K cn H Z ts vs A->tS ts=some bs->vs=bs.map V.str
 |[],vs,A,bs,r,h=>by
  simp only[Reps]at r
  cases h
  exact r.1
 |t::ts,vs,A,bs,r,h=>by
  simp only[Reps]at r
  obtain⟨v,vs',B,C,rfl,rfl,r1,r2⟩:=r
  cases t with
  |str b=>
   simp only[tS]at h
   rw[Option.map_eq_some_iff]at h
   obtain⟨bs',h1,rfl⟩:=h
   rw[as3 ts r2 h1,r1.str]
   rfl
  |_=>cases h
theorem wP:∀ns:List Str,tS (ns.map T.str)=some ns
 |[]=>rfl
 |n::ns=>by simp[tS,wP ns]
def tX:T->List T->Res T
 |.str z,[.lst _ ts]=>match tS ts with
  |some ys=>if(ys.map (·.length)).sum+ys.length*z.length<=16777216 then .ok (.str (Txt.join z ys))else .no
  |none=>.no
 |_,_=>.no
theorem cj7:RMR K cn "str" (bd4 K) tX:=λE As H Z t ts x xs A B Q zi rt r w=>by
 unfold tX at w
 split at w
 . next z o ts=>
   split at w
   . next ys h=>
     split at w
     . next hz=>
       obtain⟨v,rfl,rv⟩:=r.one1
       obtain⟨q,vs,C,rfl,hs,r',_⟩:=rv.lstSq
       have:=as3 ts r' h
       subst this
       rw[rt.str]
       exact⟨z,q,ys,rfl,rfl,hs.sq,hz,w.val zi (wS _)⟩
     . exact w.elim
   . exact w.elim
 . exact w.elim
end
end TL
namespace TL
open PySem PySem.Spec PyProof.Rows L2
theorem mP(a:α)(f:α->Res β):(Res.ok a).bind f=f a:=rfl
theorem ad7(P:Nat->Fr->Prop):∀(ts:List T)(k:Nat){ρ:Fr},P k ρ->(∀i t ρ,ts[i]?=some t->P (k+i) ρ->∃ρ1 ρ2,b t ρ=some ρ1/\(body ρ1=.nx ρ2\/body ρ1=.ct ρ2)/\P (k+i+1) ρ2)->∃ρ',eV b body ts ρ=.nx ρ'/\P (k+ts.length) ρ'
 |[],k,ρ,h0,_=>⟨ρ,rfl,h0⟩
 |t::ts,k,ρ,h0,hs=>by
  obtain⟨ρ1,ρ2,h1,h2,h3⟩:=hs 0 t ρ rfl h0
  obtain⟨ρ',h4,h5⟩:=ad7 (b:=b) (body:=body) P ts (k+1) h3 (λi u ρ e p=>by
   have:=hs (i+1) u ρ (by simpa using e) (by rw[show k+(i+1)=k+1+i by omega];exact p)
   rw[show k+(i+1)+1=k+1+i+1 by omega]at this
   exact this)
  refine⟨ρ',?_,by rw[List.length_cons,show k+(ts.length+1)=k+1+ts.length by omega];exact h5⟩
  rcases h2 with h2|h2<;>simp only[eV,h1,h2,h4]
def Go(P:Fr->Prop):bR->Prop
 |.nx ρ=>P ρ
 |.ct ρ=>P ρ
 |_=>False
def GoB(P:Fr->Prop)(body:Fr->bR):Option Fr->Prop
 |some ρ=>Go P (body ρ)
 |none=>False
theorem dp3:Go P (.nx ρ)=P ρ:=rfl
theorem dw4:Go P (.ct ρ)=P ρ:=rfl
theorem bq8:GoB P body (some ρ)=Go P (body ρ):=rfl
theorem iQ(P:Nat->Fr->Prop)(h:eV b body ts ρ=o)(h0:P 0 ρ)(hs:∀i t ρ,ts[i]?=some t->P i ρ->GoB (P (i+1)) body (b t ρ)):∃ρ',o=.nx ρ'/\P ts.length ρ':=by
 obtain⟨ρ',h1,h2⟩:=ad7 (b:=b) (body:=body) P ts 0 h0 (λi t ρ e p=>by
  have:=hs i t ρ e (by rw[Nat.zero_add]at p;exact p)
  rw[Nat.zero_add]
  cases e1:b t ρ with
  |none=>rw[e1]at this;exact this.elim
  |some ρ1=>
   rw[e1]at this
   have g:Go (P (i+1)) (body ρ1):=this
   cases e2:body ρ1 with
   |nx ρ2=>rw[e2]at g;exact⟨ρ1,ρ2,rfl,.inl e2,g⟩
   |ct ρ2=>rw[e2]at g;exact⟨ρ1,ρ2,rfl,.inr e2,g⟩
   |_=>rw[e2]at g;exact g.elim)
 rw[Nat.zero_add]at h2
 exact⟨ρ',by rw[<-h,h1],h2⟩
def bl2(P B:Fr->Prop)(R:T->Prop):bR->Prop
 |.nx ρ=>P ρ
 |.ct ρ=>P ρ
 |.bk ρ=>B ρ
 |.rt t=>R t
 |_=>False
def ak9(P B:Fr->Prop)(R:T->Prop)(body:Fr->bR):Option Fr->Prop
 |some ρ=>bl2 P B R (body ρ)
 |none=>False
theorem at0(P:Nat->Fr->Prop)(B:Fr->Prop)(R:T->Prop):∀(ts:List T)(k:Nat){ρ:Fr},P k ρ->(∀i t ρ,ts[i]?=some t->P (k+i) ρ->ak9 (P (k+i+1)) B R body (b t ρ))->
 (∃ρ',eV b body ts ρ=.nx ρ'/\(P (k+ts.length) ρ'\/B ρ'))\/∃t,eV b body ts ρ=.rt t/\R t
 |[],k,ρ,h0,_=>.inl ⟨ρ,rfl,.inl h0⟩
 |t::ts,k,ρ,h0,hs=>by
  have h1:=hs 0 t ρ rfl h0
  have next:∀{ρ2:Fr},P (k+1) ρ2->(∃ρ',eV b body ts ρ2=.nx ρ'/\(P (k+(ts.length+1)) ρ'\/B ρ'))\/∃t,eV b body ts ρ2=.rt t/\R t:=by
   intro ρ2 p
   have:=at0 (b:=b) (body:=body) P B R ts (k+1) p (λi u ρ e p=>by
    have:=hs (i+1) u ρ (by simpa using e) (by rw[show k+(i+1)=k+1+i by omega];exact p)
    rw[show k+(i+1)+1=k+1+i+1 by omega]at this
    exact this)
   rw[show k+1+ts.length=k+(ts.length+1) by omega]at this
   exact this
  rw[List.length_cons]
  simp only[eV]
  cases e1:b t ρ with
  |none=>rw[e1]at h1;exact h1.elim
  |some ρ1=>
   rw[e1]at h1
   have g:bl2 (P (k+0+1)) B R (body ρ1):=h1
   simp only
   cases e2:body ρ1 with
   |nx ρ2=>rw[e2]at g;exact next g
   |ct ρ2=>rw[e2]at g;exact next g
   |bk ρ2=>rw[e2]at g;exact .inl ⟨ρ2,rfl,.inr g⟩
   |rt t=>rw[e2]at g;exact .inr ⟨t,rfl,g⟩
   |_=>rw[e2]at g;exact g.elim
theorem bd6(P:Nat->Fr->Prop)(B:Fr->Prop)(R:T->Prop)(h:eV b body ts ρ=o)(h0:P 0 ρ)(hs:∀i t ρ,ts[i]?=some t->P i ρ->ak9 (P (i+1)) B R body (b t ρ)):
 (∃ρ',o=.nx ρ'/\(P ts.length ρ'\/B ρ'))\/∃t,o=.rt t/\R t:=by
 have:=at0 (b:=b) (body:=body) P B R ts 0 h0 (λi t ρ e p=>by
  rw[Nat.zero_add]at p⊢
  exact hs i t ρ e p)
 rw[Nat.zero_add,h]at this
 exact this
def GoW(P:Fr->Prop)(body:Fr->bR)(ρ:Fr):Res Bool->Prop
 |.ok true=>Go P (body ρ)
 |.ok false=>True
 |_=>False
theorem df1(i j:Int):bU (.int i) (.int j)=.ok (.int (i+j)):=rfl
theorem dg1(a b:Str):bU (.str a) (.str b)=gate (a.length+b.length<=sizeLine) (.ok (.str (a++b))):=rfl
theorem dj0(o o':Bool)(xs ys:List T):bU (.lst o xs) (.lst o' ys)=gate ((aU xs&&aU ys)=true/\xs.length+ys.length<=sizeLine) (.ok (.lst true (xs++ys))):=rfl
theorem ca9(xs ys:List T):bU (.tup xs) (.tup ys)=gate ((aU xs&&aU ys)=true/\xs.length+ys.length<=sizeLine/\xs.isEmpty=false/\ys.isEmpty=false) (.ok (.tup (xs++ys))):=rfl
theorem cs9(i j:Int):cT (.int i) (.int j)=.ok (.int (i-j)):=rfl
theorem dj1(i j:Int):jY (.int i) (.int j)=gate (mulOk i j) (.ok (.int (i*j))):=rfl
theorem da0(z:Str)(k:Int):jY (.str z) (.int k)=gate (-(2^63)<=k/\k<2^62/\z.length*k.toNat<=sizeLine) (.ok (.str (uG z k.toNat))):=rfl
theorem ci6(i j:Int):fT (.int i) (.int j)=gate (sF i j) (.ok (.int (i/j))):=rfl
theorem cc8(i j:Int):bW (.int i) (.int j)=gate (0<j) (.ok (.int (i%j))):=rfl
theorem al0(i j:Int):wU (.int i) (.int j)=gate (vQ i j) (.ok (.int (i^j.toNat))):=rfl
theorem dg2(i:Int):mG (.int i)=.ok (.int (-i)):=rfl
theorem du4(i j:Int):wH (.int i) (.int j)=.ok (.bl (decide (i<j))):=rfl
theorem dk2(i j:Int):nX (.int i) (.int j)=.ok (.bl (decide (i<=j))):=rfl
theorem dq3(i j:Int):gtT (.int i) (.int j)=.ok (.bl (decide (j<i))):=rfl
theorem dn5(i j:Int):geT (.int i) (.int j)=.ok (.bl (decide (j<=i))):=rfl
theorem df4(a b:Bool):yF (.bl a) (.bl b)=.ok (.bl (a==b)):=rfl
theorem dj5:yF .non .non=.ok (.bl true):=rfl
theorem di5(i:Int):yF (.int i) .non=.ok (.bl false):=rfl
theorem dz4(i:Str):yF (.str i) .non=.ok (.bl false):=rfl
theorem dv2(o:Bool)(i:List T):yF (.lst o i) .non=.ok (.bl false):=rfl
theorem dk5(i:List T):yF (.tup i) .non=.ok (.bl false):=rfl
theorem cm1:kU .non .non=.ok (.bl false):=rfl
theorem cl2(i:Int):kU (.int i) .non=.ok (.bl true):=rfl
theorem cc1(i:Str):kU (.str i) .non=.ok (.bl true):=rfl
theorem bz9(o:Bool)(i:List T):kU (.lst o i) .non=.ok (.bl true):=rfl
theorem cq1(i:List T):kU (.tup i) .non=.ok (.bl true):=rfl
theorem dm3(i j:Int):fR (.int i) (.int j)=.ok (.bl (i==j)):=rfl
theorem du2(i j:Str):fR (.str i) (.str j)=.ok (.bl (i==j)):=rfl
theorem dc4(i j:Bool):fR (.bl i) (.bl j)=.ok (.bl (i==j)):=rfl
theorem dj2(i j:Int):neT (.int i) (.int j)=.ok (.bl (!(i==j))):=rfl
theorem dl5(i j:Str):neT (.str i) (.str j)=.ok (.bl (!(i==j))):=rfl
theorem dg3(i j:Bool):neT (.bl i) (.bl j)=.ok (.bl (!(i==j))):=rfl
theorem dz2(n:Bool)(i j:Str):yL n (.str i) (.str j)=.ok (.bl (if n=true then !occ j i else occ j i)):=rfl
theorem dw3(o:Bool)(ts:List T)(n:Int):aV (.lst o ts) (.int n)=match atI ts n with|some t=>.ok t|none=>.no:=rfl
theorem cp3(ts:List T)(n:Int):aV (.tup ts) (.int n)=match atI ts n with|some t=>.ok t|none=>.no:=rfl
theorem dw2(z:Str)(n:Int):aV (.str z) (.int n)=if z.length<=sizeLine then match atI z.cps.toList n with|some c=>.ok (.str ⟨#[c]⟩)|none=>.no else .no:=rfl
theorem dd6(o:Bool)(ts:List T)(lo hi:Option Int):pO (.lst o ts) lo hi=if aU ts=true then .ok (.lst true (fM ts lo hi))else .no:=rfl
theorem dg6(ts:List T)(lo hi:Option Int):pO (.tup ts) lo hi=if aU ts=true/\¬(HT.sIx ts.length 0 lo=0/\HT.sIx ts.length ts.length hi=ts.length)then .ok (.tup (fM ts lo hi))else .no:=rfl
theorem du6(z:Str)(lo hi:Option Int):pO (.str z) lo hi=if z.length<=sizeLine then .ok (.str (Txt.slice z lo hi))else .no:=rfl
theorem dt3(z:Str):dQ [.str z]=if z.length<=sizeLine then .ok (.int z.length)else .no:=rfl
theorem ds5(o:Bool)(ts:List T):dQ [.lst o ts]=.ok (.int ts.length):=rfl
theorem dm4(ts:List T):dQ [.tup ts]=.ok (.int ts.length):=rfl
theorem dl3(i:Int):yY [.int i]=.ok (.int (if i<0 then -i else i)):=rfl
theorem bn5(i j:Int):xQ [.int i,.int j]=gate (sF i j) (.ok (.tup [.int (i/j),.int (i%j)])):=rfl
theorem cu3(i:Int):qY [.int i,.ty "int"]=.ok (.bl true):=by with_unfolding_all rfl
theorem ba7(i:Int):qY [.int i,.ty "bool"]=.ok (.bl false):=by with_unfolding_all rfl
theorem cs3(i:Bool):qY [.bl i,.ty "bool"]=.ok (.bl true):=by with_unfolding_all rfl
theorem bn7(i:Bool):qY [.bl i,.ty "int"]=.ok (.bl true):=by with_unfolding_all rfl
theorem co3(i:List T):qY [.tup i,.ty "tuple"]=.ok (.bl true):=by with_unfolding_all rfl
theorem cg3(o:Bool)(i:List T):qY [.lst o i,.ty "list"]=.ok (.bl true):=by with_unfolding_all rfl
theorem dy3(i:Str):qY [.str i,.ty "str"]=.ok (.bl true):=by with_unfolding_all rfl
theorem db1(i:Str):qY [.str i,.ty "int"]=.ok (.bl false):=by with_unfolding_all rfl
theorem ca3(a o:Bool)(bs:List Bool):lO a [.lst o (bs.map .bl)]=.ok (.bl (if a=true then bs.any id else bs.all id)):=by
 simp only[lO,ae5]
theorem dw1(i j:Int):sO [.int i,.int j]=.ok (.int (if j>i then j else i)):=rfl
theorem cx7(i j:Int):pS [.int i,.int j]=.ok (.int (if j<i then j else i)):=rfl
theorem df5(o:Bool)(n:Int)(ns:List Int):sO [.lst o ((n::ns).map .int)]=.ok (.int (cy0 (n::ns))):=by
 simp only[sO,uS]
theorem dh5(o:Bool)(n:Int)(ns:List Int):pS [.lst o ((n::ns).map .int)]=.ok (.int (cg0 (n::ns))):=by
 simp only[pS,uS]
theorem cd1(o:Bool)(ns:List Int):bg2 [.lst o (ns.map .int)]=if ns.length<64 then .ok (.lst true ((bk3 ns).map .int))else .no:=by
 simp only[bg2,uS]
theorem cr8(o:Bool)(ts:List T):gE [.lst o ts]=if aU ts=true then .ok (.lst true ts)else .no:=rfl
theorem dz1(ts:List T):gE [.tup ts]=if aU ts=true then .ok (.lst true ts)else .no:=rfl
theorem bl7(z y:Str):cm5 (.str z) [.str y]=.ok (.bl (Txt.startswith z y)):=rfl
theorem bn1(z:Str)(o:Bool)(ys:List Str):tX (.str z) [.lst o (ys.map .str)]=if(ys.map (·.length)).sum+ys.length*z.length<=16777216 then .ok (.str (Txt.join z ys))else .no:=by
 simp only[tX,wP]
theorem de4(o:Bool)(ts:List T):kD (.lst o ts)=if aU ts=true then .ok ts else .no:=rfl
theorem dh4(ts:List T):kD (.tup ts)=if aU ts=true then .ok ts else .no:=rfl
theorem dd5(z:Str):kD (.str z)=.ok (z.cps.toList.map λc=>T.str ⟨#[c]⟩):=rfl
theorem ds4(ts:List T):vY (.lst false ts)=if aU ts=true then .ok ts else .no:=by simp only[vY,Bool.not_false,Bool.true_and]
theorem ds3(ts:List T):vY (.tup ts)=if aU ts=true then .ok ts else .no:=rfl
theorem dh2(z:Str):vY (.str z)=.ok (z.cps.toList.map λc=>T.str ⟨#[c]⟩):=rfl
theorem di2(j:Int):oI [.int j]=gate (-(2^62)<=j/\j<2^62) (.ok (iH 0 j.toNat)):=rfl
theorem do5(i j:Int):bh3 [.int i,.int j]=gate (-(2^62)<=i/\i<2^62/\-(2^62)<=j/\j<2^62) (.ok (iH i (j-i).toNat)):=rfl
theorem do3(b:Bool):sH (.bl b)=.ok b:=rfl
theorem da5(b:Int):sH (.int b)=.ok (b !=0):=rfl
theorem dt2:sH .non=.ok false:=rfl
theorem dq5(o:Bool)(b:List T):sH (.lst o b)=.ok (!b.isEmpty):=rfl
theorem dn3(b:Bool):toB (.bl b)=.ok b:=rfl
theorem dt5(i:Int):toI (.int i)=.ok (some i):=rfl
theorem dd3(o:Bool)(ts:List T):bj2 (some (-1)) (.lst o ts)=if aU ts=true then .ok (.lst true ts.reverse)else .no:=by
 simp only[bj2,and_true]
theorem fU:∀{l:List α},(∀a∈l,d (ρ.set k (some (g a)))=.ok (f a))->bX (aJ k) cI d ρ (l.map g)=.ok (l.map f)
 |[],_=>rfl
 |a::l,h=>by
  simp only[List.map_cons,bX,aJ,cI,mP,if_true,h a List.mem_cons_self,fU (λu hu=>h u (List.mem_cons_of_mem _ hu))]
theorem aw1:∀{l:List α},(∀a∈l,c (ρ.set k (some (g a)))=.ok (p a)/\(p a=true->d (ρ.set k (some (g a)))=.ok (f a)))->bX (aJ k) c d ρ (l.map g)=.ok ((l.filter p).map f)
 |[],_=>rfl
 |a::l,h=>by
  obtain⟨h1,h2⟩:=h a List.mem_cons_self
  have ih:=aw1 (k:=k) (c:=c) (d:=d) (ρ:=ρ) (g:=g) (f:=f) (p:=p) (l:=l) (λu hu=>h u (List.mem_cons_of_mem _ hu))
  cases hp:p a with
  |true=>simp only[List.map_cons,bX,aJ,h1,hp,h2 hp,mP,if_true,List.filter_cons,ih]
  |false=>simp only[List.map_cons,bX,aJ,h1,hp,mP,Bool.false_eq_true,if_false,List.filter_cons,ih]
theorem jA{lo:Int}{n i:Nat}{t:T}(h:(iH lo n)[i]?=some t):i<n/\t=.int (lo+i):=by
 unfold iH at h
 rw[List.getElem?_map]at h
 cases q:(List.range n)[i]? with
 |none=>rw[q]at h;cases h
 |some j=>
  rw[q]at h
  obtain⟨h1,h2⟩:=List.getElem?_eq_some_iff.mp q
  simp at h1 h2
  subst h2
  cases h
  exact⟨h1,rfl⟩
theorem fY(lo:Int)(n:Nat):(iH lo n).length=n:=by simp[iH]
theorem jF{α:Type}{g:α->T}(h:∀a,dL (g a)=true):∀l:List α,aU (l.map g)=true
 |[]=>rfl
 |a::l=>by simp only[List.map_cons,aU,h a,jF h l,Bool.and_self]
theorem rL{α:Type}{g:α->T}(h:∀a,frz (g a)=g a):∀l:List α,frzs (l.map g)=l.map g
 |[]=>rfl
 |a::l=>by simp only[List.map_cons,frzs,h a,rL h l]
theorem jI{α:Type}{g:α->T}(h:∀a,dJ (g a)=true):∀l:List α,dA (l.map g)=true
 |[]=>rfl
 |a::l=>by simp only[List.map_cons,dA,h a,jI h l,Bool.and_self]
theorem lS(l:List Int):aU (l.map T.int)=true:=jF (λ_=>rfl) l
theorem xC(l:List Int):frzs (l.map T.int)=l.map T.int:=rL (λ_=>rfl) l
theorem sM(l:List Int):dA (l.map T.int)=true:=jI (λ_=>rfl) l
theorem jS(l:List Str):aU (l.map T.str)=true:=jF (λ_=>rfl) l
theorem xH(l:List Str):frzs (l.map T.str)=l.map T.str:=rL (λ_=>rfl) l
theorem sP(l:List Str):dA (l.map T.str)=true:=jI (λ_=>rfl) l
theorem cw4(z:Str):z.length=z.cps.toList.length:=Array.length_toList.symm
end TL
namespace TL
open PySem PySem.Spec PyProof.Rows L2
section
variable {Jn : gB} {K : PySem.W.Frag} {cn : Str → Option Addr} {E : XK}
def eW(cs:List Str)(f:Str):T->Res T
 |.ins _ c ns ts=>if cs.contains c=true then match(ns.zip ts).lookup f with
  |some t=>.ok t
  |none=>.no else .no
 |_=>.no
def iE(K:PySem.W.Frag)(cn:Str->Option Addr)(cs:List Str)(f:Str):Prop:=∀c∈cs,∀C,cn c=some C->Cls K C/\NoAttr K C f
theorem Reps.lookup:∀(ns:List Str)(ts:List T){vs:List V}{A:List Addr},Reps K cn H Z ts vs A->(ns.zip ts).lookup f=some t->∃v B,(ns.zip vs).lookup f=some v/\Rep K cn H Z t v B
 |[],ts,_,_,_,e=>by simp at e
 |n::ns,[],_,_,_,e=>by simp at e
 |n::ns,u::ts,vs,A,r,e=>by
  simp only[Reps]at r
  obtain⟨v,r',B,C,rfl,rfl,h1,h2⟩:=r
  rw[List.zip_cons_cons,List.lookup_cons]at e⊢
  cases q:f==n with
  |true=>
   rw[q]at e
   cases e
   exact⟨v,B,rfl,h1⟩
  |false=>
   rw[q]at e
   exact Reps.lookup ns ts h2 e
theorem Rep.insS(r:Rep K cn H Z (.ins o c ns ts) v B):∃a C dx vs D,v=.ref a/\cn c=some C/\H a=some (.ins C dx (ns.zip vs))/\ns.length=vs.length/\Reps K cn H Z ts vs D:=by
 cases o with
 |true=>
  simp only[Rep]at r
  obtain⟨a,C,dx,vs,D,rfl,_,hc,e,l,r⟩:=r
  exact⟨a,C,dx,vs,D,rfl,hc,e,l,r⟩
 |false=>
  simp only[Rep]at r
  obtain⟨a,C,dx,vs,rfl,_,hc,e,_,l,r⟩:=r
  exact⟨a,C,dx,vs,[],rfl,hc,e,l,r⟩
theorem ds1(hf:iE K cn cs f)(ha:RB Jn K cn E ta a):RB Jn K cn E (bk9 K ta f) (dZ (eW cs f) a):=λAs H Z ρ σ F Q w=>by
 unfold dZ at w
 refine ha As H Z ρ σ F _ ?_
 cases e:a ρ with
 |ok t=>
  rw[e]at w
  intro v H1 Z1 B p
  simp only[Res.bind]at w
  unfold eW at w
  split at w
  . next o c ns ts=>
    split at w
    . next hc=>
      split at w
      . next t' h=>
        obtain⟨q,C,dx,vs,D,rfl,hC,eq,_,r⟩:=p.rep.insS
        obtain⟨v',B',e3,rv⟩:=Reps.lookup ns ts r h
        obtain⟨k1,k2⟩:=hf c (by simpa using hc) C hC
        exact⟨q,C,dx,_,v',rfl,eq,k1,k2,e3,w v' H1 Z1 B' ⟨p.same,p.zz,p.zn,p.zi,rv⟩⟩
      . exact w.elim
    . exact w.elim
  . exact w.elim
 |ex x=>rw[e]at w;exact w
 |no=>rw[e]at w;exact w
def eU(f:Str):List Str->Option Nat
 |[]=>none
 |n::ns=>if n=f then some 0 else(eU f ns).map (· +1)
theorem bm1:∀(ns:List Str)(vs:List V){k:Nat},ns.length=vs.length->eU f ns=some k->iT f y (ns.zip vs)=ns.zip (vs.set k y)
 |[],_,_,_,h=>by simp[eU]at h
 |n::ns,[],_,l,_=>by simp at l
 |n::ns,w::vs,k,l,h=>by
  unfold eU at h
  rw[List.zip_cons_cons,iT]
  by_cases q:n=f
  . rw[if_pos q]at h;cases h
    rw[if_pos q];rfl
  . rw[if_neg q,Option.map_eq_some_iff]at h
    obtain⟨k',h1,rfl⟩:=h
    rw[if_neg q,bm1 ns vs (by simpa using l) h1];rfl
theorem ac7:∀(ns:List Str)(vs:List V),ns.length=vs.length->eU f ns=none->iT f y (ns.zip vs)=(ns++[f]).zip (vs++[y])
 |[],[],_,_=>rfl
 |[],w::vs,l,_=>by simp at l
 |n::ns,[],l,_=>by simp at l
 |n::ns,w::vs,l,h=>by
  unfold eU at h
  rw[List.zip_cons_cons,iT]
  by_cases q:n=f
  . rw[if_pos q]at h;cases h
  . rw[if_neg q,Option.map_eq_none_iff]at h
    rw[if_neg q,ac7 ns vs (by simpa using l) h];rfl
def dh7(j:Nat)(cs:List Str)(f:Str)(d:Fr->Res (List Nat)):Fr->Res (List Nat):=λρ=>(d ρ).bind λp=>match ρ[j]? with
 |some (some t0)=>match kL p t0 with
  |some (.ins o c ns ts)=>if(o&&cs.contains c)=true then match eU f ns with
   |some k=>if k<ts.length then .ok (p++[k])else .no
   |none=>.no else .no
  |_=>.no
 |_=>.no
def pU(j:Nat)(mv:List Nat)(cs:List Str)(f:Str)(e:Fr->Res T)(d:Fr->Res (List Nat)):Fr->bR:=λρ=>match e ρ with
 |.ok t=>match(kills mv ρ)[j]? with
  |some (some t0)=>match d (kills mv ρ)with
   |.ok p=>match kL p t0 with
    |some (.ins o c ns us)=>if(o&&cs.contains c&&decide (ns.length<1000))=true then match eU f ns with
     |some k=>if k<us.length then al8 j p (.ins true c ns (us.set k t)) (kills mv ρ)else .no
     |none=>al8 j p (.ins true c (ns++[f]) (us++[t])) (kills mv ρ)
     else .no
    |_=>.no
   |.ex x=>.ex x
   |.no=>.no
  |_=>.no
 |.ex x=>.ex x
 |.no=>.no
theorem cp8(hf:iE K cn cs f)(he:RE Jn K cn E mv te e)(hd:RP Jn K cn E j to d):RS Jn K cn E (bm9 K to te f) (pU j mv cs f e d):=λAs H Z ρ σ F D w=>by
 unfold pU at w
 refine he As H Z ρ σ F _ ?_
 cases ee:e ρ with
 |ok t=>
  rw[ee]at w
  intro y H1 Z1 C p1
  simp only at w
  have F1:=(F.mo p1.mo).kills mv
  cases e1:(kills mv ρ)[j]? with
  |none=>rw[e1]at w;exact w.elim
  |some o=>
   rw[e1]at w
   cases o with
   |none=>exact w.elim
   |some t0=>
    obtain⟨v0,e2,r0⟩:=F1.sl.get e1
    simp only at w
    have ev1:Ev As H Z (fN mv As) H1 Z1:=⟨λb o q _=>p1.same b o q,λb hb=>.inl (fJ hb),p1.zz,λb h=>(p1.zn b h).imp_right .inr,λb h=>p1.same.free h⟩
    refine hd (fN mv As) H1 Z1 (kills mv ρ) σ F1 t0 v0 e1 e2 r0 _ ?_
    cases ed:d (kills mv ρ)with
    |ok p=>
     rw[ed]at w
     intro u v B H2 Z2 m2 hn pl
     simp only[hn]at w
     split at w
     . next o c ns us hq=>
       cases hq
       split at w
       . next hc=>
         rw[Bool.and_eq_true,Bool.and_eq_true]at hc
         obtain⟨⟨rfl,hc⟩,hl⟩:=hc
         have hl:=of_decide_eq_true hl
         have q:=pl.rep
         simp only[Rep]at q
         obtain⟨a,C',dx,ws,C0,rfl,rfl,hC,ea,l,rs⟩:=q
         have rt:Rep K cn H2 Z2 t y C:=p1.rep.same m2.same m2.zz
         have F2:=F1.mo m2
         have lw:=Reps.length us rs
         obtain⟨k1,k2⟩:=hf c (by simpa using hc) C' hC
         refine⟨a,C',dx,_,rfl,ea,k1,k2,by rw[List.length_zip];omega,?_⟩
         have ndB:(a::C0).Nodup:=(sX F1.nd j).sublist pl.sub
         have cA:∀x∈C0,x∈(fN mv As).getD j []:=λx hx=>pl.sub.mem (List.mem_cons_of_mem _ hx)
         have cOut:=p1.out F
         have cz:∀x∈C,¬Z2 x:=λx hx z=>by
          rcases m2.zn x z with z|z
          . exact p1.bz x hx z
          . obtain⟨o,ho,_⟩:=p1.rep.dom t x hx
            rw[ho]at z;cases z
         cases ek:eU f ns with
         |none=>
          rw[ek]at w
          rw[ac7 ns ws l ek]
          refine az3 (As:=As) (H:=H) (Z:=Z) (E:=E) F2 e1 e2 pl rfl rfl ea rfl (u':=.ins true c (ns++[f]) (us++[t])) (C:=C0++C) (λaC aZ=>?_) ?_ ?_ ?_ (ev1.trans m2.ev) ?_ w
          . simp only[Rep]
            exact⟨a,C',dx,ws++[y],C0++C,rfl,rfl,hC,dO,by simp[l],(Reps.append us rs (Reps.one rt)).upd ea rfl aC aZ⟩
          . rw[List.nodup_append]
            exact⟨(List.nodup_cons.mp ndB).2,p1.nd,λx hx z hz e=>by subst e;exact cOut x hz (bA (cA x hx))⟩
          . intro x hx
            rcases List.mem_append.mp hx with hx|hx
            . exact F2.nz x (bA (cA x hx))
            . exact cz x hx
          . intro x hx hA
            rcases List.mem_append.mp hx with hx|hx
            . exact hx
            . exact absurd hA (cOut x hx)
          . intro x hx
            rcases List.mem_append.mp hx with hx|hx
            . exact .inl (fJ (bA (cA x hx)))
            . exact p1.inA x hx
         |some k=>
          rw[ek]at w
          simp only at w
          split at w
          . next hk=>
            rw[bm1 ns ws l ek]
            obtain⟨B1,Bo,B2,rfl,rs'⟩:=Reps.put rt us rs hk
            have i1:∀x∈B1,x∈B1++Bo++B2:=λx hx=>List.mem_append_left _ (List.mem_append_left _ hx)
            have i2:∀x∈B2,x∈B1++Bo++B2:=λx hx=>List.mem_append_right _ hx
            have nd1:=(List.nodup_cons.mp ndB).2
            rw[List.append_assoc,List.nodup_append]at nd1
            obtain⟨n1,n2,n3⟩:=nd1
            rw[List.nodup_append]at n2
            refine az3 (As:=As) (H:=H) (Z:=Z) (E:=E) F2 e1 e2 pl rfl rfl ea rfl (u':=.ins true c ns (us.set k t)) (C:=B1++C++B2) (λaC aZ=>?_) ?_ ?_ ?_ (ev1.trans m2.ev) ?_ w
            . simp only[Rep]
              exact⟨a,C',dx,ws.set k y,B1++C++B2,rfl,rfl,hC,dO,by simp[l],rs'.upd ea rfl aC aZ⟩
            . rw[List.append_assoc,List.nodup_append]
              refine⟨n1,?_,λx hx z hz e=>?_⟩
              . rw[List.nodup_append]
                exact⟨p1.nd,n2.2.1,λx hx z hz e=>by subst e;exact cOut x hx (bA (cA x (i2 x hz)))⟩
              . subst e
                rcases List.mem_append.mp hz with hz|hz
                . exact cOut x hz (bA (cA x (i1 x hx)))
                . exact n3 x hx x (List.mem_append_right _ hz) rfl
            . intro x hx
              rcases List.mem_append.mp hx with hx|hx
              . rcases List.mem_append.mp hx with hx|hx
                . exact F2.nz x (bA (cA x (i1 x hx)))
                . exact cz x hx
              . exact F2.nz x (bA (cA x (i2 x hx)))
            . intro x hx hA
              rcases List.mem_append.mp hx with hx|hx
              . rcases List.mem_append.mp hx with hx|hx
                . exact i1 x hx
                . exact absurd hA (cOut x hx)
              . exact i2 x hx
            . intro x hx
              rcases List.mem_append.mp hx with hx|hx
              . rcases List.mem_append.mp hx with hx|hx
                . exact .inl (fJ (bA (cA x (i1 x hx))))
                . exact p1.inA x hx
              . exact .inl (fJ (bA (cA x (i2 x hx))))
          . exact w.elim
       . exact w.elim
     . exact w.elim
    |ex x=>rw[ed]at w;exact WpX.ev w ev1
    |no=>rw[ed]at w;exact w
 |ex x=>rw[ee]at w;exact w
 |no=>rw[ee]at w;exact w
def vH(K:PySem.W.Frag)(cn:Str->Option Addr)(c:Str)(n:Nat)(G:List T->Res T):Sp:=λvs H Q E=>vs.length=n+1/\∃x C dx us ts Z,vs=.ref x::us/\cn c=some C/\H x=some (.ins C dx [])/\¬Z x/\(∀a,Z a->H a≠none)/\Reps K cn H Z ts us []/\
 match G ts with
 |.ok t=>∀H' Z' B,Ev [[x]] H Z [B] H' Z'->Rep K cn H' Z' t (.ref x) B->B.Nodup->(∀b∈B,¬Z' b)->(∀a,Z' a->H' a≠none)->Q .non H'
 |.ex e=>WpX K cn E [[x]] H Z e
 |.no=>False
theorem co5(hc:cn c=some C)(ha:tN Jn K cn E ta a):RE Jn K cn E [] (bm2 C (vH K cn c n G) [] E' ta) (aX n G a):=λAs H Z ρ σ F Q w=>by
 unfold aX at w
 refine ha As H Z ρ σ F _ ?_
 cases e:a ρ with
 |ok ts=>
  rw[e]at w
  intro vs H1 Z1 B m r1 x dx hx hdx hne
  simp only[Res.bind]at w
  split at w
  . next hn=>
    have hs:Same H1 (L2.upd (L2.upd H1 dx (.own x)) x (.ins C dx [])):=λb u q=>by
     rw[bY (fV q hx),bY (fV q hdx)];exact q
    refine⟨by simp[Reps.length ts r1,hn],x,C,dx,vs,frzs ts,(λa=>Z1 a\/a∈B),by simp,hc,by rw[dO],λh=>?_,λa h=>?_,(Reps.frz ts r1 (λa h=>.inl h) (λa h=>.inr h)).same hs (λ_ h=>h),?_⟩
    . rcases h with h|h
      . exact m.zi x h hx
      . obtain⟨o,q,_⟩:=Reps.dom ts r1 x h
        rw[hx]at q
        cases q
    . intro q
      have q':=hs.free q
      rcases h with h|h
      . exact m.zi a h q'
      . obtain⟨o,q2,_⟩:=Reps.dom ts r1 a h
        rw[q2]at q'
        cases q'
    cases e2:G (frzs ts)with
    |ok t=>
     rw[e2]at w
     intro H2 Z2 C2 ev r2 nd bz zi2
     refine⟨rfl,?_⟩
     simp only at w
     have sm:Same H1 H2:=λb u q=>ev.keep b u (hs b u q) (by simpa using fV q hx)
     have bn:∀b∈C2,H1 b=none:=λb hb=>by
      rcases ev.own b (by simpa using hb)with q|q
      . have:b=x:=by simpa using q
        rw[this];exact hx
      . exact hs.free q
     split at w
     . next hcl=>
       rw[Bool.or_eq_true]at hcl
       by_cases hcl':dJ t=true
       . refine w _ H2 Z1 C2 ⟨m.same.trans sm,m.zz,λa h=>m.zn a h,λa h q=>m.zi a h (sm.free q),Rep.any t hcl' r2,nd,λb hb z=>m.zi b z (bn b hb),λb hb=>.inl (m.same.free (bn b hb))⟩
       . have hno:=hcl.resolve_left hcl'
         have hB:=Reps.bare ts hno r1
         subst hB
         refine w _ H2 Z2 C2 ⟨m.same.trans sm,λa h=>ev.zz a (.inl (m.zz a h)),λa h=>?_,zi2,r2,nd,bz,λb hb=>.inl (m.same.free (bn b hb))⟩
         rcases ev.zn a h with(h|h)|h|h
         . exact m.zn a h
         . cases h
         . have:a=x:=by simpa using h
           rw[this];exact .inr (m.same.free hx)
         . exact .inr (m.same.free (hs.free h))
     . exact w.elim
    |ex x=>rw[e2]at w;exact w.elim
    |no=>rw[e2]at w;exact w.elim
  . exact w.elim
 |ex x=>rw[e]at w;exact w
 |no=>rw[e]at w;exact w
def gY:bR->Res T
 |.nx ρ=>match ρ[0]? with
  |some (some t)=>.ok t
  |_=>.no
 |.ex x=>.ex x
 |_=>.no
theorem ck4 {c : Str} {P : Program} {w : World} {mg : Str → Option Value} {base : Heap} {x qual : Str} {st : Stmt} {f : Addr} {fd : FuncData} {N ps : List Str} {k : Nat} {d : Fr → bR} (F : Fun K x qual st f fd) (S : aW N ps (aN st))
    (hbody : ∀ (y : Addr) (cdv : Value) (A : Around) (outer : List Env) (s : Shared) (H : Hp) (E : XK), Room k (A.deeper (envOfC qual (aN st) s.heap.objs.size f cdv)) →
      ∃ t, PSs (lP jD P w K mg base N qual (aN st) f cdv A outer s H E).nox (cZ st) t ∧ RS [(0, .ref y)] K cn E t d) {n : Nat} {G : List T → Res T} (hn : ps.length = n + 1) (hG : ∀ ts, G ts = gY (d (cE N.length (.ins true c [] [] :: ts)))) : FnOk P w K mg base jD (k + 1) f fd ps (vH K cn c n G) := by
  have eG : G = fun ts => gY (d (cE N.length (.ins true c [] [] :: ts))) := funext hG
  subst eG
  refine F.ok S (fun vs H Q E h => by rw [hn]; exact h.1) fun cdv A outer s H vs Q E hr h => ?_
  obtain ⟨hl, y, C, dx, us, ts, Z, rfl, hC, hy, hZ, zi, r, w⟩ := h
  obtain ⟨t, hp, ht⟩ := hbody y cdv A outer s H E hr
  refine ⟨t, hp, ?_⟩
  have lt := Reps.length ts r
  have ry : Rep K cn H Z (.ins true c [] []) (.ref y) [y] := by
    simp only [Rep, Reps]
    exact ⟨y, C, dx, [], [], rfl, rfl, hC, hy, rfl, rfl, rfl⟩
  let m := N.length - (ts.length + 1)
  have sl : Slots K cn H Z (cE N.length (.ins true c [] [] :: ts)) (L2.iI N (.ref y :: us)) ([y] :: List.replicate (ts.length + m) []) := by
    unfold cE L2.iI
    refine ⟨some (.ref y), us.map some ++ List.replicate m none, [y], _, ?_, rfl, ⟨_, rfl, ry⟩, ?_⟩
    · simp only [List.map_cons, List.length_cons, lt, List.cons_append]; rfl
    · exact wD ts r
  have fl : ([y] :: List.replicate (ts.length + m) []).flatten = [y] := by rw [List.flatten_cons, kO]; rfl
  have F0 : Frm [(0, .ref y)] K cn H Z (cE N.length (.ins true c [] [] :: ts)) (L2.iI N (.ref y :: us)) ([y] :: List.replicate (ts.length + m) []) :=
    ⟨sl, by rw [fl]; simp, by rw [fl]; intro a ha; have : a = y := by simpa using ha
                              rw [this]; exact hZ, zi, fun p hp => by
      rw [List.mem_singleton] at hp
      subst hp
      rfl⟩
  refine ht _ H Z _ _ F0 _ ?_
  cases ed : d (cE N.length (.ins true c [] [] :: ts)) with
  | nx ρ =>
    simp only [ed, gY] at w
    intro σ' As' H' Z' F' ev
    cases e0 : ρ[0]? with
    | none => rw [e0] at w; exact w.elim
    | some o =>
      rw [e0] at w
      cases o with
      | none => exact w.elim
      | some t0 =>
        simp only at w
        obtain ⟨v, e1, r1⟩ := F'.sl.get e0
        have e2 := F'.pn (0, .ref y) (List.mem_singleton.mpr rfl)
        simp only at e2
        rw [e1] at e2
        cases e2
        refine w H' Z' (As'.getD 0 []) ⟨fun a o h q => ev.keep a o h (by rw [fl]; simpa using q), fun a ha => ?_, ev.zz, fun a h => ?_, ev.dom⟩ r1 (sX F'.nd 0) (fun b hb => F'.nz b (bA hb)) F'.zi
        · have q := ev.own a (bA (i := 0) (by simpa using ha))
          rw [fl] at q
          simpa using q
        · have q := ev.zn a h
          rw [fl] at q
          simpa using q
  | ex e =>
    simp only [ed, gY] at w
    exact WpX.ev w ⟨fun _ _ q _ => q, fun a ha => (by rw [fl] at ha; exact .inl (by simpa using ha)), fun _ h => h, fun _ h => .inl h, fun _ h => h⟩
  | rt t => simp only [ed, gY] at w
  | bk ρ => simp only [ed, gY] at w
  | rm ρ t => simp only [ed, gY] at w
  | ct ρ => simp only [ed, gY] at w
  | no => simp only [ed, gY] at w
end
end TL
namespace L2
open PySem PySem.Spec PyProof.Rows
structure iU (P:Program) (w:World) (K:PySem.W.Frag) (mg:Str->Option Value) (base:Heap) (k:Nat) (C:Addr) (m:Str) (sp:Sp):Prop where
 ex:∃f fd ps,Cls K C/\cx0 K C m f/\FnOk P w K mg base jD k f fd ps sp/\Binds K fd ps []
structure wA (P:Program) (w:World) (K:PySem.W.Frag) (mg:Str->Option Value) (base:Heap) (k:Nat) (x:Str) (C:Addr) (sp:Sp):Prop where
 ex:∃f fd ps,Mk K C f/\FnOk P w K mg base jD k f fd ps sp/\mg x=some (.ref C)/\Binds K fd ps []
def ae7(tab:List (Addr×Sp))(m:Str)(ta:TE)(t:TA):TE:=λσ H Q=>ta σ H λx H1=>∃a C dx fs sp,x=.ref a/\H1 a=some (.ins C dx fs)/\(C,sp)∈tab/\fs.lookup m=none/\t σ H1 λvs H2=>sp (x::vs) H2 Q E0
section
variable {X : Cx}
theorem bu8(he:PE X o ta)(hT:∀q∈tab,iU X.prog X.w X.K X.mg X.base k q.1 m q.2)(hr:Room k X.A)(ha:PA X (e::es) t)
 (hst:starEach (e::es) X.env=(false,eval e X.env)::starEach es X.env:=by rfl)(hpl:(backTo pos (starEach es X.env)).any (·.1)=false:=by rfl)
 (ht:eval (.Call (.Attribute o m apos) (e::es) [] pos) X.env=(do
  let ov<-eval o X.env
  standAt apos.atName
  let(f,first)<-holding [ov] (getMethod ov m pl)
  callWith pos f first (backTo pos (starEach (e::es) X.env)) (backToKw pos (keywordEach [] X.env))):=by rfl):
 PE X (.Call (.Attribute o m apos) (e::es) [] pos) (ae7 tab m ta t):=by
 intro pins s σ H Q I h
 refine PySem.W.methodCall_KW (pl:=pl) (bS (he s σ H _ I h) λu s1 ⟨x,H1,I1,rx,a,C,dx,fs,sp,ex,ea,hq,l,q⟩=>?_) ht
 subst ex
 obtain rfl:u=Value.ref a:=rx
 obtain⟨f,fd,ps,c,hm,F,hb⟩:=(hT _ hq).ex
 refine ab0 I1 ea c hm l ?_
 refine PySem.W.callWith_K (first:=[.ref a]) (h₀:=X.base) I.ok.mod.kin hm.kp (bS (ha pins s1 σ H1 _ I1 q) λus s2 ⟨vs,H2,I2,r,q2⟩=>⟨I2.kIn,?_⟩) hst hpl
 exact ap0 (us:=.ref a::us) (vs:=.ref a::vs) F hr hb .nil ad0 I2 (.cons rfl r) (by rw[List.append_nil];exact q2)
theorem as4(he:PE X o ta)(hT:∀q∈tab,iU X.prog X.w X.K X.mg X.base k q.1 m q.2)(hr:Room k X.A)
 (ht:eval (.Call (.Attribute o m apos) [] [] pos) X.env=(do
  let ov<-eval o X.env
  standAt apos.atName
  let(f,first)<-holding [ov] (getMethod ov m pl)
  callWith pos f first (backTo pos (starEach [] X.env)) (backToKw pos (keywordEach [] X.env))):=by rfl):
 PE X (.Call (.Attribute o m apos) [] [] pos) (ae7 tab m ta yZ):=by
 intro pins s σ H Q I h
 refine PySem.W.methodCall_KW (pl:=pl) (bS (he s σ H _ I h) λu s1 ⟨x,H1,I1,rx,a,C,dx,fs,sp,ex,ea,hq,l,q⟩=>?_) ht
 subst ex
 obtain rfl:u=Value.ref a:=rx
 obtain⟨f,fd,ps,c,hm,F,hb⟩:=(hT _ hq).ex
 refine ab0 I1 ea c hm l ?_
 exact PySem.W.callWith_K0 (first:=[.ref a]) I1.kIn hm.kp (ap0 (us:=[.ref a]) (vs:=[.ref a]) F hr hb .nil ad0 I1 (.cons rfl .nil) q)
theorem nL(d:wA X.prog X.w X.K X.mg X.base k x C sp)(hr:Room (k+1) X.A)(ha:PA X (e::es) t)(hg:Gl X x:=by rfl)
 (hdb:(x==("__debug__":Str))=false:=by decide)(he:starEach (e::es) X.env=(false,eval e X.env)::starEach es X.env:=by rfl)(hpl:(backTo pos (starEach es X.env)).any (·.1)=false:=by rfl):
 PE X (.Call (.Name x p) (e::es) [] pos) (bm2 C sp [] E0 t):=by
 obtain⟨f,fd,ps,M,F,hm,hb⟩:=d.ex
 exact ca4 M F hr hg hm hb .nil ad0 ha hdb he hpl
end
end L2
namespace TL
open PySem PySem.Spec PyProof.Rows L2
section
variable {Jn : gB} {K : PySem.W.Frag} {cn : Str → Option Addr} {E : XK}
def rY(n:Nat)(G:List T->Res T)(ts:List T):Res T:=if ts.length=n then match G (frzs ts)with
 |.ok t=>if(dJ t||aU ts)=true then .ok t else .no
 |_=>.no else .no
theorem ak8(m:Mo H Z H1 Z1)(r1:Reps K cn H1 Z1 ts vs B)(w:WpE K cn E As H Z [] Q (rY n G ts)):bJ K cn n G vs H1 Q E':=by
 unfold rY at w
 split at w
 . next hn=>
   refine⟨by rw[Reps.length ts r1,hn],frzs ts,(λa=>Z1 a\/a∈B),λa h=>?_,Reps.frz ts r1 (λa h=>.inl h) (λa h=>.inr h),?_⟩
   . rcases h with h|h
     . exact m.zi a h
     . obtain⟨o,q,_⟩:=Reps.dom ts r1 a h
       rw[q]
       exact(λz=>nomatch z)
   cases e2:G (frzs ts)with
   |ok t=>
    rw[e2]at w
    intro v H2 Z2 C p
    simp only at w
    split at w
    . next hc=>
      rw[Bool.or_eq_true]at hc
      have bn:∀b∈C,H1 b=none:=λb hb=>(p.bn b hb).resolve_right (λ⟨i,hi,_⟩=>by cases hi)
      by_cases hcl:dJ t=true
      . refine w v H2 Z1 C ⟨m.same.trans p.same,m.zz,λa h=>m.zn a h,λa h=>?_,Rep.any t hcl p.rep,p.nd,λb hb z=>?_,λb hb=>.inl (m.same.free (bn b hb))⟩
        . intro q
          exact m.zi a h (p.same.free q)
        . exact m.zi b z (bn b hb)
      . have hno:=hc.resolve_left hcl
        have hB:=Reps.bare ts hno r1
        subst hB
        refine w v H2 Z2 C ⟨m.same.trans p.same,λa h=>p.zz a (.inl (m.zz a h)),λa h=>?_,p.zi,p.rep,p.nd,p.bz,λb hb=>.inl (m.same.free (bn b hb))⟩
        rcases p.zn a h with(h|h)|h
        . exact m.zn a h
        . cases h
        . exact .inr (m.same.free h)
    . exact w.elim
   |ex x=>rw[e2]at w;exact w.elim
   |no=>rw[e2]at w;exact w.elim
 . exact w.elim
theorem yC:∀(ns:List Str)(vs:List V),eU f ns=none->(ns.zip vs).lookup f=none
 |[],_,_=>by simp
 |n::ns,[],_=>by simp
 |n::ns,w::vs,h=>by
  unfold eU at h
  rw[List.zip_cons_cons,List.lookup_cons]
  by_cases q:n=f
  . rw[if_pos q]at h;cases h
  . rw[if_neg q,Option.map_eq_none_iff]at h
    rw[show(f==n)=false from by rw[beq_eq_false_iff_ne];exact λz=>q z.symm]
    exact yC ns vs h
def kC(n:Nat)(m:Str)(tabs:List (Str×(List T->Res T)))(o:Fr->Res T)(r:Fr->Res (List T)):Fr->Res T:=λρ=>(o ρ).bind λt=>match t with
 |.ins _ c ns _=>match eU m ns with
  |none=>match tabs.lookup c with
   |some G=>(r ρ).bind λts=>rY n G (t::ts)
   |none=>.no
  |some _=>.no
 |_=>.no
def yT(K:PySem.W.Frag)(cn:Str->Option Addr)(n:Nat)(tabs:List (Str×(List T->Res T)))(tab:List (Addr×Sp)):Prop:=∀c G C,tabs.lookup c=some G->cn c=some C->(C,bJ K cn n G)∈tab
theorem ch2(hT:yT K cn n tabs tab)(ho:RB Jn K cn E to o)(ha:tN Jn K cn E ta a):RE Jn K cn E [] (ae7 tab m to ta) (kC n m tabs o a):=λAs H Z ρ σ F Q w=>by
 unfold kC at w
 refine ho As H Z ρ σ F _ ?_
 cases e:o ρ with
 |ok t=>
  rw[e]at w
  intro v H1 Z1 B p
  simp only[Res.bind]at w
  split at w
  . next ow c ns us=>
    split at w
    . next hm=>
      split at w
      . next G hG=>
        obtain⟨q,C,dx,vs,D,rfl,hC,eq,_,r⟩:=p.rep.insS
        refine⟨q,C,dx,_,bJ K cn n G,rfl,eq,hT c G C hG hC,yC ns vs hm,ha As H1 Z1 ρ σ (F.mo p.mo) _ ?_⟩
        cases e2:a ρ with
        |ok ts=>
         rw[e2]at w
         intro ws H2 Z2 D2 m2 r2
         refine ak8 (As:=As) (E:=E) (p.mo.trans m2) (ts:=.ins ow c ns us::ts) (B:=B++D2) ?_ w
         simp only[Reps]
         exact⟨_,ws,B,D2,rfl,rfl,p.rep.same m2.same m2.zz,r2⟩
        |ex x=>rw[e2]at w;exact WpX.ev w p.mo.ev
        |no=>rw[e2]at w;exact w
      . exact w.elim
    . exact w.elim
  . exact w.elim
 |ex x=>rw[e]at w;exact w
 |no=>rw[e]at w;exact w
end
end TL
namespace L2
open PySem PySem.Spec PyProof.Rows
section
variable {X : Cx} (K : PySem.W.Frag)
end
end L2
namespace TL
open PySem PySem.Spec PyProof.Rows L2
section
variable {Jn : gB} {K : PySem.W.Frag} {cn : Str → Option Addr} {E : XK} {As : List (List Addr)} {H : Hp} {Z : Addr → Prop} {Q : VK}
def cv9:List T->Res T
 |[.lst _ ts]=>if aU ts=true then .ok (.tup ts)else .no
 |[.tup ts]=>if aU ts=true then .ok (.tup ts)else .no
 |_=>.no
end
end TL
namespace L2
open PySem PySem.Spec PyProof.Rows
section
variable {X : Cx}
def cz2:TS:=λ_ _ _=>False
theorem jV{st:Stmt}:PS X st cz2:=λ_ _ _ _ _ _ h=>h.elim
def bx1:V->List V->Hp->VK->Prop:=λx vs H Q=>∃l xs i y,x=.ref l/\vs=[.int i,y]/\H l=some (.lst xs)/\0<=i/\i.toNat<=xs.length/\xs.length<sizeLine/\Q .non (upd H l (.lst (xs.take i.toNat++y::xs.drop i.toNat)))
def ar8(K:PySem.W.Frag)(n:Nat):V->List V->Hp->VK->Prop:=λx vs H Q=>∃p ys y,x=.ref p/\vs=[y]/\SqL K H p ys/\∃(es:List Bool)(j:Nat),es.length=ys.length/\(∀(j:Nat) z e,ys[j]?=some z->es[j]?=some e->EqD K H n z y e)/\es[j]?=some true/\(∀m,m<j->es[m]?=some false)/\Q (.int j) H
def bv9(K:PySem.W.Frag)(n:Nat):R2:=λx y H Q=>rNe x y H Q\/(∃p q b,x=.ref p/\y=.ref q/\EqD K H n x y b/\Q (.bl (!b)) H)
theorem cu9(hu:X.A.units+n<cLine):OpR X (compareOp .NotEq) (bv9 X.K n):=by
 intro pins s σ H x y v u Q I rx ry h
 rcases h with h|⟨p,q,b,rfl,rfl,h,hq⟩
 . exact dx4 s σ H x y v u Q I rx ry h
 . cases rx
   cases ry
   have bL:EP X pins σ Q (.bool (!b)) s:=⟨.bl (!b),H,I,rfl,hq⟩
   cases n with
   |zero=>exact absurd h.1 (λz=>by cases z)
   |succ n=>
    rcases h with⟨h1,_,_⟩|⟨p,q,xs,ys,e1,e2,s1,s2,h⟩|⟨p,q,xs,ys,e1,e2,s1,s2,es,hl,he,rfl⟩
    . exact absurd h1 (λz=>by cases z)
    . cases e1
      cases e2
      obtain⟨its,r1,p1,_⟩:=I.list s1
      obtain⟨jts,r2,p2,_⟩:=I.list s2
      have l1:=r1.length
      have l2:=r2.length
      rcases h with⟨hne,rfl⟩|⟨heq,es,hl,he,rfl⟩
      . exact SeqAt.RcNeAt.lists_lengths p1.isList p2.isList (by simp only[List.size_toArray,bne_iff_ne,ne_eq];omega) (by omega) _ _ _ _ bL
      . refine SeqAt.RcNeAt.lists (e:=λj=>es.getD j true) p1.isList p2.isList (by simp only[List.size_toArray];omega) (by omega) (λj h1 h2=>?_) _ _ _ _ ?_
        . simp only[List.size_toArray]at h1 h2
          simp only[List.getElem_toArray]
          obtain⟨x,ex,rx⟩:=eR r1 h1
          obtain⟨y,ey,ry⟩:=eR r2 h2
          have hj:j<es.length:=by omega
          have eg:es.getD j true=es[j]:=by rw[List.getD_eq_getElem?_getD,List.getElem?_eq_getElem hj];rfl
          rw[eg]
          exact mZ I n (by show X.A.units+1+n<cLine;omega) rx ry (he j x y es[j] ex ey (List.getElem?_eq_getElem hj))
        . rw[List.size_toArray,show its.length=es.length by omega,oH]
          exact bL
    . cases e1
      cases e2
      obtain⟨its,r1,p1,_⟩:=I.tuple s1
      obtain⟨jts,r2,p2,_⟩:=I.tuple s2
      have l1:=r1.length
      have l2:=r2.length
      refine SeqAt.RcNeAt.tuples (e:=λj=>es.getD j true) (show s.heap.IsTuple _ its.toArray from p1) (show s.heap.IsTuple _ jts.toArray from p2) (by omega) (λj h1 h2=>?_) _ _ _ _ ?_
      . simp only[List.size_toArray]at h1 h2
        simp only[List.getElem_toArray]
        obtain⟨x,ex,rx⟩:=eR r1 h1
        obtain⟨y,ey,ry⟩:=eR r2 h2
        have hj:j<es.length:=by omega
        have eg:es.getD j true=es[j]:=by rw[List.getD_eq_getElem?_getD,List.getElem?_eq_getElem hj];rfl
        rw[eg]
        exact mZ I n (by show X.A.units+1+n<cLine;omega) rx ry (he j x y es[j] ex ey (List.getElem?_eq_getElem hj))
      . simp only[List.size_toArray]
        rw[show min its.length jts.length=es.length by omega,oH,<-l1,<-l2]
        exact bL
theorem ai0(K:PySem.W.Frag)(hr:Room k X.A)(hn:n<=60:=by decide)(hK:X.K=K:=by rfl):OpR X (compareOp .NotEq) (bv9 K n):=by
 subst hK
 exact cu9 (Nat.lt_of_le_of_lt (Nat.add_le_add_left (Nat.le_trans hn (by decide)) _) hr.units)
theorem bp7:MtM X "list.insert" bx1:=by
 intro pins s σ H x vs v us Q I rx rv h
 obtain⟨l,xs,i,y,rfl,rfl,hH,h0,h1,hz,q⟩:=h
 cases rx
 obtain⟨u,u',rfl,ru,ru'⟩:=rv.two
 obtain⟨t,rfl⟩:=ru
 obtain⟨z,its,n,r,hl,e⟩:=I.lstM hH
 have hfit:¬(!Builtin.List.listFitsIndex i)=true:=by
  rw[fitsIndex_both (by omega) (by have:xs.length<2^62:=Nat.lt_trans hz (by decide);omega)]
  decide
 refine call_meets F.slot_list_insert ⟨_,e,rfl⟩ F.entry_list_insert (F.args_list_insert_3 _ _ _) (AutoSeq1.list_insert_list_int_val_1 l its.toArray n i t u' hfit (by rw[List.size_toArray];omega)) ⟨e,?_⟩
 refine⟨.non,_,I.lset (its':=its.take i.toNat++u'::its.drop i.toNat) hH e ?_ ((r.take i.toNat).append (.cons ru' (r.drop i.toNat))) ?_,rfl,q⟩
 . have hn:¬i<0:=by omega
   simp only[hn,if_false,List.size_toArray,Nat.min_eq_left (show i.toNat<=its.length by omega)]
   apply Array.toList_inj.mp
   simp[List.take_append,List.drop_eq_nil_of_le]
   exact List.take_of_length_le (by simp)
 . simp
   omega
theorem co0(hu:X.A.units+n+1<cLine):MtR X "list.index" (ar8 X.K n):=by
 intro pins s σ H x vs v us Q I rx rv h
 obtain⟨p,ys,y,rfl,rfl,hq,es,j,hl,he,hj,hno,q⟩:=h
 cases rx
 obtain⟨u,rfl,ru⟩:=rv.one
 obtain⟨its,r,pl,hz⟩:=I.list hq
 have l1:=r.length
 obtain⟨f,hf,_⟩:=bi3 I r hl he
 have at_:∀(m:Nat)(hm:m<its.length) b,es[m]?=some b->f its[m]=b:=λm hm b eb=>by
  obtain⟨z,ez,rz⟩:=eR r hm
  obtain⟨z',rz',d⟩:=hf its[m] (List.getElem_mem hm)
  cases rz.inj rz'
  exact EqD.det I n _ _ _ _ d (he m z b ez eb)
 have hjl:j<its.length:=by
  have:=(List.getElem?_eq_some_iff.mp hj).1
  omega
 obtain⟨⟨oc,od,odt,osl⟩,n0,ho,hc,hd,hdt⟩:=pl
 simp only at hc hd hdt
 subst hc hd hdt
 refine call_meets F.slot_list_index ⟨_,ho,rfl⟩ F.entry_list_index (F.args_list_index_2 _ _) (SeqAt.list_indexAt p its.toArray n0 none osl u f j (by simpa using hjl) ?_ ?_ ?_) ⟨ho,λy hy=>?_,?_⟩
 . have:j<2^62:=Nat.lt_of_lt_of_le hjl (by rw[<-l1];exact Nat.le_trans hz (by decide))
   omega
 . simpa using at_ j hjl true hj
 . intro m hm hmj
   simpa using at_ m (by simpa using hm) false (hno m hmj)
 . obtain⟨z,rz,d⟩:=hf y (by simpa using hy)
   exact mZ I n (by show X.A.units+1+n<cLine;omega) rz ru d
 . exact⟨.int j,H,I.tok _,⟨_,rfl⟩,q⟩
end
end L2
namespace TL
open PySem PySem.Spec PyProof.Rows L2
section
variable {Jn : gB} {K : PySem.W.Frag} {cn : Str → Option Addr} {E : XK}
def mD:Fr->bR:=λ_=>.no
theorem cc7:RS Jn K cn E cz2 mD:=λ_ _ _ _ _ _ _ w=>w.elim
def bh4(K:PySem.W.Frag)(cn:Str->Option Addr)(r:V->List V->Hp->VK->Prop)(f:List T->List T->Option (List T)):Prop:=
 ∀(H:Hp)(Z:Addr->Prop)(a:Addr)(us ts us':List T)(ws vs:List V)(C0 C:List Addr),H a=some (.lst ws)->Reps K cn H Z us ws C0->Reps K cn H Z ts vs C->(C0++C).Nodup->f us ts=some us'->
  ∃ws' D,Reps K cn H Z us' ws' D/\D.Nodup/\(∀x∈D,x∈C0\/x∈C)/\∀Q:VK,(∀y,Q y (L2.upd H a (.lst ws')))->r (.ref a) vs H Q
def wC(j:Nat)(mv:List Nat)(f:List T->List T->Option (List T))(d:Fr->Res (List Nat))(e:Fr->Res (List T)):Fr->bR:=λρ=>match ρ[j]? with
 |some (some t0)=>match d ρ with
  |.ok p=>match kL p t0 with
   |some (.lst true us)=>match e ρ with
    |.ok ts=>match f us ts with
     |some us'=>ak0 j p us' (kills mv ρ)
     |none=>.no
    |.ex x=>.ex x
    |.no=>.no
   |_=>.no
  |.ex x=>.ex x
  |.no=>.no
 |_=>.no
theorem dr0(hr:bh4 K cn r f)(hd:RP Jn K cn E j to d)(he:RA Jn K cn E mv ta e)(hj:mv.contains j=false:=by rfl):RS Jn K cn E (bq2 (tBM K "list" r to ta)) (wC j mv f d e):=λAs H Z ρ σ F D w=>by
 unfold wC at w
 cases e1:ρ[j]? with
 |none=>rw[e1]at w;exact w.elim
 |some o=>
  rw[e1]at w
  cases o with
  |none=>exact w.elim
  |some t0=>
   obtain⟨v0,e2,r0⟩:=F.sl.get e1
   refine hd As H Z ρ σ F t0 v0 e1 e2 r0 _ ?_
   simp only at w
   cases ed:d ρ with
   |ok p=>
    rw[ed]at w
    intro u v B H1 Z1 m1 hn pl
    simp only[hn]at w
    split at w
    . next us hq=>
      cases hq
      have q:=pl.rep
      simp only[Rep]at q
      obtain⟨a,ws,C0,rfl,rfl,ea,rs⟩:=q
      refine⟨.inl ⟨rfl,ws,SqL.of ea⟩,he As H1 Z1 ρ σ (F.mo m1) _ ?_⟩
      cases ee:e ρ with
      |ok ts=>
       rw[ee]at w
       intro vs H2 Z2 C p2
       simp only at w
       cases ef:f us ts with
       |none=>rw[ef]at w;exact w.elim
       |some us'=>
        rw[ef]at w
        simp only at w
        have pl2:=pl.mo p2.mo.same p2.mo.zz
        have ea2:=p2.mo.same _ _ ea
        have rs2:=rs.same p2.mo.same p2.mo.zz
        have m2:=m1.trans p2.mo
        have F2:=(F.mo m2).kills mv
        have gD:(fN mv As).getD j []=As.getD j []:=uD mv hj As
        have pl3:Plug K cn H2 Z2 t0 v0 ((fN mv As).getD j []) p (.lst true us) (.ref a) (a::C0):=by rw[gD];exact pl2
        have ndB:(a::C0).Nodup:=(sX F.nd j).sublist pl.sub
        have c0A:∀x∈C0,x∈As.getD j []:=λx hx=>pl.sub.mem (List.mem_cons_of_mem _ hx)
        have cOut:∀x∈C,x∉(fN mv As).flatten:=λx hx hA=>by
         rcases p2.bn x hx with z|⟨i,hi,z⟩
         . obtain⟨o,ho,_⟩:=(F.mo m1).sl.dom x (fJ hA)
           rw[ho]at z;cases z
         . exact vR F.nd hi z hA
        have c0In:∀x∈C0,x∈(fN mv As).flatten:=λx hx=>bA (i:=j) (by rw[gD];exact c0A x hx)
        have ndC:(C0++C).Nodup:=by
         rw[List.nodup_append]
         exact⟨(List.nodup_cons.mp ndB).2,p2.nd,λx hx y hy e=>by subst e;exact cOut x hy (c0In x hx)⟩
        obtain⟨ws',D',r',nd',in',hQ⟩:=hr H2 Z2 a us ts us' ws vs C0 C ea2 rs2 p2.rep ndC ef
        refine hQ _ λ_=>?_
        refine bh7 (As:=As) (H:=H) (Z:=Z) (E:=E) F2 (by rw[xE mv hj];exact e1) e2 pl3 rfl rfl ea2 (us':=us') (ws':=ws') (C:=D') r' nd' ?_ ?_ ?_ ?_ w
        . intro x hx
          rcases in' x hx with hx|hx
          . exact F2.nz x (c0In x hx)
          . exact p2.bz x hx
        . intro x hx hA
          rcases in' x hx with hx|hx
          . exact hx
          . exact absurd hA (cOut x hx)
        . exact⟨λb o q _=>m2.same b o q,λb hb=>.inl (fJ hb),m2.zz,λb h=>(m2.zn b h).imp_right .inr,λb h=>m2.same.free h⟩
        . intro x hx
          rcases in' x hx with hx|hx
          . exact .inl (bA (c0A x hx))
          . rcases p2.bn x hx with z|⟨i,hi,z⟩
            . exact .inr (m1.same.free z)
            . exact .inl (bA z)
      |ex x=>rw[ee]at w;exact WpX.ev w m1.ev
      |no=>rw[ee]at w;exact w.elim
    . exact w.elim
   |ex x=>rw[ed]at w;exact w
   |no=>rw[ed]at w;exact w
def aa8(us:List T):List T->Option (List T)
 |[.lst true zs]=>if us.length+zs.length<=sizeLine then some (us++zs)else none
 |_=>none
def bs3(us:List T):List T->Option (List T)
 |[.int i,t]=>if 0<=i/\i.toNat<=us.length/\us.length<sizeLine then some (us.take i.toNat++t::us.drop i.toNat)else none
 |_=>none
def ah8(_:List T):List T->Option (List T)
 |[]=>some []
 |_=>none
theorem dn4:bh4 K cn bp1 aa8:=λH Z a us ts us' ws vs C0 C ha r0 r1 nd h=>by
 unfold aa8 at h
 split at h
 . next zs=>
   split at h
   . next hl=>
     cases h
     simp only[Reps]at r1
     obtain⟨v,r',B1,C1,rfl,rfl,ra,rfl,rfl⟩:=r1
     simp only[Rep]at ra
     obtain⟨b,zs',B,rfl,rfl,eb,rz⟩:=ra
     simp only[List.append_nil]at nd⊢
     refine⟨ws++zs',C0++B,Reps.append us r0 rz,nd.sublist ((List.sublist_cons_self b B).append_left C0),λx hx=>(List.mem_append.mp hx).imp_right (List.mem_cons_of_mem _),λQ hQ=>⟨a,b,ws,zs',rfl,rfl,ha,eb,?_,hQ _⟩⟩
     rw[Reps.length us r0,Reps.length zs rz]
     exact hl
   . cases h
 . cases h
theorem Reps.split:∀(n:Nat)(us:List T){ws:List V}{C:List Addr},Reps K cn H Z us ws C->∃C1 C2,C=C1++C2/\Reps K cn H Z (us.take n) (ws.take n) C1/\Reps K cn H Z (us.drop n) (ws.drop n) C2
 |0,us,ws,C,r=>⟨[],C,rfl,by simp[Reps],by simpa using r⟩
 |n+1,[],ws,C,r=>by
  simp only[Reps]at r
  obtain⟨rfl,rfl⟩:=r
  exact⟨[],[],rfl,by simp[Reps],by simp[Reps]⟩
 |n+1,t::us,ws,C,r=>by
  simp only[Reps]at r
  obtain⟨v,r',B1,B2,rfl,rfl,h1,h2⟩:=r
  obtain⟨C1,C2,rfl,a1,a2⟩:=Reps.split n us h2
  refine⟨B1++C1,C2,by simp,?_,by simpa using a2⟩
  simp only[List.take_succ_cons,Reps]
  exact⟨v,r'.take n,B1,C1,rfl,rfl,h1,a1⟩
theorem dv4:bh4 K cn bx1 bs3:=λH Z a us ts us' ws vs C0 C ha r0 r1 nd h=>by
 unfold bs3 at h
 split at h
 . next i t=>
   split at h
   . next hl=>
     cases h
     obtain⟨h0,h1,h2⟩:=hl
     simp only[Reps]at r1
     obtain⟨v,r',B1,D1,rfl,rfl,ra,v2,r2,B2,D2,rfl,rfl,rb,rfl,rfl⟩:=r1
     simp only[Rep]at ra
     obtain⟨rfl,rfl⟩:=ra
     obtain⟨C1,C2,rfl,a1,a2⟩:=Reps.split i.toNat us r0
     simp only[List.append_nil,List.nil_append]at nd⊢
     have pm:(C1++(B2++C2)).Perm ((C1++C2)++B2):=by
      rw[List.append_assoc]
      exact List.Perm.append_left C1 List.perm_append_comm
     refine⟨ws.take i.toNat++v2::ws.drop i.toNat,C1++(B2++C2),Reps.append _ a1 ?_,pm.nodup_iff.mpr nd,λx hx=>List.mem_append.mp (pm.mem_iff.mp hx),λQ hQ=>⟨a,ws,i,v2,rfl,rfl,ha,h0,?_,?_,hQ _⟩⟩
     . simp only[Reps]
       exact⟨v2,ws.drop i.toNat,B2,C2,rfl,rfl,rb,a2⟩
     . rw[Reps.length us r0];exact h1
     . rw[Reps.length us r0];exact h2
   . cases h
 . cases h
theorem dq2:bh4 K cn bt7 ah8:=λH Z a us ts us' ws vs C0 C ha r0 r1 nd h=>by
 unfold ah8 at h
 split at h
 . cases h
   simp only[Reps]at r1
   obtain⟨rfl,rfl⟩:=r1
   exact⟨[],[],Reps.nil,List.nodup_nil,cV,λQ hQ=>⟨a,ws,rfl,rfl,ha,hQ _⟩⟩
 . cases h
def frz1:T->T
 |.lst o xs=>.lst o (frzs xs)
 |t=>t
def uY(d:Fr->Res T):Fr->Res T:=λρ=>(d ρ).bind λt=>.ok (frz1 t)
theorem RE.frz1(h:RE Jn K cn E [] te d):RE Jn K cn E [] te (uY d):=λAs H Z ρ σ F Q w=>h As H Z ρ σ F Q (by
 unfold uY at w
 cases e:d ρ with
 |ok t=>
  rw[e]at w
  intro v H' Z' B p
  simp only[Res.bind]at w
  cases t with
  |lst o xs=>
   cases o with
   |true=>
    have q:=p.rep
    simp only[Rep]at q
    obtain⟨a,vs,C,rfl,rfl,ea,rs⟩:=q
    have hC:∀x∈C,H x=none:=λx hx=>(p.bn x (List.mem_cons_of_mem _ hx)).resolve_right (λ⟨i,hi,_⟩=>by cases hi)
    refine w (.ref a) H' (λx=>Z' x\/x∈C) [a] ⟨p.same,λx z=>.inl (p.zz x z),λx z=>?_,λx z=>?_,?_,by simp,λb hb=>?_,λb hb=>?_⟩
    . rcases z with z|z
      . exact p.zn x z
      . exact .inr (hC x z)
    . rcases z with z|z
      . exact p.zi x z
      . obtain⟨o,q,_⟩:=Reps.dom xs rs x z
        rw[q]
        exact(λz=>nomatch z)
    . simp only[TL.frz1,Rep]
      exact⟨a,vs,[],rfl,rfl,ea,Reps.frz xs rs (λ_ z=>.inl z) (λ_ z=>.inr z)⟩
    . have hb:b=a:=by simpa using hb
      subst hb
      rintro(z|z)
      . exact p.bz b List.mem_cons_self z
      . exact(List.nodup_cons.mp p.nd).1 z
    . have hb:b=a:=by simpa using hb
      subst hb
      exact p.bn b List.mem_cons_self
   |false=>
    have q:=p.rep
    simp only[Rep]at q
    obtain⟨a,vs,rfl,rfl,ea,rs⟩:=q
    refine w (.ref a) H' Z' [] ⟨p.same,p.zz,p.zn,p.zi,?_,List.nodup_nil,cV,cV⟩
    simp only[TL.frz1,Rep]
    exact⟨a,vs,rfl,trivial,ea,Reps.frz xs rs (λ_ z=>z) cV⟩
  |_=>exact w v H' Z' B p
 |ex x=>rw[e]at w;exact w
 |no=>rw[e]at w;exact w)
def vG(t u:T):Res T:=if rP t=true/\rP u=true then match vL dU t u with
 |some b=>.ok (.bl (!b))
 |none=>.no
 else neT t u
theorem dd4:lR K cn (bv9 K dU) vG:=λE As H Z t u x y A B Q zi rt ru w=>by
 unfold vG at w
 split at w
 . next hs=>
   obtain⟨a,rfl⟩:=rt.seqRef hs.1
   obtain⟨b,rfl⟩:=ru.seqRef hs.2
   cases e:vL dU t u with
   |none=>rw[e]at w;exact w.elim
   |some k=>
    rw[e]at w
    exact .inr ⟨a,b,k,rfl,rfl,aw7 dU t u rt ru e,WpE.bl w zi⟩
 . exact .inl (dz5 E As H Z t u x y A B Q zi rt ru w)
def uN:List Bool->Option Nat
 |[]=>none
 |true::_=>some 0
 |false::bs=>(uN bs).map (· +1)
theorem bq1:∀(bs:List Bool){j:Nat},uN bs=some j->bs[j]?=some true/\∀m,m<j->bs[m]?=some false
 |[],_,h=>by cases h
 |true::bs,j,h=>by cases h;exact⟨rfl,λm hm=>by omega⟩
 |false::bs,j,h=>by
  simp only[uN]at h
  cases e:uN bs with
  |none=>rw[e]at h;cases h
  |some k=>
   rw[e]at h
   cases h
   obtain⟨h1,h2⟩:=bq1 bs e
   refine⟨by simpa using h1,λm hm=>?_⟩
   cases m with
   |zero=>rfl
   |succ m=>
    have hm:m+1<k+1:=hm
    simpa using h2 m (by omega)
def tJ:T->List T->Res T
 |.lst _ us,[t]=>match uU t us with
  |some es=>match uN es with
   |some j=>.ok (.int j)
   |none=>.no
  |none=>.no
 |_,_=>.no
theorem cu6:RMR K cn "list" (ar8 K dU) tJ:=λE As H Z t ts x xs A B Q zi rt r w=>by
 unfold tJ at w
 split at w
 . next o us t=>
   obtain⟨a,vs,C,rfl,s,rs,_⟩:=rt.lstSq
   simp only[Reps]at r
   obtain⟨v,r',B1,C1,rfl,rfl,ra,rfl,rfl⟩:=r
   cases e:uU t us with
   |none=>rw[e]at w;exact w.elim
   |some es=>
    rw[e]at w
    simp only at w
    cases e2:uN es with
    |none=>rw[e2]at w;exact w.elim
    |some j=>
     rw[e2]at w
     obtain⟨h1,h2⟩:=bq1 es e2
     obtain⟨g1,g2⟩:=xT ra us rs e
     exact⟨a,vs,v,rfl,rfl,s.sq,es,j,g1,g2,h1,h2,w.val zi (iX _)⟩
 . exact w.elim
end
end TL
namespace L2
open PySem PySem.Spec PyProof.Rows
inductive DRows (w:World):List DictEntry->List (Str×Value)->Prop
 |nil:DRows w [] []
 |cons {x:Str} {t:Tok} {v:Value} {es:List DictEntry} {kvs:List (Str×Value)}:DRows w es kvs->DRows w (⟨hashStr w x,.str x t,v⟩::es) ((x,v)::kvs)
structure DicK (w:World) (K:PySem.W.Frag) (a:Addr) (kvs:List (Str×Value)):Prop where
 ex:∃o es ep,K.lookup a=some o/\o.ExactDict/\o.data=.dict es ep/\DRows w es.toList kvs
 nd:(kvs.map (·.1)).Nodup
 sm:(a==sysModules)=false
theorem DRows.keys:∀{es:List DictEntry}{kvs:List (Str×Value)},DRows w es kvs->(∀e∈es,∃k,(strKind P w).is k e.key=true/\e.hash=(strKind P w).hash k)/\Pairs (strKind P w) es kvs
 |_,_,.nil=>⟨λe h=>(nomatch h),.nil⟩
 |_,_,@DRows.cons _ x t v es kvs r=>by
  obtain⟨h1,h2⟩:=DRows.keys (P:=P) r
  refine⟨λe he=>?_,.cons (strKind_is P w x t) rfl h2⟩
  rcases List.mem_cons.mp he with rfl|he
  . exact⟨x,strKind_is P w x t,rfl⟩
  . exact h1 e he
theorem DicK.dictOf{P:Program}{w:World}{K:PySem.W.Frag}{a:Addr}{kvs:List (Str×Value)}{h:Heap}(D:DicK w K a kvs)(X:K.In h):h.DictOf (strKind P w) a kvs:=by
 obtain⟨o,es,ep,l,x,d,r⟩:=D.ex
 obtain⟨h1,h2⟩:=DRows.keys (P:=P) r
 exact⟨o,es,ep,X a o l,x,d,λe he=>h1 e (by simpa using he),h2,D.nd⟩
theorem sK : ∀ (kvs : List (Str × Value)), valueAt kvs x = kvs.lookup x
  | [] => rfl
  | (y, v) :: kvs => by
    unfold valueAt
    rw [List.find?_cons, List.lookup_cons]
    by_cases e : y = x
    · subst e; simp
    · have e1 : (x == y) = false := by simpa using Ne.symm e
      have e2 : decide ((y, v).1 = x) = false := decide_eq_false e
      rw [e1, e2]
      exact sK kvs
structure uE (w:World) (K:PySem.W.Frag) (mg:Str->Option Value) (d:Str) (kvs:List (Str×Value)):Prop where
 ex:∃a,mg d=some (.ref a)/\DicK w K a kvs
def cu2(kvs:List (Str×Value))(ty:TE):TE:=λσ H Q=>ty σ H λy H1=>∃x u v,y=.str x/\kvs.lookup x=some u/\RelV v u/\Q v H1
def ce9(neg:Bool)(kvs:List (Str×Value))(ty:TE):TE:=λσ H Q=>ty σ H λy H1=>∃x,y=.str x/\Q (.bl (if neg=true then !(kvs.lookup x).isSome else(kvs.lookup x).isSome)) H1
theorem ck3(r:RelV (.str x) u):(strKind P w).is x u=true:=by
 obtain⟨t,rfl⟩:=r
 exact strKind_is P w x t
def br2(i:Expr):Prop:=∀ov iv,subscripted i false ov iv=operate [ov,iv] (getItem ov iv)
theorem ca6{prog:Program}{w:World}{A:Around}{E:Value->Shared->Prop}{s:Shared}{env:Env}{value slice:Expr}{pos:Pos}{T id:String}{Q:Value->Shared->Prop}
 (hl:typeLookup (.type T) "__getitem__"=pure (some (.builtin id)))(hs:br2 slice)
 (h:wpAny (model prog w) A (eval value env) (λo s₁=>wpAny (model prog w) A (eval slice env) (λi s₂=>s₂.TypeIs o T/\wpAny (model prog w) A (getItem o i) Q E s₂) E s₁) E s):
 wpAny (model prog w) A (eval (.Subscript value slice pos) env) Q E s:=by
 refine Subscript_ (wpAny_mono h (λo s₁ h₁=>wpAny_mono h₁ (λi s₂ h₂=>?_) λ_ _ x=>x) λ_ _ x=>x)
 obtain⟨hT,h₂⟩:=h₂
 unfold subscriptTail
 refine wpAny_bind ?_
 rw[getitemInPython_of_ne hT.not_modules]
 refine wpAny_bind (wpAny_specialOf hT hl ?_)
 have bL:wpAny (model prog w) A (subscripted slice false o i) (λr s₃=>wpAny (model prog w) A (letTemporaryGo value o r>>=λ_=>pure r) Q E s₃) E s₂:=by
  rw[hs o i]
  exact wpAny_operating (wpAny_mono h₂ (λr s₃ h₃=>wpAny_bind (wpAny_letTemporaryGo (wpAny_pure h₃))) λ_ _ x=>x)
 first
  |exact wpAny_pure (wpAny_bind bL)
  |exact wpAny_bind (wpAny_pure (wpAny_bind bL))
  |exact wpAny_bind bL
section
variable {X : Cx}
theorem bv1(hD:uE X.w X.K X.mg d kvs)(hi:PE X i ty)(hg:Gl X d)(hdb:(d==("__debug__":Str))=false)(hs:br2 i)(I:Inv X pins σ H s)
 (h:ty σ H W)(hW:∀y H1,W y H1->∃x u,y=.str x/\kvs.lookup x=some u/\∀s1,Inv X pins σ H1 s1->R u s1):wpAny (model X.prog X.w) X.A (eval (.Subscript (.Name d p) i pos) X.env) R X.xe s:=by
 obtain⟨a,hm,D⟩:=hD.ex
 refine ca6 PySem.F.slot_dict_getitem.lookup hs (tG I hg hm ?_ hdb)
 refine bS (hi s σ H _ I h) λiv s2 ⟨y,H2,I2,ry,q⟩=>?_
 obtain⟨x,u,ey,el,q2⟩:=hW y H2 q
 subst ey
 have dd:=D.dictOf (P:=X.prog) I2.kIn
 exact⟨dd.typeIs,wpAny_getItem_of (ck3 ry) dd.mapOf (by rw[sK];exact el) (q2 _ (I2.tok _))⟩
theorem qQ(hD:uE X.w X.K X.mg d kvs)(hi:PE X i ty)(hg:Gl X d:=by rfl)(hdb:(d==("__debug__":Str))=false:=by decide)(hs:br2 i:=by intro _ _;rfl):PE X (.Subscript (.Name d p) i pos) (cu2 kvs ty):=by
 intro pins s σ H Q I h
 refine bv1 hD hi hg hdb hs I h λy H1 ⟨x,u,v,ey,el,rv,q⟩=>⟨x,u,ey,el,λs1 I1=>⟨v,H1,I1,rv,q⟩⟩
theorem br5{d:Str}{kvs:List (Str×Value)}{i:Expr}{ty:TE}{p:Pos}(hD:uE X.w X.K X.mg d kvs)(hi:PE X i ty)(hg:Gl X d:=by rfl)(hdb:(d==("__debug__":Str))=false:=by decide):PC X .NotIn i (.Name d p) (ce9 true kvs ty):=by
 intro pins s σ H Q I h
 obtain⟨a,hm,D⟩:=hD.ex
 refine bS (hi s σ H _ I h) λiv s2 ⟨y,H2,I2,ry,x,ey,q⟩=>tG I2 hg hm ?_ hdb
 subst ey
 have dd:=D.dictOf (P:=X.prog) I2.kIn
 exact wpAny_notIn_of (ck3 ry) D.sm dd.mapOf ⟨.bl (!(valueAt kvs x).isSome),H2,I2.tok _,rfl,by rw[sK];exact q⟩
def bm7(tab:List (Str×Sp))(ty:TE)(ta:TA):TE:=λσ H Q=>ty σ H λy H1=>∃z sp,y=.str z/\(z,sp)∈tab/\ta σ H1 λvs H2=>sp vs H2 Q E0
structure bn9 (P:Program) (w:World) (K:PySem.W.Frag) (mg:Str->Option Value) (base:Heap) (k:Nat) (d:Str) (tab:List (Str×Sp)):Prop where
 ex:∃kvs,uE w K mg d kvs/\∀q∈tab,∃f fd ps,kvs.lookup q.1=some (.ref f)/\FnOk P w K mg base jD k f fd ps q.2/\Binds K fd ps []/\PySem.W.keepIn K (.ref f)=true
theorem bn8(hD:bn9 X.prog X.w X.K X.mg X.base k d tab)(hr:Room k X.A)(hi:PE X i ty)(ha:PA X (e::es) t)(hg:Gl X d:=by rfl)(hdb:(d==("__debug__":Str))=false:=by decide)(hs:br2 i:=by intro _ _;rfl)
 (hst:starEach (e::es) X.env=(false,eval e X.env)::starEach es X.env:=by rfl)(hpl:(backTo pos (starEach es X.env)).any (·.1)=false:=by rfl):PE X (.Call (.Subscript (.Name d p) i p2) (e::es) [] pos) (bm7 tab ty t):=by
 obtain⟨kvs,D,hT⟩:=hD.ex
 intro pins s σ H Q I h
 refine Call_ (bv1 D hi hg hdb hs I h λy H1 ⟨z,sp,ey,hq,q⟩=>?_)
 obtain⟨f,fd,ps,el,F,hb,hk⟩:=hT _ hq
 refine⟨z,.ref f,ey,el,λs1 I1=>?_⟩
 refine PySem.W.callWith_K (first:=[]) (h₀:=X.base) I.ok.mod.kin hk (bS (ha pins s1 σ H1 _ I1 q) λus s2 ⟨vs,H2,I2,r,q2⟩=>⟨I2.kIn,?_⟩) hst hpl
 exact ap0 (us:=us) (vs:=vs) F hr hb .nil ad0 I2 r (by rw[List.append_nil];exact q2)
def cm3:List V->Hp->VK->Prop:=λxs H Q=>(∃i,xs=[.int i]/\i.natAbs.log2<1920/\Q (.str (toString i)) H)\/∃x,xs=[.str x]/\Q (.str x) H
theorem bk6:CallR X (.type "str") cm3:=by
 intro pins s σ H xs us Q I r h
 rcases h with h|⟨x,rfl,q⟩
 . exact ay8 s σ H xs us Q I r h
 . obtain⟨u,rfl,t,rfl⟩:=ac0 r
   exact PySem.P.str_of_str ⟨.str _,H,I,⟨_,rfl⟩,q⟩
def cb3(K:PySem.W.Frag):List V->Hp->VK->Prop:=λxs H Q=>(∃x T tx b,xs=[x,.ty T]/\TyN K H x tx/\fB tx T b/\Q (.bl b) H)\/∃T,xs=[.non,.ty T]/\(T="int"\/T="bool"\/T="str"\/T="list"\/T="tuple")/\Q (.bl false) H
theorem kJ(K:PySem.W.Frag)(hK:X.K=K:=by rfl):CallR X (.builtin "isinstance") (cb3 K):=by
 subst hK
 intro pins s σ H xs us Q I r h
 rcases h with h|⟨T,rfl,hT,q⟩
 . exact bm8 s σ H xs us Q I r h
 . obtain⟨u,v,rfl,rx,rT⟩:=r.two
   obtain rfl:v=Value.type T:=rT
   obtain rfl:u=Value.none:=rx
   have fin2:EP X pins σ Q (.bool false) {s with toks:=s.toks+1}:=⟨.bl false,H,I.tok _,rfl,q⟩
   rcases hT with rfl|rfl|rfl|rfl|rfl
   . exact IsiPair.NoneType_int fin2
   . exact IsiPair.NoneType_bool fin2
   . exact IsiPair.NoneType_str fin2
   . exact IsiPair.NoneType_list fin2
   . exact IsiPair.NoneType_tuple fin2
theorem fG(K:PySem.W.Frag)(he:PE X e ta)(hb:attributeBase e f X.env (eval e X.env)=eval e X.env:=by rfl)(hK:X.K=K:=by rfl):PE X (.Attribute e f pos) (bk9 K ta f):=by
 subst hK
 exact dm1 he hb
theorem lG(K:PySem.W.Frag)(ha:PE X o ta)(hv:PE X value tv)(hs:swapsWith value (some (.Attribute o f pos')) pos.line X.env=pure false:=by rfl)(hK:X.K=K:=by rfl):PS X (.Assign [.Attribute o f pos'] value pos) (bm9 K ta tv f):=by
 subst hK
 exact cm9 ha hv hs
theorem ar3(K:PySem.W.Frag)(hm:X.mg "zip"=none)(ha:PA X [a,b] ta)(hg:Gl X "zip":=by rfl)(hs:starEach [a,b] X.env=[(false,eval a X.env),(false,eval b X.env)]:=by rfl)(hs2:starEach [b] X.env=[(false,eval b X.env)]:=by rfl)(hK:X.K=K:=by rfl):
 PI X (.Tuple es n tpos) (.Call (.Name "zip" p) [a,b] [] pos) (bj8 K ta):=by
 subst hK
 exact ch8 hg hm ha hs hs2
theorem bw9(K:PySem.W.Frag)(hm:X.mg "enumerate"=none)(ha:PA X [a] ta)(hg:Gl X "enumerate":=by rfl)(hs:starEach [a] X.env=[(false,eval a X.env)]:=by rfl)(hK:X.K=K:=by rfl):
 PI X (.Tuple es n tpos) (.Call (.Name "enumerate" p) [a] [] pos) (bz3 K ta):=by
 subst hK
 exact cp5 hg hm ha hs
theorem cs6(K:PySem.W.Frag){o:Expr}{to:TE}{name:Str}{apos cpos:Pos}{T id:String}{r:V->List V->Hp->VK->Prop}(pa:PlainAttrs T)(slot:Slot T name id)(hty:typeOf (.builtin id)=pure (.type "method_descriptor"))(hm:MtR X id r)(ho:PE X o to)
 (hbase:attributeBase o name X.env (eval o X.env)=eval o X.env:=by rfl)(hline:(apos.endLine==cpos.line)=true:=by rfl)(hK:X.K=K:=by rfl):PE X (.Call (.Attribute o name apos) [] [] cpos) (tBM K T r to yZ):=by
 subst hK
 exact cn8 pa slot hty hm ho hbase hline
theorem bl6(K:PySem.W.Frag)(hr:Room k X.A)(hn:n<=60:=by decide)(hK:X.K=K:=by rfl):MtR X "list.index" (ar8 K n):=by
 subst hK
 exact co0 (Nat.lt_of_le_of_lt (by omega) hr.units)
end
structure jE (K:PySem.W.Frag) (C:Addr) (m qual:Str) (st:Stmt):Prop where
 ex:∃f fd,cx0 K C m f/\Fun K m qual st f fd
structure rJ (K:PySem.W.Frag) (mg:Str->Option Value) (x:Str) (C:Addr) (qual:Str) (st:Stmt):Prop where
 ex:∃f fd,Mk K C f/\Fun K "__init__" qual st f fd
 mg:mg x=some (.ref C)
theorem cb5{K:PySem.W.Frag}{C f:Addr}{m qual:Str}{st:Stmt}{oc:Value}{od an:Option Addr}{osl:Array (Option Value)}{kV doc pm cdv ct:Value}(a:PySem.W.findIn K (.ref C) m=some (some (.ref f)))(b:PySem.W.isFn K (.ref f)=true)
 (l:K.lookup f=some ⟨oc,od,.func (PySem.W.fnOf m qual (hV st) (cZ st) (aN st) .none kV doc pm an cdv ct),osl⟩)(c:PySem.W.codeIn K cdv qual=true)(k:PySem.W.keepIn K (.ref f)=true):jE K C m qual st:=
 ⟨f,_,⟨a,b,k⟩,aj1 l c k⟩
theorem cu4{K:PySem.W.Frag}{h:Heap}{mg:Str->Option Value}(X:K.In h)(G:h.Ns mainGlobals mg){x:Str}{C f:Addr}{qual:Str}{st:Stmt}{oc:Value}{od an:Option Addr}{osl:Array (Option Value)}{kV doc pm cdv ct:Value}(g:PySem.W.nsIn K mainGlobals x=some (some (.ref C)))
 (mk:PySem.W.makesIn K C=true)(a:PySem.W.findIn K (.ref C) "__init__"=some (some (.ref f)))(b:PySem.W.isFn K (.ref f)=true)(kc:PySem.W.keepIn K (.ref C)=true)
 (l:K.lookup f=some ⟨oc,od,.func (PySem.W.fnOf "__init__" qual (hV st) (cZ st) (aN st) .none kV doc pm an cdv ct),osl⟩)(c:PySem.W.codeIn K cdv qual=true)(k:PySem.W.keepIn K (.ref f)=true):rJ K mg x C qual st:=
 ⟨⟨f,_,⟨mk,a,b,kc⟩,aj1 l c k⟩,PySem.W.mg_of X G g⟩
theorem dk1{K:PySem.W.Frag}{C:Addr}(a:PySem.W.plainGet K C Str.empty=true)(b:PySem.W.hasDictIn K C=true)(c:PySem.W.plainOver K C=true)(d:PySem.W.findIn K (.ref C) "__setattr__"=some (some (.builtin "object.__setattr__"))):Cls K C:=⟨a,b,c,d⟩
theorem au3{w:World}{K:PySem.W.Frag}{h:Heap}{mg:Str->Option Value}(X:K.In h)(G:h.Ns mainGlobals mg){d:Str}{a:Addr}{es:Array DictEntry}{ep:Nat}{kvs:List (Str×Value)}(g:PySem.W.nsIn K mainGlobals d=some (some (.ref a)))
 (l:K.lookup a=some ⟨.type "dict",none,.dict es ep,#[]⟩)(r:DRows w es.toList kvs)(nd:(kvs.map (·.1)).Nodup)(sm:(a==sysModules)=false):uE w K mg d kvs:=
 ⟨a,PySem.W.mg_of X G g,⟨_,es,ep,l,⟨rfl,rfl,rfl⟩,rfl,r⟩,nd,sm⟩
end L2
namespace TL
open PySem PySem.Spec PyProof.Rows L2
section
variable {Jn : gB} {K : PySem.W.Frag} {cn : Str → Option Addr} {E : XK}
def GD(K:PySem.W.Frag)(cn:Str->Option Addr)(kts:List (Str×T))(kvs:List (Str×Value)):Prop:=Paired (λ(p:Str×T)(q:Str×Value)=>p.1=q.1/\∃v,RelV v q.2/\∀H Z,Rep K cn H Z p.2 v []) kts kvs
theorem GD.lookup(g:GD K cn kts kvs)(z:Str):match kts.lookup z with
 |some t=>∃u v,kvs.lookup z=some u/\RelV v u/\∀H Z,Rep K cn H Z t v []
 |none=>kvs.lookup z=none:=by
 unfold GD at g
 induction g with
 |nil=>rfl
 |@cons a b l1 l2 h _ ih=>
  obtain⟨x,t⟩:=a
  obtain⟨y,u⟩:=b
  obtain⟨rfl,v,rv,r⟩:=h
  rw[List.lookup_cons,List.lookup_cons]
  by_cases e:(z==x)=true
  . rw[e];exact⟨u,v,rfl,rv,r⟩
  . rw[Bool.not_eq_true]at e
    rw[e]
    exact ih
def uC(kts:List (Str×T)):T->Res T
 |.str z=>match kts.lookup z with
  |some t=>.ok t
  |none=>.no
 |_=>.no
def cf0(neg:Bool)(kts:List (Str×T)):T->Res T
 |.str z=>.ok (.bl (if neg=true then !(kts.lookup z).isSome else(kts.lookup z).isSome))
 |_=>.no
theorem cl6(g:GD K cn kts kvs)(ha:RB Jn K cn E ty a):RE Jn K cn E [] (cu2 kvs ty) (dZ (uC kts) a):=λAs H Z ρ σ F Q w=>by
 unfold dZ at w
 refine ha As H Z ρ σ F _ ?_
 cases e:a ρ with
 |ok t=>
  rw[e]at w
  intro v H1 Z1 B p
  simp only[Res.bind]at w
  cases t with
  |str z=>
   have hz:=p.rep.str
   subst hz
   have gl:=g.lookup z
   simp only[uC]at w
   cases el:kts.lookup z with
   |none=>rw[el]at w;exact w.elim
   |some t=>
    rw[el]at w gl
    obtain⟨u,v,hl,rv,r⟩:=gl
    exact⟨z,u,v,rfl,hl,rv,WpE.val (WpE.mo F w p.mo) p.zi (r _ _)⟩
  |_=>exact w.elim
 |ex x=>rw[e]at w;exact w
 |no=>rw[e]at w;exact w
theorem ck6(g:GD K cn kts kvs)(ha:RB Jn K cn E ty a):RE Jn K cn E [] (ce9 neg kvs ty) (dZ (cf0 neg kts) a):=λAs H Z ρ σ F Q w=>by
 unfold dZ at w
 refine ha As H Z ρ σ F _ ?_
 cases e:a ρ with
 |ok t=>
  rw[e]at w
  intro v H1 Z1 B p
  simp only[Res.bind]at w
  cases t with
  |str z=>
   have hz:=p.rep.str
   subst hz
   have gl:=g.lookup z
   have es:(kvs.lookup z).isSome=(kts.lookup z).isSome:=by
    cases el:kts.lookup z with
    |none=>rw[el]at gl;rw[show kvs.lookup z=none from gl];rfl
    |some t=>rw[el]at gl;obtain⟨u,v,hl,_⟩:=gl;rw[hl];rfl
   refine⟨z,rfl,?_⟩
   rw[es]
   exact WpE.bl (WpE.mo F w p.mo) p.zi
  |_=>exact w.elim
 |ex x=>rw[e]at w;exact w
 |no=>rw[e]at w;exact w
def av0(n:Nat)(tabs:List (Str×(List T->Res T)))(i:Fr->Res T)(r:Fr->Res (List T)):Fr->Res T:=λρ=>(i ρ).bind λt=>match t with
 |.str z=>match tabs.lookup z with
  |some G=>(r ρ).bind λts=>rY n G ts
  |none=>.no
 |_=>.no
def cy2(K:PySem.W.Frag)(cn:Str->Option Addr)(n:Nat)(tabs:List (Str×(List T->Res T))):List (Str×Sp):=tabs.map λp=>(p.1,bJ K cn n p.2)
theorem ah0 : ∀ {l : List (Str × α)}, l.lookup z = some a → (z, a) ∈ l
  | [], h => by cases h
  | (y, b) :: l, h => by
    rw [List.lookup_cons] at h
    by_cases e : (z == y) = true
    · rw [e] at h
      cases h
      have : z = y := by simpa using e
      subst this
      exact List.mem_cons_self
    · rw [Bool.not_eq_true] at e
      rw [e] at h
      exact List.mem_cons_of_mem _ (ah0 h)
theorem bh9(hi:RB Jn K cn E ty i)(ha:tN Jn K cn E ta a):RE Jn K cn E [] (bm7 (cy2 K cn n tabs) ty ta) (av0 n tabs i a):=λAs H Z ρ σ F Q w=>by
 unfold av0 at w
 refine hi As H Z ρ σ F _ ?_
 cases e:i ρ with
 |ok t=>
  rw[e]at w
  intro v H1 Z1 B p
  simp only[Res.bind]at w
  cases t with
  |str z=>
   have hz:=p.rep.str
   subst hz
   simp only at w
   cases el:tabs.lookup z with
   |none=>rw[el]at w;exact w.elim
   |some G=>
    rw[el]at w
    refine⟨z,bJ K cn n G,rfl,List.mem_map.mpr ⟨(z,G),ah0 el,rfl⟩,?_⟩
    refine ha As H1 Z1 ρ σ (F.mo p.mo) _ ?_
    simp only at w
    cases e2:a ρ with
    |ok ts=>
     rw[e2]at w
     intro vs H2 Z2 B2 m2 r2
     exact ak8 (p.mo.trans m2) r2 w
    |ex x=>rw[e2]at w;exact WpX.ev w p.mo.ev
    |no=>rw[e2]at w;exact w.elim
  |_=>exact w.elim
 |ex x=>rw[e]at w;exact w
 |no=>rw[e]at w;exact w
noncomputable def sB:List T->Res T
 |[.int i]=>gate (i.natAbs.log2<1920) (.ok (.str (toString i)))
 |[.str x]=>.ok (.str x)
 |_=>.no
theorem co7:tP K cn cm3 sB:=λE As H Z ts xs A Q zi r w=>by
 unfold sB at w
 split at w
 . next i=>
   obtain⟨v,rfl,rv⟩:=r.one1
   have:=rv.int
   subst this
   obtain⟨h,w⟩:=w.gate
   exact .inl ⟨i,rfl,h,w.val zi (wS _)⟩
 . next x=>
   obtain⟨v,rfl,rv⟩:=r.one1
   have:=rv.str
   subst this
   exact .inr ⟨x,rfl,w.val zi (wS _)⟩
 . exact w.elim
def gO:List T->Res T
 |[.non,.ty n]=>if(n="int"\/n="bool"\/n="str"\/n="list"\/n="tuple")then .ok (.bl false)else .no
 |ts=>qY ts
theorem cs7:tP K cn (cb3 K) gO:=λE As H Z ts xs A Q zi r w=>by
 unfold gO at w
 split at w
 . next n=>
   obtain⟨v,u,B,C,rfl,rfl,rv,ru⟩:=r.two2
   have:=rv.non
   subst this
   simp only[Rep]at ru
   obtain⟨rfl,rfl⟩:=ru
   split at w
   . next hn=>exact .inr ⟨n,rfl,hn,WpE.bl w zi⟩
   . exact w.elim
 . exact .inl (dl2 E As H Z _ xs A Q zi r w)
inductive TupR:List T->List Value->Prop
 |nil:TupR [] []
 |str {x:Str} {t:Tok} {ts:List T} {us:List Value}:TupR ts us->TupR (.str x::ts) (.str x t::us)
 |int {x:Int} {t:Tok} {ts:List T} {us:List Value}:TupR ts us->TupR (.int x::ts) (.int x t::us)
theorem TupR.vals(h:TupR ts us):∃vs,Vals vs us/\∀H Z,Reps K cn H Z ts vs []:=by
 induction h with
 |nil=>exact⟨[],.nil,λ_ _=>Reps.nil⟩
 |@str x t ts us _ ih=>
  obtain⟨vs,h1,h2⟩:=ih
  refine⟨.str x::vs,.cons ⟨t,rfl⟩ h1,λH Z=>?_⟩
  simp only[Reps]
  exact⟨_,_,[],[],rfl,rfl,wS x,h2 H Z⟩
 |@int x t ts us _ ih=>
  obtain⟨vs,h1,h2⟩:=ih
  refine⟨.int x::vs,.cons ⟨t,rfl⟩ h1,λH Z=>?_⟩
  simp only[Reps]
  exact⟨_,_,[],[],rfl,rfl,iX x,h2 H Z⟩
theorem iO(l:K.lookup a=some ⟨.type "tuple",oc,.seq us.toArray n,sl⟩)(r:TupR ts us)(hz:us.length<=sizeLine):
 (x,T.tup ts).1=(x,Value.ref a).1/\∃v,RelV v (x,Value.ref a).2/\∀H Z,Rep K cn H Z (x,T.tup ts).2 v []:=by
 obtain⟨vs,h1,h2⟩:=r.vals (K:=K) (cn:=cn)
 refine⟨rfl,.ref a,rfl,λH Z=>?_⟩
 simp only[Rep]
 exact⟨a,vs,rfl,.inr ⟨_,us.toArray,n,l,rfl,rfl,by simpa using hz,by simpa using h1⟩,h2 H Z⟩
theorem dH{P:Program}{w:World}{mg:Str->Option Value}{base:Heap}{C:Addr}{m qual:Str}{st:Stmt}{N ps:List Str}{k:Nat}{d:Fr->bR}(F:jE K C m qual st)(c:Cls K C)(S:aW N ps (aN st))
 (hb:∀(kV doc pm:Value)(an:Option Addr)(cdv ct:Value)(us:List Value),us.length=ps.length->bindArgs (PySem.W.fnOf m qual (hV st) (cZ st) (aN st) .none kV doc pm an cdv ct) ⟨us,[]⟩=pure (ps.zip us))
 (hbody:∀(f:Addr)(cdv:Value)(A:Around)(outer:List Env)(s:Shared)(H:Hp)(E:XK),Room k (A.deeper (envOfC qual (aN st) s.heap.objs.size f cdv))->
  ∃t,PSs (lP jD P w K mg base N qual (aN st) f cdv A outer s H E).nox (cZ st) t/\RS [] K cn E t d){n:Nat}{G:List T->Res T}(hn:ps.length=n)(hG:∀ts,G ts=bL (d (cE N.length ts))){k':Nat}(hk:k+1<=k'):iU P w K mg base k' C m (bJ K cn n G):=by
 obtain⟨f,fd,M,F⟩:=F.ex
 exact⟨f,fd,ps,c,M,(ab3 F S (λcdv A outer s H E hr=>hbody f cdv A outer s H E hr) hn hG).mono hk,F.binds hb⟩
theorem iG{P:Program}{w:World}{mg:Str->Option Value}{base:Heap}{x c:Str}{C:Addr}{qual:Str}{st:Stmt}{N ps:List Str}{k:Nat}{d:Fr->bR}(F:rJ K mg x C qual st)(S:aW N ps (aN st))
 (hb:∀(kV doc pm:Value)(an:Option Addr)(cdv ct:Value)(us:List Value),us.length=ps.length->bindArgs (PySem.W.fnOf "__init__" qual (hV st) (cZ st) (aN st) .none kV doc pm an cdv ct) ⟨us,[]⟩=pure (ps.zip us))
 (hbody:∀(f y:Addr)(cdv:Value)(A:Around)(outer:List Env)(s:Shared)(H:Hp)(E:XK),Room k (A.deeper (envOfC qual (aN st) s.heap.objs.size f cdv))->
  ∃t,PSs (lP jD P w K mg base N qual (aN st) f cdv A outer s H E).nox (cZ st) t/\RS [(0,.ref y)] K cn E t d){n:Nat}{G:List T->Res T}(hn:ps.length=n+1)(hG:∀ts,G ts=gY (d (cE N.length (.ins true c [] []::ts)))):wA P w K mg base (k+1) x C (vH K cn c n G):=by
 obtain⟨f,fd,M,F'⟩:=F.ex
 exact⟨f,fd,ps,M,ck4 F' S (λy cdv A outer s H E hr=>hbody f y cdv A outer s H E hr) hn hG,F.mg,F'.binds hb⟩
end
end TL
namespace L2
open PySem PySem.Spec PyProof.Rows
theorem cw0:bootBuiltins "set"=some (.type "set"):=by decide+kernel
def as0(ss:List Str):Nat:=(jK (λi=>ss.getD i Str.empty) ss.length).length
def bs1(K:PySem.W.Frag):List V->Hp->VK->Prop:=λxs H Q=>∃p ss,xs=[.ref p]/\SqL K H p (ss.map V.str)/\ss.length<=1000/\Q (.int (as0 ss)) H
section
variable {X : Cx}
theorem bz5(K:PySem.W.Frag)(hm:X.mg "len"=none)(hm2:X.mg "set"=none)(ha:PA X [e] t)(hc:X.calm=true:=by rfl)(hg:Gl X "len":=by rfl)(hg2:Gl X "set":=by rfl)(he:starEach [e] X.env=[(false,eval e X.env)]:=by rfl)(hK:X.K=K:=by rfl):
 PE X (.Call (.Name "len" p) [.Call (.Name "set" p2) [e] [] pos2] [] pos) (tCB (bs1 K) t):=by
 subst hK
 intro pins s σ H Q I h
 refine wpAny_Call_Name_kw (mX I hg hm boot_len ?_)
 refine PyProof.Rows.callWith_builtin1 (PyProof.Rows.args_cons ?_) rfl rfl
 refine wpAny_Call_Name_kw (mX I hg2 hm2 cw0 ?_)
 refine PyProof.Rows.callWith_type1 (bS (ha pins s σ H _ I h) λus s1 ⟨vs,H1,I1,r1,q1⟩=>?_) he rfl
 obtain⟨l,ss,rfl,hq,hl,q⟩:=q1
 cases r1 with
 |cons r rr=>
  cases rr
  cases r
  obtain⟨its,rv,pl,_⟩:=I1.list hq
  have e1:its.length=ss.length:=by have:=rv.length;simpa using this.symm
  refine az5 (val:=λi=>ss.getD i Str.empty) (I.ok.hd hc) pl.isList (λi v hv=>?_) (by rw[List.size_toArray,e1];unfold scanBound;omega) λh' tk hS kk=>PyProof.Rows.args_nil ?_
  . have hi:i<its.length:=by
     have:=(Array.getElem?_eq_some_iff.mp hv).1
     simpa using this
    obtain⟨x,ex,rx⟩:=eR rv hi
    have ev:v=its[i]:=by
     have:=(Array.getElem?_eq_some_iff.mp hv).2
     simpa using this.symm
    rw[List.getElem?_map]at ex
    cases eg:ss[i]? with
    |none=>rw[eg]at ex;cases ex
    |some z=>
     rw[eg]at ex
     cases ex
     obtain⟨t,et⟩:=rx
     refine⟨t,?_⟩
     rw[ev,et,List.getD_eq_getElem?_getD,eg]
     rfl
  . have I2:Inv X pins σ H1 {s1 with heap:=h',toks:=tk}:=I1.kept λb u eb=>kk b u (Heap.lt_size eb) eb
    obtain⟨o,es,ep,tb,ho,hx,hd,_,_,hs,hf,hn⟩:=hS
    refine call_len_set ho hx hd hf (by have:es.size<4096:=hs;omega) ?_
    refine⟨.int (as0 ss),H1,I2.tok _,⟨tk+1,?_⟩,q⟩
    rw[hn,List.size_toArray,e1]
    rfl
end
end L2
namespace TL
open PySem PySem.Spec PyProof.Rows L2
section
variable {Jn : gB} {K : PySem.W.Frag} {cn : Str → Option Addr} {E : XK}
def sS:List T->Res T
 |[.lst _ ts]=>match tS ts with
  |some ss=>if ss.length<=1000 then .ok (.int (as0 ss))else .no
  |none=>.no
 |_=>.no
theorem ca1:tP K cn (bs1 K) sS:=λE As H Z ts xs A Q zi r w=>by
 unfold sS at w
 split at w
 . next o ts=>
   obtain⟨v,rfl,rv⟩:=r.one1
   obtain⟨a,vs,C,rfl,s,rs,_⟩:=rv.lstSq
   split at w
   . next ss hs=>
     split at w
     . next hl=>
       have:=as3 ts rs hs
       subst this
       exact⟨a,ss,rfl,s.sq,hl,w.val zi (iX _)⟩
     . exact w.elim
   . exact w.elim
 . exact w.elim
theorem ag1:∀(l acc:List Str),(acc++l).Nodup->l.foldl oY acc=acc++l
 |[],acc,_=>by simp
 |x::l,acc,h=>by
  have hx:x∉acc:=λhx=>by
   rw[List.nodup_append]at h
   exact h.2.2 x hx x List.mem_cons_self rfl
  have hs:oY acc x=acc++[x]:=by
   unfold oY
   rw[if_neg]
   intro q
   rw[List.any_eq_true]at q
   obtain⟨y,hy,e⟩:=q
   have:y=x:=by simpa using e
   subst this
   exact hx hy
  rw[List.foldl_cons,hs,ag1 l (acc++[x]) (by simpa using h)]
  simp
theorem bt3(l:List Str):(List.range l.length).map (λi=>l.getD i Str.empty)=l:=by
 apply List.ext_getElem?
 intro i
 by_cases h:i<l.length
 . rw[List.getElem?_map,List.getElem?_range h,List.getElem?_eq_getElem h]
   simp[List.getD_eq_getElem?_getD,List.getElem?_eq_getElem h]
 . rw[List.getElem?_eq_none (by simpa using h),List.getElem?_eq_none (by omega)]
theorem bh0(h:ss.Nodup):as0 ss=ss.length:=by
 unfold as0 jK
 rw[bt3,ag1 ss [] (by simpa using h)]
 simp
theorem cc0{ss:List Str}(o:Bool)(h:ss.Nodup)(hl:ss.length<=1000):sS [.lst o (ss.map .str)]=.ok (.int ss.length):=by
 simp only[sS,wP,if_pos hl,bh0 h]
end
end TL
namespace TL
open PySem PySem.Spec PyProof.Rows L2
section
variable {P : Program} {w : World} {K : PySem.W.Frag} {cn : Str → Option Addr} {mg : Str → Option Value} {base : Heap} {k n : Nat}
theorem gM:iE K cn [] f:=λ_ h=>nomatch h
theorem aY(h:cn c=some C)(k:Cls K C)(n:NoAttr K C f)(r:iE K cn cs f):iE K cn (c::cs) f:=λd hd D hD=>by
 rcases List.mem_cons.mp hd with rfl|hd
 . rw[h]at hD
   cases hD
   exact⟨k,n⟩
 . exact r d hd D hD
theorem zR:yT K cn n [] []:=λc G C h=>by cases h
theorem dG(h:cn c=some C)(r:yT K cn n tabs tab):yT K cn n ((c,G)::tabs) ((C,bJ K cn n G)::tab):=λd G' D hl hD=>by
 rw[List.lookup_cons]at hl
 by_cases e:(d==c)=true
 . rw[e]at hl
   cases hl
   have:d=c:=by simpa using e
   subst this
   rw[h]at hD
   cases hD
   exact List.mem_cons_self
 . rw[Bool.not_eq_true]at e
   rw[e]at hl
   exact List.mem_cons_of_mem _ (r d G' D hl hD)
theorem yX:∀q∈([]:List (Addr×Sp)),iU P w K mg base k q.1 m q.2:=cV
theorem dI(h:iU P w K mg base k C m sp)(r:∀q∈tab,iU P w K mg base k q.1 m q.2):∀q∈(C,sp)::tab,iU P w K mg base k q.1 m q.2:=λq hq=>by
 rcases List.mem_cons.mp hq with rfl|hq
 . exact h
 . exact r q hq
def MD(P:Program)(w:World)(K:PySem.W.Frag)(mg:Str->Option Value)(base:Heap)(k:Nat)(kvs:List (Str×Value))(tab:List (Str×Sp)):Prop:=∀q∈tab,∃f fd ps,kvs.lookup q.1=some (.ref f)/\FnOk P w K mg base jD k f fd ps q.2/\Binds K fd ps []/\PySem.W.keepIn K (.ref f)=true
theorem bt8:MD P w K mg base k kvs []:=cV
theorem jB(e:kvs.lookup z=mg x)(d:dS P w K mg base j x ps sp)(h:j<=k)(r:MD P w K mg base k kvs tab):MD P w K mg base k kvs ((z,sp)::tab):=λq hq=>by
 rcases List.mem_cons.mp hq with rfl|hq
 . obtain⟨f,fd,F,hm,hk,hb⟩:=d.ex
   exact⟨f,fd,ps,e.trans hm,F.mono h,hb,hk⟩
 . exact r q hq
theorem cc4(D:uE w K mg d kvs)(r:MD P w K mg base k kvs tab):bn9 P w K mg base k d tab:=⟨kvs,D,r⟩
end
end TL
namespace L2
open PySem PySem.Spec PyProof.Rows
theorem dp2{K:PySem.W.Frag}{h:Heap}{mg:Str->Option Value}{kvs:List (Str×Value)}{z x:Str}{u:Value}(X:K.In h)(G:h.Ns mainGlobals mg)(a:PySem.W.nsIn K mainGlobals x=some (some u))(e:kvs.lookup z=some u):kvs.lookup z=mg x:=e.trans (PySem.W.mg_of X G a).symm
end L2
namespace TL
open PySem PySem.Spec PyProof.Rows L2
theorem dc6(h1:-(2^64)<i)(h2:i<2^64):mulOk i j:=.inl ⟨h1,h2⟩
theorem bm3(h1:-(2^64)<j)(h2:j<2^64):mulOk i j:=.inr (.inl ⟨h1,h2⟩)
theorem cb6(i:Int):gO [.int i,.ty "int"]=.ok (.bl true):=cu3 i
theorem aa3(i:Int):gO [.int i,.ty "bool"]=.ok (.bl false):=ba7 i
theorem cf6(i:Bool):gO [.bl i,.ty "bool"]=.ok (.bl true):=cs3 i
theorem cj5(i:Bool):gO [.bl i,.ty "int"]=.ok (.bl true):=bn7 i
theorem cf5(i:List T):gO [.tup i,.ty "tuple"]=.ok (.bl true):=co3 i
theorem ck5(o:Bool)(i:List T):gO [.lst o i,.ty "list"]=.ok (.bl true):=cg3 o i
theorem by1:gO [.non,.ty "bool"]=.ok (.bl false):=by with_unfolding_all rfl
theorem cp6:gO [.non,.ty "int"]=.ok (.bl false):=by with_unfolding_all rfl
theorem ck7(i:Int):sB [.int i]=gate (i.natAbs.log2<1920) (.ok (.str (toString i))):=rfl
theorem dc2(x:Str):sB [.str x]=.ok (.str x):=rfl
theorem cl9(i j:Int):vG (.int i) (.int j)=.ok (.bl (!(i==j))):=rfl
theorem de0(i j:Str):vG (.str i) (.str j)=.ok (.bl (!(i==j))):=rfl
theorem cp7(i j:Bool):vG (.bl i) (.bl j)=.ok (.bl (!(i==j))):=rfl
theorem ct6(o:Bool)(ts:List T):cv9 [.lst o ts]=if aU ts=true then .ok (.tup ts)else .no:=rfl
end TL
namespace TL
open PySem L2
theorem cw1(h:n<=100000):(n<=sizeLine)=True:=eq_true (Nat.le_trans h (by decide))
theorem cz0(h:n<=100000):(n<sizeLine)=True:=eq_true (Nat.lt_of_le_of_lt h (by decide))
theorem oB{m:Int}(h:0<=m):∃k:Nat,m=k:=⟨m.toNat,by omega⟩
end TL
namespace TL
open PySem L2
theorem ds2(h1:0<j)(h2:j<1073741824):sF i j:=⟨h1,h2⟩
theorem db3(h1:0<=j)(h2:j<=1000000)(h3:i.natAbs<2^64):vQ i j:=⟨h1,h2,h3⟩
end TL
namespace L2
open PySem
theorem dx3(h:PySem.W.findIn K (.ref C) f=some none):NoAttr K C f:=h
end L2
namespace L2
open PySem PySem.Spec PyProof.Rows
section
variable {X : Cx}
end
end L2
namespace TL
open PySem L2
section
variable {K : PySem.W.Frag} {cn : Str → Option Addr}
end
end TL
namespace TL
open PySem PySem.Spec PyProof.Rows L2
section
variable {Jn : gB} {K : PySem.W.Frag} {cn : Str → Option Addr} {E : XK}
theorem du3{mv mw L:List Nat}{te:TE}{tr:TA}{a:Fr->Res T}{r:Fr->Res (List T)}(ha:RE Jn K cn E mv te a)(hr:RA Jn K cn E mw tr r)(e:mv++mw=L)(hd:(mv.all λi=>!mw.contains i)=true):RA Jn K cn E L (xR te tr) (aB a r):=e▸cx3 ha hr hd
theorem dl1{ks ls L:List Nat}{n:Nat}{g:TG}{gs:TGs}{b:T->Fr->Option Fr}{bs:List T->Fr->Option Fr}(h1:RG Jn K cn ks g b)(h2:RGs Jn K cn ls n gs bs)(e:ks++ls=L):RGs Jn K cn L (n+1) (bp3 g gs) (bB b bs):=e▸cz1 h1 h2
end
end TL
namespace TL
open PySem PySem.Spec PyProof.Rows L2
section
variable {Jn : gB} {K : PySem.W.Frag} {cn : Str → Option Addr} {E : XK}
end
end TL
namespace L2
open PySem PySem.Spec PyProof.Rows
section
variable {X : Cx}
end
end L2
namespace TL
open PySem L2
section
variable {K : PySem.W.Frag} {cn : Str → Option Addr}
end
end TL

set_option maxHeartbeats 4000000
open TL
local macro_rules | `(tactic| walk_at "gt") => `(tactic| first | assumption | exact dc6 (by decide) (by decide) | exact bm3 (by decide) (by decide) | exact ds2 (by decide) (by decide) | exact db3 (by decide) (by decide) (by decide) | decide | omega | (refine And.intro ?_ ?_; omega; omega))
local macro_rules | `(tactic| walk_at "ev") => `(tactic| simp (disch := walk_at "gt") only [uK,cw1,cz0,aO,bE,bF,cU,dl4,kH,bQ,do1,dj3,aD,dC,aR,aG,dZ,kI,nA,do6,ae0,dIf,bK,gL,gT,pT,vM,fE,cG,aB,aH,bP,aX,dBM,sW,gP,jX,iW,gN,eA,cI,bz2,zM,dy4,kills,aJ,eD,bB,eI,bL,cE,mP,cO,frz,frzs,dL,aU,dJ,dA,ae8,aa1,lS,xC,sM,jS,xH,sP,gS,dn6,kL,uM,ak0,GoW,bl2,ak9,df1,dg1,dj0,ca9,cs9,dj1,da0,ci6,cc8,al0,dg2,du4,dk2,dq3,dn5,df4,dj5,di5,dz4,dv2,dk5,cm1,cl2,cc1,bz9,cq1,dm3,du2,dc4,dj2,dl5,dg3,dz2,dw3,cp3,dw2,dd6,dg6,du6,dt3,ds5,dm4,dl3,bn5,cu3,ba7,cs3,bn7,co3,cg3,dy3,db1,ca3,dw1,cx7,df5,dh5,cd1,cr8,dz1,bl7,bn1,de4,dh4,dd5,ds4,ds3,dh2,di2,do5,do3,da5,dt2,dq5,dn3,dt5,dd3,bh5,dp3,dw4,bq8,
 cb6,aa3,cf6,cj5,cf5,ck5,by1,cp6,ck7,dc2,cl9,de0,cp7,dZ,uC,cf0,ay3,bj3,zQ,uY,frz1,gY,mD,wC,aa8,bs3,ah8,pU,al8,rY,av0,ct6,List.length_map,Option.map_some,Option.isSome_some,List.isEmpty_cons,List.isEmpty_nil,Option.isSome_none,List.map_cons,List.map_nil,List.length_cons,List.length_nil,List.replicate_succ,List.replicate_zero,List.cons_append,List.nil_append,List.set_cons_zero,List.set_cons_succ,List.getElem?_cons_zero,List.getElem?_cons_succ,Nat.reduceAdd,Nat.reduceSub,Bool.not_true,Bool.not_false,Bool.and_true,Bool.true_and,Bool.and_false,Bool.false_and,Bool.or_true,Bool.true_or,Bool.or_false,Bool.false_or,if_true,if_false,Bool.false_eq_true,reduceIte,reduceCtorEq,decide_true,decide_false,and_self,and_true,true_and,Bool.and_self, *])
namespace Nk21
open PySem L2 TL
noncomputable section
def dP(i:Nat):Stmt:=PySem.Challenge.pw_inkyears_k21_steps_of_a_heap.main.body.getD i (.Pass ⟨0,0,0,0⟩)
abbrev kt_NUMBERS:List (Str×T):=[("dark",.tup [.int 0,.int 1000000]),("place",.tup [.int 1,.int 100]),("year",.tup [.int (-4000),.int 4000]),("later",.tup [.int 0,.int 300]),("gap",.tup [.int (-300),.int 300])]
abbrev kt_PARTS:List (Str×T):=[("ink",.tup [.str "letter",.str "ink",.str "dark",.str "dark"]),("reign",.tup [.str "letter",.str "reign",.str "place"]),("under",.tup [.str "letter",.str "reign"]),("between",.tup [.str "letter",.str "year",.str "year"]),("after",.tup [.str "letter",.str "letter"]),("same",.tup [.str "letter",.str "letter"]),("within",.tup [.str "letter",.str "letter",.str "later"]),("apart",.tup [.str "letter",.str "letter",.str "gap",.str "gap"])]
def qE:Fr->bR:=
 (aO (cU (bK (aG wH (aD 1) (bP dQ (aB (aD 0) aH)))) (bF [] (aR (aG aV (aD 0) (aD 1)))) bQ)
 (bF [] (dC (.int 0))))
def eM:List T->Res T:=λts=>bL (qE (cE 2 ts))
def oZ:Fr->bR:=
 (aO (bE [] (fE (aB (dC (.str "a")) (aB (dC (.str "ab")) (aB (dC (.str "abc")) (aB (dC (.str "b")) (aB (dC (.str "ba")) (aB (dC (.str "zzzzzzzz")) (aB (dC (.str "zzzzzzzy")) (aB (dC (.str "q")) aH))))))))) (aJ 1))
 (bF [] (aG bU (sW pO (aD 1) (gP (aG bW (aD 0) (dC (.int 8)))) jX) (sW pO (aD 1) jX (gP (aG bW (aD 0) (dC (.int 8))))))))
def pD:List T->Res T:=λts=>bL (oZ (cE 2 ts))
def pA:Fr->bR:=
 (aO (bE [] (aG bU (aG bU (aG bW (aD 0) (dC (.int 1000000021))) (aG jY (dC (.int 4099)) (aD 1))) (dC (.int 77))) (aJ 0))
 (aO (bE [] (bP xQ (aB (aG bW (aG jY (aD 0) (dC (.int 30011))) (dC (.int 2140000027))) (aB (dC (.int 46133)) aH))) (eD (bB (aJ 2) (bB (aJ 3) eI))))
 (aO (bE [] (aG bU (aG bU (aG bU (aG jY (aD 2) (aD 3)) (aG jY (dC (.int 6007)) (aD 2))) (aG jY (dC (.int 271)) (aD 3))) (aD 1)) (aJ 4))
 (bF [] (aG bW (aG jY (aD 4) (aG bU (aG bW (aD 4) (dC (.int 1009))) (dC (.int 7919)))) (dC (.int 1700000009)))))))
def dD:List T->Res T:=λts=>bL (pA (cE 5 ts))
def oS:Fr->bR:=
 (aO (bE [] (aG bW (aX 2 eM (aB (aD 0) (aB (dC (.int 0)) aH))) (aG wU (dC (.int 10)) (dC (.int 15)))) (aJ 2))
 (aO (bE [] (aR (aG aV (fE (aB (dC (.int 0)) (aB (dC (.int 1)) (aB (dC (.int 3)) (aB (dC (.int 8)) (aB (dC (.int 20)) (aB (dC (.int 20)) (aB (dC (.int 60)) (aB (dC (.int 300)) aH))))))))) (aG bW (aD 2) (dC (.int 8))))) (aJ 3))
 (aO (bE [] (aR (aG aV (fE (aB (dZ mG (dC (.int 3000))) (aB (aG cT (dC (.int 3000)) (aD 3)) (aB (dZ mG (dC (.int 10))) (aB (dC (.int 1400)) aH))))) (aG bW (aG fT (aD 2) (dC (.int 8))) (dC (.int 4))))) (aJ 4))
 (aO (bE [] (sW pO (aX 1 pD (aB (aG fT (aD 2) (dC (.int 32))) aH)) jX (gP (aG bU (dC (.int 1)) (aG bW (aG fT (aD 2) (dC (.int 256))) (aD 1))))) (aJ 5))
 (aO (bE [] (fE aH) (aJ 6))
 (aO (kH (gN oI (aB (aG bU (dC (.int 2)) (aG bW (aX 2 dD (aB (aD 2) (aB (dC (.int 6)) aH))) (dC (.int 5)))) aH)) (aJ 7) (aO (bE [] (aG bU (dC (.int 400)) (aG bW (aG fT (aD 2) (dC (.int 2048))) (dC (.int 9)))) (aJ 8))
 (aO (bE [] (fE (aB (aR (aD 8)) aH)) (aJ 9))
 (aO (kH (gN oI (aB (aG bW (aX 2 dD (aB (aD 2) (aB (aD 7) aH))) (aG aV (fE (aB (dC (.int 12)) (aB (dC (.int 60)) aH))) (aG fT (aG bW (aG fT (aD 2) (dC (.int 18432))) (dC (.int 4))) (dC (.int 3))))) aH)) (aJ 10) (aO (bE [] (bP sO (aB (dC (.int 0)) (aB (aG cT (aD 8) (aG bW (aX 2 dD (aB (aD 2) (aB (aG bU (aG jY (dC (.int 10)) (aD 10)) (aD 7)) aH))) (dC (.int 13)))) aH))) (aJ 8))
 (gS 9 [] cO (aR (aD 8)))))
 (gS 6 [9] cO (cG (aB (aR (aG aV (fE (aB (dC (.str "oak")) (aB (dC (.str "soot")) (aB (dC (.str "oa")) (aB (dC (.str "ink")) (aB (dC (.str "oakoak")) (aB (dC (.str "s")) aH))))))) (aD 7))) (aB (aD 9) aH))))))))
 (aO (bE [] (aG bU (aG cT (aD 4) (dC (.int 5))) (aG bW (aX 2 dD (aB (aD 2) (aB (dC (.int 3)) aH))) (aG bU (aD 3) (dC (.int 9))))) (aJ 11))
 (aO (bE [] (fE (aB (cG (aB (dC (.str "ann")) (aB (aR (aD 11)) (aB (aG bU (dC (.int 1)) (aG bW (aX 2 dD (aB (aD 2) (aB (dC (.int 4)) aH))) (dC (.int 30)))) aH)))) (aB (cG (aB (dC (.str "anna")) (aB (aG bU (aD 11) (dC (.int 3))) (aB (aG bU (dC (.int 1)) (aG bW (aX 2 dD (aB (aD 2) (aB (dC (.int 5)) aH))) (dC (.int 100)))) aH)))) aH))) (aJ 12))
 (aO (kH (gN oI (aB (aG bW (aX 2 dD (aB (aD 2) (aB (dC (.int 7)) aH))) (dC (.int 7))) aH)) (aJ 7) (aO (bE [] (aG cT (aG bU (aD 11) (aG bW (aX 2 dD (aB (aD 2) (aB (aG bU (dC (.int 8)) (aD 7)) aH))) (dC (.int 9)))) (dC (.int 4))) (aJ 11))
 (wC 12 [] bs3 cO (aB (dC (.int 1)) (aB (cG (aB (aR (aG aV (fE (aB (dC (.str "an")) (aB (dC (.str "b")) (aB (dC (.str "annab")) (aB (dC (.str "zz")) (aB (dC (.str "nn")) (aB (dC (.str "a")) aH))))))) (aD 7))) (aB (aR (aD 11)) (aB (aG bU (dC (.int 1)) (aG bW (aX 2 dD (aB (aD 2) (aB (aG bU (dC (.int 14)) (aD 7)) aH))) (dC (.int 60)))) aH)))) aH)))))
 (bF [5,6,12] (cG (aB (aR (aD 4)) (aB (aG bU (aD 4) (aD 3)) (aB (aD 5) (aB (aD 6) (aB (aD 12) aH))))))))))))))))
def lV:List T->Res T:=λts=>bL (oS (cE 13 ts))
def rV:Fr->bR:=
 (aO (bE [] (aG bW (bP yY (aB (aD 0) aH)) (aG wU (dC (.int 10)) (dC (.int 60)))) (aJ 2))
 (aO (bE [] (fE aH) (aJ 3))
 (aO (kH (gN oI (aB (aD 1) aH)) (aJ 4) (cU (vM (bK (aG wH (aD 0) (dC (.int 0)))) (bK (aG geT (aD 0) (aG wU (dC (.int 10)) (dC (.int 18)))))) (aO (gS 3 [] cO (aG bW (aD 2) (dC (.int 10007))))
 (bE [] (aG fT (aD 2) (dC (.int 10007))) (aJ 2))) (gS 3 [] cO (aX 2 dD (aB (aG bU (aX 2 dD (aB (aD 0) (aB (aD 4) aH))) (aD 0)) (aB (aD 4) aH))))))
 (bF [3] (aD 3)))))
def mT:List T->Res T:=λts=>bL (rV (cE 5 ts))
def nB:Fr->bR:=
 (bF [] (eA [2] (iW kD (aX 2 mT (aB (aD 0) (aB (bP dQ (aB (aG aV (aD 1) (dC (.int 2))) aH)) aH)))) (aJ 2) cI (aG bU (aG aV (aD 1) (dC (.int 0))) (aG bW (aD 2) (aG bU (aG cT (aG aV (aD 1) (dC (.int 1))) (aG aV (aD 1) (dC (.int 0)))) (dC (.int 1)))))))
def kT:List T->Res T:=λts=>bL (nB (cE 3 ts))
def pZ:Fr->bR:=
 (aO (bE [] (fE (aB (aR (aG aV (aG aV (aD 1) (dC (.int 2))) (aD 2))) (aB (aR (aG aV (aG aV (aD 1) (dC (.int 2))) (aD 3))) aH))) (aJ 4))
 (aO (cU (vM (bK (aG fR (aD 2) (aD 3))) (bK (aG fR (aG bW (aG aV (aD 0) (dC (.int 2))) (dC (.int 2))) (dC (.int 0))))) (aO (bE [] (aG bU (aG cT (aG aV (aD 1) (dC (.int 0))) (dC (.int 30))) (aG bW (aG aV (aD 0) (dC (.int 3))) (aG bU (aG cT (aG aV (aD 1) (dC (.int 1))) (aG aV (aD 1) (dC (.int 0)))) (dC (.int 61))))) (aJ 5))
 (aO (bE [] (aG bU (aD 5) (aG bW (aG aV (aD 0) (dC (.int 4))) (dC (.int 40)))) (aJ 6))
 (bF [] (cG (aB (dC (.str "between")) (aB (aG bU (sW pO (aD 4) jX (gP (dC (.int 1)))) (fE (aB (aR (aD 5)) (aB (aR (aD 6)) aH)))) (aB (cG (aB (aR (aD 2)) aH)) (aB (cG (aB (aR (aD 5)) (aB (aR (aD 6)) aH))) aH)))))))) bQ)
 (aO (bE [] (aG cT (aG bW (aG aV (aD 0) (dC (.int 3))) (dC (.int 601))) (dC (.int 300))) (aJ 5))
 (aO (bE [] (bP pS (aB (dC (.int 300)) (aB (aG bU (aD 5) (aG bW (aG aV (aD 0) (dC (.int 4))) (dC (.int 40)))) aH))) (aJ 6))
 (bF [] (cG (aB (dC (.str "apart")) (aB (aG bU (aD 4) (fE (aB (aR (aD 5)) (aB (aR (aD 6)) aH)))) (aB (cG (aB (aR (aD 2)) (aB (aR (aD 3)) aH))) (aB (cG (aB (aR (aD 5)) (aB (aR (aD 6)) aH))) aH))))))))))
def qK:List T->Res T:=λts=>bL (pZ (cE 7 ts))
def nW:Fr->bR:=
 (aO (bE [] (aR (aG aV (aG aV (aD 1) (dC (.int 2))) (aD 2))) (aJ 4))
 (aO (bE [] (aG fT (aD 0) (dC (.int 4))) (aJ 5))
 (aO (cU (bK (aG fR (aG bW (aD 0) (dC (.int 4))) (dC (.int 0)))) (aO (bE [] (aR (aG aV (aG aV (aD 1) (dC (.int 3))) (aG bW (aD 5) (bP dQ (aB (aG aV (aD 1) (dC (.int 3))) aH))))) (eD (bB (aJ 6) (bB (aJ 7) eI))))
 (aO (bE [] (aG bW (aG fT (aD 5) (dC (.int 2))) (dC (.int 5))) (aJ 8))
 (aO (bE [] (aR (aG aV (aD 7) (bP pS (aB (aG cT (aG aV (aD 1) (dC (.int 1))) (aD 3)) (aB (aG cT (bP dQ (aB (aD 7) aH)) (dC (.int 1))) aH))))) (aJ 9))
 (aO (bE [] (bP sO (aB (dC (.int 0)) (aB (aG cT (aG bU (aD 9) (aG bW (aG fT (aD 5) (dC (.int 10))) (aG bU (aG jY (dC (.int 2)) (aD 8)) (dC (.int 1))))) (aD 8)) aH))) (aJ 9))
 (aO (bE [] (fE aH) (aJ 10))
 (aO (kH (gN oI (aB (aG bU (aG cT (aG aV (aD 1) (dC (.int 1))) (aG aV (aD 1) (dC (.int 0)))) (dC (.int 1))) aH)) (aJ 11) (cU (bK (aG nX (bP yY (aB (aG cT (aG aV (aD 7) (bP pS (aB (aD 11) (aB (aG cT (bP dQ (aB (aD 7) aH)) (dC (.int 1))) aH)))) (aD 9)) aH)) (aD 8))) (gS 10 [] cO (aR (aD 11))) bQ))
 (bF [] (cG (aB (dC (.str "ink")) (aB (fE (aB (aR (aD 4)) (aB (aR (aD 6)) (aB (aR (aD 9)) (aB (aR (aD 8)) aH))))) (aB (cG (aB (aR (aD 2)) aH)) (aB (cG (aB (aG cT (aG aV (aD 1) (dC (.int 1))) (aG aV (aD 10) (dZ mG (dC (.int 1))))) (aB (aG cT (aG aV (aD 1) (dC (.int 1))) (aG aV (aD 10) (dC (.int 0)))) aH))) aH)))))))))))) bQ)
 (aO (bE [] (aG bW (aG fT (aD 5) (dC (.int 2))) (bP dQ (aB (aG aV (aD 1) (dC (.int 4))) aH))) (aJ 12))
 (aO (kH (iW vY (bz2 (aG bU (sW pO (aG aV (aD 1) (dC (.int 4))) (gP (aD 12)) jX) (sW pO (aG aV (aD 1) (dC (.int 4))) jX (gP (aD 12)))))) (eD (bB (aJ 13) (bB (aJ 14) (bB (aJ 15) eI)))) (cU (pT (bK (aG fR (aG bW (aD 0) (dC (.int 4))) (dC (.int 1)))) (bK (kI nX wH (aD 14) (aD 3) (aG bU (aD 14) (aD 15))))) (aO (cU (bK (aG fR (aG bW (aD 5) (dC (.int 2))) (dC (.int 0)))) (bF [] (cG (aB (dC (.str "reign")) (aB (fE (aB (aR (aD 4)) (aB (aR (aD 13)) (aB (aG bU (aG cT (aD 3) (aD 14)) (dC (.int 1))) aH)))) (aB (cG (aB (aR (aD 2)) aH)) (aB (cG (aB (aR (aD 3)) (aB (aR (aD 3)) aH))) aH)))))) bQ)
 (bF [] (cG (aB (dC (.str "under")) (aB (fE (aB (aR (aD 4)) (aB (aR (aD 13)) aH))) (aB (cG (aB (aR (aD 2)) aH)) (aB (cG (aB (aR (aD 14)) (aB (aG cT (aG bU (aD 14) (aD 15)) (dC (.int 1))) aH))) aH))))))) bQ))
 (aO (bE [] (bP sO (aB (dZ mG (dC (.int 4000))) (aB (aG cT (aD 3) (aG bW (aD 5) (dC (.int 9)))) aH))) (aJ 16))
 (aO (bE [] (bP pS (aB (dC (.int 4000)) (aB (aG bU (aD 3) (aG bW (aG fT (aD 5) (dC (.int 9))) (dC (.int 9)))) aH))) (aJ 17))
 (bF [] (cG (aB (dC (.str "between")) (aB (fE (aB (aR (aD 4)) (aB (aR (aD 16)) (aB (aR (aD 17)) aH)))) (aB (cG (aB (aR (aD 2)) aH)) (aB (cG (aB (aR (aD 16)) (aB (aR (aD 17)) aH))) aH)))))))))))))
def nT:List T->Res T:=λts=>bL (nW (cE 18 ts))
def nN:Fr->bR:=
 (aO (bE [] (eA [9] (iW kD (aD 2)) (aJ 9) cI (aR (aG aV (aG aV (aD 1) (dC (.int 2))) (aD 9)))) (aJ 4))
 (aO (bE [] (aG fT (aD 0) (dC (.int 4))) (aJ 5))
 (aO (cU (pT (bK (aG fR (aD 3) (dC (.int 0)))) (bK (aG fR (aG bW (aD 0) (dC (.int 4))) (dC (.int 0))))) (bF [4] (cG (aB (dC (.str "same")) (aB (aD 4) (aB (aR (aD 2)) (aB (cG (aB (dC (.int 0)) (aB (dC (.int 0)) aH))) aH)))))) bQ)
 (aO (cU (pT (bK (aG gtT (aD 3) (dC (.int 0)))) (bK (aG wH (aG bW (aD 0) (dC (.int 4))) (dC (.int 2))))) (bF [4] (cG (aB (dC (.str "after")) (aB (aD 4) (aB (aR (aD 2)) (aB (cG (aB (dC (.int 1)) (aB (dC .non) aH))) aH)))))) bQ)
 (aO (cU (pT (bK (aG geT (aD 3) (dC (.int 0)))) (bK (aG fR (aG bW (aD 0) (dC (.int 4))) (dC (.int 2))))) (aO (bE [] (bP pS (aB (dC (.int 300)) (aB (aG bU (aD 3) (aG bW (aD 5) (dC (.int 4)))) aH))) (aJ 6))
 (bF [] (cG (aB (dC (.str "within")) (aB (aG bU (aD 4) (fE (aB (aR (aD 6)) aH))) (aB (aR (aD 2)) (aB (cG (aB (dC (.int 0)) (aB (aR (aD 6)) aH))) aH))))))) bQ)
 (aO (bE [] (bP sO (aB (dZ mG (dC (.int 300))) (aB (aG cT (aD 3) (aG bW (aD 5) (dC (.int 6)))) aH))) (aJ 7))
 (aO (bE [] (bP pS (aB (dC (.int 300)) (aB (aG bU (aD 3) (aG bW (aG fT (aD 5) (dC (.int 6))) (dC (.int 6)))) aH))) (aJ 8))
 (bF [] (cG (aB (dC (.str "apart")) (aB (aG bU (aD 4) (fE (aB (aR (aD 7)) (aB (aR (aD 8)) aH)))) (aB (aR (aD 2)) (aB (cG (aB (aR (aD 7)) (aB (aR (aD 8)) aH))) aH)))))))))))))
def nG:List T->Res T:=λts=>bL (nN (cE 10 ts))
def mF:Fr->bR:=
 (aO (bE [] (bP dQ (aB (aG aV (aD 1) (dC (.int 2))) aH)) (aJ 4))
 (aO (bE [] (aG cT (aG aV (aD 1) (dC (.int 1))) (aG aV (aD 1) (dC (.int 0)))) (aJ 5))
 (aO (bE [] (fE aH) (aJ 6))
 (aO (kH (iW vY (aD 0)) (aJ 7) (aO (bE [] (aX 2 mT (aB (aD 7) (aB (dC (.int 6)) aH))) (aJ 8))
 (aO (bE [] (aG bW (aG aV (aD 8) (dC (.int 0))) (aD 4)) (aJ 9))
 (aO (bE [] (bP gE (aB (aD 3) aH)) (aJ 10))
 (aO (cU (pT (gL (aD 2)) (bK (aG fR (aG bW (aG aV (aD 8) (dC (.int 1))) (dC (.int 3))) (dC (.int 0))))) (bE [] (eA [12] (gN oI (aB (aD 4) aH)) (aJ 12) cI (aG bU (aG aV (aD 1) (dC (.int 0))) (aG bW (aG bU (aG aV (aD 8) (dC (.int 4))) (aG jY (aG jY (dC (.int 7)) (aG aV (aD 8) (dC (.int 5)))) (aD 12))) (aG bU (aD 5) (dC (.int 1)))))) (aJ 10)) bQ)
 (aO (bE [] (aG bW (aG bU (aG bU (aD 9) (dC (.int 1))) (aG bW (aG fT (aG aV (aD 8) (dC (.int 1))) (dC (.int 3))) (bP sO (aB (dC (.int 1)) (aB (aG cT (aD 4) (dC (.int 1))) aH))))) (aD 4)) (aJ 11))
 (cU (pT (gL (aD 2)) (bK (aG fR (aG bW (aG aV (aD 8) (dC (.int 5))) (dC (.int 8))) (dC (.int 5))))) (gS 6 [] cO (aX 4 qK (aB (aD 8) (aB (aD 1) (aB (aD 9) (aB (aD 11) aH)))))) (cU (vM (bK (aG fR (aD 4) (dC (.int 1)))) (bK (aG wH (aG bW (aG aV (aD 8) (dC (.int 2))) (dC (.int 5))) (dC (.int 2))))) (gS 6 [] cO (aX 4 nT (aB (aG aV (aD 8) (dC (.int 3))) (aB (aD 1) (aB (aD 9) (aB (aG aV (aD 10) (aD 9)) aH)))))) (gS 6 [] cO (aX 4 nG (aB (aG aV (aD 8) (dC (.int 3))) (aB (aD 1) (aB (cG (aB (aR (aD 9)) (aB (aR (aD 11)) aH))) (aB (aG cT (aG aV (aD 10) (aD 9)) (aG aV (aD 10) (aD 11))) aH))))))))))))))
 (bF [6] (aD 6))))))
def jP:List T->Res T:=λts=>bL (mF (cE 13 ts))
def qG:Fr->bR:=
 (bF [] (nA (bP gO (aB (aD 0) (aB (dC (.ty "int")) aH))) (ae0 (bP gO (aB (aD 0) (aB (dC (.ty "bool")) aH))))))
def qA:List T->Res T:=λts=>bL (qG (cE 1 ts))
def jZ:Fr->bR:=
 (bF [] (nA (aX 1 qA (aB (aD 0) aH)) (kI nX nX (aD 1) (aD 0) (aD 2))))
def cM:List T->Res T:=λts=>bL (jZ (cE 3 ts))
def pF:Fr->bR:=
 (aO (cU (gT (gL (aX 3 cM (aB (aD 0) (aB (dZ mG (dC (.int 3000))) (aB (dC (.int 3000)) aH)))))) (bF [] (dC (.bl false))) bQ)
 (aO (cU (gT (gL (aX 3 cM (aB (aD 1) (aB (dZ mG (dC (.int 3000))) (aB (dC (.int 3000)) aH)))))) (bF [] (dC (.bl false))) bQ)
 (bF [] (kI nX nX (dC (.int 0)) (aG cT (aD 1) (aD 0)) (dC (.int 300))))))
def oX:List T->Res T:=λts=>bL (pF (cE 2 ts))
def nS:Fr->bR:=
 (bF [] (nA (kI nX nX (dC (.int 1)) (bP dQ (aB (aD 0) aH)) (aD 2)) (bP (lO false) (aB (eA [3] (iW kD (aD 0)) (aJ 3) cI (aG (yL false) (aD 3) (aD 1))) aH))))
def nC:List T->Res T:=λts=>bL (nS (cE 4 ts))
def rX:Fr->bR:=
 (bF [] (aX 3 nC (aB (aD 0) (aB (dC (.str "abcdefghijklmnopqrstuvwxyz")) (aB (dC (.int 8)) aH)))))
def pM:List T->Res T:=λts=>bL (rX (cE 1 ts))
def oP:Fr->bR:=
 (aO (cU (gT (bK (kI nX nX (aD 1) (bP dQ (aB (aD 0) aH)) (aD 2)))) (bF [] (dC (.bl false))) bQ)
 (bF [] (nA (bP (lO false) (aB (eA [3] (iW kD (aD 0)) (aJ 3) cI (aX 1 pM (aB (aD 3) aH))) aH)) (aG fR (bP sS (aB (aD 0) aH)) (bP dQ (aB (aD 0) aH))))))
def jR:List T->Res T:=λts=>bL (oP (cE 4 ts))
def qJ:Fr->bR:=
 (aO (cU (gT (bK (kI nX nX (dC (.int 1)) (bP dQ (aB (aD 0) aH)) (dC (.int 60))))) (bF [] (dC (.bl false))) bQ)
 (aO (cU (gT (gL (bP (lO false) (aB (eA [1] (iW kD (aD 0)) (aJ 1) cI (aX 3 cM (aB (aD 1) (aB (dC (.int 0)) (aB (dC (.int 1000000)) aH))))) aH)))) (bF [] (dC (.bl false))) bQ)
 (bF [] (bP (lO false) (aB (eA [2] (gN bh3 (aB (dC (.int 1)) (aB (bP dQ (aB (aD 0) aH)) aH))) (aJ 2) cI (aG nX (aG aV (aD 0) (aD 2)) (aG aV (aD 0) (aG cT (aD 2) (dC (.int 1)))))) aH)))))
def nV:List T->Res T:=λts=>bL (qJ (cE 3 ts))
def qN:Fr->bR:=
 (aO (cU (gT (gL (aX 3 jR (aB (eA [1,2] (iW kD (aD 0)) (eD (bB (aJ 1) (bB (aJ 2) eI))) cI (aR (aD 1))) (aB (dC (.int 0)) (aB (dC (.int 6)) aH)))))) (bF [] (dC (.bl false))) bQ)
 (bF [] (bP (lO false) (aB (eA [1,2] (iW kD (aD 0)) (eD (bB (aJ 1) (bB (aJ 2) eI))) cI (aX 1 nV (aB (aD 2) aH))) aH))))
def qO:List T->Res T:=λts=>bL (qN (cE 3 ts))
def qC:Fr->bR:=
 (bF [] (nA (aX 3 cM (aB (aD 0) (aB (dZ mG (dC (.int 4000))) (aB (dC (.int 4000)) aH)))) (aX 3 cM (aB (aD 1) (aB (dC (.int 1)) (aB (dC (.int 100)) aH))))))
def nR:List T->Res T:=λts=>bL (qC (cE 2 ts))
def nH:Fr->bR:=
 (aO (cU (gT (gL (aX 3 jR (aB (eA [1,2,3] (iW kD (aD 0)) (eD (bB (aJ 1) (bB (aJ 2) (bB (aJ 3) eI)))) cI (aR (aD 1))) (aB (dC (.int 0)) (aB (dC (.int 8)) aH)))))) (bF [] (dC (.bl false))) bQ)
 (bF [] (bP (lO false) (aB (eA [1,2,3] (iW kD (aD 0)) (eD (bB (aJ 1) (bB (aJ 2) (bB (aJ 3) eI)))) cI (aX 2 nR (aB (aD 2) (aB (aD 3) aH)))) aH))))
def nE:List T->Res T:=λts=>bL (nH (cE 4 ts))
def iP:Fr->bR:=
 (aO (cU (gT (gL (aX 2 oX (aB (aD 1) (aB (aD 2) aH))))) mD bQ)
 (aO (cU (gT (gL (aX 3 jR (aB (aD 3) (aB (dC (.int 1)) (aB (dC (.int 8)) aH)))))) mD bQ)
 (aO (cU (gT (gL (aX 1 qO (aB (aD 4) aH)))) mD bQ)
 (aO (cU (gT (gL (aX 1 nE (aB (aD 5) aH)))) mD bQ)
 (aO (pU 0 [] ["Archive"] "first" (aR (aD 1)) cO)
 (aO (pU 0 [] ["Archive"] "present" (aR (aD 2)) cO)
 (aO (pU 0 [] ["Archive"] "letters" (bP gE (aB (aD 3) aH)) cO)
 (aO (pU 0 [] ["Archive"] "inks" (eA [6,7] (iW kD (aD 4)) (eD (bB (aJ 6) (bB (aJ 7) eI))) cI (cG (aB (aR (aD 6)) (aB (bP gE (aB (aD 7) aH)) aH)))) cO)
 (pU 0 [] ["Archive"] "reigns" (eA [6,8,9] (iW kD (aD 5)) (eD (bB (aJ 6) (bB (aJ 8) (bB (aJ 9) eI)))) cI (cG (aB (aR (aD 6)) (aB (aR (aD 8)) (aB (aR (aD 9)) aH))))) cO)))))))))
def nU:List T->Res T:=λts=>gY (iP (cE 10 (.ins true "Archive" [] []::ts)))
def mB:Fr->bR:=
 (aO (bE [] (eA [2,3] (iW kD (aG aV (aD 0) (dC (.int 3)))) (eD (bB (aJ 2) (bB (aJ 3) eI))) cI (cG (aB (aR (aD 2)) (aB (bP gE (aB (aD 3) aH)) aH)))) (aJ 1))
 (bF [] (aX 5 nU (aB (aG aV (aD 0) (dC (.int 0))) (aB (aG aV (aD 0) (dC (.int 1))) (aB (bP gE (aB (aG aV (aD 0) (dC (.int 2))) aH)) (aB (aD 1) (aB (bP gE (aB (aG aV (aD 0) (dC (.int 4))) aH)) aH))))))))
def jO:List T->Res T:=λts=>bL (mB (cE 4 ts))
def mJ:Fr->bR:=
 (aO (cU (bK (aG fR (aD 1) (dC (.str "letter")))) (bF [] (aG (yL false) (aD 2) (dZ (eW ["Archive"] "letters") (aD 0)))) bQ)
 (aO (cU (bK (aG fR (aD 1) (dC (.str "ink")))) (bF [] (aG (yL false) (aD 2) (eA [3] (iW kD (dZ (eW ["Archive"] "inks") (aD 0))) (aJ 3) cI (aR (aG aV (aD 3) (dC (.int 0))))))) bQ)
 (aO (cU (bK (aG fR (aD 1) (dC (.str "reign")))) (bF [] (aG (yL false) (aD 2) (eA [4] (iW kD (dZ (eW ["Archive"] "reigns") (aD 0))) (aJ 4) cI (aR (aG aV (aD 4) (dC (.int 0))))))) bQ)
 (bF [] (aX 3 cM (aB (aD 2) (aB (aG aV (dZ (uC kt_NUMBERS) (aD 1)) (dC (.int 0))) (aB (aG aV (dZ (uC kt_NUMBERS) (aD 1)) (dC (.int 1))) aH))))))))
def eN:List T->Res T:=λts=>bL (mJ (cE 5 ts))
def rW:Fr->bR:=
 (aO (cU (vM (bK (dZ (cf0 true kt_PARTS) (aD 1))) (bK (aG vG (bP dQ (aB (aD 2) aH)) (bP dQ (aB (dZ (uC kt_PARTS) (aD 1)) aH))))) (bF [] (dC (.bl false))) bQ)
 (bF [] (bP (lO false) (aB (eA [3,4] (gN (ay3 false) (aB (dZ (uC kt_PARTS) (aD 1)) (aB (aD 2) aH))) (eD (bB (aJ 3) (bB (aJ 4) eI))) cI (aX 3 eN (aB (aD 0) (aB (aD 3) (aB (aD 4) aH))))) aH))))
def pQ:List T->Res T:=λts=>bL (rW (cE 5 ts))
def iC:Fr->bR:=
 (aO (kH (iW vY (dZ (eW ["Archive"] "inks") (aD 0))) (eD (bB (aJ 2) (bB (aJ 3) eI))) (cU (bK (aG fR (aD 2) (aD 1))) (bF [] (bP gE (aB (aD 3) aH))) bQ))
 (bF [] (dC .non)))
def eE:List T->Res T:=λts=>bL (iC (cE 4 ts))
def sC:Fr->bR:=
 (aO (bE [] (aG cT (bP dQ (aB (aD 0) aH)) (dC (.int 1))) (aJ 4))
 (aO (bE [] (eA [7] (gN oI (aB (aG bU (bP pS (aB (aD 4) (aB (aD 3) aH))) (dC (.int 1))) aH)) (aJ 7) (bK (aG nX (bP yY (aB (aG cT (aG aV (aD 0) (aD 7)) (aD 1)) aH)) (aD 2))) (aR (aD 7))) (aJ 5))
 (aO (cU (bK (aG fR (bP dQ (aB (aD 5) aH)) (dC (.int 0)))) (bF [] (dC .non)) bQ)
 (aO (bE [] (aR (aG aV (aD 5) (aG cT (bP dQ (aB (aD 5) aH)) (dC (.int 1))))) (aJ 6))
 (bF [] (cG (aB (aR (aG aV (aD 5) (dC (.int 0)))) (aB (dIf (bK (aG fR (aD 6) (aD 4))) (aR (aD 3)) (aR (aD 6))) aH))))))))
def pG:List T->Res T:=λts=>bL (sC (cE 8 ts))
def uI:Fr->bR:=
 (bF [] (dBM ae8 tX (dC (.str " ")) (aB (eA [1] (iW kD (aD 0)) (aJ 1) cI (bP sB (aB (aD 1) aH))) aH)))
def uA:List T->Res T:=λts=>bL (uI (cE 2 ts))
def bM:Fr->bR:=
 (aO (bE [] (eA [7,8] (gN (ay3 false) (aB (aD 3) (aB (dZ (uC kt_PARTS) (aD 2)) aH))) (eD (bB (aJ 7) (bB (aJ 8) eI))) (bK (aG fR (aD 8) (dC (.str "letter")))) (aR (aD 7))) (aJ 6))
 (aO (pU 0 [] ["Ink","Reign","Under","Between","After","Same","Within","Apart"] "spoken" (eA [9] (iW kD (aD 6)) (aJ 9) cI (dBM aa1 tJ (dZ (eW ["Archive"] "letters") (aD 1)) (aB (aD 9) aH))) cO)
 (aO (pU 0 [] ["Ink","Reign","Under","Between","After","Same","Within","Apart"] "low" (aR (aD 4)) cO)
 (aO (pU 0 [] ["Ink","Reign","Under","Between","After","Same","Within","Apart"] "high" (aR (aD 5)) cO)
 (pU 0 [] ["Ink","Reign","Under","Between","After","Same","Within","Apart"] "text" (aX 1 uA (aB (aG bU (fE (aB (aR (aD 2)) aH)) (bP gE (aB (aD 3) aH))) aH)) cO)))))
noncomputable abbrev tm_table:List (Str×(List T->Res T)):=[("Archive",eE)]
def zL:List T->Res T:=λts=>gY (bM (cE 10 (.ins true "Ink" [] []::ts)))
def nM:Fr->bR:=
 (aO (bE [] (aX 4 pG (aB (kC 2 "table" tm_table (aD 0) (aB (aG aV (aD 1) (dC (.int 1))) aH)) (aB (aG aV (aD 1) (dC (.int 2))) (aB (aG aV (aD 1) (dC (.int 3))) (aB (aG cT (dZ (eW ["Archive"] "present") (aD 0)) (dZ (eW ["Archive"] "first") (aD 0))) aH))))) (aJ 2))
 (aO (cU (bK (aG yF (aD 2) (dC .non))) mD bQ)
 (bF [] (aX 5 zL (aB (aD 0) (aB (dC (.str "ink")) (aB (aD 1) (aB (aG cT (dZ (eW ["Archive"] "present") (aD 0)) (aG aV (aD 2) (dC (.int 1)))) (aB (aG cT (dZ (eW ["Archive"] "present") (aD 0)) (aG aV (aD 2) (dC (.int 0)))) aH)))))))))
def nQ:List T->Res T:=λts=>bL (nM (cE 3 ts))
def kY:Fr->bR:=
 (aO (kH (iW vY (dZ (eW ["Archive"] "reigns") (aD 0))) (aJ 2) (cU (bK (aG fR (aG aV (aD 2) (dC (.int 0))) (aD 1))) (bF [] (aR (aD 2))) bQ))
 (bF [] (dC .non)))
def iN:List T->Res T:=λts=>bL (kY (cE 3 ts))
def nO:Fr->bR:=
 (aO (cU (gT (gL (aX 3 cM (aB (aD 2) (aB (dC (.int 1)) (aB (aD 1) aH)))))) (bF [] (dC .non)) bQ)
 (bF [] (aG cT (aG bU (aD 0) (aD 2)) (dC (.int 1)))))
def kM:List T->Res T:=λts=>bL (nO (cE 3 ts))
def tW:List T->Res T:=λts=>gY (bM (cE 10 (.ins true "Reign" [] []::ts)))
def lJ:Fr->bR:=
 (aO (bE [] (aX 2 iN (aB (aD 0) (aB (aG aV (aD 1) (dC (.int 1))) aH))) (aJ 2))
 (aO (bE [] (aX 3 kM (aB (aG aV (aD 2) (dC (.int 1))) (aB (aG aV (aD 2) (dC (.int 2))) (aB (aG aV (aD 1) (dC (.int 2))) aH)))) (aJ 3))
 (aO (cU (bK (aG yF (aD 3) (dC .non))) mD bQ)
 (bF [] (aX 5 tW (aB (aD 0) (aB (dC (.str "reign")) (aB (aD 1) (aB (aD 3) (aB (aD 3) aH))))))))))
def lH:List T->Res T:=λts=>bL (lJ (cE 4 ts))
def uF:List T->Res T:=λts=>gY (bM (cE 10 (.ins true "Under" [] []::ts)))
def kZ:Fr->bR:=
 (aO (bE [] (aX 2 iN (aB (aD 0) (aB (aG aV (aD 1) (dC (.int 1))) aH))) (aJ 2))
 (bF [] (aX 5 uF (aB (aD 0) (aB (dC (.str "under")) (aB (aD 1) (aB (aG aV (aD 2) (dC (.int 1))) (aB (aX 3 kM (aB (aG aV (aD 2) (dC (.int 1))) (aB (aG aV (aD 2) (dC (.int 2))) (aB (aG aV (aD 2) (dC (.int 2))) aH)))) aH))))))))
def lB:List T->Res T:=λts=>bL (kZ (cE 3 ts))
def qW:List T->Res T:=λts=>gY (bM (cE 10 (.ins true "Between" [] []::ts)))
def jJ:Fr->bR:=
 (aO (cU (bK (aG gtT (aG aV (aD 1) (dC (.int 1))) (aG aV (aD 1) (dC (.int 2))))) mD bQ)
 (bF [] (aX 5 qW (aB (aD 0) (aB (dC (.str "between")) (aB (aD 1) (aB (aG aV (aD 1) (dC (.int 1))) (aB (aG aV (aD 1) (dC (.int 2))) aH))))))))
def jG:List T->Res T:=λts=>bL (jJ (cE 2 ts))
def uH:List T->Res T:=λts=>gY (bM (cE 10 (.ins true "After" [] []::ts)))
def lK:Fr->bR:=
 (bF [] (aX 5 uH (aB (aD 0) (aB (dC (.str "after")) (aB (aD 1) (aB (dC (.int 1)) (aB (dC .non) aH)))))))
def lD:List T->Res T:=λts=>bL (lK (cE 2 ts))
def xI:List T->Res T:=λts=>gY (bM (cE 10 (.ins true "Same" [] []::ts)))
def mC:Fr->bR:=
 (bF [] (aX 5 xI (aB (aD 0) (aB (dC (.str "same")) (aB (aD 1) (aB (dC (.int 0)) (aB (dC (.int 0)) aH)))))))
def lZ:List T->Res T:=λts=>bL (mC (cE 2 ts))
def sJ:List T->Res T:=λts=>gY (bM (cE 10 (.ins true "Within" [] []::ts)))
def kB:Fr->bR:=
 (bF [] (aX 5 sJ (aB (aD 0) (aB (dC (.str "within")) (aB (aD 1) (aB (dC (.int 0)) (aB (aG aV (aD 1) (dC (.int 2))) aH)))))))
def kG:List T->Res T:=λts=>bL (kB (cE 2 ts))
def tU:List T->Res T:=λts=>gY (bM (cE 10 (.ins true "Apart" [] []::ts)))
def lE:Fr->bR:=
 (aO (cU (bK (aG gtT (aG aV (aD 1) (dC (.int 2))) (aG aV (aD 1) (dC (.int 3))))) mD bQ)
 (bF [] (aX 5 tU (aB (aD 0) (aB (dC (.str "apart")) (aB (aD 1) (aB (aG aV (aD 1) (dC (.int 2))) (aB (aG aV (aD 1) (dC (.int 3))) aH))))))))
def lF:List T->Res T:=λts=>bL (lE (cE 2 ts))
noncomputable abbrev tb_MAKERS:List (Str×(List T->Res T)):=[("ink",nQ),("reign",lH),("under",lB),("between",jG),("after",lD),("same",lZ),("within",kG),("apart",lF)]
def pE:Fr->bR:=
 (aO (cU (gT (gL (aX 3 pQ (aB (aD 0) (aB (aD 1) (aB (aD 2) aH)))))) mD bQ)
 (aO (cU (pT (bK (aG fR (aG aV (dZ (uC kt_PARTS) (aD 1)) (dC (.int 1))) (dC (.str "letter")))) (bK (aG fR (aG aV (aD 2) (dC (.int 0))) (aG aV (aD 2) (dC (.int 1)))))) mD bQ)
 (bF [] (av0 2 tb_MAKERS (aD 1) (aB (aD 0) (aB (aD 2) aH))))))
def cJ:List T->Res T:=λts=>bL (pE (cE 3 ts))
def qD:Fr->bR:=
 (bF [] (eA [2,3,4,5] (iW kD (aD 1)) (eD (bB (aJ 2) (bB (aJ 3) (bB (aJ 4) (bB (aJ 5) eI))))) cI (aX 3 cJ (aB (aD 0) (aB (aD 2) (aB (bP gE (aB (aD 3) aH)) aH))))))
def mY:List T->Res T:=λts=>bL (qD (cE 6 ts))
def oR:Fr->bR:=
 (aO (bE [] (fE aH) (aJ 2))
 (aO (kH (gN oI (aB (bP dQ (aB (aD 1) aH)) aH)) (aJ 3) (aO (bE [] (aR (aG aV (aG aV (aD 1) (aD 3)) (dC (.int 2)))) (aJ 4))
 (aO (bE [] (aR (aG aV (aG aV (aD 1) (aD 3)) (dC (.int 3)))) (eD (bB (aJ 5) (bB (aJ 6) eI))))
 (aO (bE [] (aR (aG aV (aG bU (aD 4) (cG (aB (dC .non) aH))) (dC (.int 1)))) (aJ 7))
 (aO (cU (bK (aG kU (aD 6) (dC .non))) (gS 2 [] cO (cG (aB (aR (aD 7)) (aB (aR (aG aV (aD 4) (dC (.int 0)))) (aB (aR (aD 6)) (aB (aR (aD 3)) aH)))))) bQ)
 (cU (bK (aG kU (aD 5) (dC .non))) (gS 2 [] cO (cG (aB (aR (aG aV (aD 4) (dC (.int 0)))) (aB (aR (aD 7)) (aB (aG cT (dC (.int 0)) (aD 5)) (aB (aR (aD 3)) aH)))))) bQ))))))
 (aO (kH (gN oI (aB (bP dQ (aB (aG aV (aD 0) (dC (.int 2))) aH)) aH)) (aJ 8) (aO (gS 2 [] cO (cG (aB (dC .non) (aB (aR (aD 8)) (aB (aR (aG aV (aD 0) (dC (.int 1)))) (aB (dC .non) aH))))))
 (gS 2 [] cO (cG (aB (aR (aD 8)) (aB (dC .non) (aB (aG cT (dC (.int 0)) (aG aV (aD 0) (dC (.int 0)))) (aB (dC .non) aH))))))))
 (bF [2] (aD 2)))))
def iK:List T->Res T:=λts=>bL (oR (cE 9 ts))
def cR:Fr->bR:=
 (bF [] (bP gE (aB (dZ (eW ["Ink","Reign","Under","Between","After","Same","Within","Apart"] "spoken") (aD 0)) aH)))
def aQ:List T->Res T:=λts=>bL (cR (cE 1 ts))
def cL:Fr->bR:=
 (bF [] (cG (aB (aR (dZ (eW ["Ink","Reign","Under","Between","After","Same","Within","Apart"] "low") (aD 0))) (aB (aR (dZ (eW ["Ink","Reign","Under","Between","After","Same","Within","Apart"] "high") (aD 0))) aH))))
def aP:List T->Res T:=λts=>bL (cL (cE 1 ts))
noncomputable abbrev tm_about:List (Str×(List T->Res T)):=[("Ink",aQ),("Reign",aQ),("Under",aQ),("Between",aQ),("After",aQ),("Same",aQ),("Within",aQ),("Apart",aQ)]
noncomputable abbrev tm_bounds:List (Str×(List T->Res T)):=[("Ink",aP),("Reign",aP),("Under",aP),("Between",aP),("After",aP),("Same",aP),("Within",aP),("Apart",aP)]
def lI:Fr->bR:=
 (aO (bE [] (kC 1 "about" tm_about (aD 0) aH) (aJ 2))
 (aO (bE [] (kC 1 "bounds" tm_bounds (aD 0) aH) (aJ 3))
 (aO (bE [] (dIf (bK (aG fR (bP dQ (aB (aD 2) aH)) (dC (.int 2)))) (aR (aG aV (aD 2) (dC (.int 1)))) (dC .non)) (aJ 4))
 (aO (bE [] (fE aH) (aJ 5))
 (aO (cU (bK (aG kU (aG aV (aD 3) (dC (.int 1))) (dC .non))) (gS 5 [] cO (cG (aB (aR (aD 4)) (aB (aR (aG aV (aD 2) (dC (.int 0)))) (aB (aR (aG aV (aD 3) (dC (.int 1)))) (aB (aR (aD 1)) aH)))))) bQ)
 (aO (cU (bK (aG kU (aG aV (aD 3) (dC (.int 0))) (dC .non))) (gS 5 [] cO (cG (aB (aR (aG aV (aD 2) (dC (.int 0)))) (aB (aR (aD 4)) (aB (aG cT (dC (.int 0)) (aG aV (aD 3) (dC (.int 0)))) (aB (aR (aD 1)) aH)))))) bQ)
 (bF [5] (aD 5))))))))
def lA:List T->Res T:=λts=>bL (lI (cE 6 ts))
def nK:Fr->bR:=
 (bF [] (fE (aB (cG (aB (dC .non) (aB (aR (aD 1)) (aB (aR (dZ (eW ["Archive"] "present") (aD 0))) (aB (dC .non) aH))))) (aB (cG (aB (aR (aD 1)) (aB (dC .non) (aB (aG cT (dC (.int 0)) (dZ (eW ["Archive"] "first") (aD 0))) (aB (dC .non) aH))))) aH))))
def nJ:List T->Res T:=λts=>bL (nK (cE 2 ts))
def qH:Fr->bR:=
 (aO (bE [] (fE aH) (aJ 2))
 (aO (kH (gN (bj3 true) (aB (aD 1) aH)) (eD (bB (aJ 3) (bB (aJ 4) eI))) (wC 2 [] aa8 cO (aB (aX 2 lA (aB (aD 4) (aB (aD 3) aH))) aH)))
 (aO (kH (gN oI (aB (bP dQ (aB (dZ (eW ["Archive"] "letters") (aD 0)) aH)) aH)) (aJ 5) (wC 2 [] aa8 cO (aB (aX 2 nJ (aB (aD 0) (aB (aD 5) aH))) aH)))
 (bF [2] (aD 2)))))
def fF:List T->Res T:=λts=>bL (qH (cE 6 ts))
def oW:Fr->bR:=
 (bF [] (nA (bP gO (aB (aD 0) (aB (dC (.ty "int")) aH))) (ae0 (bP gO (aB (aD 0) (aB (dC (.ty "bool")) aH))))))
def oU:List T->Res T:=λts=>bL (oW (cE 1 ts))
def qL:Fr->bR:=
 (aO (cU (vM (gT (gL (bP gO (aB (aD 0) (aB (dC (.ty "list")) aH))))) (bK (aG vG (bP dQ (aB (aD 0) aH)) (bP dQ (aB (aD 1) aH))))) (bF [] (dC (.bl false))) bQ)
 (aO (kH (gN (ay3 true) (aB (aD 0) (aB (aD 1) aH))) (eD (bB (aJ 2) (bB (aJ 3) eI))) (aO (cU (vM (gT (gL (bP gO (aB (aD 2) (aB (dC (.ty "tuple")) aH))))) (vM (bK (aG vG (aD 2) (aD 3))) (gT (gL (aX 1 oU (aB (aG aV (aD 2) (dC (.int 2))) aH)))))) (bF [] (dC (.bl false))) bQ)
 (cU (gL (bP (lO true) (aB (eA [4] (iW kD (aD 2)) (aJ 4) cI (bP gO (aB (aD 4) (aB (dC (.ty "bool")) aH)))) aH))) (bF [] (dC (.bl false))) bQ)))
 (bF [] (dC (.bl true)))))
def eY:List T->Res T:=λts=>bL (qL (cE 5 ts))
def ay6:Fr->bR:=
 (aO (bE [] (aX 2 lV (aB (aD 0) (aB (dC (.int 8)) aH))) (aJ 1))
 (aO (bE [] (aX 2 kT (aB (aG fT (aX 2 eM (aB (aD 0) (aB (dC (.int 1)) aH))) (dC (.int 32))) (aB (aD 1) aH))) (aJ 2))
 (aO (bE [] (uY (aX 4 jP (aB (sW pO (aD 0) (gP (dC (.int 2))) (gP (dC (.int 18)))) (aB (aD 1) (aB (aG fR (aG bW (aX 2 eM (aB (aD 0) (aB (dC (.int 1)) aH))) (dC (.int 2))) (dC (.int 1))) (aB (aD 2) aH)))))) (aJ 3))
 (aO (bE [] (aX 1 jO (aB (aD 1) aH)) (aJ 4))
 (aO (bE [] (uY (aX 2 mY (aB (aD 4) (aB (aD 3) aH)))) (aJ 5))
 (aO (cU (pT (bK (kI wH wH (dC (.int 0)) (bP dQ (aB (aD 3) aH)) (dC (.int 16)))) (bK (aG fR (aG bW (aG fT (aX 2 eM (aB (aD 0) (aB (dC (.int 1)) aH))) (dC (.int 2))) (dC (.int 8))) (dC (.int 3))))) (aO (gS 3 [] cO (aR (aG aV (aD 3) (dC (.int 0)))))
 (gS 5 [] cO (aR (aG aV (aD 5) (dC (.int 0)))))) bQ)
 (aO (bE [] (bP gE (aB (aD 5) aH)) (aJ 6))
 (aO (bE [] (aX 2 iK (aB (aD 1) (aB (aD 3) aH))) (aJ 7))
 (aO (bE [] (aX 2 fF (aB (aD 4) (aB (aD 6) aH))) (aJ 8))
 (aO (cU (vM (gT (gL (aX 2 eY (aB (aD 8) (aB (aD 7) aH))))) (bK (aG vG (bP dQ (aB (aD 6) aH)) (bP dQ (aB (aD 5) aH))))) (bF [] (dC (.bl false))) bQ)
 (aO (gS 8 [] cO (dC .non))
 (aO (wC 6 [] ah8 cO aH)
 (aO (cU (gT (gL (aX 2 eY (aB (aX 2 fF (aB (aD 4) (aB (zM (aD 5) (gP (dZ mG (dC (.int 1))))) aH))) (aB (aX 2 iK (aB (aD 1) (aB (zM (aD 3) (gP (dZ mG (dC (.int 1))))) aH))) aH))))) (bF [] (dC (.bl false))) bQ)
 (aO (bE [] (sW pO (aD 7) (gP (aG cT (dC (.int 0)) (aG jY (dC (.int 2)) (bP dQ (aB (aG aV (aD 1) (dC (.int 2))) aH))))) jX) (aJ 9))
 (bF [] (nA (aX 2 eY (aB (aX 2 fF (aB (aD 4) (aB (aD 5) aH))) (aB (aD 7) aH))) (aX 2 eY (aB (aX 2 fF (aB (aD 4) (aB (aD 6) aH))) (aB (aD 9) aH)))))))))))))))))))
def av6:List T->Res T:=λts=>bL (ay6 (cE 10 ts))
abbrev zZ:Stmt:=dP 64
abbrev yB:Stmt:=dP 66
abbrev yK:Stmt:=dP 65
abbrev yS:Stmt:=dP 67
abbrev az4:Stmt:=dP 70
abbrev wF:Stmt:=dP 71
abbrev ah1:Stmt:=dP 72
abbrev vW:Stmt:=dP 68
abbrev vS:Stmt:=dP 69
abbrev vE:Stmt:=dP 73
abbrev aa0:Stmt:=dP 13
abbrev rR:Stmt:=dP 14
abbrev yP:Stmt:=dP 33
abbrev vX:Stmt:=dP 15
abbrev av4:Stmt:=dP 16
abbrev yE:Stmt:=dP 34
abbrev af1:Stmt:=dP 23
abbrev aw0:Stmt:=dP 35
abbrev ai1:Stmt:=dP 25
abbrev wE:Stmt:=dP 36
abbrev iS:Stmt:=tQ (dP 37) 0
abbrev vF:Stmt:=dP 75
abbrev ac8:Stmt:=dP 51
abbrev ai5:Stmt:=dP 52
abbrev iF:Stmt:=tQ (dP 37) 1
abbrev ab5:Stmt:=dP 24
abbrev ah9:Stmt:=dP 17
abbrev cW:Stmt:=tQ (dP 41) 0
abbrev wZ:Stmt:=dP 53
abbrev sY:Stmt:=dP 50
abbrev wI:Stmt:=dP 26
abbrev sR:Stmt:=dP 54
abbrev tF:Stmt:=dP 55
abbrev rA:Stmt:=dP 56
abbrev sU:Stmt:=dP 57
abbrev vJ:Stmt:=dP 58
abbrev sA:Stmt:=dP 59
abbrev sZ:Stmt:=dP 60
abbrev yD:Stmt:=dP 62
abbrev an1:Stmt:=dP 76
abbrev yI:Stmt:=dP 74
abbrev cQ:Stmt:=tQ (dP 41) 1
abbrev cK:Stmt:=tQ (dP 41) 2
abbrev tE:Stmt:=dP 2
abbrev xD:Stmt:=dP 3
abbrev ay0:Stmt:=dP 4
abbrev yG:Stmt:=dP 77
abbrev aj0:Stmt:=dP 78
abbrev qB:Stmt:=dP 79
end
structure Txt (w:World) (K:PySem.W.Frag) (cn:Str->Option Addr) (mg:Str->Option Value) (c_Archive c_Ink c_Reign c_Under c_Between c_After c_Same c_Within c_Apart:Addr) (mU qS fQ:List (Str×Value)):Prop where
 bm4:mg "abs"=none
 vA:mg "all"=none
 dx5:mg "any"=none
 ar9:mg "bool"=none
 cm2:mg "divmod"=none
 bu0:mg "enumerate"=none
 cv3:mg "int"=none
 gU:mg "isinstance"=none
 dR:mg "len"=none
 jQ:mg "list"=none
 ar2:mg "max"=none
 uZ:mg "min"=none
 iZ:mg "range"=none
 dy5:mg "set"=none
 dw5:mg "str"=none
 cg7:mg "tuple"=none
 bq4:mg "zip"=none
 g_DARKEST:tO mg "DARKEST" (.int 1000000)
 g_FARTHEST_END:tO mg "FARTHEST_END" (.int 3000)
 g_FARTHEST_YEAR:tO mg "FARTHEST_YEAR" (.int 4000)
 g_LETTERS:tO mg "LETTERS" (.str "abcdefghijklmnopqrstuvwxyz")
 g_LONGEST_REIGN:tO mg "LONGEST_REIGN" (.int 100)
 g_LONGEST_SPAN:tO mg "LONGEST_SPAN" (.int 300)
 g_MOST_AGES:tO mg "MOST_AGES" (.int 60)
 g_MOST_INKS:tO mg "MOST_INKS" (.int 6)
 g_MOST_LETTERS_archives:tO mg "MOST_LETTERS_archives" (.int 8)
 g_MOST_LETTERS_words:tO mg "MOST_LETTERS_words" (.int 8)
 g_MOST_REIGNS:tO mg "MOST_REIGNS" (.int 8)
 d_NUMBERS:uE w K mg "NUMBERS" mU
 g_NUMBERS:GD K cn kt_NUMBERS mU
 d_PARTS:uE w K mg "PARTS" qS
 g_PARTS:GD K cn kt_PARTS qS
 jN:cn "Archive"=some c_Archive
 lL:Cls K c_Archive
 rO:cn "Ink"=some c_Ink
 tR:Cls K c_Ink
 mN:cn "Reign"=some c_Reign
 oO:Cls K c_Reign
 mL:cn "Under"=some c_Under
 oJ:Cls K c_Under
 jM:cn "Between"=some c_Between
 lM:Cls K c_Between
 mK:cn "After"=some c_After
 oM:Cls K c_After
 oK:cn "Same"=some c_Same
 qT:Cls K c_Same
 kW:cn "Within"=some c_Within
 mV:Cls K c_Within
 mM:cn "Apart"=some c_Apart
 oN:Cls K c_Apart
 zY:NoAttr K c_Archive "first"
 bc1:NoAttr K c_Ink "high"
 al6:NoAttr K c_Reign "high"
 as6:NoAttr K c_Under "high"
 ap2:NoAttr K c_Between "high"
 aq6:NoAttr K c_After "high"
 bb0:NoAttr K c_Same "high"
 af4:NoAttr K c_Within "high"
 at6:NoAttr K c_Apart "high"
 aa2:NoAttr K c_Archive "inks"
 xL:NoAttr K c_Archive "letters"
 br4:NoAttr K c_Ink "low"
 ba0:NoAttr K c_Reign "low"
 as9:NoAttr K c_Under "low"
 ag4:NoAttr K c_Between "low"
 av9:NoAttr K c_After "low"
 bv0:NoAttr K c_Same "low"
 ai6:NoAttr K c_Within "low"
 ay9:NoAttr K c_Apart "low"
 xM:NoAttr K c_Archive "present"
 xY:NoAttr K c_Archive "reigns"
 ak6:NoAttr K c_Ink "spoken"
 ay1:NoAttr K c_Reign "spoken"
 af2:NoAttr K c_Under "spoken"
 xX:NoAttr K c_Between "spoken"
 aq2:NoAttr K c_After "spoken"
 ao4:NoAttr K c_Same "spoken"
 zX:NoAttr K c_Within "spoken"
 ac2:NoAttr K c_Apart "spoken"
 bw0:NoAttr K c_Ink "text"
 ah6:NoAttr K c_Reign "text"
 ag6:NoAttr K c_Under "text"
 ai2:NoAttr K c_Between "text"
 aj6:NoAttr K c_After "text"
 at9:NoAttr K c_Same "text"
 ad4:NoAttr K c_Within "text"
 af6:NoAttr K c_Apart "text"
 bw4:eC K mg "_law_cell" zZ
 bf1:eC K mg "_law_names" yB
 ba1:eC K mg "_law_whirl" yK
 bz0:eC K mg "_law_frame" yS
 be8:eC K mg "_law_row" az4
 au9:eC K mg "_law_hidden" wF
 bv4:eC K mg "_law_free" ah1
 bf0:eC K mg "_law_of_one" vW
 be0:eC K mg "_law_of_two" vS
 ar6:eC K mg "_law_sayings" vE
 bs4:eC K mg "is_whole" aa0
 ae2:eC K mg "is_whole_from" rR
 bb1:eC K mg "are_years" yP
 bd0:eC K mg "is_made_of" vX
 bd8:eC K mg "is_name" av4
 bd1:eC K mg "are_names" yE
 bn4:eC K mg "is_table" af1
 bp4:eC K mg "are_inks" aw0
 bu4:eC K mg "is_reign" ai1
 az9:eC K mg "are_reigns" wE
 ao6:eC K mg "_law_archive" vF
 cn2:eC K mg "is_due" ac8
 bb8:eC K mg "are_due" ai5
 bg8:eC K mg "ages_of" ab5
 co2:eC K mg "spaced" ah9
 ax9:eC K mg "ink_saying" wZ
 ai4:eC K mg "reign_called" sY
 bc0:eC K mg "reign_year" wI
 ac4:eC K mg "reign_saying" sR
 al4:eC K mg "under_saying" tF
 zU:eC K mg "between_saying" rA
 aq4:eC K mg "after_saying" sU
 an6:eC K mg "same_saying" vJ
 aj2:eC K mg "within_saying" sA
 an4:eC K mg "apart_saying" sZ
 be1:eC K mg "saying_of" yD
 bo4:eC K mg "_law_heap" an1
 by0:eC K mg "_law_steps" yI
 ab4:eC K mg "saying_steps" tE
 aw9:eC K mg "span_steps" xD
 bk4:eC K mg "steps_of" ay0
 bx0:eC K mg "_law_whole" yG
 bl4:eC K mg "_law_same" aj0
 bj4:rJ K mg "Archive" c_Archive "Archive.__init__" iS
 de2:rJ K mg "Ink" c_Ink "Saying.__init__" cW
 cp2:rJ K mg "Reign" c_Reign "Saying.__init__" cW
 cq2:rJ K mg "Under" c_Under "Saying.__init__" cW
 bt4:rJ K mg "Between" c_Between "Saying.__init__" cW
 cr2:rJ K mg "After" c_After "Saying.__init__" cW
 cf7:rJ K mg "Same" c_Same "Saying.__init__" cW
 bc8:rJ K mg "Within" c_Within "Saying.__init__" cW
 cs2:rJ K mg "Apart" c_Apart "Saying.__init__" cW
 zV:jE K c_Archive "table" "Archive.table" iF
 bg0:jE K c_Ink "about" "Saying.about" cQ
 ap4:jE K c_Reign "about" "Saying.about" cQ
 am4:jE K c_Under "about" "Saying.about" cQ
 zW:jE K c_Between "about" "Saying.about" cQ
 ah4:jE K c_After "about" "Saying.about" cQ
 ap6:jE K c_Same "about" "Saying.about" cQ
 ag2:jE K c_Within "about" "Saying.about" cQ
 ae4:jE K c_Apart "about" "Saying.about" cQ
 am6:jE K c_Ink "bounds" "Saying.bounds" cK
 ak2:jE K c_Reign "bounds" "Saying.bounds" cK
 ab2:jE K c_Under "bounds" "Saying.bounds" cK
 xZ:jE K c_Between "bounds" "Saying.bounds" cK
 az1:jE K c_After "bounds" "Saying.bounds" cK
 ak4:jE K c_Same "bounds" "Saying.bounds" cK
 zT:jE K c_Within "bounds" "Saying.bounds" cK
 ah2:jE K c_Apart "bounds" "Saying.bounds" cK
 bf8:uE w K mg "MAKERS" fQ
 au6:fQ.lookup ("ink":Str)=mg "ink_saying"
 an2:fQ.lookup ("reign":Str)=mg "reign_saying"
 ao2:fQ.lookup ("under":Str)=mg "under_saying"
 yA:fQ.lookup ("between":Str)=mg "between_saying"
 am2:fQ.lookup ("after":Str)=mg "after_saying"
 aj4:fQ.lookup ("same":Str)=mg "same_saying"
 zS:fQ.lookup ("within":Str)=mg "within_saying"
 ad2:fQ.lookup ("apart":Str)=mg "apart_saying"
section
theorem l1{α:Type}:∀{us:List α},us.length=1->∃a,us=[a]
 |[a],_=>⟨a,rfl⟩
theorem l2{α:Type}:∀{us:List α},us.length=2->∃a b,us=[a,b]
 |[a,b],_=>⟨a,b,rfl⟩
theorem l3{α:Type}:∀{us:List α},us.length=3->∃a b c,us=[a,b,c]
 |[a,b,c],_=>⟨a,b,c,rfl⟩
theorem l4{α:Type}:∀{us:List α},us.length=4->∃a b c d,us=[a,b,c,d]
 |[a,b,c,d],_=>⟨a,b,c,d,rfl⟩
theorem l5{α:Type}:∀{us:List α},us.length=5->∃a b c d e,us=[a,b,c,d,e]
 |[a,b,c,d,e],_=>⟨a,b,c,d,e,rfl⟩
theorem l6{α:Type}:∀{us:List α},us.length=6->∃a b c d e f,us=[a,b,c,d,e,f]
 |[a,b,c,d,e,f],_=>⟨a,b,c,d,e,f,rfl⟩
variable {X : Cx}
theorem px(K:PySem.W.Frag){a b:Expr}{ta tb:TE}{pos:Pos}(ha:PE X a ta)(hb:PE X b tb)(hs:br1 b:=by exact λ_ _=>rfl)(hK:X.K=K:=by rfl):PE X (.Subscript a b pos) (tOp (rIx K) ta tb):=dh3 (da6 K hK) ha hb hs
theorem pz(i:Nat){x:Str}{e:Expr}{te:TE}{pos pos':Pos}{q:List Str}{c:Scope}(S:aW X.N q c)(he:PE X e te)(hi:X.N[i]?=some x:=by rfl)(hx:Loc X.env.scope x:=by first|exact .inl rfl|exact .inr rfl)(hs:swapsWith e (some (.Name x pos')) pos.line X.env=pure false:=by rfl)(hf:X.fn x=true\/X.env.scope.names.lookup x=some .local:=by first|exact .inl rfl|exact .inr rfl|assumption):PS X (.Assign [.Name x pos'] e pos) (bf4 te (am0 i)):=cz7 S.nd hi hx he hs hf
theorem pn(i:Nat){x:Str}{pos:Pos}{q:List Str}{c:Scope}(S:aW X.N q c)(hi:X.N[i]?=some x:=by rfl)(hx:Loc X.env.scope x:=by first|exact .inl rfl|exact .inr rfl)(hf:X.fn x=true\/X.env.scope.names.lookup x=some .local:=by first|exact .inl rfl|exact .inr rfl|assumption):PG X (.Name x pos) (am0 i):=ca7 S.nd hi hx hf
theorem pf{k n:Nat}{x:Str}{ps:List Str}{sp:Sp}{p pos:Pos}{e:Expr}{es:List Expr}{t:TA}(d:dS X.prog X.w X.K X.mg X.base k x ps sp)(hr:Room n X.A)(ha:PA X (e::es) t)(hk:k<=n:=by decide)(hg:Gl X x:=by rfl)
 (hdb:(x==("__debug__":Str))=false:=by decide)(he:starEach (e::es) X.env=(false,eval e X.env)::starEach es X.env:=by rfl)(hpl:(backTo pos (starEach es X.env)).any (·.1)=false:=by rfl):PE X (.Call (.Name x p) (e::es) [] pos) (co1 sp t):=dv1 d (hr.mono hk) ha hg hdb he hpl
theorem aM{e:Expr}{te:TE}(ha:PE X e te)(hs:starEach [e] X.env=[(false,eval e X.env)]:=by rfl):PA X [e] (xR te yZ):=aE ha pH hs
theorem pc{a b:Expr}{ta tb:TE}{pos:Pos}{op:CmpOp}{r:R2}(ho:OpR X (compareOp op) r)(ha:PE X a ta)(hb:PE X b tb)(h:op≠ .In:=by decide)(h2:op≠ .NotIn:=by decide):PT X (.Compare a [op] [b] pos) (ax6 (tOp r ta tb)):=ch4 ho ha hb (ac1 _ h h2)
theorem oe(K:PySem.W.Frag){k:Nat}(hr:Room k X.A)(hK:X.K=K:=by rfl):OpR X (compareOp .Eq) (bb3 K dU):=ck8 K hr (by decide) hK
theorem pI(K:PySem.W.Frag){o e:Expr}{es:List Expr}{to:TE}{t:TA}{apos cpos:Pos}(ho:PE X o to)(ha:PA X (e::es) t)(hbase:attributeBase o "append" X.env (eval o X.env)=eval o X.env:=by rfl)
 (hfew:((backTo cpos (starEach (e::es) X.env)).all (λx=>!x.1)&&(backToKw cpos (keywordEach [] X.env)).all (λx=>x.1.isSome)
  &&decide ((e::es).length+([]:List Keyword).length+(if([]:List Keyword).isEmpty then 0 else 1)<30))=true:=by rfl)
 (hline:(apos.endLine==cpos.line)=true:=by rfl)(hs:starEach (e::es) X.env=(false,eval e X.env)::starEach es X.env:=by rfl)(hplain:(backTo cpos (starEach es X.env)).any (·.1)=false:=by rfl)(hK:X.K=K:=by rfl):
 PE X (.Call (.Attribute o "append" apos) (e::es) [] cpos) (tBM K "list" an3 to t):=tM K PySem.F.plainAttrs_list PySem.F.slot_list_append PySem.F.type_list_append bc6 ho ha hbase hfew hline hs hplain hK
theorem pm(ks:List Nat){tg iter elt:Expr}{ifs:List Expr}{scope:Scope}{pos:Pos}{wi:TI}{g:TG}{tc:TT}{te:TE}(hit:PI X tg iter wi)
 (hg:∀cl C s₀ H₀ ex,PG (kS X scope cl C s₀ H₀ ex) tg g)(hi:∀cl C s₀ H₀ ex,PIf (kS X scope cl C s₀ H₀ ex) ifs tc)(he:∀cl C s₀ H₀ ex,PE (kS X scope cl C s₀ H₀ ex) elt te)(S:CScope X ks scope:=by exact⟨rfl,by decide+kernel,by decide+kernel,by rfl,by rfl⟩)(hc:X.calm=true:=by rfl)
 (hs:∀x,foldedSetIterable iter X.env x=pure x:=by intro _;rfl):PE X (.ListComp elt [⟨tg,iter,ifs,0⟩] scope pos) (bb4 ks wi g tc te):=cm4 S hc hit hg hi he hs
theorem pk(i:Nat){y:Str}{py spos:Pos}{q:List Str}{c:Scope}(F:aW X.N q c)(ks:List Nat){tg iter elt:Expr}{ifs:List Expr}{scope:Scope}{pos:Pos}{wi:TI}{g:TG}{tc:TT}{te:TE}(hit:PI X tg iter wi)
 (hg:∀cl C s₀ H₀ ex,PG (kS X scope cl C s₀ H₀ ex) tg g)(hi:∀cl C s₀ H₀ ex,PIf (kS X scope cl C s₀ H₀ ex) ifs tc)(he:∀cl C s₀ H₀ ex,PE (kS X scope cl C s₀ H₀ ex) elt te)(hi':X.N[i]?=some y:=by rfl)(hy:Loc X.env.scope y:=by first|exact .inl rfl|exact .inr rfl)(S:CScope X ks scope:=by exact⟨rfl,by decide+kernel,by decide+kernel,by rfl,by rfl⟩)(hc:X.calm=true:=by rfl)
 (hsw:swapsWith (.ListComp elt [⟨tg,iter,ifs,0⟩] scope pos) (some (.Name y py)) spos.line X.env=pure true:=by rfl)
 (hs:∀x,foldedSetIterable iter X.env x=pure x:=by intro _;rfl)(hf:X.fn y=true\/X.env.scope.names.lookup y=some .local:=by first|exact .inl rfl|exact .inr rfl|assumption):PS X (.Assign [.Name y py] (.ListComp elt [⟨tg,iter,ifs,0⟩] scope pos) spos) (zP i ks wi g tc te):=br3 F.nd hi' hy S hc hit hg hi he hsw hs hf
end
section
local macro_rules | `(tactic| walk_at "u") => `(tactic| (intro _ _ _ _ _ _ us hl; first | (obtain ⟨_, e⟩ := l1 hl; subst e; exact rfl) | (obtain ⟨_, _, e⟩ := l2 hl; subst e; exact rfl) | (obtain ⟨_, _, _, e⟩ := l3 hl; subst e; exact rfl) | (obtain ⟨_, _, _, _, e⟩ := l4 hl; subst e; exact rfl) | (obtain ⟨_, _, _, _, _, e⟩ := l5 hl; subst e; exact rfl) | (obtain ⟨_, _, _, _, _, _, e⟩ := l6 hl; subst e; exact rfl)))
local macro_rules | `(tactic| walk_at "s") => `(tactic| exact ⟨rfl, rfl, rfl, by decide +kernel, rfl, by decide +kernel, by decide +kernel⟩)
theorem bq0:aW ["_law_script","_law_at"] ["_law_script","_law_at"] (aN zZ):=by walk_at "s"
theorem wO:aW ["_law_cell_here","_law_some"] ["_law_cell_here"] (aN yB):=by walk_at "s"
theorem kK:aW ["_law_number","_law_k","_law_upper","_law_lower","_law_found"] ["_law_number","_law_k"] (aN yK):=by walk_at "s"
theorem cN:aW ["_law_script","_law_most","_law_cell_here","_law_span","_law_first","_law_names_here","_law_inks","_law_k","_law_dark","_law_table","_law_j","_law_begin","_law_reigns"] ["_law_script","_law_most"] (aN yS):=by walk_at "s"
theorem nP:aW ["_law_cell_here","_law_many","_law_rest","_law_found","_law_k"] ["_law_cell_here","_law_many"] (aN az4):=by walk_at "s"
theorem vD:aW ["_law_cell_here","_law_frame_here","_law_x"] ["_law_cell_here","_law_frame_here"] (aN wF):=by walk_at "s"
theorem jW:aW ["_law_xs","_law_frame_here","_law_one","_law_other","_law_names_here","_law_low","_law_high"] ["_law_xs","_law_frame_here","_law_one","_law_other"] (aN ah1):=by walk_at "s"
theorem cF:aW ["_law_number","_law_frame_here","_law_letter","_law_year","_law_name","_law_rest","_law_ink","_law_table","_law_error","_law_dark","_law_ages","_law_age","_law_at","_law_reign","_law_begin","_law_length","_law_low","_law_high"] ["_law_number","_law_frame_here","_law_letter","_law_year"] (aN vW):=by walk_at "s"
theorem gI:aW ["_law_number","_law_frame_here","_law_letters","_law_gap","_law_names_here","_law_rest","_law_many","_law_low","_law_high","_law_letter"] ["_law_number","_law_frame_here","_law_letters","_law_gap"] (aN vS):=by walk_at "s"
theorem cX:aW ["_law_cells","_law_frame_here","_law_false","_law_hidden_here","_law_many","_law_span","_law_told","_law_cell_here","_law_xs","_law_one","_law_years","_law_other","_law_k"] ["_law_cells","_law_frame_here","_law_false","_law_hidden_here"] (aN vE):=by walk_at "s"
theorem bl0:aW ["some"] ["some"] (aN aa0):=by walk_at "s"
theorem zK:aW ["some","low","high"] ["some","low","high"] (aN rR):=by walk_at "s"
theorem at7:aW ["first","present"] ["first","present"] (aN yP):=by walk_at "s"
theorem vI:aW ["word","signs","most","sign"] ["word","signs","most"] (aN vX):=by walk_at "s"
theorem bv3:aW ["word"] ["word"] (aN av4):=by walk_at "s"
theorem wB:aW ["names","least","most","name"] ["names","least","most"] (aN yE):=by walk_at "s"
theorem sE:aW ["some","dark","age"] ["some"] (aN af1):=by walk_at "s"
theorem lX:aW ["inks","name","table"] ["inks"] (aN aw0):=by walk_at "s"
theorem bn0:aW ["begin","length"] ["begin","length"] (aN ai1):=by walk_at "s"
theorem gF:aW ["reigns","name","begin","length"] ["reigns"] (aN wE):=by walk_at "s"
theorem gC:aW ["self","first","present","letters","inks","reigns","name","table","begin","length"] ["self","first","present","letters","inks","reigns"] (aN iS):=by walk_at "s"
theorem kX:aW ["_law_frame_here","_law_inks","_law_name","_law_table"] ["_law_frame_here"] (aN vF):=by walk_at "s"
theorem xG:aW ["archive","due","part","ink","reign"] ["archive","due","part"] (aN ac8):=by walk_at "s"
theorem uQ:aW ["archive","word","parts","due","part"] ["archive","word","parts"] (aN ai5):=by walk_at "s"
theorem mI:aW ["self","name","other","table"] ["self","name"] (aN iF):=by walk_at "s"
theorem nF:aW ["table","dark","error","greatest","last","ages","most","age"] ["table","dark","error","greatest"] (aN ab5):=by walk_at "s"
theorem am5:aW ["parts","part"] ["parts"] (aN ah9):=by walk_at "s"
theorem cP:aW ["self","archive","word","parts","low","high","names","part","due","name"] ["self","archive","word","parts","low","high"] (aN cW):=by walk_at "s"
theorem vB:aW ["archive","parts","ages"] ["archive","parts"] (aN wZ):=by walk_at "s"
theorem rQ:aW ["archive","name","reign"] ["archive","name"] (aN sY):=by walk_at "s"
theorem at5:aW ["begin","length","k"] ["begin","length","k"] (aN wI):=by walk_at "s"
theorem mW:aW ["archive","parts","reign","year"] ["archive","parts"] (aN sR):=by walk_at "s"
theorem rS:aW ["archive","parts","reign"] ["archive","parts"] (aN tF):=by walk_at "s"
theorem xW:aW ["archive","parts"] ["archive","parts"] (aN rA):=by walk_at "s"
theorem ab1:aW ["archive","parts"] ["archive","parts"] (aN sU):=by walk_at "s"
theorem al3:aW ["archive","parts"] ["archive","parts"] (aN vJ):=by walk_at "s"
theorem zJ:aW ["archive","parts"] ["archive","parts"] (aN sA):=by walk_at "s"
theorem az0:aW ["archive","parts"] ["archive","parts"] (aN sZ):=by walk_at "s"
theorem ab7:aW ["archive","word","parts"] ["archive","word","parts"] (aN yD):=by walk_at "s"
theorem lT:aW ["_law_archive_here","_law_told","_law_word","_law_parts","_law_letters","_law_bounds"] ["_law_archive_here","_law_told"] (aN an1):=by walk_at "s"
theorem gA:aW ["_law_frame_here","_law_told","_law_found","_law_k","_law_letters","_law_low","_law_high","_law_other","_law_letter"] ["_law_frame_here","_law_told"] (aN yI):=by walk_at "s"
theorem eH:aW ["self"] ["self"] (aN cQ):=by walk_at "s"
theorem dW:aW ["self"] ["self"] (aN cK):=by walk_at "s"
theorem iA:aW ["saying","number","letters","bounds","other","steps"] ["saying","number"] (aN tE):=by walk_at "s"
theorem aw5:aW ["archive","letter"] ["archive","letter"] (aN xD):=by walk_at "s"
theorem lW:aW ["archive","sayings","steps","number","saying","letter"] ["archive","sayings"] (aN ay0):=by walk_at "s"
theorem ao8:aW ["_law_found"] ["_law_found"] (aN yG):=by walk_at "s"
theorem pC:aW ["_law_found","_law_due","_law_one","_law_step","_law_part"] ["_law_found","_law_due"] (aN aj0):=by walk_at "s"
theorem lY:aW ["_law_script","_law_frame_here","_law_hidden_here","_law_told","_law_archive_here","_law_sayings_here","_law_handed","_law_due","_law_found","_law_alone"] ["_law_script"] (aN qB):=by walk_at "s"
variable {P : Program} {w : World} {K : PySem.W.Frag} {cn : Str → Option Addr} {mg : Str → Option Value} {base : Heap} {c_Archive c_Ink c_Reign c_Under c_Between c_After c_Same c_Within c_Apart : Addr} {mU qS fQ : List (Str × Value)} (T : Txt w K cn mg c_Archive c_Ink c_Reign c_Under c_Between c_After c_Same c_Within c_Apart mU qS fQ)
include T
theorem ch0:iE K cn ["Archive"] "first":=aY T.jN T.lL T.zY (gM)
theorem ce5:iE K cn ["Ink","Reign","Under","Between","After","Same","Within","Apart"] "high":=aY T.rO T.tR T.bc1 (aY T.mN T.oO T.al6 (aY T.mL T.oJ T.as6 (aY T.jM T.lM T.ap2 (aY T.mK T.oM T.aq6 (aY T.oK T.qT T.bb0 (aY T.kW T.mV T.af4 (aY T.mM T.oN T.at6 (gM))))))))
theorem ci4:iE K cn ["Archive"] "inks":=aY T.jN T.lL T.aa2 (gM)
theorem bp2:iE K cn ["Archive"] "letters":=aY T.jN T.lL T.xL (gM)
theorem db2:iE K cn ["Ink","Reign","Under","Between","After","Same","Within","Apart"] "low":=aY T.rO T.tR T.br4 (aY T.mN T.oO T.ba0 (aY T.mL T.oJ T.as9 (aY T.jM T.lM T.ag4 (aY T.mK T.oM T.av9 (aY T.oK T.qT T.bv0 (aY T.kW T.mV T.ai6 (aY T.mM T.oN T.ay9 (gM))))))))
theorem bc3:iE K cn ["Archive"] "present":=aY T.jN T.lL T.xM (gM)
theorem bs7:iE K cn ["Archive"] "reigns":=aY T.jN T.lL T.xY (gM)
theorem bi6:iE K cn ["Ink","Reign","Under","Between","After","Same","Within","Apart"] "spoken":=aY T.rO T.tR T.ak6 (aY T.mN T.oO T.ay1 (aY T.mL T.oJ T.af2 (aY T.jM T.lM T.xX (aY T.mK T.oM T.aq2 (aY T.oK T.qT T.ao4 (aY T.kW T.mV T.zX (aY T.mM T.oN T.ac2 (gM))))))))
theorem cd4:iE K cn ["Ink","Reign","Under","Between","After","Same","Within","Apart"] "text":=aY T.rO T.tR T.bw0 (aY T.mN T.oO T.ah6 (aY T.mL T.oJ T.ag6 (aY T.jM T.lM T.ai2 (aY T.mK T.oM T.aj6 (aY T.oK T.qT T.at9 (aY T.kW T.mV T.ad4 (aY T.mM T.oN T.af6 (gM))))))))
theorem cp0:yT K cn 2 tm_table [(c_Archive,bJ K cn 2 eE)]:=dG T.jN (zR)
theorem bk8:yT K cn 1 tm_about [(c_Ink,bJ K cn 1 aQ),(c_Reign,bJ K cn 1 aQ),(c_Under,bJ K cn 1 aQ),(c_Between,bJ K cn 1 aQ),(c_After,bJ K cn 1 aQ),(c_Same,bJ K cn 1 aQ),(c_Within,bJ K cn 1 aQ),(c_Apart,bJ K cn 1 aQ)]:=dG T.rO (dG T.mN (dG T.mL (dG T.jM (dG T.mK (dG T.oK (dG T.kW (dG T.mM (zR))))))))
theorem bq7:yT K cn 1 tm_bounds [(c_Ink,bJ K cn 1 aP),(c_Reign,bJ K cn 1 aP),(c_Under,bJ K cn 1 aP),(c_Between,bJ K cn 1 aP),(c_After,bJ K cn 1 aP),(c_Same,bJ K cn 1 aP),(c_Within,bJ K cn 1 aP),(c_Apart,bJ K cn 1 aP)]:=dG T.rO (dG T.mN (dG T.mL (dG T.jM (dG T.mK (dG T.oK (dG T.kW (dG T.mM (zR))))))))
local macro_rules | `(tactic| walk_at "b") => `(tactic| first | exact .inl rfl | exact .inr rfl)
local macro_rules | `(tactic| walk_at "rr") => `(tactic| first | exact do2 | exact di3 | exact da4 | exact cj9 | exact dp6 | exact dj6 | exact do4 | exact dm6 | exact dd4 | exact cx4 | exact da7 | exact da3 | exact dr6 | exact dl6 | exact dk6)
local macro_rules | `(tactic| walk_at "rc") => `(tactic| first | exact dm5 | exact cb9 | exact dv3 | exact dp4 | exact du5 | exact cs7 | exact dk4 | exact by9 | exact ca1 | exact co7 | exact dc5)
local macro_rules | `(tactic| walk_at "rf") => `(tactic| first | exact ch0 ‹_› | exact ce5 ‹_› | exact ci4 ‹_› | exact bp2 ‹_› | exact db2 ‹_› | exact bc3 ‹_› | exact bs7 ‹_› | exact bi6 ‹_› | exact cd4 ‹_›)
local macro_rules | `(tactic| walk_at "r") => `(tactic| with_reducible first
 | exact cd9 _
 | exact do0
 | exact cr5
 | (refine dj4 ?_ ?_ <;> walk_at "r")
 | (refine ds1 ?_ ?_; walk_at "rf"; walk_at "r")
 | (refine RE.rb (mv := []) ?_; walk_at "r")
 | (refine cj2 ?_ ?_ <;> walk_at "r")
 | (refine dr4 ?_ ?_ ?_; walk_at "rr"; walk_at "r"; walk_at "r")
 | (apply du3; walk_at "r"; walk_at "r"; with_unfolding_all exact rfl; with_unfolding_all exact rfl)
 | exact ct9
 | exact dg0
 | (refine RB.chk ?_; walk_at "r")
 | (refine cg8 ?_ ?_ <;> walk_at "r")
 | (refine bx3 ?_ ?_ ?_ ?_ ?_ ?_; walk_at "r"; walk_at "r"; walk_at "r"; walk_at "r"; with_unfolding_all exact rfl; with_unfolding_all exact rfl)
 | (apply bm6 <;> walk_at "r")
 | (refine bf2 _ ?_; with_unfolding_all exact rfl)
 | (refine cv8 ?_; walk_at "r")
 | (refine dk3 ?_ ?_; walk_at "rc"; walk_at "r")
 | (refine cx8 ?_; walk_at "r")
 | (refine db4 ?_ ?_ ?_ <;> walk_at "r")
 | exact cw5
 | exact cc7
 | exact cx9
 | exact dx0
 | exact dg4
 | exact df3
 | (refine bt1 ?_; walk_at "r")
 | (refine dm0 ?_; walk_at "r")
 | (refine cb8 ?_; walk_at "r")
 | (refine ch9 ?_ ?_ <;> walk_at "r")
 | (refine dy2 ?_ ?_ <;> walk_at "r")
 | (apply cq7; walk_at "r")
 | (apply cf8; walk_at "r")
 | exact dr2 _
 | (apply dv0; walk_at "r")
 | exact cg4
 | (apply dl1; walk_at "r"; walk_at "r"; with_unfolding_all exact rfl)
 | (apply cd8 <;> walk_at "r")
 | (refine cd7 ?_; walk_at "r")
 | (refine dz6 ?_; walk_at "r")
 | (refine dd7 ?_; walk_at "r")
 | (refine cj6 ?_; walk_at "r")
 | (refine ch5 ?_; walk_at "r")
 | (refine dt1 ?_; walk_at "r")
 | exact dq0 _
 | (refine co8 ?_ ?_ ?_; walk_at "r"; walk_at "r"; with_unfolding_all exact rfl)
 | (refine dr0 ?_ ?_ ?_ ?_; (first | exact dn4 | exact dv4 | exact dq2); walk_at "r"; walk_at "r"; with_unfolding_all exact rfl)
 | (refine cp8 ?_ ?_ ?_; walk_at "rf"; walk_at "r"; walk_at "r")
 | (refine bh1 ?_ ?_ ?_ ?_ ?_; walk_at "r"; walk_at "r"; walk_at "r"; walk_at "r"; with_unfolding_all exact rfl)
 | (refine dp5 dv6 ?_ ?_ ?_ <;> walk_at "r")
 | exact cy5
 | (refine cc5 ?_; walk_at "r")
 | (refine db5 dt4 ?_; walk_at "r")
 | (refine bp8 ?_ ?_ ?_ ?_ ?_; walk_at "rr"; walk_at "rr"; walk_at "r"; walk_at "r"; walk_at "r")
 | (refine cy4 ?_ ?_ <;> walk_at "r")
 | (refine co6 ?_; walk_at "r")
 | (refine dq4 ?_ ?_ ?_ <;> walk_at "r")
 | (refine dn0 ?_ ?_ <;> walk_at "r")
 | (refine RE.frz ?_; walk_at "r")
 | (refine RE.frz1 ?_; walk_at "r")
 | (refine ch2 ?_ ?_ ?_; (first | exact bk8 ‹_› | exact bq7 ‹_› | exact cp0 ‹_›); walk_at "r"; walk_at "r")
 | (refine co5 ?_ ?_; (first | exact Txt.mK ‹_› | exact Txt.mM ‹_› | exact Txt.jN ‹_› | exact Txt.jM ‹_› | exact Txt.rO ‹_› | exact Txt.mN ‹_› | exact Txt.oK ‹_› | exact Txt.mL ‹_› | exact Txt.kW ‹_›); walk_at "r")
 | (refine cl6 ?_ ?_; (first | exact Txt.g_NUMBERS ‹_› | exact Txt.g_PARTS ‹_›); walk_at "r")
 | (refine ck6 ?_ ?_; (first | exact Txt.g_NUMBERS ‹_› | exact Txt.g_PARTS ‹_›); walk_at "r")
 | (refine cw2 by6 cu6 ?_ ?_ <;> walk_at "r")
 | (refine cw2 bt5 cj7 ?_ ?_ <;> walk_at "r")
 | (with_unfolding_all refine bt1 ?_; walk_at "r")
 | (refine bh9 ?_ ?_ <;> walk_at "r"))
theorem qI:dS P w K mg base 1 "_law_cell" ["_law_script","_law_at"] (bJ K cn 2 eM):=by
 refine bD (d:=qE) T.bw4 bq0 (by walk_at "u") (λf cdv A outer s H E hr=>⟨_,(aI (bV (pc tT (pv 1) (aS (bT K) rfl T.dR cY (aM (pv 0)))) (aL (aT (px K (pv 0) (pv 1)))) bI)
 (aL (aT aF))),by unfold qE;walk_at "r"⟩) rfl (λ_=>rfl)
theorem bi0:dS P w K mg base 1 "_law_names" ["_law_cell_here"] (bJ K cn 1 pD):=by
 refine bD (d:=oZ) T.bf1 wO (by walk_at "u") (λf cdv A outer s H E hr=>⟨_,(aI (pz 1 wO (dF (aE bO (aE bO (aE bO (aE bO (aE bO (aE bO (aE bO (aM bO))))))))))
 (aL (aT (aK (bC K) (kQ (wK K) (pv 1) (iY (aK bH (pv 0) aF)) nZ) (kQ (wK K) (pv 1) nZ (iY (aK bH (pv 0) aF))))))),by unfold oZ;walk_at "r"⟩) rfl (λ_=>rfl)
theorem eJ:dS P w K mg base 1 "_law_whirl" ["_law_number","_law_k"] (bJ K cn 2 dD):=by
 refine bD (d:=pA) T.ba1 kK (by walk_at "u") (λf cdv A outer s H E hr=>⟨_,(aI (pz 0 kK (aK (bC K) (aK (bC K) (aK bH (pv 0) aF) (aK iR aF (pv 1))) aF))
 (aI (ax8 (aS (ag7 K) rfl T.cm2 bv5 (aE (aK bH (aK iR (pv 0) aF) aF) (aM aF))) (eQ K 2 rfl (bG (pn 2 kK) (bG (pn 3 kK) eP))))
 (aI (pz 4 kK (aK (bC K) (aK (bC K) (aK (bC K) (aK iR (pv 2) (pv 3)) (aK iR aF (pv 2))) (aK iR aF (pv 3))) (pv 1)))
 (aL (aT (aK bH (aK iR (pv 4) (aK (bC K) (aK bH (pv 4) aF) aF)) aF)))))),by unfold pA;walk_at "r"⟩) rfl (λ_=>rfl)
theorem bm0:dS P w K mg base 2 "_law_frame" ["_law_script","_law_most"] (bJ K cn 2 lV):=by
 refine bD (d:=oS) T.bz0 cN (by walk_at "u") (λf cdv A outer s H E hr=>⟨_,(aI (pz 2 cN (aK bH (pf (qI T:) hr (aE (pv 0) (aM aF))) (aK ai7 aF aF)))
 (aI (pz 3 cN (px K (dF (aE aF (aE aF (aE aF (aE aF (aE aF (aE aF (aE aF (aM aF))))))))) (aK bH (pv 2) aF)))
 (aI (pz 4 cN (px K (dF (aE (oV lU aF) (aE (aK bZ aF (pv 3)) (aE (oV lU aF) (aM aF))))) (aK bH (aK eS (pv 2) aF) aF)))
 (aI (pz 5 cN (kQ (wK K) (pf (bi0 T:) hr (aM (aK eS (pv 2) aF))) nZ (iY (aK (bC K) aF (aK bH (aK eS (pv 2) aF) (pv 1))))))
 (aI (pz 6 cN (dF pH))
 (aI (iD PassesOwn.never rfl (gQ rfl T.iZ (aM (aK (bC K) aF (aK bH (pf (eJ T:) hr (aE (pv 2) (aM aF))) aF)))) (pn 7 cN) (aI (pz 8 cN (aK (bC K) aF (aK bH (aK eS (pv 2) aF) aF)))
 (aI (pz 9 cN (dF (aM (pv 8))))
 (aI (iD PassesOwn.never rfl (gQ rfl T.iZ (aM (aK bH (pf (eJ T:) hr (aE (pv 2) (aM (pv 7)))) (px K (dF (aE aF (aM aF))) (aK eS (aK bH (aK eS (pv 2) aF) aF) aF))))) (pn 10 cN) (aI (pz 8 cN (aS (pP K) rfl T.ar2 wN (aE aF (aM (aK bZ (pv 8) (aK bH (pf (eJ T:) hr (aE (pv 2) (aM (aK (bC K) (aK iR aF (pv 10)) (pv 7))))) aF))))))
 (aL (dM (pI K (pv 9) (aM (pv 8)))))))
 (aL (dM (pI K (pv 6) (aM (bN (aE (px K (dF (aE bO (aE bO (aE bO (aE bO (aE bO (aM bO))))))) (pv 7)) (aM (pv 9))))))))))))
 (aI (pz 11 cN (aK (bC K) (aK bZ (pv 4) aF) (aK bH (pf (eJ T:) hr (aE (pv 2) (aM aF))) (aK (bC K) (pv 3) aF))))
 (aI (pz 12 cN (dF (aE (bN (aE bO (aE (pv 11) (aM (aK (bC K) aF (aK bH (pf (eJ T:) hr (aE (pv 2) (aM aF))) aF)))))) (aM (bN (aE bO (aE (aK (bC K) (pv 11) aF) (aM (aK (bC K) aF (aK bH (pf (eJ T:) hr (aE (pv 2) (aM aF))) aF))))))))))
 (aI (iD PassesOwn.never rfl (gQ rfl T.iZ (aM (aK bH (pf (eJ T:) hr (aE (pv 2) (aM aF))) aF))) (pn 7 cN) (aI (pz 11 cN (aK bZ (aK (bC K) (pv 11) (aK bH (pf (eJ T:) hr (aE (pv 2) (aM (aK (bC K) aF (pv 7))))) aF)) aF))
 (aL (dM (tM K PySem.F.plainAttrs_list PySem.F.slot_list_insert PySem.F.type_list_insert bp7 (pv 12) (aE aF (aM (bN (aE (px K (dF (aE bO (aE bO (aE bO (aE bO (aE bO (aM bO))))))) (pv 7)) (aE (pv 11) (aM (aK (bC K) aF (aK bH (pf (eJ T:) hr (aE (pv 2) (aM (aK (bC K) aF (pv 7))))) aF)))))))))))))
 (aL (aT (bN (aE (pv 4) (aE (aK (bC K) (pv 4) (pv 3)) (aE (pv 5) (aE (pv 6) (aM (pv 12)))))))))))))))))),by unfold oS;walk_at "r"⟩) rfl (λ_=>rfl)
theorem ap5:dS P w K mg base 2 "_law_row" ["_law_cell_here","_law_many"] (bJ K cn 2 mT):=by
 refine bD (d:=rV) T.be8 nP (by walk_at "u") (λf cdv A outer s H E hr=>⟨_,(aI (pz 2 nP (aK bH (aS (wR K) rfl T.bm4 ad9 (aM (pv 0))) (aK ai7 aF aF)))
 (aI (pz 3 nP (dF pH))
 (aI (iD PassesOwn.never rfl (gQ rfl T.iZ (aM (pv 1))) (pn 4 nP) (aL (bV (PW.pt (rZ (pc tT (pv 0) aF) (qV (pc cn3 (pv 0) (aK ai7 aF aF))))) (aI (dM (pI K (pv 3) (aM (aK bH (pv 2) aF))))
 (aL (pz 2 nP (aK eS (pv 2) aF)))) (aL (dM (pI K (pv 3) (aM (pf (eJ T:) hr (aE (aK (bC K) (pf (eJ T:) hr (aE (pv 0) (aM (pv 4)))) (pv 0)) (aM (pv 4)))))))))))
 (aL (aT (pv 3)))))),by unfold rV;walk_at "r"⟩) rfl (λ_=>rfl)
theorem ar7:dS P w K mg base 3 "_law_hidden" ["_law_cell_here","_law_frame_here"] (bJ K cn 2 kT):=by
 refine bD (d:=nB) T.au9 vD (by walk_at "u") (λf cdv A outer s H E hr=>⟨_,(aL (aT (pm [2] (gX K (pf (ap5 T:) hr (aE (pv 0) (aM (aS (bT K) rfl T.dR cY (aM (px K (pv 1) aF))))))) (λ_ _ _ _ _=>(pn 2 vD)) (λ_ _ _ _ _=>dN) (λ_ _ _ _ _=>(aK (bC K) (px K (pv 1) aF) (aK bH (pv 2) (aK (bC K) (aK bZ (px K (pv 1) aF) (px K (pv 1) aF)) aF))))))),by unfold nB;walk_at "r"⟩) rfl (λ_=>rfl)
theorem bo3:dS P w K mg base 1 "_law_free" ["_law_xs","_law_frame_here","_law_one","_law_other"] (bJ K cn 4 qK):=by
 refine bD (d:=pZ) T.bv4 jW (by walk_at "u") (λf cdv A outer s H E hr=>⟨_,(aI (pz 4 jW (dF (aE (px K (px K (pv 1) aF) (pv 2)) (aM (px K (px K (pv 1) aF) (pv 3))))))
 (aI (bV (PW.pt (rZ (pc (oe K hr) (pv 2) (pv 3)) (qV (pc (oe K hr) (aK bH (px K (pv 0) aF) aF) aF)))) (aI (pz 5 jW (aK (bC K) (aK bZ (px K (pv 1) aF) aF) (aK bH (px K (pv 0) aF) (aK (bC K) (aK bZ (px K (pv 1) aF) (px K (pv 1) aF)) aF))))
 (aI (pz 6 jW (aK (bC K) (pv 5) (aK bH (px K (pv 0) aF) aF)))
 (aL (aT (bN (aE bO (aE (aK (bC K) (kQ (wK K) (pv 4) nZ (iY aF)) (dF (aE (pv 5) (aM (pv 6))))) (aE (bN (aM (pv 2))) (aM (bN (aE (pv 5) (aM (pv 6))))))))))))) bI)
 (aI (pz 5 jW (aK bZ (aK bH (px K (pv 0) aF) aF) aF))
 (aI (pz 6 jW (aS (kP K) rfl T.uZ qZ (aE aF (aM (aK (bC K) (pv 5) (aK bH (px K (pv 0) aF) aF))))))
 (aL (aT (bN (aE bO (aE (aK (bC K) (pv 4) (dF (aE (pv 5) (aM (pv 6))))) (aE (bN (aE (pv 2) (aM (pv 3)))) (aM (bN (aE (pv 5) (aM (pv 6))))))))))))))),by unfold pZ;walk_at "r"⟩) rfl (λ_=>rfl)
theorem al9:dS P w K mg base 1 "_law_of_one" ["_law_number","_law_frame_here","_law_letter","_law_year"] (bJ K cn 4 nT):=by
 refine bD (d:=nW) T.bf0 cF (by walk_at "u") (λf cdv A outer s H E hr=>⟨_,(aI (pz 4 cF (px K (px K (pv 1) aF) (pv 2)))
 (aI (pz 5 cF (aK eS (pv 0) aF))
 (aI (bV (pc (oe K hr) (aK bH (pv 0) aF) aF) (aI (ax8 (px K (px K (pv 1) aF) (aK bH (pv 5) (aS (bT K) rfl T.dR cY (aM (px K (pv 1) aF))))) (eQ K 2 rfl (bG (pn 6 cF) (bG (pn 7 cF) eP))))
 (aI (pz 8 cF (aK bH (aK eS (pv 5) aF) aF))
 (aI (pz 9 cF (px K (pv 7) (aS (kP K) rfl T.uZ qZ (aE (aK bZ (px K (pv 1) aF) (pv 3)) (aM (aK bZ (aS (bT K) rfl T.dR cY (aM (pv 7))) aF))))))
 (aI (pz 9 cF (aS (pP K) rfl T.ar2 wN (aE aF (aM (aK bZ (aK (bC K) (pv 9) (aK bH (aK eS (pv 5) aF) (aK (bC K) (aK iR aF (pv 8)) aF))) (pv 8))))))
 (aI (pz 10 cF (dF pH))
 (aI (iD PassesOwn.never rfl (gQ rfl T.iZ (aM (aK (bC K) (aK bZ (px K (pv 1) aF) (px K (pv 1) aF)) aF))) (pn 11 cF) (aL (bV (pc kE (aS (wR K) rfl T.bm4 ad9 (aM (aK bZ (px K (pv 7) (aS (kP K) rfl T.uZ qZ (aE (pv 11) (aM (aK bZ (aS (bT K) rfl T.dR cY (aM (pv 7))) aF))))) (pv 9)))) (pv 8)) (aL (dM (pI K (pv 10) (aM (pv 11))))) bI)))
 (aL (aT (bN (aE bO (aE (dF (aE (pv 4) (aE (pv 6) (aE (pv 9) (aM (pv 8)))))) (aE (bN (aM (pv 2))) (aM (bN (aE (aK bZ (px K (pv 1) aF) (px K (pv 10) (oV lU aF))) (aM (aK bZ (px K (pv 1) aF) (px K (pv 10) aF)))))))))))))))))) bI)
 (aI (pz 12 cF (aK bH (aK eS (pv 5) aF) (aS (bT K) rfl T.dR cY (aM (px K (pv 1) aF)))))
 (aI (iD PassesOwn.never rfl (gX K (aK (bC K) (kQ (wK K) (px K (pv 1) aF) (iY (pv 12)) nZ) (kQ (wK K) (px K (pv 1) aF) nZ (iY (pv 12))))) (eQ K 3 rfl (bG (pn 13 cF) (bG (pn 14 cF) (bG (pn 15 cF) eP)))) (aL (bV (PW.pt (pL (pc (oe K hr) (aK bH (pv 0) aF) aF) (mS (uJ kE tT (pv 14) (pv 3) (aK (bC K) (pv 14) (pv 15)))))) (aI (bV (pc (oe K hr) (aK bH (pv 5) aF) aF) (aL (aT (bN (aE bO (aE (dF (aE (pv 4) (aE (pv 13) (aM (aK (bC K) (aK bZ (pv 3) (pv 14)) aF))))) (aE (bN (aM (pv 2))) (aM (bN (aE (pv 3) (aM (pv 3))))))))))) bI)
 (aL (aT (bN (aE bO (aE (dF (aE (pv 4) (aM (pv 13)))) (aE (bN (aM (pv 2))) (aM (bN (aE (pv 14) (aM (aK bZ (aK (bC K) (pv 14) (pv 15)) aF)))))))))))) bI)))
 (aI (pz 16 cF (aS (pP K) rfl T.ar2 wN (aE (oV lU aF) (aM (aK bZ (pv 3) (aK bH (pv 5) aF))))))
 (aI (pz 17 cF (aS (kP K) rfl T.uZ qZ (aE aF (aM (aK (bC K) (pv 3) (aK bH (aK eS (pv 5) aF) aF))))))
 (aL (aT (bN (aE bO (aE (dF (aE (pv 4) (aE (pv 16) (aM (pv 17))))) (aE (bN (aM (pv 2))) (aM (bN (aE (pv 16) (aM (pv 17)))))))))))))))))),by unfold nW;walk_at "r"⟩) rfl (λ_=>rfl)
theorem aj7:dS P w K mg base 1 "_law_of_two" ["_law_number","_law_frame_here","_law_letters","_law_gap"] (bJ K cn 4 nG):=by
 refine bD (d:=nN) T.be0 gI (by walk_at "u") (λf cdv A outer s H E hr=>⟨_,(aI (pk 4 gI [9] (gX K (pv 2)) (λ_ _ _ _ _=>(pn 9 gI)) (λ_ _ _ _ _=>dN) (λ_ _ _ _ _=>(px K (px K (pv 1) aF) (pv 9))))
 (aI (pz 5 gI (aK eS (pv 0) aF))
 (aI (bV (PW.pt (pL (pc (oe K hr) (pv 3) aF) (mS (pc (oe K hr) (aK bH (pv 0) aF) aF)))) (aL (aT (bN (aE bO (aE (pv 4) (aE (pv 2) (aM (bN (aE aF (aM aF)))))))))) bI)
 (aI (bV (PW.pt (pL (pc bk2 (pv 3) aF) (mS (pc tT (aK bH (pv 0) aF) aF)))) (aL (aT (bN (aE bO (aE (pv 4) (aE (pv 2) (aM (bN (aE aF (aM dX)))))))))) bI)
 (aI (bV (PW.pt (pL (pc cn3 (pv 3) aF) (mS (pc (oe K hr) (aK bH (pv 0) aF) aF)))) (aI (pz 6 gI (aS (kP K) rfl T.uZ qZ (aE aF (aM (aK (bC K) (pv 3) (aK bH (pv 5) aF))))))
 (aL (aT (bN (aE bO (aE (aK (bC K) (pv 4) (dF (aM (pv 6)))) (aE (pv 2) (aM (bN (aE aF (aM (pv 6)))))))))))) bI)
 (aI (pz 7 gI (aS (pP K) rfl T.ar2 wN (aE (oV lU aF) (aM (aK bZ (pv 3) (aK bH (pv 5) aF))))))
 (aI (pz 8 gI (aS (kP K) rfl T.uZ qZ (aE aF (aM (aK (bC K) (pv 3) (aK bH (aK eS (pv 5) aF) aF))))))
 (aL (aT (bN (aE bO (aE (aK (bC K) (pv 4) (dF (aE (pv 7) (aM (pv 8))))) (aE (pv 2) (aM (bN (aE (pv 7) (aM (pv 8)))))))))))))))))),by unfold nN;walk_at "r"⟩) rfl (λ_=>rfl)
theorem ac6:dS P w K mg base 3 "_law_sayings" ["_law_cells","_law_frame_here","_law_false","_law_hidden_here"] (bJ K cn 4 jP):=by
 refine bD (d:=mF) T.ar6 cX (by walk_at "u") (λf cdv A outer s H E hr=>⟨_,(aI (pz 4 cX (aS (bT K) rfl T.dR cY (aM (px K (pv 1) aF))))
 (aI (pz 5 cX (aK bZ (px K (pv 1) aF) (px K (pv 1) aF)))
 (aI (pz 6 cX (dF pH))
 (aI (iD PassesOwn.never rfl (gX K (pv 0)) (pn 7 cX) (aI (pz 8 cX (pf (ap5 T:) hr (aE (pv 7) (aM aF))))
 (aI (pz 9 cX (aK bH (px K (pv 8) aF) (pv 4)))
 (aI (pz 10 cX (fI (eZ K) rfl T.jQ hU (aM (pv 3))))
 (aI (bV (PW.pt (pL (cS K (pv 2) (λ_=>rfl)) (mS (pc (oe K hr) (aK bH (px K (pv 8) aF) aF) aF)))) (aL (pk 10 cX [12] (gQ rfl T.iZ (aM (pv 4))) (λ_ _ _ _ _=>(pn 12 cX)) (λ_ _ _ _ _=>dN) (λ_ _ _ _ _=>(aK (bC K) (px K (pv 1) aF) (aK bH (aK (bC K) (px K (pv 8) aF) (aK iR (aK iR aF (px K (pv 8) aF)) (pv 12))) (aK (bC K) (pv 5) aF)))))) bI)
 (aI (pz 11 cX (aK bH (aK (bC K) (aK (bC K) (pv 9) aF) (aK bH (aK eS (px K (pv 8) aF) aF) (aS (pP K) rfl T.ar2 wN (aE aF (aM (aK bZ (pv 4) aF)))))) (pv 4)))
 (aL (bV (PW.pt (pL (cS K (pv 2) (λ_=>rfl)) (mS (pc (oe K hr) (aK bH (px K (pv 8) aF) aF) aF)))) (aL (dM (pI K (pv 6) (aM (pf (bo3 T:) hr (aE (pv 8) (aE (pv 1) (aE (pv 9) (aM (pv 11)))))))))) (aL (bV (PW.pt (rZ (pc (oe K hr) (pv 4) aF) (qV (pc tT (aK bH (px K (pv 8) aF) aF) aF)))) (aL (dM (pI K (pv 6) (aM (pf (al9 T:) hr (aE (px K (pv 8) aF) (aE (pv 1) (aE (pv 9) (aM (px K (pv 10) (pv 9))))))))))) (aL (dM (pI K (pv 6) (aM (pf (aj7 T:) hr (aE (px K (pv 8) aF) (aE (pv 1) (aE (bN (aE (pv 9) (aM (pv 11)))) (aM (aK bZ (px K (pv 10) (pv 9)) (px K (pv 10) (pv 11))))))))))))))))))))))
 (aL (aT (pv 6))))))),by unfold mF;walk_at "r"⟩) rfl (λ_=>rfl)
theorem be3:dS P w K mg base 1 "is_whole" ["some"] (bJ K cn 1 qA):=by
 refine bD (d:=qG) T.bs4 bl0 (by walk_at "u") (λf cdv A outer s H E hr=>⟨_,(aL (aT (rK (aS (kJ K) rfl T.gU gG (aE (pv 0) (aM (uO T.cv3 bw7)))) (qX (bx6 (aS (kJ K) rfl T.gU gG (aE (pv 0) (aM (uO T.ar9 ac3))))))))),by unfold qG;walk_at "r"⟩) rfl (λ_=>rfl)
theorem fA:dS P w K mg base 2 "is_whole_from" ["some","low","high"] (bJ K cn 3 cM):=by
 refine bD (d:=jZ) T.ae2 zK (by walk_at "u") (λf cdv A outer s H E hr=>⟨_,(aL (aT (rK (pf (be3 T:) hr (aM (pv 0))) (qX (zG kE kE (pv 1) (pv 0) (pv 2)))))),by unfold jZ;walk_at "r"⟩) rfl (λ_=>rfl)
theorem bs0:dS P w K mg base 3 "are_years" ["first","present"] (bJ K cn 2 oX):=by
 refine bD (d:=pF) T.bb1 at7 (by walk_at "u") (λf cdv A outer s H E hr=>⟨_,(aI (bV (fO (cS K (pf (fA T:) hr (aE (pv 0) (aE (oV lU (gR T.g_FARTHEST_END)) (aM (gR T.g_FARTHEST_END))))) (λ_=>rfl))) (aL (aT kA)) bI)
 (aI (bV (fO (cS K (pf (fA T:) hr (aE (pv 1) (aE (oV lU (gR T.g_FARTHEST_END)) (aM (gR T.g_FARTHEST_END))))) (λ_=>rfl))) (aL (aT kA)) bI)
 (aL (aT (zG kE kE aF (aK bZ (pv 1) (pv 0)) (gR T.g_LONGEST_SPAN)))))),by unfold pF;walk_at "r"⟩) rfl (λ_=>rfl)
theorem aq7:dS P w K mg base 1 "is_made_of" ["word","signs","most"] (bJ K cn 3 nC):=by
 refine bD (d:=nS) T.bd0 vI (by walk_at "u") (λf cdv A outer s H E hr=>⟨_,(aL (aT (rK (zG kE kE aF (aS (bT K) rfl T.dR cY (aM (pv 0))) (pv 2)) (qX (aS (kR K) rfl T.vA qU (aM (pm [3] (gX K (pv 0)) (λ_ _ _ _ _=>(pn 3 vI)) (λ_ _ _ _ _=>dN) (λ_ _ _ _ _=>(oF (ar1 K (n:=dU) hr) (pv 3) (pv 1) (by with_unfolding_all rfl)))))))))),by unfold nS;walk_at "r"⟩) rfl (λ_=>rfl)
theorem bg6:dS P w K mg base 2 "is_name" ["word"] (bJ K cn 1 pM):=by
 refine bD (d:=rX) T.bd8 bv3 (by walk_at "u") (λf cdv A outer s H E hr=>⟨_,(aL (aT (pf (aq7 T:) hr (aE (pv 0) (aE (gR T.g_LETTERS) (aM (gR T.g_MOST_LETTERS_words))))))),by unfold rX;walk_at "r"⟩) rfl (λ_=>rfl)
theorem sI:dS P w K mg base 3 "are_names" ["names","least","most"] (bJ K cn 3 jR):=by
 refine bD (d:=oP) T.bd1 wB (by walk_at "u") (λf cdv A outer s H E hr=>⟨_,(aI (bV (fO (uJ kE kE (pv 1) (aS (bT K) rfl T.dR cY (aM (pv 0))) (pv 2))) (aL (aT kA)) bI)
 (aL (aT (rK (aS (kR K) rfl T.vA qU (aM (pm [3] (gX K (pv 0)) (λ_ _ _ _ _=>(pn 3 wB)) (λ_ _ _ _ _=>dN) (λ_ _ _ _ _=>(pf (bg6 T:) hr (aM (pv 3))))))) (qX (oF (oe K hr) (bz5 K T.dR T.dy5 (aM (pv 0))) (aS (bT K) rfl T.dR cY (aM (pv 0))) (ac1 _))))))),by unfold oP;walk_at "r"⟩) rfl (λ_=>rfl)
theorem bn3:dS P w K mg base 3 "is_table" ["some"] (bJ K cn 1 nV):=by
 refine bD (d:=qJ) T.bn4 sE (by walk_at "u") (λf cdv A outer s H E hr=>⟨_,(aI (bV (fO (uJ kE kE aF (aS (bT K) rfl T.dR cY (aM (pv 0))) (gR T.g_MOST_AGES))) (aL (aT kA)) bI)
 (aI (bV (fO (cS K (aS (kR K) rfl T.vA qU (aM (pm [1] (gX K (pv 0)) (λ_ _ _ _ _=>(pn 1 sE)) (λ_ _ _ _ _=>dN) (λ_ _ _ _ _=>(pf (fA T:) hr (aE (pv 1) (aE aF (aM (gR T.g_DARKEST))))))))) (λ_=>rfl))) (aL (aT kA)) bI)
 (aL (aT (aS (kR K) rfl T.vA qU (aM (pm [2] (bj6 rfl T.iZ (aE aF (aM (aS (bT K) rfl T.dR cY (aM (pv 0)))))) (λ_ _ _ _ _=>(pn 2 sE)) (λ_ _ _ _ _=>dN) (λ_ _ _ _ _=>(oF kE (px K (pv 0) (pv 2)) (px K (pv 0) (aK bZ (pv 2) aF)) (ac1 _)))))))))),by unfold qJ;walk_at "r"⟩) rfl (λ_=>rfl)
theorem bu2:dS P w K mg base 4 "are_inks" ["inks"] (bJ K cn 1 qO):=by
 refine bD (d:=qN) T.bp4 lX (by walk_at "u") (λf cdv A outer s H E hr=>⟨_,(aI (bV (fO (cS K (pf (sI T:) hr (aE (pm [1,2] (gX K (pv 0)) (λ_ _ _ _ _=>(eQ K 2 rfl (bG (pn 1 lX) (bG (pn 2 lX) eP)))) (λ_ _ _ _ _=>dN) (λ_ _ _ _ _=>(pv 1))) (aE aF (aM (gR T.g_MOST_INKS))))) (λ_=>rfl))) (aL (aT kA)) bI)
 (aL (aT (aS (kR K) rfl T.vA qU (aM (pm [1,2] (gX K (pv 0)) (λ_ _ _ _ _=>(eQ K 2 rfl (bG (pn 1 lX) (bG (pn 2 lX) eP)))) (λ_ _ _ _ _=>dN) (λ_ _ _ _ _=>(pf (bn3 T:) hr (aM (pv 2)))))))))),by unfold qN;walk_at "r"⟩) rfl (λ_=>rfl)
theorem bo2:dS P w K mg base 3 "is_reign" ["begin","length"] (bJ K cn 2 nR):=by
 refine bD (d:=qC) T.bu4 bn0 (by walk_at "u") (λf cdv A outer s H E hr=>⟨_,(aL (aT (rK (pf (fA T:) hr (aE (pv 0) (aE (oV lU (gR T.g_FARTHEST_YEAR)) (aM (gR T.g_FARTHEST_YEAR))))) (qX (pf (fA T:) hr (aE (pv 1) (aE aF (aM (gR T.g_LONGEST_REIGN))))))))),by unfold qC;walk_at "r"⟩) rfl (λ_=>rfl)
theorem av8:dS P w K mg base 4 "are_reigns" ["reigns"] (bJ K cn 1 nE):=by
 refine bD (d:=nH) T.az9 gF (by walk_at "u") (λf cdv A outer s H E hr=>⟨_,(aI (bV (fO (cS K (pf (sI T:) hr (aE (pm [1,2,3] (gX K (pv 0)) (λ_ _ _ _ _=>(eQ K 3 rfl (bG (pn 1 gF) (bG (pn 2 gF) (bG (pn 3 gF) eP))))) (λ_ _ _ _ _=>dN) (λ_ _ _ _ _=>(pv 1))) (aE aF (aM (gR T.g_MOST_REIGNS))))) (λ_=>rfl))) (aL (aT kA)) bI)
 (aL (aT (aS (kR K) rfl T.vA qU (aM (pm [1,2,3] (gX K (pv 0)) (λ_ _ _ _ _=>(eQ K 3 rfl (bG (pn 1 gF) (bG (pn 2 gF) (bG (pn 3 gF) eP))))) (λ_ _ _ _ _=>dN) (λ_ _ _ _ _=>(pf (bo2 T:) hr (aE (pv 2) (aM (pv 3))))))))))),by unfold nH;walk_at "r"⟩) rfl (λ_=>rfl)
theorem am3(f y:Addr)(cdv:Value)(A:Around)(outer:List Env)(s:Shared)(H:Hp)(E:XK)(hr:Room 4 (A.deeper (PyProof.Rows.envOfC "Archive.__init__" (aN iS) s.heap.objs.size f cdv))):
 ∃t,PSs (lP jD P w K mg base ["self","first","present","letters","inks","reigns","name","table","begin","length"] "Archive.__init__" (aN iS) f cdv A outer s H E).nox (cZ iS) t/\RS [(0,.ref y)] K cn E t iP:=
 ⟨_,(aI (bV (fO (cS K (pf (bs0 T:) hr (aE (pv 1) (aM (pv 2)))) (λ_=>rfl))) (aL jV) bI)
 (aI (bV (fO (cS K (pf (sI T:) hr (aE (pv 3) (aE aF (aM (gR T.g_MOST_LETTERS_archives))))) (λ_=>rfl))) (aL jV) bI)
 (aI (bV (fO (cS K (pf (bu2 T:) hr (aM (pv 4))) (λ_=>rfl))) (aL jV) bI)
 (aI (bV (fO (cS K (pf (av8 T:) hr (aM (pv 5))) (λ_=>rfl))) (aL jV) bI)
 (aI (lG K (pv 0) (pv 1))
 (aI (lG K (pv 0) (pv 2))
 (aI (lG K (pv 0) (fI (eZ K) rfl T.jQ hU (aM (pv 3))))
 (aI (lG K (pv 0) (pm [6,7] (gX K (pv 4)) (λ_ _ _ _ _=>(eQ K 2 rfl (bG (pn 6 gC) (bG (pn 7 gC) eP)))) (λ_ _ _ _ _=>dN) (λ_ _ _ _ _=>(bN (aE (pv 6) (aM (fI (eZ K) rfl T.jQ hU (aM (pv 7)))))))))
 (aL (lG K (pv 0) (pm [6,8,9] (gX K (pv 5)) (λ_ _ _ _ _=>(eQ K 3 rfl (bG (pn 6 gC) (bG (pn 8 gC) (bG (pn 9 gC) eP))))) (λ_ _ _ _ _=>dN) (λ_ _ _ _ _=>(bN (aE (pv 6) (aE (pv 8) (aM (pv 9))))))))))))))))),by unfold iP;walk_at "r"⟩
theorem bi7:wA P w K mg base 5 "Archive" c_Archive (vH K cn "Archive" 5 nU):=
 iG (d:=iP) T.bj4 gC (by walk_at "u") (am3 T) rfl (λ_=>rfl)
theorem as5:dS P w K mg base 7 "_law_archive" ["_law_frame_here"] (bJ K cn 1 jO):=by
 refine bD (d:=mB) T.ao6 kX (by walk_at "u") (λf cdv A outer s H E hr=>⟨_,(aI (pk 1 kX [2,3] (gX K (px K (pv 0) aF)) (λ_ _ _ _ _=>(eQ K 2 rfl (bG (pn 2 kX) (bG (pn 3 kX) eP)))) (λ_ _ _ _ _=>dN) (λ_ _ _ _ _=>(bN (aE (pv 2) (aM (fI (eZ K) rfl T.jQ hU (aM (pv 3))))))))
 (aL (aT (nL (bi7 T:) (hr.mono (by decide)) (aE (px K (pv 0) aF) (aE (px K (pv 0) aF) (aE (fI (eZ K) rfl T.jQ hU (aM (px K (pv 0) aF))) (aE (pv 1) (aM (fI (eZ K) rfl T.jQ hU (aM (px K (pv 0) aF)))))))))))),by unfold mB;walk_at "r"⟩) rfl (λ_=>rfl)
theorem cs1:dS P w K mg base 3 "is_due" ["archive","due","part"] (bJ K cn 3 eN):=by
 refine bD (d:=mJ) T.cn2 xG (by walk_at "u") (λf cdv A outer s H E hr=>⟨_,(aI (bV (pc (oe K hr) (pv 1) bO) (aL (aT (oF (ar1 K (n:=dU) hr) (pv 2) (fG K (pv 0)) (by with_unfolding_all rfl)))) bI)
 (aI (bV (pc (oe K hr) (pv 1) bO) (aL (aT (oF (ar1 K (n:=dU) hr) (pv 2) (pm [3] (gX K (fG K (pv 0))) (λ_ _ _ _ _=>(pn 3 xG)) (λ_ _ _ _ _=>dN) (λ_ _ _ _ _=>(px K (pv 3) aF))) (by with_unfolding_all rfl)))) bI)
 (aI (bV (pc (oe K hr) (pv 1) bO) (aL (aT (oF (ar1 K (n:=dU) hr) (pv 2) (pm [4] (gX K (fG K (pv 0))) (λ_ _ _ _ _=>(pn 4 xG)) (λ_ _ _ _ _=>dN) (λ_ _ _ _ _=>(px K (pv 4) aF))) (by with_unfolding_all rfl)))) bI)
 (aL (aT (pf (fA T:) hr (aE (pv 2) (aE (px K (qQ T.d_NUMBERS (pv 1)) aF) (aM (px K (qQ T.d_NUMBERS (pv 1)) aF)))))))))),by unfold mJ;walk_at "r"⟩) rfl (λ_=>rfl)
theorem bb6:dS P w K mg base 4 "are_due" ["archive","word","parts"] (bJ K cn 3 pQ):=by
 refine bD (d:=rW) T.bb8 uQ (by walk_at "u") (λf cdv A outer s H E hr=>⟨_,(aI (bV (PW.pt (rZ (cp9 (br5 T.d_PARTS (pv 1)) (by with_unfolding_all rfl)) (qV (pc (ai0 K (n:=dU) hr) (aS (bT K) rfl T.dR cY (aM (pv 2))) (aS (bT K) rfl T.dR cY (aM (qQ T.d_PARTS (pv 1)))))))) (aL (aT kA)) bI)
 (aL (aT (aS (kR K) rfl T.vA qU (aM (pm [3,4] (ar3 K T.bq4 (aE (qQ T.d_PARTS (pv 1)) (aM (pv 2)))) (λ_ _ _ _ _=>(eQ K 2 rfl (bG (pn 3 uQ) (bG (pn 4 uQ) eP)))) (λ_ _ _ _ _=>dN) (λ_ _ _ _ _=>(pf (cs1 T:) hr (aE (pv 0) (aE (pv 3) (aM (pv 4)))))))))))),by unfold rW;walk_at "r"⟩) rfl (λ_=>rfl)
theorem ax1(f:Addr)(cdv:Value)(A:Around)(outer:List Env)(s:Shared)(H:Hp)(E:XK)(hr:Room 0 (A.deeper (PyProof.Rows.envOfC "Archive.table" (aN iF) s.heap.objs.size f cdv))):
 ∃t,PSs (lP jD P w K mg base ["self","name","other","table"] "Archive.table" (aN iF) f cdv A outer s H E).nox (cZ iF) t/\RS [] K cn E t iC:=
 ⟨_,(aI (iD PassesOwn.never rfl (gX K (fG K (pv 0))) (eQ K 2 rfl (bG (pn 2 mI) (bG (pn 3 mI) eP))) (aL (bV (pc (oe K hr) (pv 2) (pv 1)) (aL (aT (fI (eZ K) rfl T.jQ hU (aM (pv 3))))) bI)))
 (aL (aT dX))),by unfold iC;walk_at "r"⟩
theorem am1:iU P w K mg base 1 c_Archive "table" (bJ K cn 2 eE):=
 dH (d:=iC) T.zV T.lL mI (by walk_at "u") (ax1 T) rfl (λ_=>rfl) (by decide)
theorem cl5:∀q∈[(c_Archive,bJ K cn 2 eE)],iU P w K mg base 1 q.1 "table" q.2:=dI (am1 T) (yX)
theorem bb5:dS P w K mg base 1 "ages_of" ["table","dark","error","greatest"] (bJ K cn 4 pG):=by
 refine bD (d:=sC) T.bg8 nF (by walk_at "u") (λf cdv A outer s H E hr=>⟨_,(aI (pz 4 nF (aK bZ (aS (bT K) rfl T.dR cY (aM (pv 0))) aF))
 (aI (pk 5 nF [7] (gQ rfl T.iZ (aM (aK (bC K) (aS (kP K) rfl T.uZ qZ (aE (pv 4) (aM (pv 3)))) aF))) (λ_ _ _ _ _=>(pn 7 nF)) (λ_ _ _ _ _=>(bu1 (pc kE (aS (wR K) rfl T.bm4 ad9 (aM (aK bZ (px K (pv 0) (pv 7)) (pv 1)))) (pv 2)))) (λ_ _ _ _ _=>(pv 7)))
 (aI (bV (pc (oe K hr) (aS (bT K) rfl T.dR cY (aM (pv 5))) aF) (aL (aT dX)) bI)
 (aI (pz 6 nF (px K (pv 5) (aK bZ (aS (bT K) rfl T.dR cY (aM (pv 5))) aF)))
 (aL (aT (bN (aE (px K (pv 5) aF) (aM (ak7 (pc (oe K hr) (pv 6) (pv 4)) (pv 3) (pv 6))))))))))),by unfold sC;walk_at "r"⟩) rfl (λ_=>rfl)
theorem bi8:dS P w K mg base 1 "spaced" ["parts"] (bJ K cn 1 uA):=by
 refine bD (d:=uI) T.co2 am5 (by walk_at "u") (λf cdv A outer s H E hr=>⟨_,(aL (aT (tM K PySem.F.plainAttrs_str PySem.F.slot_str_join PySem.F.type_str_join (cm0 K) bO (aM (pm [1] (gX K (pv 0)) (λ_ _ _ _ _=>(pn 1 am5)) (λ_ _ _ _ _=>dN) (λ_ _ _ _ _=>(fI bk6 rfl T.dw5 cm7 (aM (pv 1))))))))),by unfold uI;walk_at "r"⟩) rfl (λ_=>rfl)
theorem fH(f y:Addr)(cdv:Value)(A:Around)(outer:List Env)(s:Shared)(H:Hp)(E:XK)(hr:Room 1 (A.deeper (PyProof.Rows.envOfC "Saying.__init__" (aN cW) s.heap.objs.size f cdv))):
 ∃t,PSs (lP jD P w K mg base ["self","archive","word","parts","low","high","names","part","due","name"] "Saying.__init__" (aN cW) f cdv A outer s H E).nox (cZ cW) t/\RS [(0,.ref y)] K cn E t bM:=
 ⟨_,(aI (pk 6 cP [7,8] (ar3 K T.bq4 (aE (pv 3) (aM (qQ T.d_PARTS (pv 2))))) (λ_ _ _ _ _=>(eQ K 2 rfl (bG (pn 7 cP) (bG (pn 8 cP) eP)))) (λ_ _ _ _ _=>(bu1 (pc (oe K hr) (pv 8) bO))) (λ_ _ _ _ _=>(pv 7)))
 (aI (lG K (pv 0) (pm [9] (gX K (pv 6)) (λ_ _ _ _ _=>(pn 9 cP)) (λ_ _ _ _ _=>dN) (λ_ _ _ _ _=>(tM K PySem.F.plainAttrs_list PySem.F.slot_list_index PySem.F.type_list_index (bl6 K (n:=dU) hr) (fG K (pv 1)) (aM (pv 9))))))
 (aI (lG K (pv 0) (pv 4))
 (aI (lG K (pv 0) (pv 5))
 (aL (lG K (pv 0) (pf (bi8 T:) hr (aM (aK (bC K) (dF (aM (pv 2))) (fI (eZ K) rfl T.jQ hU (aM (pv 3)))))))))))),by unfold bM;walk_at "r"⟩
theorem dr5:wA P w K mg base 2 "Ink" c_Ink (vH K cn "Ink" 5 zL):=
 iG (d:=bM) T.de2 cP (by walk_at "u") (fH T) rfl (λ_=>rfl)
theorem tL:dS P w K mg base 1 "reign_called" ["archive","name"] (bJ K cn 2 iN):=by
 refine bD (d:=kY) T.ai4 rQ (by walk_at "u") (λf cdv A outer s H E hr=>⟨_,(aI (iD PassesOwn.never rfl (gX K (fG K (pv 0))) (pn 2 rQ) (aL (bV (pc (oe K hr) (px K (pv 2) aF) (pv 1)) (aL (aT (pv 2))) bI)))
 (aL (aT dX))),by unfold kY;walk_at "r"⟩) rfl (λ_=>rfl)
theorem xJ:dS P w K mg base 3 "reign_year" ["begin","length","k"] (bJ K cn 3 kM):=by
 refine bD (d:=nO) T.bc0 at5 (by walk_at "u") (λf cdv A outer s H E hr=>⟨_,(aI (bV (fO (cS K (pf (fA T:) hr (aE (pv 2) (aE aF (aM (pv 1))))) (λ_=>rfl))) (aL (aT dX)) bI)
 (aL (aT (aK bZ (aK (bC K) (pv 0) (pv 2)) aF)))),by unfold nO;walk_at "r"⟩) rfl (λ_=>rfl)
theorem cq4:wA P w K mg base 2 "Reign" c_Reign (vH K cn "Reign" 5 tW):=
 iG (d:=bM) T.cp2 cP (by walk_at "u") (fH T) rfl (λ_=>rfl)
theorem ce4:wA P w K mg base 2 "Under" c_Under (vH K cn "Under" 5 uF):=
 iG (d:=bM) T.cq2 cP (by walk_at "u") (fH T) rfl (λ_=>rfl)
theorem bx5:wA P w K mg base 2 "Between" c_Between (vH K cn "Between" 5 qW):=
 iG (d:=bM) T.bt4 cP (by walk_at "u") (fH T) rfl (λ_=>rfl)
theorem cn5:wA P w K mg base 2 "After" c_After (vH K cn "After" 5 uH):=
 iG (d:=bM) T.cr2 cP (by walk_at "u") (fH T) rfl (λ_=>rfl)
theorem cu7:wA P w K mg base 2 "Same" c_Same (vH K cn "Same" 5 xI):=
 iG (d:=bM) T.cf7 cP (by walk_at "u") (fH T) rfl (λ_=>rfl)
theorem bg9:wA P w K mg base 2 "Within" c_Within (vH K cn "Within" 5 sJ):=
 iG (d:=bM) T.bc8 cP (by walk_at "u") (fH T) rfl (λ_=>rfl)
theorem cr4:wA P w K mg base 2 "Apart" c_Apart (vH K cn "Apart" 5 tU):=
 iG (d:=bM) T.cs2 cP (by walk_at "u") (fH T) rfl (λ_=>rfl)
theorem ah7:dS P w K mg base 4 "ink_saying" ["archive","parts"] (bJ K cn 2 nQ):=by
 refine bD (d:=nM) T.ax9 vB (by walk_at "u") (λf cdv A outer s H E hr=>⟨_,(aI (pz 2 vB (pf (bb5 T:) hr (aE (bu8 (pv 0) (cl5 T:) (hr.mono (by decide)) (aM (px K (pv 1) aF))) (aE (px K (pv 1) aF) (aE (px K (pv 1) aF) (aM (aK bZ (fG K (pv 0)) (fG K (pv 0)))))))))
 (aI (bV (pc bz4 (pv 2) dX) (aL jV) bI)
 (aL (aT (nL (dr5 T:) (hr.mono (by decide)) (aE (pv 0) (aE bO (aE (pv 1) (aE (aK bZ (fG K (pv 0)) (px K (pv 2) aF)) (aM (aK bZ (fG K (pv 0)) (px K (pv 2) aF)))))))))))),by unfold nM;walk_at "r"⟩) rfl (λ_=>rfl)
theorem aw3:dS P w K mg base 4 "reign_saying" ["archive","parts"] (bJ K cn 2 lH):=by
 refine bD (d:=lJ) T.ac4 mW (by walk_at "u") (λf cdv A outer s H E hr=>⟨_,(aI (pz 2 mW (pf (tL T:) hr (aE (pv 0) (aM (px K (pv 1) aF)))))
 (aI (pz 3 mW (pf (xJ T:) hr (aE (px K (pv 2) aF) (aE (px K (pv 2) aF) (aM (px K (pv 1) aF))))))
 (aI (bV (pc bz4 (pv 3) dX) (aL jV) bI)
 (aL (aT (nL (cq4 T:) (hr.mono (by decide)) (aE (pv 0) (aE bO (aE (pv 1) (aE (pv 3) (aM (pv 3)))))))))))),by unfold lJ;walk_at "r"⟩) rfl (λ_=>rfl)
theorem at2:dS P w K mg base 4 "under_saying" ["archive","parts"] (bJ K cn 2 lB):=by
 refine bD (d:=kZ) T.al4 rS (by walk_at "u") (λf cdv A outer s H E hr=>⟨_,(aI (pz 2 rS (pf (tL T:) hr (aE (pv 0) (aM (px K (pv 1) aF)))))
 (aL (aT (nL (ce4 T:) (hr.mono (by decide)) (aE (pv 0) (aE bO (aE (pv 1) (aE (px K (pv 2) aF) (aM (pf (xJ T:) hr (aE (px K (pv 2) aF) (aE (px K (pv 2) aF) (aM (px K (pv 2) aF)))))))))))))),by unfold kZ;walk_at "r"⟩) rfl (λ_=>rfl)
theorem yW:dS P w K mg base 4 "between_saying" ["archive","parts"] (bJ K cn 2 jG):=by
 refine bD (d:=jJ) T.zU xW (by walk_at "u") (λf cdv A outer s H E hr=>⟨_,(aI (bV (pc bk2 (px K (pv 1) aF) (px K (pv 1) aF)) (aL jV) bI)
 (aL (aT (nL (bx5 T:) (hr.mono (by decide)) (aE (pv 0) (aE bO (aE (pv 1) (aE (px K (pv 1) aF) (aM (px K (pv 1) aF)))))))))),by unfold jJ;walk_at "r"⟩) rfl (λ_=>rfl)
theorem az2:dS P w K mg base 4 "after_saying" ["archive","parts"] (bJ K cn 2 lD):=by
 refine bD (d:=lK) T.aq4 ab1 (by walk_at "u") (λf cdv A outer s H E hr=>⟨_,(aL (aT (nL (cn5 T:) (hr.mono (by decide)) (aE (pv 0) (aE bO (aE (pv 1) (aE aF (aM dX)))))))),by unfold lK;walk_at "r"⟩) rfl (λ_=>rfl)
theorem aa6:dS P w K mg base 4 "same_saying" ["archive","parts"] (bJ K cn 2 lZ):=by
 refine bD (d:=mC) T.an6 al3 (by walk_at "u") (λf cdv A outer s H E hr=>⟨_,(aL (aT (nL (cu7 T:) (hr.mono (by decide)) (aE (pv 0) (aE bO (aE (pv 1) (aE aF (aM aF)))))))),by unfold mC;walk_at "r"⟩) rfl (λ_=>rfl)
theorem aq0:dS P w K mg base 4 "within_saying" ["archive","parts"] (bJ K cn 2 kG):=by
 refine bD (d:=kB) T.aj2 zJ (by walk_at "u") (λf cdv A outer s H E hr=>⟨_,(aL (aT (nL (bg9 T:) (hr.mono (by decide)) (aE (pv 0) (aE bO (aE (pv 1) (aE aF (aM (px K (pv 1) aF))))))))),by unfold kB;walk_at "r"⟩) rfl (λ_=>rfl)
theorem av2:dS P w K mg base 4 "apart_saying" ["archive","parts"] (bJ K cn 2 lF):=by
 refine bD (d:=lE) T.an4 az0 (by walk_at "u") (λf cdv A outer s H E hr=>⟨_,(aI (bV (pc bk2 (px K (pv 1) aF) (px K (pv 1) aF)) (aL jV) bI)
 (aL (aT (nL (cr4 T:) (hr.mono (by decide)) (aE (pv 0) (aE bO (aE (pv 1) (aE (px K (pv 1) aF) (aM (px K (pv 1) aF)))))))))),by unfold lE;walk_at "r"⟩) rfl (λ_=>rfl)
theorem cf2:bn9 P w K mg base 4 "MAKERS" (cy2 K cn 2 tb_MAKERS):=cc4 T.bf8 (jB T.au6 (ah7 T) (by decide) (jB T.an2 (aw3 T) (by decide) (jB T.ao2 (at2 T) (by decide) (jB T.yA (yW T) (by decide) (jB T.am2 (az2 T) (by decide) (jB T.aj4 (aa6 T) (by decide) (jB T.zS (aq0 T) (by decide) (jB T.ad2 (av2 T) (by decide) (bt8)))))))))
theorem bt0:dS P w K mg base 5 "saying_of" ["archive","word","parts"] (bJ K cn 3 cJ):=by
 refine bD (d:=pE) T.be1 ab7 (by walk_at "u") (λf cdv A outer s H E hr=>⟨_,(aI (bV (fO (cS K (pf (bb6 T:) hr (aE (pv 0) (aE (pv 1) (aM (pv 2))))) (λ_=>rfl))) (aL jV) bI)
 (aI (bV (PW.pt (pL (pc (oe K hr) (px K (qQ T.d_PARTS (pv 1)) aF) bO) (mS (pc (oe K hr) (px K (pv 2) aF) (px K (pv 2) aF))))) (aL jV) bI)
 (aL (aT (bn8 (cf2 T:) (hr.mono (by decide)) (pv 1) (aE (pv 0) (aM (pv 2)))))))),by unfold pE;walk_at "r"⟩) rfl (λ_=>rfl)
theorem bq3:dS P w K mg base 6 "_law_heap" ["_law_archive_here","_law_told"] (bJ K cn 2 mY):=by
 refine bD (d:=qD) T.bo4 lT (by walk_at "u") (λf cdv A outer s H E hr=>⟨_,(aL (aT (pm [2,3,4,5] (gX K (pv 1)) (λ_ _ _ _ _=>(eQ K 4 rfl (bG (pn 2 lT) (bG (pn 3 lT) (bG (pn 4 lT) (bG (pn 5 lT) eP)))))) (λ_ _ _ _ _=>dN) (λ_ _ _ _ _=>(pf (bt0 T:) hr (aE (pv 0) (aE (pv 2) (aM (fI (eZ K) rfl T.jQ hU (aM (pv 3))))))))))),by unfold qD;walk_at "r"⟩) rfl (λ_=>rfl)
theorem yO:dS P w K mg base 1 "_law_steps" ["_law_frame_here","_law_told"] (bJ K cn 2 iK):=by
 refine bD (d:=oR) T.by0 gA (by walk_at "u") (λf cdv A outer s H E hr=>⟨_,(aI (pz 2 gA (dF pH))
 (aI (iD PassesOwn.never rfl (gQ rfl T.iZ (aM (aS (bT K) rfl T.dR cY (aM (pv 1))))) (pn 3 gA) (aI (pz 4 gA (px K (px K (pv 1) (pv 3)) aF))
 (aI (ax8 (px K (px K (pv 1) (pv 3)) aF) (eQ K 2 rfl (bG (pn 5 gA) (bG (pn 6 gA) eP))))
 (aI (pz 7 gA (px K (aK (bC K) (pv 4) (bN (aM dX))) aF))
 (aI (bV (pc xO (pv 6) dX) (aL (dM (pI K (pv 2) (aM (bN (aE (pv 7) (aE (px K (pv 4) aF) (aE (pv 6) (aM (pv 3)))))))))) bI)
 (aL (bV (pc xO (pv 5) dX) (aL (dM (pI K (pv 2) (aM (bN (aE (px K (pv 4) aF) (aE (pv 7) (aE (aK bZ aF (pv 5)) (aM (pv 3)))))))))) bI)))))))
 (aI (iD PassesOwn.never rfl (gQ rfl T.iZ (aM (aS (bT K) rfl T.dR cY (aM (px K (pv 0) aF))))) (pn 8 gA) (aI (dM (pI K (pv 2) (aM (bN (aE dX (aE (pv 8) (aE (px K (pv 0) aF) (aM dX))))))))
 (aL (dM (pI K (pv 2) (aM (bN (aE (pv 8) (aE dX (aE (aK bZ aF (px K (pv 0) aF)) (aM dX)))))))))))
 (aL (aT (pv 2)))))),by unfold oR;walk_at "r"⟩) rfl (λ_=>rfl)
theorem eT(f:Addr)(cdv:Value)(A:Around)(outer:List Env)(s:Shared)(H:Hp)(E:XK)(hr:Room 0 (A.deeper (PyProof.Rows.envOfC "Saying.about" (aN cQ) s.heap.objs.size f cdv))):
 ∃t,PSs (lP jD P w K mg base ["self"] "Saying.about" (aN cQ) f cdv A outer s H E).nox (cZ cQ) t/\RS [] K cn E t cR:=
 ⟨_,(aL (aT (fI (eZ K) rfl T.jQ hU (aM (fG K (pv 0)))))),by unfold cR;walk_at "r"⟩
theorem au5:iU P w K mg base 1 c_Reign "about" (bJ K cn 1 aQ):=
 dH (d:=cR) T.ap4 T.oO eH (by walk_at "u") (eT T) rfl (λ_=>rfl) (by decide)
theorem ax5:iU P w K mg base 1 c_After "about" (bJ K cn 1 aQ):=
 dH (d:=cR) T.ah4 T.oM eH (by walk_at "u") (eT T) rfl (λ_=>rfl) (by decide)
theorem ax3:iU P w K mg base 1 c_Within "about" (bJ K cn 1 aQ):=
 dH (d:=cR) T.ag2 T.mV eH (by walk_at "u") (eT T) rfl (λ_=>rfl) (by decide)
theorem bk0:iU P w K mg base 1 c_Ink "about" (bJ K cn 1 aQ):=
 dH (d:=cR) T.bg0 T.tR eH (by walk_at "u") (eT T) rfl (λ_=>rfl) (by decide)
theorem ae6:iU P w K mg base 1 c_Apart "about" (bJ K cn 1 aQ):=
 dH (d:=cR) T.ae4 T.oN eH (by walk_at "u") (eT T) rfl (λ_=>rfl) (by decide)
theorem ad6:iU P w K mg base 1 c_Under "about" (bJ K cn 1 aQ):=
 dH (d:=cR) T.am4 T.oJ eH (by walk_at "u") (eT T) rfl (λ_=>rfl) (by decide)
theorem af7:iU P w K mg base 1 c_Same "about" (bJ K cn 1 aQ):=
 dH (d:=cR) T.ap6 T.qT eH (by walk_at "u") (eT T) rfl (λ_=>rfl) (by decide)
theorem ar0:iU P w K mg base 1 c_Between "about" (bJ K cn 1 aQ):=
 dH (d:=cR) T.zW T.lM eH (by walk_at "u") (eT T) rfl (λ_=>rfl) (by decide)
theorem cv5:∀q∈[(c_Ink,bJ K cn 1 aQ),(c_Reign,bJ K cn 1 aQ),(c_Under,bJ K cn 1 aQ),(c_Between,bJ K cn 1 aQ),(c_After,bJ K cn 1 aQ),(c_Same,bJ K cn 1 aQ),(c_Within,bJ K cn 1 aQ),(c_Apart,bJ K cn 1 aQ)],iU P w K mg base 1 q.1 "about" q.2:=dI (bk0 T) (dI (au5 T) (dI (ad6 T) (dI (ar0 T) (dI (ax5 T) (dI (af7 T) (dI (ax3 T) (dI (ae6 T) (yX))))))))
theorem eF(f:Addr)(cdv:Value)(A:Around)(outer:List Env)(s:Shared)(H:Hp)(E:XK)(hr:Room 0 (A.deeper (PyProof.Rows.envOfC "Saying.bounds" (aN cK) s.heap.objs.size f cdv))):
 ∃t,PSs (lP jD P w K mg base ["self"] "Saying.bounds" (aN cK) f cdv A outer s H E).nox (cZ cK) t/\RS [] K cn E t cL:=
 ⟨_,(aL (aT (bN (aE (fG K (pv 0)) (aM (fG K (pv 0))))))),by unfold cL;walk_at "r"⟩
theorem av1:iU P w K mg base 1 c_Within "bounds" (bJ K cn 1 aP):=
 dH (d:=cL) T.zT T.mV dW (by walk_at "u") (eF T) rfl (λ_=>rfl) (by decide)
theorem ay5:iU P w K mg base 1 c_Same "bounds" (bJ K cn 1 aP):=
 dH (d:=cL) T.ak4 T.qT dW (by walk_at "u") (eF T) rfl (λ_=>rfl) (by decide)
theorem aa4:iU P w K mg base 1 c_Apart "bounds" (bJ K cn 1 aP):=
 dH (d:=cL) T.ah2 T.oN dW (by walk_at "u") (eF T) rfl (λ_=>rfl) (by decide)
theorem ax7:iU P w K mg base 1 c_Ink "bounds" (bJ K cn 1 aP):=
 dH (d:=cL) T.am6 T.tR dW (by walk_at "u") (eF T) rfl (λ_=>rfl) (by decide)
theorem ah3:iU P w K mg base 1 c_Under "bounds" (bJ K cn 1 aP):=
 dH (d:=cL) T.ab2 T.oJ dW (by walk_at "u") (eF T) rfl (λ_=>rfl) (by decide)
theorem aq3:iU P w K mg base 1 c_After "bounds" (bJ K cn 1 aP):=
 dH (d:=cL) T.az1 T.oM dW (by walk_at "u") (eF T) rfl (λ_=>rfl) (by decide)
theorem zI:iU P w K mg base 1 c_Between "bounds" (bJ K cn 1 aP):=
 dH (d:=cL) T.xZ T.lM dW (by walk_at "u") (eF T) rfl (λ_=>rfl) (by decide)
theorem ai3:iU P w K mg base 1 c_Reign "bounds" (bJ K cn 1 aP):=
 dH (d:=cL) T.ak2 T.oO dW (by walk_at "u") (eF T) rfl (λ_=>rfl) (by decide)
theorem bt9:∀q∈[(c_Ink,bJ K cn 1 aP),(c_Reign,bJ K cn 1 aP),(c_Under,bJ K cn 1 aP),(c_Between,bJ K cn 1 aP),(c_After,bJ K cn 1 aP),(c_Same,bJ K cn 1 aP),(c_Within,bJ K cn 1 aP),(c_Apart,bJ K cn 1 aP)],iU P w K mg base 1 q.1 "bounds" q.2:=dI (ax7 T) (dI (ai3 T) (dI (ah3 T) (dI (zI T) (dI (aq3 T) (dI (ay5 T) (dI (av1 T) (dI (aa4 T) (yX))))))))
theorem aj3:dS P w K mg base 2 "saying_steps" ["saying","number"] (bJ K cn 2 lA):=by
 refine bD (d:=lI) T.ab4 iA (by walk_at "u") (λf cdv A outer s H E hr=>⟨_,(aI (pz 2 iA (as4 (pv 0) (cv5 T:) (hr.mono (by decide))))
 (aI (pz 3 iA (as4 (pv 0) (bt9 T:) (hr.mono (by decide))))
 (aI (pz 4 iA (ak7 (pc (oe K hr) (aS (bT K) rfl T.dR cY (aM (pv 2))) aF) (px K (pv 2) aF) dX))
 (aI (pz 5 iA (dF pH))
 (aI (bV (pc xO (px K (pv 3) aF) dX) (aL (dM (pI K (pv 5) (aM (bN (aE (pv 4) (aE (px K (pv 2) aF) (aE (px K (pv 3) aF) (aM (pv 1)))))))))) bI)
 (aI (bV (pc xO (px K (pv 3) aF) dX) (aL (dM (pI K (pv 5) (aM (bN (aE (px K (pv 2) aF) (aE (pv 4) (aE (aK bZ aF (px K (pv 3) aF)) (aM (pv 1)))))))))) bI)
 (aL (aT (pv 5))))))))),by unfold lI;walk_at "r"⟩) rfl (λ_=>rfl)
theorem ad8:dS P w K mg base 1 "span_steps" ["archive","letter"] (bJ K cn 2 nJ):=by
 refine bD (d:=nK) T.aw9 aw5 (by walk_at "u") (λf cdv A outer s H E hr=>⟨_,(aL (aT (dF (aE (bN (aE dX (aE (pv 1) (aE (fG K (pv 0)) (aM dX))))) (aM (bN (aE (pv 1) (aE dX (aE (aK bZ aF (fG K (pv 0))) (aM dX)))))))))),by unfold nK;walk_at "r"⟩) rfl (λ_=>rfl)
theorem qM:dS P w K mg base 3 "steps_of" ["archive","sayings"] (bJ K cn 2 fF):=by
 refine bD (d:=qH) T.bk4 lW (by walk_at "u") (λf cdv A outer s H E hr=>⟨_,(aI (pz 2 lW (dF pH))
 (aI (iD PassesOwn.never rfl (bw9 K T.bu0 (aM (pv 1))) (eQ K 2 rfl (bG (pn 3 lW) (bG (pn 4 lW) eP))) (aL (dM (tM K PySem.F.plainAttrs_list PySem.F.slot_list_extend PySem.F.type_list_extend ad5 (pv 2) (aM (pf (aj3 T:) hr (aE (pv 4) (aM (pv 3)))))))))
 (aI (iD PassesOwn.never rfl (gQ rfl T.iZ (aM (aS (bT K) rfl T.dR cY (aM (fG K (pv 0)))))) (pn 5 lW) (aL (dM (tM K PySem.F.plainAttrs_list PySem.F.slot_list_extend PySem.F.type_list_extend ad5 (pv 2) (aM (pf (ad8 T:) hr (aE (pv 0) (aM (pv 5)))))))))
 (aL (aT (pv 2)))))),by unfold qH;walk_at "r"⟩) rfl (λ_=>rfl)
theorem bj0:dS P w K mg base 1 "_law_whole" ["_law_found"] (bJ K cn 1 oU):=by
 refine bD (d:=oW) T.bx0 ao8 (by walk_at "u") (λf cdv A outer s H E hr=>⟨_,(aL (aT (rK (aS (kJ K) rfl T.gU gG (aE (pv 0) (aM (uO T.cv3 bw7)))) (qX (bx6 (aS (kJ K) rfl T.gU gG (aE (pv 0) (aM (uO T.ar9 ac3))))))))),by unfold oW;walk_at "r"⟩) rfl (λ_=>rfl)
theorem pX:dS P w K mg base 2 "_law_same" ["_law_found","_law_due"] (bJ K cn 2 eY):=by
 refine bD (d:=qL) T.bl4 pC (by walk_at "u") (λf cdv A outer s H E hr=>⟨_,(aI (bV (PW.pt (rZ (fO (cS K (aS (kJ K) rfl T.gU gG (aE (pv 0) (aM (uO T.jQ hU)))) (λ_=>rfl))) (qV (pc (ai0 K (n:=dU) hr) (aS (bT K) rfl T.dR cY (aM (pv 0))) (aS (bT K) rfl T.dR cY (aM (pv 1))))))) (aL (aT kA)) bI)
 (aI (iD PassesOwn.never rfl (ar3 K T.bq4 (aE (pv 0) (aM (pv 1)))) (eQ K 2 rfl (bG (pn 2 pC) (bG (pn 3 pC) eP))) (aI (bV (PW.pt (rZ (fO (cS K (aS (kJ K) rfl T.gU gG (aE (pv 2) (aM (uO T.cg7 ck2)))) (λ_=>rfl))) (rZ (pc (ai0 K (n:=dU) hr) (pv 2) (pv 3)) (qV (fO (cS K (pf (bj0 T:) hr (aM (px K (pv 2) aF))) (λ_=>rfl))))))) (aL (aT kA)) bI)
 (aL (bV (cS K (aS (bg7 K) rfl T.dx5 dp1 (aM (pm [4] (gX K (pv 2)) (λ_ _ _ _ _=>(pn 4 pC)) (λ_ _ _ _ _=>dN) (λ_ _ _ _ _=>(aS (kJ K) rfl T.gU gG (aE (pv 4) (aM (uO T.ar9 ac3)))))))) (λ_=>rfl)) (aL (aT kA)) bI))))
 (aL (aT kA)))),by unfold qL;walk_at "r"⟩) rfl (λ_=>rfl)
theorem cq8{f:Addr}{fd:FuncData}(F:Fun K "law" "law" qB f fd):FnOk P w K mg base jD 8 f fd ["_law_script"] (bJ K cn 1 av6):=by
 refine ab3 (d:=ay6) F lY (λcdv A outer s H E hr=>⟨_,(aI (pz 1 lY (pf (bm0 T:) hr (aE (pv 0) (aM aF))))
 (aI (pz 2 lY (pf (ar7 T:) hr (aE (aK eS (pf (qI T:) hr (aE (pv 0) (aM aF))) aF) (aM (pv 1)))))
 (aI (pz 3 lY (pf (ac6 T:) hr (aE (kQ (wK K) (pv 0) (iY aF) (iY aF)) (aE (pv 1) (aE (oF (oe K hr) (aK bH (pf (qI T:) hr (aE (pv 0) (aM aF))) aF) aF (ac1 _)) (aM (pv 2)))))))
 (aI (pz 4 lY (pf (as5 T:) hr (aM (pv 1))))
 (aI (pz 5 lY (pf (bq3 T:) hr (aE (pv 4) (aM (pv 3)))))
 (aI (bV (PW.pt (pL (uJ tT tT aF (aS (bT K) rfl T.dR cY (aM (pv 3))) aF) (mS (pc (oe K hr) (aK bH (aK eS (pf (qI T:) hr (aE (pv 0) (aM aF))) aF) aF) aF)))) (aI (dM (pI K (pv 3) (aM (px K (pv 3) aF))))
 (aL (dM (pI K (pv 5) (aM (px K (pv 5) aF)))))) bI)
 (aI (pz 6 lY (fI (eZ K) rfl T.jQ hU (aM (pv 5))))
 (aI (pz 7 lY (pf (yO T:) hr (aE (pv 1) (aM (pv 3)))))
 (aI (pz 8 lY (pf (qM T:) hr (aE (pv 4) (aM (pv 6)))))
 (aI (bV (PW.pt (rZ (fO (cS K (pf (pX T:) hr (aE (pv 8) (aM (pv 7)))) (λ_=>rfl))) (qV (pc (ai0 K (n:=dU) hr) (aS (bT K) rfl T.dR cY (aM (pv 6))) (aS (bT K) rfl T.dR cY (aM (pv 5))))))) (aL (aT kA)) bI)
 (aI (dM (pI K (pv 8) (aM dX)))
 (aI (dM (cs6 K PySem.F.plainAttrs_list PySem.F.slot_list_clear PySem.F.type_list_clear cd2 (pv 6)))
 (aI (bV (fO (cS K (pf (pX T:) hr (aE (pf (qM T:) hr (aE (pv 4) (aM (bc2 K (pv 5) (iY (oV lU aF)))))) (aM (pf (yO T:) hr (aE (pv 1) (aM (bc2 K (pv 3) (iY (oV lU aF))))))))) (λ_=>rfl))) (aL (aT kA)) bI)
 (aI (pz 9 lY (kQ (wK K) (pv 7) (iY (aK bZ aF (aK iR aF (aS (bT K) rfl T.dR cY (aM (px K (pv 1) aF)))))) nZ))
 (aL (aT (rK (pf (pX T:) hr (aE (pf (qM T:) hr (aE (pv 4) (aM (pv 5)))) (aM (pv 7)))) (qX (pf (pX T:) hr (aE (pf (qM T:) hr (aE (pv 4) (aM (pv 6)))) (aM (pv 9)))))))))))))))))))))),by unfold ay6;walk_at "r"⟩) rfl (λ_=>rfl)
end
theorem dd0{l:PySem.W.OpenLaw}{w:World}{K:PySem.W.Frag}{h:Heap}{mg:Str->Option Value}{fa f0:Addr}(X:K.In h)(G:h.Ns mainGlobals mg)(hfa:mg "law"=some (.ref fa))
 {od0 an0:Option Addr}{sl0:Array (Option Value)}{oc0 kV0 dc0 pm0 cd0 ct0:Value}
 (a0:PySem.W.nsIn K mainGlobals "law"=some (some (.ref f0)))(l0:K.lookup f0=some ⟨oc0,od0,.func (PySem.W.fnOf "law" "law" (hV qB) (cZ qB) (aN qB) .none kV0 dc0 pm0 an0 cd0 ct0),sl0⟩)(c0:PySem.W.codeIn K cd0 "law"=true)(k0:PySem.W.keepIn K (.ref f0)=true)
 {cn:Str->Option Addr}{c_Archive c_Ink c_Reign c_Under c_Between c_After c_Same c_Within c_Apart:Addr}{mU qS fQ:List (Str×Value)}
 (T:Txt w K cn mg c_Archive c_Ink c_Reign c_Under c_Between c_After c_Same c_Within c_Apart mU qS fQ)
 (main:∀ns:List Int,ns.length<=63->(∀n∈ns,Builtin.Int.intBits n<=1048576)->av6 [.lst false (ns.map .int)]=.ok (.bl true)):
 ∃fd:FuncData,(∀(s:Shared)(v:Value),BindsTo s fd ⟨[v],[]⟩ [("_law_script",v)])/\∀base:Heap,K.In base->base.Ns mainGlobals mg->FnOk l.prog w K mg base jD 8 fa fd ["_law_script"] (aw6 K):=by
 have e:=hfa.symm.trans (PySem.W.mg_of X G a0)
 cases e
 have F0:=aj1 (st:=qB) l0 c0 k0
 have key:∀base:Heap,FnOk l.prog w K mg base jD 8 fa (PySem.W.fnOf "law" "law" (hV qB) (cZ qB) (aN qB) .none kV0 dc0 pm0 an0 cd0 ct0) ["_law_script"] (aw6 K):=by
  intro base
  exact law_fn (cq8 T F0) main
 exact⟨_,λs v=>.of_eq rfl,λbase _ _=>key base⟩
def fX(n k:Int):Int:=
 let p:=(n%1000000021+4099*k+77)*30011%2140000027
 let f:=p/46133*(p%46133)+6007*(p/46133)+271*(p%46133)+k
 f*(f%1009+7919)%1700000009
theorem ax2(n k:Int):0<=fX n k/\fX n k<1700000009:=⟨Int.emod_nonneg _ (by decide),Int.emod_lt_of_pos _ (by decide)⟩
theorem bb2(n k:Int):dD [.int n,.int k]=.ok (.int (fX n k)):=by
 unfold dD pA
 have q:∀f:Int,mulOk f (f%1009+7919):=λf=>bm3 (by have:=Int.emod_nonneg f (show(1009:Int)≠0 by decide);omega) (by have:=Int.emod_lt_of_pos f (show(0:Int)<1009 by decide);omega)
 have q2:∀p:Int,mulOk (p/46133) (p%46133):=λp=>bm3 (by have:=Int.emod_nonneg p (show(46133:Int)≠0 by decide);omega) (by have:=Int.emod_lt_of_pos p (show(0:Int)<46133 by decide);omega)
 have q3:∀p:Int,sF p 46133:=λp=>⟨by decide,by decide⟩
 walk_at "ev"
 rfl
theorem bw6(o:Bool)(ns:List Int)(k:Nat):eM [.lst o (ns.map .int),.int k]=.ok (.int (ns.getD k 0)):=by
 unfold eM qE
 by_cases h:k<ns.length
 . have h1:decide ((k:Int)<(ns.length:Nat))=true:=by simpa using h
   have h2:atI (ns.map T.int) (k:Int)=some (.int (ns.getD k 0)):=fP (by simp[List.getD_eq_getElem?_getD,List.getElem?_eq_getElem h])
   walk_at "ev"
 . have h1:decide ((k:Int)<(ns.length:Nat))=false:=by simpa using h
   have h2:ns.getD k 0=0:=by simp[List.getD_eq_getElem?_getD,List.getElem?_eq_none (show ns.length<=k by omega)]
   walk_at "ev"
def eight:List Str:=["a","ab","abc","b","ba","zzzzzzzz","zzzzzzzy","q"]
def turned(k:Nat):List Str:=eight.drop k++eight.take k
theorem as8{α:Type}(xs:List α)(k:Nat)(h:k<=xs.length):fM xs (some (k:Int)) none=xs.drop k:=by
 unfold fM
 have e1:HT.sIx xs.length 0 (some (k:Int))=k:=by
  simp only[HT.sIx]
  rw[if_neg (by omega)]
  omega
 have e2:HT.sIx xs.length xs.length none=xs.length:=rfl
 rw[e1,e2,List.take_of_length_le (by simp)]
theorem au1{α:Type}(xs:List α)(k:Nat):fM xs none (some (k:Int))=xs.take k:=by
 unfold fM
 have e1:HT.sIx xs.length 0 none=0:=rfl
 have e2:HT.sIx xs.length xs.length (some (k:Int))=min k xs.length:=by
  simp only[HT.sIx]
  rw[if_neg (by omega)]
  omega
 rw[e1,e2,List.drop_zero,Nat.sub_zero]
 rw[List.take_eq_take_iff]
 omega
theorem ci5(n:Int):pD [.int n]=.ok (.lst true ((turned (n%8).toNat).map .str)):=by
 unfold pD oZ
 have h0:=Int.emod_nonneg n (show(8:Int)≠0 by decide)
 have h1:=Int.emod_lt_of_pos n (show(0:Int)<8 by decide)
 obtain⟨k,hk⟩:=oB h0
 have hk8:k<8:=by omega
 have c1:fM [T.str "a",.str "ab",.str "abc",.str "b",.str "ba",.str "zzzzzzzz",.str "zzzzzzzy",.str "q"] (some (n%8)) none=(eight.drop k).map .str:=by
  rw[hk]
  exact(as8 (eight.map T.str) k (by show k<=8;omega)).trans List.map_drop.symm
 have c2:fM [T.str "a",.str "ab",.str "abc",.str "b",.str "ba",.str "zzzzzzzz",.str "zzzzzzzy",.str "q"] none (some (n%8))=(eight.take k).map .str:=by
  rw[hk]
  exact(au1 (eight.map T.str) k).trans List.map_take.symm
 have l1:(eight.drop k).length+(eight.take k).length<=100000:=by simp[eight];omega
 rw[show(turned (n%8).toNat)=eight.drop k++eight.take k by rw[hk];rfl,List.map_append]
 clear hk
 walk_at "ev"
structure Fm where
 first:Int
 span:Int
 names:List Str
 inks:List (Str×List Int)
 reigns:List (Str×Int×Int)
def dE(o:Bool)(p:Str×List Int):T:=.tup [.str p.1,.lst o (p.2.map .int)]
def dY(p:Str×Int×Int):T:=.tup [.str p.1,.int p.2.1,.int p.2.2]
def fK(o:Bool)(f:Fm):T:=.tup [.int f.first,.int (f.first+f.span),.lst o (f.names.map .str),.lst o (f.inks.map (dE o)),.lst o (f.reigns.map dY)]
def lC(w:Str):Bool:=decide (1<=(w.length:Int))&&(decide ((w.length:Int)<=8)&&w.cps.toList.all λc=>occ "abcdefghijklmnopqrstuvwxyz" ⟨#[c]⟩)
structure TabOk (xs:List Int):Prop where
 l1:1<=xs.length
 l60:xs.length<=60
 b:∀x∈xs,0<=x/\x<=408
 f:xs.Pairwise (λa b=>b<=a)
structure Gd (f:Fm):Prop where
 s0:0<=f.span
 s1:f.span<=300
 f0:-3000<=f.first
 f1:f.first+f.span<=3000
 n1:1<=f.names.length
 n8:f.names.length<=8
 nn:∀x∈f.names,lC x=true
 nd:f.names.Nodup
 i1:2<=f.inks.length
 i6:f.inks.length<=6
 ind:(f.inks.map (·.1)).Nodup
 inn:∀p∈f.inks,lC p.1=true/\TabOk p.2
 r1:2<=f.reigns.length
 r8:f.reigns.length<=8
 rnd:(f.reigns.map (·.1)).Nodup
 rn:∀p∈f.reigns,lC p.1=true/\-4000<=p.2.1/\p.2.1<=4000/\1<=p.2.2/\p.2.2<=100
theorem ao7(l:List Int){i:Int}(h0:0<=i)(h1:i<l.length):∃v,atI (l.map T.int) i=some (.int v)/\v∈l:=by
 obtain⟨k,rfl⟩:=oB h0
 have hk:k<l.length:=by omega
 exact⟨l[k],fP (by simp[hk]),List.getElem_mem hk⟩
def sixI:List Str:=["oak","soot","oa","ink","oakoak","s"]
def sixR:List Str:=["an","b","annab","zz","nn","a"]
theorem bj5(l:List Str){i:Nat}(h1:i<l.length):∃v,atI (l.map T.str) (0+(i:Int))=some (.str v)/\l[i]?=some v:=by
 rw[Int.zero_add]
 exact⟨l[i],fP (by simp[h1]),List.getElem?_eq_getElem h1⟩
theorem jT(l:List (Str×List Int)):aU (l.map (dE false))=true:=jF (λa=>by simp only[dE,dL,aU,lS,Bool.not_false,Bool.and_self]) l
theorem sG(l:List (Str×List Int)):dA (l.map (dE true))=true:=jI (λa=>by simp only[dE,dJ,dA,sM,Bool.and_self]) l
theorem mR(o:Bool):∀l:List (Str×List Int),frzs (l.map (dE o))=l.map (dE false)
 |[]=>rfl
 |p::l=>by simp only[List.map_cons,frzs,mR o l,dE,frz,xC]
theorem jL(l:List (Str×Int×Int)):aU (l.map dY)=true:=jF (λa=>rfl) l
theorem ae1(l:List (Str×Int×Int)):dA (l.map dY)=true:=jI (λa=>rfl) l
theorem oC(l:List (Str×Int×Int)):frzs (l.map dY)=l.map dY:=rL (λa=>rfl) l
theorem cm6(ns:List Int):∃f,lV [.lst false (ns.map .int),.int 8]=.ok (fK true f)/\Gd f:=by
 unfold lV oS
 have ew:=bb2
 have ec:eM [.lst false (ns.map .int),.int 0]=.ok (.int (ns.getD 0 0)):=bw6 false ns 0
 have en:=ci5
 have hp:wU (.int 10) (.int 15)=.ok (.int 1000000000000000):=by
  rw[al0,uK (show vQ 10 15 from⟨by decide,by decide,by decide⟩)]
  rfl
 have hc0:0<=ns.getD 0 0%1000000000000000:=Int.emod_nonneg _ (by decide)
 generalize hc:ns.getD 0 0%1000000000000000=c at hc0
 obtain⟨span,hs,ms⟩:=ao7 [0,1,3,8,20,20,60,300] (i:=c%8) (by omega) (by simp;omega)
 obtain⟨first,hf,mf⟩:=ao7 [-3000,3000-span,-10,1400] (i:=c/8%4) (by omega) (by simp;omega)
 simp only[List.map_cons,List.map_nil]at hs hf
 walk_at "ev"
 clear hs hf hp ec en
 generalize hL:eV _ _ _ _=o
 obtain⟨ρ',rfl,inks,o7,o8,o9,o10,rfl,il,inm,iok⟩:=iQ (λi ρ=>∃(inks:List (Str×List Int))(o7 o8 o9 o10:Option T),ρ=[some (T.lst false (List.map T.int ns)),some (T.int 8),some (T.int c),some (T.int span),
  some (T.int first),some (T.lst true (fM (List.map T.str (turned (c/32%8).toNat)) none (some (1+c/256%8)))),some (T.lst true (inks.map (dE true))),o7,o8,o9,o10,none,none]/\
  inks.length=i/\inks.map (·.1)=sixI.take i/\∀p∈inks,TabOk p.2) hL ⟨[],_,_,_,_,rfl,rfl,rfl,cV⟩ (by
  rintro i t ρ et ⟨inks,o7,o8,o9,o10,rfl,il,inm,iok⟩
  obtain⟨hi,rfl⟩:=jA et
  have hw:=ax2 c 6
  have hi':i<6:=by omega
  obtain⟨m,hm,mm⟩:=ao7 [12,60] (i:=c/18432%4/3) (by omega) (by simp;omega)
  obtain⟨nm,hn,en⟩:=bj5 sixI (i:=i) (by show i<6;exact hi')
  simp only[List.map_cons,List.map_nil,sixI]at hm hn
  have hm0:0<m:=by simp at mm;omega
  have hw2:=Int.emod_nonneg (fX c (0+(i:Int))) (show m≠0 by omega)
  have hw3:=Int.emod_lt_of_pos (fX c (0+(i:Int))) hm0
  have hw4:fX c (0+(i:Int))%m<60:=by simp at mm;omega
  clear mm
  clear hL et
  walk_at "ev"
  generalize hL:eV _ _ _ _=o
  obtain⟨ρ',rfl,xs,d,p10,rfl,xl,xb,xf,hd0,hd1⟩:=iQ (λj ρ=>∃(xs:List Int)(d:Int)(p10:Option T),ρ=[some (T.lst false (List.map T.int ns)),some (T.int 8),some (T.int c),some (T.int span),
   some (T.int first),some (T.lst true (fM (List.map T.str (turned (c/32%8).toNat)) none (some (1+c/256%8)))),some (T.lst true (inks.map (dE true))),some (.int (0+(i:Int))),some (.int d),some (.lst true (xs.map .int)),p10,none,none]/\
   xs.length=j+1/\(∀x∈xs,d<=x/\x<=408)/\xs.Pairwise (λa b=>b<=a)/\0<=d/\d<=408) hL ⟨[400+c/2048%9],_,_,rfl,rfl,by simp;omega,by simp,by omega,by omega⟩ (by
   rintro j t ρ et ⟨xs,d,p10,rfl,xl,xb,xf,hd0,hd1⟩
   obtain⟨hj,rfl⟩:=jA et
   have hj':j<60:=by omega
   have z0:=Int.emod_nonneg (fX c (10*(0+(j:Int))+(0+(i:Int)))) (show(13:Int)≠0 by decide)
   have hl:xs.length<=100000:=by omega
   clear hL et
   walk_at "ev"
   refine⟨xs++[if d-fX c (10*(0+(j:Int))+(0+(i:Int)))%13>0 then d-fX c (10*(0+(j:Int))+(0+(i:Int)))%13 else 0],_,_,by rw[List.map_append];rfl,by simp[xl],?_,?_,?_,?_⟩
   . intro x hx
     rcases List.mem_append.mp hx with hx|hx
     . have:=xb x hx
       split<;>omega
     . have hx:=List.mem_singleton.mp hx
       subst hx
       split<;>omega
   . rw[List.pairwise_append]
     refine⟨xf,by simp,λa ha b hb=>?_⟩
     have hb:=List.mem_singleton.mp hb
     subst hb
     have:=xb a ha
     split<;>omega
   . split<;>omega
   . split<;>omega)
  rw[fY]at xl
  clear hL
  have hl:inks.length<=100000:=by omega
  walk_at "ev"
  refine⟨inks++[(nm,xs)],_,_,_,_,by rw[List.map_append];rfl,by simp[il],?_,?_⟩
  . rw[List.map_append,inm,List.take_succ,en]
    rfl
  . intro p hp
    rcases List.mem_append.mp hp with hp|hp
    . exact iok p hp
    . have hp:=List.mem_singleton.mp hp
      subst hp
      exact⟨by show 1<=xs.length;omega,by show xs.length<=60;omega,λx hx=>⟨Int.le_trans hd0 (xb x hx).1,(xb x hx).2⟩,xf⟩)
 rw[fY]at il inm
 clear hL
 have h9:0<span+9:=by simp at ms;omega
 have b0:=Int.emod_nonneg (fX c 3) (show span+9≠0 by omega)
 have b1:=Int.emod_lt_of_pos (fX c 3) h9
 have b2:=ax2 c 7
 have sb:0<=span/\span<=300:=by simp at ms;omega
 have fb:-3000<=first/\first+span<=3000:=by simp at mf;omega
 walk_at "ev"
 have t1:Int.toNat 1=1:=rfl
 generalize hL:eV _ _ _ _=o
 obtain⟨ρ',rfl,r0,rest,b,q7,rfl,e0,rn,rl,rb,hb0,hb1⟩:=iQ (λi ρ=>∃(r0:Str×Int×Int)(rest:List (Str×Int×Int))(b:Int)(q7:Option T),ρ=[some (T.lst false (List.map T.int ns)),some (T.int 8),some (T.int c),some (T.int span),
  some (T.int first),some (T.lst true (fM (List.map T.str (turned (c/32%8).toNat)) none (some (1+c/256%8)))),some (T.lst true (inks.map (dE true))),q7,o8,o9,o10,some (.int b),some (.lst true (dY r0::rest.map dY))]/\
  r0.1="ann"/\rest.map (·.1)=(sixR.take i).reverse++[("anna":Str)]/\rest.length=i+1/\(∀p∈r0::rest,-4000<=p.2.1/\p.2.1<=4000/\1<=p.2.2/\p.2.2<=100)/\first-5-4*i<=b/\b<=first+span+3+4*i) hL
  ⟨("ann",first-5+fX c 3%(span+9),1+fX c 4%30),[("anna",first-5+fX c 3%(span+9)+3,1+fX c 5%100)],_,_,rfl,rfl,rfl,rfl,by simp;omega,by omega,by omega⟩ (by
  rintro i t ρ et ⟨r0,rest,b,q7,rfl,e0,rn,rl,rb,hb0,hb1⟩
  obtain⟨hi,rfl⟩:=jA et
  have hi':i<6:=by omega
  obtain⟨nm,hn,en⟩:=bj5 sixR (i:=i) (by show i<6;exact hi')
  simp only[List.map_cons,List.map_nil,sixR]at hn
  have l1:(rest.map dY).length+1<=100000:=by rw[List.length_map];omega
  have l2:1<=(rest.map dY).length+1:=by omega
  rw[List.length_map]at l1 l2
  clear hL et
  walk_at "ev"
  rw[if_pos ⟨by decide,by omega⟩]
  refine⟨r0,(nm,b+fX c (8+(0+(i:Int)))%9-4,1+fX c (14+(0+(i:Int)))%60)::rest,_,_,rfl,e0,?_,by simp[rl],?_,?_,?_⟩
  . rw[List.map_cons,rn,List.take_succ,en]
    simp
  . intro p hp
    rcases List.mem_cons.mp hp with rfl|hp
    . exact rb _ List.mem_cons_self
    . rcases List.mem_cons.mp hp with rfl|hp
      . simp only
        omega
      . exact rb p (List.mem_cons_of_mem _ hp)
  . omega
  . omega)
 rw[fY]at rn rl hb0 hb1
 clear hL
 have k0:0<=1+c/256%8:=by omega
 obtain⟨kn,hkn⟩:=oB k0
 have ct:fM (List.map T.str (turned (c/32%8).toNat)) none (some (1+c/256%8))=((turned (c/32%8).toNat).take kn).map .str:=by
  rw[hkn,au1,List.map_take]
 have hk8:1<=kn/\kn<=8:=by omega
 obtain⟨kt,hkt⟩:∃kt:Nat,kt<8/\(c/32%8).toNat=kt:=⟨(c/32%8).toNat,by omega,rfl⟩
 obtain⟨im,him⟩:∃im:Nat,(2<=im/\im<=6)/\(2+fX c 6%5).toNat=im:=⟨_,by omega,rfl⟩
 obtain⟨rm,hrm⟩:∃rm:Nat,rm<=6/\(fX c 7%7).toNat=rm:=⟨_,by omega,rfl⟩
 rw[hkt.2]at ct
 rw[him.2]at il inm
 rw[hrm.2]at rn rl
 rw[hkt.2]
 refine⟨⟨first,span,(turned kt).take kn,inks,r0::rest⟩,?_,?_⟩
 . clear hkn
   walk_at "ev"
   simp only[fK,List.map_cons]
 . have turn_ok:∀k,k<8->(turned k).length=8/\(turned k).Nodup/\∀x∈turned k,lC x=true:=by decide+kernel
   obtain⟨u1,u2,u3⟩:=turn_ok kt hkt.1
   have ink_ok:sixI.Nodup/\∀x∈sixI,lC x=true:=by decide+kernel
   have rg_ok:∀k,k<=6->(("ann":Str)::((sixR.take k).reverse++[("anna":Str)])).Nodup/\∀x∈("ann":Str)::((sixR.take k).reverse++[("anna":Str)]),lC x=true:=by decide+kernel
   obtain⟨v1,v2⟩:=rg_ok rm hrm.1
   have rnm:(r0::rest).map (·.1)=("ann":Str)::((sixR.take rm).reverse++[("anna":Str)]):=by rw[List.map_cons,rn,e0]
   exact{
    s0:=sb.1
    s1:=sb.2
    f0:=fb.1
    f1:=fb.2
    n1:=by simp[u1];omega
    n8:=by simp[u1];omega
    nn:=λx hx=>u3 x (List.mem_of_mem_take hx)
    nd:=u2.sublist (List.take_sublist _ _)
    i1:=by show 2<=inks.length;omega
    i6:=by show inks.length<=6;omega
    ind:=by show(inks.map (·.1)).Nodup;rw[inm];exact ink_ok.1.sublist (List.take_sublist _ _)
    inn:=λp hp=>⟨ink_ok.2 _ (List.mem_of_mem_take (i:=im) (by rw[<-inm];exact List.mem_map_of_mem hp)),iok p hp⟩
    r1:=by simp[rl]
    r8:=by simp[rl];omega
    rnd:=by show((r0::rest).map (·.1)).Nodup;rw[rnm];exact v1
    rn:=λp hp=>⟨v2 _ (by rw[<-rnm];exact List.mem_map_of_mem hp),rb p hp⟩}
theorem oG{n:Nat}(h:n<=100000):n<=sizeLine:=Nat.le_trans h (by decide)
theorem dy6{α:Type}(l:List α)(p:α->Bool):(l.map λc=>p c).all id=l.all p:=by
 induction l with
 |nil=>rfl
 |cons a l ih=>simp only[List.map_cons,List.all_cons,ih,id]
theorem jU{α:Type}{b:T->Fr->Option Fr}{c:Fr->Res Bool}{d:Fr->Res T}{ρ:Fr}{g f:α->T}:∀{l:List α},(∀a∈l,(match b (g a) ρ with|some ρ1=>(c ρ1).bind λk=>if k=true then d ρ1 else .no|none=>.no)=.ok (f a))->bX b c d ρ (l.map g)=.ok (l.map f)
 |[],_=>rfl
 |a::l,h=>by
  have h0:=h a List.mem_cons_self
  have ih:=jU (l:=l) λu hu=>h u (List.mem_cons_of_mem _ hu)
  simp only[List.map_cons,bX]
  cases e:b (g a) ρ with
  |none=>rw[e]at h0;cases h0
  |some ρ1=>
   rw[e]at h0
   simp only at h0⊢
   cases e2:c ρ1 with
   |ok k=>
    rw[e2]at h0
    simp only[mP]at h0⊢
    cases k with
    |true=>rw[if_pos rfl]at h0⊢;rw[h0,ih];rfl
    |false=>rw[if_neg (by decide)]at h0;cases h0
   |ex x=>rw[e2]at h0;cases h0
   |no=>rw[e2]at h0;cases h0
theorem as7(w s:Str)(m:Int)(hw:w.length<=100000):nC [.str w,.str s,.int m]=.ok (.bl (decide (1<=(w.length:Int))&&(decide ((w.length:Int)<=m)&&w.cps.toList.all λc=>occ s ⟨#[c]⟩))):=by
 unfold nC nS
 have h2:w.cps.toList.length<=sizeLine:=by rw[<-cw4];exact oG hw
 have hc:bX (aJ 3) cI (aG (yL false) (aD 3) (aD 1)) [some (.str w),some (.str s),some (.int m),none] (w.cps.toList.map λc=>T.str ⟨#[c]⟩)=.ok ((w.cps.toList.map λc=>occ s ⟨#[c]⟩).map .bl):=by
  rw[List.map_map]
  exact fU λc _=>by walk_at "ev";rfl
 walk_at "ev"
 cases hA:decide (1<=(w.length:Int))with
 |false=>walk_at "ev"
 |true=>
  cases hB:decide ((w.length:Int)<=m)with
  |false=>walk_at "ev"
  |true=>
   walk_at "ev"
   rw[dy6]
theorem vP{w:Str}(h:lC w=true):w.length<=8:=by
 unfold lC at h
 simp only[Bool.and_eq_true,decide_eq_true_iff]at h
 omega
theorem by7{w:Str}(h:lC w=true):pM [.str w]=.ok (.bl true):=by
 unfold pM rX
 have h1:=as7 w "abcdefghijklmnopqrstuvwxyz" 8 (by have:=vP h;omega)
 rw[show(decide (1<=(w.length:Int))&&(decide ((w.length:Int)<=8)&&w.cps.toList.all λc=>occ "abcdefghijklmnopqrstuvwxyz" ⟨#[c]⟩))=true from h]at h1
 walk_at "ev"
theorem ak1(x l u:Int):cM [.int x,.int l,.int u]=.ok (.bl (decide (l<=x)&&decide (x<=u))):=by
 have h:qA [.int x]=.ok (.bl true):=by
  unfold qA qG
  walk_at "ev"
 unfold cM jZ
 cases hA:decide (l<=x)with
 |true=>walk_at "ev"
 |false=>walk_at "ev"
theorem mH{x l u:Int}(h1:l<=x)(h2:x<=u):cM [.int x,.int l,.int u]=.ok (.bl true):=by
 rw[ak1,decide_eq_true h1,decide_eq_true h2]
 rfl
theorem di1{α:Type}(l:List α):l.map (λ_=>T.bl true)=(l.map λ_=>true).map T.bl:=by rw[List.map_map];rfl
theorem qR{α:Type}(o:Bool)(l:List α):lO false [.lst o (l.map λ_=>T.bl true)]=.ok (.bl true):=by
 rw[di1,ca3]
 simp
theorem rG{xs:List Int}{i:Nat}(h:i<xs.length):atI (xs.map T.int) (i:Int)=some (.int (xs.getD i 0)):=
 fP (by rw[List.getElem?_map,List.getElem?_eq_getElem h,List.getD_eq_getElem?_getD,List.getElem?_eq_getElem h];rfl)
theorem dw0{xs:List Int}(h:xs.Pairwise (λa b=>b<=a)){i:Nat}(hi:i+1<xs.length):xs.getD (i+1) 0<=xs.getD i 0:=by
 rw[List.pairwise_iff_getElem]at h
 have:=h i (i+1) (by omega) hi (by omega)
 simpa[List.getD_eq_getElem?_getD,List.getElem?_eq_getElem hi,List.getElem?_eq_getElem (show i<xs.length by omega)]using this
theorem bf3(o:Bool){xs:List Int}(h:TabOk xs):nV [.lst o (xs.map .int)]=.ok (.bl true):=by
 unfold nV qJ
 obtain⟨h1,h60,hb,hf⟩:=h
 have hc1:bX (aJ 1) cI (aX 3 cM (aB (aD 1) (aB (dC (.int 0)) (aB (dC (.int 1000000)) aH)))) [some (.lst o (xs.map .int)),none,none] (xs.map .int)=.ok (xs.map λ_=>.bl true):=by
  refine fU λc hc=>?_
  have:=mH (hb c hc).1 (Int.le_trans (hb c hc).2 (show(408:Int)<=1000000 by decide))
  walk_at "ev"
 have hc2:bX (aJ 2) cI (aG nX (aG aV (aD 0) (aD 2)) (aG aV (aD 0) (aG cT (aD 2) (dC (.int 1))))) [some (.lst o (xs.map .int)),none,none] (iH 1 ((xs.length:Int)-1).toNat)=.ok ((List.range (xs.length-1)).map λ_=>.bl true):=by
  unfold iH
  rw[show((xs.length:Int)-1).toNat=xs.length-1 by omega]
  refine fU λi hi=>?_
  have hi:=List.mem_range.mp hi
  have a1:atI (xs.map T.int) (1+(i:Int))=some (.int (xs.getD (i+1) 0)):=by
   rw[show(1:Int)+(i:Int)=((i+1:Nat):Int) by omega]
   exact rG (by omega)
  have a2:atI (xs.map T.int) (1+(i:Int)-1)=some (.int (xs.getD i 0)):=by
   rw[show(1:Int)+(i:Int)-1=(i:Int) by omega]
   exact rG (by omega)
  have a3:=decide_eq_true (dw0 hf (i:=i) (by omega))
  walk_at "ev"
 have hl2:(iH 1 ((xs.length:Int)-1).toNat).length<=sizeLine:=by rw[fY];exact oG (by omega)
 have k1:decide (1<=(xs.length:Int))=true:=decide_eq_true (by omega)
 have k2:decide ((xs.length:Int)<=60)=true:=decide_eq_true (by omega)
 have y1:=λo=>qR o xs
 have y2:=λo=>qR o (List.range (xs.length-1))
 clear hb hf
 walk_at "ev"
theorem ba4{b l:Int}(h1:-4000<=b)(h2:b<=4000)(h3:1<=l)(h4:l<=100):nR [.int b,.int l]=.ok (.bl true):=by
 unfold nR qC
 have k1:=mH h1 h2
 have k2:=mH h3 h4
 walk_at "ev"
theorem br0{a b:Int}(h1:-3000<=a)(h2:a<=b)(h3:b<=3000)(h4:b-a<=300):oX [.int a,.int b]=.ok (.bl true):=by
 unfold oX pF
 have k1:=mH h1 (show a<=3000 by omega)
 have k2:=mH (show -3000<=b by omega) h3
 have k3:decide (0<=b-a)=true:=decide_eq_true (by omega)
 have k4:decide (b-a<=300)=true:=decide_eq_true (by omega)
 walk_at "ev"
theorem sL{o:Bool}{ss:List Str}{l u:Int}(h1:l<=ss.length)(h2:(ss.length:Int)<=u)(h3:ss.length<=1000)(hn:∀x∈ss,lC x=true)(nd:ss.Nodup):jR [.lst o (ss.map .str),.int l,.int u]=.ok (.bl true):=by
 unfold jR oP
 have hc:bX (aJ 3) cI (aX 1 pM (aB (aD 3) aH)) [some (.lst o (ss.map .str)),some (.int l),some (.int u),none] (ss.map .str)=.ok (ss.map λ_=>.bl true):=by
  refine fU λc hc=>?_
  have:=by7 (hn c hc)
  walk_at "ev"
 have k1:decide (l<=(ss.length:Int))=true:=decide_eq_true h1
 have k2:decide ((ss.length:Int)<=u)=true:=decide_eq_true h2
 have y1:=λo=>qR o ss
 have ls:=cc0 o nd h3
 have l4:ss.length<=100000:=by omega
 clear hn nd
 walk_at "ev"
 simp
theorem bw2{is:List (Str×List Int)}(h6:is.length<=6)(nd:(is.map (·.1)).Nodup)(ok:∀p∈is,lC p.1=true/\TabOk p.2):qO [.lst false (is.map (dE false))]=.ok (.bl true):=by
 unfold qO qN
 have hc1:bX (eD (bB (aJ 1) (bB (aJ 2) eI))) cI (aR (aD 1)) [some (.lst false (is.map (dE false))),none,none] (is.map (dE false))=.ok ((is.map (·.1)).map .str):=by
  rw[List.map_map]
  exact jU λp _=>by simp only[dE];walk_at "ev";rfl
 have hc2:bX (eD (bB (aJ 1) (bB (aJ 2) eI))) cI (aX 1 nV (aB (aD 2) aH)) [some (.lst false (is.map (dE false))),none,none] (is.map (dE false))=.ok (is.map λ_=>.bl true):=by
  refine jU λp hp=>?_
  simp only[dE]
  have:=bf3 false (ok p hp).2
  walk_at "ev"
 have nm:=sL (o:=false) (ss:=is.map (·.1)) (l:=0) (u:=6) (by omega) (by simp;omega) (by simp;omega) (λx hx=>by
  obtain⟨p,hp,rfl⟩:=List.mem_map.mp hx
  exact(ok p hp).1) nd
 have y1:=λo=>qR o is
 have n1:=jT is
 have l4:is.length<=100000:=by omega
 clear ok nd
 walk_at "ev"
theorem ai9{rs:List (Str×Int×Int)}(h8:rs.length<=8)(nd:(rs.map (·.1)).Nodup)(ok:∀p∈rs,lC p.1=true/\-4000<=p.2.1/\p.2.1<=4000/\1<=p.2.2/\p.2.2<=100):nE [.lst false (rs.map dY)]=.ok (.bl true):=by
 unfold nE nH
 have hc1:bX (eD (bB (aJ 1) (bB (aJ 2) (bB (aJ 3) eI)))) cI (aR (aD 1)) [some (.lst false (rs.map dY)),none,none,none] (rs.map dY)=.ok ((rs.map (·.1)).map .str):=by
  rw[List.map_map]
  exact jU λp _=>by simp only[dY];walk_at "ev";rfl
 have hc2:bX (eD (bB (aJ 1) (bB (aJ 2) (bB (aJ 3) eI)))) cI (aX 2 nR (aB (aD 2) (aB (aD 3) aH))) [some (.lst false (rs.map dY)),none,none,none] (rs.map dY)=.ok (rs.map λ_=>.bl true):=by
  refine jU λp hp=>?_
  simp only[dY]
  obtain⟨_,k1,k2,k3,k4⟩:=ok p hp
  have:=ba4 k1 k2 k3 k4
  walk_at "ev"
 have nm:=sL (o:=false) (ss:=rs.map (·.1)) (l:=0) (u:=8) (by omega) (by simp;omega) (by simp;omega) (λx hx=>by
  obtain⟨p,hp,rfl⟩:=List.mem_map.mp hx
  exact(ok p hp).1) nd
 have y1:=λo=>qR o rs
 have n1:=jL rs
 have l4:rs.length<=100000:=by omega
 clear ok nd
 walk_at "ev"
def cD(o:Bool)(f:Fm):T:=.ins o "Archive" ["first","present","letters","inks","reigns"] [.int f.first,.int (f.first+f.span),.lst o (f.names.map .str),.lst o (f.inks.map (dE o)),.lst o (f.reigns.map dY)]
theorem fi1:eU "first" []=none:=rfl
theorem fi2:eU "present" ["first"]=none:=by decide+kernel
theorem fi3:eU "letters" ["first","present"]=none:=by decide+kernel
theorem fi4:eU "inks" ["first","present","letters"]=none:=by decide+kernel
theorem fi5:eU "reigns" ["first","present","letters","inks"]=none:=by decide+kernel
theorem ct1:(["Archive"]:List Str).contains "Archive"=true:=by decide+kernel
theorem aq8{f:Fm}(g:Gd f):nU [.int f.first,.int (f.first+f.span),.lst false (f.names.map .str),.lst false (f.inks.map (dE false)),.lst false (f.reigns.map dY)]=.ok (cD true f):=by
 unfold nU iP cD
 have k1:=br0 g.f0 (show f.first<=f.first+f.span by have:=g.s0;omega) g.f1 (by have:=g.s1;omega)
 have k2:=sL (o:=false) (l:=1) (u:=8) (ss:=f.names) (by have:=g.n1;omega) (by have:=g.n8;omega) (by have:=g.n8;omega) g.nn g.nd
 have k3:=bw2 g.i6 g.ind g.inn
 have k4:=ai9 g.r8 g.rnd g.rn
 have n1:=jT f.inks
 have n2:=jL f.reigns
 have z1:=mR false f.inks
 have z2:=oC f.reigns
 have i1:=fi1
 have i2:=fi2
 have i3:=fi3
 have i4:=fi4
 have i5:=fi5
 have c1:=ct1
 have d0:∀x y z:T,bX (eD (bB (aJ 6) (bB (aJ 7) eI))) cI (cG (aB (aR (aD 6)) (aB (bP gE (aB (aD 7) aH)) aH))) [some x,some (.int f.first),some (.int (f.first+f.span)),some y,some (.lst false (f.inks.map (dE false))),some z,none,none,none,none] (f.inks.map (dE false))=.ok (f.inks.map (dE true)):=λx y z=>
  jU λp _=>by simp only[dE];walk_at "ev"
 have d1:∀x y z:T,bX (eD (bB (aJ 6) (bB (aJ 8) (bB (aJ 9) eI)))) cI (cG (aB (aR (aD 6)) (aB (aR (aD 8)) (aB (aR (aD 9)) aH)))) [some x,some (.int f.first),some (.int (f.first+f.span)),some y,some z,some (.lst false (f.reigns.map dY)),none,none,none,none] (f.reigns.map dY)=.ok (f.reigns.map dY):=λx y z=>
  jU λp _=>by simp only[dY];walk_at "ev"
 have l5:f.reigns.length<=100000:=by have:=g.r8;omega
 have l4:f.inks.length<=100000:=by have:=g.i6;omega
 clear g
 have q1:decide (0<1000)=true:=rfl
 have q2:decide (1<1000)=true:=rfl
 have q3:decide (2<1000)=true:=rfl
 have q4:decide (3<1000)=true:=rfl
 have q5:decide (4<1000)=true:=rfl
 walk_at "ev"
theorem iB(o:Bool)(f:Fm):frz (cD o f)=cD false f:=by simp only[cD,frz,frzs,xH,mR,oC]
theorem iJ(f:Fm):dL (cD false f)=true:=by simp only[cD,dL,aU,jS,jT,jL,Bool.not_false,Bool.and_self]
theorem aa7(f:Fm):dJ (cD true f)=true:=by simp only[cD,dJ,dA,sP,sG,ae1,Bool.and_self]
theorem az8(o:Bool)(f:Fm):eW ["Archive"] "first" (cD o f)=.ok (.int f.first):=by with_unfolding_all rfl
theorem ao0(o:Bool)(f:Fm):eW ["Archive"] "present" (cD o f)=.ok (.int (f.first+f.span)):=by with_unfolding_all rfl
theorem uX(o:Bool)(f:Fm):eW ["Archive"] "letters" (cD o f)=.ok (.lst o (f.names.map .str)):=by with_unfolding_all rfl
theorem ba2(o:Bool)(f:Fm):eW ["Archive"] "inks" (cD o f)=.ok (.lst o (f.inks.map (dE o))):=by with_unfolding_all rfl
theorem ah5(o:Bool)(f:Fm):eW ["Archive"] "reigns" (cD o f)=.ok (.lst o (f.reigns.map dY)):=by with_unfolding_all rfl
theorem jC{α:Type}(a:α)(l:List α):atI (a::l) 0=some a:=fP (j:=0) rfl
theorem iM{α:Type}(a b:α)(l:List α):atI (a::b::l) 1=some b:=fP (j:=1) rfl
theorem pR{α:Type}(a b c:α)(l:List α):atI (a::b::c::l) 2=some c:=fP (j:=2) rfl
theorem tH{α:Type}(a b c d:α)(l:List α):atI (a::b::c::d::l) 3=some d:=fP (j:=3) rfl
theorem ix4{α:Type}(a b c d e:α)(l:List α):atI (a::b::c::d::e::l) 4=some e:=fP (j:=4) rfl
theorem av5{f:Fm}(g:Gd f):jO [fK false f]=.ok (cD true f):=by
 unfold jO mB
 have hc:bX (eD (bB (aJ 2) (bB (aJ 3) eI))) cI (cG (aB (aR (aD 2)) (aB (bP gE (aB (aD 3) aH)) aH))) [some (fK false f),none,none,none] (f.inks.map (dE false))=.ok (f.inks.map (dE true)):=
  jU λp _=>by simp only[dE];walk_at "ev"
 have k:=aq8 g
 have n1:=jT f.inks
 have n2:=jL f.reigns
 have z1:=mR true f.inks
 have z2:=oC f.reigns
 have z3:=sG f.inks
 have l4:f.inks.length<=100000:=by have:=g.i6;omega
 have ca:=aa7 f
 have a0:=λl=>jC (T.int f.first) l
 simp only[fK]at hc⊢
 clear g
 have b0:=@jC T
 have b1:=@iM T
 have b2:=@pR T
 have b3:=@tH T
 have b4:=@ix4 T
 walk_at "ev"
def kF:Option Int->T
 |none=>.non
 |some h=>.int h
def iL:List Str:=["Ink","Reign","Under","Between","After","Same","Within","Apart"]
def eX(o:Bool)(c:Str)(ls:List Int)(lo:Int)(hi:Option Int)(x:Str):T:=.ins o c ["spoken","low","high","text"] [.lst o (ls.map .int),.int lo,kF hi,.str x]
theorem ay2(h:Option Int):dL (kF h)=true/\dJ (kF h)=true/\frz (kF h)=kF h:=by cases h<;>exact⟨rfl,rfl,rfl⟩
theorem uB(h:Option Int):dL (kF h)=true:=(ay2 h).1
theorem yU(h:Option Int):dJ (kF h)=true:=(ay2 h).2.1
theorem bf5(h:Option Int):frz (kF h)=kF h:=(ay2 h).2.2
theorem aw8(c:Str)(ls:List Int)(lo:Int)(hi:Option Int)(x:Str):dJ (eX true c ls lo hi x)=true:=by simp only[eX,dJ,dA,sM,yU,Bool.and_self]
theorem ci2(c:Str)(ls:List Int)(lo:Int)(hi:Option Int)(x:Str):dL (eX false c ls lo hi x)=true:=by simp only[eX,dL,aU,lS,uB,Bool.not_false,Bool.and_self]
theorem dh0(o:Bool)(c:Str)(ls:List Int)(lo:Int)(hi:Option Int)(x:Str):frz (eX o c ls lo hi x)=eX false c ls lo hi x:=by simp only[eX,frz,frzs,xC,bf5]
theorem fj1:eU "spoken" []=none:=rfl
theorem fj2:eU "low" ["spoken"]=none:=by decide+kernel
theorem fj3:eU "high" ["spoken","low"]=none:=by decide+kernel
theorem fj4:eU "text" ["spoken","low","high"]=none:=by decide+kernel
theorem ct8:∀c∈iL,(["Ink","Reign","Under","Between","After","Same","Within","Apart"]:List Str).contains c=true:=by decide+kernel
theorem cz5{ys:List Str}(h:∀y∈ys,y.length<=2000000)(hl:ys.length<=5)(o:Bool):tX (.str " ") [.lst o (ys.map .str)]=.ok (.str (Txt.join " " ys)):=by
 rw[bn1,if_pos]
 have hs:(ys.map (·.length)).sum<=ys.length*2000000:=by
  clear hl
  induction ys with
  |nil=>simp
  |cons y ys ih=>
   have h1:=h y List.mem_cons_self
   have h2:=ih λz hz=>h z (List.mem_cons_of_mem _ hz)
   simp only[List.map_cons,List.sum_cons,List.length_cons]
   omega
 have h1:(" ":Str).length=1:=by decide+kernel
 rw[h1]
 have:ys.length*2000000<=5*2000000:=Nat.mul_le_mul_right _ hl
 omega
theorem vO(n:Str):∀ss:List Str,uU (.str n) (ss.map .str)=some (ss.map λs=>s==n)
 |[]=>rfl
 |s::ss=>by
  simp only[List.map_cons,uU,vO n ss]
  rfl
theorem bo1{n:Str}:∀{ss:List Str}{l:Nat},ss.Nodup->ss[l]?=some n->uN (ss.map λs=>s==n)=some l
 |[],l,_,h=>by simp at h
 |s::ss,0,_,h=>by
  simp at h
  subst h
  simp[uN]
 |s::ss,l+1,nd,h=>by
  rw[List.nodup_cons]at nd
  simp only[List.getElem?_cons_succ]at h
  have hne:(s==n)=false:=by
   simp
   rintro rfl
   exact nd.1 (List.mem_of_getElem? h)
  simp only[List.map_cons,hne,uN,bo1 nd.2 h]
  rfl
theorem cn4{f:Fm}(g:Gd f){l:Nat}{n:Str}(h:f.names[l]?=some n)(o:Bool):tJ (.lst o (f.names.map .str)) [.str n]=.ok (.int (l:Int)):=by
 simp only[tJ,vO,bo1 g.nd h]
theorem ce2{ss:List Str}{n:Str}(h:n∈ss)(o:Bool):yL false (.str n) (.lst o (ss.map .str))=.ok (.bl true):=by
 have:(ss.map λs=>s==n).any id=true:=by
  rw[List.any_map,List.any_eq_true]
  exact⟨n,h,by simp⟩
 simp only[yL,vO,Bool.false_eq_true,if_false,this]
theorem cr1{ts:List T}{ys:List Str}{z:Str}(hn:aU ts=true)(hl:ts.length<=100000)(hx:∀a:Option T,bX (aJ 1) cI (bP sB (aB (aD 1) aH)) [a,none] ts=.ok (ys.map .str))(hj:tX (.str " ") [.lst true (ys.map .str)]=.ok (.str z)):uA [.lst false ts]=.ok (.str z):=by
 unfold uA uI
 walk_at "ev"
theorem cz9{f:Fm}(g:Gd f){c w:Str}(hc:c∈iL){ps:List T}{ds:List T}{nl:List (Str×Nat)}{xs:List Str}{lo:Int}{hi:Option Int}(hp:aU ps=true)(hpl:ps.length<=4)(hk:kt_PARTS.lookup w=some (.tup ds))(hds:aU ds=true)
 (h7:∀a b d e h i:Option T,bX (eD (bB (aJ 7) (bB (aJ 8) eI))) (bK (aG fR (aD 8) (dC (.str "letter")))) (aR (aD 7)) [a,b,d,e,h,i,none,none,none,none] (gW ps ds)=.ok ((nl.map (·.1)).map .str))
 (hn:nl.length<=4)(hnl:∀p∈nl,f.names[p.2]?=some p.1)
 (hx:∀a:Option T,bX (aJ 1) cI (bP sB (aB (aD 1) aH)) [a,none] (.str w::ps)=.ok ((w::xs).map .str))(hxl:xs.length<=4)(hxb:∀y∈w::xs,y.length<=2000000):
 ∃x,gY (bM (cE 10 [.ins true c [] [],cD false f,.str w,.lst false ps,.int lo,kF hi]))=.ok (eX true c (nl.map λp=>(p.2:Int)) lo hi x):=by
 refine⟨Txt.join " " (w::xs),?_⟩
 unfold bM eX
 have hl7:(gW ps ds).length<=sizeLine:=by rw[vU];exact oG (by omega)
 have i1:=fj1
 have i2:=fj2
 have i3:=fj3
 have i4:=fj4
 have cc:=ct8 c hc
 have fl:=uX false f
 have h9:bX (aJ 9) cI (dBM aa1 tJ (dZ (eW ["Archive"] "letters") (aD 1)) (aB (aD 9) aH)) [some (.ins true c [] []),some (cD false f),some (.str w),some (.lst false ps),some (.int lo),some (kF hi),some (.lst true ((nl.map (·.1)).map .str)),none,none,none] ((nl.map (·.1)).map .str)=.ok ((nl.map λp=>(p.2:Int)).map .int):=by
  rw[List.map_map,List.map_map]
  refine fU (α:=Str×Nat) λp hp=>?_
  have:=cn4 g (hnl p hp) false
  walk_at "ev"
  exact this
 have nh:=uB hi
 have jn:=cz5 (ys:=w::xs) hxb (by simp;omega) true
 have sp:=cr1 (ts:=.str w::ps) (by simp only[aU,dL,hp,Bool.and_self]) (by simp only[List.length_cons];omega) hx jn
 have zp:=fS ps hp
 clear hx jn
 have np:=jS
 have hxl2:1+xs.length<=sizeLine:=oG (by omega)
 have hnn:(nl.map (·.1)).length<=100000:=by simp;omega
 have q1:decide (0<1000)=true:=rfl
 have q2:decide (1<1000)=true:=rfl
 have q3:decide (2<1000)=true:=rfl
 have q4:decide (3<1000)=true:=rfl
 clear g hnl hxb
 walk_at "ev"
theorem dx6(a b:T):frz (.tup [a,b])=.tup [frz a,frz b]:=rfl
theorem bx4{a:T}{ts us:List T}(h:a∈gW ts us):∃(i:Nat)(t u:T),ts[i]?=some t/\us[i]?=some u/\a=.tup [t,u]:=by
 obtain⟨i,hi⟩:=List.getElem?_of_mem h
 obtain⟨t,u,h1,h2,h3⟩:=wV hi
 exact⟨i,t,u,h1,h2,h3⟩
theorem by2{ts:List T}{i:Nat}{t:T}(h:aU ts=true)(e:ts[i]?=some t):dL t=true:=by
 rw[wX,List.all_eq_true]at h
 exact h t (List.mem_of_getElem? e)
theorem ba6{f:Fm}{w:Str}{ps:List T}{ds:List Str}(hk:kt_PARTS.lookup w=some (.tup (ds.map .str)))(hp:aU ps=true)(hl:ps.length=ds.length)(h4:ds.length<=4)
 (h:∀(i:Nat)(d:Str)(p:T),ds[i]?=some d->ps[i]?=some p->eN [cD false f,.str d,p]=.ok (.bl true)):pQ [cD false f,.str w,.lst false ps]=.ok (.bl true):=by
 unfold pQ rW
 have na:=iJ f
 have za:=iB false f
 have hc:bX (eD (bB (aJ 3) (bB (aJ 4) eI))) cI (aX 3 eN (aB (aD 0) (aB (aD 3) (aB (aD 4) aH)))) [some (cD false f),some (.str w),some (.lst false ps),none,none] (gW (ds.map .str) ps)=.ok ((gW (ds.map .str) ps).map λ_=>.bl true):=by
  have:=jU (b:=eD (bB (aJ 3) (bB (aJ 4) eI))) (c:=cI) (d:=aX 3 eN (aB (aD 0) (aB (aD 3) (aB (aD 4) aH)))) (ρ:=[some (cD false f),some (.str w),some (.lst false ps),none,none]) (g:=id) (f:=λ_=>T.bl true) (l:=gW (ds.map .str) ps) λa ha=>?_
  . rw[List.map_id]at this
    exact this
  obtain⟨i,t,u,h1,h2,rfl⟩:=bx4 ha
  rw[List.getElem?_map]at h1
  cases e:ds[i]? with
  |none=>rw[e]at h1;cases h1
  |some d=>
   rw[e]at h1
   cases h1
   have k:=h i d u e h2
   have nu:=by2 hp h2
   have zu:=ac5 u nu
   simp only[id]
   clear h hk hp ha
   walk_at "ev"
 have hs:(kt_PARTS.lookup w).isSome=true:=by rw[hk];rfl
 have e1:(!((ps.length:Int)==(ds.length:Int)))=false:=by rw[hl];simp
 have hpl:(gW (ds.map .str) ps).length<=sizeLine:=by rw[vU,List.length_map];exact oG (by omega)
 have y:=λo=>qR o (gW (ds.map .str) ps)
 have nd:=jS ds
 clear h hl
 walk_at "ev"
theorem rC:∀d∈(["ink","reign","dark","place","year","later","gap"]:List Str),(d=="letter")=false:=by decide+kernel
theorem dh1:∀d∈(["reign","dark","place","year","later","gap"]:List Str),(d=="ink")=false:=by decide+kernel
theorem de6:∀d∈(["dark","place","year","later","gap"]:List Str),(d=="reign")=false:=by decide+kernel
theorem eK{f:Fm}{n:Str}(h:n∈f.names):eN [cD false f,.str "letter",.str n]=.ok (.bl true):=by
 unfold eN mJ
 have k:=ce2 h false
 have fl:=uX false f
 have e:(("letter":Str)=="letter")=true:=beq_self_eq_true _
 walk_at "ev"
theorem ct4{f:Fm}(g:Gd f){n:Str}(h:n∈f.inks.map (·.1)):eN [cD false f,.str "ink",.str n]=.ok (.bl true):=by
 unfold eN mJ
 have fl:=ba2 false f
 have e:(("ink":Str)=="ink")=true:=beq_self_eq_true _
 have e1:=rC "ink" (by decide+kernel)
 have k:=ce2 h true
 have b0:=@jC T
 have l6:f.inks.length<=100000:=by have:=g.i6;omega
 have n1:=jT f.inks
 have hc:bX (aJ 3) cI (aR (aG aV (aD 3) (dC (.int 0)))) [some (cD false f),some (.str "ink"),some (.str n),none,none] (f.inks.map (dE false))=.ok ((f.inks.map (·.1)).map .str):=by
  rw[List.map_map]
  exact fU λp _=>by simp only[dE];walk_at "ev";rfl
 clear g h
 walk_at "ev"
theorem ak5{f:Fm}(g:Gd f){n:Str}(h:n∈f.reigns.map (·.1)):eN [cD false f,.str "reign",.str n]=.ok (.bl true):=by
 unfold eN mJ
 have fl:=ah5 false f
 have e:(("reign":Str)=="reign")=true:=beq_self_eq_true _
 have e1:=rC "reign" (by decide+kernel)
 have e2:=dh1 "reign" (by decide+kernel)
 have k:=ce2 h true
 have b0:=@jC T
 have l6:f.reigns.length<=100000:=by have:=g.r8;omega
 have n1:=jL f.reigns
 have hc:bX (aJ 4) cI (aR (aG aV (aD 4) (dC (.int 0)))) [some (cD false f),some (.str "reign"),some (.str n),none,none] (f.reigns.map dY)=.ok ((f.reigns.map (·.1)).map .str):=by
  rw[List.map_map]
  exact fU λp _=>by simp only[dY];walk_at "ev";rfl
 clear g h
 walk_at "ev"
theorem mO{f:Fm}{d:Str}{lo hi i:Int}(hd:d∈(["dark","place","year","later","gap"]:List Str))(hk:kt_NUMBERS.lookup d=some (.tup [.int lo,.int hi]))(h1:lo<=i)(h2:i<=hi):eN [cD false f,.str d,.int i]=.ok (.bl true):=by
 unfold eN mJ
 have e1:=rC d (List.mem_cons_of_mem _ (List.mem_cons_of_mem _ hd))
 have e2:=dh1 d (List.mem_cons_of_mem _ hd)
 have e3:=de6 d hd
 have k:=mH h1 h2
 have b0:=@jC T
 have b1:=@iM T
 walk_at "ev"
theorem bd2:kt_NUMBERS.lookup ("dark":Str)=some (.tup [.int 0,.int 1000000]):=by with_unfolding_all rfl
theorem ci0:kt_NUMBERS.lookup ("place":Str)=some (.tup [.int 1,.int 100]):=by with_unfolding_all rfl
theorem bk1:kt_NUMBERS.lookup ("year":Str)=some (.tup [.int (-4000),.int 4000]):=by with_unfolding_all rfl
theorem bq9:kt_NUMBERS.lookup ("later":Str)=some (.tup [.int 0,.int 300]):=by with_unfolding_all rfl
theorem bf6:kt_NUMBERS.lookup ("gap":Str)=some (.tup [.int (-300),.int 300]):=by with_unfolding_all rfl
abbrev d_ink:List Str:=["letter","ink","dark","dark"]
abbrev d_reign:List Str:=["letter","reign","place"]
abbrev d_under:List Str:=["letter","reign"]
abbrev d_between:List Str:=["letter","year","year"]
abbrev d_two:List Str:=["letter","letter"]
abbrev d_within:List Str:=["letter","letter","later"]
abbrev d_apart:List Str:=["letter","letter","gap","gap"]
theorem cl8:kt_PARTS.lookup ("ink":Str)=some (.tup (d_ink.map .str)):=by with_unfolding_all rfl
theorem ba9:kt_PARTS.lookup ("reign":Str)=some (.tup (d_reign.map .str)):=by with_unfolding_all rfl
theorem cu0:kt_PARTS.lookup ("under":Str)=some (.tup (d_under.map .str)):=by with_unfolding_all rfl
theorem by3:kt_PARTS.lookup ("between":Str)=some (.tup (d_between.map .str)):=by with_unfolding_all rfl
theorem ck1:kt_PARTS.lookup ("after":Str)=some (.tup (d_two.map .str)):=by with_unfolding_all rfl
theorem cq5:kt_PARTS.lookup ("same":Str)=some (.tup (d_two.map .str)):=by with_unfolding_all rfl
theorem bh6:kt_PARTS.lookup ("within":Str)=some (.tup (d_within.map .str)):=by with_unfolding_all rfl
theorem bh8:kt_PARTS.lookup ("apart":Str)=some (.tup (d_apart.map .str)):=by with_unfolding_all rfl
theorem di0:tb_MAKERS.lookup ("ink":Str)=some nQ:=by with_unfolding_all rfl
theorem br8:tb_MAKERS.lookup ("reign":Str)=some lH:=by with_unfolding_all rfl
theorem cr0:tb_MAKERS.lookup ("under":Str)=some lB:=by with_unfolding_all rfl
theorem bi4:tb_MAKERS.lookup ("between":Str)=some jG:=by with_unfolding_all rfl
theorem bc9:tb_MAKERS.lookup ("after":Str)=some lD:=by with_unfolding_all rfl
theorem cg6:tb_MAKERS.lookup ("same":Str)=some lZ:=by with_unfolding_all rfl
theorem by5:tb_MAKERS.lookup ("within":Str)=some kG:=by with_unfolding_all rfl
theorem bd9:tb_MAKERS.lookup ("apart":Str)=some lF:=by with_unfolding_all rfl
theorem cl0{f:Fm}{w d1:Str}{ps ds:List T}{F:List T->Res T}{r:T}(hk:kt_PARTS.lookup w=some (.tup ds))(hp:aU ps=true)(hds:aU ds=true)(hd:pQ [cD false f,.str w,.lst false ps]=.ok (.bl true))(h1:atI ds 1=some (.str d1))
 (h2:(d1=="letter")=false\/((d1=="letter")=true/\∃a b:Str,atI ps 0=some (.str a)/\atI ps 1=some (.str b)/\(a==b)=false))(hm:tb_MAKERS.lookup w=some F)(hF:F [cD false f,.lst false ps]=.ok r)(hc:dJ r=true):
 cJ [cD false f,.str w,.lst false ps]=.ok r:=by
 unfold cJ pE
 have na:=iJ f
 have za:=iB false f
 have zp:=fS ps hp
 rcases h2 with h2|⟨h2,a,b,h3,h4,h5⟩
 . walk_at "ev"
 . walk_at "ev"
def pB(xs:List Int)(d e:Int)(j:Nat):Bool:=decide ((if xs.getD (min j (xs.length-1)) 0-d<0 then -(xs.getD (min j (xs.length-1)) 0-d)else xs.getD (min j (xs.length-1)) 0-d)<=e)
def fL(xs:List Int)(d e:Int)(n:Nat):List Int:=((List.range n).filter (pB xs d e)).map λ(j:Nat)=>(j:Int)
def cx1:List Int->T
 |[]=>.non
 |a::l=>.tup [.int a,.int ((a::l).getD l.length 0)]
theorem mQ(xs:List Int)(d e:Int)(n:Nat):fL xs d e (n+1)=fL xs d e n++(if pB xs d e n=true then [(n:Int)]else []):=by
 unfold fL
 rw[List.range_succ,List.filter_append,List.map_append]
 congr 1
 simp only[List.filter_cons,List.filter_nil]
 split<;>rfl
theorem bs8{l:List Int}{a:Int}:atI ((a::l).map T.int) (-1)=some (.int ((a::l).getD l.length 0)):=by
 have e0:yR ((a::l).map T.int).length (-1)=some l.length:=by
  unfold yR
  rw[if_neg (by decide),List.length_map,List.length_cons,if_pos (by omega)]
  congr 1
  omega
 unfold atI
 rw[e0]
 show((a::l).map T.int)[l.length]?=_
 rw[List.getElem?_map,List.getD_eq_getElem?_getD,List.getElem?_eq_getElem (by simp)]
 rfl
theorem uR(xs:List Int)(d e:Int)(n m:Nat)(h:∀j,n<=j->j<n+m->pB xs d e j=false):fL xs d e (n+m)=fL xs d e n:=by
 induction m with
 |zero=>rfl
 |succ m ih=>
  rw[<-Nat.add_assoc,mQ,ih (λj h1 h2=>h j h1 (by omega)),h (n+m) (by omega) (by omega)]
  simp
theorem xK{xs:List Int}{d e:Int}{n:Nat}(h:pB xs d e n=true):∃l,fL xs d e (n+1)=l++[(n:Int)]:=⟨fL xs d e n,by rw[mQ,if_pos h]⟩
theorem ax0(xs:List Int)(d e:Int)(n:Nat):∀x∈fL xs d e n,x<n:=by
 intro x hx
 unfold fL at hx
 obtain⟨j,hj,rfl⟩:=List.mem_map.mp hx
 have:=List.mem_range.mp (List.mem_filter.mp hj).1
 omega
theorem ar5(l:List Int)(z:Int):(l++[z]).getD l.length 0=z:=by
 rw[List.getD_eq_getElem?_getD,List.getElem?_append_right (Nat.le_refl _)]
 simp
theorem ce6(xs:List Int)(d e:Int)(G:Nat)(h0:0<xs.length)(a:Int)(l:List Int)(hh:fL xs d e (min (xs.length-1) G+1)=a::l):
 cx1 (fL xs d e (G+1))=.tup [.int a,.int (if(a::l).getD l.length 0=((xs.length-1:Nat):Int)then(G:Int)else(a::l).getD l.length 0)]:=by
 have hmem:(a::l).getD l.length 0∈a::l:=by
  rw[List.getD_eq_getElem?_getD,List.getElem?_eq_getElem (by simp)]
  exact List.getElem_mem _
 have hb:=ax0 xs d e (min (xs.length-1) G+1) _ (by rw[hh];exact hmem)
 rcases Nat.lt_or_ge (xs.length-1) G with hG|hG
 . rw[Nat.min_eq_left (by omega)]at hh hb
   have same:∀j,xs.length-1<=j->pB xs d e j=pB xs d e (xs.length-1):=by
    intro j hj
    unfold pB
    rw[Nat.min_eq_right hj,Nat.min_self]
   cases hp:pB xs d e (xs.length-1)with
   |true=>
    have hG':pB xs d e G=true:=by rw[same G (by omega),hp]
    obtain⟨l1,h1⟩:=xK hG'
    obtain⟨l2,h2⟩:=xK hp
    rw[hh]at h2
    have pre:∀m,∃r,fL xs d e (xs.length-1+1+m)=a::l++r:=by
     intro m
     induction m with
     |zero=>exact⟨[],by rw[Nat.add_zero,hh,List.append_nil]⟩
     |succ m ih=>
      obtain⟨r,hr⟩:=ih
      rw[<-Nat.add_assoc,mQ,hr,List.append_assoc]
      exact⟨_,rfl⟩
    obtain⟨r,hr⟩:=pre (G+1-(xs.length-1+1))
    rw[show xs.length-1+1+(G+1-(xs.length-1+1))=G+1 by omega]at hr
    have last:(a::l).getD l.length 0=((xs.length-1:Nat):Int):=by
     have:l.length=l2.length:=by
      have:=congrArg List.length h2
      simp at this
      exact this
     rw[h2,this,ar5]
    rw[last,if_pos rfl,hr]
    rw[hr]at h1
    show T.tup [.int a,.int ((a::(l++r)).getD (l++r).length 0)]=_
    have h1':a::(l++r)=l1++[(G:Int)]:=h1
    have hlen:(l++r).length=l1.length:=by
     have:=congrArg List.length h1'
     simp at this⊢
     exact this
    rw[h1',hlen,ar5]
   |false=>
    have hs:=uR xs d e (xs.length-1+1) (G+1-(xs.length-1+1)) (λj h1 h2=>by rw[same j (by omega),hp])
    rw[show xs.length-1+1+(G+1-(xs.length-1+1))=G+1 by omega,hh]at hs
    rw[hs]
    have hz:fL xs d e (xs.length-1+1)=fL xs d e (xs.length-1):=uR xs d e (xs.length-1) 1 (λj h1 h2=>by rw[show j=xs.length-1 by omega,hp])
    have hb2:=ax0 xs d e (xs.length-1) _ (by rw[<-hz,hh];exact hmem)
    rw[if_neg (by omega)]
    rfl
 . rw[Nat.min_eq_right hG]at hh hb
   rw[hh]
   show T.tup [.int a,.int ((a::l).getD l.length 0)]=_
   have:(if(a::l).getD l.length 0=((xs.length-1:Nat):Int)then(G:Int)else(a::l).getD l.length 0)=(a::l).getD l.length 0:=by
    split
    . next h=>rw[h];rw[h]at hb;omega
    . rfl
   rw[this]
theorem ce1(xs:List Int)(d e:Int)(G:Nat)(h0:0<xs.length)(hh:fL xs d e (min (xs.length-1) G+1)=[]):fL xs d e (G+1)=[]:=by
 rcases Nat.lt_or_ge (xs.length-1) G with hG|hG
 . rw[Nat.min_eq_left (by omega)]at hh
   have hp:pB xs d e (xs.length-1)=false:=by
    cases hp:pB xs d e (xs.length-1)with
    |false=>rfl
    |true=>
     obtain⟨l,h⟩:=xK hp
     rw[hh]at h
     simp at h
   have hs:=uR xs d e (xs.length-1+1) (G+1-(xs.length-1+1)) (λj h1 h2=>by
    have:pB xs d e j=pB xs d e (xs.length-1):=by
     unfold pB
     rw[Nat.min_eq_right (by omega),Nat.min_self]
    rw[this,hp])
   rw[show xs.length-1+1+(G+1-(xs.length-1+1))=G+1 by omega,hh]at hs
   exact hs
 . rw[Nat.min_eq_right hG]at hh
   exact hh
theorem bq5(o:Bool)(xs:List Int)(d e:Int)(G:Nat)(h0:xs≠[])(hx:xs.length<=1000)(hG:G<=1000):pG [.lst o (xs.map .int),.int d,.int e,.int G]=.ok (cx1 (fL xs d e (G+1))):=by
 unfold pG sC
 have hl:0<xs.length:=List.length_pos_iff.mpr h0
 obtain⟨n,hn⟩:∃n,min (xs.length-1) G+1=n:=⟨_,rfl⟩
 have e1:(if(G:Int)<(xs.length:Int)-1 then(G:Int)else(xs.length:Int)-1)+1=(n:Int):=by
  split<;>omega
 have k1:-(2^62)<=(n:Int)/\(n:Int)<2^62:=by omega
 have k2:(iH 0 (n:Int).toNat).length<=sizeLine:=by rw[fY];exact oG (by omega)
 have hc:bX (aJ 7) (bK (aG nX (bP yY (aB (aG cT (aG aV (aD 0) (aD 7)) (aD 1)) aH)) (aD 2))) (aR (aD 7)) [some (.lst o (xs.map .int)),some (.int d),some (.int e),some (.int G),some (.int ((xs.length:Int)-1)),none,none,none] (iH 0 (n:Int).toNat)=.ok ((fL xs d e n).map .int):=by
  unfold iH fL
  rw[Int.toNat_natCast,List.map_map]
  refine aw1 λi hi=>?_
  have hi:=List.mem_range.mp hi
  have a1:=rG (xs:=xs) (i:=i) (by omega)
  have hp:pB xs d e i=decide ((if xs.getD i 0-d<0 then -(xs.getD i 0-d)else xs.getD i 0-d)<=e):=by
   unfold pB
   rw[Nat.min_eq_left (by omega)]
  have z:(0:Int)+(i:Int)=(i:Int):=Int.zero_add _
  refine⟨?_,λ_=>?_⟩
  . rw[hp]
    clear hp
    walk_at "ev"
  . clear hp
    walk_at "ev"
    rfl
 walk_at "ev"
 have hlast:((xs.length:Int)-1)=((xs.length-1:Nat):Int):=by omega
 cases hh:fL xs d e n with
 |nil=>
  rw[<-hn]at hh
  have z1:=ce1 xs d e G hl hh
  have z2:(((0:Nat):Int)==0)=true:=rfl
  rw[z1]
  clear hh hn e1 hc z1 hlast
  walk_at "ev"
  rfl
 |cons a l=>
  rw[<-hn]at hh
  rw[ce6 xs d e G hl a l hh]
  have q1:atI ((a::l).map T.int) 0=some (.int a):=fP (j:=0) rfl
  have q2:atI ((a::l).map T.int) ((((a::l).map T.int).length:Int)-1)=some (.int ((a::l).getD l.length 0)):=by
   have:=rG (xs:=a::l) (i:=l.length) (by simp)
   rw[List.length_map,List.length_cons,show((l.length+1:Nat):Int)-1=(l.length:Int) by omega]
   exact this
  have q3:((((a::l).map T.int).length:Int)==0)=false:=by
   rw[List.length_map,List.length_cons,beq_eq_false_iff_ne]
   omega
  have q3':(((l.length+1:Nat):Int)==0)=false:=by
   rw[beq_eq_false_iff_ne]
   omega
  have q4:(2:Nat)<=sizeLine:=by decide
  have q5:aU ((a::l).map T.int)=true:=lS _
  clear hh hn e1 hc
  generalize(a::l).map T.int=X at q1 q2 q3 q5⊢
  generalize(a::l).getD l.length 0=z at q2⊢
  cases hz:(z==((xs.length-1:Nat):Int))with
  |true=>
   have hz':z=((xs.length-1:Nat):Int):=eq_of_beq hz
   rw[if_pos hz']
   clear hz'
   walk_at "ev"
  |false=>
   have hz':¬z=((xs.length-1:Nat):Int):=by rw[beq_eq_false_iff_ne]at hz;exact hz
   rw[if_neg hz']
   clear hz'
   walk_at "ev"
theorem vZ{α:Type}{b:T->Fr->Option Fr}{body:Fr->bR}{g r:α->T}{key:α->Str}{n:Str}(Iv:Fr->Prop)
 (hs:∀a ρ,Iv ρ->∃ρ1,b (g a) ρ=some ρ1/\(((key a==n)=true/\body ρ1=.rt (r a))\/((key a==n)=false/\∃ρ2,body ρ1=.nx ρ2/\Iv ρ2))):
 ∀{l:List α}{ρ:Fr}{a0:α},Iv ρ->l.find? (λa=>key a==n)=some a0->eV b body (l.map g) ρ=.rt (r a0)
 |[],ρ,a0,_,h=>by simp at h
 |a::l,ρ,a0,hi,h=>by
  obtain⟨ρ1,h1,h2⟩:=hs a ρ hi
  rw[List.find?_cons]at h
  simp only[List.map_cons,eV,h1]
  rcases h2 with⟨k,h2⟩|⟨k,ρ2,h2,h3⟩
  . rw[k]at h
    cases h
    rw[h2]
  . rw[k]at h
    rw[h2]
    exact vZ Iv hs h3 h
theorem aw2{α:Type}{key:α->Str}:∀{l:List α}{a:α},(l.map key).Nodup->a∈l->l.find? (λx=>key x==key a)=some a
 |[],a,_,h=>by cases h
 |x::l,a,nd,h=>by
  rw[List.map_cons,List.nodup_cons]at nd
  rw[List.find?_cons]
  rcases List.mem_cons.mp h with rfl|h
  . simp
  . have:(key x==key a)=false:=by
     simp
     intro e
     exact nd.1 (by rw[e];exact List.mem_map_of_mem h)
    rw[this]
    exact aw2 nd.2 h
theorem cc6{f:Fm}(g:Gd f){p:Str×List Int}(hp:p∈f.inks):eE [cD false f,.str p.1]=.ok (.lst true (p.2.map .int)):=by
 unfold eE iC
 have fl:=ba2 false f
 have n1:=jT f.inks
 have key:∀o2 o3:Option T,eV (eD (bB (aJ 2) (bB (aJ 3) eI))) (cU (bK (aG fR (aD 2) (aD 1))) (bF [] (bP gE (aB (aD 3) aH))) bQ) (f.inks.map (dE false)) [some (cD false f),some (.str p.1),o2,o3]=.rt (.lst true (p.2.map .int)):=λo2 o3=>by
  refine vZ (key:=λq:Str×List Int=>q.1) (r:=λq:Str×List Int=>.lst true (q.2.map .int)) (λρ=>∃o2 o3,ρ=[some (cD false f),some (.str p.1),o2,o3]) ?_ ⟨o2,o3,rfl⟩ (aw2 (key:=λq:Str×List Int=>q.1) g.ind hp)
  rintro a ρ ⟨o2,o3,rfl⟩
  refine⟨[some (cD false f),some (.str p.1),some (.str a.1),some (.lst false (a.2.map .int))],rfl,?_⟩
  cases e:(a.1==p.1)with
  |true=>exact .inl ⟨rfl,by walk_at "ev"⟩
  |false=>exact .inr ⟨rfl,[some (cD false f),some (.str p.1),some (.str a.1),some (.lst false (a.2.map .int))],by walk_at "ev",_,_,rfl⟩
 clear g
 walk_at "ev"
theorem au7{f:Fm}(g:Gd f){p:Str×Int×Int}(hp:p∈f.reigns):iN [cD false f,.str p.1]=.ok (dY p):=by
 unfold iN kY
 have fl:=ah5 false f
 have n1:=jL f.reigns
 have b0:=@jC T
 have key:∀o2:Option T,eV (aJ 2) (cU (bK (aG fR (aG aV (aD 2) (dC (.int 0))) (aD 1))) (bF [] (aR (aD 2))) bQ) (f.reigns.map dY) [some (cD false f),some (.str p.1),o2]=.rt (dY p):=λo2=>by
  refine vZ (key:=λq:Str×Int×Int=>q.1) (r:=λq:Str×Int×Int=>dY q) (λρ=>∃o2,ρ=[some (cD false f),some (.str p.1),o2]) ?_ ⟨o2,rfl⟩ (aw2 (key:=λq:Str×Int×Int=>q.1) g.rnd hp)
  rintro a ρ ⟨o2,rfl⟩
  refine⟨[some (cD false f),some (.str p.1),some (dY a)],rfl,?_⟩
  simp only[dY]
  cases e:(a.1==p.1)with
  |true=>exact .inl ⟨rfl,by walk_at "ev"⟩
  |false=>exact .inr ⟨rfl,[some (cD false f),some (.str p.1),some (.tup [.str a.1,.int a.2.1,.int a.2.2])],by walk_at "ev",_,rfl⟩
 clear g
 walk_at "ev"
theorem wQ{b l k:Int}(h1:1<=k)(h2:k<=l):kM [.int b,.int l,.int k]=.ok (.int (b+k-1)):=by
 unfold kM nO
 have:=mH h1 h2
 walk_at "ev"
theorem pK{i:Int}(h1:-10000000<=i)(h2:i<=10000000):i.natAbs.log2<1920:=by
 by_cases e:i.natAbs=0
 . rw[e];decide
 . rw[Nat.log2_lt e]
   exact Nat.lt_of_lt_of_le (show i.natAbs<2^24 by omega) (Nat.pow_le_pow_right (by decide) (by decide))
theorem pJ{i:Int}(h1:-1000000<=i)(h2:i<=1000000):(toString i:Str).length<=2000000:=by
 have:=PyProof.Rows.len_str_of_int i
 omega
theorem gZ{f:Fm}(g:Gd f){l:Nat}{n:Str}(h:f.names[l]?=some n):n.length<=2000000:=by
 have:=vP (g.nn n (List.mem_of_getElem? h))
 omega
theorem dg7:∀w∈(["ink","reign","under","between","after","same","within","apart"]:List Str),w.length<=2000000:=by decide+kernel
theorem eL:(("letter":Str)=="letter")=true:=beq_self_eq_true _
def cf1(f:Fm):List Str->List T->Prop
 |[],[]=>True
 |d::ds,p::ps=>eN [cD false f,.str d,p]=.ok (.bl true)/\cf1 f ds ps
 |_,_=>False
theorem ap7{f:Fm}:∀{ds:List Str}{ps:List T},cf1 f ds ps->∀(i:Nat)(d:Str)(p:T),ds[i]?=some d->ps[i]?=some p->eN [cD false f,.str d,p]=.ok (.bl true)
 |[],_,_,i,d,p,h,_=>by simp at h
 |_::_,[],h,_,_,_,_,_=>h.elim
 |d::ds,p::ps,h,0,_,_,e1,e2=>by cases e1;cases e2;exact h.1
 |d::ds,p::ps,h,i+1,_,_,e1,e2=>ap7 h.2 i _ _ e1 e2
theorem pN{f:Fm}(g:Gd f){c w d1:Str}{ps:List T}{ds:List Str}(nl:List (Str×Nat))(xs:List Str){lo:Int}{hi:Option Int}{F:List T->Res T}(hk:kt_PARTS.lookup w=some (.tup (ds.map .str)))(hm:tb_MAKERS.lookup w=some F)(hl:ps.length=ds.length)(h4:ds.length<=4/\nl.length<=4/\xs.length<=4)(hp:aU ps=true)(hd:cf1 f ds ps)(hnl:∀p∈nl,f.names[p.2]?=some p.1)(hxb:∀y∈xs,y.length<=2000000)(h1:atI (ds.map .str) 1=some (T.str d1))
 (h2:(d1=="letter")=false\/((d1=="letter")=true/\∃a b:Str,atI ps 0=some (.str a)/\atI ps 1=some (.str b)/\(a==b)=false))
 (h7:∀a b d e h i:Option T,bX (eD (bB (aJ 7) (bB (aJ 8) eI))) (bK (aG fR (aD 8) (dC (.str "letter")))) (aR (aD 7)) [a,b,d,e,h,i,none,none,none,none] (gW ps (ds.map .str))=.ok ((nl.map (·.1)).map .str))
 (hx:∀a:Option T,bX (aJ 1) cI (bP sB (aB (aD 1) aH)) [a,none] (.str w::ps)=.ok ((w::xs).map .str))
 (hF:∀x,gY (bM (cE 10 [.ins true c [] [],cD false f,.str w,.lst false ps,.int lo,kF hi]))=.ok (eX true c (nl.map λp=>(p.2:Int)) lo hi x)->dJ (eX true c (nl.map λp=>(p.2:Int)) lo hi x)=true->F [cD false f,.lst false ps]=.ok (eX true c (nl.map λp=>(p.2:Int)) lo hi x))
 (hc:c∈iL:=by decide+kernel)(hw:w.length<=2000000:=by decide+kernel):
 ∃x,cJ [cD false f,.str w,.lst false ps]=.ok (eX true c (nl.map λp=>(p.2:Int)) lo hi x):=by
 obtain⟨x,e⟩:=cz9 g hc (lo:=lo) (hi:=hi) hp (by omega) hk (jS ds) h7 h4.2.1 hnl hx h4.2.2 (List.forall_mem_cons.mpr ⟨hw,hxb⟩)
 have k:=aw8 c (nl.map λp=>(p.2:Int)) lo hi x
 exact⟨x,cl0 hk hp (jS ds) (ba6 hk hp hl h4.1 (ap7 hd)) h1 h2 hm (hF x e k) k⟩
theorem al1{f:Fm}{l:Nat}{n:Str}(h:f.names[l]?=some n):∀p∈[(n,l)],f.names[p.2]?=some p.1:=List.forall_mem_cons.mpr ⟨h,nofun⟩
theorem al2{f:Fm}{l m:Nat}{n k:Str}(h:f.names[l]?=some n)(h':f.names[m]?=some k):∀p∈[(n,l),(k,m)],f.names[p.2]?=some p.1:=List.forall_mem_cons.mpr ⟨h,al1 h'⟩
theorem xl{a:Str}{xs:List Str}(h:a.length<=2000000)(k:∀y∈xs,y.length<=2000000):∀y∈a::xs,y.length<=2000000:=List.forall_mem_cons.mpr ⟨h,k⟩
theorem x0:∀y∈([]:List Str),y.length<=2000000:=nofun
theorem xn{f:Fm}(g:Gd f){n:Str}(h:lC n=true):n.length<=2000000:=by
 have:=vP h
 omega
local macro_rules | `(tactic| walk_at "7") => `(tactic| (intros; simp only [List.map_cons, List.map_nil, gW, List.zipWith_cons_cons, List.zipWith_nil_left, bX]; walk_at "ev"))
local macro_rules | `(tactic| walk_at "x") => `(tactic| (intros; simp only [bX]; walk_at "ev"))
theorem aq1{f:Fm}(g:Gd f){l:Nat}{n:Str}(h:f.names[l]?=some n){lo hi:Int}(h1:-4000<=lo)(h2:lo<=hi)(h3:hi<=4000):
 ∃x,cJ [cD false f,.str "between",.lst false [.str n,.int lo,.int hi]]=.ok (eX true "Between" [(l:Int)] lo (some hi) x):=by
 have e1:=eL
 have e2:=rC "year" (by decide+kernel)
 have g_lo:=pK (show -10000000<=lo by omega) (by omega)
 have g_hi:=pK (show -10000000<=hi by omega) (by omega)
 refine pN g (c:="Between") (d1:="year") [(n,l)] [n,toString lo,toString hi] by3 bi4 rfl ⟨by decide,by simp,by simp⟩ rfl ⟨eK (List.mem_of_getElem? h),mO (by decide+kernel) bk1 (by omega) (by omega),mO (by decide+kernel) bk1 (by omega) (by omega),trivial⟩ (al1 h) (xl (gZ g h)<|xl (pJ (by omega) (by omega))<|xl (pJ (by omega) (by omega))<|x0) (iM _ _ _) (.inl e2) (by walk_at "7") (by walk_at "x") λx hx cs=>?_
 unfold jG jJ
 have hm:qW [cD false f,.str "between",.lst false [.str n,.int lo,.int hi],.int lo,.int hi]=.ok (eX true "Between" [(l:Int)] lo (some hi) x):=hx
 have b0:=@jC T
 have b1:=@iM T
 have b2:=@pR T
 have b3:=@tH T
 have na:=iJ f
 have za:=iB false f
 have k1:decide (hi<lo)=false:=decide_eq_false (by omega)
 clear hx
 walk_at "ev"
theorem ch1{f:Fm}(g:Gd f){l m:Nat}{n k:Str}(h:f.names[l]?=some n)(h':f.names[m]?=some k)(hne:(n==k)=false):
 ∃x,cJ [cD false f,.str "after",.lst false [.str n,.str k]]=.ok (eX true "After" [(l:Int),(m:Int)] 1 none x):=by
 have e1:=eL
 refine pN g (c:="After") (d1:="letter") [(n,l),(k,m)] [n,k] ck1 bc9 rfl ⟨by decide,by simp,by simp⟩ rfl ⟨eK (List.mem_of_getElem? h),eK (List.mem_of_getElem? h'),trivial⟩ (al2 h h') (xl (gZ g h)<|xl (gZ g h')<|x0) (iM _ _ _) (.inr ⟨e1,n,k,jC _ _,iM _ _ _,hne⟩) (by walk_at "7") (by walk_at "x") λx hx cs=>?_
 unfold lD lK
 have hm:uH [cD false f,.str "after",.lst false [.str n,.str k],.int 1,.non]=.ok (eX true "After" [(l:Int),(m:Int)] 1 none x):=hx
 have b0:=@jC T
 have b1:=@iM T
 have b2:=@pR T
 have b3:=@tH T
 have na:=iJ f
 have za:=iB false f
 clear hx
 walk_at "ev"
theorem ch6{f:Fm}(g:Gd f){l m:Nat}{n k:Str}(h:f.names[l]?=some n)(h':f.names[m]?=some k)(hne:(n==k)=false):
 ∃x,cJ [cD false f,.str "same",.lst false [.str n,.str k]]=.ok (eX true "Same" [(l:Int),(m:Int)] 0 (some 0) x):=by
 have e1:=eL
 refine pN g (c:="Same") (d1:="letter") [(n,l),(k,m)] [n,k] cq5 cg6 rfl ⟨by decide,by simp,by simp⟩ rfl ⟨eK (List.mem_of_getElem? h),eK (List.mem_of_getElem? h'),trivial⟩ (al2 h h') (xl (gZ g h)<|xl (gZ g h')<|x0) (iM _ _ _) (.inr ⟨e1,n,k,jC _ _,iM _ _ _,hne⟩) (by walk_at "7") (by walk_at "x") λx hx cs=>?_
 unfold lZ mC
 have hm:xI [cD false f,.str "same",.lst false [.str n,.str k],.int 0,.int 0]=.ok (eX true "Same" [(l:Int),(m:Int)] 0 (some 0) x):=hx
 have b0:=@jC T
 have b1:=@iM T
 have b2:=@pR T
 have b3:=@tH T
 have na:=iJ f
 have za:=iB false f
 clear hx
 walk_at "ev"
theorem bc7{f:Fm}(g:Gd f){l m:Nat}{n k:Str}(h:f.names[l]?=some n)(h':f.names[m]?=some k)(hne:(n==k)=false){hi:Int}(h1:0<=hi)(h2:hi<=300):
 ∃x,cJ [cD false f,.str "within",.lst false [.str n,.str k,.int hi]]=.ok (eX true "Within" [(l:Int),(m:Int)] 0 (some hi) x):=by
 have e1:=eL
 have e2:=rC "later" (by decide+kernel)
 have g_hi:=pK (show -10000000<=hi by omega) (by omega)
 refine pN g (c:="Within") (d1:="letter") [(n,l),(k,m)] [n,k,toString hi] bh6 by5 rfl ⟨by decide,by simp,by simp⟩ rfl ⟨eK (List.mem_of_getElem? h),eK (List.mem_of_getElem? h'),mO (by decide+kernel) bq9 h1 h2,trivial⟩ (al2 h h') (xl (gZ g h)<|xl (gZ g h')<|xl (pJ (by omega) (by omega))<|x0) (iM _ _ _) (.inr ⟨e1,n,k,jC _ _,iM _ _ _,hne⟩) (by walk_at "7") (by walk_at "x") λx hx cs=>?_
 unfold kG kB
 have hm:sJ [cD false f,.str "within",.lst false [.str n,.str k,.int hi],.int 0,.int hi]=.ok (eX true "Within" [(l:Int),(m:Int)] 0 (some hi) x):=hx
 have b0:=@jC T
 have b1:=@iM T
 have b2:=@pR T
 have b3:=@tH T
 have na:=iJ f
 have za:=iB false f
 clear hx
 walk_at "ev"
theorem aj9{f:Fm}(g:Gd f){l m:Nat}{n k:Str}(h:f.names[l]?=some n)(h':f.names[m]?=some k)(hne:(n==k)=false){lo hi:Int}(h1:-300<=lo)(h2:lo<=hi)(h3:hi<=300):
 ∃x,cJ [cD false f,.str "apart",.lst false [.str n,.str k,.int lo,.int hi]]=.ok (eX true "Apart" [(l:Int),(m:Int)] lo (some hi) x):=by
 have e1:=eL
 have e2:=rC "gap" (by decide+kernel)
 have g_lo:=pK (show -10000000<=lo by omega) (by omega)
 have g_hi:=pK (show -10000000<=hi by omega) (by omega)
 refine pN g (c:="Apart") (d1:="letter") [(n,l),(k,m)] [n,k,toString lo,toString hi] bh8 bd9 rfl ⟨by decide,by simp,by simp⟩ rfl ⟨eK (List.mem_of_getElem? h),eK (List.mem_of_getElem? h'),mO (by decide+kernel) bf6 (by omega) (by omega),mO (by decide+kernel) bf6 (by omega) (by omega),trivial⟩ (al2 h h') (xl (gZ g h)<|xl (gZ g h')<|xl (pJ (by omega) (by omega))<|xl (pJ (by omega) (by omega))<|x0) (iM _ _ _) (.inr ⟨e1,n,k,jC _ _,iM _ _ _,hne⟩) (by walk_at "7") (by walk_at "x") λx hx cs=>?_
 unfold lF lE
 have hm:tU [cD false f,.str "apart",.lst false [.str n,.str k,.int lo,.int hi],.int lo,.int hi]=.ok (eX true "Apart" [(l:Int),(m:Int)] lo (some hi) x):=hx
 have b0:=@jC T
 have b1:=@iM T
 have b2:=@pR T
 have b3:=@tH T
 have na:=iJ f
 have za:=iB false f
 have k1:decide (hi<lo)=false:=decide_eq_false (by omega)
 clear hx
 walk_at "ev"
theorem cb0{f:Fm}(g:Gd f){l:Nat}{n:Str}(h:f.names[l]?=some n){p:Str×Int×Int}(hp:p∈f.reigns){k:Int}(h1:1<=k)(h2:k<=p.2.2):
 ∃x,cJ [cD false f,.str "reign",.lst false [.str n,.str p.1,.int k]]=.ok (eX true "Reign" [(l:Int)] (p.2.1+k-1) (some (p.2.1+k-1)) x):=by
 have e1:=eL
 have h100:=(g.rn p hp).2.2.2.2
 have e2:=rC "reign" (by decide+kernel)
 have e3:=rC "place" (by decide+kernel)
 have g_k:=pK (show -10000000<=k by omega) (by omega)
 refine pN g (c:="Reign") (d1:="reign") [(n,l)] [n,p.1,toString k] ba9 br8 rfl ⟨by decide,by simp,by simp⟩ rfl ⟨eK (List.mem_of_getElem? h),ak5 g (List.mem_map_of_mem hp),mO (by decide+kernel) ci0 h1 (by omega),trivial⟩ (al1 h) (xl (gZ g h)<|xl (xn g (g.rn p hp).1)<|xl (pJ (by omega) (by omega))<|x0) (iM _ _ _) (.inl e2) (by walk_at "7") (by walk_at "x") λx hx cs=>?_
 unfold lH lJ
 have hm:tW [cD false f,.str "reign",.lst false [.str n,.str p.1,.int k],.int (p.2.1+k-1),.int (p.2.1+k-1)]=.ok (eX true "Reign" [(l:Int)] (p.2.1+k-1) (some (p.2.1+k-1)) x):=hx
 have b0:=@jC T
 have b1:=@iM T
 have b2:=@pR T
 have b3:=@tH T
 have na:=iJ f
 have za:=iB false f
 have k1:=au7 g hp
 have k2:=wQ (b:=p.2.1) h1 h2
 simp only[dY]at k1
 clear hx
 walk_at "ev"
theorem cb2{f:Fm}(g:Gd f){l:Nat}{n:Str}(h:f.names[l]?=some n){p:Str×Int×Int}(hp:p∈f.reigns):
 ∃x,cJ [cD false f,.str "under",.lst false [.str n,.str p.1]]=.ok (eX true "Under" [(l:Int)] p.2.1 (some (p.2.1+p.2.2-1)) x):=by
 have e1:=eL
 have e2:=rC "reign" (by decide+kernel)
 refine pN g (c:="Under") (d1:="reign") [(n,l)] [n,p.1] cu0 cr0 rfl ⟨by decide,by simp,by simp⟩ rfl ⟨eK (List.mem_of_getElem? h),ak5 g (List.mem_map_of_mem hp),trivial⟩ (al1 h) (xl (gZ g h)<|xl (xn g (g.rn p hp).1)<|x0) (iM _ _ _) (.inl e2) (by walk_at "7") (by walk_at "x") λx hx cs=>?_
 unfold lB kZ
 have hm:uF [cD false f,.str "under",.lst false [.str n,.str p.1],.int p.2.1,.int (p.2.1+p.2.2-1)]=.ok (eX true "Under" [(l:Int)] p.2.1 (some (p.2.1+p.2.2-1)) x):=hx
 have b0:=@jC T
 have b1:=@iM T
 have b2:=@pR T
 have b3:=@tH T
 have na:=iJ f
 have za:=iB false f
 have k1:=au7 g hp
 have k2:=wQ (b:=p.2.1) (l:=p.2.2) (k:=p.2.2) (g.rn p hp).2.2.2.1 (Int.le_refl _)
 simp only[dY]at k1
 clear hx
 walk_at "ev"
theorem cu1:eU "table" ["first","present","letters","inks","reigns"]=none:=by decide+kernel
theorem cq6:tm_table.lookup ("Archive":Str)=some eE:=by with_unfolding_all rfl
theorem bv2{b:Bool}{f:Fm}{o:Fr->Res T}{r:Fr->Res (List T)}{ρ:Fr}{ts:List T}(ho:o ρ=.ok (cD b f))(hr:r ρ=.ok ts):kC 2 "table" tm_table o r ρ=rY 2 eE (cD b f::ts):=by
 simp only[kC,ho,hr,mP,cD,cu1,cq6]
local macro_rules | `(tactic| walk_at "7") => `(tactic| (intros; simp only [List.map_cons, List.map_nil, gW, List.zipWith_cons_cons, List.zipWith_nil_left, bX]; walk_at "ev"))
local macro_rules | `(tactic| walk_at "x") => `(tactic| (intros; simp only [bX]; walk_at "ev"))
theorem cm8{f:Fm}(g:Gd f){l:Nat}{n:Str}(h:f.names[l]?=some n){p:Str×List Int}(hp:p∈f.inks){d e:Int}(h1:0<=d)(h2:d<=1000000)(h3:0<=e)(h4:e<=1000000){a z:Int}{r:List Int}(hh:fL p.2 d e (f.span.toNat+1)=a::r)(hz:(a::r).getD r.length 0=z):
 ∃x,cJ [cD false f,.str "ink",.lst false [.str n,.str p.1,.int d,.int e]]=.ok (eX true "Ink" [(l:Int)] (f.first+f.span-z) (some (f.first+f.span-a)) x):=by
 have e1:=eL
 have e2:=rC "ink" (by decide+kernel)
 have e3:=rC "dark" (by decide+kernel)
 have g_d:=pK (show -10000000<=d by omega) (by omega)
 have g_e:=pK (show -10000000<=e by omega) (by omega)
 refine pN g (c:="Ink") (d1:="ink") [(n,l)] [n,p.1,toString d,toString e] cl8 di0 rfl ⟨by decide,by simp,by simp⟩ rfl ⟨eK (List.mem_of_getElem? h),ct4 g (List.mem_map_of_mem hp),mO (by decide+kernel) bd2 (by omega) (by omega),mO (by decide+kernel) bd2 (by omega) (by omega),trivial⟩ (al1 h) (xl (gZ g h)<|xl (xn g (g.inn p hp).1)<|xl (pJ (by omega) (by omega))<|xl (pJ (by omega) (by omega))<|x0) (iM _ _ _) (.inl e2) (by clear hh hz;walk_at "7") (by clear hh hz;walk_at "x") λx hx cs=>?_
 unfold nQ nM
 have hm:zL [cD false f,.str "ink",.lst false [.str n,.str p.1,.int d,.int e],.int (f.first+f.span-z),.int (f.first+f.span-a)]=.ok (eX true "Ink" [(l:Int)] (f.first+f.span-z) (some (f.first+f.span-a)) x):=hx
 have b0:=@jC T
 have b1:=@iM T
 have b2:=@pR T
 have b3:=@tH T
 have na:=iJ f
 have za:=iB false f
 have fp:=ao0 false f
 have ff:=az8 false f
 have ht:=cc6 g hp
 have hA:pG [.lst false (p.2.map .int),.int d,.int e,.int (f.first+f.span-f.first)]=.ok (.tup [.int a,.int z]):=by
  have:=bq5 false p.2 d e f.span.toNat (by have:=(g.inn p hp).2.l1;intro q;rw[q]at this;simp at this) (by have:=(g.inn p hp).2.l60;omega) (by have:=g.s1;omega)
  rw[hh]at this
  simp only[cx1,hz]at this
  rw[show f.first+f.span-f.first=(f.span.toNat:Int) by have:=g.s0;omega]
  exact this
 have hmt:kC 2 "table" tm_table (aD 0) (aB (aG aV (aD 1) (dC (.int 1))) aH) [some (cD false f),some (.lst false [.str n,.str p.1,.int d,.int e]),none]=.ok (.lst true (p.2.map .int)):=by
  rw[bv2 (b:=false) (f:=f) (ts:=[.str p.1]) rfl (by clear hA hm hx hh hz;walk_at "ev")]
  clear hA hm hx hh hz
  walk_at "ev"
 clear hh hz
 clear hx
 walk_at "ev"
theorem cx2(c:Int)(m:Nat)(hm:m<=8):∃xs:List Int,mT [.int c,.int m]=.ok (.lst true (xs.map .int))/\xs.length=m/\∀x∈xs,0<=x:=by
 unfold mT rV
 have ew:=bb2
 have h60:wU (.int 10) (.int 60)=.ok (.int 1000000000000000000000000000000000000000000000000000000000000):=by
  rw[al0,uK (show vQ 10 60 from⟨by decide,by decide,by decide⟩)]
  rfl
 have h18:wU (.int 10) (.int 18)=.ok (.int 1000000000000000000):=by
  rw[al0,uK (show vQ 10 18 from⟨by decide,by decide,by decide⟩)]
  rfl
 walk_at "ev"
 generalize hL:eV _ _ _ _=o
 obtain⟨ρ',rfl,xs,r,o4,rfl,xl,xb,hr⟩:=iQ (λi ρ=>∃(xs:List Int)(r:Int)(o4:Option T),ρ=[some (.int c),some (.int m),some (.int r),some (.lst true (xs.map .int)),o4]/\xs.length=i/\(∀x∈xs,0<=x)/\0<=r) hL ⟨[],_,_,rfl,rfl,cV,Int.emod_nonneg _ (by decide)⟩ (by
  rintro i t ρ et ⟨xs,r,o4,rfl,xl,xb,hr⟩
  obtain⟨hi,rfl⟩:=jA et
  have hl:xs.length<=100000:=by omega
  clear hL et
  by_cases hA:c<0\/1000000000000000000<=c
  . have k:(decide (c<0)||decide (1000000000000000000<=c))=true:=by simpa using hA
    cases h1:decide (c<0)with
    |true=>
     walk_at "ev"
     exact⟨xs++[r%10007],_,_,by rw[List.map_append];rfl,by simp[xl],λx hx=>(List.mem_append.mp hx).elim (xb x) (λq=>by rw[List.mem_singleton.mp q];exact Int.emod_nonneg _ (by decide)),by omega⟩
    |false=>
     have h2:decide (1000000000000000000<=c)=true:=by rw[h1]at k;simpa using k
     walk_at "ev"
     exact⟨xs++[r%10007],_,_,by rw[List.map_append];rfl,by simp[xl],λx hx=>(List.mem_append.mp hx).elim (xb x) (λq=>by rw[List.mem_singleton.mp q];exact Int.emod_nonneg _ (by decide)),by omega⟩
  . have h1:decide (c<0)=false:=decide_eq_false (by omega)
    have h2:decide (1000000000000000000<=c)=false:=decide_eq_false (by omega)
    walk_at "ev"
    exact⟨xs++[fX (fX c (0+(i:Int))+c) (0+(i:Int))],_,_,by rw[List.map_append];rfl,by simp[xl],λx hx=>(List.mem_append.mp hx).elim (xb x) (λq=>by rw[List.mem_singleton.mp q];exact(ax2 _ _).1),hr⟩)
 rw[fY]at xl
 refine⟨xs,?_,by omega,xb⟩
 clear hL
 walk_at "ev"
theorem bb9(c:Int){f:Fm}(g:Gd f):∃ys:List Int,kT [.int c,fK false f]=.ok (.lst true (ys.map .int))/\ys.length=f.names.length/\∀y∈ys,f.first<=y/\y<=f.first+f.span:=by
 obtain⟨xs,h1,h2,h3⟩:=cx2 c f.names.length g.n8
 have hs:=g.s0
 have hm:0<f.first+f.span-f.first+1:=by omega
 refine⟨xs.map λx=>f.first+x%(f.first+f.span-f.first+1),?_,by simp[h2],λy hy=>?_⟩
 . unfold kT nB
   have hx:xs.length<=100000:=by have:=g.n8;omega
   have hc:bX (aJ 2) cI (aG bU (aG aV (aD 1) (dC (.int 0))) (aG bW (aD 2) (aG bU (aG cT (aG aV (aD 1) (dC (.int 1))) (aG aV (aD 1) (dC (.int 0)))) (dC (.int 1))))) [some (.int c),some (fK false f),none] (xs.map .int)=.ok ((xs.map λx=>f.first+x%(f.first+f.span-f.first+1)).map .int):=by
    rw[List.map_map]
    refine fU λx _=>?_
    simp only[fK]
    have b0:=@jC T
    have b1:=@iM T
    clear h1 h2 h3
    walk_at "ev"
    rfl
   have b2:=@pR T
   simp only[fK]at hc⊢
   clear h2 h3
   walk_at "ev"
 . obtain⟨x,_,rfl⟩:=List.mem_map.mp hy
   have:=Int.emod_nonneg x (show f.first+f.span-f.first+1≠0 by omega)
   have:=Int.emod_lt_of_pos x hm
   omega
structure Sd where
 word:Str
 cls:Str
 parts:List T
 ls:List Nat
 lo:Int
 hi:Option Int
def gJ(o:Bool)(s:Sd):T:=.tup [.str s.word,.lst o s.parts,.tup (s.ls.map λ(l:Nat)=>T.int (l:Int)),.tup [.int s.lo,kF s.hi]]
structure SdOk (f:Fm) (s:Sd):Prop where
 np:aU s.parts=true
 cp:dA s.parts=true
 c8:s.cls∈iL
 l12:s.ls.length=1\/s.ls.length=2
 made:∃x,cJ [cD false f,.str s.word,.lst false s.parts]=.ok (eX true s.cls (s.ls.map λ(l:Nat)=>(l:Int)) s.lo s.hi x)
theorem cl7:("Ink":Str)∈iL:=by decide+kernel
theorem cc2:("Reign":Str)∈iL:=by decide+kernel
theorem cv1:("Under":Str)∈iL:=by decide+kernel
theorem ag0:("Between":Str)∈iL:=by decide+kernel
theorem cq0:("After":Str)∈iL:=by decide+kernel
theorem cz6:("Same":Str)∈iL:=by decide+kernel
theorem bo7:("Within":Str)∈iL:=by decide+kernel
theorem ae9:("Apart":Str)∈iL:=by decide+kernel
theorem sT{f:Fm}{k:Nat}(h:k<f.names.length):∃n,f.names[k]?=some n/\atI (f.names.map T.str) (k:Int)=some (.str n):=
 ⟨f.names[k],List.getElem?_eq_getElem h,fP (by simp[h])⟩
theorem bw5{xs:List Int}{k:Nat}(h:k<xs.length):∃v∈xs,atI (xs.map T.int) (k:Int)=some (.int v):=
 ⟨xs[k],List.getElem_mem h,fP (by simp[h])⟩
theorem ce8{xs:List Int}(h:xs.length=6)(hb:∀x∈xs,0<=x):∃a b c d e g:Int,xs.map T.int=[.int a,.int b,.int c,.int d,.int e,.int g]/\0<=a/\0<=b/\0<=c/\0<=d/\0<=e/\0<=g:=by
 match xs,h with
 |[a,b,c,d,e,g],_=>exact⟨a,b,c,d,e,g,rfl,hb a (by simp),hb b (by simp),hb c (by simp),hb d (by simp),hb e (by simp),hb g (by simp)⟩
theorem cc3{f:Fm}(g:Gd f){i j:Nat}{n k:Str}(h1:f.names[i]?=some n)(h2:f.names[j]?=some k)(h:i≠j):(n==k)=false:=by
 simp
 rintro rfl
 obtain⟨a1,a2⟩:=List.getElem?_eq_some_iff.mp h1
 obtain⟨b1,b2⟩:=List.getElem?_eq_some_iff.mp h2
 exact h ((List.getElem_inj g.nd).mp (a2.trans b2.symm))
theorem bc5 {f : Fm} (g : Gd f) {a b c d e w : Int} (hc : 0 ≤ c) (hd : 0 ≤ d) (he : 0 ≤ e) {i j : Nat} (hi : i < f.names.length) (hj : j < f.names.length) : ∃ s, qK [.lst false [.int a, .int b, .int c, .int d, .int e, .int w], fK false f, .int i, .int j] = .ok (gJ true s) ∧ SdOk f s := by
  obtain ⟨n, hn, an⟩ := sT hi
  obtain ⟨k, hk, ak⟩ := sT hj
  unfold qK pZ
  have b0 := @jC T
  have b1 := @iM T
  have b2 := @pR T
  have b3 := @tH T
  have b4 := @ix4 T
  have s0 := g.s0
  have s1 := g.s1
  have f0 := g.f0
  have f1 := g.f1
  have m1 : 0 < f.first + f.span - f.first + 61 := by omega
  have m2 := Int.emod_nonneg d (show f.first + f.span - f.first + 61 ≠ 0 by omega)
  have m3 := Int.emod_lt_of_pos d m1
  simp only [fK]
  by_cases q : i = j ∨ c % 2 = 0
  · have k0 : (((i : Int) == (j : Int)) || (c % 2 == 0)) = true := by
      rcases q with q | q
      · subst q; simp
      · simp [q]
    obtain ⟨x, hx⟩ := aq1 g hn (lo := f.first - 30 + d % (f.first + f.span - f.first + 61)) (hi := f.first - 30 + d % (f.first + f.span - f.first + 61) + e % 40) (by omega) (by omega) (by omega)
    refine ⟨⟨"between", "Between", [.str n, .int (f.first - 30 + d % (f.first + f.span - f.first + 61)), .int (f.first - 30 + d % (f.first + f.span - f.first + 61) + e % 40)], [i], f.first - 30 + d % (f.first + f.span - f.first + 61), some (f.first - 30 + d % (f.first + f.span - f.first + 61) + e % 40)⟩, ?_, ⟨rfl, rfl, ag0, .inl rfl, x, hx⟩⟩
    have ct : fM [T.str n, T.str k] none (some 1) = [T.str n] := au1 [T.str n, T.str k] 1
    clear hx hn hk
    cases h1 : ((i : Int) == (j : Int)) with
    | true =>
      walk_at "ev"
      rfl
    | false =>
      have h2 : (c % 2 == 0) = true := by rw [h1] at k0; simpa using k0
      walk_at "ev"
      rfl
  · have h1 : ((i : Int) == (j : Int)) = false := by simp; omega
    have h2 : (c % 2 == 0) = false := by simp; omega
    have hne := cc3 g hn hk (by omega)
    obtain ⟨x, hx⟩ := aj9 g hn hk hne (lo := d % 601 - 300) (hi := if d % 601 - 300 + e % 40 < 300 then d % 601 - 300 + e % 40 else 300) (by omega) (by split <;> omega) (by split <;> omega)
    refine ⟨⟨"apart", "Apart", [.str n, .str k, .int (d % 601 - 300), .int (if d % 601 - 300 + e % 40 < 300 then d % 601 - 300 + e % 40 else 300)], [i, j], d % 601 - 300, some (if d % 601 - 300 + e % 40 < 300 then d % 601 - 300 + e % 40 else 300)⟩, ?_, ⟨rfl, rfl, ae9, .inr rfl, x, hx⟩⟩
    clear hx hn hk
    walk_at "ev"
    rfl
theorem zF{f:Fm}(g:Gd f){num gap:Int}(hn0:0<=num){i j:Nat}(hi:i<f.names.length)(hj:j<f.names.length)(hij:i≠j)(g0:-300<=gap)(g1:gap<=300):∃s,nG [.int num,fK false f,.tup [.int i,.int j],.int gap]=.ok (gJ true s)/\SdOk f s:=by
 obtain⟨n,hn,an⟩:=sT hi
 obtain⟨k,hk,ak⟩:=sT hj
 have hne:=cc3 g hn hk hij
 unfold nG nN
 have b2:=@pR T
 obtain⟨x1,hx1⟩:=ch6 g hn hk hne
 obtain⟨x2,hx2⟩:=ch1 g hn hk hne
 simp only[fK]
 have hc:∀q1 q2 q3 q4 q5:Option T,bX (aJ 9) cI (aR (aG aV (aG aV (aD 1) (dC (.int 2))) (aD 9))) [some (.int num),some (.tup [.int f.first,.int (f.first+f.span),.lst false (f.names.map .str),.lst false (f.inks.map (dE false)),.lst false (f.reigns.map dY)]),some (.tup [.int i,.int j]),some (.int gap),q1,q2,q3,q4,q5,none] [.int i,.int j]=.ok [.str n,.str k]:=by
  intros
  simp only[bX]
  walk_at "ev"
 have z1:=Int.emod_nonneg (num/4) (show(4:Int)≠0 by decide)
 by_cases cA:gap=0/\num%4=0
 . refine⟨⟨"same","Same",[.str n,.str k],[i,j],0,some 0⟩,?_,⟨rfl,rfl,cz6,.inr rfl,x1,hx1⟩⟩
   have h1:(gap==0)=true:=by simp[cA.1]
   have h2:(num%4==0)=true:=by simp[cA.2]
   clear hx1 hx2 hn hk cA
   walk_at "ev"
   rfl
 by_cases cB:0<gap/\num%4<2
 . refine⟨⟨"after","After",[.str n,.str k],[i,j],1,none⟩,?_,⟨rfl,rfl,cq0,.inr rfl,x2,hx2⟩⟩
   have h1:(gap==0)=false:=by simp;omega
   have h3:decide (0<gap)=true:=decide_eq_true cB.1
   have h4:decide (num%4<2)=true:=decide_eq_true cB.2
   clear hx1 hx2 hn hk cA cB
   walk_at "ev"
   rfl
 have tA:(gap==0)=false\/((gap==0)=true/\(num%4==0)=false):=by
  by_cases q:gap=0
  . exact .inr ⟨by simp[q],by simp;omega⟩
  . exact .inl (by simp[q])
 have tB:decide (0<gap)=false\/(decide (0<gap)=true/\decide (num%4<2)=false):=by
  by_cases q:0<gap
  . exact .inr ⟨decide_eq_true q,decide_eq_false (by omega)⟩
  . exact .inl (decide_eq_false q)
 by_cases cC:0<=gap/\num%4=2
 . obtain⟨x3,hx3⟩:=bc7 g hn hk hne (hi:=if gap+num/4%4<300 then gap+num/4%4 else 300) (by split<;>omega) (by split<;>omega)
   refine⟨⟨"within","Within",[.str n,.str k,.int (if gap+num/4%4<300 then gap+num/4%4 else 300)],[i,j],0,some (if gap+num/4%4<300 then gap+num/4%4 else 300)⟩,?_,⟨rfl,rfl,bo7,.inr rfl,x3,hx3⟩⟩
   have h5:decide (0<=gap)=true:=decide_eq_true cC.1
   have h6:(num%4==2)=true:=by simp[cC.2]
   clear hx1 hx2 hx3 hn hk cA cB cC
   rcases tA with h1|⟨h1,h2⟩<;>rcases tB with h3|⟨h3,h4⟩<;>(walk_at "ev";rfl)
 have tC:decide (0<=gap)=false\/(decide (0<=gap)=true/\(num%4==2)=false):=by
  by_cases q:0<=gap
  . exact .inr ⟨decide_eq_true q,by simp;omega⟩
  . exact .inl (decide_eq_false q)
 obtain⟨x4,hx4⟩:=aj9 g hn hk hne (lo:=if gap-num/4%6>-300 then gap-num/4%6 else -300) (hi:=if gap+num/4/6%6<300 then gap+num/4/6%6 else 300) (by split<;>omega) (by split<;>split<;>omega) (by split<;>omega)
 refine⟨⟨"apart","Apart",[.str n,.str k,.int (if gap-num/4%6>-300 then gap-num/4%6 else -300),.int (if gap+num/4/6%6<300 then gap+num/4/6%6 else 300)],[i,j],if gap-num/4%6>-300 then gap-num/4%6 else -300,some (if gap+num/4/6%6<300 then gap+num/4/6%6 else 300)⟩,?_,⟨rfl,rfl,ae9,.inr rfl,x4,hx4⟩⟩
 clear hx1 hx2 hx4 hn hk cA cB cC
 rcases tA with h1|⟨h1,h2⟩<;>rcases tB with h3|⟨h3,h4⟩<;>rcases tC with h5|⟨h5,h6⟩<;>(walk_at "ev";rfl)
theorem xV{a:Int}{n:Nat}(h:0<n):0<=a%(n:Int)/\a%(n:Int)<n:=⟨Int.emod_nonneg _ (by omega),Int.emod_lt_of_pos _ (by omega)⟩
theorem cj8{α:Type}{g:α->T}{l:List α}(h:0<l.length)(a:Int):∃p∈l,atI (l.map g) (a%(l.length:Int))=some (g p):=by
 obtain⟨h0,h1⟩:=xV (a:=a) h
 obtain⟨k,hk⟩:=oB h0
 rw[hk]at h1⊢
 have hk':k<l.length:=by omega
 exact⟨l[k],List.getElem_mem hk',fP (by simp[hk'])⟩
theorem bg1{xs:List Int}(h:0<xs.length){a:Int}(ha:0<=a):atI (xs.map T.int) (if(xs.length:Int)-1<a then(xs.length:Int)-1 else a)=some (.int (xs.getD (min a.toNat (xs.length-1)) 0)):=by
 have e:(if(xs.length:Int)-1<a then(xs.length:Int)-1 else a)=((min a.toNat (xs.length-1):Nat):Int):=by split<;>omega
 rw[e]
 exact rG (by omega)
theorem bo8{xs:List Int}{d e:Int}{n j:Nat}(hj:j<n)(h:pB xs d e j=true):(j:Int)∈fL xs d e n:=by
 unfold fL
 exact List.mem_map.mpr ⟨j,List.mem_filter.mpr ⟨List.mem_range.mpr hj,h⟩,rfl⟩
theorem oE{f:Fm}(g:Gd f){num y:Int}(hn0:0<=num){i:Nat}(hi:i<f.names.length)(y0:f.first<=y)(y1:y<=f.first+f.span):∃s,nT [.int num,fK false f,.int i,.int y]=.ok (gJ true s)/\SdOk f s:=by
 obtain⟨n,hn,an⟩:=sT hi
 unfold nT nW
 have b0:=@jC T
 have b1:=@iM T
 have b2:=@pR T
 have b3:=@tH T
 have b4:=@ix4 T
 have s0:=g.s0
 have s1:=g.s1
 have f0:=g.f0
 have f1:=g.f1
 simp only[fK]
 by_cases c0:num%4=0
 . have h0:(num%4==0)=true:=by simp[c0]
   clear c0
   obtain⟨p,hp,ap⟩:=cj8 (g:=dE false) (l:=f.inks) (by have:=g.i1;omega) (num/4)
   obtain⟨t1,t60,tb,tf⟩:=(g.inn p hp).2
   have hlen:0<(f.inks.length:Int):=by have:=g.i1;omega
   obtain⟨er,her⟩:∃er,num/4/2%5=er:=⟨_,rfl⟩
   have e0:0<=er/\er<5:=by omega
   have ix:=bg1 (xs:=p.2) t1 (a:=f.first+f.span-y) (by omega)
   have m1:0<2*er+1:=by omega
   have z1:=Int.emod_nonneg (num/4/10) (show 2*er+1≠0 by omega)
   have z2:=Int.emod_lt_of_pos (num/4/10) m1
   obtain⟨D,hD⟩:∃D,p.2.getD (min (f.first+f.span-y).toNat (p.2.length-1)) 0=D:=⟨_,rfl⟩
   have dB:0<=D/\D<=408:=by
    rw[<-hD,List.getD_eq_getElem?_getD,List.getElem?_eq_getElem (show min (f.first+f.span-y).toNat (p.2.length-1)<p.2.length by omega)]
    exact tb _ (List.getElem_mem _)
   obtain⟨dk,hdk⟩:∃dk,(if D+num/4/10%(2*er+1)-er>0 then D+num/4/10%(2*er+1)-er else 0)=dk:=⟨_,rfl⟩
   have dkB:0<=dk/\dk<=412/\D-dk<=er/\dk-D<=er:=by rw[<-hdk];split<;>omega
   rw[hD]at ix
   simp only[dE]at ap
   have pin:pB p.2 dk er (f.first+f.span-y).toNat=true:=by
    unfold pB
    rw[hD]
    exact decide_eq_true (by split<;>omega)
   have hmem:=bo8 (n:=f.span.toNat+1) (by omega) pin
   obtain⟨a,r,hh⟩:∃a r,fL p.2 dk er (f.span.toNat+1)=a::r:=by
    cases q:fL p.2 dk er (f.span.toNat+1)with
    |nil=>rw[q]at hmem;cases hmem
    |cons a r=>exact⟨a,r,rfl⟩
   have hdm:dk<=1000000:=by omega
   obtain⟨x,hx⟩:=cm8 g hn hp (d:=dk) (e:=er) (by omega) hdm (by omega) (by omega) hh rfl
   refine⟨⟨"ink","Ink",[.str n,.str p.1,.int dk,.int er],[i],f.first+f.span-(a::r).getD r.length 0,some (f.first+f.span-a)⟩,?_,⟨rfl,rfl,cl7,.inl rfl,x,hx⟩⟩
   have rg:-(2^62)<=f.first+f.span-f.first+1/\f.first+f.span-f.first+1<2^62:=by omega
   clear hx hn hmem pin hD tb tf
   walk_at "ev"
   generalize hL:eV _ _ _ _=o
   obtain⟨ρ',rfl,o11,rfl⟩:=iQ (λj ρ=>∃(o11:Option T),ρ=[some (.int num),some (.tup [.int f.first,.int (f.first+f.span),.lst false (f.names.map .str),.lst false (f.inks.map (dE false)),.lst false (f.reigns.map dY)]),some (.int i),some (.int y),some (.str n),some (.int (num/4)),some (.str p.1),some (.lst false (p.2.map .int)),some (.int er),some (.int dk),some (.lst true ((fL p.2 dk er j).map .int)),o11,none,none,none,none,none,none]) hL ⟨_,rfl⟩ (by
    rintro j t ρ et ⟨o11,rfl⟩
    obtain⟨hj,rfl⟩:=jA et
    have ixj:=bg1 (xs:=p.2) t1 (a:=0+(j:Int)) (by omega)
    rw[show(0+(j:Int)).toNat=j by omega]at ixj
    have hl:(fL p.2 dk er j).length<=100000:=by
     unfold fL
     rw[List.length_map]
     exact Nat.le_trans (List.length_filter_le _ _) (by rw[List.length_range];omega)
    have hsucc:=mQ p.2 dk er j
    clear hL et hh hdk ix
    cases hB:pB p.2 dk er j with
    |true=>
     rw[if_pos hB]at hsucc
     unfold pB at hB
     clear hsucc
     walk_at "ev"
     refine⟨some (.int (0+(j:Int))),?_⟩
     rw[mQ,if_pos (show pB p.2 dk er j=true from hB),List.map_append,show(0+(j:Int))=(j:Int) by omega]
     rfl
    |false=>
     unfold pB at hB
     clear hsucc
     walk_at "ev"
     refine⟨some (.int (0+(j:Int))),?_⟩
     rw[mQ,if_neg (by rw[show pB p.2 dk er j=false from hB];decide),List.append_nil])
   rw[fY,show(f.first+f.span-f.first+1).toNat=f.span.toNat+1 by omega,hh]
   clear hL hh hdk
   have ae:=bs8 (a:=a) (l:=r)
   simp only[List.map_cons]at ae⊢
   walk_at "ev"
   rfl
 . have h0:(num%4==0)=false:=by simpa using c0
   clear c0
   have hlen:0<(f.reigns.length:Int):=by have:=g.r1;omega
   obtain⟨k0,k1⟩:=xV (a:=num/4/2) (n:=f.reigns.length) (by omega)
   obtain⟨kn,hkn⟩:=oB k0
   have hk':kn<=f.reigns.length:=by omega
   have c1:fM (f.reigns.map dY) (some (num/4/2%(f.reigns.length:Int))) none=(f.reigns.drop kn).map dY:=by rw[hkn,as8 _ _ (by simpa using hk'),List.map_drop]
   have c2:fM (f.reigns.map dY) none (some (num/4/2%(f.reigns.length:Int)))=(f.reigns.take kn).map dY:=by rw[hkn,au1,List.map_take]
   have n1:=jL
   have z1:=oC
   have l1:(f.reigns.drop kn).length+(f.reigns.take kn).length<=100000:=by have:=g.r8;simp;omega
   have mA:=(List.map_append (f:=dY) (l₁:=f.reigns.drop kn) (l₂:=f.reigns.take kn)).symm
   clear hkn k0 k1
   have hmem:∀q∈f.reigns.drop kn++f.reigns.take kn,q∈f.reigns:=λq hq=>(List.mem_append.mp hq).elim List.mem_of_mem_drop List.mem_of_mem_take
   walk_at "ev"
   generalize hL:eV _ _ _ _=o
   have hx:=bd6 (λ_ ρ=>∃(o13 o14 o15:Option T),ρ=[some (.int num),some (.tup [.int f.first,.int (f.first+f.span),.lst false (f.names.map .str),.lst false (f.inks.map (dE false)),.lst false (f.reigns.map dY)]),some (.int i),some (.int y),some (.str n),some (.int (num/4)),none,none,none,none,none,none,some (.int (num/4/2%(f.reigns.length:Int))),o13,o14,o15,none,none]) (λ_=>False) (λt=>∃s,t=gJ true s/\SdOk f s) hL ⟨_,_,_,rfl⟩ (by
    rintro j t ρ et ⟨o13,o14,o15,rfl⟩
    rw[List.getElem?_map]at et
    cases eq:(f.reigns.drop kn++f.reigns.take kn)[j]? with
    |none=>rw[eq]at et;cases et
    |some q=>
     rw[eq]at et
     have et:=(Option.some.inj et).symm
     subst et
     have hq:=hmem q (List.mem_of_getElem? eq)
     obtain⟨_,r1,r2,r3,r4⟩:=g.rn q hq
     simp only[dY]
     clear hL c1 c2 mA n1 z1 l1 hmem eq
     by_cases t1:num%4=1
     . have e1:(num%4==1)=true:=by simp[t1]
       clear t1
       by_cases t2:q.2.1<=y/\y<q.2.1+q.2.2
       . have e2:decide (q.2.1<=y)=true:=decide_eq_true t2.1
         have e3:decide (y<q.2.1+q.2.2)=true:=decide_eq_true t2.2
         cases e4:(num/4%2==0)with
         |true=>
          obtain⟨x,hx⟩:=cb0 g hn hq (k:=y-q.2.1+1) (by omega) (by omega)
          rw[show q.2.1+(y-q.2.1+1)-1=y by omega]at hx
          clear t2 hn
          walk_at "ev"
          exact⟨⟨"reign","Reign",[.str n,.str q.1,.int (y-q.2.1+1)],[i],y,some y⟩,rfl,⟨rfl,rfl,cc2,.inl rfl,x,hx⟩⟩
         |false=>
          obtain⟨x,hx⟩:=cb2 g hn hq
          clear t2 hn
          walk_at "ev"
          exact⟨⟨"under","Under",[.str n,.str q.1],[i],q.2.1,some (q.2.1+q.2.2-1)⟩,rfl,⟨rfl,rfl,cv1,.inl rfl,x,hx⟩⟩
       . by_cases t3:q.2.1<=y
         . have e2:decide (q.2.1<=y)=true:=decide_eq_true t3
           have e3:decide (y<q.2.1+q.2.2)=false:=decide_eq_false (by omega)
           clear t2 t3 hn
           walk_at "ev"
           exact⟨_,_,_,rfl⟩
         . have e2:decide (q.2.1<=y)=false:=decide_eq_false t3
           clear t2 t3 hn
           walk_at "ev"
           exact⟨_,_,_,rfl⟩
     . have e1:(num%4==1)=false:=by simpa using t1
       clear t1 hn
       walk_at "ev"
       exact⟨_,_,_,rfl⟩)
   rcases hx with⟨ρ',rfl,(⟨o13,o14,o15,rfl⟩|h)⟩|⟨t,rfl,s,rfl,hs⟩
   . obtain⟨x,hx⟩:=aq1 g hn (lo:=if y-num/4%9>-4000 then y-num/4%9 else -4000) (hi:=if y+num/4/9%9<4000 then y+num/4/9%9 else 4000) (by split<;>omega) (by split<;>split<;>omega) (by split<;>omega)
     refine⟨⟨"between","Between",[.str n,.int (if y-num/4%9>-4000 then y-num/4%9 else -4000),.int (if y+num/4/9%9<4000 then y+num/4/9%9 else 4000)],[i],if y-num/4%9>-4000 then y-num/4%9 else -4000,some (if y+num/4/9%9<4000 then y+num/4/9%9 else 4000)⟩,?_,⟨rfl,rfl,ag0,.inl rfl,x,hx⟩⟩
     clear hL c1 c2 mA n1 z1 l1 hmem hx hn
     walk_at "ev"
     rfl
   . exact h.elim
   . exact⟨s,rfl,hs⟩
theorem ix5{α:Type}(a b c d e g:α)(l:List α):atI (a::b::c::d::e::g::l) 5=some g:=fP (j:=5) rfl
theorem gH{f:Fm}{s:Sd}(h:SdOk f s):dJ (gJ true s)=true:=by
 have q:dA (s.ls.map λ(l:Nat)=>T.int (l:Int))=true:=jI (λ_=>rfl) _
 simp only[gJ,dJ,dA,h.cp,q,yU,Bool.and_self]
theorem bo5{f:Fm}(g:Gd f)(cs:List Int)(hcs:cs.length<=100)(fl:Bool)(hid:List Int)(hl:hid.length=f.names.length)(hb:∀y∈hid,f.first<=y/\y<=f.first+f.span):
 ∃ss:List Sd,jP [.lst false (cs.map .int),fK false f,.bl fl,.lst false (hid.map .int)]=.ok (.lst true (ss.map (gJ true)))/\ss.length=cs.length/\∀s∈ss,SdOk f s:=by
 unfold jP mF
 have b0:=@jC T
 have b1:=@iM T
 have b2:=@pR T
 have b3:=@tH T
 have b4:=@ix4 T
 have b5:=@ix5 T
 have z1:=mR false f.inks
 have z2:=oC f.reigns
 have s0:=g.s0
 have s1:=g.s1
 have n1:=g.n1
 have n8:=g.n8
 simp only[fK]
 walk_at "ev"
 generalize hL:eV _ _ _ _=o
 obtain⟨ρ',rfl,ss,o7,o8,o9,o10,o11,o12,rfl,sl,sb⟩:=iQ (λj ρ=>∃(ss:List Sd)(o7 o8 o9 o10 o11 o12:Option T),ρ=[some (.lst false (cs.map .int)),some (.tup [.int f.first,.int (f.first+f.span),.lst false (f.names.map .str),.lst false (f.inks.map (dE false)),.lst false (f.reigns.map dY)]),some (.bl fl),some (.lst false (hid.map .int)),some (.int f.names.length),some (.int (f.first+f.span-f.first)),some (.lst true (ss.map (gJ true))),o7,o8,o9,o10,o11,o12]/\ss.length=j/\∀s∈ss,SdOk f s) hL ⟨[],_,_,_,_,_,_,rfl,rfl,cV⟩ (by
  rintro j0 t ρ et ⟨ss,o7,o8,o9,o10,o11,o12,rfl,sl,sb⟩
  rw[List.getElem?_map]at et
  cases eq:cs[j0]? with
  |none=>rw[eq]at et;cases et
  |some cell=>
   rw[eq]at et
   have et:=(Option.some.inj et).symm
   subst et
   have hj0:j0<cs.length:=(List.getElem?_eq_some_iff.mp eq).1
   have hsl:ss.length<=100000:=by omega
   clear hL eq
   obtain⟨xs,hr,hxl,hxb⟩:=cx2 cell 6 (by decide)
   obtain⟨a,b,c,d,e,w,hx6,ha0,hb0,hc0,hd0,he0,hw0⟩:=ce8 hxl hxb
   rw[hx6]at hr
   have hr:mT [.int cell,.int 6]=.ok (.lst true [.int a,.int b,.int c,.int d,.int e,.int w]):=hr
   clear hx6 hxl hxb
   obtain⟨i0,i1⟩:=xV (a:=a) (n:=f.names.length) (by omega)
   obtain⟨i,hie⟩:=oB i0
   have hi:i<f.names.length:=by omega
   have mx:0<(if(f.names.length:Int)-1>1 then(f.names.length:Int)-1 else 1):=by split<;>omega
   have mx1:=Int.emod_nonneg (b/3) (show(if(f.names.length:Int)-1>1 then(f.names.length:Int)-1 else 1)≠0 by omega)
   have mx2:=Int.emod_lt_of_pos (b/3) mx
   have mp:0<(f.names.length:Int):=by omega
   obtain⟨j1,j2⟩:=xV (a:=(i:Int)+1+b/3%(if(f.names.length:Int)-1>1 then(f.names.length:Int)-1 else 1)) (n:=f.names.length) (by omega)
   obtain⟨j,hje⟩:=oB j1
   have hj:j<f.names.length:=by omega
   have hij:¬f.names.length=1->i≠j:=by
    intro hm hq
    subst hq
    generalize b/3%(if(f.names.length:Int)-1>1 then(f.names.length:Int)-1 else 1)=v at*
    have hv:v<(f.names.length:Int)-1:=by split at mx2<;>omega
    by_cases q:(i:Int)+1+v<f.names.length
    . rw[Int.emod_eq_of_lt (by omega) q]at hje
      omega
    . rw[show(i:Int)+1+v=((i:Int)+1+v-f.names.length)+(f.names.length:Int)*1 by omega,Int.add_mul_emod_self_left,Int.emod_eq_of_lt (by omega) (by omega)]at hje
      omega
   clear i0 i1 j1 j2
   have goal:∀ys:List Int,ys.length=f.names.length->(∀y∈ys,f.first<=y/\y<=f.first+f.span)->∃yi∈ys,∃yj∈ys,atI (ys.map T.int) (i:Int)=some (.int yi)/\atI (ys.map T.int) (j:Int)=some (.int yj):=λys hy _=>by
    obtain⟨yi,h1,h2⟩:=bw5 (xs:=ys) (k:=i) (by omega)
    obtain⟨yj,h3,h4⟩:=bw5 (xs:=ys) (k:=j) (by omega)
    exact⟨yi,h1,yj,h3,h2,h4⟩
   cases fl with
   |false=>
    obtain⟨yi,hyi,yj,hyj,ai,aj⟩:=goal hid hl hb
    have yb:=hb
    clear goal
    by_cases hm1:f.names.length=1
    . have t1:((f.names.length:Int)==1)=true:=by simp[hm1]
      clear hm1 hij
      obtain⟨s,hF,hs⟩:=oE g hd0 hi (yb yi hyi).1 (yb yi hyi).2
      simp only[fK]at hF
      have ccs:=gH hs
      walk_at "ev"
      exact⟨ss++[s],_,_,_,_,_,_,by rw[List.map_append];rfl,by simp[sl],λq hq=>(List.mem_append.mp hq).elim (sb q) (λz=>by rw[List.mem_singleton.mp z];exact hs)⟩
    . have t1:((f.names.length:Int)==1)=false:=by simp;omega
      cases t2:decide (c%5<2)with
      |true=>
       obtain⟨s,hF,hs⟩:=oE g hd0 hi (yb yi hyi).1 (yb yi hyi).2
       simp only[fK]at hF
       have ccs:=gH hs
       walk_at "ev"
       exact⟨ss++[s],_,_,_,_,_,_,by rw[List.map_append];rfl,by simp[sl],λq hq=>(List.mem_append.mp hq).elim (sb q) (λz=>by rw[List.mem_singleton.mp z];exact hs)⟩
      |false=>
       obtain⟨s,hF,hs⟩:=zF g (gap:=yi-yj) hd0 hi hj (hij hm1) (by have:=yb yi hyi;have:=yb yj hyj;omega) (by have:=yb yi hyi;have:=yb yj hyj;omega)
       simp only[fK]at hF
       have ccs:=gH hs
       walk_at "ev"
       exact⟨ss++[s],_,_,_,_,_,_,by rw[List.map_append];rfl,by simp[sl],λq hq=>(List.mem_append.mp hq).elim (sb q) (λz=>by rw[List.mem_singleton.mp z];exact hs)⟩
   |true=>
    cases h3:(b%3==0)with
    |false=>
     obtain⟨yi,hyi,yj,hyj,ai,aj⟩:=goal hid hl hb
     have yb:=hb
     clear goal
     cases h8:(w%8==5)with
     |true=>
      obtain⟨s,hF,hs⟩:=bc5 g (a:=a) (b:=b) (w:=w) hc0 hd0 he0 hi hj
      simp only[fK]at hF
      have ccs:=gH hs
      walk_at "ev"
      exact⟨ss++[s],_,_,_,_,_,_,by rw[List.map_append];rfl,by simp[sl],λq hq=>(List.mem_append.mp hq).elim (sb q) (λz=>by rw[List.mem_singleton.mp z];exact hs)⟩
     |false=>
      by_cases hm1:f.names.length=1
      . have t1:((f.names.length:Int)==1)=true:=by simp[hm1]
        clear hm1 hij
        obtain⟨s,hF,hs⟩:=oE g hd0 hi (yb yi hyi).1 (yb yi hyi).2
        simp only[fK]at hF
        have ccs:=gH hs
        walk_at "ev"
        exact⟨ss++[s],_,_,_,_,_,_,by rw[List.map_append];rfl,by simp[sl],λq hq=>(List.mem_append.mp hq).elim (sb q) (λz=>by rw[List.mem_singleton.mp z];exact hs)⟩
      . have t1:((f.names.length:Int)==1)=false:=by simp;omega
        cases t2:decide (c%5<2)with
        |true=>
         obtain⟨s,hF,hs⟩:=oE g hd0 hi (yb yi hyi).1 (yb yi hyi).2
         simp only[fK]at hF
         have ccs:=gH hs
         walk_at "ev"
         exact⟨ss++[s],_,_,_,_,_,_,by rw[List.map_append];rfl,by simp[sl],λq hq=>(List.mem_append.mp hq).elim (sb q) (λz=>by rw[List.mem_singleton.mp z];exact hs)⟩
        |false=>
         obtain⟨s,hF,hs⟩:=zF g (gap:=yi-yj) hd0 hi hj (hij hm1) (by have:=yb yi hyi;have:=yb yj hyj;omega) (by have:=yb yi hyi;have:=yb yj hyj;omega)
         simp only[fK]at hF
         have ccs:=gH hs
         walk_at "ev"
         exact⟨ss++[s],_,_,_,_,_,_,by rw[List.map_append];rfl,by simp[sl],λq hq=>(List.mem_append.mp hq).elim (sb q) (λz=>by rw[List.mem_singleton.mp z];exact hs)⟩
    |true=>
     have rg:-(2^62)<=(f.names.length:Int)/\(f.names.length:Int)<2^62:=by omega
     have mspan:0<f.first+f.span-f.first+1:=by omega
     obtain⟨ys,hys,hyl,yb⟩:∃ys:List Int,(∀q:Option T,bX (aJ 12) cI (aG bU (aG aV (aD 1) (dC (.int 0))) (aG bW (aG bU (aG aV (aD 8) (dC (.int 4))) (aG jY (aG jY (dC (.int 7)) (aG aV (aD 8) (dC (.int 5)))) (aD 12))) (aG bU (aD 5) (dC (.int 1))))) [some (.lst false (cs.map .int)),some (.tup [.int f.first,.int (f.first+f.span),.lst false (f.names.map .str),.lst false (f.inks.map (dE false)),.lst false (f.reigns.map dY)]),some (.bl true),some (.lst false (hid.map .int)),some (.int f.names.length),some (.int (f.first+f.span-f.first)),some (.lst true (ss.map (gJ true))),some (.int cell),some (.lst true [.int a,.int b,.int c,.int d,.int e,.int w]),some (.int i),some (.lst true (hid.map .int)),q,none] (iH 0 (f.names.length:Int).toNat)=.ok (ys.map .int))/\ys.length=f.names.length/\∀y∈ys,f.first<=y/\y<=f.first+f.span:=by
      refine⟨(List.range f.names.length).map λ(k:Nat)=>f.first+(e+7*w*(0+(k:Int)))%(f.first+f.span-f.first+1),λq=>?_,by simp,λy hy=>?_⟩
      . unfold iH
        rw[List.map_map,Int.toNat_natCast]
        refine fU λk hk=>?_
        have hk:=List.mem_range.mp hk
        have mk:mulOk (7*w) (0+(k:Int)):=bm3 (by omega) (by omega)
        clear hr hie hje
        walk_at "ev"
        rfl
      . obtain⟨k,_,rfl⟩:=List.mem_map.mp hy
        have:=Int.emod_nonneg (e+7*w*(0+(k:Int))) (show f.first+f.span-f.first+1≠0 by omega)
        have:=Int.emod_lt_of_pos (e+7*w*(0+(k:Int))) mspan
        omega
     have ity:(iH 0 (f.names.length:Int).toNat).length<=sizeLine:=by rw[fY];exact oG (by omega)
     obtain⟨yi,hyi,yj,hyj,ai,aj⟩:=goal ys hyl yb
     clear goal
     cases h8:(w%8==5)with
     |true=>
      obtain⟨s,hF,hs⟩:=bc5 g (a:=a) (b:=b) (w:=w) hc0 hd0 he0 hi hj
      simp only[fK]at hF
      have ccs:=gH hs
      walk_at "ev"
      exact⟨ss++[s],_,_,_,_,_,_,by rw[List.map_append];rfl,by simp[sl],λq hq=>(List.mem_append.mp hq).elim (sb q) (λz=>by rw[List.mem_singleton.mp z];exact hs)⟩
     |false=>
      by_cases hm1:f.names.length=1
      . have t1:((f.names.length:Int)==1)=true:=by simp[hm1]
        clear hm1 hij
        obtain⟨s,hF,hs⟩:=oE g hd0 hi (yb yi hyi).1 (yb yi hyi).2
        simp only[fK]at hF
        have ccs:=gH hs
        walk_at "ev"
        exact⟨ss++[s],_,_,_,_,_,_,by rw[List.map_append];rfl,by simp[sl],λq hq=>(List.mem_append.mp hq).elim (sb q) (λz=>by rw[List.mem_singleton.mp z];exact hs)⟩
      . have t1:((f.names.length:Int)==1)=false:=by simp;omega
        cases t2:decide (c%5<2)with
        |true=>
         obtain⟨s,hF,hs⟩:=oE g hd0 hi (yb yi hyi).1 (yb yi hyi).2
         simp only[fK]at hF
         have ccs:=gH hs
         walk_at "ev"
         exact⟨ss++[s],_,_,_,_,_,_,by rw[List.map_append];rfl,by simp[sl],λq hq=>(List.mem_append.mp hq).elim (sb q) (λz=>by rw[List.mem_singleton.mp z];exact hs)⟩
        |false=>
         obtain⟨s,hF,hs⟩:=zF g (gap:=yi-yj) hd0 hi hj (hij hm1) (by have:=yb yi hyi;have:=yb yj hyj;omega) (by have:=yb yi hyi;have:=yb yj hyj;omega)
         simp only[fK]at hF
         have ccs:=gH hs
         walk_at "ev"
         exact⟨ss++[s],_,_,_,_,_,_,by rw[List.map_append];rfl,by simp[sl],λq hq=>(List.mem_append.mp hq).elim (sb q) (λz=>by rw[List.mem_singleton.mp z];exact hs)⟩)
 clear hL
 rw[List.length_map]at sl
 refine⟨ss,?_,sl,sb⟩
 walk_at "ev"
open Classical in
noncomputable def txt(f:Fm)(s:Sd):Str:=if h:∃x,cJ [cD false f,.str s.word,.lst false s.parts]=.ok (eX true s.cls (s.ls.map λ(l:Nat)=>(l:Int)) s.lo s.hi x)then Classical.choose h else ""
noncomputable def gK(o:Bool)(f:Fm)(s:Sd):T:=eX o s.cls (s.ls.map λ(l:Nat)=>(l:Int)) s.lo s.hi (txt f s)
theorem cd5{f:Fm}{s:Sd}(h:SdOk f s):cJ [cD false f,.str s.word,.lst false s.parts]=.ok (gK true f s):=by
 unfold gK txt
 rw[dif_pos h.made]
 exact Classical.choose_spec h.made
theorem ap1(o:Bool)(f:Fm)(s:Sd):frz (gK o f s)=gK false f s:=dh0 _ _ _ _ _ _
theorem aq9(f:Fm)(s:Sd):dJ (gK true f s)=true:=aw8 _ _ _ _ _
theorem at8(f:Fm)(s:Sd):dL (gK false f s)=true:=ci2 _ _ _ _ _
theorem uT(o:Bool)(f:Fm):∀ss:List Sd,frzs (ss.map (gK o f))=ss.map (gK false f)
 |[]=>rfl
 |s::ss=>by simp only[List.map_cons,frzs,ap1,uT o f ss]
theorem bs2(f:Fm)(ss:List Sd):dA (ss.map (gK true f))=true:=jI (aq9 f) ss
theorem tV(f:Fm)(ss:List Sd):aU (ss.map (gK false f))=true:=jF (at8 f) ss
theorem cg9{f:Fm}{s:Sd}(h:SdOk f s)(o:Bool):frz (gJ o s)=gJ false s:=by
 have q:frzs (s.ls.map λ(l:Nat)=>T.int (l:Int))=s.ls.map λ(l:Nat)=>T.int (l:Int):=rL (λ_=>rfl) _
 simp only[gJ,frz,frzs,fS _ h.np,q,bf5]
theorem ab8{f:Fm}{s:Sd}(h:SdOk f s):dL (gJ false s)=true:=by
 have q:aU (s.ls.map λ(l:Nat)=>T.int (l:Int))=true:=jF (λ_=>rfl) _
 simp only[gJ,dL,aU,h.np,q,uB,Bool.not_false,Bool.and_self]
theorem rB{f:Fm}(o:Bool):∀{ss:List Sd},(∀s∈ss,SdOk f s)->frzs (ss.map (gJ o))=ss.map (gJ false)
 |[],_=>rfl
 |s::ss,h=>by simp only[List.map_cons,frzs,cg9 (h s List.mem_cons_self),rB o λt ht=>h t (List.mem_cons_of_mem _ ht)]
theorem pW{f:Fm}:∀{ss:List Sd},(∀s∈ss,SdOk f s)->aU (ss.map (gJ false))=true
 |[],_=>rfl
 |s::ss,h=>by simp only[List.map_cons,aU,ab8 (h s List.mem_cons_self),pW λt ht=>h t (List.mem_cons_of_mem _ ht),Bool.and_self]
theorem au0{f:Fm}:∀{ss:List Sd},(∀s∈ss,SdOk f s)->dA (ss.map (gJ true))=true
 |[],_=>rfl
 |s::ss,h=>by simp only[List.map_cons,dA,gH (h s List.mem_cons_self),au0 λt ht=>h t (List.mem_cons_of_mem _ ht),Bool.and_self]
theorem dl0{f:Fm}{ss:List Sd}(h:∀s∈ss,SdOk f s)(hl:ss.length<=1000):mY [cD false f,.lst false (ss.map (gJ false))]=.ok (.lst true (ss.map (gK true f))):=by
 unfold mY qD
 have hc:bX (eD (bB (aJ 2) (bB (aJ 3) (bB (aJ 4) (bB (aJ 5) eI))))) cI (aX 3 cJ (aB (aD 0) (aB (aD 2) (aB (bP gE (aB (aD 3) aH)) aH)))) [some (cD false f),some (.lst false (ss.map (gJ false))),none,none,none,none] (ss.map (gJ false))=.ok (ss.map (gK true f)):=by
  refine jU λs hs=>?_
  have k:=cd5 (h s hs)
  have np:=(h s hs).np
  have zp:=fS _ np
  have za:=iB false f
  have co:=aq9 f s
  simp only[gJ]
  clear h
  walk_at "ev"
 have nn:=pW h
 have l1:ss.length<=100000:=by omega
 clear h
 walk_at "ev"
def oth(s:Sd):T:=match s.ls with
 |[_,b]=>.int b
 |_=>.non
def fst(s:Sd):Int:=match s.ls with
 |a::_=>a
 |_=>0
def st(s:Sd)(k:Int):List T:=(match s.hi with
 |some h=>[.tup [oth s,.int (fst s),.int h,.int k]]
 |none=>[])++[.tup [.int (fst s),oth s,.int (0-s.lo),.int k]]
def sp(f:Fm)(l:Int):List T:=[.tup [.non,.int l,.int (f.first+f.span),.non],.tup [.int l,.non,.int (0-f.first),.non]]
theorem be7(c:Str)(hc:c∈iL)(o:Bool)(ls:List Int)(lo:Int)(hi:Option Int)(x:Str):eW ["Ink","Reign","Under","Between","After","Same","Within","Apart"] "spoken" (eX o c ls lo hi x)=.ok (.lst o (ls.map .int)):=by
 have:=ct8 c hc
 simp only[eW,eX,this,if_true]
 with_unfolding_all rfl
theorem dq1(c:Str)(hc:c∈iL)(o:Bool)(ls:List Int)(lo:Int)(hi:Option Int)(x:Str):eW ["Ink","Reign","Under","Between","After","Same","Within","Apart"] "low" (eX o c ls lo hi x)=.ok (.int lo):=by
 have:=ct8 c hc
 simp only[eW,eX,this,if_true]
 with_unfolding_all rfl
theorem cj4(c:Str)(hc:c∈iL)(o:Bool)(ls:List Int)(lo:Int)(hi:Option Int)(x:Str):eW ["Ink","Reign","Under","Between","After","Same","Within","Apart"] "high" (eX o c ls lo hi x)=.ok (kF hi):=by
 have:=ct8 c hc
 simp only[eW,eX,this,if_true]
 with_unfolding_all rfl
theorem be9:eU "about" ["spoken","low","high","text"]=none:=by decide+kernel
theorem be5:eU "bounds" ["spoken","low","high","text"]=none:=by decide+kernel
theorem cf4{c:Str}(h:c∈iL):tm_about.lookup c=some aQ:=by
 simp only[iL,List.mem_cons,List.not_mem_nil,or_false]at h
 rcases h with rfl|rfl|rfl|rfl|rfl|rfl|rfl|rfl<;>with_unfolding_all rfl
theorem cb7{c:Str}(h:c∈iL):tm_bounds.lookup c=some aP:=by
 simp only[iL,List.mem_cons,List.not_mem_nil,or_false]at h
 rcases h with rfl|rfl|rfl|rfl|rfl|rfl|rfl|rfl<;>with_unfolding_all rfl
theorem cn6{s:Sd}(c8:s.cls∈iL)(f:Fm){ρ:Fr}(h:aD 0 ρ=.ok (gK false f s)):kC 1 "about" tm_about (aD 0) aH ρ=.ok (.lst true ((s.ls.map λ(l:Nat)=>(l:Int)).map .int)):=by
 have k:aQ [gK false f s]=.ok (.lst true ((s.ls.map λ(l:Nat)=>(l:Int)).map .int)):=by
  unfold aQ cR gK
  have:=be7 s.cls c8 false (s.ls.map λ(l:Nat)=>(l:Int)) s.lo s.hi (txt f s)
  walk_at "ev"
 have zo:=ap1 false f s
 have e:kC 1 "about" tm_about (aD 0) aH ρ=rY 1 aQ [gK false f s]:=by
  simp only[kC,h,mP,aH,gK,eX,be9,cf4 c8]
 rw[e]
 clear h
 walk_at "ev"
theorem cn0{s:Sd}(c8:s.cls∈iL)(f:Fm){ρ:Fr}(h:aD 0 ρ=.ok (gK false f s)):kC 1 "bounds" tm_bounds (aD 0) aH ρ=.ok (.tup [.int s.lo,kF s.hi]):=by
 have ch:=yU s.hi
 have nh:=uB s.hi
 have k:aP [gK false f s]=.ok (.tup [.int s.lo,kF s.hi]):=by
  unfold aP cL gK
  have:=dq1 s.cls c8 false (s.ls.map λ(l:Nat)=>(l:Int)) s.lo s.hi (txt f s)
  have:=cj4 s.cls c8 false (s.ls.map λ(l:Nat)=>(l:Int)) s.lo s.hi (txt f s)
  walk_at "ev"
 have zo:=ap1 false f s
 have e:kC 1 "bounds" tm_bounds (aD 0) aH ρ=rY 1 aP [gK false f s]:=by
  simp only[kC,h,mP,aH,gK,eX,be5,cb7 c8]
 rw[e]
 clear h
 walk_at "ev"
theorem av3{f:Fm}{s:Sd}(ok:SdOk f s)(k:Int):lA [gK false f s,.int k]=.ok (.lst true (st s k)):=by
 unfold lA lI
 have ha:=cn6 ok.c8 f (ρ:=[some (gK false f s),some (.int k),none,none,none,none]) rfl
 have hb:=λq=>cn0 ok.c8 f (ρ:=[some (gK false f s),some (.int k),some q,none,none,none]) rfl
 have b0:=@jC T
 have b1:=@iM T
 obtain⟨word,cls,parts,ls,lo,hi⟩:=s
 have l12:=ok.l12
 simp only at l12 ha hb
 clear ok
 have t2:((2:Nat):Int)=2:=rfl
 have q3:((2:Int)==2)=true:=rfl
 have q1:(((0+1:Nat):Int)==2)=false:=rfl
 have q2:(((0+1+1:Nat):Int)==2)=true:=rfl
 rcases ls with _|⟨a,_|⟨b,_|⟨c,r⟩⟩⟩
 . simp at l12
 . simp only[List.map_cons,List.map_nil]at ha
   cases hi with
   |none=>simp only[kF]at hb;walk_at "ev";rfl
   |some h=>simp only[kF]at hb;walk_at "ev";rfl
 . simp only[List.map_cons,List.map_nil]at ha
   cases hi with
   |none=>simp only[kF]at hb;walk_at "ev";rfl
   |some h=>simp only[kF]at hb;walk_at "ev";rfl
 . simp at l12
theorem ao9(f:Fm)(l:Int):nJ [cD false f,.int l]=.ok (.lst true (sp f l)):=by
 unfold nJ nK sp
 have f1:=az8 false f
 have f2:=ao0 false f
 walk_at "ev"
def am7(ss:List Sd)(k:Nat):List T:=match ss[k]? with
 |some s=>st s k
 |none=>[]
def lN(ss:List Sd)(n:Nat):List T:=(List.range n).flatMap (am7 ss)
def rM(f:Fm)(n:Nat):List T:=(List.range n).flatMap λ(l:Nat)=>sp f (l:Int)
def rD(f:Fm)(ss:List Sd):List T:=lN ss ss.length++rM f f.names.length
theorem an8{ss:List Sd}{n:Nat}{s:Sd}(h:ss[n]?=some s):lN ss (n+1)=lN ss n++st s n:=by
 unfold lN
 rw[List.range_succ,List.flatMap_append]
 simp[am7,h]
theorem yV(f:Fm)(n:Nat):rM f (n+1)=rM f n++sp f n:=by
 unfold rM
 rw[List.range_succ,List.flatMap_append]
 simp
def oT(t:T):Prop:=∃a b c d,t=.tup [a,b,.int c,d]/\(a=.non\/∃i,a=.int i)/\(b=.non\/∃i,b=.int i)/\(d=.non\/∃i,d=.int i)
theorem bp6(s:Sd):oth s=.non\/∃i,oth s=.int i:=by
 unfold oth
 split
 . exact .inr ⟨_,rfl⟩
 . exact .inl rfl
theorem ap3(s:Sd)(k:Int):∀t∈st s k,oT t:=by
 intro t ht
 unfold st at ht
 rcases List.mem_append.mp ht with ht|ht
 . split at ht
   . rw[List.mem_singleton.mp ht]
     exact⟨_,_,_,_,rfl,bp6 s,.inr ⟨_,rfl⟩,.inr ⟨_,rfl⟩⟩
   . cases ht
 . rw[List.mem_singleton.mp ht]
   exact⟨_,_,_,_,rfl,.inr ⟨_,rfl⟩,bp6 s,.inr ⟨_,rfl⟩⟩
theorem bj9(ss:List Sd)(n:Nat):∀t∈lN ss n,oT t:=by
 intro t ht
 obtain⟨k,_,h⟩:=List.mem_flatMap.mp ht
 unfold am7 at h
 split at h
 . exact ap3 _ _ t h
 . cases h
theorem cb1(f:Fm)(n:Nat):∀t∈rM f n,oT t:=by
 intro t ht
 obtain⟨k,_,h⟩:=List.mem_flatMap.mp ht
 simp only[sp,List.mem_cons,List.not_mem_nil,or_false]at h
 rcases h with rfl|rfl
 . exact⟨_,_,_,_,rfl,.inl rfl,.inr ⟨_,rfl⟩,.inl rfl⟩
 . exact⟨_,_,_,_,rfl,.inr ⟨_,rfl⟩,.inl rfl,.inl rfl⟩
theorem vN(f:Fm)(ss:List Sd):∀t∈rD f ss,oT t:=λt ht=>(List.mem_append.mp ht).elim (bj9 _ _ t) (cb1 _ _ t)
theorem wL{t:T}(h:oT t):dL t=true/\dJ t=true/\frz t=t:=by
 obtain⟨a,b,c,d,rfl,ha,hb,hd⟩:=h
 rcases ha with rfl|⟨i,rfl⟩<;>rcases hb with rfl|⟨j,rfl⟩<;>rcases hd with rfl|⟨k,rfl⟩<;>exact⟨rfl,rfl,rfl⟩
theorem xF{ts:List T}(h:∀t∈ts,oT t):aU ts=true:=by
 rw[wX,List.all_eq_true]
 exact λt ht=>(wL (h t ht)).1
theorem sD{ts:List T}(h:∀t∈ts,oT t):dA ts=true:=by
 rw[ax4,List.all_eq_true]
 exact λt ht=>(wL (h t ht)).2.1
theorem xN{ts:List T}(h:∀t∈ts,oT t):frzs ts=ts:=fS ts (xF h)
theorem bd7(s:Sd)(k:Int):(st s k).length<=2:=by
 unfold st
 split<;>simp
theorem qP(ss:List Sd):∀n,(lN ss n).length<=2*n
 |0=>by simp[lN]
 |n+1=>by
  have ih:=qP ss n
  unfold lN at ih⊢
  rw[List.range_succ,List.flatMap_append,List.length_append]
  have:(([n]:List Nat).flatMap (am7 ss)).length<=2:=by
   simp only[List.flatMap_cons,List.flatMap_nil,List.append_nil,am7]
   split
   . exact bd7 _ _
   . simp
  omega
theorem tK(f:Fm):∀n,(rM f n).length=2*n
 |0=>by simp[rM]
 |n+1=>by rw[yV,List.length_append,tK f n];simp[sp];omega
theorem tY{f:Fm}(g:Gd f){ss:List Sd}(h:∀s∈ss,SdOk f s)(hl:ss.length<=1000):fF [cD false f,.lst false (ss.map (gK false f))]=.ok (.lst true (rD f ss)):=by
 unfold fF qH
 have fl:=uX false f
 have no:=tV f ss
 have n8:=g.n8
 walk_at "ev"
 generalize hL:eV _ _ _ _=o
 obtain⟨ρ',rfl,o3,o4,rfl⟩:=iQ (λj ρ=>∃(o3 o4:Option T),ρ=[some (cD false f),some (.lst false (ss.map (gK false f))),some (.lst true (lN ss j)),o3,o4,none]) hL ⟨_,_,rfl⟩ (by
  rintro j t ρ et ⟨o3,o4,rfl⟩
  obtain⟨t2,e2,rfl⟩:=ao5 et
  rw[List.getElem?_map]at e2
  cases eq:ss[j]? with
  |none=>rw[eq]at e2;cases e2
  |some s=>
   rw[eq]at e2
   have e2:=(Option.some.inj e2).symm
   subst e2
   have hs:=h s (List.mem_of_getElem? eq)
   have k:=av3 hs (j:Int)
   have zo:=ap1 false f s
   have cs:=sD (ap3 s j)
   have zs:=xN (ap3 s j)
   have hj:j<ss.length:=(List.getElem?_eq_some_iff.mp eq).1
   have l1:=qP ss j
   have l2:=bd7 s j
   have l3:(lN ss j).length+(st s j).length<=100000:=by omega
   have sc:=an8 eq
   clear hL et eq h
   walk_at "ev"
   exact⟨_,_,rfl⟩)
 rw[ar4,List.length_map]
 clear hL
 walk_at "ev"
 generalize hL:eV _ _ _ _=o
 obtain⟨ρ',rfl,o5,rfl⟩:=iQ (λj ρ=>∃(o5:Option T),ρ=[some (cD false f),some (.lst false (ss.map (gK false f))),some (.lst true (lN ss ss.length++rM f j)),o3,o4,o5]) hL ⟨none,by simp[rM]⟩ (by
  rintro j t ρ et ⟨o5,rfl⟩
  obtain⟨hj,rfl⟩:=jA et
  have k:=ao9 f (0+(j:Int))
  have za:=iB false f
  have l1:=qP ss ss.length
  have l2:=tK f j
  have l3:(lN ss ss.length++rM f j).length+(sp f (0+(j:Int))).length<=100000:=by rw[List.length_append];simp[sp];omega
  have cs:dA (sp f (0+(j:Int)))=true:=rfl
  clear hL et h l1 l2
  walk_at "ev"
  refine⟨some (.int (0+(j:Int))),?_⟩
  rw[yV,List.append_assoc,show(0+(j:Int))=(j:Int) by omega])
 rw[fY]
 clear hL
 simp only[Int.toNat_natCast]
 walk_at "ev"
 rfl
theorem yM{f:Fm}(g:Gd f){ss:List Sd}(h:∀s∈ss,SdOk f s)(hl:ss.length<=1000):iK [fK false f,.lst false (ss.map (gJ false))]=.ok (.lst true (rD f ss)):=by
 unfold iK oR
 have b0:=@jC T
 have b1:=@iM T
 have b2:=@pR T
 have b3:=@tH T
 have n8:=g.n8
 simp only[fK]
 have rg:-(2^62)<=(ss.length:Int)/\(ss.length:Int)<2^62:=by omega
 walk_at "ev"
 generalize hL:eV _ _ _ _=o
 obtain⟨ρ',rfl,o3,o4,o5,o6,o7,rfl⟩:=iQ (λj ρ=>∃(o3 o4 o5 o6 o7:Option T),ρ=[some (.tup [.int f.first,.int (f.first+f.span),.lst false (f.names.map .str),.lst false (f.inks.map (dE false)),.lst false (f.reigns.map dY)]),some (.lst false (ss.map (gJ false))),some (.lst true (lN ss j)),o3,o4,o5,o6,o7,none]) hL ⟨_,_,_,_,_,rfl⟩ (by
  rintro j t ρ et ⟨o3,o4,o5,o6,o7,rfl⟩
  obtain⟨hj,rfl⟩:=jA et
  have hj:j<ss.length:=by simpa using hj
  obtain⟨s,eq⟩:∃s,ss[j]?=some s:=⟨ss[j],List.getElem?_eq_getElem hj⟩
  have hs:=h s (List.mem_of_getElem? eq)
  have at1:atI (ss.map (gJ false)) (j:Int)=some (gJ false s):=by
   exact fP (by rw[List.getElem?_map,eq];rfl)
  have l1:=qP ss j
  have l3:(lN ss j).length<=100000:=by omega
  have l4:∀x:T,(lN ss j++[x]).length<sizeLine:=λx=>Nat.lt_of_le_of_lt (show(lN ss j++[x]).length<=100000 by rw[List.length_append];simp;omega) (by decide)
  have sc:=an8 eq
  obtain⟨word,cls,parts,ls,lo,hi⟩:=s
  have l12:=hs.l12
  simp only[gJ]at at1 l12
  clear hL et eq h hs l1
  have zz:(0+(j:Int))=(j:Int):=Int.zero_add _
  rcases ls with _|⟨a,_|⟨b,_|⟨c,r⟩⟩⟩
  . simp at l12
  . simp only[List.map_cons,List.map_nil]at at1
    cases hi with
    |none=>
     simp only[kF]at at1
     clear l12
     walk_at "ev"
     exact⟨_,_,_,_,_,by simp only[st,oth,fst,List.nil_append];rfl⟩
    |some hh=>
     simp only[kF]at at1
     clear l12
     walk_at "ev"
     exact⟨_,_,_,_,_,by simp only[st,oth,fst,List.append_assoc,List.cons_append,List.nil_append];rfl⟩
  . simp only[List.map_cons,List.map_nil]at at1
    cases hi with
    |none=>
     simp only[kF]at at1
     clear l12
     walk_at "ev"
     exact⟨_,_,_,_,_,by simp only[st,oth,fst,List.nil_append];rfl⟩
    |some hh=>
     simp only[kF]at at1
     clear l12
     walk_at "ev"
     exact⟨_,_,_,_,_,by simp only[st,oth,fst,List.append_assoc,List.cons_append,List.nil_append];rfl⟩
  . simp at l12)
 rw[fY]
 clear hL
 simp only[Int.toNat_natCast]
 walk_at "ev"
 generalize hL:eV _ _ _ _=o
 obtain⟨ρ',rfl,o8,rfl⟩:=iQ (λj ρ=>∃(o8:Option T),ρ=[some (.tup [.int f.first,.int (f.first+f.span),.lst false (f.names.map .str),.lst false (f.inks.map (dE false)),.lst false (f.reigns.map dY)]),some (.lst false (ss.map (gJ false))),some (.lst true (lN ss ss.length++rM f j)),o3,o4,o5,o6,o7,o8]) hL ⟨none,by simp[rM]⟩ (by
  rintro j t ρ et ⟨o8,rfl⟩
  obtain⟨hj,rfl⟩:=jA et
  have l1:=qP ss ss.length
  have l2:=tK f j
  have l3:(lN ss ss.length++rM f j).length<=100000:=by rw[List.length_append];omega
  have l4:∀x:T,(lN ss ss.length++rM f j++[x]).length<sizeLine:=λx=>Nat.lt_of_le_of_lt (show(lN ss ss.length++rM f j++[x]).length<=100000 by rw[List.length_append,List.length_append];simp;omega) (by decide)
  clear hL et h l1 l2
  walk_at "ev"
  refine⟨some (.int (0+(j:Int))),?_⟩
  rw[yV,show(0+(j:Int))=(j:Int) by omega]
  simp[sp])
 rw[fY]
 clear hL
 simp only[Int.toNat_natCast]
 walk_at "ev"
 rfl
theorem cg5{t:T}(h:oT t):vG t t=.ok (.bl false):=by
 obtain⟨a,b,c,d,rfl,ha,hb,hd⟩:=h
 have e:∀i:Int,(i==i)=true:=λi=>beq_self_eq_true i
 rcases ha with rfl|⟨i,rfl⟩<;>rcases hb with rfl|⟨j,rfl⟩<;>rcases hd with rfl|⟨k,rfl⟩<;>simp[vG,rP,dU,vL,wJ,kN]
theorem bp0(c:Int):oU [.int c]=.ok (.bl true):=by
 unfold oU oW
 walk_at "ev"
theorem zO{a:T}(h:a=.non\/∃i,a=.int i):gO [a,.ty "bool"]=.ok (.bl false):=by
 rcases h with rfl|⟨i,rfl⟩
 . exact by1
 . exact aa3 i
theorem bk7:∀(ts:List T){i:Nat}{t:T},(gW ts ts)[i]?=some t->∃u∈ts,t=.tup [u,u]:=by
 intro ts i t h
 obtain⟨a,b,h1,h2,rfl⟩:=wV h
 rw[h1]at h2
 cases h2
 exact⟨a,List.mem_of_getElem? h1,rfl⟩
theorem uP{ts:List T}(h:∀t∈ts,oT t)(hl:ts.length<=100000):eY [.lst false ts,.lst false ts]=.ok (.bl true):=by
 unfold eY qL
 have no:=xF h
 have e0:(!((ts.length:Int)==(ts.length:Int)))=false:=by simp
 walk_at "ev"
 generalize hL:eV _ _ _ _=o
 obtain⟨ρ',rfl,o2,o3,rfl⟩:=iQ (λj ρ=>∃(o2 o3:Option T),ρ=[some (.lst false ts),some (.lst false ts),o2,o3,none]) hL ⟨_,_,rfl⟩ (by
  rintro j t ρ et ⟨o2,o3,rfl⟩
  obtain⟨u,hu,rfl⟩:=bk7 ts et
  have ne:=cg5 (h u hu)
  obtain⟨nu,cu,zu⟩:=wL (h u hu)
  obtain⟨a,b,c,d,rfl,ha,hb,hd⟩:=h u hu
  have k:=bp0 c
  have ia:=zO ha
  have ib:=zO hb
  have id':=zO hd
  have ic:=aa3 c
  have b2:=@pR T
  have na:dL a=true:=by rcases ha with rfl|⟨i,rfl⟩<;>rfl
  have nb:dL b=true:=by rcases hb with rfl|⟨i,rfl⟩<;>rfl
  have nd:dL d=true:=by rcases hd with rfl|⟨i,rfl⟩<;>rfl
  have al:lO true [.lst true [.bl false,.bl false,.bl false,.bl false]]=.ok (.bl false):=rfl
  clear hL et h hu ha hb hd nu cu zu
  have hc:bX (aJ 4) cI (bP gO (aB (aD 4) (aB (dC (.ty "bool")) aH))) [some (.lst false ts),some (.lst false ts),some (.tup [a,b,.int c,d]),some (.tup [a,b,.int c,d]),none] [a,b,.int c,d]=.ok [.bl false,.bl false,.bl false,.bl false]:=by
   simp only[bX]
   walk_at "ev"
  walk_at "ev"
  exact⟨_,_,rfl⟩)
 clear hL
 walk_at "ev"
noncomputable def ay7:Fr->bR:=
 (aO (bE [] (bP gE (aB (aD 5) aH)) (aJ 6))
 (aO (bE [] (aX 2 iK (aB (aD 1) (aB (aD 3) aH))) (aJ 7))
 (aO (bE [] (aX 2 fF (aB (aD 4) (aB (aD 6) aH))) (aJ 8))
 (aO (cU (vM (gT (gL (aX 2 eY (aB (aD 8) (aB (aD 7) aH))))) (bK (aG vG (bP dQ (aB (aD 6) aH)) (bP dQ (aB (aD 5) aH))))) (bF [] (dC (.bl false))) bQ)
 (aO (gS 8 [] cO (dC .non))
 (aO (wC 6 [] ah8 cO aH)
 (aO (cU (gT (gL (aX 2 eY (aB (aX 2 fF (aB (aD 4) (aB (zM (aD 5) (gP (dZ mG (dC (.int 1))))) aH))) (aB (aX 2 iK (aB (aD 1) (aB (zM (aD 3) (gP (dZ mG (dC (.int 1))))) aH))) aH))))) (bF [] (dC (.bl false))) bQ)
 (aO (bE [] (sW pO (aD 7) (gP (aG cT (dC (.int 0)) (aG jY (dC (.int 2)) (bP dQ (aB (aG aV (aD 1) (dC (.int 2))) aH))))) jX) (aJ 9))
 (bF [] (nA (aX 2 eY (aB (aX 2 fF (aB (aD 4) (aB (aD 5) aH))) (aB (aD 7) aH))) (aX 2 eY (aB (aX 2 fF (aB (aD 4) (aB (aD 6) aH))) (aB (aD 9) aH)))))))))))))
theorem bx9:ay6=(aO (bE [] (aX 2 lV (aB (aD 0) (aB (dC (.int 8)) aH))) (aJ 1))
 (aO (bE [] (aX 2 kT (aB (aG fT (aX 2 eM (aB (aD 0) (aB (dC (.int 1)) aH))) (dC (.int 32))) (aB (aD 1) aH))) (aJ 2))
 (aO (bE [] (uY (aX 4 jP (aB (sW pO (aD 0) (gP (dC (.int 2))) (gP (dC (.int 18)))) (aB (aD 1) (aB (aG fR (aG bW (aX 2 eM (aB (aD 0) (aB (dC (.int 1)) aH))) (dC (.int 2))) (dC (.int 1))) (aB (aD 2) aH)))))) (aJ 3))
 (aO (bE [] (aX 1 jO (aB (aD 1) aH)) (aJ 4))
 (aO (bE [] (uY (aX 2 mY (aB (aD 4) (aB (aD 3) aH)))) (aJ 5))
 (aO (cU (pT (bK (kI wH wH (dC (.int 0)) (bP dQ (aB (aD 3) aH)) (dC (.int 16)))) (bK (aG fR (aG bW (aG fT (aX 2 eM (aB (aD 0) (aB (dC (.int 1)) aH))) (dC (.int 2))) (dC (.int 8))) (dC (.int 3))))) (aO (gS 3 [] cO (aR (aG aV (aD 3) (dC (.int 0)))))
 (gS 5 [] cO (aR (aG aV (aD 5) (dC (.int 0)))))) bQ)
 ay7)))))):=rfl
theorem bv7(o:Bool)(f:Fm):frz (fK o f)=fK false f:=by simp only[fK,frz,frzs,xH,mR,oC]
theorem cp1(f:Fm):dJ (fK true f)=true:=by simp only[fK,dJ,dA,sP,sG,ae1,Bool.and_self]
theorem di6(o:Bool)(f:Fm):aV (fK o f) (.int 2)=.ok (.lst o (f.names.map .str)):=by
 simp only[fK,cp3,pR]
theorem cv4{α:Type}(xs:List α)(m:Nat)(h0:0<m)(h:m<=xs.length):fM xs (some (0-(m:Int))) none=xs.drop (xs.length-m):=by
 unfold fM
 have e1:HT.sIx xs.length 0 (some (0-(m:Int)))=xs.length-m:=by
  simp only[HT.sIx]
  rw[if_pos (by omega)]
  omega
 have e2:HT.sIx xs.length xs.length none=xs.length:=rfl
 rw[e1,e2,List.take_of_length_le (by simp)]
theorem cz4{α β:Type}(g:α->β)(xs:List α)(lo hi:Option Int):fM (xs.map g) lo hi=(fM xs lo hi).map g:=by
 unfold fM
 rw[List.length_map,List.map_take,List.map_drop]
theorem cs5{α:Type}(xs:List α)(lo hi:Option Int):(fM xs lo hi).length<=xs.length:=by
 unfold fM
 rw[List.length_take,List.length_drop]
 omega
theorem tZ{f:Fm}(g:Gd f){ss:List Sd}(h:ss.length<=100):(rD f ss).length<=1000:=by
 unfold rD
 have:=qP ss ss.length
 have:=tK f f.names.length
 have:=g.n8
 rw[List.length_append]
 omega
theorem bu5{f:Fm}(g:Gd f){ss:List Sd}(h:∀s∈ss,SdOk f s)(hl:ss.length<=100)(x y:Option T):ay7 [x,some (fK true f),y,some (.lst true (ss.map (gJ false))),some (cD true f),some (.lst true (ss.map (gK false f))),none,none,none,none]=.rt (.bl true):=by
 unfold ay7
 have k1:=yM g h (by omega)
 have k2:=tY g h (by omega)
 have hr:∀s∈ss.reverse,SdOk f s:=λs hs=>h s (List.mem_reverse.mp hs)
 have k3:=yM g hr (by simp;omega)
 have k4:=tY g hr (by simp;omega)
 have k5:=tY g (ss:=[]) cV (by decide)
 rw[List.map_reverse]at k3 k4
 have a1:=vN f ss
 have a2:=vN f ss.reverse
 have a3:=vN f []
 have s1:=uP a1 (by have:=tZ g hl;omega)
 have s2:=uP a2 (by have:=tZ g (ss:=ss.reverse) (by simpa using hl);omega)
 have s3:=uP a3 (by have:=tZ g (ss:=[]) (by decide);omega)
 have c1:=sD a1
 have c2:=sD a2
 have c3:=sD a3
 have z1:=xN a1
 have z2:=xN a2
 have z3:=xN a3
 have n1:=xF a1
 have fm:=bv7 true f
 have ar:=iB true f
 have f2:=di6 true f
 have zs:=rB (f:=f) false h
 have zr:frzs (ss.map (gJ false)).reverse=(ss.map (gJ false)).reverse:=by rw[<-List.map_reverse];exact rB (f:=f) false hr
 have ns:=pW h
 have zo:=uT false f ss
 have zor:frzs (ss.map (gK false f)).reverse=(ss.map (gK false f)).reverse:=by rw[<-List.map_reverse];exact uT false f ss.reverse
 have no:=tV f ss
 have e0:(!((ss.length:Int)==(ss.length:Int)))=false:=by simp
 have la:=tZ g hl
 have lb:(rD f ss).length<=100000:=by omega
 have al:fM (rD f ss) (some (0-2*(f.names.length:Int))) none=rD f []:=by
  have hs:=tK f f.names.length
  have hn:=g.n1
  have e1:(rD f ss).length=(lN ss ss.length).length+2*f.names.length:=by unfold rD;rw[List.length_append,hs]
  rw[show(0-2*(f.names.length:Int))=0-((2*f.names.length:Nat):Int) by omega,cv4 _ _ (by omega) (by omega),e1,Nat.add_sub_cancel]
  unfold rD
  rw[List.drop_left]
  simp[lN]
 simp only[List.map_nil]at k5
 clear h hr a1 a2 a3 la hl g
 walk_at "ev"
theorem main(ns:List Int)(h63:ns.length<=63)(hb:∀n∈ns,Builtin.Int.intBits n<=1048576):av6 [.lst false (ns.map .int)]=.ok (.bl true):=by
 unfold av6
 rw[bx9]
 obtain⟨f,hf,g⟩:=cm6 ns
 have ec:eM [.lst false (ns.map .int),.int 1]=.ok (.int (ns.getD 1 0)):=bw6 false ns 1
 obtain⟨hid,hh,hl,hhb⟩:=bb9 (ns.getD 1 0/32) g
 have ct:=cz4 T.int ns (some 2) (some 18)
 have ctl:=cs5 ns (some 2) (some 18)
 obtain⟨ss,hs,sl,sok⟩:=bo5 g (fM ns (some 2) (some 18)) (by omega) (ns.getD 1 0%2==1) hid hl hhb
 have ka:=av5 g
 have kh:=dl0 sok (by omega)
 have fm:=bv7 true f
 have cf:=cp1 f
 have ar:=iB true f
 have ca:=aa7 f
 have zs:=rB (f:=f) true sok
 have zs0:=rB (f:=f) false sok
 have cs:=au0 sok
 have co:=bs2 f ss
 have zo:=uT true f ss
 have ns1:=pW sok
 have no:=tV f ss
 have tl:=bu5 g sok (by omega)
 have nn:=lS ns
 by_cases cA:(0<ss.length/\ss.length<16)/\ns.getD 1 0/2%8=3
 . have t1:decide (0<(ss.length:Int))=true:=decide_eq_true (by omega)
   have t2:decide ((ss.length:Int)<16)=true:=decide_eq_true (by omega)
   have t3:(ns.getD 1 0/2%8==3)=true:=by rw[cA.2];rfl
   obtain⟨s0,r,hss⟩:∃s0 r,ss=s0::r:=by
    cases ss with
    |nil=>simp at cA
    |cons s0 r=>exact⟨s0,r,rfl⟩
   have sok2:∀s∈ss++[s0],SdOk f s:=λs h=>(List.mem_append.mp h).elim (sok s) (λq=>by rw[List.mem_singleton.mp q];exact sok s0 (by rw[hss];simp))
   have tl2:=bu5 g sok2 (by simp;omega)
   rw[List.map_append,List.map_append]at tl2
   have a1:atI (ss.map (gJ false)) 0=some (gJ false s0):=by rw[hss];exact jC _ _
   have a2:atI (ss.map (gK false f)) 0=some (gK false f s0):=by rw[hss];exact jC _ _
   have o1:=ab8 (sok s0 (by rw[hss];simp))
   have o2:=at8 f s0
   have ll:ss.length<=100000:=by omega
   simp only[List.map_cons,List.map_nil]at tl2
   clear cA hss sok sok2 hb sl ctl tl hl hhb g
   walk_at "ev"
 . have tC:decide (0<(ss.length:Int))=false\/(decide (0<(ss.length:Int))=true/\(decide ((ss.length:Int)<16)=false\/(decide ((ss.length:Int)<16)=true/\(ns.getD 1 0/2%8==3)=false))):=by
    by_cases q1:0<ss.length
    . by_cases q2:ss.length<16
      . exact .inr ⟨decide_eq_true (by omega),.inr ⟨decide_eq_true (by omega),beq_eq_false_iff_ne.mpr λq=>cA ⟨⟨q1,q2⟩,q⟩⟩⟩
      . exact .inr ⟨decide_eq_true (by omega),.inl (decide_eq_false (by omega))⟩
    . exact .inl (decide_eq_false (by omega))
   clear cA sok hb sl ctl hl hhb g
   rcases tC with t1|⟨t1,t2|⟨t2,t3⟩⟩
   . walk_at "ev"
   . walk_at "ev"
   . walk_at "ev"
end Nk21
namespace PySem.W.Fast
def tw10052964011729730303:=0
def tw10158571231373879018:=0
def tw10225516135905254287:=0
def tw1022910771506821162:=0
def tw10246653989229108730:=0
def tw10281363106332104528:=0
def tw10318703796312147040:=0
def tw10336283470565389700:=0
def tw10449284809836978797:=0
def tw10531821558276618980:=0
def tw10583940616426837397:=0
def tw10604636330379727323:=0
def tw10632364997051575871:=0
def tw10638392201742091343:=0
def tw10655337842730903272:=0
def tw10685131781804178623:=0
def tw10806344771451868540:=0
def tw10813831207125909913:=0
def tw10865115137804798954:=0
def tw10899022971606274397:=0
def tw10904636339166734321:=0
def tw1091537151791185381:=0
def tw10967530569450796025:=0
def tw10984770170088755163:=0
def tw10985529867423105768:=0
def tw1101543249193242454:=0
def tw11020248180814647942:=0
def tw11071013868020568940:=0
def tw11080359499390591624:=0
def tw11131302230300149397:=0
def tw11141456881368193679:=0
def tw11205711739351462050:=0
def tw11212175292438398198:=0
def tw11243657175279068455:=0
def tw11245012618609844264:=0
def tw11265754675422924262:=0
def tw11300299886430411774:=0
def tw11348324603549231089:=0
def tw11353024635089632965:=0
def tw11367702654486195877:=0
def tw11369274004492001757:=0
def tw11403485873633986749:=0
def tw11424498708909183515:=0
def tw1143657285102276183:=0
def tw11454713872980434220:=0
def tw11528928765277343692:=0
def tw1153605208504905214:=0
def tw1156594060359497364:=0
def tw11618207123990354369:=0
def tw11653513741352833222:=0
def tw11723091094729620750:=0
def tw11747469614715952652:=0
def tw1176070253319910416:=0
def tw11766813334023356095:=0
def tw1180373684696407031:=0
def tw11810888831781396535:=0
def tw11860459540001267242:=0
def tw11895366686475535022:=0
def tw11914079368942970383:=0
def tw11932410251689122547:=0
def tw11942509294604125783:=0
def tw12022916627044200492:=0
def tw12046834083121076847:=0
def tw12080395773896861410:=0
def tw12119478267045660819:=0
def tw12132491275611940569:=0
def tw12152416578840408583:=0
def tw12156044984361327715:=0
def tw12164713464807031856:=0
def tw12201914334785257131:=0
def tw12212233356211375089:=0
def tw12216188559697723140:=0
def tw12217675286657648437:=0
def tw12242149053638145774:=0
def tw1226171627853576572:=0
def tw12276643274262010226:=0
def tw12287713873335510517:=0
def tw12341606014456019583:=0
def tw12380350233239656710:=0
def tw12392434494320948071:=0
def tw12465541736260504562:=0
def tw12469031804747822838:=0
def tw1250307991487908745:=0
def tw12504909476515837928:=0
def tw12511468527538445657:=0
def tw12517482531160555088:=0
def tw12529382046659212176:=0
def tw12592150354658581919:=0
def tw12660735748346472961:=0
def tw12715471636367006439:=0
def tw12716070274021826722:=0
def tw12748900230775571763:=0
def tw12750181739773969:=0
def tw1275091215266429544:=0
def tw12756778442316753762:=0
def tw12780228540497981173:=0
def tw12787236417815965000:=0
def tw12842453189125084617:=0
def tw12848262466196111545:=0
def tw12884707581104198786:=0
def tw12889031016729301242:=0
def tw1291244273927658941:=0
def tw12977068138428505310:=0
def tw13006363551880263680:=0
def tw13006979788512965779:=0
def tw13023943843252528298:=0
def tw13044563050149063847:=0
def tw13079123784739610070:=0
def tw13160457647251226044:=0
def tw13165219325295623424:=0
def tw13184056335843026884:=0
def tw13198340220024308024:=0
def tw13215234074868865602:=0
def tw13253315608321222250:=0
def tw13390047622743870058:=0
def tw1348844119899600466:=0
def tw13520066666530727757:=0
def tw13603216747654040308:=0
def tw13662349388204082602:=0
def tw13687736559815869467:=0
def tw1372284619549582708:=0
def tw13738578749158785758:=0
def tw13755574212115830108:=0
def tw13782550560201751166:=0
def tw1380519439346605854:=0
def tw13848225633117690304:=0
def tw13852623190220031507:=0
def tw13872760302663395562:=0
def tw13898970601142941893:=0
def tw13958241833356149776:=0
def tw13981515264468641895:=0
def tw14012223581789938365:=0
def tw14046679109945374838:=0
def tw14054888570241532901:=0
def tw1414359584990168537:=0
def tw14147749713056749527:=0
def tw14156908030146646129:=0
def tw1419180008999726577:=0
def tw14284716639394022780:=0
def tw14382532846077625340:=0
def tw14392301986356194854:=0
def tw14393394970803006563:=0
def tw14395709325615883770:=0
def tw14398181613720277579:=0
def tw14414886112447894509:=0
def tw14419110101397162887:=0
def tw14442461058151782422:=0
def tw14451141522599081651:=0
def tw14467988368532849683:=0
def tw14468928656650678144:=0
def tw14530750663229365217:=0
def tw14542052204105153217:=0
def tw14585379964138629543:=0
def tw14612915046865305538:=0
def tw14633795090852900867:=0
def tw14636318701846653101:=0
def tw14645544874095157967:=0
def tw14649599785939363079:=0
def tw14657346668856237941:=0
def tw1471467700188092032:=0
def tw14723208587614094813:=0
def tw14733906601985567141:=0
def tw14750385012751201959:=0
def tw14791027325585872567:=0
def tw1481309531669602743:=0
def tw14848040062332997997:=0
def tw14898016388150188319:=0
def tw14935204171010161367:=0
def tw1499411107158124709:=0
def tw15016427269381013121:=0
def tw1504192490222787625:=0
def tw15088510043660885007:=0
def tw1509124562020823948:=0
def tw15101154998436038933:=0
def tw15113691260094770012:=0
def tw15158859315425814942:=0
def tw15202305430393472759:=0
def tw15226317245712483036:=0
def tw15251370920098010456:=0
def tw15253522016586430095:=0
def tw15287762050309647561:=0
def tw1530669897523879971:=0
def tw15325331138663320177:=0
def tw15332101165241439760:=0
def tw15375011649670154715:=0
def tw15375318181928338563:=0
def tw15393924873671160163:=0
def tw15417241753924223332:=0
def tw15444990445099769520:=0
def tw15509256993050691520:=0
def tw1550985160060308838:=0
def tw15539246638350898267:=0
def tw15540119138758732326:=0
def tw15569564355603159418:=0
def tw15574384410109996334:=0
def tw15585579024555229173:=0
def tw15595761303750080599:=0
def tw15600063011822433294:=0
def tw15605123683288281493:=0
def tw15629349526435598721:=0
def tw15630131780510671545:=0
def tw15645196289244560424:=0
def tw15709118283186017826:=0
def tw15725110634243106184:=0
def tw15756466367909355125:=0
def tw15760469867922822493:=0
def tw157767031646691245:=0
def tw15969895595256761723:=0
def tw15972170818158223959:=0
def tw15974638608863701934:=0
def tw15986799970926845375:=0
def tw16006510857142456132:=0
def tw16018534530774185776:=0
def tw16116816654732551384:=0
def tw16149702625320570123:=0
def tw16227291633114480252:=0
def tw16294785094850691912:=0
def tw1635202520192708565:=0
def tw16364621812537783872:=0
def tw16396349841217299498:=0
def tw16457775264403345323:=0
def tw16473321785987566925:=0
def tw16484214298242826792:=0
def tw16504674177713873598:=0
def tw16506864751213905459:=0
def tw16585138738352060844:=0
def tw16609430788384357791:=0
def tw16628481402709409262:=0
def tw16647678755248248084:=0
def tw16649781119103188437:=0
def tw16673940016576446334:=0
def tw16728164805664480276:=0
def tw16789479077243274086:=0
def tw16799753391446745757:=0
def tw16876159839136281162:=0
def tw16889297853990431629:=0
def tw16894206803047312132:=0
def tw16919247066570963420:=0
def tw16963066345618130926:=0
def tw16992913049416210984:=0
def tw17029194762665954:=0
def tw17067232757239876760:=0
def tw17105518247376365471:=0
def tw17139472473947670999:=0
def tw17144809373938304691:=0
def tw1715377823772908629:=0
def tw17155396703278749548:=0
def tw17160433665579890140:=0
def tw17199326619896500820:=0
def tw17242934748894261589:=0
def tw17250682444341377733:=0
def tw17296826415789576548:=0
def tw17300653576729030619:=0
def tw17302469314743288561:=0
def tw17357024763659455346:=0
def tw173730985380582956:=0
def tw17389440370297557933:=0
def tw17401637977477682702:=0
def tw17425277647792392963:=0
def tw1748432149997032586:=0
def tw17504274273195038542:=0
def tw17521972523183844415:=0
def tw17563960144133956766:=0
def tw17571357426453578750:=0
def tw17592057511289462736:=0
def tw17604953223644206776:=0
def tw1763423810248459006:=0
def tw17673572764864149622:=0
def tw17704034990618332949:=0
def tw17705022421850296772:=0
def tw17797561974766095102:=0
def tw17797675000485447812:=0
def tw17815973620981961445:=0
def tw17958942143333476698:=0
def tw1796782643145660044:=0
def tw17969040329357294511:=0
def tw17998260106587421676:=0
def tw18014447779225127167:=0
def tw18040139772515977849:=0
def tw1811340110091806460:=0
def tw1815067939769940816:=0
def tw18192878200251475845:=0
def tw18207894360679763661:=0
def tw18228543603273096569:=0
def tw18273198658080853394:=0
def tw18277876931743168647:=0
def tw18293345482073079278:=0
def tw18325107900984466513:=0
def tw18334698480931497814:=0
def tw18347126763302190985:=0
def tw18387859658009149522:=0
def tw18409233076798649595:=0
def tw1883494455388384150:=0
def tw1928265515891900596:=0
def tw1930803934060184463:=0
def tw1949618572121779319:=0
def tw1954503209630873196:=0
def tw1971234225353635980:=0
def tw1979679214320576576:=0
def tw2048529718681150501:=0
def tw2136407319561263405:=0
def tw2150507597388817475:=0
def tw218892555269937106:=0
def tw2212792917546799644:=0
def tw2313450425423087945:=0
def tw2381303899790596878:=0
def tw2407476410882723969:=0
def tw243584462237345936:=0
def tw2449181760642645226:=0
def tw2488429500536114150:=0
def tw2490865096519146704:=0
def tw2510304730424683340:=0
def tw256974727915307636:=0
def tw2572353608801793489:=0
def tw2597108890389321438:=0
def tw2632611337283836532:=0
def tw2664907619911977571:=0
def tw2683358330522046615:=0
def tw2684980119569102859:=0
def tw272659244543122718:=0
def tw2759765615523796924:=0
def tw2764082626101765501:=0
def tw27790533927686424:=0
def tw2795205577710191606:=0
def tw2817725190182044350:=0
def tw2836189992037475271:=0
def tw2838297082911992504:=0
def tw2891029560735282968:=0
def tw2934108480701728887:=0
def tw3052606073791659857:=0
def tw3123682622959934452:=0
def tw3128343967447936751:=0
def tw3180803626923213629:=0
def tw318472808071485605:=0
def tw320419044344394196:=0
def tw3302377639660460411:=0
def tw3315691979174571205:=0
def tw333599240391006480:=0
def tw3371958231197288230:=0
def tw3379759352852280950:=0
def tw3379934815445763845:=0
def tw3385711353190635937:=0
def tw3389646159930029832:=0
def tw3422264747607576851:=0
def tw3434476037642829010:=0
def tw3510054025195928588:=0
def tw3553958069936136623:=0
def tw3596220096774746599:=0
def tw3644325575312604613:=0
def tw3647345142285114526:=0
def tw3658400834157809441:=0
def tw3660824679071657368:=0
def tw3737994605081476682:=0
def tw3762618407534785415:=0
def tw3778617892387272352:=0
def tw3790760855906753586:=0
def tw3828413381598038264:=0
def tw3857224185954642956:=0
def tw3876698790522129118:=0
def tw3878510265440378827:=0
def tw3919592731686962922:=0
def tw3958021330720828368:=0
def tw3969280828851849203:=0
def tw3985279313880593357:=0
def tw4005789445134171902:=0
def tw4010823605682262816:=0
def tw4024189051801663462:=0
def tw4056650220309126897:=0
def tw4187089871681755720:=0
def tw4289413341865459337:=0
def tw4307401888317926776:=0
def tw4352861459716373031:=0
def tw4353511064464629136:=0
def tw4376062955497175577:=0
def tw4426118871214694495:=0
def tw4427067962673436880:=0
def tw4428140190263569503:=0
def tw4440874299146600960:=0
def tw4468136959768436085:=0
def tw4474295599403418660:=0
def tw4529354552277422646:=0
def tw4529431580240362723:=0
def tw4552901388900507179:=0
def tw4567452903102980569:=0
def tw4632831233276696425:=0
def tw4666235890571052102:=0
def tw4811760115133882148:=0
def tw4819845344993245697:=0
def tw4836735043277776622:=0
def tw4957923000342609068:=0
def tw4999531523829043139:=0
def tw5027654091572397751:=0
def tw5090804661965595914:=0
def tw5097069510317291871:=0
def tw513448769976724646:=0
def tw5170533839147356948:=0
def tw5179349404025586587:=0
def tw5183398585316960553:=0
def tw520927763150084308:=0
def tw5213030848564432185:=0
def tw5243084440610046662:=0
def tw5256949868046600220:=0
def tw529717621926256206:=0
def tw530662282167031606:=0
def tw5321619729121586957:=0
def tw5339360036029658579:=0
def tw5341989207025648063:=0
def tw5362694897623832491:=0
def tw5382171795890907210:=0
def tw5496592175459387951:=0
def tw5508812709384769670:=0
def tw572350032989565267:=0
def tw573491266489395281:=0
def tw5761218514727303565:=0
def tw5891173691313128691:=0
def tw5938119357745853674:=0
def tw5938776401482418152:=0
def tw5939974527111513478:=0
def tw5957671337889120537:=0
def tw5976236172501910379:=0
def tw5996615063114998897:=0
def tw6006224182766271355:=0
def tw6062056079842851919:=0
def tw6075318578774402486:=0
def tw6077021142225750011:=0
def tw6080435146006125574:=0
def tw6131325265494540375:=0
def tw6170519354609424491:=0
def tw6185221783101968848:=0
def tw6201924886263487864:=0
def tw6251594107673863761:=0
def tw6275717088314095827:=0
def tw6279999831188378656:=0
def tw6311042693905465080:=0
def tw6334586902603139613:=0
def tw6352662006435062945:=0
def tw6370899238867480080:=0
def tw637128168068705985:=0
def tw6380946246362300664:=0
def tw6384240486524394075:=0
def tw6389403301662713836:=0
def tw6406265353155223456:=0
def tw6428913967668298041:=0
def tw6431001265178759836:=0
def tw6549188960959111604:=0
def tw6569153049545376961:=0
def tw6594537689968893773:=0
def tw6609338658521979104:=0
def tw6614544627821513808:=0
def tw6775045984896711385:=0
def tw6890674318253706468:=0
def tw6941455241985731497:=0
def tw6958490578772113214:=0
def tw69901426719549317:=0
def tw6992129977213055227:=0
def tw7044085386843705234:=0
def tw7069521671726315539:=0
def tw712566703408243197:=0
def tw7215738033812598778:=0
def tw7216753240359616741:=0
def tw722861868458728535:=0
def tw7234584745660169603:=0
def tw7307349442583266430:=0
def tw7314023608661246795:=0
def tw7324373025511465164:=0
def tw7343841842855693718:=0
def tw739035769312925855:=0
def tw7398391361855164887:=0
def tw7405189751950798585:=0
def tw7412552685286932225:=0
def tw7449174225668190261:=0
def tw7463754775317275792:=0
def tw7519524813641375154:=0
def tw7523560438896461165:=0
def tw761600821701203573:=0
def tw7617916453534199629:=0
def tw7640291833694259856:=0
def tw7645487256475349339:=0
def tw7726497510012367812:=0
def tw7767199241756955763:=0
def tw7769018950718415371:=0
def tw7769267543417661850:=0
def tw7818426181834427382:=0
def tw7922486266463709767:=0
def tw7944754790981989994:=0
def tw8064465536541582148:=0
def tw8177896853640043368:=0
def tw817856844559229027:=0
def tw8205384746043251469:=0
def tw8239165780773476694:=0
def tw8246438020056585875:=0
def tw8342480780978935562:=0
def tw8346163263891302915:=0
def tw835082040345389683:=0
def tw8359457607866210387:=0
def tw8486790850202863189:=0
def tw8535973923749178604:=0
def tw8561977995357784317:=0
def tw8568426334653334997:=0
def tw8583640579429141318:=0
def tw8633567541594979508:=0
def tw8649508822776652711:=0
def tw8675815449984103970:=0
def tw8905850746665327873:=0
def tw893359823888818415:=0
def tw8942338772315813875:=0
def tw8950712230263831178:=0
def tw9008350016564025838:=0
def tw9032577807215453915:=0
def tw9059084272239934524:=0
def tw910432925133420537:=0
def tw9160074210278664928:=0
def tw9200548292608596016:=0
def tw9244302129234286919:=0
def tw9290347585031537935:=0
def tw9410387018668275491:=0
def tw9441106752879584030:=0
def tw9512789563009716000:=0
def tw9522471529173388990:=0
def tw9567391418989982205:=0
def tw9617272943122720961:=0
def tw9635115970554472687:=0
def tw967314856531398181:=0
def tw9697081012482407850:=0
def tw9773439986148333171:=0
def tw9811543146152089273:=0
def tw9823508198002720600:=0
def tw9911086872774069808:=0
def tw9929558499890067515:=0
def tw9949253342505974760:=0
def tw9982015844770419475:=0
def tw9985614482528059350:=0
end PySem.W.Fast
open PySem PySem.W PyProof.Rows
set_option maxRecDepth 100000 in
set_option maxHeartbeats 0 in
theorem PySem.Challenge.cw_inkyears_k21_steps_of_a_heap_holds : PySem.Challenge.rw_inkyears_k21_steps_of_a_heap.Holds := by
 w_on;o_law;k_head;(case hw=>w_witness2)
 k_fill
 refine L2.cn1 (l:=PySem.Challenge.rw_inkyears_k21_steps_of_a_heap) (k:=8) (x:="_law_script") rfl rfl ⟨rfl,by decide,by decide⟩ (λw h Y=>PySem.W.kIn_of Y) ?F
 case F=>
  intro w mg fa h KX G hmg
  refine' Nk21.dd0 (cn:=λx=>[(("Archive":Str),?c_Archive),(("Ink":Str),?c_Ink),(("Reign":Str),?c_Reign),(("Under":Str),?c_Under),(("Between":Str),?c_Between),(("After":Str),?c_After),(("Same":Str),?c_Same),(("Within":Str),?c_Within),(("Apart":Str),?c_Apart)].lookup x) (c_Archive:=?c_Archive) (c_Ink:=?c_Ink) (c_Reign:=?c_Reign) (c_Under:=?c_Under) (c_Between:=?c_Between) (c_After:=?c_After) (c_Same:=?c_Same) (c_Within:=?c_Within) (c_Apart:=?c_Apart) KX G hmg ?a0 ?l0 ?c0 ?k0 ⟨?T0,?T1,?T2,?T3,?T4,?T5,?T6,?T7,?T8,?T9,?T10,?T11,?T12,?T13,?T14,?T15,?T16,?T17,?T18,?T19,?T20,?T21,?T22,?T23,?T24,?T25,?T26,?T27,?T28,?T29,?T30,?T31,?T32,?T33,?T34,?T35,?T36,?T37,?T38,?T39,?T40,?T41,?T42,?T43,?T44,?T45,?T46,?T47,?T48,?T49,?T50,?T51,?T52,?T53,?T54,?T55,?T56,?T57,?T58,?T59,?T60,?T61,?T62,?T63,?T64,?T65,?T66,?T67,?T68,?T69,?T70,?T71,?T72,?T73,?T74,?T75,?T76,?T77,?T78,?T79,?T80,?T81,?T82,?T83,?T84,?T85,?T86,?t0,?t1,?t2,?t3,?t4,?t5,?t6,?t7,?t8,?t9,?t10,?t11,?t12,?t13,?t14,?t15,?t16,?t17,?t18,?t19,?t20,?t21,?t22,?t23,?t24,?t25,?t26,?t27,?t28,?t29,?t30,?t31,?t32,?t33,?t34,?t35,?t36,?t37,?t38,?t39,?t40,?t41,?t42,?t43,?t44,?t45,?t46,?t47,?t48,?t49,?t50,?t51,?t52,?t53,?t54,?t55,?t56,?t57,?t58,?t59,?t60,?t61,?t62,?t63,?t64,?t65,?t66,?t67,?t68,?t69,?t70,?t71,?t72,?t73,?t74,?t75,?t76,?t77⟩ Nk21.main
  (case a0=>k_is);(case l0=>k_is);(case c0=>k_is);(case k0=>k_is)
  all_goals try(refine' L2.cc9 KX G ?a ?l ?c ?k;(case a=>k_is);(case l=>k_is);(case c=>k_is);(case k=>k_is))
  all_goals try(refine' L2.cu4 KX G ?g ?mk ?a ?b ?kc ?l ?c ?k;(case g=>k_is);(case mk=>k_is);(case a=>k_is);(case b=>k_is);(case kc=>k_is);(case l=>k_is);(case c=>k_is);(case k=>k_is))
  all_goals try(refine' L2.cb5 ?a ?b ?l ?c ?k;(case a=>k_is);(case b=>k_is);(case l=>k_is);(case c=>k_is);(case k=>k_is))
  case t69=>(refine' L2.au3 KX G ?g ?l ?r ?nd ?sm;(case g=>k_is);(case l=>k_is);(case r=>exact .cons (.cons (.cons (.cons (.cons (.cons (.cons (.cons (.nil)))))))));(case nd=>decide+kernel);(case sm=>rfl))
  all_goals try exact L2.dp2 KX G (by k_is) rfl
  all_goals try exact PySem.W.mg_none_of KX G (by k_is)
  all_goals try(refine' L2.ch7 KX G ?a ?r;(case a=>k_is);(case r=>exact⟨_,rfl⟩))
  case T28=>(refine' L2.au3 KX G ?g ?l ?r ?nd ?sm;(case g=>k_is);(case l=>k_is);(case r=>exact .cons (.cons (.cons (.cons (.cons (.nil))))));(case nd=>decide+kernel);(case sm=>rfl))
  case T29=>exact .cons (TL.iO (by k_is) (.int (.int .nil)) (by decide)) (.cons (TL.iO (by k_is) (.int (.int .nil)) (by decide)) (.cons (TL.iO (by k_is) (.int (.int .nil)) (by decide)) (.cons (TL.iO (by k_is) (.int (.int .nil)) (by decide)) (.cons (TL.iO (by k_is) (.int (.int .nil)) (by decide)) (.nil)))))
  case T30=>(refine' L2.au3 KX G ?g ?l ?r ?nd ?sm;(case g=>k_is);(case l=>k_is);(case r=>exact .cons (.cons (.cons (.cons (.cons (.cons (.cons (.cons (.nil)))))))));(case nd=>decide+kernel);(case sm=>rfl))
  case T31=>exact .cons (TL.iO (by k_is) (.str (.str (.str (.str .nil)))) (by decide)) (.cons (TL.iO (by k_is) (.str (.str (.str .nil))) (by decide)) (.cons (TL.iO (by k_is) (.str (.str .nil)) (by decide)) (.cons (TL.iO (by k_is) (.str (.str (.str .nil))) (by decide)) (.cons (TL.iO (by k_is) (.str (.str .nil)) (by decide)) (.cons (TL.iO (by k_is) (.str (.str .nil)) (by decide)) (.cons (TL.iO (by k_is) (.str (.str (.str .nil))) (by decide)) (.cons (TL.iO (by k_is) (.str (.str (.str (.str .nil)))) (by decide)) (.nil))))))))
  case T32=>rfl
  all_goals try(refine' L2.dk1 ?a ?b ?c ?d;(case a=>k_is);(case b=>k_is);(case c=>k_is);(case d=>k_is))
  case T34=>rfl
  case T36=>rfl
  case T38=>rfl
  case T40=>rfl
  case T42=>rfl
  case T44=>rfl
  case T46=>rfl
  case T48=>rfl
  all_goals try exact L2.dx3 (by k_is)
