import PyProof.Rows.All
import Wide.All
import OpenK.AllK
import Wide.FinOn
import Lean
import PyProof.EqAt
import PyProof.EqKinds
import PyProof.TupleCall
import PyProof.NeKinds
import PyProof.ZipIter
import PyProof.EnumMake
import PyProof.Rows.ZipGen
import PyProof.Rows.SetFrom
import PyProof.IsiNone
import KE.KRevSl
import PyProof.Rows.ListMul
import PyProof.ListRange
import PyProof.Rows.SumAny
import PyProof.InstStoreFacts
import PyProof.ExcBaseAll.ValueError
import PyProof.ExcInit
import PyProof.ExcArgsOwn
import KE.KIsAll
import PySem.Challenge.RW_inkyears_k11_archives_made
set_option Elab.async false
set_option compiler.extract_closed false
set_option linter.all false
set_option maxRecDepth 100000
set_option maxHeartbeats 4000000

namespace L2
open PySem PySem.Spec PyProof.Rows
abbrev qB:=Sum Int Str
def bt6:qB->Value->Bool
 |.inl k,v=>Value.isInt k v
 |.inr x,v=>Value.isStrOf x v
def cf9(w:World):qB->Int
 |.inl k=>hashInt k
 |.inr x=>hashStr w x
theorem gO:∀{k:qB}{v:Value},bt6 k v=true->(∃i t,k=Sum.inl i/\v=Value.int i t)\/(∃x t,k=Sum.inr x/\v=Value.str x t)
 |.inl i,v,h=>by
  obtain⟨t,e⟩:=Value.isInt_shape (k:=i) (v:=v) h
  exact .inl ⟨i,t,rfl,e⟩
 |.inr x,v,h=>by
  obtain⟨t,e⟩:=Value.isStrOf_shape (x:=x) (v:=v) h
  exact .inr ⟨x,t,rfl,e⟩
theorem ck2(a b:Int):decide ((Sum.inl a:qB)=Sum.inl b)=(a==b):=by
 by_cases e:a=b
 . subst e;simp
 . have h:¬(Sum.inl a:qB)=Sum.inl b:=λq=>e (Sum.inl.inj q)
   rw[decide_eq_false h]
   exact(beq_eq_false_iff_ne.mpr e).symm
theorem ct2(a b:Str):decide ((Sum.inr a:qB)=Sum.inr b)=decide (a=b):=by
 by_cases e:a=b
 . subst e;simp
 . have h:¬(Sum.inr a:qB)=Sum.inr b:=λq=>e (Sum.inr.inj q)
   rw[decide_eq_false h,decide_eq_false e]
theorem cw2(a:Int)(b:Str):decide ((Sum.inl a:qB)=Sum.inr b)=false:=decide_eq_false (λq=>nomatch q)
theorem cv1(a:Str)(b:Int):decide ((Sum.inr a:qB)=Sum.inl b)=false:=decide_eq_false (λq=>nomatch q)
def al1(prog:Program)(w:World):PySem.KeyKind prog w qB where
 is:=bt6
 hash:=cf9 w
 inj:=λv a b ha hb=>by
  rcases gO ha with⟨i,t,rfl,rfl⟩|⟨x,t,rfl,rfl⟩
  . rcases gO hb with⟨j,u,rfl,e⟩|⟨y,u,rfl,e⟩
    . injection e with e1 _;rw[e1]
    . exact nomatch e
  . rcases gO hb with⟨j,u,rfl,e⟩|⟨y,u,rfl,e⟩
    . exact nomatch e
    . injection e with e1 _;rw[e1]
 byValue:=λk v h=>by
  rcases gO h with⟨i,t,rfl,rfl⟩|⟨x,t,rfl,rfl⟩<;>rfl
 pyHash:=λhv h=>by
  rcases gO hv with⟨i,t,rfl,rfl⟩|⟨x,t,rfl,rfl⟩
  . exact wpAny_pyHash_int h
  . exact wpAny_pyHash_str h
 eqBool:=λhu hv h=>by
  rcases gO hu with⟨i,t,rfl,rfl⟩|⟨x,t,rfl,rfl⟩
  . rcases gO hv with⟨j,u,rfl,rfl⟩|⟨y,u,rfl,rfl⟩
    . rw[ck2]at h;exact wpAny_eqBool_int h
    . rw[cw2]at h;exact SeqAt.EqAt.int_str i t y u _ _ _ _ h
  . rcases gO hv with⟨j,u,rfl,rfl⟩|⟨y,u,rfl,rfl⟩
    . rw[cv1]at h;exact SeqAt.EqAt.str_int x t j u _ _ _ _ h
    . rw[ct2]at h;exact wpAny_eqBool_str h
 «strs»:=λk x t v h=>by
  rcases gO h with⟨i,u,rfl,e⟩|⟨y,u,rfl,e⟩
  . exact nomatch e
  . injection e with e1 _
    subst e1
    cases v<;>rfl
end L2
namespace L2
open PySem PySem.Spec PyProof.Rows
inductive V where
 |non|bl (b:Bool)|int (i:Int)|str (x:Str)|byt (b:Array UInt8)|flt (b:UInt64)|ref (a:Addr)|ty (n:String)
 deriving DecidableEq
def RelV:V->Value->Prop
 |.non,u=>u=Value.none
 |.bl b,u=>u=Value.bool b
 |.int i,u=>∃t,u=Value.int i t
 |.str x,u=>∃t,u=Value.str x t
 |.byt b,u=>∃t,u=Value.bytes b t
 |.flt b,u=>∃t,u=Value.float b t
 |.ref a,u=>u=Value.ref a
 |.ty n,u=>u=Value.type n
abbrev Vals:List V->List Value->Prop:=Paired RelV
theorem Vals.length{xs:List V}{us:List Value}(r:Vals xs us):xs.length=us.length:=Paired.length r
theorem Vals.get:∀{xs:List V}{us:List Value}{i:Nat}{x:V},Vals xs us->xs[i]?=some x->∃u,us[i]?=some u/\RelV x u
 |_,_,_,_,.nil,e=>by simp at e
 |_,_,0,_,.cons r _,e=>by simp at e;subst e;exact⟨_,rfl,r⟩
 |_,_,i+1,x,.cons _ t,e=>by
  obtain⟨u,h1,h2⟩:=Vals.get (i:=i) (x:=x) t (by simpa using e)
  exact⟨u,by simpa using h1,h2⟩
theorem Vals.set{x:V}{u:Value}(r:RelV x u):∀{xs:List V}{us:List Value}(i:Nat),Vals xs us->Vals (xs.set i x) (us.set i u)
 |_,_,_,.nil=>.nil
 |_,_,0,.cons _ t=>.cons r t
 |_,_,i+1,.cons q t=>.cons q (Vals.set r i t)
theorem Vals.append:∀{xs ys:List V}{us ws:List Value},Vals xs us->Vals ys ws->Vals (xs++ys) (us++ws)
 |_,_,_,_,.nil,s=>s
 |_,_,_,_,.cons r t,s=>.cons r (Vals.append t s)
theorem Vals.take:∀{xs:List V}{us:List Value}(n:Nat),Vals xs us->Vals (xs.take n) (us.take n)
 |_,_,0,_=>.nil
 |_,_,_+1,.nil=>.nil
 |_,_,n+1,.cons r t=>.cons r (Vals.take n t)
theorem Vals.drop:∀{xs:List V}{us:List Value}(n:Nat),Vals xs us->Vals (xs.drop n) (us.drop n)
 |_,_,0,r=>r
 |_,_,_+1,.nil=>.nil
 |_,_,n+1,.cons _ t=>Vals.drop n t
def RelO:Option V->Option Value->Prop
 |some v,some u=>RelV v u
 |none,none=>True
 |_,_=>False
def KV{κ:Type}:List (κ×V)->List (κ×Value)->Prop:=Paired λ(p:κ×V)(q:κ×Value)=>p.1=q.1/\RelV p.2 q.2
def kV:qB->V
 |.inl i=>.int i
 |.inr x=>.str x
inductive HO where
 |lst (xs:List V)
 |tup (xs:List V)
 |dK (kvs:List (qB×V))|dT (kvs:List (List qB×V))
 |set (S:Int->Bool) (n:Nat)
 |ins (C dx:Addr) (fs:List (Str×V))
 |own (x:Addr)
 |xd (fs:List (Str×V))
 |met (f x:Addr)
 |rng (lo hi:Int)
 |frz (o:Obj) (u:HO)
 |tbl (ps:Array Value)
 |ext (φ:Heap->Prop)
abbrev Hp:=Addr->Option HO
def upd(H:Hp)(a:Addr)(o:HO):Hp:=λb=>if b=a then some o else H b
theorem bZ{H:Hp}{a:Addr}{o:HO}:upd H a o a=some o:=by unfold upd;rw[if_pos rfl]
theorem aY{H:Hp}{a b:Addr}{o:HO}(h:b≠a):upd H a o b=H b:=by unfold upd;rw[if_neg h]
theorem al0{H:Hp}{a b:Addr}{o u:HO}(h:H a=some o)(h':H b=some u)(d:o≠u):a≠b:=by
 intro e;subst e;rw[h]at h';exact d (Option.some.inj h')
theorem cR{H:Hp}{a b:Addr}{o:HO}(h:H a=some o)(h':H b=none):a≠b:=by
 intro e;subst e;rw[h]at h';cases h'
section
variable (P : Program) (w : World)
def ObjOk(H:Hp)(h:Heap)(a:Addr):HO->Prop
 |.lst xs=>xs.length<=sizeLine/\∃(its:List Value)(n:Nat),Vals xs its/\h.get? a=some {cls:=.type "list",data:=.seq its.toArray n}
 |.tup xs=>xs.length<=sizeLine/\∃its:List Value,Vals xs its/\IsTup h a its.toArray
 |.dK kvs=>kvs.length<=sizeLine/\(a==sysModules)=false/\∃vs,KV kvs vs/\h.DictOf (al1 P w) a vs
 |.dT kvs=>kvs.length<=sizeLine/\(a==sysModules)=false/\∃xs:List (List qB×Addr×Value),
  Paired (λ(p:List qB×V)(q:List qB×Addr×Value)=>p.1=q.1/\H q.2.1=some (.tup (p.1.map kV))/\RelV p.2 q.2.2) kvs xs/\
  ∃o es ep,h.get? a=some o/\o.ExactDict/\o.data=.dict es ep/\es.toList=xs.map (entryOfKey (tupleKind (al1 P w)))/\(xs.map (·.1)).Nodup
 |.set S n=>h.SetOf (intKind P w) a S n
 |.ins C dx fs=>H dx=some (.own a)/\fs.length<=1000/\dx≠a/\h.get? a=some (PySem.W.instObj C dx)/\
  ∃mA,h.Ns1 dx mA/\(∀f,RelO (fs.lookup f) (mA f))/\PySem.Within mA (fs.map (·.1))
 |.own _=>∃o,h.get? a=some o
 |.xd fs=>∃mA,h.Ns1 a mA/\∀f,RelO (fs.lookup f) (mA f)
 |.rng lo hi=>∃t u v,h.get? a=some {cls:=.type "range",data:=.fields #[.int lo t,.int hi u,.int 1 v]}
 |.frz o u=>h.get? a=some o/\ObjOk H h a u
 |.tbl ps=>h.get? a=some {cls:=.none,data:=.fields ps}
 |.met f x=>h.get? a=some (PySem.W.methodObj (.ref f) (.ref x))
 |.ext φ=>φ h/\(∃o,h.get? a=some o)/\∀h1 h2:Heap,φ h1->(∀o,h1.get? a=some o->h2.get? a=some o)->φ h2
def HOk(H:Hp)(h:Heap):Prop:=∀a o,H a=some o->ObjOk P w H h a o
end
section
variable {P : Program} {w : World} {H H' : Hp} {h h' : Heap} {a : Addr} {o : HO}
theorem ObjOk.lt(x:ObjOk P w H h a o):a<h.objs.size:=by
 cases o with
 |lst xs=>obtain⟨_,_,_,_,e⟩:=x;exact Heap.lt_size e
 |tup xs=>obtain⟨_,_,_,p⟩:=x;exact p.lt
 |dK kvs=>obtain⟨_,_,_,_,o,_,_,e,_⟩:=x;exact Heap.lt_size e
 |dT kvs=>obtain⟨_,_,_,_,o,_,_,e,_⟩:=x;exact Heap.lt_size e
 |set S n=>obtain⟨o,_,_,_,e,_⟩:=x;exact Heap.lt_size e
 |ins C dx fs=>obtain⟨_,_,_,e,_⟩:=x;exact Heap.lt_size e
 |own y=>obtain⟨_,e⟩:=x;exact Heap.lt_size e
 |xd fs=>obtain⟨_,⟨_,_,_,e,_⟩,_⟩:=x;exact Heap.lt_size e
 |rng lo hi=>obtain⟨_,_,_,e⟩:=x;exact Heap.lt_size e
 |frz ob u=>obtain⟨e,_⟩:=x;exact Heap.lt_size e
 |tbl ps=>exact Heap.lt_size (show h.get? a=some _ from x)
 |met f y=>exact Heap.lt_size (show h.get? a=some _ from x)
 |ext φ=>obtain⟨_,⟨_,e⟩,_⟩:=x;exact Heap.lt_size e
theorem Paired.mapP{α β:Type}{F G:α->β->Prop}:∀{l₁:List α}{l₂:List β},Paired F l₁ l₂->(∀a b,F a b->G a b)->Paired G l₁ l₂
 |_,_,.nil,_=>.nil
 |_,_,.cons r t,f=>.cons (f _ _ r) (Paired.mapP t f)
theorem ObjOk.stay(x:ObjOk P w H h a o)(k:∀b u,(b=a\/H b=some (.own a))->h.get? b=some u->h'.get? b=some u)
 (ho:∀b,H b=some (.own a)->H' b=some (.own a))(ht:∀b xs,H b=some (.tup xs)->H' b=some (.tup xs)):ObjOk P w H' h' a o:=by
 induction o with
 |lst xs=>obtain⟨z,its,n,r,e⟩:=x;exact⟨z,its,n,r,k _ _ (.inl rfl) e⟩
 |tup xs=>obtain⟨z,its,r,ob,e,c⟩:=x;exact⟨z,its,r,ob,k _ _ (.inl rfl) e,c⟩
 |dK kvs=>obtain⟨z,y,vs,r,ob,es,ep,e,c⟩:=x;exact⟨z,y,vs,r,ob,es,ep,k _ _ (.inl rfl) e,c⟩
 |dT kvs=>
  obtain⟨z,y,xs,r,ob,es,ep,e,c⟩:=x
  exact⟨z,y,xs,Paired.mapP r λp q z=>⟨z.1,ht _ _ z.2.1,z.2.2⟩,ob,es,ep,k _ _ (.inl rfl) e,c⟩
 |set S n=>obtain⟨ob,es,ep,t,e,c⟩:=x;exact⟨ob,es,ep,t,k _ _ (.inl rfl) e,c⟩
 |ins C dx fs=>
  obtain⟨d,z,ne,e,mA,⟨od,es,ep,e2,c⟩,r⟩:=x
  exact⟨ho _ d,z,ne,k _ _ (.inl rfl) e,mA,⟨od,es,ep,k _ _ (.inr d) e2,c⟩,r⟩
 |own y=>obtain⟨ob,e⟩:=x;exact⟨ob,k _ _ (.inl rfl) e⟩
 |xd fs=>obtain⟨mA,⟨od,es,ep,e,c⟩,r⟩:=x;exact⟨mA,⟨od,es,ep,k _ _ (.inl rfl) e,c⟩,r⟩
 |rng lo hi=>obtain⟨t,u,v,e⟩:=x;exact⟨t,u,v,k _ _ (.inl rfl) e⟩
 |frz ob u ih=>obtain⟨e,q⟩:=x;exact⟨k _ _ (.inl rfl) e,ih q⟩
 |tbl ps=>
  have e:h.get? a=some {cls:=.none,data:=.fields ps}:=x
  show h'.get? a=some {cls:=.none,data:=.fields ps}
  exact k a _ (.inl rfl) e
 |met f y=>
  have e:h.get? a=some (PySem.W.methodObj (.ref f) (.ref y)):=x
  show h'.get? a=some (PySem.W.methodObj (.ref f) (.ref y))
  exact k a _ (.inl rfl) e
 |ext φ=>obtain⟨p,⟨o,e⟩,st⟩:=x;exact⟨st _ _ p λo q=>k _ _ (.inl rfl) q,⟨o,k _ _ (.inl rfl) e⟩,st⟩
theorem HOk.lt(x:HOk P w H h)(e:H a=some o):a<h.objs.size:=(x a o e).lt
theorem HOk.fresh(x:HOk P w H h)(e:h.objs.size<=a):H a=none:=by
 cases q:H a with
 |none=>rfl
 |some u=>exact absurd (Nat.lt_of_lt_of_le (x.lt q) e) (Nat.lt_irrefl _)
theorem HOk.kept(x:HOk P w H h)(k:∀b u,h.get? b=some u->h'.get? b=some u):HOk P w H h':=λa o e=>
 (x a o e).stay (λb u _ q=>k b u q) (λ_ q=>q) λ_ _ q=>q
theorem HOk.laid(x:HOk P w H h)(k:∀b u,h.get? b=some u->h'.get? b=some u)(hp:h.objs.size<=a)(new:ObjOk P w (upd H a o) h' a o):HOk P w (upd H a o) h':=λb u e=>by
 have hn:=x.fresh hp
 by_cases hb:b=a
 . subst hb;rw[bZ]at e;cases e;exact new
 . rw[aY hb]at e
   exact(x b u e).stay (λc v _ q=>k c v q) (λc q=>by rw[aY (cR q hn)];exact q) λc xs q=>by rw[aY (cR q hn)];exact q
end
def Rd(H:Hp)(a:Addr)(u:HO):Prop:=H a=some u\/∃o,H a=some (.frz o u)
theorem Rd.ok{P:Program}{w:World}{H:Hp}{h:Heap}{a:Addr}{u:HO}(r:Rd H a u)(x:HOk P w H h):ObjOk P w H h a u:=by
 rcases r with r|⟨o,r⟩
 . exact x a u r
 . obtain⟨_,q⟩:=x a _ r
   exact q
def Mut:Option HO->Prop
 |some (.lst _)=>True
 |some (.dK _)=>True
 |some (.dT _)=>True
 |some (.set _ _)=>True
 |some (.ins _ _ _)=>True
 |some (.ext _)=>True
 |_=>False
section
variable {P : Program} {w : World} {H : Hp} {h h' : Heap} {x e : Addr} {o' : HO}
theorem HOk.write(ok:HOk P w H h)(mu:Mut (H x))(he:e=x\/H e=some (.own x))(k:∀b u,b≠e->h.get? b=some u->h'.get? b=some u)(heo:∃u,h'.get? e=some u)
 (new:ObjOk P w (upd H x o') h' x o'):HOk P w (upd H x o') h':=λb u q=>by
 have nown:∀c y,H c=some (.own y)->c≠x:=λc y r z=>by subst z;rw[r]at mu;exact mu
 have ntup:∀c xs,H c=some (.tup xs)->c≠x:=λc xs r z=>by subst z;rw[r]at mu;exact mu
 by_cases hb:b=x
 . subst hb;rw[bZ]at q;cases q;exact new
 . rw[aY hb]at q
   by_cases hbe:b=e
   . have q':H b=some (.own x):=by
      rcases he with z|z
      . exact absurd (hbe.trans z) hb
      . rw[hbe];exact z
     rw[q]at q';cases q'
     obtain⟨v,hv⟩:=heo
     exact⟨v,by rw[hbe];exact hv⟩
   . refine(ok b u q).stay (λc v hc r=>k c v ?_ r) (λc r=>by rw[aY (nown c b r)];exact r) λc xs r=>by rw[aY (ntup c xs r)];exact r
     rcases hc with rfl|hc
     . exact hbe
     . rintro rfl
       rcases he with z|z
       . exact nown c b hc z
       . rw[hc]at z;cases z;exact hb rfl
end
structure Un (fs ex:List Addr) (H H':Hp) (h h':Heap):Prop where
 keep:∀b o,h.get? b=some o->H b=none->b∉fs->b∉ex->h'.get? b=some o
 slot:∀b o,h.get? b=some o->H b=none->b∈fs->b∉ex->∃sl,h'.get? b=some {o with slots:=sl}
 free:∀b o,h.get? b=some o->H b=none->b∉ex->H' b=none
 there:∀b o,h.get? b=some o->b∉ex->∃o',h'.get? b=some o'
 tups:∀b xs,H b=some (.tup xs)->H' b=some (.tup xs)
 frzs:∀b o u,H b=some (.frz o u)->H' b=some (.frz o u)
 tbls:∀b ps,H b=some (.tbl ps)->∃more,H' b=some (.tbl (ps++more))
section
variable {fs fs' ex ex' : List Addr} {H H1 H2 : Hp} {h h1 h2 h' : Heap} {a x e : Addr} {o : HO}
theorem Un.any(u:Un fs ex H H1 h h1){b:Addr}{ob:Obj}(q:h.get? b=some ob)(n:H b=none)(hx:b∉ex):∃sl,h1.get? b=some {ob with slots:=sl}:=by
 by_cases hb:b∈fs
 . exact u.slot b ob q n hb hx
 . exact⟨ob.slots,u.keep b ob q n hb hx⟩
theorem Un.kept(k:∀b u,h.get? b=some u->h'.get? b=some u):Un fs ex H H h h':=
 ⟨λb ob q _ _ _=>k b ob q,λb ob q _ _ _=>⟨ob.slots,k b ob q⟩,λ_ _ _ n _=>n,λb ob q _=>⟨ob,k b ob q⟩,λ_ _ q=>q,λ_ _ _ q=>q,λ_ ps q=>⟨#[],by rw[q];simp⟩⟩
theorem Un.refl:Un fs ex H H h h:=Un.kept λ_ _ q=>q
theorem Un.laid(k:∀b u,h.get? b=some u->h'.get? b=some u)(hp:h.objs.size<=a)(hn:H a=none):Un fs ex H (upd H a o) h h' where
 keep:=λb u q _ _ _=>k b u q
 slot:=λb u q _ _ _=>⟨u.slots,k b u q⟩
 free:=λb u q n _=>by rw[aY (Nat.ne_of_lt (Nat.lt_of_lt_of_le (Heap.lt_size q) hp))];exact n
 there:=λb u q _=>⟨u,k b u q⟩
 tups:=λb xs q=>by rw[aY (cR q hn)];exact q
 frzs:=λb u xs q=>by rw[aY (cR q hn)];exact q
 tbls:=λb ps q=>⟨#[],by rw[aY (cR q hn),q];simp⟩
theorem Un.write(mu:Mut (H x))(he:e=x\/H e=some (.own x))(k:∀b u,b≠e->h.get? b=some u->h'.get? b=some u)(heo:∃u,h'.get? e=some u):Un fs ex H (upd H x o) h h':=by
 have hx:∀b,H b=none->b≠x:=λb n z=>by subst z;rw[n]at mu;exact mu
 have hb:∀b,H b=none->b≠e:=λb n z=>by
  subst z
  rcases he with r|r
  . exact hx b n r
  . rw[n]at r;cases r
 have hm:∀b u,H b=some u->¬Mut (some u)->b≠x:=λb u q nm z=>by subst z;rw[q]at mu;exact nm mu
 refine⟨λb u q n _ _=>k b u (hb b n) q,λb u q n _ _=>⟨u.slots,k b u (hb b n) q⟩,λb u q n _=>by rw[aY (hx b n)];exact n,λb u q _=>?_,
  λb xs q=>by rw[aY (hm b _ q λz=>z)];exact q,λb u xs q=>by rw[aY (hm b _ q λz=>z)];exact q,λb ps q=>⟨#[],by rw[aY (hm b _ q λz=>z),q];simp⟩⟩
 by_cases hbe:b=e
 . subst hbe;exact heo
 . exact⟨u,k b u hbe q⟩
end
def trk(h:Heap)(H:Hp):List Addr:=(List.range h.objs.size).filter λa=>(H a).isSome
def uM(h:Heap)(H:Hp):Heap:=PySem.W.hideAll h (trk h H)
theorem bp0(h:Heap)(H:Hp):(uM h H).objs.size=h.objs.size:=PySem.W.hideAll_size _ _
theorem bn6{h:Heap}{H:Hp}{b:Addr}{o:Obj}(e:h.get? b=some o)(n:H b=none):(uM h H).get? b=some o:=
 PySem.W.hideAll_get _ e λhm=>by
  have q:(H b).isSome=true:=(List.mem_filter.mp hm).2
  rw[n]at q;simp at q
theorem bo9{h:Heap}{H:Hp}{b:Addr}{o:Obj}(e:(uM h H).get? b=some o):h.get? b=some o/\H b=none:=by
 have e':h.get? b=some o:=PySem.W.of_hideAll (trk h H) e
 refine⟨e',?_⟩
 cases q:H b with
 |none=>rfl
 |some x=>
  have hm:b∈trk h H:=List.mem_filter.mpr ⟨List.mem_range.mpr (Heap.lt_size e'),by simp[q]⟩
  have z:(uM h H).get? b=none:=PySem.W.hideAll_none (trk h H) hm
  rw[z]at e;cases e
end L2
namespace L2
open PySem PySem.Spec PyProof.Rows
structure Mod (K:PySem.W.Frag) (mg:Str->Option Value) (base:Heap):Prop where
 kin:K.In base
 glob:base.Ns mainGlobals mg
 blt:∃mb,base.Ns builtinsNs mb/\∀x:Str,x≠"__name__"->mb x=bootBuiltins x
 nolimit:base.NoLimit
structure Cx where
 prog:Program
 w:World
 K:PySem.W.Frag
 mg:Str->Option Value
 base:Heap
 A:Around
 N:List Str
 s₀:Shared
 H₀:Hp
 env:Env
 outer:List Env
 stack:List Env
 ex:List Addr
 fn:Str->Bool
 calm:Bool
 pn:List (Addr×Obj)
 xe:Value->Shared->Prop
def lY(l:List Env):List Addr:=l.filterMap (·.frame)
abbrev Cx.fs(X:Cx):List Addr:=lY X.outer
def Vis(sc:Scope)(x:Str):Prop:=sc.names.lookup x=some .local\/sc.names.lookup x=some .cell\/sc.names.lookup x=some .free
def Loc(sc:Scope)(x:Str):Prop:=sc.names.lookup x=some .local\/sc.names.lookup x=some .cell
def cq8(env:Env)(h:Heap)(m:Str->Option Value)(x:Str)(u:Value):Prop:=
 (env.kindOf x=some .local/\m x=some u)\/((env.kindOf x=some .cell\/env.kindOf x=some .free)/\∃c,env.cells.lookup x=some c/\h.IsCell c (some u))
structure Cx.Ok (X:Cx):Prop where
 mod:Mod X.K X.mg X.base
 kind:X.env.scope.kind=.function
 glob:X.env.globals=mainGlobals
 blt:X.env.builtins=builtinsNs
 above:X.s₀.heap.objs.size<=X.env.locals
 inj:∀x y c,X.env.cells.lookup x=some c->X.env.cells.lookup y=some c->x=y
 has:∀x,(X.env.kindOf x=some .cell\/X.env.kindOf x=some .free)->∃c,X.env.cells.lookup x=some c
 cab:∀x c,X.fn x=true->X.env.cells.lookup x=some c->X.s₀.heap.objs.size<=c
 hd:X.calm=true->X.A.handled=none
 frames:X.A.frames=some X.stack
 stk:X.stack=X.outer\/(X.stack=X.env::X.outer/\X.env.frame=some X.env.locals)
 exf:∀b∈X.ex,b≠X.env.locals/\∀x c,X.env.cells.lookup x=some c->c≠b
 bs:∀b o,X.base.get? b=some o->X.s₀.heap.get? b=some o/\X.H₀ b=none
 bsz:X.base.objs.size<=X.s₀.heap.objs.size
 noex:∀b o,X.base.get? b=some o->b∉X.ex
 exfs:∀b∈X.ex,b∉X.fs
 funs:X.s₀.heap.FunFrames X.base X.outer
 frf:∀b∈X.fs,X.H₀ b=none
structure Inv (X:Cx) (pins:List (Addr×Obj)) (σ:List (Option V)) (H:Hp) (s:Shared):Prop where
 ok:X.Ok
 os:s.os=X.s₀.os
 bare:AllBare s.gens
 base:Un X.fs X.ex X.H₀ H X.s₀.heap s.heap
 loc:∃m,s.heap.Ns X.env.locals m/\∀(i:Nat)(x:Str)(v:V),X.N[i]?=some x->σ[i]?=some (some v)->Vis X.env.scope x->∃u,RelV v u/\cq8 X.env s.heap m x u
 cell:∀x c,X.env.cells.lookup x=some c->∃v,s.heap.IsCell c v
 free:H X.env.locals=none
 freeC:∀x c,X.env.cells.lookup x=some c->H c=none
 pin:∀p∈X.pn++pins,s.heap.get? p.1=some p.2/\H p.1=none/\p.1≠X.env.locals/\p.1∉X.fs/\∀v,p.2.data≠ .cell v
 hok:HOk X.prog X.w H s.heap
 len:σ.length=X.N.length
section
variable {X : Cx} {pins : List (Addr × Obj)} {σ : List (Option V)} {H H' : Hp} {s : Shared} {h' : Heap}
theorem Cx.Ok.nofr(ok:X.Ok){b:Addr}{o:Obj}(e:X.base.get? b=some o):b∉X.fs:=λhb=>by
 have:=(ok.funs.mem hb).1
 rw[e]at this;cases this
theorem Inv.bs(I:Inv X pins σ H s):∀b o,X.base.get? b=some o->s.heap.get? b=some o/\H b=none:=λb o e=>
 ⟨I.base.keep b o (I.ok.bs b o e).1 (I.ok.bs b o e).2 (I.ok.nofr e) (I.ok.noex b o e),I.base.free b o (I.ok.bs b o e).1 (I.ok.bs b o e).2 (I.ok.noex b o e)⟩
theorem Inv.bk(I:Inv X pins σ H s):∀b o,X.base.get? b=some o->s.heap.get? b=some o:=λb o e=>(I.bs b o e).1
theorem Inv.mod(I:Inv X pins σ H s):Mod X.K X.mg X.base:=I.ok.mod
theorem Inv.kIn(I:Inv X pins σ H s):X.K.In s.heap:=I.ok.mod.kin.keeps I.bk
theorem Inv.fr(I:Inv X pins σ H s):∃m,Fr X.base X.env.locals s.heap m:=
 let⟨m,hn,_⟩:=I.loc
 ⟨m,hn,I.bk,Nat.le_trans I.ok.bsz I.ok.above⟩
theorem Inv.lt(I:Inv X pins σ H s):X.env.locals<s.heap.objs.size:=let⟨_,hn,_⟩:=I.loc;hn.lt
theorem Inv.sz(I:Inv X pins σ H s):X.s₀.heap.objs.size<=s.heap.objs.size:=Nat.le_trans I.ok.above (Nat.le_of_lt I.lt)
theorem Inv.nofs(I:Inv X pins σ H s){a:Addr}(h:s.heap.objs.size<=a):a∉X.fs:=λhb=>by
 obtain⟨_,o,ho,_⟩:=I.ok.funs.mem hb
 exact absurd (Nat.lt_of_lt_of_le (Heap.lt_size ho) (Nat.le_trans I.sz h)) (Nat.lt_irrefl _)
theorem Inv.cne(I:Inv X pins σ H s):∀x c,X.env.cells.lookup x=some c->c≠X.env.locals:=λx c e z=>by
 obtain⟨v,o,ho,hd⟩:=I.cell x c e
 obtain⟨m,⟨o',es,ep,ho',hd',_⟩,_⟩:=I.loc
 rw[z,ho']at ho;cases ho;rw[hd']at hd;cases hd
theorem Inv.funs(I:Inv X pins σ H s):s.heap.FunFrames X.base X.outer:=by
 have all:∀(l:List Env),(∀b∈lY l,b∈X.fs)->X.s₀.heap.FunFrames X.base l->s.heap.FunFrames X.base l:=by
  intro l
  induction l with
  |nil=>intro _ _;trivial
  |cons env r ih=>
   intro hs hl
   obtain⟨hk,⟨L,o,hf,hn,ho,hd⟩,hr⟩:=hl
   have hL:L∈X.fs:=hs L (by unfold lY;rw[List.filterMap_cons,hf];exact List.mem_cons_self)
   obtain⟨sl,e⟩:=I.base.slot L o ho (I.ok.frf L hL) hL λz=>I.ok.exfs L z hL
   exact⟨hk,⟨L,_,hf,hn,e,hd⟩,ih (λb hb=>hs b (by unfold lY;rw[List.filterMap_cons,hf];exact List.mem_cons_of_mem _ hb)) hr⟩
 exact all X.outer (λ_ hb=>hb) I.ok.funs
theorem Inv.stack(I:Inv X pins σ H s):s.heap.FunFrames X.base X.stack:=by
 rcases I.ok.stk with e|⟨e,hf⟩
 . rw[e];exact I.funs
 . rw[e]
   obtain⟨m,hn,_⟩:=I.loc
   refine .cons (by rw[I.ok.kind];decide) hf hn ?_ I.funs
   exact Heap.get?_none_of_le (Nat.le_trans I.ok.bsz I.ok.above)
theorem Inv.stkSub(I:Inv X pins σ H s):∀b∈lY X.stack,b∈X.env.locals::X.fs:=λb hb=>by
 rcases I.ok.stk with e|⟨e,hf⟩
 . rw[e]at hb;exact List.mem_cons_of_mem _ hb
 . rw[e]at hb
   unfold lY at hb
   rw[List.filterMap_cons,hf]at hb
   exact hb
theorem Inv.stkFree(I:Inv X pins σ H s):∀b∈lY X.stack,H b=none:=λb hb=>by
 rcases List.mem_cons.mp (I.stkSub b hb)with e|hb
 . rw[e];exact I.free
 . obtain⟨_,o,ho,_⟩:=I.ok.funs.mem hb
   exact I.base.free b o ho (I.ok.frf b hb) λz=>I.ok.exfs b z hb
theorem Inv.step{g':Array GenState}{t':Nat}{d':Drawn}{ch:List Addr}(I:Inv X pins σ H s)
 (hch:∀b∈ch,(b∈X.ex\/X.s₀.heap.objs.size<=b)/\b≠X.env.locals/\(∀x c,X.env.cells.lookup x=some c->c≠b)/\∀p∈X.pn++pins,p.1≠b)
 (keep:∀b o,b≠X.env.locals->b∉X.fs->b∉ch->s.heap.get? b=some o->H b=none->h'.get? b=some o)
 (slot:∀b o,b≠X.env.locals->b∈X.fs->b∉ch->s.heap.get? b=some o->H b=none->∃sl,h'.get? b=some {o with slots:=sl})(free:∀b o,b∉ch->s.heap.get? b=some o->H b=none->H' b=none)
 (there:∀b o,b∉ch->s.heap.get? b=some o->∃o',h'.get? b=some o')
 (tups:∀b xs,H b=some (.tup xs)->H' b=some (.tup xs))(frzs:∀b o u,H b=some (.frz o u)->H' b=some (.frz o u))(tbls:∀b ps,H b=some (.tbl ps)->∃more,H' b=some (.tbl (ps++more)))
 (ns:∀m,s.heap.Ns X.env.locals m->h'.Ns X.env.locals m)(hok:HOk X.prog X.w H' h')(hg:AllBare g'):
 Inv X pins σ H' {s with heap:=h',gens:=g',drawn:=d',toks:=t'}:=by
 have neL:∀b o,X.s₀.heap.get? b=some o->b≠X.env.locals:=λb o e=>Nat.ne_of_lt (Nat.lt_of_lt_of_le (Heap.lt_size e) I.ok.above)
 have neC:∀b o,X.s₀.heap.get? b=some o->b∉X.ex->b∉ch:=λb o e hx hb=>by
  rcases(hch b hb).1 with z|z
  . exact hx z
  . exact absurd (Nat.lt_of_lt_of_le (Heap.lt_size e) z) (Nat.lt_irrefl _)
 have cellK:∀x c,X.env.cells.lookup x=some c->∀v,s.heap.IsCell c v->h'.IsCell c v:=λx c e v ⟨o,ho,hd⟩=>by
  have nch:c∉ch:=λz=>(hch c z).2.2.1 x c e rfl
  by_cases hc:c∈X.fs
  . obtain⟨sl,q⟩:=slot c o (I.cne x c e) hc nch ho (I.freeC x c e)
    exact⟨_,q,hd⟩
  . exact⟨o,keep c o (I.cne x c e) hc nch ho (I.freeC x c e),hd⟩
 refine⟨I.ok,I.os,hg,⟨λb o e n hb hx=>?_,λb o e n hb hx=>?_,λb o e n hx=>?_,λb o e hx=>?_,λb xs e=>tups b xs (I.base.tups b xs e),λb o xs e=>frzs b o xs (I.base.frzs b o xs e),λb ps e=>?_⟩,?_,λx c e=>?_,?_,λx c e=>?_,λp hp=>?_,hok,I.len⟩
 . exact keep b o (neL b o e) hb (neC b o e hx) (I.base.keep b o e n hb hx) (I.base.free b o e n hx)
 . obtain⟨sl,e1⟩:=I.base.slot b o e n hb hx
   obtain⟨sl',e2⟩:=slot b _ (neL b o e) hb (neC b o e hx) e1 (I.base.free b o e n hx)
   exact⟨sl',e2⟩
 . obtain⟨o',e1⟩:=I.base.there b o e hx
   exact free b o' (neC b o e hx) e1 (I.base.free b o e n hx)
 . obtain⟨o',e1⟩:=I.base.there b o e hx
   exact there b o' (neC b o e hx) e1
 . obtain⟨m1,e1⟩:=I.base.tbls b ps e
   obtain⟨m2,e2⟩:=tbls b _ e1
   exact⟨m1++m2,by rw[e2,Array.append_assoc]⟩
 . obtain⟨m,hn,hl⟩:=I.loc
   refine⟨m,ns m hn,λi x v e1 e2 e3=>?_⟩
   obtain⟨u,r,l⟩:=hl i x v e1 e2 e3
   refine⟨u,r,?_⟩
   rcases l with l|⟨k,c,e,z⟩
   . exact .inl l
   . exact .inr ⟨k,c,e,cellK x c e _ z⟩
 . obtain⟨v,z⟩:=I.cell x c e
   exact⟨v,cellK x c e v z⟩
 . obtain⟨m,⟨o,_,_,ho,_⟩,_⟩:=I.loc
   exact free _ o (λz=>(hch _ z).2.1 rfl) ho I.free
 . obtain⟨v,o,ho,hd⟩:=I.cell x c e
   exact free c o (λz=>(hch c z).2.2.1 x c e rfl) ho (I.freeC x c e)
 . obtain⟨e,n,ne,nf,d⟩:=I.pin p hp
   have nch:p.1∉ch:=λz=>(hch p.1 z).2.2.2 p hp rfl
   exact⟨keep p.1 p.2 ne nf nch e n,free p.1 p.2 nch e n,ne,nf,d⟩
theorem Inv.un{t':Nat}(I:Inv X pins σ H s)(u:Un X.fs [] H H' s.heap h')(hok:HOk X.prog X.w H' h'):Inv X pins σ H' {s with heap:=h',toks:=t'}:=by
 obtain⟨m,⟨o,es,ep,ho,r⟩,_⟩:=id I.loc
 obtain⟨sl,hL⟩:=u.any ho I.free (by simp)
 exact I.step (g':=s.gens) (d':=s.drawn) (ch:=[]) (λ_ z=>nomatch z) (λb o _ hb _ e n=>u.keep b o e n hb (by simp)) (λb o _ hb _ e n=>u.slot b o e n hb (by simp)) (λb o _ e n=>u.free b o e n (by simp)) (λb o _ e=>u.there b o e (by simp)) u.tups u.frzs u.tbls (λm' hm=>by
  obtain⟨o',es',ep',ho',r'⟩:=hm
  rw[ho]at ho';cases ho'
  exact⟨_,es',ep',hL,r'⟩) hok I.bare
theorem Inv.call{g':Array GenState}{t':Nat}{d':Drawn}{ch:List Addr}(I:Inv X pins σ H s)(u:Un (lY X.stack) ch H H' s.heap h')(hok:HOk X.prog X.w H' h')(hg:AllBare g')
 (hch:∀b∈ch,(b∈X.ex\/X.s₀.heap.objs.size<=b)/\b≠X.env.locals/\(∀x c,X.env.cells.lookup x=some c->c≠b)/\∀p∈X.pn++pins,p.1≠b):
 Inv X pins σ H' {s with heap:=h',gens:=g',drawn:=d',toks:=t'}:=by
 obtain⟨m,⟨o,es,ep,ho,r⟩,_⟩:=id I.loc
 obtain⟨sl,hL⟩:=u.any ho I.free λz=>(hch _ z).2.1 rfl
 exact I.step (ch:=ch) hch (λb o hL hb hc e n=>u.keep b o e n (λz=>(List.mem_cons.mp (I.stkSub b z)).elim hL hb) hc) (λb o _ _ hc e n=>u.any e n hc) (λb o hc e n=>u.free b o e n hc) (λb o hc e=>u.there b o e hc) u.tups u.frzs u.tbls (λm' hm=>by
  obtain⟨o',es',ep',ho',r'⟩:=hm
  rw[ho]at ho';cases ho'
  exact⟨_,es',ep',hL,r'⟩) hok hg
theorem Inv.turned{t':Nat}{it:Addr}(I:Inv X pins σ H s)(k:∀b o,b≠it->s.heap.get? b=some o->h'.get? b=some o)(hn:H it=none)(hL:it≠X.env.locals)
 (h1:it∈X.ex\/X.s₀.heap.objs.size<=it)(h2:∀x c,X.env.cells.lookup x=some c->c≠it)(h3:∀p∈X.pn++pins,p.1≠it):Inv X pins σ H {s with heap:=h',toks:=t'}:=by
 have nit:∀b u,H b=some u->b≠it:=λb u e z=>by rw[z,hn]at e;cases e
 refine I.step (g':=s.gens) (d':=s.drawn) (ch:=[it]) (λb hb=>?_) (λb o _ _ hc e _=>k b o (λz=>hc (by simp[z])) e) (λb o _ _ hc e _=>⟨o.slots,k b o (λz=>hc (by simp[z])) e⟩) (λ_ _ _ _ n=>n)
  (λb o hc e=>⟨o,k b o (λz=>hc (by simp[z])) e⟩) (λ_ _ e=>e) (λ_ _ _ e=>e) (λb ps e=>⟨#[],by rw[e];simp⟩) (λm hm=>?_) (λb u e=>?_) I.bare
 . have e:b=it:=by simpa using hb
   subst e
   exact⟨h1,hL,h2,h3⟩
 . obtain⟨o,es,ep,ho,r⟩:=hm
   exact⟨o,es,ep,k _ o (Ne.symm hL) ho,r⟩
 . refine(I.hok b u e).stay (λc v hc q=>k c v ?_ q) (λ_ q=>q) λ_ _ q=>q
   rcases hc with z|z
   . rw[z];exact nit b u e
   . exact nit c _ z
theorem Inv.tok(I:Inv X pins σ H s)(t:Nat):Inv X pins σ H {s with toks:=t}:=I.un (h':=s.heap) (t':=t) Un.refl I.hok
theorem Inv.kept{t':Nat}(I:Inv X pins σ H s)(k:∀b u,s.heap.get? b=some u->h'.get? b=some u):Inv X pins σ H {s with heap:=h',toks:=t'}:=I.un (Un.kept k) (I.hok.kept k)
theorem Inv.laid{a:Addr}{o:HO}{t':Nat}(I:Inv X pins σ H s)(k:∀b u,s.heap.get? b=some u->h'.get? b=some u)(hp:s.heap.objs.size<=a)(new:ObjOk X.prog X.w (upd H a o) h' a o):
 Inv X pins σ (upd H a o) {s with heap:=h',toks:=t'}:=I.un (Un.laid k hp (I.hok.fresh hp)) (I.hok.laid k hp new)
theorem Inv.write{x e:Addr}{o:HO}{t':Nat}(I:Inv X pins σ H s)(mu:Mut (H x))(he:e=x\/H e=some (.own x))(k:∀b u,b≠e->s.heap.get? b=some u->h'.get? b=some u)(heo:∃u,h'.get? e=some u)
 (new:ObjOk X.prog X.w (upd H x o) h' x o):Inv X pins σ (upd H x o) {s with heap:=h',toks:=t'}:=I.un (Un.write mu he k heo) (I.hok.write mu he k heo new)
theorem Inv.weak{σ':List (Option V)}(I:Inv X pins σ H s)(hl:σ'.length=σ.length)(w:∀(i:Nat) v,σ'[i]?=some (some v)->σ[i]?=some (some v)):Inv X pins σ' H s:=
 ⟨I.ok,I.os,I.bare,I.base,let⟨m,hn,hl'⟩:=I.loc;⟨m,hn,λi x v e1 e2 e3=>hl' i x v e1 (w i v e2) e3⟩,I.cell,I.free,I.freeC,I.pin,I.hok,hl.trans I.len⟩
theorem Inv.pins_of{pins':List (Addr×Obj)}(I:Inv X pins σ H s)(h:∀p∈pins',s.heap.get? p.1=some p.2/\H p.1=none/\p.1≠X.env.locals/\p.1∉X.fs/\∀v,p.2.data≠ .cell v):Inv X pins' σ H s:=
 ⟨I.ok,I.os,I.bare,I.base,I.loc,I.cell,I.free,I.freeC,λp hp=>(List.mem_append.mp hp).elim (λz=>I.pin p (List.mem_append_left _ z)) (h p),I.hok,I.len⟩
theorem zN{N:List Str}(hN:N.Nodup){i j:Nat}{x:Str}(a:N[i]?=some x)(b:N[j]?=some x):i=j:=by
 obtain⟨h1,e1⟩:=List.getElem?_eq_some_iff.mp a
 obtain⟨h2,e2⟩:=List.getElem?_eq_some_iff.mp b
 exact(List.getElem_inj hN).mp (e1.trans e2.symm)
theorem ak2 {M : Model} {A : Around} {E : Value → Shared → Prop} {i : Nat} {x : Str} {v : V} {u : Value} {Q : Unit → Shared → Prop} (I : Inv X pins σ H s) (hN : X.N.Nodup) (hi : X.N[i]? = some x) (hx : Loc X.env.scope x) (r : RelV v u)
    (h : ∀ s', Inv X pins (σ.set i (some v)) H s' → (∃ a, Heap.SameBut a s.heap s'.heap ∧ (a = X.env.locals ∨ X.env.cells.lookup x = some a)) → Q () s') (hf : X.fn x = true ∨ X.env.scope.names.lookup x = some .local := by first | exact .inl rfl | exact .inr rfl | assumption) : wpAny M A (storeName X.env x u) Q E s := by
  obtain ⟨m, hn, hl⟩ := id I.loc
  have hcls : (X.env.scope.kind == .class || (X.env.scope.kind == .module && X.env.locals != X.env.globals)) = false := by rw [I.ok.kind]; rfl
  have hiσ : i < σ.length := by rw [I.len]; exact (List.getElem?_eq_some_iff.mp hi).1
  have cne := I.cne
  have tracked : ∀ {a : Addr} {h' : Heap}, (∃ o, s.heap.get? a = some o ∧ H a = none) → Heap.SameBut a s.heap h' → HOk X.prog X.w H h' := fun {a h'} ha hs b ob e => by
    obtain ⟨_, _, hfree⟩ := ha
    refine (I.hok b ob e).stay (fun c w' hc q => (hs.2 c ?_).trans q) (fun _ q => q) fun _ _ q => q
    rintro rfl
    rcases hc with rfl | hc
    · rw [hfree] at e; cases e
    · rw [hfree] at hc; cases hc
  rcases hx with hk | hk
  · refine wpAny_storeName_local hk hn (fun h' hn' hs => ?_) hcls
    obtain ⟨oL, _, _, hoL, _⟩ := id hn
    refine h _ ⟨I.ok, I.os, I.bare, ⟨fun b o e n hb hx => ?_, fun b o e n hb hx => ?_, I.base.free, fun b o e hx => ?_, I.base.tups, I.base.frzs, I.base.tbls⟩, ⟨_, hn', fun j y v' e1 e2 e3 => ?_⟩, fun y c e => ?_, I.free, I.freeC, fun p hp => ?_, tracked ⟨oL, hoL, I.free⟩ hs, by simpa using I.len⟩ ⟨_, hs, .inl rfl⟩
    · exact (hs.2 b (Nat.ne_of_lt (Nat.lt_of_lt_of_le (Heap.lt_size e) I.ok.above))).trans (I.base.keep b o e n hb hx)
    · obtain ⟨sl, e1⟩ := I.base.slot b o e n hb hx
      exact ⟨sl, (hs.2 b (Nat.ne_of_lt (Nat.lt_of_lt_of_le (Heap.lt_size e) I.ok.above))).trans e1⟩
    · obtain ⟨o', e1⟩ := I.base.there b o e hx
      exact ⟨o', (hs.2 b (Nat.ne_of_lt (Nat.lt_of_lt_of_le (Heap.lt_size e) I.ok.above))).trans e1⟩
    · by_cases hj : j = i
      · subst hj
        rw [hi] at e1; cases e1
        rw [List.getElem?_set_self hiσ] at e2
        cases e2
        exact ⟨u, r, .inl ⟨hk, by simp⟩⟩
      · rw [List.getElem?_set_ne (Ne.symm hj)] at e2
        obtain ⟨u', r', q⟩ := hl j y v' e1 e2 e3
        refine ⟨u', r', ?_⟩
        rcases q with ⟨k, e⟩ | ⟨k, c, e, z⟩
        · refine .inl ⟨k, ?_⟩
          have : y ≠ x := fun e => hj (zN hN e1 (e ▸ hi))
          simp [this, e]
        · exact .inr ⟨k, c, e, z.sameBut hs (cne y c e)⟩
    · obtain ⟨w', z⟩ := I.cell y c e
      exact ⟨w', z.sameBut hs (cne y c e)⟩
    · obtain ⟨e, n, ne, nf, d⟩ := I.pin p hp
      exact ⟨(hs.2 p.1 ne).trans e, n, ne, nf, d⟩
  · have hfn : X.fn x = true := by
      rcases hf with z | z
      · exact z
      · rw [z] at hk; cases hk
    obtain ⟨c, hc⟩ := I.ok.has x (.inl hk)
    obtain ⟨w', z⟩ := I.cell x c hc
    refine wpAny_storeName_cell I.ok.kind hk hc z (fun h' hc' hs => ?_)
    obtain ⟨oc, hoc, hocd⟩ := id z
    refine h { s with heap := h' } ⟨I.ok, I.os, I.bare, ⟨fun b o e n hb hx => ?_, fun b o e n hb hx => ?_, I.base.free, fun b o e hx => ?_, I.base.tups, I.base.frzs, I.base.tbls⟩, ⟨m, hn.sameBut hs (Ne.symm (cne x c hc)), fun j y v' e1 e2 e3 => ?_⟩, fun y c' e => ?_, I.free, I.freeC, fun p hp => ?_, tracked ⟨oc, hoc, I.freeC x c hc⟩ hs, by simpa using I.len⟩ ⟨c, hs, .inr hc⟩
    · exact (hs.2 b (Nat.ne_of_lt (Nat.lt_of_lt_of_le (Heap.lt_size e) (I.ok.cab x c hfn hc)))).trans (I.base.keep b o e n hb hx)
    · obtain ⟨sl, e1⟩ := I.base.slot b o e n hb hx
      exact ⟨sl, (hs.2 b (Nat.ne_of_lt (Nat.lt_of_lt_of_le (Heap.lt_size e) (I.ok.cab x c hfn hc)))).trans e1⟩
    · obtain ⟨o', e1⟩ := I.base.there b o e hx
      exact ⟨o', (hs.2 b (Nat.ne_of_lt (Nat.lt_of_lt_of_le (Heap.lt_size e) (I.ok.cab x c hfn hc)))).trans e1⟩
    · by_cases hj : j = i
      · subst hj
        rw [hi] at e1; cases e1
        rw [List.getElem?_set_self hiσ] at e2
        cases e2
        exact ⟨u, r, .inr ⟨.inl hk, c, hc, hc'⟩⟩
      · rw [List.getElem?_set_ne (Ne.symm hj)] at e2
        obtain ⟨u', r', q⟩ := hl j y v' e1 e2 e3
        refine ⟨u', r', ?_⟩
        rcases q with q | ⟨k, c', e, z'⟩
        · exact .inl q
        · refine .inr ⟨k, c', e, z'.sameBut hs ?_⟩
          rintro rfl
          exact hj (zN hN e1 (I.ok.inj _ _ _ e hc ▸ hi))
    · by_cases hcc : c' = c
      · subst hcc; exact ⟨_, hc'⟩
      · obtain ⟨w2, z2⟩ := I.cell y c' e
        exact ⟨w2, z2.sameBut hs hcc⟩
    · obtain ⟨e, n, ne, nf, d⟩ := I.pin p hp
      refine ⟨(hs.2 p.1 ?_).trans e, n, ne, nf, d⟩
      intro q
      rw [q, hoc] at e
      have q' : oc = p.2 := Option.some.inj e
      exact d w' (by rw [← q']; exact hocd)
theorem zB{M:Model}{A:Around}{E:Value->Shared->Prop}{i:Nat}{x:Str}{v:V}{u:Value}{Q:Unit->Shared->Prop}(I:Inv X pins σ H s)(hN:X.N.Nodup)(hi:X.N[i]?=some x)(hx:Loc X.env.scope x)(r:RelV v u)
 (h:∀s',Inv X pins (σ.set i (some v)) H s'->Q () s')(hf:X.fn x=true\/X.env.scope.names.lookup x=some .local:=by first|exact .inl rfl|exact .inr rfl|assumption):wpAny M A (storeName X.env x u) Q E s:=
 ak2 I hN hi hx r (λs' I' _=>h s' I') hf
theorem Inv.call'{s':Shared}{ch:List Addr}(I:Inv X pins σ H s)(ho:s'.os=s.os)(u:Un (lY X.stack) ch H H' s.heap s'.heap)(hok:HOk X.prog X.w H' s'.heap)(hg:AllBare s'.gens)
 (hch:∀b∈ch,(b∈X.ex\/X.s₀.heap.objs.size<=b)/\b≠X.env.locals/\(∀x c,X.env.cells.lookup x=some c->c≠b)/\∀p∈X.pn++pins,p.1≠b):Inv X pins σ H' s':=by
 obtain⟨h',g',d',t',o'⟩:=s'
 have e:o'=s.os:=ho
 subst e
 exact I.call (g':=g') (t':=t') (d':=d') u hok hg hch
end
abbrev XK:=Value->Option Addr->Hp->Prop
abbrev St:=List (Option V)
abbrev VK:=V->Hp->Prop
abbrev TE:=St->Hp->VK->Prop
abbrev TT:=St->Hp->(Bool->Hp->Prop)->Prop
abbrev TA:=St->Hp->(List V->Hp->Prop)->Prop
structure oG where
 nx:St->Hp->Prop
 rt:VK
 bk:St->Hp->Prop:=λ_ _=>False
 ct:St->Hp->Prop:=λ_ _=>False
abbrev TS:=oG->St->Hp->Prop
def EP(X:Cx)(pins:List (Addr×Obj))(σ:St)(Q:VK)(u:Value)(s':Shared):Prop:=∃v H',Inv X pins σ H' s'/\RelV v u/\Q v H'
def TP(X:Cx)(pins:List (Addr×Obj))(σ:St)(Q:Bool->Hp->Prop)(b:Bool)(s':Shared):Prop:=∃H',Inv X pins σ H' s'/\Q b H'
def AP(X:Cx)(pins:List (Addr×Obj))(σ:St)(Q:List V->Hp->Prop)(us:List Value)(s':Shared):Prop:=∃vs H',Inv X pins σ H' s'/\Vals vs us/\Q vs H'
def SP(X:Cx)(pins:List (Addr×Obj))(D:oG)(f:Flow)(s':Shared):Prop:=
 match f with
 |.next=>∃σ' H',Inv X pins σ' H' s'/\D.nx σ' H'
 |.brk=>∃σ' H',Inv X pins σ' H' s'/\D.bk σ' H'
 |.cont=>∃σ' H',Inv X pins σ' H' s'/\D.ct σ' H'
 |.ret u=>∃v σ' H',Inv X pins σ' H' s'/\RelV v u/\D.rt v H'
def PE(X:Cx)(e:Expr)(t:TE):Prop:=
 ∀⦃pins:List (Addr×Obj)⦄ (s:Shared)(σ:St)(H:Hp)(Q:VK),Inv X pins σ H s->t σ H Q->wpAny (model X.prog X.w) X.A (eval e X.env) (EP X pins σ Q) X.xe s
def PT(X:Cx)(e:Expr)(t:TT):Prop:=
 ∀⦃pins:List (Addr×Obj)⦄ (s:Shared)(σ:St)(H:Hp)(Q:Bool->Hp->Prop),Inv X pins σ H s->t σ H Q->wpAny (model X.prog X.w) X.A (isTrue e X.env (eval e X.env)) (TP X pins σ Q) X.xe s
def PW(X:Cx)(e:Expr)(t:TT):Prop:=
 ∀⦃whole:Sem Value⦄ (pins:List (Addr×Obj))(s:Shared)(σ:St)(H:Hp)(Q:Bool->Hp->Prop),Inv X pins σ H s->t σ H Q->wpAny (model X.prog X.w) X.A (isTrue e X.env whole) (TP X pins σ Q) X.xe s
theorem PW.pt{X:Cx}{e:Expr}{t:TT}(h:PW X e t):PT X e t:=λ_ s σ H Q I q=>h _ s σ H Q I q
def PA(X:Cx)(es:List Expr)(t:TA):Prop:=
 ∀⦃pos:Pos⦄ (pins:List (Addr×Obj))(s:Shared)(σ:St)(H:Hp)(Q:List V->Hp->Prop),Inv X pins σ H s->t σ H Q->wpAny (model X.prog X.w) X.A (spliced (backTo pos (starEach es X.env))) (AP X pins σ Q) X.xe s
def PS(X:Cx)(st:Stmt)(t:TS):Prop:=
 ∀⦃pins:List (Addr×Obj)⦄ (s:Shared)(σ:St)(H:Hp)(D:oG),Inv X pins σ H s->t D σ H->wpAny (model X.prog X.w) X.A (exec st X.env) (SP X pins D) X.xe s
def PSs(X:Cx)(st:List Stmt)(t:TS):Prop:=
 ∀⦃pins:List (Addr×Obj)⦄ (s:Shared)(σ:St)(H:Hp)(D:oG),Inv X pins σ H s->t D σ H->wpAny (model X.prog X.w) X.A (execs st X.env) (SP X pins D) X.xe s
theorem cE{α:Type}{t:Sem α}{Q Q':α->Shared->Prop}{M:Model}{A:Around}{E:Value->Shared->Prop}{s:Shared}(h:wpAny M A t Q E s)(hQ:∀a s,Q a s->Q' a s):wpAny M A t Q' E s:=wpAny_mono h hQ λ_ _ x=>x
end L2
namespace L2
open PySem PySem.Spec PyProof.Rows
section
variable {X : Cx}
theorem bin{a b:Expr}{ta tb:TE}(ha:PE X a ta)(hb:PE X b tb){pins:List (Addr×Obj)}{s:Shared}{σ:St}{H:Hp}{R:V->V->Hp->Prop}(I:Inv X pins σ H s)(h:ta σ H λx H1=>tb σ H1 λy H2=>R x y H2)
 {α:Type}{Q:α->Shared->Prop}{f:Value->Value->Sem α}
 (hf:∀v u s2 x y H2,Inv X pins σ H2 s2->RelV x v->RelV y u->R x y H2->wpAny (model X.prog X.w) X.A (f v u) Q X.xe s2):
 wpAny (model X.prog X.w) X.A (eval a X.env) (λv s₁=>wpAny (model X.prog X.w) X.A (eval b X.env) (λu s₂=>wpAny (model X.prog X.w) X.A (f v u) Q X.xe s₂) X.xe s₁) X.xe s:=by
 refine cE (ha s σ H _ I h) λv s1 ⟨x,H1,I1,r1,q1⟩=>?_
 refine cE (hb s1 σ H1 _ I1 q1) λu s2 ⟨y,H2,I2,r2,q2⟩=>?_
 exact hf v u s2 x y H2 I2 r1 r2 q2
def oF(i:Nat):TE:=λσ H Q=>∃v,σ[i]?=some (some v)/\Q v H
def tC(v:V):TE:=λ_ H Q=>Q v H
theorem ao4{i:Nat}{x:Str}{pos:Pos}(hN:X.N[i]?=some x)(hv:Vis X.env.scope x)(hd:(x==("__debug__":Str))=false:=by decide)(hcd:(x==("__classdict__":Str))=false:=by decide):PE X (.Name x pos) (oF i):=by
 intro pins s σ H Q I h
 obtain⟨v,e,h⟩:=h
 obtain⟨m,hn,hl⟩:=I.loc
 obtain⟨u,r,l⟩:=hl i x v hN e hv
 have cL:EP X pins σ Q u s:=⟨v,H,I,r,h⟩
 rcases l with⟨hk,hm⟩|⟨hk,c,hc,hcell⟩
 . exact wpAny_Name (wpAny_loadName_local I.ok.kind hk hn hm cL) hd
 . rcases hk with hk|hk
   . exact wpAny_Name (wpAny_loadName_cell I.ok.kind hk hc hcell cL) hd
   . exact wpAny_Name (wpAny_loadName_free I.ok.kind hk hc hcell cL hcd) hd
theorem aH{i j pos}:PE X (.Constant (.int i) j pos) (tC (.int i)):=λ_ _ _ H _ I h=>wpAny_Constant_int ⟨.int i,H,I.tok _,⟨_,rfl⟩,h⟩
theorem mQ{b j pos}:PE X (.Constant (.bool b) j pos) (tC (.bl b)):=λ_ _ _ H _ I h=>Constant_bool ⟨.bl b,H,I,rfl,h⟩
theorem xB{j pos}:PE X (.Constant .none j pos) (tC .non):=λ_ _ _ H _ I h=>Constant_none ⟨.non,H,I,rfl,h⟩
theorem cH{x j pos}:PE X (.Constant (.str x) j pos) (tC (.str x)):=λ_ _ _ H _ I h=>Calls.Constant_str ⟨.str x,H,I.tok _,⟨_,rfl⟩,h⟩
def Gl(X:Cx)(x:Str):Prop:=X.env.kindOf x=some .globalImplicit
theorem qS{E:Value->Shared->Prop}{pins:List (Addr×Obj)}{s:Shared}{σ:St}{H:Hp}{x:Str}{u:Value}{pos:Pos}{Q:Value->Shared->Prop}(I:Inv X pins σ H s)(hg:Gl X x)(hm:X.mg x=some u)(h:Q u s)
 (hd:(x==("__debug__":Str))=false:=by decide):wpAny (model X.prog X.w) X.A (eval (.Name x pos) X.env) Q E s:=
 Calls.Name_function_global I.ok.kind hg (Calls.loadGlobal_global (by rw[I.ok.glob];exact I.mod.glob.keeps I.bk) hm h) hd
theorem rL{E:Value->Shared->Prop}{pins:List (Addr×Obj)}{s:Shared}{σ:St}{H:Hp}{x:Str}{u:Value}{pos:Pos}{Q:Value->Shared->Prop}(I:Inv X pins σ H s)(hg:Gl X x)(hm:X.mg x=none)(hv:bootBuiltins x=some u)(h:Q u s)
 (hn:x≠"__name__":=by decide)(hd:(x==("__debug__":Str))=false:=by decide):wpAny (model X.prog X.w) X.A (eval (.Name x pos) X.env) Q E s:=by
 obtain⟨mb,h1,h2⟩:=I.mod.blt
 exact Calls.Name_function_global I.ok.kind hg (Calls.loadGlobal_builtin (by rw[I.ok.glob];exact I.mod.glob.keeps I.bk) hm (by rw[I.ok.blt];exact h1.keeps I.bk) ((h2 x hn).trans hv) h) hd
theorem by9{x:Str}{v:V}{u:Value}{pos:Pos}(hg:Gl X x)(hm:X.mg x=some u)(r:RelV v u)(hd:(x==("__debug__":Str))=false:=by decide):PE X (.Name x pos) (tC v):=
 λ_ _ _ H _ I h=>qS I hg hm ⟨v,H,I,r,h⟩ hd
theorem bv8{x:Str}{v:V}{u:Value}{pos:Pos}(hg:Gl X x)(hm:X.mg x=none)(hv:bootBuiltins x=some u)(r:RelV v u)(hn:x≠"__name__":=by decide)(hd:(x==("__debug__":Str))=false:=by decide):PE X (.Name x pos) (tC v):=
 λ_ _ _ H _ I h=>rL I hg hm hv ⟨v,H,I,r,h⟩ hn hd
variable {a b : Expr} {ta tb : TE} {pos : Pos}
variable {tA tB' : TT} {rest : List Expr}
def tOr(t u:TT):TT:=λσ H Q=>t σ H λc H1=>if c=true then Q true H1 else u σ H1 Q
def cr1(t:TT):TT:=λσ H Q=>t σ H λc H1=>Q (!c) H1
theorem tG(ha:PT X a tA):PW X (.BoolOp .Or [a] pos) tA:=by
 intro wh pins s σ H Q I h
 refine isTrue_or (cE (ha s σ H Q I h) λc s1 e=>?_)
 cases c with
 |false=>exact isTrue_or_nil e
 |true=>exact e
theorem uN(ha:PT X a tA)(hb:PW X (.BoolOp .Or (b::rest) pos) tB'):PW X (.BoolOp .Or (a::b::rest) pos) (tOr tA tB'):=by
 intro wh pins s σ H Q I h
 refine isTrue_or (cE (ha s σ H _ I h) λc s1 ⟨H1,I1,q1⟩=>?_)
 cases c with
 |true=>exact⟨H1,I1,q1⟩
 |false=>exact hb pins s1 σ H1 Q I1 q1
theorem iY(ha:PT X a tA):PT X (.UnaryOp .Not a pos) (cr1 tA):=by
 intro pins s σ H Q I h
 exact isTrue_not (ha s σ H (λc H1=>Q (!c) H1) I h)
def bx6(ta tb:TE):TE:=λσ H Q=>ta σ H λx H1=>∃c,x=.bl c/\if c=true then tb σ H1 Q else Q (.bl false) H1
def bs6(ta:TE):TE:=λσ H Q=>ta σ H λx H1=>∃c,x=.bl c/\Q (.bl (!c)) H1
theorem tY{op}{t:TE}(h:PE X a t):PE X (.BoolOp op [a] pos) t:=λpins s σ H Q I hw=>BoolOp_one (h s σ H Q I hw)
theorem rW(ha:PE X a ta)(hb:PE X (.BoolOp .And (b::rest) pos) tb):PE X (.BoolOp .And (a::b::rest) pos) (bx6 ta tb):=by
 intro pins s σ H Q I h
 refine BoolOp_and (cE (ha s σ H _ I h) λv s1 ⟨x,H1,I1,r1,q1⟩=>?_)
 obtain⟨c,rfl,q1⟩:=q1
 cases r1
 refine wpAny_truthy_bool ?_
 cases c with
 |true=>exact hb s1 σ H1 Q I1 q1
 |false=>exact⟨.bl false,H1,I1,rfl,q1⟩
theorem ci1(ha:PE X a ta):PE X (.UnaryOp .Not a pos) (bs6 ta):=by
 intro pins s σ H Q I h
 refine UnaryOp_ (cE (ha s σ H _ I h) λv s1 ⟨x,H1,I1,r1,q1⟩=>?_)
 obtain⟨c,rfl,q1⟩:=q1
 cases r1
 exact not_of (wpAny_truthy_bool ⟨.bl (!c),H1,I1,rfl,q1⟩)
end
end L2
namespace L2
open PySem PySem.Spec PyProof.Rows
def SqL(K:PySem.W.Frag)(H:Hp)(a:Addr)(xs:List V):Prop:=
 Rd H a (.lst xs)\/
  ∃(o:Obj)(its:Array Value)(n:Nat),K.lookup a=some o/\o.cls=.type "list"/\o.dict=none/\o.data=.seq its n/\its.size<=sizeLine/\Vals xs its.toList
def SqT(K:PySem.W.Frag)(H:Hp)(a:Addr)(xs:List V):Prop:=
 Rd H a (.tup xs)\/
  ∃(o:Obj)(its:Array Value)(n:Nat),K.lookup a=some o/\o.cls=.type "tuple"/\o.data=.seq its n/\its.size<=sizeLine/\Vals xs its.toList
def cc8:Value->Option V
 |.none=>some .non
 |.bool b=>some (.bl b)
 |.int i _=>some (.int i)
 |.str x _=>some (.str x)
 |.bytes b _=>some (.byt b)
 |.float b _=>some (.flt b)
 |.ref a=>some (.ref a)
 |.type n=>some (.ty n)
 |_=>none
theorem RelV.abs{x:V}{u:Value}(r:RelV x u):cc8 u=some x:=by
 cases x with
 |non=>cases r;rfl
 |bl _=>cases r;rfl
 |int _=>obtain⟨t,rfl⟩:=r;rfl
 |str _=>obtain⟨t,rfl⟩:=r;rfl
 |byt _=>obtain⟨t,rfl⟩:=r;rfl
 |flt _=>obtain⟨t,rfl⟩:=r;rfl
 |ref _=>cases r;rfl
 |ty _=>cases r;rfl
theorem RelV.inj{x y:V}{u:Value}(r:RelV x u)(q:RelV y u):x=y:=Option.some.inj (r.abs.symm.trans q.abs)
theorem Vals.inj:∀{xs ys:List V}{us:List Value},Vals xs us->Vals ys us->xs=ys
 |_,_,_,.nil,.nil=>rfl
 |_,_,_,.cons r t,.cons r' t'=>by rw[r.inj r',Vals.inj t t']
section
variable {X : Cx} {pins : List (Addr × Obj)} {σ : St} {H : Hp} {s : Shared} {a : Addr} {xs ys : List V}
theorem SqL.of{K:PySem.W.Frag}(h:H a=some (.lst xs)):SqL K H a xs:=.inl (.inl h)
theorem SqT.of{K:PySem.W.Frag}(h:H a=some (.tup xs)):SqT K H a xs:=.inl (.inl h)
theorem Inv.list(I:Inv X pins σ H s)(h:SqL X.K H a xs):∃its:List Value,Vals xs its/\PlainL s.heap a its.toArray/\xs.length<=sizeLine:=by
 rcases h with h|⟨o,its,n,hk,hc,hd,hs,hz,r⟩
 . obtain⟨z,its,n,r,e⟩:=h.ok I.hok
   exact⟨its,r,⟨_,n,e,rfl,rfl,rfl⟩,z⟩
 . refine⟨its.toList,r,⟨o,n,I.kIn a o hk,hc,hd,by simpa using hs⟩,?_⟩
   have e:=r.length
   simp only[Array.length_toList]at e
   omega
theorem Inv.tuple(I:Inv X pins σ H s)(h:SqT X.K H a xs):∃its:List Value,Vals xs its/\IsTup s.heap a its.toArray/\xs.length<=sizeLine:=by
 rcases h with h|⟨o,its,n,hk,hc,hs,hz,r⟩
 . obtain⟨z,its,r,p⟩:=h.ok I.hok
   exact⟨its,r,p,z⟩
 . refine⟨its.toList,r,⟨o,I.kIn a o hk,hc,n,by simpa using hs⟩,?_⟩
   have e:=r.length
   simp only[Array.length_toList]at e
   omega
theorem Inv.list_inj(I:Inv X pins σ H s)(h:SqL X.K H a xs)(h':SqL X.K H a ys):xs=ys:=by
 obtain⟨its,r,⟨o,n,e,_,_,d⟩,_⟩:=I.list h
 obtain⟨its',r',⟨o',n',e',_,_,d'⟩,_⟩:=I.list h'
 rw[e]at e';cases e'
 rw[d]at d'
 injection d' with d1 _
 have:its=its':=by simpa using congrArg Array.toList d1
 subst this
 exact r.inj r'
theorem Inv.tuple_inj(I:Inv X pins σ H s)(h:SqT X.K H a xs)(h':SqT X.K H a ys):xs=ys:=by
 obtain⟨its,r,⟨o,e,_,n,d⟩,_⟩:=I.tuple h
 obtain⟨its',r',⟨o',e',_,n',d'⟩,_⟩:=I.tuple h'
 rw[e]at e';cases e'
 rw[d]at d'
 injection d' with d1 _
 have:its=its':=by simpa using congrArg Array.toList d1
 subst this
 exact r.inj r'
end
abbrev Cx.wish(X:Cx)(E:Value->Shared->Prop):Cx:={X with xe:=E}
abbrev Cx.nox(X:Cx):Cx:=X.wish λ_ _=>False
theorem Cx.Ok.wish{X:Cx}(ok:X.Ok)(E:Value->Shared->Prop):(X.wish E).Ok:=
 ⟨ok.mod,ok.kind,ok.glob,ok.blt,ok.above,ok.inj,ok.has,ok.cab,ok.hd,ok.frames,ok.stk,ok.exf,ok.bs,ok.bsz,ok.noex,ok.exfs,ok.funs,ok.frf⟩
theorem Cx.Ok.unwish{X:Cx}{E:Value->Shared->Prop}(ok:(X.wish E).Ok):X.Ok:=
 ⟨ok.mod,ok.kind,ok.glob,ok.blt,ok.above,ok.inj,ok.has,ok.cab,ok.hd,ok.frames,ok.stk,ok.exf,ok.bs,ok.bsz,ok.noex,ok.exfs,ok.funs,ok.frf⟩
section
variable {X : Cx} {pins : List (Addr × Obj)} {σ : St} {H : Hp} {s : Shared} {E : Value → Shared → Prop}
theorem Inv.wish(I:Inv X pins σ H s)(E:Value->Shared->Prop):Inv (X.wish E) pins σ H s:=⟨I.ok.wish E,I.os,I.bare,I.base,I.loc,I.cell,I.free,I.freeC,I.pin,I.hok,I.len⟩
theorem Inv.unwish(I:Inv (X.wish E) pins σ H s):Inv X pins σ H s:=⟨I.ok.unwish,I.os,I.bare,I.base,I.loc,I.cell,I.free,I.freeC,I.pin,I.hok,I.len⟩
theorem SP.unwish{D:oG}{f:Flow}{s':Shared}(h:SP (X.wish E) pins D f s'):SP X pins D f s':=by
 cases f with
 |next=>obtain⟨σ',H',I,q⟩:=h;exact⟨σ',H',I.unwish,q⟩
 |brk=>obtain⟨σ',H',I,q⟩:=h;exact⟨σ',H',I.unwish,q⟩
 |cont=>obtain⟨σ',H',I,q⟩:=h;exact⟨σ',H',I.unwish,q⟩
 |ret u=>obtain⟨v,σ',H',I,r,q⟩:=h;exact⟨v,σ',H',I.unwish,r,q⟩
theorem PSs.nox{st:List Stmt}{t:TS}(h:PSs X.nox st t):PSs X st t:=λpins s σ H D I hw=>
 wpAny_mono (h s σ H D (I.wish _) hw) (λ_ _ q=>q.unwish) λ_ _ z=>False.elim z
end
section
variable {X : Cx} {st : Stmt} {rest : List Stmt} {t u : TS} {e : Expr} {te : TE} {pos : Pos}
def bc7:TS:=λD σ H=>D.nx σ H
def ca1(t u:TS):TS:=λD σ H=>t {D with nx:=u D} σ H
theorem cK:PSs X [] bc7:=λ_ _ σ H _ I h=>wpAny_execs_nil ⟨σ,H,I,h⟩
theorem aN(h1:PS X st t)(h2:PSs X rest u):PSs X (st::rest) (ca1 t u):=by
 intro pins s σ H D I h
 refine wpAny_execs_cons (cE (h1 s σ H {D with nx:=u D} I h) λf s1 q=>?_)
 cases f with
 |next=>
  obtain⟨σ',H',I',q⟩:=q
  exact h2 s1 σ' H' D I' q
 |ret v=>exact q
 |brk=>exact q
 |cont=>exact q
theorem aW(h1:PS X st t):PSs X [st] t:=by
 intro pins s σ H D I h
 refine wpAny_execs_cons (cE (h1 s σ H D I h) λf s1 q=>?_)
 cases f with
 |next=>exact wpAny_execs_nil q
 |ret v=>exact q
 |brk=>exact q
 |cont=>exact q
theorem Inv.quiet{pins:List (Addr×Obj)}{σ:St}{H:Hp}{s:Shared}(I:Inv X pins σ H s):interactive X.env=false:=by simp[interactive,I.ok.kind]
def ao0(te:TE):TS:=λD σ H=>te σ H λ_ H1=>D.nx σ H1
theorem iT(he:PE X e te)(hs:swapsWith e none pos.line X.env=pure false:=by rfl):PS X (.Expr e pos) (ao0 te):=by
 intro pins s σ H D I h
 exact wpAny_Expr_any (cE (he s σ H _ I h) λv s1 ⟨x,H1,I1,r1,q1⟩=>⟨σ,H1,I1,q1⟩) I.quiet hs
def bq5(te:TE):TS:=λD σ H=>te σ H D.rt
theorem bM(he:PE X e te):PS X (.Return (some e) pos) (bq5 te):=by
 intro pins s σ H D I h
 exact wpAny_Return_some (cE (he s σ H _ I h) λv s1 ⟨x,H1,I1,r1,q1⟩=>⟨x,σ,H1,I1,r1,q1⟩)
def cp2(c:TT)(t u:TS):TS:=λD σ H=>c σ H λb H1=>if b=true then t D σ H1 else u D σ H1
theorem dW{c:Expr}{a b:List Stmt}{tc:TT}(hc:PT X c tc)(ha:PSs X a t)(hb:PSs X b u):PS X (.If c a b pos) (cp2 tc t u):=by
 intro pins s σ H D I h
 refine wpAny_If (cE (hc s σ H _ I h) λd s1 ⟨H1,I1,q1⟩=>?_)
 cases d with
 |true=>exact ha s1 σ H1 D I1 q1
 |false=>exact hb s1 σ H1 D I1 q1
end
abbrev TG:=V->St->Hp->(St->Hp->Prop)->Prop
abbrev wR:=List V->St->Hp->(St->Hp->Prop)->Prop
def PG(X:Cx)(target:Expr)(t:TG):Prop:=
 ∀⦃pins:List (Addr×Obj)⦄ (s:Shared)(σ:St)(H:Hp)(v:V)(u:Value)(Q:St->Hp->Prop),Inv X pins σ H s->RelV v u->t v σ H Q->
  wpAny (model X.prog X.w) X.A (assign target X.env u) (λ_ s'=>∃σ' H',Inv X pins σ' H' s'/\Q σ' H') X.xe s
def PGs(X:Cx)(ts:List Expr)(t:wR):Prop:=
 ∀⦃pins:List (Addr×Obj)⦄ (s:Shared)(σ:St)(H:Hp)(vs:List V)(us:List Value)(Q:St->Hp->Prop),Inv X pins σ H s->Vals vs us->t vs σ H Q->
  wpAny (model X.prog X.w) X.A (assignInOrder ((assignEach ts X.env).map (·.2)) us) (λ_ s'=>∃σ' H',Inv X pins σ' H' s'/\Q σ' H') X.xe s
abbrev bk6:=V->V->V->Hp->(Hp->Prop)->Prop
def ci2(X:Cx)(t:bk6):Prop:=
 ∀⦃pins:List (Addr×Obj)⦄ (s:Shared)(σ:St)(H:Hp)(o i v:V)(ov iv u:Value)(Q:Hp->Prop),Inv X pins σ H s->RelV o ov->RelV i iv->RelV v u->t o i v H Q->
  wpAny (model X.prog X.w) X.A (setItem ov iv u) (λ_ s'=>∃H',Inv X pins σ H' s'/\Q H') X.xe s
section
variable {X : Cx} {pos : Pos}
def yE(i:Nat):TG:=λv σ H Q=>Q (σ.set i (some v)) H
theorem bE{i:Nat}{x:Str}(hN:X.N.Nodup)(hi:X.N[i]?=some x)(hx:Loc X.env.scope x)(hf:X.fn x=true\/X.env.scope.names.lookup x=some .local:=by first|exact .inl rfl|exact .inr rfl|assumption):PG X (.Name x pos) (yE i):=by
 intro pins s σ H v u Q I r h
 exact wpAny_assign_Name (zB I hN hi hx r (λs' I'=>⟨_,H,I',h⟩) hf)
def bb6:wR:=λvs σ H Q=>vs=[]/\Q σ H
def ah3(t:TG)(u:wR):wR:=λvs σ H Q=>∃v r,vs=v::r/\t v σ H λσ' H'=>u r σ' H' Q
theorem iS:PGs X [] bb6:=by
 intro pins s σ H vs us Q I r h
 obtain⟨e,h⟩:=h
 subst e
 cases r
 exact assignInOrder_nil ⟨σ,H,I,h⟩
theorem cQ{e:Expr}{es:List Expr}{t:TG}{u:wR}(h1:PG X e t)(h2:PGs X es u)
 (hs:(assignEach (e::es) X.env).map (·.2)=assign e X.env::(assignEach es X.env).map (·.2):=by rfl):PGs X (e::es) (ah3 t u):=by
 intro pins s σ H vs us Q I r h
 obtain⟨v,vr,e1,h⟩:=h
 subst e1
 cases r with
 |cons r rr=>
  rw[hs]
  refine assignInOrder_cons (cE (h1 s σ H _ _ _ I r h) λ_ s1 ⟨σ1,H1,I1,q1⟩=>?_)
  exact h2 s1 σ1 H1 _ _ Q I1 rr q1
def au9(K:PySem.W.Frag)(n:Nat)(t:wR):TG:=λv σ H Q=>∃a xs,v=.ref a/\SqT K H a xs/\xs.length=n/\t xs σ H Q
theorem cy0{es:List Expr}{k:Nat}{t:wR}{n:Nat}(hc:X.calm=true)(h:PGs X es t)
 (hn:(assignEach es X.env).length=n:=by rfl)(hst:(assignEach es X.env).findIdx? (·.1)=none:=by rfl):PG X (.Tuple es k pos) (au9 X.K n t):=by
 intro pins s σ H v u Q I r hw
 obtain⟨a,xs,e1,hq,hl,hw⟩:=hw
 subst e1
 cases r
 obtain⟨its,rv,ht,hz⟩:=I.tuple hq
 refine assign_Tuple_tuple (I.ok.hd hc) ht (by simp[hn,<-hl,rv.length]) hst λh' hx=>?_
 have I1:Inv X pins σ H {s with heap:=h'}:=I.kept (t':=s.toks) λb o e=>hx b o (Nat.ne_of_lt (Heap.lt_size e)) e
 exact h _ σ H xs _ Q I1 (by simpa using rv) hw
def cu2(to ti:TE)(t:bk6):TG:=λv σ H Q=>to σ H λo H1=>ti σ H1 λi H2=>t o i v H2 λH3=>Q σ H3
theorem ad0{o i:Expr}{to ti:TE}{t:bk6}(ho:PE X o to)(hi:PE X i ti)(hs:ci2 X t)
 (ha:∀v,assign (.Subscript o i pos) X.env v=(do
  let ov<-holding [v] (eval o X.env)
  let iv<-holding [v,ov] (eval i X.env)
  standAt pos
  holding [v,ov,iv] (setItem ov iv v)
  release [v,ov,iv] []):=by intro _;rfl):PG X (.Subscript o i pos) (cu2 to ti t):=by
 intro pins s σ H v u Q I r h
 rw[ha]
 refine wpAny_bind (wpAny_holding (cE (ho s σ H _ I h) λov s1 ⟨x,H1,I1,r1,q1⟩=>?_))
 refine wpAny_bind (wpAny_holding (cE (hi s1 σ H1 _ I1 q1) λiv s2 ⟨y,H2,I2,r2,q2⟩=>?_))
 refine wpAny_bind (wpAny_standAt (wpAny_bind (wpAny_holding (cE (hs s2 σ H2 x y v ov iv u _ I2 r1 r2 r q2) λ_ s3 ⟨H3,I3,q3⟩=>?_))))
 exact wpAny_release ⟨σ,H3,I3,q3⟩
def az3(te:TE)(g:TG):TS:=λD σ H=>te σ H λx H1=>g x σ H1 D.nx
theorem rO{tg e:Expr}{te:TE}{g:TG}(he:PE X e te)(hg:PG X tg g)(hs:swapsWithSole [tg] e pos.line X.env=pure false:=by rfl)(hw:swappedStores [tg] e X.env=pure none:=by rfl)
 (h1:(assignEach [tg] X.env).map (·.2)=[assign tg X.env]:=by rfl):PS X (.Assign [tg] e pos) (az3 te g):=by
 intro pins s σ H D I h
 refine wpAny_Assign_stores (cE (he s σ H _ I h) λv s1 ⟨x,H1,I1,r1,q1⟩=>?_) hs hw
 rw[h1]
 exact cE (hg s1 σ H1 x v _ I1 r1 q1) λ_ s2 q=>q
theorem bK{i:Nat}{x:Str}{e:Expr}{te:TE}{pos':Pos}(hN:X.N.Nodup)(hi:X.N[i]?=some x)(hx:Loc X.env.scope x)(he:PE X e te)(hs:swapsWith e (some (.Name x pos')) pos.line X.env=pure false:=by rfl)(hf:X.fn x=true\/X.env.scope.names.lookup x=some .local:=by first|exact .inl rfl|exact .inr rfl|assumption):
 PS X (.Assign [.Name x pos'] e pos) (az3 te (yE i)):=by
 intro pins s σ H D I h
 refine wpAny_Assign_Name (cE (he s σ H _ I h) λv s1 ⟨y,H1,I1,r1,q1⟩=>?_) hs
 exact zB I1 hN hi hx r1 (λs2 I2=>⟨_,H1,I2,q1⟩) hf
end
section
variable {X : Cx} {pos : Pos}
def bx1(c:TT)(tb:TS):TS:=λD σ H=>∃W:Nat->St->Hp->Prop,(∃m,W m σ H)/\∀m σ H,W m σ H->
 c σ H λb H1=>if b=true then∃N:St->Hp->Prop,(∀σ' H',N σ' H'->∃m',m'<m/\W m' σ' H')/\tb {D with nx:=N,ct:=N,bk:=D.nx} σ H1 else D.nx σ H1
theorem aa6{c:Expr}{body:List Stmt}{tc:TT}{tb:TS}(hp:PassesOwn (model X.prog X.w) X.A X.env X.xe)(hc:PT X c tc)(hb:PSs X body tb):PS X (.While c body [] pos) (bx1 tc tb):=by
 intro pins s σ H D I h
 obtain⟨W,⟨m0,w0⟩,turn⟩:=h
 refine wpAny_While (codeAny_whileLoop (λn s'=>∃σ' H',Inv X pins σ' H' s'/\W n σ' H') ?_ m0 ⟨σ,H,I,w0⟩)
 rintro n s1 ⟨σ1,H1,I1,w1⟩
 refine wpAny_passesOwn hp (cE (hc s1 σ1 H1 _ I1 (turn n σ1 H1 w1)) λb s2 ⟨H2,I2,q2⟩=>?_)
 cases b with
 |true=>
  obtain⟨N,hN,q2⟩:=q2
  rw[if_pos rfl]
  refine wpAny_passesOwn hp (cE (hb s2 σ1 H2 _ I2 q2) λf s3 q3=>?_)
  cases f with
  |next=>
   obtain⟨σ3,H3,I3,n3⟩:=q3
   obtain⟨m',hm,w3⟩:=hN σ3 H3 n3
   exact⟨m',hm,σ3,H3,I3,w3⟩
  |cont=>
   obtain⟨σ3,H3,I3,n3⟩:=q3
   obtain⟨m',hm,w3⟩:=hN σ3 H3 n3
   exact⟨m',hm,σ3,H3,I3,w3⟩
  |brk=>exact q3
  |ret v=>exact q3
 |false=>
  rw[if_neg Bool.false_ne_true]
  exact wpAny_execs_nil ⟨σ1,H2,I2,q2⟩
end
structure It where
 go:Nat->Hp->Prop
 yld:Nat->Hp->V->Hp->Prop
 stop:Nat->Hp->Prop
def rR(X:Cx)(pins:List (Addr×Obj))(H:Hp)(b:Addr):Prop:=
 H b=none/\b≠X.env.locals/\b∉X.fs/\(b∈X.ex\/X.s₀.heap.objs.size<=b)/\(∀x c,X.env.cells.lookup x=some c->c≠b)/\∀p∈X.pn++pins,p.1≠b
theorem Inv.fpOk{X:Cx}{pins:List (Addr×Obj)}{σ:St}{H H':Hp}{s:Shared}{b:Addr}(I:Inv X pins σ H s)(hb:s.heap.objs.size<=b)(hn:H' b=none):rR X pins H' b:=by
 refine⟨hn,Nat.ne_of_gt (Nat.lt_of_lt_of_le I.lt hb),I.nofs hb,.inr (Nat.le_trans I.sz hb),λx c e z=>?_,λp hp z=>?_⟩
 . obtain⟨v,q⟩:=I.cell x c e
   exact absurd (Nat.lt_of_lt_of_le q.lt (by rw[z];exact hb)) (Nat.lt_irrefl _)
 . exact absurd (Nat.lt_of_lt_of_le (Heap.lt_size (I.pin p hp).1) (by rw[z];exact hb)) (Nat.lt_irrefl _)
structure aq1 (P:Program) (w:World) (K:PySem.W.Frag) (tg:Expr) (J:It) (fp:List Addr) (it:Addr) (tn:Nat->Heap->Prop):Prop where
 mem:it∈fp
 obj:∀i h,tn i h->∀b∈fp,∃o,h.get? b=some o/\∀v,o.data≠ .cell v
 keep:∀i h h',tn i h->(∀b∈fp,∀o,h.get? b=some o->h'.get? b=some o)->tn i h'
 item:∀(X:Cx),X.prog=P->X.w=w->X.K=K->X.calm=true->∀(i:Nat)(pins:List (Addr×Obj))(s:Shared)(σ:St)(H:Hp)(E:Value->Shared->Prop),Inv X pins σ H s->(∀b∈fp,rR X pins H b)->tn i s.heap->J.go i H->
  wpAny (model P w) X.A (pyNext (.ref it)) (λr s1=>∃u,r=some u/\
   wpAny (model P w) X.A (letOwnedTupleGo tg (.ref it) u) (λ_ s2=>∃x H',Inv X pins σ H' s2/\RelV x u/\J.yld i H x H'/\tn (i+1) s2.heap/\∀b∈fp,H' b=none) E s1) E s
 done:∀(X:Cx),X.prog=P->X.w=w->X.K=K->X.calm=true->∀(i:Nat)(pins:List (Addr×Obj))(s:Shared)(σ:St)(H:Hp)(E:Value->Shared->Prop),Inv X pins σ H s->(∀b∈fp,rR X pins H b)->tn i s.heap->J.stop i H->
  wpAny (model P w) X.A (pyNext (.ref it)) (λr s1=>r=none/\Inv X pins σ H s1) E s
 self:∀(A:Around)(i:Nat)(s:Shared)(Q:Value->Shared->Prop)(E:Value->Shared->Prop),tn i s.heap->Q (.ref it) s->wpAny (model P w) A (pyIter (.ref it)) Q E s
abbrev TI:=St->Hp->(It->Hp->Prop)->Prop
def PIE(X:Cx)(pins:List (Addr×Obj))(σ:St)(tg:Expr)(R:It->Hp->Prop)(itv:Value)(s2:Shared):Prop:=
 ∃(it:Addr)(fp:List Addr)(tn:Nat->Heap->Prop)(J:It)(H':Hp),itv=.ref it/\Inv X pins σ H' s2/\aq1 X.prog X.w X.K tg J fp it tn/\tn 0 s2.heap/\(∀b∈fp,rR X pins H' b)/\R J H'
def PI(X:Cx)(tg iter:Expr)(wi:TI):Prop:=
 ∀⦃pins:List (Addr×Obj)⦄ (s:Shared)(σ:St)(H:Hp)(R:It->Hp->Prop),Inv X pins σ H s->wi σ H R->
  wpAny (model X.prog X.w) X.A (eval iter X.env) (λv s1=>wpAny (model X.prog X.w) X.A (pyIter v) (PIE X pins σ tg R) X.xe s1) X.xe s
theorem ah9 {M : Model} {A : Around} {E : Value → Shared → Prop} {s : Shared} {tg : Expr} {it : Addr} {u : Value} {o : Obj} {n : String} {vs : Array Value} {Q : Unit → Shared → Prop} (ho : s.heap.get? it = some o) (hc : o.cls = .type n) (hd : o.data = .fields vs)
    (hn : ["enumerate", "zip", "dict_itemiterator", "dict_reverseitemiterator", "odict_iterator", "itertools.zip_longest", "itertools.pairwise"].contains n = false) (hQ : Q () s) : wpAny M A (letOwnedTupleGo tg (.ref it) u) Q E s := by
  unfold letOwnedTupleGo
  cases tg <;> first
    | exact wpAny_pure hQ
    | (cases u <;> first
        | exact wpAny_pure hQ
        | (refine wpAny_bind (wpAny_load ho ?_)
           rw [hc, hd]
           show wpAny M A (if (["enumerate", "zip", "dict_itemiterator", "dict_reverseitemiterator", "odict_iterator", "itertools.zip_longest", "itertools.pairwise"].contains n && vs[0]? == some (rawInt _)) = true then _ else _) Q E s
           rw [if_neg (by intro h; rw [hn, Bool.false_and] at h; cases h)]
           exact wpAny_pure hQ))
def Itl(K:PySem.W.Frag)(a:Addr):It:=
 ⟨λi H=>∃xs x,SqL K H a xs/\xs[i]?=some x,λi H x H'=>H'=H/\∀xs,SqL K H a xs->xs[i]?=some x,λi H=>∃xs,SqL K H a xs/\xs.length<=i⟩
def Itt(K:PySem.W.Frag)(a:Addr):It:=
 ⟨λi H=>∃xs x,SqT K H a xs/\xs[i]?=some x,λi H x H'=>H'=H/\∀xs,SqT K H a xs->xs[i]?=some x,λi H=>∃xs,SqT K H a xs/\xs.length<=i⟩
def Itr(lo:Int)(n:Nat):It:=⟨λi _=>i<n,λi H x H'=>H'=H/\x=.int (lo+i),λi _=>n<=i⟩
theorem bn2{P:Program}{w:World}{K:PySem.W.Frag}{tg:Expr}(a it:Addr):aq1 P w K tg (Itl K a) [it] it (λi h=>h.IsListIter it a i) where
 mem:=by simp
 obj:=λi h st b hb=>by
  have e:b=it:=by simpa using hb
  subst e
  obtain⟨o,e,c,d⟩:=st
  exact⟨o,e,λv z=>by rw[d]at z;cases z⟩
 keep:=λi h h' st k=>st.at λo e=>k it (by simp) o e
 item:=by
  intro X hP hw hK hc i pins s σ H E I hf st hg
  subst hP hw hK
  obtain⟨xs,x,hq,hx⟩:=hg
  obtain⟨its,rv,p,hz⟩:=I.list hq
  obtain⟨u,hu,ru⟩:=rv.get hx
  obtain⟨f0,f1,f2,f3,f4,f5⟩:=hf it (by simp)
  refine wpAny_pyNext_list_item st p.isList (x:=u) (by simpa using hu) λh' st' sb=>?_
  have I1:Inv X pins σ H {s with heap:=h'}:=I.turned (t':=s.toks) (λb o hb e=>(sb.2 b hb).trans e) f0 f1 f3 f4 f5
  obtain⟨o,e,c,d⟩:=id st'
  exact⟨u,rfl,ah9 (s:={s with heap:=h'}) e c d (by decide) ⟨x,H,I1,ru,⟨rfl,λys hy=>by rw[I.list_inj hy hq];exact hx⟩,st',λb hb=>(hf b hb).1⟩⟩
 done:=by
  intro X hP hw hK hc i pins s σ H E I hf st hg
  subst hP hw hK
  obtain⟨xs,hq,hx⟩:=hg
  obtain⟨its,rv,p,hz⟩:=I.list hq
  obtain⟨f0,f1,f2,f3,f4,f5⟩:=hf it (by simp)
  have hl:=rv.length
  exact wpAny_pyNext_list_end (I.ok.hd hc) st p.isList (by simp;omega) λh' eb=>⟨rfl,I.turned (t':=s.toks) (λb o hb e=>eb b o hb e) f0 f1 f3 f4 f5⟩
 self:=λ_ _ _ _ _ st h=>wpAny_pyIter_listiter st h
theorem ay7{P:Program}{w:World}{K:PySem.W.Frag}{tg:Expr}(a it:Addr):aq1 P w K tg (Itt K a) [it] it (λi h=>h.IsTupleIter it a i) where
 mem:=by simp
 obj:=λi h st b hb=>by
  have e:b=it:=by simpa using hb
  subst e
  obtain⟨o,e,c,d⟩:=st
  exact⟨o,e,λv z=>by rw[d]at z;cases z⟩
 keep:=λi h h' st k=>st.at λo e=>k it (by simp) o e
 item:=by
  intro X hP hw hK hc i pins s σ H E I hf st hg
  subst hP hw hK
  obtain⟨xs,x,hq,hx⟩:=hg
  obtain⟨its,rv,p,hz⟩:=I.tuple hq
  obtain⟨u,hu,ru⟩:=rv.get hx
  obtain⟨f0,f1,f2,f3,f4,f5⟩:=hf it (by simp)
  refine wpAny_pyNext_tuple_item st (show s.heap.IsTuple a its.toArray from p) (x:=u) (by simpa using hu) λh' st' sb=>?_
  have I1:Inv X pins σ H {s with heap:=h'}:=I.turned (t':=s.toks) (λb o hb e=>(sb.2 b hb).trans e) f0 f1 f3 f4 f5
  obtain⟨o,e,c,d⟩:=id st'
  exact⟨u,rfl,ah9 (s:={s with heap:=h'}) e c d (by decide) ⟨x,H,I1,ru,⟨rfl,λys hy=>by rw[I.tuple_inj hy hq];exact hx⟩,st',λb hb=>(hf b hb).1⟩⟩
 done:=by
  intro X hP hw hK hc i pins s σ H E I hf st hg
  subst hP hw hK
  obtain⟨xs,hq,hx⟩:=hg
  obtain⟨its,rv,p,hz⟩:=I.tuple hq
  obtain⟨f0,f1,f2,f3,f4,f5⟩:=hf it (by simp)
  have hl:=rv.length
  exact wpAny_pyNext_tuple_end (I.ok.hd hc) st (show s.heap.IsTuple a its.toArray from p) (by simp;omega) λh' eb=>⟨rfl,I.turned (t':=s.toks) (λb o hb e=>eb b o hb e) f0 f1 f3 f4 f5⟩
 self:=λ_ _ _ _ _ st h=>wpAny_pyIter_tupleiter st h
theorem ab8{P:Program}{w:World}{K:PySem.W.Frag}{tg:Expr}(it:Addr)(lo:Int)(n:Nat):aq1 P w K tg (Itr lo n) [it] it (λi h=>IsRangeIter h it (lo+(i:Nat)*1) ((n:Int)-(i:Nat)) 1) where
 mem:=by simp
 obj:=λi h st b hb=>by
  have e:b=it:=by simpa using hb
  subst e
  exact⟨_,st,λv z=>by
   have z':Data.fields _=Data.cell v:=z
   cases z'⟩
 keep:=λi h h' st k=>k it (by simp) _ st
 item:=by
  intro X hP hw hK hc i pins s σ H E I hf st hg
  subst hP hw hK
  obtain⟨f0,f1,f2,f3,f4,f5⟩:=hf it (by simp)
  have W:=Walks.range (prog:=X.prog) (w:=X.w) (I.ok.hd hc) it lo 1 n
  refine W.item i s _ _ hg st λv h' tk hv st' kk=>?_
  obtain⟨t,rfl⟩:=hv
  have I1:Inv X pins σ H {s with heap:=h',toks:=tk}:=I.turned (λb o hb e=>kk b o (by simpa using hb) e) f0 f1 f3 f4 f5
  refine⟨_,rfl,ah9 (s:={s with heap:=h',toks:=tk}) (n:="range_iterator") st' rfl rfl (by decide) ⟨.int (lo+i),H,I1,⟨t,?_⟩,⟨rfl,rfl⟩,st',λb hb=>(hf b hb).1⟩⟩
  rw[Int.mul_one]
 done:=by
  intro X hP hw hK hc i pins s σ H E I hf st hg
  subst hP hw hK
  obtain⟨f0,f1,f2,f3,f4,f5⟩:=hf it (by simp)
  exact wpAny_pyNext_range_end (I.ok.hd hc) st (by have:n<=i:=hg;omega) λh' eb=>⟨rfl,I.turned (t':=s.toks) (λb o hb e=>eb b o hb e) f0 f1 f3 f4 f5⟩
 self:=λ_ _ _ _ _ st h=>wpAny_pyIter_rangeiter st h
end L2
namespace L2
open PySem PySem.Spec PyProof.Rows
section
variable {X : Cx} {tg : Expr}
theorem at4{pins:List (Addr×Obj)}{σ:St}{H:Hp}{s:Shared}{R:It->Hp->Prop}{E:Value->Shared->Prop}{lo hi:Int}{t u v:Tok}{tk:Nat}(I:Inv X pins σ H s)(h1:-(2^62)<=lo)(h2:lo<2^62)(h3:-(2^62)<=hi)(h4:hi<2^62)
 (q:R (Itr lo (hi-lo).toNat) H):wpAny (model X.prog X.w) X.A (pyIter (.ref s.heap.objs.size)) (PIE X pins σ tg R) E {s with heap:=s.heap.push {cls:=.type "range",data:=.fields #[.int lo t,.int hi u,.int 1 v]},toks:=tk}:=by
 refine wpAny_pyIter_range (IsRange.new ..) (small_one h1 h2 h3 h4) ?_
 have I1:Inv X pins σ H {s with heap:=s.heap.push {cls:=.type "range",data:=.fields #[.int lo t,.int hi u,.int 1 v]},toks:=tk}:=I.kept λb o e=>Heap.get?_push_of_some _ e
 refine⟨(s.heap.push {cls:=.type "range",data:=.fields #[.int lo t,.int hi u,.int 1 v]}).objs.size,[(s.heap.push {cls:=.type "range",data:=.fields #[.int lo t,.int hi u,.int 1 v]}).objs.size],_,_,H,rfl,
  I1.kept (t':=tk) λb o e=>Heap.get?_push_of_some _ e,ab8 _ lo (hi-lo).toNat,?_,λb hb=>?_,q⟩
 . have e1:lo+((0:Nat):Int)*1=lo:=by simp
   have e2:(((hi-lo).toNat:Nat):Int)-((0:Nat):Int)=Builtin.Range.rangeSize lo hi 1:=by rw[rangeSize_one];split<;>omega
   show IsRangeIter _ _ (lo+((0:Nat):Int)*1) ((((hi-lo).toNat:Nat):Int)-((0:Nat):Int)) 1
   rw[e1,e2]
   exact Heap.get?_push_size _ rfl
 . have e:b=(s.heap.push {cls:=.type "range",data:=.fields #[.int lo t,.int hi u,.int 1 v]}).objs.size:=by simpa using hb
   subst e
   exact I1.fpOk (Nat.le_refl _) (I1.hok.fresh (Nat.le_refl _))
def bi7(ta:TA):TI:=λσ H R=>ta σ H λvs H1=>∃j:Int,vs=[.int j]/\-(2^62)<=j/\j<2^62/\R (Itr 0 j.toNat) H1
def bw6(ta:TA):TI:=λσ H R=>ta σ H λvs H1=>∃i j:Int,vs=[.int i,.int j]/\(-(2^62)<=i/\i<2^62/\-(2^62)<=j/\j<2^62)/\R (Itr i (j-i).toNat) H1
theorem iH{a:Expr}{ta:TA}{p pos:Pos}(hg:Gl X "range")(hm:X.mg "range"=none)(ha:PA X [a] ta)(hs:starEach [a] X.env=[(false,eval a X.env)]:=by rfl):PI X tg (.Call (.Name "range" p) [a] [] pos) (bi7 ta):=by
 intro pins s σ H R I h
 refine Call_ (rL I hg hm boot_range (PyProof.Rows.callWith_type1 (cE (ha pins s σ H _ I h) λus s1 ⟨vs,H1,I1,r1,q1⟩=>?_) hs rfl))
 obtain⟨j,e,q1,q2,q⟩:=q1
 subst e
 cases r1 with
 |cons r rr=>
  cases rr
  obtain⟨t,rfl⟩:=r
  exact call_range_1 (at4 I1 (by omega) (by omega) q1 q2 (by simpa using q))
theorem bq0{a b:Expr}{ta:TA}{p pos:Pos}(hg:Gl X "range")(hm:X.mg "range"=none)(ha:PA X [a,b] ta)(hs:starEach [a,b] X.env=[(false,eval a X.env),(false,eval b X.env)]:=by rfl)(hs2:starEach [b] X.env=[(false,eval b X.env)]:=by rfl):
 PI X tg (.Call (.Name "range" p) [a,b] [] pos) (bw6 ta):=by
 intro pins s σ H R I h
 refine Call_ (rL I hg hm boot_range (PyProof.Rows.callWith_type1 (cE (ha pins s σ H _ I h) λus s1 ⟨vs,H1,I1,r1,q1⟩=>?_) (by rw[hs,hs2]) (by rw[hs2];rfl)))
 obtain⟨i,j,e,⟨q1,q2,q3,q4⟩,q⟩:=q1
 subst e
 cases r1 with
 |cons r rr=>
  cases rr with
  |cons r' rr=>
   cases rr
   obtain⟨t,rfl⟩:=r
   obtain⟨t',rfl⟩:=r'
   exact call_range_2 (at4 I1 q1 q2 q3 q4 q)
def bg5(wi:TI)(g:TG)(tb:TS):TS:=λD σ H=>wi σ H λJ H1=>∃W:Nat->Nat->St->Hp->Prop,(∃m,W 0 m σ H1)/\∀i m σ H,W i m σ H->
 (J.stop i H/\D.nx σ H)\/(J.go i H/\∃N:St->Hp->Prop,(∀σ' H',N σ' H'->∃m',m'<m/\W (i+1) m' σ' H')/\∀x H',J.yld i H x H'->g x σ H' λσ2 H2=>tb {D with nx:=N,ct:=N,bk:=D.nx} σ2 H2)
def tV(fp:List Addr)(h:Heap):List (Addr×Obj):=fp.filterMap λb=>(h.get? b).map λo=>(b,o)
theorem qD{fp:List Addr}{h:Heap}{b:Addr}{o:Obj}(hb:b∈fp)(e:h.get? b=some o):(b,o)∈tV fp h:=List.mem_filterMap.mpr ⟨b,hb,by rw[e];rfl⟩
theorem br2{fp:List Addr}{h:Heap}{p:Addr×Obj}(hp:p∈tV fp h):p.1∈fp/\h.get? p.1=some p.2:=by
 obtain⟨b,hb,e⟩:=List.mem_filterMap.mp hp
 cases q:h.get? b with
 |none=>rw[q]at e;cases e
 |some o=>
  rw[q]at e
  have e':(b,o)=p:=Option.some.inj e
  subst e'
  exact⟨hb,q⟩
theorem Inv.pinned{pins:List (Addr×Obj)}{σ:St}{H:Hp}{s:Shared}{fp:List Addr}(I:Inv X pins σ H s)(hf:∀b∈fp,rR X pins H b)(ho:∀b∈fp,∃o,s.heap.get? b=some o/\∀v,o.data≠ .cell v):Inv X (pins++tV fp s.heap) σ H s:=
 I.pins_of λp hp=>(List.mem_append.mp hp).elim (λz=>I.pin p (List.mem_append_right _ z)) λz=>by
  obtain⟨hb,e⟩:=br2 z
  obtain⟨f0,f1,f2,_⟩:=hf p.1 hb
  obtain⟨o,e',d⟩:=ho p.1 hb
  rw[e]at e';cases e'
  exact⟨e,f0,f1,f2,d⟩
theorem Inv.unpinned{pins pl:List (Addr×Obj)}{σ:St}{H:Hp}{s:Shared}(I:Inv X (pins++pl) σ H s):Inv X pins σ H s:=I.pins_of λp hp=>I.pin p (List.mem_append_right _ (List.mem_append_left _ hp))
theorem lM{iter:Expr}{body:List Stmt}{wi:TI}{g:TG}{tb:TS}{pos:Pos}(hp:PassesOwn (model X.prog X.w) X.A X.env X.xe)(hc:X.calm=true)(hi:PI X tg iter wi)(hg:PG X tg g)(hb:PSs X body tb)
 (hs:∀x,foldedSetIterable iter X.env x=pure x:=by intro _;rfl):PS X (.For tg iter body [] pos) (bg5 wi g tb):=by
 intro pins s σ H D I h
 refine wpAny_For (cE (hi s σ H _ I h) λv s1 h1=>cE h1 λitv s2 h2=>?_) hs
 obtain⟨it,fp,tn,J,H2,e,I2,T,st2,f2,W,⟨m0,w0⟩,turn⟩:=h2
 subst e
 have stat:∀{H':Hp},(∀b∈fp,H' b=none)->∀b∈fp,rR X pins H' b:=λhn b hb=>⟨hn b hb,(f2 b hb).2⟩
 refine codeAny_forLoop_any (λn s'=>∃i σ' H',Inv X pins σ' H' s'/\tn i s'.heap/\(∀b∈fp,H' b=none)/\W i n σ' H') ?_ m0 ⟨0,σ,H2,I2,st2,λb hb=>(f2 b hb).1,w0⟩
 rintro n s3 ⟨i,σ3,H3,I3,st3,fr3,w3⟩
 rcases turn i n σ3 H3 w3 with⟨stop,qn⟩|⟨go,N,hN,step⟩
 . refine wpAny_passesOwn hp (cE (T.done X rfl rfl rfl hc i pins s3 σ3 H3 X.xe I3 (stat fr3) st3 stop) λr s4 ⟨hr,I4⟩=>?_)
   subst hr
   exact wpAny_execs_nil ⟨σ3,H3,I4,qn⟩
 . refine wpAny_passesOwn hp (cE (T.item X rfl rfl rfl hc i pins s3 σ3 H3 X.xe I3 (stat fr3) st3 go) λr s4 ⟨u,hr,h4⟩=>?_)
   subst hr
   refine wpAny_passesOwn hp (cE h4 λ_ s5 ⟨x,H5,I5,r5,y5,st5,fr5⟩=>?_)
   have I5':=I5.pinned (stat fr5) (T.obj _ _ st5)
   refine wpAny_passesOwn hp (cE (hg s5 σ3 H5 x u _ I5' r5 (step x H5 y5)) λ_ s6 ⟨σ6,H6,I6,q6⟩=>?_)
   refine wpAny_passesOwn hp (cE (hb s6 σ6 H6 _ I6 q6) λf s7 q7=>?_)
   have again:∀{σ7:St}{H7:Hp},Inv X (pins++tV fp s5.heap) σ7 H7 s7->N σ7 H7->∃m,m<n/\∃i σ' H',Inv X pins σ' H' s7/\tn i s7.heap/\(∀b∈fp,H' b=none)/\W i m σ' H':=λ{σ7 H7} I7 n7=>by
    obtain⟨m',hm,w7⟩:=hN σ7 H7 n7
    refine⟨m',hm,i+1,σ7,H7,I7.unpinned,T.keep _ _ _ st5 λb hb o e=>(I7.pin (b,o) (List.mem_append_right _ (List.mem_append_right _ (qD hb e)))).1,λb hb=>?_,w7⟩
    obtain⟨o,e,d⟩:=T.obj _ _ st5 b hb
    exact(I7.pin (b,o) (List.mem_append_right _ (List.mem_append_right _ (qD hb e)))).2.1
   cases f with
   |next=>obtain⟨σ7,H7,I7,n7⟩:=q7;exact again I7 n7
   |cont=>obtain⟨σ7,H7,I7,n7⟩:=q7;exact again I7 n7
   |brk=>obtain⟨σ7,H7,I7,q7⟩:=q7;exact⟨σ7,H7,I7.unpinned,q7⟩
   |ret v=>obtain⟨x7,σ7,H7,I7,r7,q7⟩:=q7;exact⟨x7,σ7,H7,I7.unpinned,r7,q7⟩
end
end L2
namespace L2
open PySem PySem.Spec PyProof.Rows
abbrev R2:=V->V->Hp->VK->Prop
def OpR(X:Cx)(f:Value->Value->Sem Value)(r:R2):Prop:=
 ∀⦃pins:List (Addr×Obj)⦄ (s:Shared)(σ:St)(H:Hp)(x y:V)(v u:Value)(Q:VK),Inv X pins σ H s->RelV x v->RelV y u->r x y H Q->
  wpAny (model X.prog X.w) X.A (f v u) (EP X pins σ Q) X.xe s
def UnR(X:Cx)(f:Value->Sem Value)(r:V->Hp->VK->Prop):Prop:=
 ∀⦃pins:List (Addr×Obj)⦄ (s:Shared)(σ:St)(H:Hp)(x:V)(v:Value)(Q:VK),Inv X pins σ H s->RelV x v->r x H Q->
  wpAny (model X.prog X.w) X.A (f v) (EP X pins σ Q) X.xe s
def CallR(X:Cx)(f:Value)(r:List V->Hp->VK->Prop):Prop:=
 ∀⦃pins:List (Addr×Obj)⦄ (s:Shared)(σ:St)(H:Hp)(xs:List V)(us:List Value)(Q:VK),Inv X pins σ H s->Vals xs us->r xs H Q->
  wpAny (model X.prog X.w) X.A (call f us) (EP X pins σ Q) X.xe s
def cr8(X:Cx)(r:V->Hp->(Bool->Hp->Prop)->Prop):Prop:=
 ∀⦃pins:List (Addr×Obj)⦄ (s:Shared)(σ:St)(H:Hp)(x:V)(v:Value)(Q:Bool->Hp->Prop),Inv X pins σ H s->RelV x v->r x H Q->
  wpAny (model X.prog X.w) X.A (truthy v) (TP X pins σ Q) X.xe s
def tOp(r:R2)(ta tb:TE):TE:=λσ H Q=>ta σ H λx H1=>tb σ H1 λy H2=>r x y H2 Q
def tUn(r:V->Hp->VK->Prop)(ta:TE):TE:=λσ H Q=>ta σ H λx H1=>r x H1 Q
def rI(C:Int->Int->Prop)(g:Int->Int->V):R2:=λx y H Q=>∃i j,x=.int i/\y=.int j/\C i j/\Q (g i j) H
def tI(g:Int->Int->V):R2:=λx y H Q=>∃i j,x=.int i/\y=.int j/\Q (g i j) H
def rU(g:Int->V):V->Hp->VK->Prop:=λx H Q=>∃i,x=.int i/\Q (g i) H
section
variable {X : Cx} {a b c : Expr} {ta tb tc : TE} {pos : Pos}
theorem bp5(ha:PE X a ta)(hb:PE X b tb){pins:List (Addr×Obj)}{s:Shared}{σ:St}{H:Hp}{R:V->V->Hp->Prop}(I:Inv X pins σ H s)
 (h:ta σ H λx H1=>tb σ H1 λy H2=>R x y H2){Q:Value->Shared->Prop}{f:Value->Value->Sem Value}
 (hf:∀v u s2 x y H2,Inv X pins σ H2 s2->RelV x v->RelV y u->R x y H2->wpAny (model X.prog X.w) X.A (f v u) Q X.xe s2):
 wpAny (model X.prog X.w) X.A (eval a X.env) (λv s₁=>wpAny (model X.prog X.w) X.A (eval b X.env) (λu s₂=>wpAny (model X.prog X.w) X.A (f v u) Q X.xe s₂) X.xe s₁) X.xe s:=by
 refine cE (ha s σ H _ I h) λv s1 ⟨x,H1,I1,r1,q1⟩=>?_
 refine cE (hb s1 σ H1 _ I1 q1) λu s2 ⟨y,H2,I2,r2,q2⟩=>?_
 exact hf v u s2 x y H2 I2 r1 r2 q2
theorem aP{op:Operator}{r:R2}(ho:OpR X (binaryOp op) r)(ha:PE X a ta)(hb:PE X b tb):PE X (.BinOp a op b pos) (tOp r ta tb):=by
 intro pins s σ H Q I h
 exact wpAny_BinOp (bp5 ha hb I h λv u s2 x y H2 I2 rx ry q=>ho s2 σ H2 x y v u Q I2 rx ry q)
theorem qG{op:UnaryOp}{r:V->Hp->VK->Prop}(ho:UnR X (unaryOp op) r)(ha:PE X a ta):PE X (.UnaryOp op a pos) (tUn r ta):=by
 intro pins s σ H Q I h
 exact UnaryOp_ (cE (ha s σ H _ I h) λv s1 ⟨x,H1,I1,r1,q1⟩=>ho s1 σ H1 x v Q I1 r1 q1)
theorem opI{f:Value->Value->Sem Value}{C:Int->Int->Prop}{g:Int->Int->Int}
 (rule:∀(i j:Int)(t u:Tok)(s:Shared)(Q:Value->Shared->Prop)(E:Value->Shared->Prop),C i j->Q (.int (g i j) s.toks) {s with toks:=s.toks+1}->wpAny (model X.prog X.w) X.A (f (.int i t) (.int j u)) Q E s):
 OpR X f (rI C λi j=>.int (g i j)):=by
 intro pins s σ H x y v u Q I rx ry h
 obtain⟨i,j,rfl,rfl,hc,q⟩:=h
 obtain⟨t,rfl⟩:=rx
 obtain⟨t',rfl⟩:=ry
 exact rule i j t t' s _ _ hc ⟨.int (g i j),H,I.tok _,⟨_,rfl⟩,q⟩
theorem cf3{f:Value->Value->Sem Value}{g:Int->Int->Int}
 (rule:∀(i j:Int)(t u:Tok)(s:Shared)(Q:Value->Shared->Prop)(E:Value->Shared->Prop),Q (.int (g i j) s.toks) {s with toks:=s.toks+1}->wpAny (model X.prog X.w) X.A (f (.int i t) (.int j u)) Q E s):
 OpR X f (tI λi j=>.int (g i j)):=by
 intro pins s σ H x y v u Q I rx ry h
 obtain⟨i,j,rfl,rfl,q⟩:=h
 obtain⟨t,rfl⟩:=rx
 obtain⟨t',rfl⟩:=ry
 exact rule i j t t' s _ _ ⟨.int (g i j),H,I.tok _,⟨_,rfl⟩,q⟩
theorem bm6{f:Value->Value->Sem Value}{g:Int->Int->Bool}
 (rule:∀(i j:Int)(t u:Tok)(s:Shared)(Q:Value->Shared->Prop)(E:Value->Shared->Prop),Q (.bool (g i j)) s->wpAny (model X.prog X.w) X.A (f (.int i t) (.int j u)) Q E s):
 OpR X f (tI λi j=>.bl (g i j)):=by
 intro pins s σ H x y v u Q I rx ry h
 obtain⟨i,j,rfl,rfl,q⟩:=h
 obtain⟨t,rfl⟩:=rx
 obtain⟨t',rfl⟩:=ry
 exact rule i j t t' s _ _ ⟨.bl (g i j),H,I,rfl,q⟩
def gF(i j:Int):Prop:=0<j/\j<1073741824
def xK(i j:Int):Prop:=0<=j/\j<=1000000/\i.natAbs<2^64
theorem op_add:OpR X (binaryOp .Add) (tI λi j=>.int (i+j)):=cf3 λ_ _ _ _ _ _ _ q=>add_int q
theorem lH:OpR X (binaryOp .Sub) (tI λi j=>.int (i-j)):=cf3 λ_ _ _ _ _ _ _ q=>sub_int q
theorem eK:OpR X (binaryOp .FloorDiv) (rI gF λi j=>.int (i/j)):=opI λi j _ _ _ _ _ hc q=>by
 have h1:(0:Int)<j:=hc.1
 have h2:j<1073741824:=hc.2
 exact floordiv_int (by omega) (by rw[Int.fdiv_eq_ediv_of_nonneg i (by omega)];exact q) (.inl (PyProof.noPylong_small (by omega)))
theorem bU:OpR X (binaryOp .Mod) (rI (λ_ j=>0<j) λi j=>.int (i%j)):=opI λi j _ _ _ _ _ hc q=>by
 have h1:(0:Int)<j:=hc
 exact mod_int' (by omega) (by rw[Int.fmod_eq_emod_of_nonneg i (by omega)];exact q)
theorem tM:OpR X (binaryOp .Pow) (rI xK λi j=>.int (i^j.toNat)):=opI λ_ _ _ _ _ _ _ hc q=>pow_int_small hc.1 hc.2.1 hc.2.2 q
theorem unI{f:Value->Sem Value}{g:Int->Int}
 (rule:∀(i:Int)(t:Tok)(s:Shared)(Q:Value->Shared->Prop)(E:Value->Shared->Prop),Q (.int (g i) s.toks) {s with toks:=s.toks+1}->wpAny (model X.prog X.w) X.A (f (.int i t)) Q E s):
 UnR X f (rU λi=>.int (g i)):=by
 intro pins s σ H x v Q I rx h
 obtain⟨i,rfl,q⟩:=h
 obtain⟨t,rfl⟩:=rx
 exact rule i t s _ _ ⟨.int (g i),H,I.tok _,⟨_,rfl⟩,q⟩
theorem nP:UnR X (unaryOp .USub) (rU λi=>.int (-i)):=unI λ_ _ _ _ _ q=>neg_int q
end
def bt4:V->V->Bool
 |.non,.non=>true|.non,.int _=>true|.int _,.non=>true|.non,.bl _=>true|.bl _,.non=>true|.non,.str _=>true|.str _,.non=>true
 |.int _,.int _=>true|.bl _,.bl _=>true|.str _,.str _=>true|.byt _,.byt _=>true
 |.int _,.str _=>true|.str _,.int _=>true|.bl _,.str _=>true|.str _,.bl _=>true
 |_,_=>false
def rEq:R2:=λx y H Q=>bt4 x y=true/\Q (.bl (decide (x=y))) H
def rNe:R2:=λx y H Q=>bt4 x y=true/\Q (.bl (!decide (x=y))) H
theorem aj1{i j:Int}:decide (V.int i=V.int j)=(i==j):=by
 rw[Bool.eq_iff_iff]
 simp
theorem az5{i j:Bool}:decide (V.bl i=V.bl j)=(i==j):=by
 rw[Bool.eq_iff_iff]
 simp
theorem aw1{i j:Str}:decide (V.str i=V.str j)=(i==j):=by
 rw[Bool.eq_iff_iff]
 simp
theorem ab7{i j:Array UInt8}:decide (V.byt i=V.byt j)=(i.toList==j.toList):=by
 rw[Bool.eq_iff_iff]
 cases i
 cases j
 simp
section
variable {X : Cx} {a b c : Expr} {ta tb tc : TE} {pos : Pos}
theorem cZ{pins:List (Addr×Obj)}{σ:St}{H:Hp}{s:Shared}{Q:VK}{k k':Bool}(I:Inv X pins σ H s)(q:Q (.bl k) H)(e:k=k'):EP X pins σ Q (.bool k') s:=by
 subst e
 exact⟨.bl k,H,I,rfl,q⟩
theorem cs4:OpR X (compareOp .Eq) rEq:=by
 intro pins s σ H x y v u Q I rx ry h
 obtain⟨hs,q⟩:=h
 cases x with
 |non=>
  cases rx
  cases y with
  |non=>cases ry;exact PySem.EqNone.eq_none_none (cZ I q (by simp))
  |bl j=>cases ry;exact PySem.EqNone.eq_none_bool (cZ I q (by simp))
  |int j=>obtain⟨t',rfl⟩:=ry;exact PySem.EqNone.eq_none_int (cZ I q (by simp))
  |str j=>obtain⟨t',rfl⟩:=ry;exact PySem.EqNone.eq_none_str (cZ I q (by simp))
  |_=>exact absurd (show false=true from hs) Bool.false_ne_true
 |bl i=>
  cases rx
  cases y with
  |non=>cases ry;exact PySem.EqNone.eq_bool_none (cZ I q (by simp))
  |bl j=>cases ry;exact eq_bool (cZ I q az5)
  |str j=>obtain⟨t',rfl⟩:=ry;exact PySem.EqMixed.eq_bool_str (cZ I q (by simp))
  |_=>exact absurd (show false=true from hs) Bool.false_ne_true
 |int i=>
  obtain⟨t,rfl⟩:=rx
  cases y with
  |non=>cases ry;exact PySem.EqNone.eq_int_none (cZ I q (by simp))
  |int j=>obtain⟨t',rfl⟩:=ry;exact eq_int (cZ I q aj1)
  |str j=>obtain⟨t',rfl⟩:=ry;exact PySem.EqMixed.eq_int_str (cZ I q (by simp))
  |_=>exact absurd (show false=true from hs) Bool.false_ne_true
 |str i=>
  obtain⟨t,rfl⟩:=rx
  cases y with
  |non=>cases ry;exact PySem.EqNone.eq_str_none (cZ I q (by simp))
  |bl j=>cases ry;exact PySem.EqMixed.eq_str_bool (cZ I q (by simp))
  |int j=>obtain⟨t',rfl⟩:=ry;exact PySem.EqMixed.eq_str_int (cZ I q (by simp))
  |str j=>obtain⟨t',rfl⟩:=ry;exact eq_str (cZ I q aw1)
  |_=>exact absurd (show false=true from hs) Bool.false_ne_true
 |byt i=>
  obtain⟨t,rfl⟩:=rx
  cases y with
  |byt j=>obtain⟨t',rfl⟩:=ry;exact PySem.W.eq_bytes (cZ I q ab7)
  |_=>exact absurd (show false=true from hs) Bool.false_ne_true
 |_=>cases y<;>exact absurd (show false=true from hs) Bool.false_ne_true
theorem cd5:OpR X (compareOp .NotEq) rNe:=by
 intro pins s σ H x y v u Q I rx ry h
 obtain⟨hs,q⟩:=h
 cases x with
 |non=>
  cases rx
  cases y with
  |non=>cases ry;exact PySem.EqNone.ne_none_none (cZ I q (by simp))
  |bl j=>cases ry;exact PySem.EqNone.ne_none_bool (cZ I q (by simp))
  |int j=>obtain⟨t',rfl⟩:=ry;exact PySem.EqNone.ne_none_int (cZ I q (by simp))
  |str j=>obtain⟨t',rfl⟩:=ry;exact PySem.EqNone.ne_none_str (cZ I q (by simp))
  |_=>exact absurd (show false=true from hs) Bool.false_ne_true
 |bl i=>
  cases rx
  cases y with
  |non=>cases ry;exact PySem.EqNone.ne_bool_none (cZ I q (by simp))
  |bl j=>cases ry;exact ne_bool (cZ I q (congrArg not az5))
  |str j=>obtain⟨t',rfl⟩:=ry;exact PySem.EqMixed.ne_bool_str (cZ I q (by simp))
  |_=>exact absurd (show false=true from hs) Bool.false_ne_true
 |int i=>
  obtain⟨t,rfl⟩:=rx
  cases y with
  |non=>cases ry;exact PySem.EqNone.ne_int_none (cZ I q (by simp))
  |int j=>obtain⟨t',rfl⟩:=ry;exact ne_int (cZ I q (congrArg not aj1))
  |str j=>obtain⟨t',rfl⟩:=ry;exact PySem.EqMixed.ne_int_str (cZ I q (by simp))
  |_=>exact absurd (show false=true from hs) Bool.false_ne_true
 |str i=>
  obtain⟨t,rfl⟩:=rx
  cases y with
  |non=>cases ry;exact PySem.EqNone.ne_str_none (cZ I q (by simp))
  |bl j=>cases ry;exact PySem.EqMixed.ne_str_bool (cZ I q (by simp))
  |int j=>obtain⟨t',rfl⟩:=ry;exact PySem.EqMixed.ne_str_int (cZ I q (by simp))
  |str j=>obtain⟨t',rfl⟩:=ry;exact ne_str (cZ I q (congrArg not aw1))
  |_=>exact absurd (show false=true from hs) Bool.false_ne_true
 |byt i=>
  obtain⟨t,rfl⟩:=rx
  cases y with
  |byt j=>obtain⟨t',rfl⟩:=ry;exact PySem.W.ne_bytes (cZ I q (congrArg not ab7))
  |_=>exact absurd (show false=true from hs) Bool.false_ne_true
 |_=>cases y<;>exact absurd (show false=true from hs) Bool.false_ne_true
theorem cl7:OpR X (compareOp .Lt) (tI λi j=>.bl (decide (i<j))):=bm6 λ_ _ _ _ _ _ _ q=>lt_int q
theorem mU:OpR X (compareOp .LtE) (tI λi j=>.bl (decide (i<=j))):=bm6 λ_ _ _ _ _ _ _ q=>le_int q
theorem cw5:OpR X (compareOp .Gt) (tI λi j=>.bl (decide (j<i))):=bm6 λ_ _ _ _ _ _ _ q=>gt_int q
theorem bx2:OpR X (compareOp .In) (λx y H Q=>∃i j,x=.str i/\y=.str j/\Q (.bl (!(Builtin.Str.occurrences j i 0 j.length 1).isEmpty)) H):=by
 intro pins s σ H x y v u Q I rx ry h
 obtain⟨i,j,rfl,rfl,q⟩:=h
 obtain⟨t,rfl⟩:=rx
 obtain⟨t',rfl⟩:=ry
 exact in_str (cZ I q rfl)
theorem co4:OpR X (compareOp .Is) (λx y H Q=>y=.non/\Q (.bl (decide (x=.non))) H):=by
 intro pins s σ H x y v u Q I rx ry h
 obtain⟨rfl,q⟩:=h
 cases ry
 refine is_none_gen (cZ I q ?_)
 cases x<;>first
  |(cases rx;rfl)
  |(obtain⟨t,rfl⟩:=rx;rfl)
theorem cj0:OpR X (compareOp .IsNot) (λx y H Q=>y=.non/\Q (.bl (!decide (x=.non))) H):=by
 intro pins s σ H x y v u Q I rx ry h
 obtain⟨rfl,q⟩:=h
 cases ry
 refine isnot_none_gen (cZ I q ?_)
 cases x<;>first
  |(cases rx;rfl)
  |(obtain⟨t,rfl⟩:=rx;rfl)
theorem OpR.or{f:Value->Value->Sem Value}{r r':R2}(h:OpR X f r)(h':OpR X f r'):OpR X f (λx y H Q=>r x y H Q\/r' x y H Q):=by
 intro pins s σ H x y v u Q I rx ry q
 rcases q with q|q
 . exact h s σ H x y v u Q I rx ry q
 . exact h' s σ H x y v u Q I rx ry q
theorem dH(b:Expr){op:CmpOp}(h:op≠ .In:=by decide)(h2:op≠ .NotIn:=by decide):behindInMarks op b=false:=by
 have e1:(op==CmpOp.In)=false:=by cases op<;>first|rfl|exact absurd rfl h
 have e2:(op==CmpOp.NotIn)=false:=by cases op<;>first|rfl|exact absurd rfl h2
 cases b<;>simp[behindInMarks,e1,e2]
theorem qT{op:CmpOp}{r:R2}(ho:OpR X (compareOp op) r)(ha:PE X a ta)(hb:PE X b tb)(hm:behindInMarks op b=false):PE X (.Compare a [op] [b] pos) (tOp r ta tb):=by
 intro pins s σ H Q I h
 exact wpAny_Compare1 (bp5 ha hb I h λv u s2 x y H2 I2 rx ry q=>ho s2 σ H2 x y v u Q I2 rx ry q) hm
def ap8(t:TE):TT:=λσ H Q=>t σ H λx H'=>∃k,x=.bl k/\Q k H'
theorem dB{op:CmpOp}{r:R2}(ho:OpR X (compareOp op) r)(ha:PE X a ta)(hb:PE X b tb)(hm:behindInMarks op b=false):PT X (.Compare a [op] [b] pos) (ap8 (tOp r ta tb)):=by
 intro pins s σ H Q I h
 refine wpAny_isTrue_Compare1 (cE (ha s σ H _ I h) λv s1 ⟨x,H1,I1,r1,q1⟩=>cE (hb s1 σ H1 _ I1 q1) λu s2 ⟨y,H2,I2,r2,q2⟩=>
  cE (ho s2 σ H2 x y v u _ I2 r1 r2 q2) λc s3 ⟨z,H3,I3,r3,k,e,q3⟩=>?_) hm
 subst e
 cases r3
 exact wpAny_truthy_bool ⟨H3,I3,q3⟩
def ae4(r r':R2)(ta tb tc:TE):TE:=λσ H Q=>ta σ H λx H1=>tb σ H1 λy H2=>r x y H2 λz H3=>∃k,z=.bl k/\
 (if k=true then tc σ H3 λw' H4=>r' y w' H4 Q else Q (.bl false) H3)
theorem yY{op op':CmpOp}{r r':R2}(ho:OpR X (compareOp op) r)(ho':OpR X (compareOp op') r')(ha:PE X a ta)(hb:PE X b tb)(hc:PE X c tc)
 (hm:lastMarks [op,op'] [b,c]=false:=by with_unfolding_all rfl):PE X (.Compare a [op,op'] [b,c] pos) (ae4 r r' ta tb tc):=by
 intro pins s σ H Q I h
 refine Compare_chain (cE (ha s σ H _ I h) λv s1 ⟨x,H1,I1,r1,q1⟩=>chain_link (cE (hb s1 σ H1 _ I1 q1) λu s2 ⟨y,H2,I2,r2,q2⟩=>
  cE (ho s2 σ H2 x y v u _ I2 r1 r2 q2) λd s3 ⟨z,H3,I3,r3,k,e,q3⟩=>?_)) hm
 subst e
 cases r3
 refine wpAny_truthy_bool ?_
 cases k with
 |false=>exact ite_ff ⟨.bl false,H3,I3,rfl,q3⟩
 |true=>exact ite_tt (chain_last (cE (hc s3 σ H3 _ I3 q3) λw' s4 ⟨z',H4,I4,r4,q4⟩=>ho' s4 σ H4 y z' u w' Q I4 r2 r4 q4))
theorem ay3{op op':CmpOp}{r r':R2}(ho:OpR X (compareOp op) r)(ho':OpR X (compareOp op') r')(ha:PE X a ta)(hb:PE X b tb)(hc:PE X c tc)
 (hm:lastMarks [op,op'] [b,c]=false:=by with_unfolding_all rfl):PT X (.Compare a [op,op'] [b,c] pos) (ap8 (ae4 r r' ta tb tc)):=by
 intro pins s σ H Q I h
 refine isTrue_chain (cE (ha s σ H _ I h) λv s1 ⟨x,H1,I1,r1,q1⟩=>test_link (cE (hb s1 σ H1 _ I1 q1) λu s2 ⟨y,H2,I2,r2,q2⟩=>
  cE (ho s2 σ H2 x y v u _ I2 r1 r2 q2) λd s3 ⟨z,H3,I3,r3,k,e,q3⟩=>?_)) hm
 subst e
 cases r3
 refine wpAny_truthy_bool ?_
 cases k with
 |false=>
  obtain⟨k',e',q'⟩:=q3
  cases e'
  exact ite_ff ⟨H3,I3,q'⟩
 |true=>
  refine ite_tt (test_last (cE (hc s3 σ H3 _ I3 q3) λw' s4 ⟨z',H4,I4,r4,q4⟩=>cE (ho' s4 σ H4 y z' u w' _ I4 r2 r4 q4) λd' s5 ⟨z2,H5,I5,r5,k2,e2,q5⟩=>?_))
  subst e2
  cases r5
  exact wpAny_truthy_bool ⟨H5,I5,q5⟩
def ai4(K:PySem.W.Frag)(x:V)(H:Hp)(k:Bool):Prop:=
 match x with
 |.non=>k=false
 |.bl b=>k=b
 |.int i=>k=(i !=0)
 |.str y=>y.length<=sizeLine/\k=((y.length:Int) !=0)
 |.byt y=>y.size<=sizeLine/\k=((y.size:Int) !=0)
 |.ref p=>(∃xs,SqL K H p xs/\k=!xs.isEmpty)\/(∃xs,SqT K H p xs/\k=!xs.isEmpty)\/∃kvs,H p=some (.dK kvs)/\k=!kvs.isEmpty
 |_=>False
theorem ao9{κ:Type}{kvs:List (κ×V)}{vs:List (κ×Value)}(r:KV kvs vs):(!vs.isEmpty)=!kvs.isEmpty:=by
 cases r<;>rfl
theorem ak0{xs:List V}{its:List Value}(r:Vals xs its):(!its.toArray.isEmpty)=!xs.isEmpty:=by
 cases r<;>simp
theorem tK:(sizeLine:Nat)<2^63:=by rw[sizeLine_eq];decide
theorem cr2:cr8 X (λx H Q=>∃k,ai4 X.K x H k/\Q k H):=by
 intro pins s σ H x v Q I rx h
 obtain⟨k,e,q⟩:=h
 have hl:=tK
 have hs:sizeLine=16777216:=sizeLine_eq
 cases x with
 |non=>
  cases rx
  have e':k=false:=e
  subst e'
  exact truthy_none ⟨H,I,q⟩
 |bl b=>
  cases rx
  have e':k=b:=e
  subst e'
  exact wpAny_truthy_bool ⟨H,I,q⟩
 |int i=>
  obtain⟨t,rfl⟩:=rx
  have e':k=(i !=0):=e
  subst e'
  exact PySem.P.truthy_int ⟨H,I,q⟩
 |str y=>
  obtain⟨t,rfl⟩:=rx
  obtain⟨hy,e'⟩:y.length<=sizeLine/\k=((y.length:Int) !=0):=e
  subst e'
  exact PySem.P.truthy_str (by omega) ⟨H,I.tok _,q⟩
 |byt y=>
  obtain⟨t,rfl⟩:=rx
  obtain⟨hy,e'⟩:y.size<=sizeLine/\k=((y.size:Int) !=0):=e
  subst e'
  exact PySem.W.truthy_bytes (by omega) ⟨H,I.tok _,q⟩
 |ref p=>
  cases rx
  have e':(∃xs,SqL X.K H p xs/\k=!xs.isEmpty)\/(∃xs,SqT X.K H p xs/\k=!xs.isEmpty)\/∃kvs,H p=some (.dK kvs)/\k=!kvs.isEmpty:=e
  rcases e' with⟨xs,hx,e'⟩|⟨xs,hx,e'⟩|⟨kvs,hx,e'⟩
  . subst e'
    obtain⟨its,r,pl,hz⟩:=I.list hx
    have hlen:=r.length
    exact wpAny_truthy_list pl.isList (by simp only[List.size_toArray];omega) ⟨H,I.tok _,by rw[ak0 r];exact q⟩
  . subst e'
    obtain⟨its,r,pl,hz⟩:=I.tuple hx
    have hlen:=r.length
    exact truthy_tuple pl (by simp only[List.size_toArray];omega) ⟨H,I.tok _,by rw[ak0 r];exact q⟩
  . subst e'
    obtain⟨hz,hS,vs,r,m⟩:kvs.length<=sizeLine/\(p==sysModules)=false/\∃vs,KV kvs vs/\s.heap.DictOf (al1 X.prog X.w) p vs:=I.hok p _ hx
    have hlen:kvs.length=vs.length:=Paired.length r
    exact wpAny_truthy_dict hS m (by omega) ⟨H,I.tok _,by rw[ao9 r];exact q⟩
 |_=>exact(show False from e).elim
theorem bj6(ha:PE X a ta)(he:∀whole,isTrue a X.env whole=(do let v<-whole;standAt a.pos;holding [v] (truthy v))):
 PT X a (λσ H Q=>ta σ H λx H'=>∃k,ai4 X.K x H' k/\Q k H'):=by
 intro pins s σ H Q I h
 exact isTrue_plain (cE (ha s σ H _ I h) λv s1 ⟨x,H1,I1,r1,q1⟩=>cr2 s1 σ H1 x v Q I1 r1 q1) (he _)
theorem op_add_str:OpR X (binaryOp .Add) (λx y H Q=>∃i j,x=.str i/\y=.str j/\i.length+j.length<=sizeLine/\Q (.str (i++j)) H):=by
 intro pins s σ H x y v u Q I rx ry h
 obtain⟨i,j,rfl,rfl,hz,q⟩:=h
 obtain⟨t,rfl⟩:=rx
 obtain⟨t',rfl⟩:=ry
 exact add_str (λt' tk=>⟨.str (i++j),H,I.tok _,⟨_,rfl⟩,q⟩) hz
theorem ao3{x:V}{us:List Value}(r:Vals [x] us):∃u,us=[u]/\RelV x u:=by
 cases r with
 |cons r1 r2=>cases r2;exact⟨_,rfl,r1⟩
theorem az8{x y:V}{us:List Value}(r:Vals [x,y] us):∃u w',us=[u,w']/\RelV x u/\RelV y w':=by
 cases r with
 |cons r1 r2=>
  cases r2 with
  |cons r3 r4=>cases r4;exact⟨_,_,rfl,r1,r3⟩
theorem bq4:CallR X (.builtin "abs") (λxs H Q=>∃i,xs=[.int i]/\Q (.int (if i<0 then -i else i)) H):=by
 intro pins s σ H xs us Q I r h
 obtain⟨i,rfl,q⟩:=h
 obtain⟨u,rfl,t,rfl⟩:=ao3 r
 exact call_abs_int λu tk=>⟨.int (if i<0 then -i else i),H,I.tok _,⟨_,rfl⟩,q⟩
theorem bd3(hc:X.calm=true):CallR X (.builtin "max") (λxs H Q=>∃i j,xs=[.int i,.int j]/\Q (.int (if j>i then j else i)) H):=by
 intro pins s σ H xs us Q I r h
 obtain⟨i,j,rfl,q⟩:=h
 obtain⟨u,w',rfl,⟨t,rfl⟩,⟨t',rfl⟩⟩:=az8 r
 refine max_two_ints (I.ok.hd hc) λh' tk k=>⟨_,H,I.kept k,?_,q⟩
 by_cases hj:j>i
 . rw[if_pos hj,if_pos hj];exact⟨_,rfl⟩
 . rw[if_neg hj,if_neg hj];exact⟨_,rfl⟩
theorem bc1(hc:X.calm=true):CallR X (.builtin "min") (λxs H Q=>∃i j,xs=[.int i,.int j]/\Q (.int (if j<i then j else i)) H):=by
 intro pins s σ H xs us Q I r h
 obtain⟨i,j,rfl,q⟩:=h
 obtain⟨u,w',rfl,⟨t,rfl⟩,⟨t',rfl⟩⟩:=az8 r
 refine min_two_ints (I.ok.hd hc) λh' tk k=>⟨_,H,I.kept k,?_,q⟩
 by_cases hj:j<i
 . rw[if_pos hj,if_pos hj];exact⟨_,rfl⟩
 . rw[if_neg hj,if_neg hj];exact⟨_,rfl⟩
def cv0(K:PySem.W.Frag)(x:V)(H:Hp)(n:Nat):Prop:=
 match x with
 |.str y=>y.length<=sizeLine/\n=y.length
 |.byt y=>y.size<=sizeLine/\n=y.size
 |.ref p=>(∃xs,SqL K H p xs/\n=xs.length)\/∃xs,SqT K H p xs/\n=xs.length
 |_=>False
theorem bs4:CallR X (.builtin "len") (λxs H Q=>∃x n,xs=[x]/\cv0 X.K x H n/\Q (.int n) H):=by
 intro pins s σ H xs us Q I r h
 obtain⟨x,n,rfl,e,q⟩:=h
 obtain⟨u,rfl,rx⟩:=ao3 r
 have hl:=tK
 have hs:sizeLine=16777216:=sizeLine_eq
 cases x with
 |str y=>
  obtain⟨t,rfl⟩:=rx
  obtain⟨hy,e'⟩:y.length<=sizeLine/\n=y.length:=e
  subst e'
  exact len_str (by omega) ⟨.int _,H,I.tok _,⟨_,rfl⟩,q⟩
 |byt y=>
  obtain⟨t,rfl⟩:=rx
  obtain⟨hy,e'⟩:y.size<=sizeLine/\n=y.size:=e
  subst e'
  exact PySem.W.len_bytes (by omega) ⟨.int _,H,I.tok _,⟨_,rfl⟩,q⟩
 |ref p=>
  cases rx
  have e':(∃xs,SqL X.K H p xs/\n=xs.length)\/∃xs,SqT X.K H p xs/\n=xs.length:=e
  rcases e' with⟨xs,hx,e'⟩|⟨xs,hx,e'⟩
  . subst e'
    obtain⟨its,r',pl,hz⟩:=I.list hx
    have hlen:=r'.length
    exact Calls.call_len_list pl.isList (by simp only[List.size_toArray];omega) ⟨.int xs.length,H,I.tok _,⟨_,by simp only[List.size_toArray];rw[hlen]⟩,q⟩
  . subst e'
    obtain⟨its,r',pl,hz⟩:=I.tuple hx
    have hlen:=r'.length
    exact len_tuple pl (by simp only[List.size_toArray];omega) ⟨.int xs.length,H,I.tok _,⟨_,by simp only[List.size_toArray];rw[hlen]⟩,q⟩
 |_=>exact(show False from e).elim
theorem ak6:CallR X (.builtin "divmod") (λxs H Q=>∃i j,xs=[.int i,.int j]/\gF i j/\∀p,H p=none->Q (.ref p) (upd H p (.tup [.int (i/j),.int (i%j)]))):=by
 intro pins s σ H xs us Q I r h
 obtain⟨i,j,rfl,⟨h1,h2⟩,q⟩:=h
 obtain⟨u,w',rfl,⟨t,rfl⟩,⟨t',rfl⟩⟩:=az8 r
 refine divmod_int (by omega) ?_ (.inl (PyProof.noPylong_small (by omega)))
 rw[Int.fdiv_eq_ediv_of_nonneg i (by omega),Int.fmod_eq_emod_of_nonneg i (by omega)]
 have hn:H s.heap.objs.size=none:=I.hok.fresh (Nat.le_refl _)
 refine⟨.ref s.heap.objs.size,_,?_,rfl,q _ hn⟩
 refine I.laid (λb o e=>Heap.get?_push_of_some _ e) (Nat.le_refl _) ⟨by simp only[List.length_cons,List.length_nil];rw[sizeLine_eq];decide,[.int (i/j) s.toks,.int (i%j) (s.toks+1)],.cons ⟨_,rfl⟩ (.cons ⟨_,rfl⟩ .nil),?_⟩
 exact⟨_,Heap.get?_push_size s.heap rfl,rfl,0,rfl⟩
end
end L2
namespace L2
open PySem PySem.Spec PyProof.Rows
structure ObjM (h:Heap) (x dx C:Addr) (mA:Str->Option Value):Prop where
 obj:h.get? x=some (PySem.W.instObj C dx)
 ns:h.Ns1 dx mA
 ne:dx≠x
theorem ar2{h:Heap}{dx:Addr}{mA:Str->Option Value}(n:h.Ns1 dx mA):∃od,h.get? dx=some od/\∀name,PySem.W.lookIn name od=some (mA name):=by
 obtain⟨o,es,ep,ho,hd,hk,_,hm⟩:=n
 refine⟨o,ho,λname=>?_⟩
 have e:=hm name
 unfold nsFind findBy at e
 rw[<-Array.find?_toList]at e
 unfold PySem.W.lookIn
 rw[hd]
 dsimp only
 split
 . rename_i y q
   rw[q]at e
   exact congrArg some e
 . rename_i q
   rw[q]at e
   have a:es.toList.any (·.refKey)=false:=by
    rw[List.any_eq_false]
    intro y hy
    obtain⟨z,t,hkey⟩:=hk y (Array.mem_toList_iff.mp hy)
    simp[DictEntry.refKey,hkey]
   have a':¬es.toList.any (·.refKey)=true:=by rw[a];exact Bool.false_ne_true
   rw[if_neg a']
   exact congrArg some e
theorem ObjM.look{h:Heap}{x dx C:Addr}{mA:Str->Option Value}(I:ObjM h x dx C mA):∃od,PySem.W.InstAt h x (PySem.W.instObj C dx) C (some od)/\∀name,PySem.W.lookIn name od=some (mA name):=
 let⟨od,ho,hl⟩:=ar2 I.ns
 ⟨od,⟨I.obj,rfl,rfl,ho⟩,hl⟩
section
variable {prog : Program} {w : World} {A : Around} {E : Value → Shared → Prop} {s : Shared} {K : PySem.W.Frag} {x dx C f : Addr} {mA : Str → Option Value} {name : Str} {v : Value}
theorem cg0{expr:Bool}{Q:Value->Shared->Prop}(X:K.In s.heap)(I:ObjM s.heap x dx C mA)(hg:PySem.W.plainGet K C name=true)(hh:PySem.W.hasDictIn K C=true)
 (ha:PySem.W.findIn K (.ref C) name=some none)(hv:mA name=some v)(hv':PySem.W.handedIn v=true)(h:Q v {s with toks:=s.toks+1}):
 wpAny (model prog w) A (getAttr (.ref x) name expr) Q E s:=by
 obtain⟨od,J,hl⟩:=I.look
 exact PySem.W.get_value X J (PySem.W.plainGet_of hg).1 (PySem.W.findObj_own hh ha rfl (by rw[hl,hv])) hv' h
theorem bo4{pl:Sem Bool}{Q:Value×List Value->Shared->Prop}(X:K.In s.heap)(I:ObjM s.heap x dx C mA)(hg:PySem.W.plainGet K C name=true)
 (hf:PySem.W.findIn K (.ref C) name=some (some (.ref f)))(ht:PySem.W.isFn K (.ref f)=true)(hv:mA name=none)(h:Q (.ref f,[.ref x]) s):
 wpAny (model prog w) A (getMethod (.ref x) name pl) Q E s:=by
 obtain⟨od,J,hl⟩:=I.look
 exact PySem.W.method_fn X J (PySem.W.plainGet_of hg).1 (PySem.W.plainGet_of hg).2 hf (beq_iff_eq.mp ht) (by show(PySem.W.lookIn name od).map (·.isSome)=some false;rw[hl,hv];rfl) h
theorem bp8{ns:List Str}{Q:Unit->Shared->Prop}(X:K.In s.heap)(I:ObjM s.heap x dx C mA)
 (hs:PySem.W.findIn K (.ref C) "__setattr__"=some (some (.builtin "object.__setattr__")))(hp:PySem.W.plainOver K C=true)(ht:PySem.W.takerIn K C name=some none)(hh:PySem.W.hasDictIn K C=true)
 (hw:PySem.Within mA ns)(hsz:ns.length<=sizeLine)
 (h:∀h',ObjM h' x dx C (λy=>if y=name then some v else mA y)->Heap.SameBut dx s.heap h'->Q () {s with heap:=h',toks:=s.toks+2}):
 wpAny (model prog w) A (setAttr (.ref x) name v) Q E s:=by
 obtain⟨od,J,hl⟩:=I.look
 refine PySem.W.set_plain X J hs (PySem.W.osa_open (s:={s with toks:=s.toks+1}) (r:=none) X J hp ht λb=>?_)
 obtain⟨cd,hc,hd'⟩:=PySem.W.any_some hh
 have hx:s.heap.get? x=some ⟨.ref C,some dx,.plain,#[]⟩:=I.obj
 refine wpAny_bind (wpAny_pure (wpAny_bind (wpAny_bind (wpAny_loadPart hx (wpAny_bind (PySem.W.Looks.here (s:={s with toks:=s.toks+1}) (PySem.W.looks_clsIn X hc) ?_))))))
 rw[hd']
 refine wpAny_pure (a:=some dx) (wpAny_bind (wpAny_pure (wpAny_bind ?_)))
 refine wpAny_nsSet1 (s:={s with toks:=s.toks+1}) I.ns λh' hn2 hs2=>?_
 obtain⟨oD,esD,epD,hoD,hdD,hcD⟩:=hn2.count (PySem.Within.cons name v hw)
 refine wpAny_bind (wpAny_lookBehind hoD (by rw[hdD];exact pastItsLine_dict (Nat.le_trans hcD (by rw[List.length_cons];omega))) ?_)
 exact wpAny_pure (h _ ⟨(hs2.2 _ (Ne.symm I.ne)).trans I.obj,hn2,I.ne⟩ hs2)
theorem bc6{R:Result->Shared->Prop}{vs:List Value}{kw:List (Str×Value)}(X:K.In s.heap)(hm:PySem.W.makesIn K C=true)
 (hi:PySem.W.findIn K (.ref C) "__init__"=some (some (.ref f)))(hf:PySem.W.typeIn K (.ref f)=some (.type "function"))
 (h:codeAny (model prog w) (A.under (.builtin "type.__call__" ⟨.ref C::vs,kw⟩)) (.call (.ref f) ⟨.ref (s.heap.objs.size+1)::vs,kw⟩) (PySem.W.InitBack (s.heap.objs.size+1) R)
  {s with heap:=(s.heap.push PySem.W.emptyDict).push (PySem.W.instObj C s.heap.objs.size)}):
 codeAny (model prog w) A (.call (.ref C) ⟨vs,kw⟩) R s:=by
 obtain⟨hh,g,d,t,os⟩:=s
 exact PySem.W.make_core (PySem.W.makes_of X hm) (PySem.W.looks_findIn X hi) (λself=>PySem.W.bind_fn X self hf) (.inl rfl) h
end
def jT (f : Str) (v : V) : List (Str × V) → List (Str × V)
  | [] => [(f, v)]
  | (g, x) :: r => if g = f then (g, v) :: r else (g, x) :: jT f v r
theorem yO (f g : Str) (v : V) : ∀ fs : List (Str × V), (jT f v fs).lookup g = if g = f then some v else fs.lookup g
  | [] => by
    show List.lookup g [(f, v)] = _
    by_cases h : g = f
    · have hb : (g == f) = true := beq_iff_eq.mpr h
      simp only [List.lookup, hb, if_pos h]
    · have hb : (g == f) = false := beq_eq_false_iff_ne.mpr h
      simp only [List.lookup, hb, if_neg h]
  | (k, x) :: r => by
    have ih := yO f g v r
    rw [show jT f v ((k, x) :: r) = (if k = f then (k, v) :: r else (k, x) :: jT f v r) from rfl]
    by_cases hk : k = f
    · rw [if_pos hk]
      by_cases h : g = k
      · have hb : (g == k) = true := beq_iff_eq.mpr h
        simp only [List.lookup, hb, if_pos (h.trans hk)]
      · have hb : (g == k) = false := beq_eq_false_iff_ne.mpr h
        simp only [List.lookup, hb, if_neg (fun e : g = f => h (e.trans hk.symm))]
    · rw [if_neg hk]
      by_cases h : g = k
      · have hb : (g == k) = true := beq_iff_eq.mpr h
        simp only [List.lookup, hb, if_neg (fun e : g = f => hk (h.symm.trans e))]
      · have hb : (g == k) = false := beq_eq_false_iff_ne.mpr h
        simp only [List.lookup, hb]
        exact ih
theorem wT (f : Str) (v : V) : ∀ fs : List (Str × V), f ∈ (jT f v fs).map (·.1) ∧ ∀ g, g ∈ fs.map (·.1) → g ∈ (jT f v fs).map (·.1)
  | [] => ⟨by simp [jT], fun g h => by simp at h⟩
  | (k, x) :: r => by
    obtain ⟨i1, i2⟩ := wT f v r
    rw [show jT f v ((k, x) :: r) = (if k = f then (k, v) :: r else (k, x) :: jT f v r) from rfl]
    by_cases hk : k = f
    · rw [if_pos hk]
      subst hk
      exact ⟨by simp, fun g h => by simpa using h⟩
    · rw [if_neg hk]
      refine ⟨?_, fun g h => ?_⟩
      · rw [List.map_cons]
        exact List.mem_cons_of_mem _ i1
      · rw [List.map_cons] at h ⊢
        rcases List.mem_cons.mp h with e | e
        · exact List.mem_cons.mpr (.inl e)
        · exact List.mem_cons_of_mem _ (i2 g e)
theorem yL (f : Str) (v : V) : ∀ fs : List (Str × V), (jT f v fs).length ≤ fs.length + 1
  | [] => by simp [jT]
  | (k, x) :: r => by
    have ih := yL f v r
    rw [show jT f v ((k, x) :: r) = (if k = f then (k, v) :: r else (k, x) :: jT f v r) from rfl]
    by_cases hk : k = f
    · rw [if_pos hk, List.length_cons, List.length_cons]; omega
    · rw [if_neg hk, List.length_cons, List.length_cons]; omega
theorem RelO.some_of{v:V}{o:Option Value}(r:RelO (some v) o):∃u,o=some u/\RelV v u:=by
 cases o with
 |none=>exact(show False from r).elim
 |some u=>exact⟨u,rfl,r⟩
theorem RelO.none_of{o:Option Value}(r:RelO none o):o=none:=by
 cases o with
 |none=>rfl
 |some u=>exact(show False from r).elim
theorem ac2{v:V}{u:Value}(r:RelV v u):PySem.W.handedIn u=true:=by
 cases v with
 |non=>cases(show u=Value.none from r);rfl
 |bl b=>cases(show u=Value.bool b from r);rfl
 |int i=>obtain⟨t,e⟩:=(show∃t,u=Value.int i t from r);cases e;rfl
 |str x=>obtain⟨t,e⟩:=(show∃t,u=Value.str x t from r);cases e;rfl
 |byt b=>obtain⟨t,e⟩:=(show∃t,u=Value.bytes b t from r);cases e;rfl
 |flt b=>obtain⟨t,e⟩:=(show∃t,u=Value.float b t from r);cases e;rfl
 |ref a=>cases(show u=Value.ref a from r);rfl
 |ty n=>cases(show u=Value.type n from r);rfl
section
variable {P : Program} {w : World} {H H' : Hp} {h h' : Heap} {a C dx : Addr} {fs fs' : List (Str × V)}
theorem ai1(hok:HOk P w H h)(e:H a=some (.ins C dx fs)):∃mA,ObjM h a dx C mA/\(∀f,RelO (fs.lookup f) (mA f))/\PySem.Within mA (fs.map (·.1))/\fs.length<=1000/\H dx=some (.own a):=by
 obtain⟨d,z,ne,ob,mA,n,r,q⟩:=(show ObjOk P w H h a (.ins C dx fs) from hok a _ e)
 exact⟨mA,⟨ob,n,ne⟩,r,q,z,d⟩
end
structure Cls (K:PySem.W.Frag) (C:Addr):Prop where
 pg:PySem.W.plainGet K C Str.empty=true
 hd:PySem.W.hasDictIn K C=true
 po:PySem.W.plainOver K C=true
 sa:PySem.W.findIn K (.ref C) "__setattr__"=some (some (.builtin "object.__setattr__"))
theorem Cls.get{K:PySem.W.Frag}{C:Addr}(c:Cls K C)(f:Str):PySem.W.plainGet K C f=true:=c.pg
def NoAttr(K:PySem.W.Frag)(C:Addr)(f:Str):Prop:=PySem.W.findIn K (.ref C) f=some none
theorem NoAttr.taker{K:PySem.W.Frag}{C:Addr}{f:Str}(n:NoAttr K C f):PySem.W.takerIn K C f=some none:=by
 unfold PySem.W.takerIn
 rw[show PySem.W.findIn K (.ref C) f=some none from n]
 rfl
structure bq3 (K:PySem.W.Frag) (C:Addr) (m:Str) (f:Addr):Prop where
 at_:PySem.W.findIn K (.ref C) m=some (some (.ref f))
 fn:PySem.W.isFn K (.ref f)=true
 kp:PySem.W.keepIn K (.ref f)=true
section
variable {X : Cx} {pins : List (Addr × Obj)} {σ : St} {H : Hp} {s : Shared} {a C dx : Addr} {fs : List (Str × V)} {f : Str} {v : V} {A : Around} {E : Value → Shared → Prop}
theorem as9{b:Bool}{Q:Value->Shared->Prop}(I:Inv X pins σ H s)(e:H a=some (.ins C dx fs))(c:Cls X.K C)(n:NoAttr X.K C f)(l:fs.lookup f=some v)
 (h:∀u s',Inv X pins σ H s'->RelV v u->Q u s'):wpAny (model X.prog X.w) A (getAttr (.ref a) f b) Q E s:=by
 obtain⟨mA,O,r,_,_,_⟩:=ai1 I.hok e
 obtain⟨u,hu,ru⟩:=RelO.some_of (v:=v) (o:=mA f) (by rw[<-l];exact r f)
 exact cg0 I.kIn O (c.get f) c.hd n hu (ac2 ru) (h u _ (I.tok _) ru)
theorem aa9{m:Str}{g:Addr}{pl:Sem Bool}{Q:Value×List Value->Shared->Prop}(I:Inv X pins σ H s)(e:H a=some (.ins C dx fs))(c:Cls X.K C)(k:bq3 X.K C m g)(l:fs.lookup m=none)
 (h:Q (.ref g,[.ref a]) s):wpAny (model X.prog X.w) A (getMethod (.ref a) m pl) Q E s:=by
 obtain⟨mA,O,r,_,_,_⟩:=ai1 I.hok e
 have hn:mA m=none:=RelO.none_of (by rw[<-l];exact r m)
 exact bo4 I.kIn O (c.get m) k.at_ k.fn hn h
theorem aa8{y:V}{u:Value}{Q:Unit->Shared->Prop}(I:Inv X pins σ H s)(e:H a=some (.ins C dx fs))(c:Cls X.K C)(n:NoAttr X.K C f)(hl:fs.length<1000)(ry:RelV y u)
 (h:∀s',Inv X pins σ (upd H a (.ins C dx (jT f y fs))) s'->Q () s'):wpAny (model X.prog X.w) A (setAttr (.ref a) f u) Q E s:=by
 obtain⟨mA,O,r,wi,_,ho⟩:=ai1 I.hok e
 have hz:(fs.map (·.1)).length<=sizeLine:=by rw[List.length_map,sizeLine_eq];omega
 refine bp8 I.kIn O c.sa c.po n.taker c.hd wi hz λh' O' sb=>h _ ?_
 have hd:∃o,h'.get? dx=some o:=let⟨o,_,_,e',_⟩:=O'.ns;⟨o,e'⟩
 refine I.write (x:=a) (e:=dx) (by rw[e];exact True.intro) (.inr ho) (λb q hb z=>(sb.2 b hb).trans z) hd ?_
 refine⟨by rw[aY O.ne];exact ho,?_,O.ne,O'.obj,_,O'.ns,λg=>?_,λg hg=>?_⟩
 . have:=yL f y fs;omega
 . show RelO ((jT f y fs).lookup g) (if g=f then some u else mA g)
   rw[yO]
   by_cases q:g=f
   . rw[if_pos q,if_pos q];exact ry
   . rw[if_neg q,if_neg q];exact r g
 . by_cases q:g=f
   . rw[q];exact(wT f y fs).1
   . refine(wT f y fs).2 g (wi g λz=>hg ?_)
     show(if g=f then some u else mA g)=none
     rw[if_neg q];exact z
theorem Inv.made(I:Inv X pins σ H s):Inv X pins σ (upd (upd H s.heap.objs.size (.own (s.heap.objs.size+1))) (s.heap.objs.size+1) (.ins C s.heap.objs.size []))
 {s with heap:=(s.heap.push PySem.W.emptyDict).push (PySem.W.instObj C s.heap.objs.size)}:=by
 have e1:(s.heap.push PySem.W.emptyDict).get? s.heap.objs.size=some PySem.W.emptyDict:=Heap.get?_push_size s.heap rfl
 have e2:((s.heap.push PySem.W.emptyDict).push (PySem.W.instObj C s.heap.objs.size)).get? (s.heap.objs.size+1)=some (PySem.W.instObj C s.heap.objs.size):=by
  have:=Heap.get?_push_size (s.heap.push PySem.W.emptyDict) (o:=PySem.W.instObj C s.heap.objs.size) rfl
  rwa[Heap.size_push]at this
 have e3:(s.heap.push PySem.W.emptyDict).Ns s.heap.objs.size (λ_=>none):=⟨PySem.W.emptyDict,#[],_,e1,rfl,(λe he=>absurd he (by simp)),λ_=>rfl⟩
 have I1:=I.laid (a:=s.heap.objs.size) (o:=.own (s.heap.objs.size+1)) (h':=s.heap.push PySem.W.emptyDict) (t':=s.toks) (λb u q=>Heap.get?_push_of_some _ q) (Nat.le_refl _) ⟨_,e1⟩
 refine I1.laid (a:=s.heap.objs.size+1) (o:=.ins C s.heap.objs.size []) (t':=s.toks) (λb u q=>Heap.get?_push_of_some _ q) (Nat.le_of_eq (Heap.size_push _ _)) ?_
 have ne:s.heap.objs.size≠s.heap.objs.size+1:=Nat.ne_of_lt (Nat.lt_succ_self _)
 refine⟨by rw[aY ne,bZ],Nat.zero_le _,ne,e2,λ_=>none,(Heap.Ns1.of_empty e3).at λo q=>Heap.get?_push_of_some _ q,λ_=>True.intro,λy hy=>absurd rfl hy⟩
theorem aq7{prog:Program}{w:World}{env:Env}{e:Expr}{f:Str}{pos:Pos}{s:Shared}{Q:Value->Shared->Prop}(hb:attributeBase e f env (eval e env)=eval e env)
 (h:wpAny (model prog w) A (eval e env) (λo s₁=>wpAny (model prog w) A (getAttr o f true) Q E s₁) E s):wpAny (model prog w) A (eval (.Attribute e f pos) env) Q E s:=
 Attribute_any_ h (by rw[arm_eval_Attribute,hb])
end
def bn3(K:PySem.W.Frag)(ta:TE)(f:Str):TE:=λσ H Q=>ta σ H λx H1=>∃a C dx fs v,x=.ref a/\H1 a=some (.ins C dx fs)/\Cls K C/\NoAttr K C f/\fs.lookup f=some v/\Q v H1
def ba6(K:PySem.W.Frag)(ta tv:TE)(f:Str):TS:=λD σ H=>tv σ H λy H1=>ta σ H1 λx H2=>∃a C dx fs,x=.ref a/\H2 a=some (.ins C dx fs)/\Cls K C/\NoAttr K C f/\fs.length<1000/\
 D.nx σ (upd H2 a (.ins C dx (jT f y fs)))
section
variable {X : Cx} {o e value : Expr} {f : Str} {pos pos' tpos : Pos} {ta tv : TE}
theorem cx2(he:PE X e ta)(hb:attributeBase e f X.env (eval e X.env)=eval e X.env):PE X (.Attribute e f pos) (bn3 X.K ta f):=by
 intro pins s σ H Q I h
 refine aq7 hb (cE (he s σ H _ I h) λu s1 ⟨x,H1,I1,rx,a,C,dx,fs,v,ex,ea,c,n,l,q⟩=>?_)
 subst ex
 obtain rfl:u=Value.ref a:=rx
 exact as9 I1 ea c n l λu' s2 I2 ru=>⟨v,H1,I2,ru,q⟩
theorem cz3(ha:PE X o ta)(hv:PE X value tv)(hs:swapsWith value (some (.Attribute o f pos')) pos.line X.env=pure false):PS X (.Assign [.Attribute o f pos'] value pos) (ba6 X.K ta tv f):=by
 intro pins s σ H D I h
 refine plainObj_wpAny_Assign_Attribute (cE (hv s σ H _ I h) λu s1 ⟨y,H1,I1,ry,q⟩=>cE (ha s1 σ H1 _ I1 q) λov s2 ⟨x,H2,I2,rx,a,C,dx,fs,ex,ea,c,n,l,q2⟩=>?_) hs
 subst ex
 obtain rfl:ov=Value.ref a:=rx
 exact aa8 I2 ea c n l ry λs3 I3=>⟨σ,_,I3,q2⟩
end
section
variable {X : Cx} {pins : List (Addr × Obj)} {σ : St} {H : Hp} {s : Shared} {A : Around} {E : Value → Shared → Prop} {Q : Value → Shared → Prop} {c : Value} {b : Bool}
end
end L2
namespace L2
open PySem PySem.Spec PyProof.Rows
structure Room (k:Nat) (A:Around):Prop where
 hd:A.handled=none
 dp:A.depth+3*k+5<recursionLimit
 un:A.units+16*k+200<cLine
theorem Room.mono{j k:Nat}{A:Around}(r:Room k A)(h:j<=k):Room j A:=⟨r.hd,by have:=r.dp;omega,by have:=r.un;omega⟩
theorem Room.deeper{k:Nat}{A:Around}(r:Room (k+1) A)(env:Env):Room k (A.deeper env):=
 ⟨r.hd,by have:=r.dp;show A.depth+1+3*k+5<_;omega,by have:=r.un;show A.units+3+16*k+200<_;omega⟩
theorem am9{A:Around}{C:Addr}{us:List Value}{kw:List (Str×Value)}:(A.under (.builtin "type.__call__" ⟨.ref C::us,kw⟩)).depth=A.depth+1:=by
 first|rfl|simp[Around.under,Code.weight,Code.isCreation,Code.isGuard,Code.isCaller,Code.frames,Code.isFrame,guardIds]
theorem aj9{A:Around}{C:Addr}{us:List Value}{kw:List (Str×Value)}:(A.under (.builtin "type.__call__" ⟨.ref C::us,kw⟩)).units=A.units+1:=by
 first|rfl|simp[Around.under,Code.cUnits,Code.frames,Code.isFrame]
theorem Room.make{k:Nat}{A:Around}(r:Room (k+1) A)(C:Addr)(us:List Value)(kw:List (Str×Value)):Room k (A.under (.builtin "type.__call__" ⟨.ref C::us,kw⟩)):=
 ⟨r.hd,by have:=r.dp;rw[am9];omega,by have:=r.un;rw[aj9];omega⟩
theorem Room.depth{k:Nat}{A:Around}(r:Room k A):A.depth<recursionLimit:=by have:=r.dp;omega
theorem Room.units{k:Nat}{A:Around}(r:Room k A):A.units+64<cLine:=by have:=r.un;omega
def pN:TA:=λ_ H Q=>Q [] H
def jZ(ta:TE)(tr:TA):TA:=λσ H Q=>ta σ H λx H1=>tr σ H1 λxs H2=>Q (x::xs) H2
section
variable {X : Cx} {e : Expr} {es : List Expr} {te : TE} {t : TA} {pos : Pos}
theorem aK:PA X [] pN:=λ_ _ _ _ H Q I h=>Calls.spliced_nil ⟨[],H,I,.nil,h⟩
theorem aB(ha:PE X e te)(hr:PA X es t)(hs:starEach (e::es) X.env=(false,eval e X.env)::starEach es X.env:=by rfl):PA X (e::es) (jZ te t):=by
 intro pos pins s σ H Q I h
 rw[hs]
 show wpAny _ _ (spliced ((false,eval e X.env)::backTo pos (starEach es X.env))) _ _ s
 refine Calls.spliced_cons (cE (ha s σ H _ I h) λu s1 ⟨x,H1,I1,r1,q1⟩=>?_)
 exact cE (hr pins s1 σ H1 _ I1 q1) λus s2 ⟨xs,H2,I2,r2,q2⟩=>⟨x::xs,H2,I2,.cons r1 r2,q2⟩
def co3(t:TA):TE:=λσ H Q=>t σ H λxs H1=>xs.length<=sizeLine/\∀p,H1 p=none->Q (.ref p) (upd H1 p (.tup xs))
def by4(t:TA):TE:=λσ H Q=>t σ H λxs H1=>xs.length<=sizeLine/\∀p,H1 p=none->Q (.ref p) (upd H1 p (.lst xs))
theorem wC{x1}(h:PA X es t):PE X (.Tuple es x1 pos) (co3 t):=by
 intro pins s σ H Q I hq
 refine wpAny_Tuple_spliced (cE (h pins s σ H _ I hq) λus s1 ⟨xs,H1,I1,r,z,q⟩=>⟨by rw[<-r.length];exact z,?_⟩)
 have hf:H1 s1.heap.objs.size=none:=I1.hok.fresh (Nat.le_refl _)
 refine⟨.ref s1.heap.objs.size,upd H1 s1.heap.objs.size (.tup xs),I1.laid (t':=s1.toks) (λb u e=>Heap.get?_push_of_some _ e) (Nat.le_refl _) ?_,rfl,q _ hf⟩
 exact⟨z,us,r,⟨_,Heap.get?_push_size _ rfl,rfl,_,rfl⟩⟩
theorem bF(h:PA X es t):PE X (.List es pos) (by4 t):=by
 intro pins s σ H Q I hq
 refine wpAny_List_spliced (cE (h pins s σ H _ I hq) λus s1 ⟨xs,H1,I1,r,z,q⟩=>⟨by rw[<-r.length];exact z,?_⟩)
 have hf:H1 s1.heap.objs.size=none:=I1.hok.fresh (Nat.le_refl _)
 refine⟨.ref s1.heap.objs.size,upd H1 s1.heap.objs.size (.lst xs),I1.laid (t':=s1.toks) (λb u e=>Heap.get?_push_of_some _ e) (Nat.le_refl _) ?_,rfl,q _ hf⟩
 exact⟨z,us,0,r,Heap.get?_push_size _ rfl⟩
end
abbrev Sp:=List V->Hp->VK->XK->Prop
abbrev qY:=List Env->Hp->Shared->XK->Value->Shared->Prop
structure Env0 (P:Program) (w:World) (K:PySem.W.Frag) (mg:Str->Option Value) (base:Heap) (A:Around) (outer:List Env) (s:Shared) (H:Hp):Prop where
 frames:A.frames=some outer
 mod:Mod K mg base
 bs:∀b o,base.get? b=some o->s.heap.get? b=some o/\H b=none
 bsz:base.objs.size<=s.heap.objs.size
 funs:s.heap.FunFrames base outer
 frf:∀b∈lY outer,H b=none
 hok:HOk P w H s.heap
 bare:AllBare s.gens
def CE(outer:List Env)(P:Program)(w:World)(H:Hp)(s:Shared)(Q:VK)(u:Value)(s':Shared):Prop:=
 ∃v H',s'.os=s.os/\AllBare s'.gens/\Un (lY outer) [] H H' s.heap s'.heap/\HOk P w H' s'.heap/\RelV v u/\Q v H'
def CR(CX:qY)(outer:List Env)(P:Program)(w:World)(H:Hp)(s:Shared)(Q:VK)(E:XK)(r:Result)(s':Shared):Prop:=
 match r with
 |.ok (.ret u)=>CE outer P w H s Q u s'
 |.ok _=>False
 |.error e=>CX outer H s E e s'
structure FnOk (P:Program) (w:World) (K:PySem.W.Frag) (mg:Str->Option Value) (base:Heap) (CX:qY) (k:Nat) (f:Addr) (fd:FuncData) (ps:List Str) (sp:Sp):Prop where
 len:∀vs H Q E,sp vs H Q E->vs.length=ps.length
 run:∀(A:Around)(outer:List Env)(s:Shared)(H:Hp)(args:Args)(us:List Value)(vs:List V)(Q:VK)(E:XK),Room k A->Env0 P w K mg base A outer s H->BindsTo s fd args (ps.zip us)->Vals vs us->sp vs H Q E->
  codeAny (model P w) A (.call (.ref f) args) (CR CX outer P w H s Q E) s
theorem FnOk.mono{P:Program}{w:World}{K:PySem.W.Frag}{mg:Str->Option Value}{base:Heap}{CX:qY}{j k:Nat}{f:Addr}{fd:FuncData}{ps:List Str}{sp:Sp}(F:FnOk P w K mg base CX j f fd ps sp)(h:j<=k):
 FnOk P w K mg base CX k f fd ps sp:=⟨F.len,λA outer s H args us vs Q E hr=>F.run A outer s H args us vs Q E (hr.mono h)⟩
theorem FnOk.imp{P:Program}{w:World}{K:PySem.W.Frag}{mg:Str->Option Value}{base:Heap}{CX:qY}{k:Nat}{f:Addr}{fd:FuncData}{ps:List Str}{sp sp':Sp}(F:FnOk P w K mg base CX k f fd ps sp)
 (h:∀vs H Q E,sp' vs H Q E->sp vs H Q E):FnOk P w K mg base CX k f fd ps sp':=
 ⟨λvs H Q E q=>F.len vs H Q E (h _ _ _ _ q),λA outer s H args us vs Q E hr he hb hv hs=>F.run A outer s H args us vs Q E hr he hb hv (h _ _ _ _ hs)⟩
theorem Env0.make {P : Program} {w : World} {K : PySem.W.Frag} {mg : Str → Option Value} {base : Heap} {A : Around} {outer : List Env} {s : Shared} {H : Hp} (e : Env0 P w K mg base A outer s H) (C : Addr) (us : List Value) (kw : List (Str × Value)) :
    Env0 P w K mg base (A.under (.builtin "type.__call__" ⟨.ref C :: us, kw⟩)) outer s H := ⟨by first | exact e.frames | (simpa [Around.under, Code.envs, Code.isFrame, pushEnvs] using e.frames), e.mod, e.bs, e.bsz, e.funs, e.frf, e.hok, e.bare⟩
section
variable {X : Cx} {pins : List (Addr × Obj)} {σ : St} {H : Hp} {s s' : Shared}
theorem Inv.env0(I:Inv X pins σ H s):Env0 X.prog X.w X.K X.mg X.base X.A X.stack s H:=
 ⟨I.ok.frames,I.ok.mod,I.bs,Nat.le_trans I.ok.bsz I.sz,I.stack,I.stkFree,I.hok,I.bare⟩
theorem Inv.after{Q:VK}{u:Value}(I:Inv X pins σ H s)(h:CE X.stack X.prog X.w H s Q u s'):EP X pins σ Q u s':=by
 obtain⟨v,H',os,bare,un,hok,r,q⟩:=h
 obtain⟨hh,g,d,t,os'⟩:=s'
 obtain rfl:os'=s.os:=os
 exact⟨v,H',I.call (h':=hh) (g':=g) (d':=d) (t':=t) (ch:=[]) un hok bare (λb z=>absurd z (by simp)),r,q⟩
end
def cp5(sp:Sp)(dvs:List V)(E:XK)(t:TA):TE:=λσ H Q=>t σ H λvs H1=>sp (vs++dvs) H1 Q E
def al3(C:Addr)(sp:Sp)(dvs:List V)(E:XK)(t:TA):TE:=λσ H Q=>t σ H λvs H1=>∀x dx,H1 x=none->H1 dx=none->dx≠x->
 sp (.ref x::(vs++dvs)) (upd (upd H1 dx (.own x)) x (.ins C dx [])) (λv H2=>v=.non/\Q (.ref x) H2) E
def Binds(K:PySem.W.Frag)(fd:FuncData)(ps:List Str)(ds:List Value):Prop:=
 ∀(s:Shared)(us:List Value),K.In s.heap->(us++ds).length=ps.length->BindsTo s fd ⟨us,[]⟩ (ps.zip (us++ds))
theorem Binds.all{K:PySem.W.Frag}{fd:FuncData}{ps:List Str}(h:∀us:List Value,us.length=ps.length->bindArgs fd ⟨us,[]⟩=pure (ps.zip us)):Binds K fd ps []:=λs us _ hl=>by
 rw[List.append_nil]at hl⊢
 exact .of_eq (h us hl)
def pF(CX:qY)(X:Cx)(E:XK):Prop:=∀(pins:List (Addr×Obj))(σ:St)(H:Hp)(s:Shared)(e:Value)(s':Shared),Inv X pins σ H s->CX X.stack H s E e s'->X.xe e s'
section
variable {X : Cx} {CX : qY} {k : Nat} {f C : Addr} {fd : FuncData} {ps : List Str} {sp : Sp} {dvs : List V} {ds : List Value} {E : XK} {x m : Str} {p pos apos : Pos} {e o : Expr} {es : List Expr} {ta : TE} {t : TA}
theorem bi0{pins:List (Addr×Obj)}{σ:St}{H:Hp}{s:Shared}{Q:VK}{us:List Value}{vs:List V}(F:FnOk X.prog X.w X.K X.mg X.base CX k f fd ps sp)(hr:Room k X.A)(hb:Binds X.K fd ps ds)(hd:Vals dvs ds)(hx:pF CX X E)
 (I:Inv X pins σ H s)(r:Vals vs us)(h:sp (vs++dvs) H Q E):wpAny (model X.prog X.w) X.A (call (.ref f) us) (EP X pins σ Q) X.xe s:=by
 have r2:Vals (vs++dvs) (us++ds):=r.append hd
 have hl:(us++ds).length=ps.length:=by rw[<-r2.length];exact F.len _ _ _ _ h
 refine wpAny_call (codeAny_mono (F.run X.A X.stack s H ⟨us,[]⟩ (us++ds) (vs++dvs) Q E hr I.env0 (hb s us I.kIn hl) r2 h) λr s' hq=>?_)
 cases r with
 |error e=>exact hx pins σ H s e s' I hq
 |ok fl=>
  cases fl with
  |ret u=>exact I.after hq
  |next=>exact False.elim hq
  |brk=>exact False.elim hq
  |cont=>exact False.elim hq
theorem be8(F:FnOk X.prog X.w X.K X.mg X.base CX k f fd ps sp)(hr:Room k X.A)(hg:Gl X x)(hm:X.mg x=some (.ref f))(hk:PySem.W.keepIn X.K (.ref f)=true)(hb:Binds X.K fd ps ds)(hd:Vals dvs ds)(hx:pF CX X E)
 (ha:PA X (e::es) t)(hdb:(x==("__debug__":Str))=false:=by decide)(he:starEach (e::es) X.env=(false,eval e X.env)::starEach es X.env:=by rfl)(hpl:(backTo pos (starEach es X.env)).any (·.1)=false:=by rfl):
 PE X (.Call (.Name x p) (e::es) [] pos) (cp5 sp dvs E t):=by
 intro pins s σ H Q I h
 refine wpAny_Call_Name_kw (qS I hg hm ?_ hdb)
 refine PySem.W.callWith_K (h₀:=X.base) I.ok.mod.kin hk (cE (ha pins s σ H _ I h) λus s1 ⟨vs,H1,I1,r,q⟩=>⟨I1.kIn,?_⟩) he hpl
 exact bi0 F hr hb hd hx I1 r q
structure Mk (K:PySem.W.Frag) (C f:Addr):Prop where
 makes:PySem.W.makesIn K C=true
 init:PySem.W.findIn K (.ref C) "__init__"=some (some (.ref f))
 fn:PySem.W.isFn K (.ref f)=true
 kp:PySem.W.keepIn K (.ref C)=true
theorem bf5{pins:List (Addr×Obj)}{σ:St}{H:Hp}{s:Shared}{Q:VK}{us:List Value}{vs:List V}(M:Mk X.K C f)(F:FnOk X.prog X.w X.K X.mg X.base CX k f fd ps sp)(hr:Room (k+1) X.A)(hb:Binds X.K fd ps ds)(hd:Vals dvs ds)
 (hx:pF CX X E)(I:Inv X pins σ H s)(r:Vals vs us)
 (h:∀x dx,H x=none->H dx=none->dx≠x->sp (.ref x::(vs++dvs)) (upd (upd H dx (.own x)) x (.ins C dx [])) (λv H2=>v=.non/\Q (.ref x) H2) E):
 wpAny (model X.prog X.w) X.A (call (.ref C) us) (EP X pins σ Q) X.xe s:=by
 have hq:=h (s.heap.objs.size+1) s.heap.objs.size (I.hok.fresh (Nat.le_succ _)) (I.hok.fresh (Nat.le_refl _)) (Nat.ne_of_lt (Nat.lt_succ_self _))
 have I2:=Inv.made (C:=C) I
 have r2:Vals (V.ref (s.heap.objs.size+1)::(vs++dvs)) (Value.ref (s.heap.objs.size+1)::(us++ds)):=.cons rfl (r.append hd)
 have hl:(Value.ref (s.heap.objs.size+1)::us++ds).length=ps.length:=by
  have e:=r2.length
  rw[F.len _ _ _ _ hq]at e
  exact e.symm
 refine wpAny_call (bc6 (f:=f) I.kIn M.makes M.init (beq_iff_eq.mp M.fn) (codeAny_mono (F.run _ X.stack _ _ ⟨Value.ref (s.heap.objs.size+1)::us,[]⟩ (Value.ref (s.heap.objs.size+1)::(us++ds)) _ _ E (hr.make C us [])
  (I2.env0.make C us []) (hb _ (Value.ref (s.heap.objs.size+1)::us) I2.kIn hl) r2 hq) λr s' hq'=>?_))
 cases r with
 |error e=>exact hx pins σ _ _ e s' I2 hq'
 |ok fl=>
  cases fl with
  |ret u=>
   obtain⟨v,H',I3,rv,ev,q3⟩:=I2.after hq'
   subst ev
   exact⟨rv,⟨V.ref (s.heap.objs.size+1),H',I3,rfl,q3⟩⟩
  |next=>exact False.elim hq'
  |brk=>exact False.elim hq'
  |cont=>exact False.elim hq'
theorem cm0(M:Mk X.K C f)(F:FnOk X.prog X.w X.K X.mg X.base CX k f fd ps sp)(hr:Room (k+1) X.A)(hg:Gl X x)(hm:X.mg x=some (.ref C))(hb:Binds X.K fd ps ds)(hd:Vals dvs ds)(hx:pF CX X E)
 (ha:PA X (e::es) t)(hdb:(x==("__debug__":Str))=false:=by decide)(he:starEach (e::es) X.env=(false,eval e X.env)::starEach es X.env:=by rfl)(hpl:(backTo pos (starEach es X.env)).any (·.1)=false:=by rfl):
 PE X (.Call (.Name x p) (e::es) [] pos) (al3 C sp dvs E t):=by
 intro pins s σ H Q I h
 refine wpAny_Call_Name_kw (qS I hg hm ?_ hdb)
 refine PySem.W.callWith_K (h₀:=X.base) I.ok.mod.kin M.kp (cE (ha pins s σ H _ I h) λus s1 ⟨vs,H1,I1,r,q⟩=>⟨I1.kIn,?_⟩) he hpl
 exact bf5 M F hr hb hd hx I1 r q
end
section
variable {X : Cx} {CX : qY} {k : Nat} {f C : Addr} {fd : FuncData} {ps ks : List Str} {sp : Sp} {E : XK} {x m : Str} {p pos apos kpos : Pos} {e o : Expr} {es : List Expr} {kws : List Keyword} {te ta : TE} {t tk : TA} {nm : Option Str}
variable {g : List Value → List Value → List Value} {gV : List V → List V → List V}
end
structure bL (N P:List Str) (sc:Scope):Prop where
 kind:sc.kind=.function
 co:sc.isCoroutine=false
 gen:sc.isGenerator=false
 nd:N.Nodup
 pre:N.take P.length=P
 par:∀x∈P,sc.names.lookup x=some .local\/sc.names.lookup x=some .cell
 nofree:∀y∈sc.names,y.2≠ .free
theorem ao2 {kindOf : Str → Option NameKind} {x : Str} : ∀ {binds : List (Str × Value)} {m : Str → Option Value}, (∀ v, (x, v) ∉ binds) → bindL kindOf binds m x = m x
  | [], _, _ => rfl
  | (n, v) :: r, m, h => by
    unfold bindL
    rw [ao2 fun w hw => h w (List.mem_cons_of_mem _ hw)]
    split
    · have : x ≠ n := by rintro rfl; exact h v List.mem_cons_self
      simp [this]
    · rfl
theorem an2 {kindOf : Str → Option NameKind} {x : Str} : ∀ {binds : List (Str × Value)} {m : Str → Option Value}, (∀ v, (x, v) ∉ binds) → bindC kindOf binds m x = m x
  | [], _, _ => rfl
  | (n, v) :: r, m, h => by
    unfold bindC
    rw [an2 fun w hw => h w (List.mem_cons_of_mem _ hw)]
    split
    · rfl
    · have : x ≠ n := by rintro rfl; exact h v List.mem_cons_self
      simp [this]
theorem av2{kindOf:Str->Option NameKind}{x:Str}{v:Value}:∀{P:List Str}{vs:List Value}{i:Nat}{m:Str->Option Value},P.Nodup->P[i]?=some x->vs[i]?=some v->kindOf x=some .local->
 bindL kindOf (P.zip vs) m x=some v
 |[],_,_,_,_,h,_,_=>by simp at h
 |_::_,[],_,_,_,_,h,_=>by simp at h
 |p::P,w::vs,0,m,nd,h1,h2,hk=>by
  simp at h1 h2;subst h1;subst h2
  show bindL kindOf ((p,w)::P.zip vs) m p=_
  unfold bindL
  rw[ao2 λv hv=>(List.nodup_cons.mp nd).1 (List.of_mem_zip hv).1,if_pos hk]
  simp
 |p::P,w::vs,i+1,m,nd,h1,h2,hk=>by
  show bindL kindOf ((p,w)::P.zip vs) m x=_
  unfold bindL
  exact av2 (i:=i) (List.nodup_cons.mp nd).2 (by simpa using h1) (by simpa using h2) hk
theorem au2{kindOf:Str->Option NameKind}{x:Str}{v:Value}:∀{P:List Str}{vs:List Value}{i:Nat}{m:Str->Option Value},P.Nodup->P[i]?=some x->vs[i]?=some v->kindOf x≠some .local->
 bindC kindOf (P.zip vs) m x=some v
 |[],_,_,_,_,h,_,_=>by simp at h
 |_::_,[],_,_,_,_,h,_=>by simp at h
 |p::P,w::vs,0,m,nd,h1,h2,hk=>by
  simp at h1 h2;subst h1;subst h2
  show bindC kindOf ((p,w)::P.zip vs) m p=_
  unfold bindC
  rw[an2 λv hv=>(List.nodup_cons.mp nd).1 (List.of_mem_zip hv).1,if_neg hk]
  simp
 |p::P,w::vs,i+1,m,nd,h1,h2,hk=>by
  show bindC kindOf ((p,w)::P.zip vs) m x=_
  unfold bindC
  exact au2 (i:=i) (List.nodup_cons.mp nd).2 (by simpa using h1) (by simpa using h2) hk
def fV(N:List Str)(vs:List V):St:=vs.map some++List.replicate (N.length-vs.length) none
def kB(CX:qY)(P:Program)(w:World)(K:PySem.W.Frag)(mg:Str->Option Value)(base:Heap)(N:List Str)(qual:Str)(scope:Scope)(f:Addr)(cd:Value)(A:Around)(outer:List Env)(s:Shared)(H:Hp)(E:XK):Cx where
 prog:=P
 w:=w
 K:=K
 mg:=mg
 base:=base
 A:=A.deeper (envOfC qual scope s.heap.objs.size f cd)
 N:=N
 s₀:=s
 H₀:=H
 env:=envOfC qual scope s.heap.objs.size f cd
 outer:=outer
 stack:=envOfC qual scope s.heap.objs.size f cd::outer
 ex:=[]
 calm:=true
 fn:=λ_=>true
 pn:=[]
 xe:=λe s'=>wpAny (model P w) (A.deeper (envOfC qual scope s.heap.objs.size f cd)) (leaving (envOfC qual scope s.heap.objs.size f cd) e) (λ_ s''=>CX outer H s E e s'') (λe' s''=>CX outer H s E e' s'') s'
theorem au4{sc:Scope}{n:Nat}{x:Str}(h:sc.names.lookup x=some .cell):∃c,(cellsFrom n sc.names []).lookup x=some c:=by
 have q:=PySem.W.cellsFrom_some sc.names n [] (.inl h)
 exact Option.isSome_iff_exists.mp q
theorem bs2{CX:qY}{P:Program}{w:World}{K:PySem.W.Frag}{mg:Str->Option Value}{base:Heap}{N ps:List Str}{qual:Str}{scope:Scope}{f:Addr}{cd:Value}{A:Around}{outer:List Env}{s s1:Shared}{H:Hp}{E:XK}{us:List Value}{vs:List V}
 (S:bL N ps scope)(hd:A.handled=none)(e0:Env0 P w K mg base A outer s H)(hl:vs.length=ps.length)(r:Vals vs us)
 (x:InCallC s s.heap.objs.size (bindL (envOfC qual scope s.heap.objs.size f cd).kindOf (ps.zip us) λ_=>none) (cellsFrom (s.heap.objs.size+1) scope.names []) (bindC (envOfC qual scope s.heap.objs.size f cd).kindOf (ps.zip us) λ_=>none) s1):
 Inv (kB CX P w K mg base N qual scope f cd A outer s H E) [] (fV N vs) H s1:=by
 have hpl:ps.length<=N.length:=by have:=congrArg List.length S.pre;rw[List.length_take]at this;omega
 obtain⟨h1,tk,rfl,hk⟩:=x.done
 have noA:∀b:Addr,b∉(kB CX P w K mg base N qual scope f cd A outer s H E).ex:=λb z=>absurd (show b∈([]:List Addr) from z) (by simp)
 refine⟨⟨e0.mod,S.kind,rfl,rfl,Nat.le_refl _,λy z c h1 h2=>?_,λy hy=>?_,λy c _ h=>?_,λ_=>hd,Around.frames_deeper e0.frames,.inr ⟨rfl,rfl⟩,λb z=>absurd z (noA b),e0.bs,e0.bsz,λb _ _=>noA b,λb z=>absurd z (noA b),e0.funs,e0.frf⟩,
  rfl,e0.bare,Un.kept hk,⟨_,x.toInCall.ns,λi y v h1 h2 h3=>?_⟩,λy c h=>⟨_,x.cell y c h⟩,e0.hok.fresh (Nat.le_refl _),λy c h=>?_,λp hp=>absurd (show p∈([]:List (Addr×Obj)) from hp) (by simp),e0.hok.kept hk,?_⟩
 . exact name_of_addr x.apart (PySem.mem_of_lookup h1) (PySem.mem_of_lookup h2)
 . have hy:scope.names.lookup y=some .cell\/scope.names.lookup y=some .free:=hy
   rcases hy with hy|hy
   . exact au4 hy
   . exact absurd rfl (S.nofree _ (PySem.mem_of_lookup hy))
 . exact Nat.le_of_lt (x.above y c (PySem.mem_of_lookup h))
 . have hi:i<vs.length:=by
    unfold fV at h2
    by_cases hi:i<vs.length
    . exact hi
    . rw[List.getElem?_append_right (by simpa using hi)]at h2
      rw[List.getElem?_replicate]at h2
      split at h2<;>cases h2
   have ha:vs[i]?=some v:=by
    unfold fV at h2
    rw[List.getElem?_append_left (by simpa using hi),List.getElem?_map]at h2
    cases e:vs[i]? with
    |none=>rw[e]at h2;cases h2
    |some a=>rw[e]at h2;cases h2;rfl
   obtain⟨u,hu,rv⟩:=r.get ha
   have hp:ps[i]?=some y:=by
    rw[<-S.pre,List.getElem?_take_of_lt (by omega)];exact h1
   have ndP:ps.Nodup:=by rw[<-S.pre];exact S.nd.sublist (List.take_sublist _ _)
   refine⟨u,rv,?_⟩
   rcases S.par y (List.mem_of_getElem? hp)with k|k
   . exact .inl ⟨k,av2 ndP hp hu k⟩
   . obtain⟨c,e⟩:=au4 (n:=s.heap.objs.size+1) k
     refine .inr ⟨.inl k,c,e,?_⟩
     have q:=x.cell y c e
     rw[au2 ndP hp hu (by show scope.names.lookup y≠_;rw[k];decide)]at q
     exact q
 . exact e0.hok.fresh (Nat.le_of_lt (x.above y c (PySem.mem_of_lookup h)))
 . unfold fV
   show _=N.length
   rw[List.length_append,List.length_map,List.length_replicate]
   omega
theorem br7{CX:qY}{P:Program}{w:World}{K:PySem.W.Frag}{mg:Str->Option Value}{base:Heap}{k:Nat}{f:Addr}{name qual:Str}{params:Arguments}{body:List Stmt}{scope:Scope}{dV kV doc pm cdv ct oc:Value}{an od:Option Addr}
 {osl:Array (Option Value)}{N ps:List Str}{sp:Sp}(lk:K.lookup f=some ⟨oc,od,.func (PySem.W.fnOf name qual params body scope dV kV doc pm an cdv ct),osl⟩)(hcd:PySem.W.codeIn K cdv qual=true)(S:bL N ps scope)
 (len:∀vs H Q E,sp vs H Q E->vs.length=ps.length)
 (hbody:∀(A:Around)(outer:List Env)(s:Shared)(H:Hp)(vs:List V)(Q:VK)(E:XK),Room k (A.deeper (envOfC qual scope s.heap.objs.size f cdv))->sp vs H Q E->
  ∃t,PSs (kB CX P w K mg base N qual scope f cdv A outer s H E) body t/\t {nx:=λ_ H'=>Q .non H',rt:=Q} (fV N vs) H):
 FnOk P w K mg base CX (k+1) f (PySem.W.fnOf name qual params body scope dV kV doc pm an cdv ct) ps sp:=by
 refine⟨len,λA outer s H args us vs Q E hr e0 hb r hsp=>?_⟩
 have hl:=len _ _ _ _ hsp
 have KX:K.In s.heap:=e0.mod.kin.keeps λb o e=>(e0.bs b o e).1
 have lim:s.heap.NoLimit:=e0.mod.nolimit.keeps λb o e=>(e0.bs b o e).1
 have hkind:∀y∈ps.zip us,scope.names.lookup y.1=some .local\/(scope.names.lookup y.1=some .cell/\((cellsFrom (s.heap.objs.size+1) scope.names []).lookup y.1).isSome=true):=λ⟨n,v⟩ hy=>by
  rcases S.par n (List.of_mem_zip hy).1 with q|q
  . exact .inl q
  . exact .inr ⟨q,PySem.W.cellsFrom_some _ _ _ (.inl q)⟩
 refine codeAny_call_function hr.depth (KX _ _ lk) rfl S.co S.gen rfl (PySem.W.codeRec_of KX hcd) (hb _ _ _ _ ?_)
 refine wpAny_newFunctionEnv_cells S.kind hkind λenv he s1 x=>?_
 subst he
 refine⟨lim.keeps x.toInCall.keep,codeAny_func ?_⟩
 obtain⟨t,ht,hq⟩:=hbody A outer s H vs Q E (hr.deeper _) hsp
 have I:Inv (kB CX P w K mg base N qual scope f cdv A outer s H E) [] (fV N vs) H s1:=bs2 S hr.hd e0 hl r x
 refine wpAny_mono (ht s1 (fV N vs) H _ I hq) (λfl s' hs=>?_) λe s' hs=>hs
 have cL:∀{σ':St}{H':Hp}{v:V}{u:Value},Inv (kB CX P w K mg base N qual scope f cdv A outer s H E) [] σ' H' s'->RelV v u->Q v H'->CE outer P w H s Q u s':=
  λ{σ' H' v u} J rv q=>⟨v,H',J.os,J.bare,J.base,J.hok,rv,q⟩
 cases fl with
 |ret u=>
  obtain⟨v,σ',H',J,rv,q⟩:=hs
  exact cL J rv q
 |next=>
  obtain⟨σ',H',J,q⟩:=hs
  exact cL (v:=V.non) (u:=Value.none) J rfl q
 |brk=>
  obtain⟨_,_,_,q⟩:=hs
  exact False.elim q
 |cont=>
  obtain⟨_,_,_,q⟩:=hs
  exact False.elim q
end L2
namespace L2
open PySem PySem.Spec PyProof.Rows
section
variable {X : Cx} {x : Str} {p pos : Pos} {e : Expr} {es : List Expr} {t : TA} {id T : String} {r : List V → Hp → VK → Prop}
def tCB(r:List V->Hp->VK->Prop)(t:TA):TE:=λσ H Q=>t σ H λvs H1=>r vs H1 Q
theorem bD(hc:CallR X (.builtin id) r)(hg:Gl X x)(hm:X.mg x=none)(hv:bootBuiltins x=some (.builtin id))(ha:PA X (e::es) t)(hn:x≠"__name__":=by decide)(hdb:(x==("__debug__":Str))=false:=by decide)
 (he:starEach (e::es) X.env=(false,eval e X.env)::starEach es X.env:=by rfl)(hpl:(backTo pos (starEach es X.env)).any (·.1)=false:=by rfl):PE X (.Call (.Name x p) (e::es) [] pos) (tCB r t):=by
 intro pins s σ H Q I h
 refine wpAny_Call_Name_kw (rL I hg hm hv ?_ hn hdb)
 exact PyProof.Rows.callWith_builtin1 (cE (ha pins s σ H _ I h) λus s1 ⟨vs,H1,I1,r1,q1⟩=>hc s1 σ H1 vs us Q I1 r1 q1) he hpl
theorem gX(hc:CallR X (.type T) r)(hg:Gl X x)(hm:X.mg x=none)(hv:bootBuiltins x=some (.type T))(ha:PA X (e::es) t)(hn:x≠"__name__":=by decide)(hdb:(x==("__debug__":Str))=false:=by decide)
 (he:starEach (e::es) X.env=(false,eval e X.env)::starEach es X.env:=by rfl)(hpl:(backTo pos (starEach es X.env)).any (·.1)=false:=by rfl):PE X (.Call (.Name x p) (e::es) [] pos) (tCB r t):=by
 intro pins s σ H Q I h
 refine wpAny_Call_Name_kw (rL I hg hm hv ?_ hn hdb)
 exact PyProof.Rows.callWith_type1 (cE (ha pins s σ H _ I h) λus s1 ⟨vs,H1,I1,r1,q1⟩=>hc s1 σ H1 vs us Q I1 r1 q1) he hpl
end
end L2
namespace HT
open PySem PyProof.Rows
section
open PySem.SeqAt
open PySem.AutoSeq1 (wpAny_loadPart')
open PySem.MeetsSeq PySem.MeetsSeq2 PySem.MeetsSeq3
end
section
variable {prog : Program} {w : World} {A : Around} {E : Value → Shared → Prop} {s : Shared}
theorem cat_tup{t b:Addr}{vs ws:List Value}{Q:Value->Shared->Prop}(ht:IsTup s.heap t vs.toArray)(hb:IsTup s.heap b ws.toArray)(hv:vs≠[])
 (h1:ws=[]->Q (.ref t) s)(h2:ws≠[]->Q (.ref s.heap.objs.size) {s with heap:=s.heap.push {cls:=.type "tuple",data:=.seq (vs++ws).toArray}})
 (hsz:vs.length+ws.length<=sizeLine):wpAny (model prog w) A (binaryOp .Add (.ref t) (.ref b)) Q E s:=by
 obtain⟨⟨cls,dd,data,sl⟩,ho,hc,n,hd⟩:=id ht
 obtain⟨⟨cls2,dd2,data2,sl2⟩,ho2,hc2,n2,hd2⟩:=id hb
 simp only at hc hd hc2 hd2
 subst hc hd hc2 hd2
 have e:vs.toArray++ws.toArray=(vs++ws).toArray:=by simp
 by_cases hw:ws=[]
 . exact concat_meets ⟨_,ho,rfl⟩ ⟨_,ho2,rfl⟩ noFill_tuple_add seq_tuple_add PySem.F.slot_tuple_add PySem.F.entry_tuple_add (PySem.F.args_tuple_add_2 _ _)
    (tuple_addW1 t b vs.toArray ws.toArray n n2 dd dd2 sl sl2 (by simpa using hv) (by simp[hw])) ⟨ho,ho2,h1 hw⟩
 . refine concat_meets ⟨_,ho,rfl⟩ ⟨_,ho2,rfl⟩ noFill_tuple_add seq_tuple_add PySem.F.slot_tuple_add PySem.F.entry_tuple_add (PySem.F.args_tuple_add_2 _ _)
    (tuple_addW2 t b vs.toArray ws.toArray n n2 dd dd2 sl sl2 (by simpa using hv) (by simpa using hw) (by rw[List.size_toArray,List.size_toArray];exact hsz)) ⟨ho,ho2,?_⟩
   rw[e]
   exact h2 hw
def sIx(n d:Nat):Option Int->Nat
 |none=>d
 |some v=>if v<0 then(v+(n:Int)).toNat else min v.toNat n
theorem sIx_le(n d:Nat)(hd:d<=n)(o:Option Int):sIx n d o<=n:=by
 cases o with
 |none=>exact hd
 |some v=>
  show(if v<0 then(v+(n:Int)).toNat else min v.toNat n)<=n
  by_cases hv:v<0
  . rw[if_pos hv];omega
  . rw[if_neg hv];exact Nat.min_le_right _ _
theorem clip_eq(v:Int)(n d:Nat):(if v<0 then max (v+(n:Int)) 0 else min v (n:Int))=((sIx n d (some v):Nat):Int):=by
 show(if v<0 then max (v+(n:Int)) 0 else min v (n:Int))=(((if v<0 then(v+(n:Int)).toNat else min v.toNat n):Nat):Int)
 by_cases hv:v<0
 . simp only[if_pos hv];omega
 . simp only[if_neg hv];omega
theorem adjust_gen(lo hi:Option Int)(n:Nat):Builtin.Slice.sliceAdjust lo hi 1 (n:Int)=(((sIx n 0 lo:Nat):Int),((sIx n n hi:Nat):Int)):=by
 have h1:¬((1:Int)<0):=by omega
 unfold Builtin.Slice.sliceAdjust
 simp only[h1,if_false]
 refine Prod.ext ?_ ?_
 . cases lo with
   |none=>rfl
   |some v=>exact clip_eq v n 0
 . cases hi with
   |none=>rfl
   |some v=>exact clip_eq v n n
theorem places_gen(i j:Nat):Builtin.Slice.slicePlaces (i:Int) (j:Int) 1=j-i:=by
 unfold Builtin.Slice.slicePlaces
 have h1:(1:Int)>0:=by omega
 simp only[h1,if_true,Int.ediv_one]
 split<;>omega
theorem slicePart_{v:Value}{o:Option Int}{Q:Option Int->Shared->Prop}(p:IsPart v o)(h:Q o s):wpAny (model prog w) A (Builtin.Slice.slicePartIndex v) Q E s:=by
 cases p with
 |none=>exact slicePart_none h
 |int i t=>exact slicePart_int h
theorem sliceApplied_gen {sl : Addr} {vl vu : Value} {lo hi : Option Int} {n : Nat} {Q : Int × Int × Nat → Shared → Prop} (hs : s.heap.IsSliceOf sl vl vu .none) (pl : IsPart vl lo) (pu : IsPart vu hi)
    (h : Q (((sIx n 0 lo : Nat) : Int), 1, sIx n n hi - sIx n 0 lo) s) : wpAny (model prog w) A (Builtin.Slice.sliceApplied (.ref sl) (pure (n : Int))) Q E s := by
  obtain ⟨os, hos, hcs, hds⟩ := id hs
  unfold Builtin.Slice.sliceApplied Builtin.Slice.sliceFields
  refine wpAny_bind (wpAny_bind (wpAny_field hos hds (x := vl) rfl (wpAny_bind (wpAny_field hos hds (x := vu) rfl (wpAny_bind (wpAny_field hos hds (x := .none) rfl (wpAny_pure ?_)))))))
  refine wpAny_bind (slicePart_none ?_)
  show wpAny _ _ (if ((1 : Int) == 0) = true then _ else _) _ _ s
  rw [if_neg (by decide)]
  refine wpAny_bind (slicePart_ pl (wpAny_bind (slicePart_ pu (wpAny_bind (wpAny_pure ?_)))))
  show wpAny _ _ (match Builtin.Slice.sliceAdjust lo hi 1 (n : Int) with | (lo, hi) => pure (lo, (1 : Int), Builtin.Slice.slicePlaces lo hi 1)) _ _ s
  rw [adjust_gen lo hi n]
  show wpAny _ _ (pure (((sIx n 0 lo : Nat) : Int), (1 : Int), Builtin.Slice.slicePlaces ((sIx n 0 lo : Nat) : Int) ((sIx n n hi : Nat) : Int) 1)) _ _ s
  rw [places_gen]
  exact wpAny_pure h
theorem pick_gen(xs:Array Value)(i k:Nat):((List.range k).filterMap λ(m:Nat)=>xs[((i:Int)+(m:Int)*1).toNat]?).toArray=((xs.toList.drop i).take k).toArray:=by
 have e:(λ(m:Nat)=>xs[((i:Int)+(m:Int)*1).toNat]?)=λm=>xs[i+m]?:=by
  funext m
  have:((i:Int)+(m:Int)*1).toNat=i+m:=by omega
  rw[this]
 rw[e]
 have:=pick_run xs i k
 rw[List.filterMap_map]at this
 have e2:((λx=>xs[x]?)∘λx=>i+x)=λm=>xs[i+m]?:=rfl
 rw[e2]at this
 rw[this]
theorem getItem_tuple_cut{t sl:Addr}{items:Array Value}{vl vu:Value}{lo hi:Option Int}{Q:Value->Shared->Prop}(ht:IsTup s.heap t items)(hs:s.heap.IsSliceOf sl vl vu .none)(pl:IsPart vl lo)(pu:IsPart vu hi)
 (hw:¬(sIx items.size 0 lo=0/\sIx items.size items.size hi=items.size))
 (h:Q (.ref s.heap.objs.size) {s with heap:=s.heap.push {cls:=.type "tuple",data:=.seq ((items.toList.drop (sIx items.size 0 lo)).take (sIx items.size items.size hi-sIx items.size 0 lo)).toArray}})
 (hsz:items.size<=sizeLine):wpAny (model prog w) A (getItem (.ref t) (.ref sl)) Q E s:=by
 have htake:sizeOk (.seq ((items.toList.drop (sIx items.size 0 lo)).take (sIx items.size items.size hi-sIx items.size 0 lo)).toArray):=by
  show((items.toList.drop (sIx items.size 0 lo)).take (sIx items.size items.size hi-sIx items.size 0 lo)).toArray.size<=sizeLine
  rw[List.size_toArray,List.length_take,List.length_drop,Array.length_toList]
  omega
 have hj:sIx items.size items.size hi<=items.size:=sIx_le _ _ (Nat.le_refl _) hi
 obtain⟨os,hos,hcs,hds⟩:=id hs
 have hTs:s.TypeIs (.ref sl) "slice":=⟨os,hos,hcs⟩
 unfold getItem
 try with_reducible refine wpAny_holding ?_
 first|refine wpAny_bind (wpAny_pure ?_)|skip
 refine wpAny_bind (wpAny_sequenceKey ht.typeIs (by decide) ?_)
 refine wpAny_bind (wpAny_callSpecial?_slot (name:=Str.ofString "__getitem__") ht.typeIs PyProof.Rows.slot_tuple_getitem
  (wpAny_call_entry PyProof.Rows.slot_tuple_getitem ht.typeIs entry_tuple_getitem ?_ (args_tuple_getitem _ _)))
 show wpAny _ _ (Builtin.Tuple.tupleItemsOf (.ref t)>>=_) _ _ s
 refine wpAny_bind (tupleItemsOf_ ht ?_)
 refine wpAny_bind (wpAny_typeOf hTs ?_)
 rw[if_pos (by decide)]
 refine wpAny_bind (sliceApplied_gen hs pl pu ?_)
 have hno:¬((((sIx items.size 0 lo:Nat):Int)==0&&(1:Int)==1&&(sIx items.size items.size hi-sIx items.size 0 lo)==items.size)=true):=by
  intro q
  rw[Bool.and_eq_true,Bool.and_eq_true]at q
  have q1:((sIx items.size 0 lo:Nat):Int)=0:=eq_of_beq q.1.1
  have q2:sIx items.size items.size hi-sIx items.size 0 lo=items.size:=eq_of_beq q.2
  exact hw ⟨by omega,by omega⟩
 show wpAny _ _ (if(((sIx items.size 0 lo:Nat):Int)==0&&(1:Int)==1&&(sIx items.size items.size hi-sIx items.size 0 lo)==items.size)=true then _ else _) _ _ s
 rw[if_neg hno,pick_gen]
 first
  |exact wpAny_bind (m:=Builtin.Tuple.tupleExact _) (wpAny_newObj_type (wpAny_pure ⟨_,rfl,wpAny_pure h⟩) htake)
  |exact wpAny_bind (m:=Builtin.Tuple.tupleExact _) (wpAny_newObj_type (wpAny_bind (wpAny_pure (wpAny_pure ⟨_,rfl,wpAny_pure h⟩))) htake)
  |exact wpAny_bind (wpAny_bind (m:=Builtin.Tuple.tupleExact _) (wpAny_newObj_type (wpAny_pure (wpAny_pure ⟨_,rfl,wpAny_pure h⟩)) htake))
  |exact wpAny_bind (wpAny_bind (m:=Builtin.Tuple.tupleExact _) (wpAny_newObj_type (wpAny_pure ⟨_,rfl,wpAny_pure h⟩) htake))
end
end HT
namespace L2
open PySem PySem.Spec PyProof.Rows
abbrev TO:=St->Hp->(Option Int->Hp->Prop)->Prop
def PO(X:Cx)(e:Option Expr)(t:TO):Prop:=
 ∀⦃pins:List (Addr×Obj)⦄ (s:Shared)(σ:St)(H:Hp)(Q:Option Int->Hp->Prop),Inv X pins σ H s->t σ H Q->
  wpAny (model X.prog X.w) X.A (evalPart e X.env) (λu s'=>∃o H',Inv X pins σ H' s'/\IsPart u o/\Q o H') X.xe s
def as7:TO:=λ_ H Q=>Q none H
def bu6(t:TE):TO:=λσ H Q=>t σ H λx H1=>∃i,x=.int i/\Q (some i) H1
theorem ar0{ns:List Int}:∀{us:List Value},Vals (ns.map V.int) us->IntsAre us ns:=by
 induction ns with
 |nil=>intro us r;rw[List.map_nil]at r;cases r;exact .nil
 |cons n ns ih=>
  intro us r
  rw[List.map_cons]at r
  cases r with
  |cons r1 r2=>
   obtain⟨t,e⟩:=r1
   subst e
   exact .cons n t (ih r2)
section
variable {X : Cx} {e : Expr} {te : TE} {lo hi : Option Expr} {tl th : TO} {pos p2 : Pos}
theorem gM:PO X none as7:=by
 intro pins s σ H Q I h
 rw[evalPart_none]
 exact wpAny_pure ⟨none,H,I,.none,h⟩
theorem eY(h:PE X e te):PO X (some e) (bu6 te):=by
 intro pins s σ H Q I hw
 rw[evalPart_some]
 refine cE (h s σ H _ I hw) λu s1 ⟨x,H1,I1,r1,q1⟩=>?_
 obtain⟨i,rfl,q⟩:=q1
 obtain⟨t,rfl⟩:=r1
 exact⟨some i,H1,I1,.int i t,q⟩
def SlR(X:Cx)(r:V->Option Int->Option Int->Hp->VK->Prop):Prop:=
 ∀⦃pins:List (Addr×Obj)⦄ (s:Shared)(σ:St)(H:Hp)(x:V)(v vl vu:Value)(lo hi:Option Int)(sl:Addr)(Q:VK),Inv X pins σ H s->RelV x v->s.heap.IsSliceOf sl vl vu .none->IsPart vl lo->IsPart vu hi->r x lo hi H Q->
  ∃T id,typeLookup (.type T) "__getitem__"=pure (some (.builtin id))/\s.TypeIs v T/\wpAny (model X.prog X.w) X.A (getItem v (.ref sl)) (EP X pins σ Q) X.xe s
theorem SlR.or{r r':V->Option Int->Option Int->Hp->VK->Prop}(h:SlR X r)(h':SlR X r'):SlR X (λx lo hi H Q=>r x lo hi H Q\/r' x lo hi H Q):=by
 intro pins s σ H x v vl vu lo hi sl Q I rx hs pl pu q
 rcases q with q|q
 . exact h s σ H x v vl vu lo hi sl Q I rx hs pl pu q
 . exact h' s σ H x v vl vu lo hi sl Q I rx hs pl pu q
def tSl(r:V->Option Int->Option Int->Hp->VK->Prop)(te:TE)(tl th:TO):TE:=λσ H Q=>te σ H λx H1=>tl σ H1 λl H2=>th σ H2 λu H3=>r x l u H3 Q
theorem eL{r:V->Option Int->Option Int->Hp->VK->Prop}(hr:SlR X r)(he:PE X e te)(hl:PO X lo tl)(hu:PO X hi th):PE X (.Subscript e (.Slice lo hi none p2) pos) (tSl r te tl th):=by
 intro pins s σ H Q I h
 refine Subscript_ (cE (he s σ H _ I h) λv s1 ⟨x,H1,I1,r1,q1⟩=>?_)
 refine wpAny_Slice (cE (hl s1 σ H1 _ I1 q1) λvl s2 ⟨l,H2,I2,pl,q2⟩=>cE (hu s2 σ H2 _ I2 q2) λvu s3 ⟨u,H3,I3,pu,q3⟩=>?_)
 rw[evalPart_none]
 refine wpAny_pure ?_
 have I4:Inv X pins σ H3 {s3 with heap:=s3.heap.push {cls:=.type "slice",data:=.fields #[vl,vu,.none]}}:=I3.kept (t':=s3.toks) λb ob q=>Heap.get?_push_of_some _ q
 obtain⟨T,id,hT,ht,hg⟩:=hr {s3 with heap:=s3.heap.push {cls:=.type "slice",data:=.fields #[vl,vu,.none]}} σ H3 x v vl vu l u s3.heap.objs.size Q I4 r1 (Heap.IsSliceOf.new ..) pl pu q3
 show wpAny (model X.prog X.w) X.A (subscriptTail e (.Slice lo hi none p2) v (.ref s3.heap.objs.size)) (EP X pins σ Q) X.xe {s3 with heap:=s3.heap.push {cls:=.type "slice",data:=.fields #[vl,vu,.none]}}
 exact tail_any (ops:=[.ref s3.heap.objs.size,v]) ht hT hg (by with_unfolding_all rfl)
def vZ(xs:List V)(lo hi:Option Int):List V:=(xs.drop (HT.sIx xs.length 0 lo)).take (HT.sIx xs.length xs.length hi-HT.sIx xs.length 0 lo)
theorem yJ(xs:List V)(lo hi:Option Int):(vZ xs lo hi).length<=xs.length:=by
 unfold vZ
 rw[List.length_take,List.length_drop]
 omega
def cn4(K:PySem.W.Frag):V->Option Int->Option Int->Hp->VK->Prop:=λx lo hi H Q=>∃a xs,x=.ref a/\SqT K H a xs/\
 ¬(HT.sIx xs.length 0 lo=0/\HT.sIx xs.length xs.length hi=xs.length)/\∀p,H p=none->Q (.ref p) (upd H p (.tup (vZ xs lo hi)))
theorem cf4:SlR X (cn4 X.K):=by
 intro pins s σ H x v vl vu lo hi sl Q I rx hs pl pu h
 obtain⟨a,xs,rfl,hx,hw,q⟩:=h
 cases rx
 obtain⟨its,r,ht,hz⟩:=I.tuple hx
 have hlen:its.toArray.size=xs.length:=by rw[List.size_toArray];exact r.length.symm
 refine⟨"tuple",_,PyProof.Rows.slot_tuple_getitem.lookup,ht.typeIs,?_⟩
 refine HT.getItem_tuple_cut ht hs pl pu (by rw[hlen];exact hw) ?_ (by rw[hlen];exact hz)
 rw[hlen]
 refine⟨.ref s.heap.objs.size,_,I.laid (t':=s.toks) (o:=.tup (vZ xs lo hi)) (λb ob q=>Heap.get?_push_of_some _ q) (Nat.le_refl _) ?_,rfl,q _ (I.hok.fresh (Nat.le_refl _))⟩
 exact⟨Nat.le_trans (yJ xs lo hi) hz,_,(r.drop (HT.sIx xs.length 0 lo)).take (HT.sIx xs.length xs.length hi-HT.sIx xs.length 0 lo),IsTup.new _ _⟩
def bo7(K:PySem.W.Frag):R2:=λx y H Q=>∃a b xs ys,x=.ref a/\y=.ref b/\SqT K H a xs/\SqT K H b ys/\xs≠[]/\xs.length+ys.length<=sizeLine/\
 (ys=[]->Q (.ref a) H)/\(ys≠[]->∀p,H p=none->Q (.ref p) (upd H p (.tup (xs++ys))))
theorem Vals.nil_iff{xs:List V}{us:List Value}(r:Vals xs us):us=[]↔xs=[]:=by
 cases r with
 |nil=>simp
 |cons _ _=>simp
theorem cp0:OpR X (binaryOp .Add) (bo7 X.K):=by
 intro pins s σ H x y v u Q I rx ry h
 obtain⟨a,b,xs,ys,rfl,rfl,ha,hb,hx,hz,q1,q2⟩:=h
 cases rx
 cases ry
 obtain⟨its,r1,p1,_⟩:=I.tuple ha
 obtain⟨its2,r2,p2,_⟩:=I.tuple hb
 refine HT.cat_tup p1 p2 (λz=>hx (r1.nil_iff.mp z)) (λz=>⟨.ref a,H,I,rfl,q1 (r2.nil_iff.mp z)⟩) (λz=>?_) (by rw[<-r1.length,<-r2.length];exact hz)
 refine⟨.ref s.heap.objs.size,_,I.laid (t':=s.toks) (o:=.tup (xs++ys)) (λb ob q=>Heap.get?_push_of_some _ q) (Nat.le_refl _) ?_,rfl,q2 (λw=>z (r2.nil_iff.mpr w)) _ (I.hok.fresh (Nat.le_refl _))⟩
 exact⟨by rw[List.length_append];exact hz,_,r1.append r2,IsTup.new _ _⟩
end
end L2
namespace L2
open PySem PySem.Spec PyProof.Rows
def rQ(n:Nat)(i:Int):Option Nat:=if 0<=i then(if i<n then some i.toNat else none)else if -(n:Int)<=i then some (i+n).toNat else none
def atI{α:Type}(xs:List α)(i:Int):Option α:=(rQ xs.length i).bind λj=>xs[j]?
theorem ab1{n:Nat}{i:Int}{j:Nat}(h:rQ n i=some j):seqIndex? i n=some j/\j<n/\-(n:Int)<=i/\i<n:=by
 unfold rQ at h
 by_cases h0:0<=i
 . rw[if_pos h0]at h
   by_cases h1:i<n
   . rw[if_pos h1]at h
     have e:i.toNat=j:=Option.some.inj h
     exact⟨by rw[seqIndex_of h0 h1,e],by omega,by omega,h1⟩
   . rw[if_neg h1]at h;cases h
 . rw[if_neg h0]at h
   by_cases h1:-(n:Int)<=i
   . rw[if_pos h1]at h
     have e:(i+n).toNat=j:=Option.some.inj h
     exact⟨by rw[seqIndex_neg (by omega) h1,e],by omega,h1,by omega⟩
   . rw[if_neg h1]at h;cases h
theorem au1{α:Type}{xs:List α}{i:Int}{v:α}(h:atI xs i=some v):∃j,seqIndex? i xs.length=some j/\xs[j]?=some v/\j<xs.length/\-(xs.length:Int)<=i/\i<xs.length:=by
 unfold atI at h
 cases e:rQ xs.length i with
 |none=>rw[e]at h;cases h
 |some j=>
  rw[e]at h
  obtain⟨h1,h2,h3,h4⟩:=ab1 e
  exact⟨j,h1,h,h2,h3,h4⟩
theorem eP{α:Type}{xs:List α}{j:Nat}{v:α}(h:xs[j]?=some v):atI xs (j:Int)=some v:=by
 have hj:j<xs.length:=(List.getElem?_eq_some_iff.mp h).1
 have e:rQ xs.length (j:Int)=some j:=by
  unfold rQ
  rw[if_pos (by omega),if_pos (by omega)];simp
 unfold atI;rw[e];exact h
def bs9(b:Expr):Prop:=∀o i,subscripted b false o i=operate [o,i] (getItem o i)
def IxR(X:Cx)(r:R2):Prop:=
 ∀(value slice:Expr)(pins:List (Addr×Obj))(s:Shared)(σ:St)(H:Hp)(x y:V)(v u:Value)(Q:VK),Inv X pins σ H s->RelV x v->RelV y u->r x y H Q->
  subscripted slice false v u=operate [v,u] (getItem v u)->wpAny (model X.prog X.w) X.A (subscriptTail value slice v u) (EP X pins σ Q) X.xe s
def MtR(X:Cx)(id:String)(r:V->List V->Hp->VK->Prop):Prop:=
 ∀⦃pins:List (Addr×Obj)⦄ (s:Shared)(σ:St)(H:Hp)(x:V)(xs:List V)(v:Value)(us:List Value)(Q:VK),Inv X pins σ H s->RelV x v->Vals xs us->r x xs H Q->
  wpAny (model X.prog X.w) X.A (call (.builtin id) (v::us)) (EP X pins σ Q) X.xe s
section
variable {X : Cx} {a b : Expr} {ta tb : TE} {pos : Pos}
theorem IxR.or{r r':R2}(h:IxR X r)(h':IxR X r'):IxR X (λx y H Q=>r x y H Q\/r' x y H Q):=by
 intro value slice pins s σ H x y v u Q I rx ry q hs
 rcases q with q|q
 . exact h value slice pins s σ H x y v u Q I rx ry q hs
 . exact h' value slice pins s σ H x y v u Q I rx ry q hs
theorem bH{r:R2}(hr:IxR X r)(ha:PE X a ta)(hb:PE X b tb)(hs:bs9 b):PE X (.Subscript a b pos) (tOp r ta tb):=by
 intro pins s σ H Q I h
 exact Subscript_ (bp5 ha hb I h λv u s2 x y H2 I2 rx ry q=>hr a b pins s2 σ H2 x y v u Q I2 rx ry q (hs _ _))
def cs2(K:PySem.W.Frag):R2:=λx y H Q=>∃p xs i v,x=.ref p/\y=.int i/\SqL K H p xs/\atI xs i=some v/\Q v H
def ck3(K:PySem.W.Frag):R2:=λx y H Q=>∃p xs i v,x=.ref p/\y=.int i/\SqT K H p xs/\atI xs i=some v/\Q v H
def cg2:R2:=λx y H Q=>∃z i c,x=.str z/\y=.int i/\z.length<=sizeLine/\atI z.cps.toList i=some c/\Q (.str ⟨#[c]⟩) H
theorem ix_list:IxR X (cs2 X.K):=by
 intro value slice pins s σ H x y v u Q I rx ry h hs
 obtain⟨p,xs,i,z,rfl,rfl,hq,he,q⟩:=h
 cases rx
 obtain⟨t,rfl⟩:=ry
 obtain⟨its,r,pl,hz⟩:=I.list hq
 obtain⟨j,h1,h2,h3,h4,h5⟩:=au1 he
 obtain⟨w,ew,rw'⟩:=r.get h2
 have hl:=r.length
 have hn:=tK
 have cL:EP X pins σ Q w s:=⟨z,H,I,rw',q⟩
 by_cases h0:0<=i
 . have hj:i.toNat=j:=by
    rw[seqIndex_of h0 h5]at h1
    exact Option.some.inj h1
   exact item_listR pl.isList h0 (by omega) (by rw[hj];simpa using ew) cL hs
 . have hj:(i+(its.toArray.size:Int)).toNat=j:=by
    rw[seqIndex_neg (by omega) h4]at h1
    rw[List.size_toArray,<-hl]
    exact Option.some.inj h1
   exact subscriptTail_builtinR (x:=w) pl.isList.typeIs slot_list_getitem.lookup
    (wpAny_getItem_list_neg (Q:=λr s'=>r=w/\EP X pins σ Q r s') pl.isList (by omega) (by rw[List.size_toArray]<;>omega) (by omega) (by rw[hj];simpa using ew) ⟨rfl,cL⟩) hs
theorem ix_tup:IxR X (ck3 X.K):=by
 intro value slice pins s σ H x y v u Q I rx ry h hs
 obtain⟨p,xs,i,z,rfl,rfl,hq,he,q⟩:=h
 cases rx
 obtain⟨t,rfl⟩:=ry
 obtain⟨its,r,pl,hz⟩:=I.tuple hq
 obtain⟨j,h1,h2,h3,h4,h5⟩:=au1 he
 obtain⟨w,ew,rw'⟩:=r.get h2
 have hl:=r.length
 have hn:=tK
 have cL:EP X pins σ Q w s:=⟨z,H,I,rw',q⟩
 exact subscriptTail_builtinR (x:=w) pl.typeIs slot_tuple_getitem.lookup
  (getItem_tuple (j:=j) (Q:=λr s'=>r=w/\EP X pins σ Q r s') pl (by omega) (by omega) (by rw[List.size_toArray,<-hl];exact h1) (by simpa using ew) ⟨rfl,cL⟩) hs
theorem cd3:IxR X cg2:=by
 intro value slice pins s σ H x y v u Q I rx ry h hs
 obtain⟨z,i,c,rfl,rfl,hz,he,q⟩:=h
 obtain⟨t,rfl⟩:=rx
 obtain⟨t',rfl⟩:=ry
 obtain⟨j,h1,h2,h3,h4,h5⟩:=au1 he
 have hl:z.cps.toList.length=z.length:=by simp[Str.length]
 rw[hl]at h1 h4 h5
 have hn:=tK
 exact tail_any (typeIs_str s z t) slot_str_getitem.lookup (getItem_str (c:=c) (by
  have e1:decide (i< -(2^63:Int))=false:=decide_eq_false (by omega)
  have e2:decide (i>=2^63)=false:=decide_eq_false (by omega)
  rw[e1,e2,Bool.or_false]) (by rw[h1];simpa using h2) ⟨.str ⟨#[c]⟩,H,I.tok _,⟨_,rfl⟩,q⟩) hs
def rIx(K:PySem.W.Frag):R2:=λx y H Q=>cs2 K x y H Q\/ck3 K x y H Q\/cg2 x y H Q
theorem cb1:IxR X (rIx X.K):=ix_list.or (ix_tup.or cd3)
theorem at8(its:List Value)(n j:Nat)(u:Value):Obj.mapSeq (·.setIfInBounds j u) {cls:=.type "list",data:=.seq its.toArray n}={cls:=.type "list",data:=.seq (its.set j u).toArray n}:=by
 simp[Obj.mapSeq]
theorem Inv.lst{pins:List (Addr×Obj)}{σ:St}{H:Hp}{s:Shared}{p:Addr}{xs:List V}(I:Inv X pins σ H s)(h:H p=some (.lst xs)):
 ∃(its:List Value)(n:Nat),Vals xs its/\s.heap.get? p=some {cls:=.type "list",data:=.seq its.toArray n}/\xs.length<=sizeLine:=by
 obtain⟨z,its,n,r,e⟩:=I.hok p _ h
 exact⟨its,n,r,e,z⟩
theorem Inv.lstUpd{pins:List (Addr×Obj)}{σ:St}{H:Hp}{s:Shared}{p:Addr}{xs ys:List V}{its its':List Value}{n n':Nat}{f:Obj->Obj}(I:Inv X pins σ H s)(h:H p=some (.lst xs))
 (ho:s.heap.get? p=some {cls:=.type "list",data:=.seq its.toArray n})(hf:f {cls:=.type "list",data:=.seq its.toArray n}={cls:=.type "list",data:=.seq its'.toArray n'})(r:Vals ys its')(hz:ys.length<=sizeLine)(t:Nat):
 Inv X pins σ (upd H p (.lst ys)) {s with heap:=s.heap.update p f,toks:=t}:=by
 have e:(s.heap.update p f).get? p=some {cls:=.type "list",data:=.seq its'.toArray n'}:=by
  rw[Heap.get?_update_self f ho (by rw[hf]<;>rfl),hf]
 refine I.write (x:=p) (e:=p) (by rw[h];trivial) (.inl rfl) (λb u hb q=>(Heap.get?_update_other _ _ (Ne.symm hb)).trans q) ⟨_,e⟩ ?_
 exact⟨hz,its',n',r,e⟩
def be7:V->V->V->Hp->(Hp->Prop)->Prop:=λo i v H Q=>∃p xs k j,o=.ref p/\i=.int k/\H p=some (.lst xs)/\rQ xs.length k=some j/\Q (upd H p (.lst (xs.set j v)))
theorem vB:ci2 X be7:=by
 intro pins s σ H o i v ov iv u Q I ro ri rv h
 obtain⟨p,xs,k,j,rfl,rfl,hp,hj,q⟩:=h
 cases ro
 obtain⟨t,rfl⟩:=ri
 obtain⟨its,n,r,ho,hz⟩:=I.lst hp
 obtain⟨h1,h2,h3,h4⟩:=ab1 hj
 have hl:=r.length
 have hn:=tK
 have I':Inv X pins σ (upd H p (.lst (xs.set j v))) {s with heap:=s.heap.update p (Obj.mapSeq (·.setIfInBounds j u))}:=
  I.lstUpd hp ho (at8 its n j u) (r.set rv j) (by rw[List.length_set];exact hz) s.toks
 by_cases h0:0<=k
 . have hk:k.toNat=j:=by
    rw[seqIndex_of h0 h4]at h1
    exact Option.some.inj h1
   exact PySem.W.ki_setAt ho h0 (by omega) (by rw[List.size_toArray,<-hl];exact h4) (by rw[hk];exact⟨_,I',q⟩)
 . have hk:(k+(its.toArray.size:Int)).toNat=j:=by
    rw[seqIndex_neg (by omega) h3]at h1
    rw[List.size_toArray,<-hl]
    exact Option.some.inj h1
   exact PySem.W.ki_setBack ho (by omega) (by rw[List.size_toArray,<-hl];exact h3) (by omega) (by rw[hk];exact⟨_,I',q⟩)
theorem ai5(lo hi:Option Int)(n:Nat):(sliceBounds lo hi none n).1=((HT.sIx n 0 lo:Nat):Int)/\(sliceBounds lo hi none n).2.1=((HT.sIx n n hi:Nat):Int)/\(sliceBounds lo hi none n).2.2=1:=by
 refine⟨?_,?_,rfl⟩
 . cases lo with
   |none=>simp[sliceBounds,HT.sIx]
   |some i=>
    simp only[sliceBounds,HT.sIx,Option.getD_none,show(1:Int)>0 by decide,if_true]
    by_cases h:i<0
    . simp only[h,if_true]<;>omega
    . simp only[h,if_false]<;>omega
 . cases hi with
   |none=>simp[sliceBounds,HT.sIx]
   |some i=>
    simp only[sliceBounds,HT.sIx,Option.getD_none,show(1:Int)>0 by decide,if_true]
    by_cases h:i<0
    . simp only[h,if_true]<;>omega
    . simp only[h,if_false]<;>omega
theorem ay2(its:List Value)(lo hi:Option Int):slicePick its.toArray lo hi none=((its.drop (HT.sIx its.length 0 lo)).take (HT.sIx its.length its.length hi-HT.sIx its.length 0 lo)).toArray:=by
 obtain⟨h1,h2,h3⟩:=ai5 lo hi its.toArray.size
 unfold slicePick
 rw[h1,h2,h3]
 simp only[sliceRange_one,pick_run,List.size_toArray]<;>rfl
def co1(K:PySem.W.Frag):V->Option Int->Option Int->Hp->VK->Prop:=λx lo hi H Q=>∃a xs,x=.ref a/\SqL K H a xs/\∀p,H p=none->Q (.ref p) (upd H p (.lst (vZ xs lo hi)))
theorem br8:SlR X (co1 X.K):=by
 intro pins s σ H x v vl vu lo hi sl Q I rx hs pl pu h
 obtain⟨a,xs,rfl,hx,q⟩:=h
 cases rx
 obtain⟨its,r,ht,hz⟩:=I.list hx
 have hlen:=r.length
 refine⟨"list",_,slot_list_getitem.lookup,ht.isList.typeIs,?_⟩
 refine wpAny_getItem_list_slice ht.isList hs pl pu .none (by simp) ?_ (by rw[List.size_toArray]<;>omega)
 rw[ay2,<-hlen]
 refine⟨.ref s.heap.objs.size,_,I.laid (t':=s.toks) (o:=.lst (vZ xs lo hi)) (λb ob q=>Heap.get?_push_of_some _ q) (Nat.le_refl _) ?_,rfl,q _ (I.hok.fresh (Nat.le_refl _))⟩
 exact⟨Nat.le_trans (yJ xs lo hi) hz,_,0,(r.drop (HT.sIx xs.length 0 lo)).take (HT.sIx xs.length xs.length hi-HT.sIx xs.length 0 lo),Heap.get?_push_size _ rfl⟩
def oZ:V->Bool
 |.non=>true
 |.bl _=>true
 |.int _=>true
 |.str _=>true
 |_=>false
def eqV:V->V->Bool
 |.non,.non=>true
 |.bl a,.bl b=>a==b
 |.bl a,.int b=>(if a then 1 else 0)==b
 |.int a,.bl b=>a==(if b then 1 else 0)
 |.int a,.int b=>a==b
 |.str a,.str b=>a==b
 |_,_=>false
theorem bw1{A:Around}{s:Shared}{y x:V}{u v:Value}(ry:RelV y u)(rx:RelV x v)(fy:oZ y=true)(fx:oZ x=true):SeqAt.EqAt A s u v (eqV y x):=by
 cases y with
 |non=>
  cases ry
  cases x with
  |non=>cases rx;exact SeqAt.EqAt.same _
  |bl b=>cases rx;exact SeqAt.EqAt.none_bool b
  |int b=>obtain⟨t,rfl⟩:=rx;exact SeqAt.EqAt.none_int b t
  |str b=>obtain⟨t,rfl⟩:=rx;exact SeqAt.EqAt.none_str b t
  |_=>exact absurd (show false=true from fx) Bool.false_ne_true
 |bl a=>
  cases ry
  cases x with
  |non=>cases rx;exact SeqAt.EqAt.bool_none a
  |bl b=>cases rx;exact SeqAt.EqAt.bool_bool a b
  |int b=>obtain⟨t,rfl⟩:=rx;exact SeqAt.EqAt.bool_int a b t
  |str b=>obtain⟨t,rfl⟩:=rx;exact SeqAt.EqAt.bool_str a b t
  |_=>exact absurd (show false=true from fx) Bool.false_ne_true
 |int a=>
  obtain⟨t',rfl⟩:=ry
  cases x with
  |non=>cases rx;exact SeqAt.EqAt.int_none a t'
  |bl b=>cases rx;exact SeqAt.EqAt.int_bool a t' b
  |int b=>obtain⟨t,rfl⟩:=rx;exact SeqAt.EqAt.int_int a t' b t
  |str b=>obtain⟨t,rfl⟩:=rx;exact SeqAt.EqAt.int_str a t' b t
  |_=>exact absurd (show false=true from fx) Bool.false_ne_true
 |str a=>
  obtain⟨t',rfl⟩:=ry
  cases x with
  |non=>cases rx;exact SeqAt.EqAt.str_none a t'
  |bl b=>cases rx;exact SeqAt.EqAt.str_bool a t' b
  |int b=>obtain⟨t,rfl⟩:=rx;exact SeqAt.EqAt.str_int a t' b t
  |str b=>obtain⟨t,rfl⟩:=rx;exact SeqAt.EqAt.str_str a t' b t
  |_=>exact absurd (show false=true from fx) Bool.false_ne_true
 |_=>exact absurd (show false=true from fy) Bool.false_ne_true
theorem am5:OpR X (compareOp .NotIn) (λx y H Q=>∃i j,x=.str i/\y=.str j/\Q (.bl (!(!(Builtin.Str.occurrences j i 0 j.length 1).isEmpty))) H):=by
 intro pins s σ H x y v u Q I rx ry h
 obtain⟨i,j,rfl,rfl,q⟩:=h
 obtain⟨t,rfl⟩:=rx
 obtain⟨t',rfl⟩:=ry
 exact notIn_str ⟨.bl _,H,I,rfl,q⟩
theorem CallR.or{f:Value}{r r':List V->Hp->VK->Prop}(h:CallR X f r)(h':CallR X f r'):CallR X f (λxs H Q=>r xs H Q\/r' xs H Q):=by
 intro pins s σ H xs us Q I rs q
 rcases q with q|q
 . exact h s σ H xs us Q I rs q
 . exact h' s σ H xs us Q I rs q
theorem ah5:CallR X (.type "list") (λxs H Q=>∃p ys,xs=[.ref p]/\(SqL X.K H p ys\/SqT X.K H p ys)/\∀l,H l=none->Q (.ref l) (upd H l (.lst ys))):=by
 intro pins s σ H xs us Q I r h
 obtain⟨p,ys,rfl,hq,q⟩:=h
 obtain⟨u,rfl,rx⟩:=ao3 r
 cases rx
 have cL:∀(its:List Value),Vals ys its->ys.length<=sizeLine->∀(h':Heap)(c':Nat),(∀b o',s.heap.get? b=some o'->h'.get? b=some o')->
  h'.get? s.heap.objs.size=some {cls:=.type "list",dict:=none,data:=.seq its.toArray c',slots:=#[]}->EP X pins σ Q (.ref s.heap.objs.size) {s with heap:=h'}:=λits r' hz h' c' kp e=>
  ⟨.ref s.heap.objs.size,_,I.laid (t':=s.toks) kp (Nat.le_refl _) (show ObjOk X.prog X.w _ h' _ (.lst ys) from⟨hz,its,c',r',e⟩),rfl,q _ (I.hok.fresh (Nat.le_refl _))⟩
 rcases hq with hq|hq
 . obtain⟨its,r',pl,hz⟩:=I.list hq
   have hlen:=r'.length
   obtain⟨o,ho,hc,n,hd⟩:=pl.isList
   exact call_list_seq p (.inl rfl) ho hc hd (λh' c' kp e=>cL its r' hz h' c' kp e) (by simp only[List.size_toArray]<;>omega)
 . obtain⟨its,r',pl,hz⟩:=I.tuple hq
   have hlen:=r'.length
   obtain⟨o,ho,hc,n,hd⟩:=pl
   exact call_list_seq p (.inr rfl) ho hc hd (λh' c' kp e=>cL its r' hz h' c' kp e) (by simp only[List.size_toArray]<;>omega)
theorem ac3:CallR X (.type "tuple") (λxs H Q=>∃p ys,xs=[.ref p]/\((SqL X.K H p ys/\∀l,H l=none->Q (.ref l) (upd H l (.tup ys)))\/(SqT X.K H p ys/\Q (.ref p) H))):=by
 intro pins s σ H xs us Q I r h
 obtain⟨p,ys,rfl,h⟩:=h
 obtain⟨u,rfl,rx⟩:=ao3 r
 cases rx
 rcases h with⟨hq,q⟩|⟨hq,q⟩
 . obtain⟨its,r',pl,hz⟩:=I.list hq
   have hlen:=r'.length
   refine call_tuple_list pl.isList (λh' kp=>?_) (by simp only[List.size_toArray]<;>omega)
   have I1:Inv X pins σ H {s with heap:=h'}:=I.kept (t':=s.toks) kp
   have I2:Inv X pins σ (upd H h'.objs.size (.tup ys)) {s with heap:=h'.push {cls:=.type "tuple",data:=.seq its.toArray}}:=
    I1.laid (t':=s.toks) (λb o e=>Heap.get?_push_of_some _ e) (Nat.le_refl _) (show ObjOk X.prog X.w _ _ _ (.tup ys) from⟨hz,its,r',IsTup.new _ _⟩)
   exact⟨.ref h'.objs.size,_,I2,rfl,q _ (I1.hok.fresh (Nat.le_refl _))⟩
 . obtain⟨its,r',pl,hz⟩:=I.tuple hq
   exact call_tuple_same pl ⟨.ref p,H,I,rfl,q⟩
def tyV(K:PySem.W.Frag)(T:String)(x:V)(H:Hp):Prop:=match x with
 |.str _=>T="str"
 |.int _=>T="int"
 |.ref p=>(T="list"/\∃xs,SqL K H p xs)\/(T="tuple"/\∃o,K.lookup p=some o/\o.cls=.type "tuple"/\o.dict=none)\/
  (T="dict"/\((∃kvs,H p=some (.dK kvs))\/∃kvs,H p=some (.dT kvs)))\/(T="set"/\∃S n,H p=some (.set S n))
 |_=>False
theorem bz0{pins:List (Addr×Obj)}{σ:St}{H:Hp}{s:Shared}{T:String}{x:V}{v:Value}(I:Inv X pins σ H s)(r:RelV x v)(ty:tyV X.K T x H):
 s.TypeIs v T/\∀a,v=.ref a->∃ob,s.heap.get? a=some ob/\ob.dict=none:=by
 cases x with
 |str z=>
  obtain⟨t,rfl⟩:=r
  cases(show T="str" from ty)
  exact⟨typeIs_str s z t,λ_ e=>nomatch e⟩
 |int i=>
  obtain⟨t,rfl⟩:=r
  cases(show T="int" from ty)
  exact⟨typeIs_int s i t,λ_ e=>nomatch e⟩
 |ref p=>
  cases r
  rcases ty with⟨rfl,xs,hq⟩|⟨rfl,o,hk,hc,hd⟩|⟨rfl,hk⟩|⟨rfl,S,n,hk⟩
  . obtain⟨its,_,pl,_⟩:=I.list hq
    refine⟨pl.isList.typeIs,λa e=>?_⟩
    cases e
    obtain⟨o,n,e,c,hd,_⟩:=pl
    exact⟨o,e,hd⟩
  . refine⟨⟨o,I.kIn p o hk,hc⟩,λa e=>?_⟩
    cases e
    exact⟨o,I.kIn _ o hk,hd⟩
  . have z:∃o,s.heap.get? p=some o/\o.ExactDict:=by
     rcases hk with⟨kvs,hk⟩|⟨kvs,hk⟩
     . obtain⟨_,_,_,_,o,_,_,e,ex,_⟩:=I.hok p _ hk
       exact⟨o,e,ex⟩
     . obtain⟨_,_,_,_,o,_,_,e,ex,_⟩:=I.hok p _ hk
       exact⟨o,e,ex⟩
    obtain⟨o,e,ex⟩:=z
    refine⟨⟨o,e,ex.1⟩,λa e2=>?_⟩
    cases e2
    exact⟨o,e,ex.2.1⟩
  . obtain⟨o,_,_,_,e,ex,_⟩:=I.hok p _ hk
    refine⟨⟨o,e,ex.1⟩,λa e2=>?_⟩
    cases e2
    exact⟨o,e,ex.2.1⟩
 |_=>exact False.elim ty
def ce9(K:PySem.W.Frag)(T:String)(r:V->List V->Hp->VK->Prop)(to:TE):TE:=λσ H Q=>to σ H λx H1=>tyV K T x H1/\r x [] H1 Q
def tBM(K:PySem.W.Frag)(T:String)(r:V->List V->Hp->VK->Prop)(to:TE)(t:TA):TE:=λσ H Q=>to σ H λx H1=>tyV K T x H1/\t σ H1 λxs H2=>r x xs H2 Q
variable {o e : Expr} {es : List Expr} {to : TE} {t : TA} {name : Str} {apos cpos : Pos} {T id : String} {r : V → List V → Hp → VK → Prop}
theorem cp4(pa:PlainAttrs T)(slot:Slot T name id)(hty:typeOf (.builtin id)=pure (.type "method_descriptor"))(hm:MtR X id r)(ho:PE X o to)
 (hbase:attributeBase o name X.env (eval o X.env)=eval o X.env:=by rfl)(hline:(apos.endLine==cpos.line)=true:=by rfl):PE X (.Call (.Attribute o name apos) [] [] cpos) (ce9 X.K T r to):=by
 intro pins s σ H Q I h
 refine wpAny_Call_method0_late hbase hline (cE (ho s σ H _ I h) λv s1 ⟨x,H1,I1,r1,ty,q1⟩=>?_)
 obtain⟨h1,h2⟩:=bz0 I1 r1 ty
 exact⟨T,id,pa,slot,hty,h1,h2,Calls.callWith_builtin rfl (PySem.evalArgs_none (hm s1 σ H1 x [] v [] Q I1 r1 .nil q1))⟩
theorem cl5(pa:PlainAttrs T)(slot:Slot T name id)(hty:typeOf (.builtin id)=pure (.type "method_descriptor"))(hm:MtR X id r)(ho:PE X o to)(ha:PA X (e::es) t)
 (hbase:attributeBase o name X.env (eval o X.env)=eval o X.env:=by rfl)
 (hfew:((backTo cpos (starEach (e::es) X.env)).all (λx=>!x.1)&&(backToKw cpos (keywordEach [] X.env)).all (λx=>x.1.isSome)
  &&decide ((e::es).length+([]:List Keyword).length+(if([]:List Keyword).isEmpty then 0 else 1)<30))=true:=by rfl)
 (hline:(apos.endLine==cpos.line)=true:=by rfl)(hs:starEach (e::es) X.env=(false,eval e X.env)::starEach es X.env:=by rfl)(hplain:(backTo cpos (starEach es X.env)).any (·.1)=false:=by rfl):
 PE X (.Call (.Attribute o name apos) (e::es) [] cpos) (tBM X.K T r to t):=by
 intro pins s σ H Q I h
 refine wpAny_Call_method_late hbase hfew hline rfl (cE (ho s σ H _ I h) λv s1 ⟨x,H1,I1,r1,ty,q1⟩=>?_)
 obtain⟨h1,h2⟩:=bz0 I1 r1 ty
 refine⟨T,id,pa,slot,hty,h1,h2,?_⟩
 have hA:=@ha cpos pins s1 σ H1 _ I1 q1
 rw[hs]at hA⊢
 refine Calls.callWith_builtin (by show(false||(backTo cpos (starEach es X.env)).any (·.1))=false;rw[hplain]<;>rfl) (Calls.evalArgs_plain ?_)
 exact cE hA λus s2 ⟨vs,H2,I2,r2,q2⟩=>hm s2 σ H2 x vs v us Q I2 r1 r2 q2
/- xs.append(e), list.index on a module's tuple .. are MtR facts of 06m -/
end
end L2
namespace L2
open PySem PySem.Spec PyProof.Rows
def MtM(X:Cx)(id:String)(r:V->List V->Hp->VK->Prop):Prop:=
 ∀(pins:List (Addr×Obj))(s:Shared)(σ:St)(H:Hp)(x:V)(xs:List V)(v:Value)(us:List Value)(Q:VK),Inv X pins σ H s->RelV x v->Vals xs us->r x xs H Q->
  wpAny (model X.prog X.w) X.A (call (.builtin id) (v::us)) (EP X pins σ Q) X.xe s
theorem Vals.one:∀{x:V}{us:List Value},Vals [x] us->∃u,us=[u]/\RelV x u
 |_,_,.cons r .nil=>⟨_,rfl,r⟩
theorem Vals.two:∀{x y:V}{us:List Value},Vals [x,y] us->∃u v,us=[u,v]/\RelV x u/\RelV y v
 |_,_,_,.cons r (.cons q .nil)=>⟨_,_,rfl,r,q⟩
theorem Vals.zero:∀{us:List Value},Vals [] us->us=[]
 |_,.nil=>rfl
section
variable {X : Cx} {pins : List (Addr × Obj)} {σ : St} {H : Hp} {s : Shared} {l b : Addr} {xs ys zs : List V}
theorem Inv.lset{its its':List Value}{n:Nat}{f:Array Value->Array Value}{t':Nat}(I:Inv X pins σ H s)(hH:H l=some (.lst xs))
 (e:s.heap.get? l=some {cls:=.type "list",data:=.seq its.toArray n})(hf:f its.toArray=its'.toArray)(hv:Vals ys its')(hz:ys.length<=sizeLine):
 Inv X pins σ (upd H l (.lst ys)) {s with heap:=s.heap.update l (Obj.mapSeq f),toks:=t'}:=by
 have q:=PySem.IsL.update e f
 rw[hf]at q
 refine I.write (x:=l) (e:=l) (by rw[hH];exact trivial) (.inl rfl) (λb' u hb hu=>(Heap.get?_update_other s.heap (Obj.mapSeq f) (Ne.symm hb)).trans hu) ⟨_,q⟩ ?_
 exact⟨hz,its',_,hv,q⟩
theorem Inv.lnew{its:List Value}{t':Nat}(I:Inv X pins σ H s)(hv:Vals ys its)(hz:ys.length<=sizeLine):
 Inv X pins σ (upd H s.heap.objs.size (.lst ys)) {s with heap:=s.heap.push {cls:=.type "list",data:=.seq its.toArray},toks:=t'}:=
 I.laid (λ_ _ q=>Heap.get?_push_of_some _ q) (Nat.le_refl _) ⟨hz,its,0,hv,Heap.get?_push_size _ rfl⟩
theorem Inv.fresh(I:Inv X pins σ H s):H s.heap.objs.size=none:=I.hok.fresh (Nat.le_refl _)
theorem Inv.lstM(I:Inv X pins σ H s)(hH:H l=some (.lst xs)):xs.length<=sizeLine/\∃(its:List Value)(n:Nat),Vals xs its/\xs.length=its.length/\s.heap.get? l=some {cls:=.type "list",data:=.seq its.toArray n}:=by
 obtain⟨z,its,n,r,e⟩:=I.hok l _ hH
 exact⟨z,its,n,r,r.length,e⟩
end
section
variable {X : Cx}
def yA:V->List V->Hp->VK->Prop:=λx vs H Q=>∃l xs y,x=.ref l/\vs=[y]/\H l=some (.lst xs)/\xs.length<sizeLine/\Q .non (upd H l (.lst (xs++[y])))
theorem iJ:MtM X "list.append" yA:=by
 intro pins s σ H x vs v us Q I rx rv h
 obtain⟨l,xs,y,rfl,rfl,hH,hz,q⟩:=h
 cases rx
 obtain⟨u,rfl,ru⟩:=rv.one
 obtain⟨z,its,n,r,hl,e⟩:=I.lstM hH
 refine call_meets F.slot_list_append ⟨_,e,rfl⟩ F.entry_list_append (F.args_list_append_2 _ _) (PySem.list_append l its.toArray n u (by rw[List.size_toArray];omega)) ⟨e,?_⟩
 refine⟨.non,_,I.lset (its':=its++[u]) hH e (by simp) (r.append (.cons ru .nil)) ?_,rfl,q⟩
 rw[List.length_append,List.length_singleton]
 omega
def bh1:V->List V->Hp->VK->Prop:=λx vs H Q=>∃l xs,x=.ref l/\vs=[]/\H l=some (.lst xs)/\Q .non (upd H l (.lst []))
theorem ad4:MtM X "list.clear" bh1:=by
 intro pins s σ H x vs v us Q I rx rv h
 obtain⟨l,xs,rfl,rfl,hH,q⟩:=h
 cases rx
 have hus:=rv.zero
 subst hus
 obtain⟨z,its,n,r,hl,e⟩:=I.lstM hH
 refine call_meets F.slot_list_clear ⟨_,e,rfl⟩ F.entry_list_clear (F.args_list_clear_1 _) (AutoSeq1.list_clear_list_0 l its.toArray n (by rw[List.size_toArray];omega)) ⟨e,?_⟩
 exact⟨.non,_,I.lset (its':=[]) (ys:=[]) hH e rfl .nil (Nat.zero_le _),rfl,q⟩
theorem av7{α:Type}(xs:List α)(k:Nat):(List.replicate k xs).flatten.length=k*xs.length:=by
 induction k with
 |zero=>simp
 |succ k ih=>rw[List.replicate_succ,List.flatten_cons,List.length_append,ih,Nat.succ_mul,Nat.add_comm]
end
section
variable {prog : Program} {w : World} {A : Around} {E : Value → Shared → Prop} {s : Shared}
set_option maxRecDepth 100000 in
end
section
variable {X : Cx}
end
end L2
namespace Att
open PySem PySem.W PySem.Calls PyProof.Rows
theorem ints_of_wellAll{P:Params}{h:Heap}:∀(ns:List Int)(vs:List Value),WellAll P h vs (ns.map WData.int)->IntsAre vs ns:=by
 intro ns
 induction ns with
 |nil=>
  intro vs w
  rw[List.map_nil]at w
  cases w
  exact .nil
 |cons n ns ih=>
  intro vs w
  rw[List.map_cons]at w
  cases w with
  |cons a b=>
   cases a
   exact .cons _ _ (ih _ b)
theorem script_of{l:OpenLaw}{n:Nat}(hn:l.most=some n){P:Params}{h:Heap}{args:List WData}{vals:List Value}
 (hpre:l.row.toRowW.claim.pre args=true)(hwl:WellAll P h vals args):
 ∃a vs ns,vals=[Value.ref a]/\args=[WData.list (ns.map WData.int)]/\h.get? a=some {cls:=.type "list",data:=.seq vs.toArray}/\IntsAre vs ns/\ns.length<=n:=by
 have hsh:WShape.hasAll [] args [.list .int]=true:=(pre_splitW hpre).1
 have hc:l.pre.holds [] {args:=args}=true:=(pre_splitW hpre).2
 obtain⟨d,r,rfl,h1,h2⟩:=hasAllW_cons hsh
 obtain rfl:=hasAllW_nil h2
 obtain⟨xs,rfl,h3⟩:=hasW_list h1
 obtain⟨ns,rfl⟩:=items_int h3
 have hlen:ns.length<=n:=by
  unfold OpenLaw.pre at hc
  have h4:(WTm.not (.lt (.lit (.int (n:Int))) (.len (.arg 0)))).holds [] {args:=[.list (ns.map .int)]}=true:=by
   have h4:=(holds_andW hc).1
   rw[hn]at h4
   exact h4
  have h5:=condW_of h4 (w_not (w_lt w_lit (w_len_list (w_arg rfl))))
  rw[List.length_map]at h5
  refine Nat.le_of_not_lt λq=>?_
  have q':(n:Int)<((ns.length:Nat):Int):=by omega
  first
   |(rw[decide_eq_true q']at h5;exact absurd h5 (by decide))
   |(simp at h5;omega)
 cases hwl with
 |cons w1 w2=>
  cases w2
  cases w1 with
  |list ho hall=>exact⟨_,_,ns,rfl,rfl,ho,ints_of_wellAll ns _ hall,hlen⟩
theorem post_true(l:OpenLaw)(args:List WData):l.row.toRowW.claim.post args (.bool true) args=true:=
 postW_of (r:=l.row.toRowW) (X:=(true==true))
  (show WShape.has [] (.bool true) .bool=true by first|rfl|decide|simp[WShape.has,WShape.arms,WShape.armsAll])
  (show(WTm.eq .res (.lit (.bool true))).value [] {args:=args,res:=some (.bool true),after:=args}=some (.bool (true==true)) from w_eq_bool (w_res rfl) w_lit) rfl
section
variable {prog : Program} {w : World} {A : Around} {E : Value → Shared → Prop} {s : Shared} {K : Frag}
end
end Att
namespace L2
open PySem PySem.Spec PyProof.Rows
theorem ai2:∀{vs:List Value}{ns:List Int},IntsAre vs ns->Vals (ns.map V.int) vs
 |_,_,.nil=>.nil
 |_,_,.cons n t h=>.cons ⟨t,rfl⟩ (ai2 h)
def cq3(H:Hp):Prop:=∀b,H b=none\/∃o xs,H b=some (.frz o (.lst xs))
theorem bt3{P:Program}{w:World}{K:PySem.W.Frag}{mg mb:Str->Option Value}{CX:qY}{k:Nat}{fa a:Addr}{fd:FuncData}{x:Str}{sp:Sp}{s₁:Shared}{vs:List Value}{ns:List Int}
 (KX:K.In s₁.heap)(hns:s₁.heap.Ns mainGlobals mg)(hb:s₁.heap.Ns builtinsNs mb)(hbb:∀x:Str,x≠"__name__"->mb x=bootBuiltins x)(hlim:s₁.heap.NoLimit)(hg:s₁.gens=#[])
 (ha:s₁.heap.get? a=some {cls:=.type "list",data:=.seq vs.toArray})(hi:IntsAre vs ns)(hl:ns.length<=sizeLine)(hr:Room k callerA)
 (F:∀base:Heap,K.In base->base.Ns mainGlobals mg->FnOk P w K mg base CX k fa fd [x] sp)(hbind:∀(s:Shared)(u:Value),BindsTo s fd ⟨[u],[]⟩ [(x,u)])
 (hsp:∀H:Hp,cq3 H->SqL K H a (ns.map V.int)->sp [.ref a] H (λv _=>v=.bl true) λ_ _ _=>False)
 (hCX:∀H e s',CX [] H s₁ (λ_ _ _=>False) e s'->False):
 codeAny (model P w) callerA (.call (.ref fa) ⟨[.ref a],[]⟩) (λr s'=>r=.ok (.ret (.bool true))/\OldK s₁.heap s'.heap/\s'.os=s₁.os/\AllBare s'.gens) s₁:=by
 have rv:=ai2 hi
 have lenV:=hi.length
 have core:∀H:Hp,cq3 H->SqL K H a (ns.map V.int)->HOk P w H s₁.heap->(∀b,H b≠none->b=a)->(H a≠none->K.lookup a=none)->
  codeAny (model P w) callerA (.call (.ref fa) ⟨[.ref a],[]⟩) (λr s'=>r=.ok (.ret (.bool true))/\OldK s₁.heap s'.heap/\s'.os=s₁.os/\AllBare s'.gens) s₁:=by
  intro H hO hS hok hA hK
  have base_of:∀{b:Addr}{o:Obj},s₁.heap.get? b=some o->H b=none->(uM s₁.heap H).get? b=some o:=λe n=>bn6 e n
  have noA:∀{b:Addr}{o:Obj}{es:Array DictEntry}{ep:Nat},s₁.heap.get? b=some o->o.data=.dict es ep->H b=none:=λ{b o es ep} e d=>by
   cases q:H b with
   |none=>rfl
   |some u=>
    have e':b=a:=hA b (by rw[q];simp)
    subst e'
    rw[ha]at e;cases e
    have d':Data.seq vs.toArray _=Data.dict es ep:=d
    cases d'
  have nsK:∀{b:Addr}{m:Str->Option Value},s₁.heap.Ns b m->(uM s₁.heap H).Ns b m:=λ{b m} ⟨o,es,ep,e,d,r⟩=>⟨o,es,ep,base_of e (noA e d),d,r⟩
  have hKb:K.In (uM s₁.heap H):=λb o e=>base_of (KX b o e) (by
   cases q:H b with
   |none=>rfl
   |some u=>
    have e':b=a:=hA b (by rw[q];simp)
    subst e'
    rw[hK (by rw[q];simp)]at e;cases e)
  have hM:Mod K mg (uM s₁.heap H):=⟨hKb,nsK hns,⟨mb,nsK hb,hbb⟩,let⟨mc,h1,h2⟩:=hlim;⟨mc,nsK h1,h2⟩⟩
  have e0:Env0 P w K mg (uM s₁.heap H) callerA [] s₁ H:=⟨rfl,hM,λb o e=>bo9 e,Nat.le_of_eq (bp0 _ _),trivial,λb hb=>absurd (show b∈([]:List Addr) from hb) (by simp),hok,.of_eq hg⟩
  refine codeAny_mono ((F _ hKb (nsK hns)).run callerA [] s₁ H ⟨[.ref a],[]⟩ [.ref a] [.ref a] _ _ hr e0 (hbind s₁ (.ref a)) (.cons rfl .nil) (hsp H hO hS)) λr s' h=>?_
  cases r with
  |error e=>exact(hCX H e s' h).elim
  |ok fl=>
   cases fl with
   |next=>exact False.elim h
   |brk=>exact False.elim h
   |cont=>exact False.elim h
   |ret u=>
    obtain⟨v,H',os,bare,un,hok',r',q⟩:=h
    have q':v=.bl true:=q
    subst q'
    obtain rfl:u=Value.bool true:=r'
    refine⟨rfl,OldK.of_keep λb o e=>?_,os,bare⟩
    cases q:H b with
    |none=>exact un.keep b o e q (by intro z;exact absurd (show b∈([]:List Addr) from z) (by simp)) (by simp)
    |some u=>
     rcases hO b with z|⟨ob,xs,z⟩
     . rw[q]at z;cases z
     . have z2:=un.frzs b ob _ z
       obtain⟨e1,_⟩:=hok b _ z
       obtain⟨e2,_⟩:=hok' b _ z2
       rw[e]at e1;cases e1
       exact e2
 cases hk:K.lookup a with
 |some o=>
  have e:=KX a o hk
  rw[ha]at e
  cases e
  refine core (λ_=>none) (λ_=>.inl rfl) (.inr ⟨_,vs.toArray,_,hk,rfl,rfl,rfl,by rw[List.size_toArray,lenV];exact hl,by simpa using rv⟩) (λb u z=>by have z':(none:Option HO)=some u:=z;cases z') (λb z=>absurd rfl z) λz=>absurd rfl z
 |none=>
  refine core (λb=>if b=a then some (.frz {cls:=.type "list",data:=.seq vs.toArray} (.lst (ns.map V.int)))else none) (λb=>?_) (.inl (.inr ⟨{cls:=.type "list",data:=.seq vs.toArray},if_pos rfl⟩)) (λb u z=>?_) (λb z=>?_) λ_=>hk
  . by_cases hb:b=a
    . exact .inr ⟨_,_,if_pos hb⟩
    . exact .inl (if_neg hb)
  . by_cases hb:b=a
    . have z':=(if_pos hb).symm.trans z
      cases z'
      subst hb
      exact⟨ha,by rw[List.length_map];exact hl,vs,_,rv,ha⟩
    . have z':=(if_neg hb).symm.trans z
      cases z'
  . by_cases hb:b=a
    . exact hb
    . exact absurd (if_neg hb) z
end L2
namespace L2
open PySem PySem.Spec PyProof.Rows
end L2
namespace L2
open PySem PySem.Spec PyProof.Rows
def ah1(s:Stmt)(j:Nat):Stmt:=match s with
 |.ClassDef _ _ _ body _ _ _ _ _ _ _=>body.getD j (.Pass ⟨0,0,0,0⟩)
 |_=>.Pass ⟨0,0,0,0⟩
def fZ(s:Stmt):Arguments:=match s with
 |.FunctionDef _ a _ _ _ _ _ _ _ _=>a
 |_=>{posonlyargs:=[],args:=[],vararg:=none,kwonlyargs:=[],kw_defaults:=[],kwarg:=none,defaults:=[]}
def cF(s:Stmt):List Stmt:=match s with
 |.FunctionDef _ _ b _ _ _ _ _ _ _=>b
 |_=>[]
def aS(s:Stmt):Scope:=match s with
 |.FunctionDef _ _ _ _ _ _ sc _ _ _=>sc
 |_=>{kind:=.function,names:=[],isGenerator:=false,isCoroutine:=false}
abbrev mZ:qY:=λ_ _ _ _ _ _=>False
abbrev E0:XK:=λ_ _ _=>False
theorem bd7{X:Cx}:pF mZ X E0:=λ_ _ _ _ _ _ _ h=>h.elim
structure Fun (K:PySem.W.Frag) (x qual:Str) (st:Stmt) (f:Addr) (fd:FuncData):Prop where
 ex:∃(oc:Value)(od:Option Addr)(kV doc pm:Value)(an:Option Addr)(cdv ct:Value)(osl:Array (Option Value)),
  fd=PySem.W.fnOf x qual (fZ st) (cF st) (aS st) .none kV doc pm an cdv ct/\K.lookup f=some ⟨oc,od,.func fd,osl⟩/\PySem.W.codeIn K cdv qual=true
 kp:PySem.W.keepIn K (.ref f)=true
section
variable {P : Program} {w : World} {K : PySem.W.Frag} {mg : Str → Option Value} {base : Heap}
theorem Fun.ok{x qual:Str}{st:Stmt}{f:Addr}{fd:FuncData}{N ps:List Str}{k:Nat}{sp:Sp}(F:Fun K x qual st f fd)(S:bL N ps (aS st))(len:∀vs H Q E,sp vs H Q E->vs.length=ps.length)
 (hbody:∀(cdv:Value)(A:Around)(outer:List Env)(s:Shared)(H:Hp)(vs:List V)(Q:VK)(E:XK),Room k (A.deeper (envOfC qual (aS st) s.heap.objs.size f cdv))->sp vs H Q E->
  ∃t,PSs (kB mZ P w K mg base N qual (aS st) f cdv A outer s H E).nox (cF st) t/\t {nx:=λ_ H'=>Q .non H',rt:=Q} (fV N vs) H):FnOk P w K mg base mZ (k+1) f fd ps sp:=by
 obtain⟨oc,od,kV,doc,pm,an,cdv,ct,osl,rfl,lk,hcd⟩:=F.ex
 refine br7 lk hcd S len λA outer s H vs Q E hr hsp=>?_
 obtain⟨t,h,q⟩:=hbody cdv A outer s H vs Q E hr hsp
 exact⟨t,h.nox,q⟩
theorem Fun.binds{x qual:Str}{st:Stmt}{f:Addr}{fd:FuncData}{ps:List Str}(F:Fun K x qual st f fd)
 (h:∀(kV doc pm:Value)(an:Option Addr)(cdv ct:Value)(us:List Value),us.length=ps.length->bindArgs (PySem.W.fnOf x qual (fZ st) (cF st) (aS st) .none kV doc pm an cdv ct) ⟨us,[]⟩=pure (ps.zip us)):Binds K fd ps []:=by
 obtain⟨oc,od,kV,doc,pm,an,cdv,ct,osl,rfl,lk,hcd⟩:=F.ex
 exact .all (h kV doc pm an cdv ct)
theorem wV{x qual:Str}{st:Stmt}{f:Addr}{oc:Value}{od an:Option Addr}{osl:Array (Option Value)}{kV doc pm cdv ct:Value}(l:K.lookup f=some ⟨oc,od,.func (PySem.W.fnOf x qual (fZ st) (cF st) (aS st) .none kV doc pm an cdv ct),osl⟩)
 (c:PySem.W.codeIn K cdv qual=true)(k:PySem.W.keepIn K (.ref f)=true):Fun K x qual st f (PySem.W.fnOf x qual (fZ st) (cF st) (aS st) .none kV doc pm an cdv ct):=⟨⟨oc,od,kV,doc,pm,an,cdv,ct,osl,rfl,l,c⟩,k⟩
end
section
variable {X : Cx}
theorem pv(i:Nat){x:Str}{pos:Pos}(hN:X.N[i]?=some x:=by rfl)(hv:Vis X.env.scope x:=by first|exact Or.inl rfl|exact Or.inr (Or.inl rfl)|exact Or.inr (Or.inr rfl))(hd:(x==("__debug__":Str))=false:=by decide)
 (hcd:(x==("__classdict__":Str))=false:=by decide):PE X (.Name x pos) (oF i):=ao4 hN hv hd hcd
end
def Same(H H':Hp):Prop:=∀b o,H b=some o->H' b=some o
theorem Same.refl(H:Hp):Same H H:=λ_ _ h=>h
theorem Same.trans{H H1 H2:Hp}(a:Same H H1)(b:Same H1 H2):Same H H2:=λc o h=>b c o (a c o h)
theorem Same.free{H H':Hp}(e:Same H H'){l:Addr}(h:H' l=Option.none):H l=Option.none:=by
 cases q:H l with
 |none=>rfl
 |some o=>
  rw[e l o q]at h
  cases h
theorem Same.seq{K:PySem.W.Frag}{H H':Hp}{a:Addr}{xs:List V}(e:Same H H')(h:SqL K H a xs):SqL K H' a xs:=by
 rcases h with(h|⟨o,h⟩)|h
 . exact .inl (.inl (e _ _ h))
 . exact .inl (.inr ⟨o,e _ _ h⟩)
 . exact .inr h
end L2
namespace L2
open PySem PySem.Spec PyProof.Rows
def cc3:R2:=λx y H Q=>∃i j,x=.int i/\y=.int j/\IntMulOk i j/\Q (.int (i*j)) H
section
variable {X : Cx}
theorem op_mulB:OpR X (binaryOp .Mult) cc3:=by
 intro pins s σ H x y v u Q I rx ry h
 obtain⟨i,j,rfl,rfl,hc,q⟩:=h
 obtain⟨t,rfl⟩:=rx
 obtain⟨t',rfl⟩:=ry
 exact mul_int ⟨.int (i*j),H,I.tok _,⟨_,rfl⟩,q⟩ hc
def TyN(K:PySem.W.Frag)(H:Hp)(x:V)(tx:String):Prop:=match x with
 |.int _=>tx="int"
 |.bl _=>tx="bool"
 |.str _=>tx="str"
 |.ref p=>(tx="list"/\∃xs,SqL K H p xs)\/(tx="tuple"/\∃xs,SqT K H p xs)
 |_=>False
inductive fY:String->String->Bool->Prop where
 |int_int:fY "int" "int" true
 |int_bool:fY "int" "bool" false
 |int_str:fY "int" "str" false
 |int_list:fY "int" "list" false
 |int_tuple:fY "int" "tuple" false
 |bool_int:fY "bool" "int" true
 |bool_bool:fY "bool" "bool" true
 |bool_str:fY "bool" "str" false
 |bool_list:fY "bool" "list" false
 |bool_tuple:fY "bool" "tuple" false
 |str_int:fY "str" "int" false
 |str_bool:fY "str" "bool" false
 |str_str:fY "str" "str" true
 |str_list:fY "str" "list" false
 |str_tuple:fY "str" "tuple" false
 |list_int:fY "list" "int" false
 |list_bool:fY "list" "bool" false
 |list_str:fY "list" "str" false
 |list_list:fY "list" "list" true
 |list_tuple:fY "list" "tuple" false
 |tuple_int:fY "tuple" "int" false
 |tuple_bool:fY "tuple" "bool" false
 |tuple_str:fY "tuple" "str" false
 |tuple_list:fY "tuple" "list" false
 |tuple_tuple:fY "tuple" "tuple" true
theorem bc5:CallR X (.builtin "isinstance") (λxs H Q=>∃x T tx b,xs=[x,.ty T]/\TyN X.K H x tx/\fY tx T b/\Q (.bl b) H):=by
 intro pins s σ H xs us Q I r h
 obtain⟨x,T,tx,b,rfl,ht,ho,q⟩:=h
 obtain⟨u,v,rfl,rx,rT⟩:=r.two
 obtain rfl:v=Value.type T:=rT
 have fin1:EP X pins σ Q (.bool b) s:=⟨.bl b,H,I,rfl,q⟩
 have fin2:EP X pins σ Q (.bool b) {s with toks:=s.toks+1}:=⟨.bl b,H,I.tok _,rfl,q⟩
 cases x with
 |int i=>
  obtain⟨t,rfl⟩:=rx
  have ht:tx="int":=ht
  cases ho with
  |int_int=>exact IsiPair.int_int fin1
  |int_bool=>exact IsiPair.int_bool fin2
  |int_str=>exact IsiPair.int_str fin2
  |int_list=>exact IsiPair.int_list fin2
  |int_tuple=>exact IsiPair.int_tuple fin2
  |bool_int=>exact absurd ht (by decide+kernel)
  |bool_bool=>exact absurd ht (by decide+kernel)
  |bool_str=>exact absurd ht (by decide+kernel)
  |bool_list=>exact absurd ht (by decide+kernel)
  |bool_tuple=>exact absurd ht (by decide+kernel)
  |str_int=>exact absurd ht (by decide+kernel)
  |str_bool=>exact absurd ht (by decide+kernel)
  |str_str=>exact absurd ht (by decide+kernel)
  |str_list=>exact absurd ht (by decide+kernel)
  |str_tuple=>exact absurd ht (by decide+kernel)
  |list_int=>exact absurd ht (by decide+kernel)
  |list_bool=>exact absurd ht (by decide+kernel)
  |list_str=>exact absurd ht (by decide+kernel)
  |list_list=>exact absurd ht (by decide+kernel)
  |list_tuple=>exact absurd ht (by decide+kernel)
  |tuple_int=>exact absurd ht (by decide+kernel)
  |tuple_bool=>exact absurd ht (by decide+kernel)
  |tuple_str=>exact absurd ht (by decide+kernel)
  |tuple_list=>exact absurd ht (by decide+kernel)
  |tuple_tuple=>exact absurd ht (by decide+kernel)
 |bl i=>
  cases rx
  have ht:tx="bool":=ht
  cases ho with
  |int_int=>exact absurd ht (by decide+kernel)
  |int_bool=>exact absurd ht (by decide+kernel)
  |int_str=>exact absurd ht (by decide+kernel)
  |int_list=>exact absurd ht (by decide+kernel)
  |int_tuple=>exact absurd ht (by decide+kernel)
  |bool_int=>exact IsiPair.bool_int fin1
  |bool_bool=>exact IsiPair.bool_bool fin1
  |bool_str=>exact IsiPair.bool_str fin2
  |bool_list=>exact IsiPair.bool_list fin2
  |bool_tuple=>exact IsiPair.bool_tuple fin2
  |str_int=>exact absurd ht (by decide+kernel)
  |str_bool=>exact absurd ht (by decide+kernel)
  |str_str=>exact absurd ht (by decide+kernel)
  |str_list=>exact absurd ht (by decide+kernel)
  |str_tuple=>exact absurd ht (by decide+kernel)
  |list_int=>exact absurd ht (by decide+kernel)
  |list_bool=>exact absurd ht (by decide+kernel)
  |list_str=>exact absurd ht (by decide+kernel)
  |list_list=>exact absurd ht (by decide+kernel)
  |list_tuple=>exact absurd ht (by decide+kernel)
  |tuple_int=>exact absurd ht (by decide+kernel)
  |tuple_bool=>exact absurd ht (by decide+kernel)
  |tuple_str=>exact absurd ht (by decide+kernel)
  |tuple_list=>exact absurd ht (by decide+kernel)
  |tuple_tuple=>exact absurd ht (by decide+kernel)
 |str i=>
  obtain⟨t,rfl⟩:=rx
  have ht:tx="str":=ht
  cases ho with
  |int_int=>exact absurd ht (by decide+kernel)
  |int_bool=>exact absurd ht (by decide+kernel)
  |int_str=>exact absurd ht (by decide+kernel)
  |int_list=>exact absurd ht (by decide+kernel)
  |int_tuple=>exact absurd ht (by decide+kernel)
  |bool_int=>exact absurd ht (by decide+kernel)
  |bool_bool=>exact absurd ht (by decide+kernel)
  |bool_str=>exact absurd ht (by decide+kernel)
  |bool_list=>exact absurd ht (by decide+kernel)
  |bool_tuple=>exact absurd ht (by decide+kernel)
  |str_int=>exact IsiPair.str_int fin2
  |str_bool=>exact IsiPair.str_bool fin2
  |str_str=>exact IsiPair.str_str fin1
  |str_list=>exact IsiPair.str_list fin2
  |str_tuple=>exact IsiPair.str_tuple fin2
  |list_int=>exact absurd ht (by decide+kernel)
  |list_bool=>exact absurd ht (by decide+kernel)
  |list_str=>exact absurd ht (by decide+kernel)
  |list_list=>exact absurd ht (by decide+kernel)
  |list_tuple=>exact absurd ht (by decide+kernel)
  |tuple_int=>exact absurd ht (by decide+kernel)
  |tuple_bool=>exact absurd ht (by decide+kernel)
  |tuple_str=>exact absurd ht (by decide+kernel)
  |tuple_list=>exact absurd ht (by decide+kernel)
  |tuple_tuple=>exact absurd ht (by decide+kernel)
 |ref p=>
  cases rx
  have ht:(tx="list"/\∃xs,SqL X.K H p xs)\/(tx="tuple"/\∃xs,SqT X.K H p xs):=ht
  rcases ht with⟨ht,ys,hq⟩|⟨ht,ys,hq⟩
  . obtain⟨its,rv,⟨o,n,e,c,d,dt⟩,hz⟩:=I.list hq
    cases ho with
    |int_int=>exact absurd ht (by decide+kernel)
    |int_bool=>exact absurd ht (by decide+kernel)
    |int_str=>exact absurd ht (by decide+kernel)
    |int_list=>exact absurd ht (by decide+kernel)
    |int_tuple=>exact absurd ht (by decide+kernel)
    |bool_int=>exact absurd ht (by decide+kernel)
    |bool_bool=>exact absurd ht (by decide+kernel)
    |bool_str=>exact absurd ht (by decide+kernel)
    |bool_list=>exact absurd ht (by decide+kernel)
    |bool_tuple=>exact absurd ht (by decide+kernel)
    |str_int=>exact absurd ht (by decide+kernel)
    |str_bool=>exact absurd ht (by decide+kernel)
    |str_str=>exact absurd ht (by decide+kernel)
    |str_list=>exact absurd ht (by decide+kernel)
    |str_tuple=>exact absurd ht (by decide+kernel)
    |list_int=>exact IsiPair.list_int e c fin2
    |list_bool=>exact IsiPair.list_bool e c fin2
    |list_str=>exact IsiPair.list_str e c fin2
    |list_list=>exact IsiPair.list_list e c fin1
    |list_tuple=>exact IsiPair.list_tuple e c fin2
    |tuple_int=>exact absurd ht (by decide+kernel)
    |tuple_bool=>exact absurd ht (by decide+kernel)
    |tuple_str=>exact absurd ht (by decide+kernel)
    |tuple_list=>exact absurd ht (by decide+kernel)
    |tuple_tuple=>exact absurd ht (by decide+kernel)
  . obtain⟨its,rv,⟨o,e,c,n,d⟩,hz⟩:=I.tuple hq
    cases ho with
    |int_int=>exact absurd ht (by decide+kernel)
    |int_bool=>exact absurd ht (by decide+kernel)
    |int_str=>exact absurd ht (by decide+kernel)
    |int_list=>exact absurd ht (by decide+kernel)
    |int_tuple=>exact absurd ht (by decide+kernel)
    |bool_int=>exact absurd ht (by decide+kernel)
    |bool_bool=>exact absurd ht (by decide+kernel)
    |bool_str=>exact absurd ht (by decide+kernel)
    |bool_list=>exact absurd ht (by decide+kernel)
    |bool_tuple=>exact absurd ht (by decide+kernel)
    |str_int=>exact absurd ht (by decide+kernel)
    |str_bool=>exact absurd ht (by decide+kernel)
    |str_str=>exact absurd ht (by decide+kernel)
    |str_list=>exact absurd ht (by decide+kernel)
    |str_tuple=>exact absurd ht (by decide+kernel)
    |list_int=>exact absurd ht (by decide+kernel)
    |list_bool=>exact absurd ht (by decide+kernel)
    |list_str=>exact absurd ht (by decide+kernel)
    |list_list=>exact absurd ht (by decide+kernel)
    |list_tuple=>exact absurd ht (by decide+kernel)
    |tuple_int=>exact IsiPair.tuple_int e c fin2
    |tuple_bool=>exact IsiPair.tuple_bool e c fin2
    |tuple_str=>exact IsiPair.tuple_str e c fin2
    |tuple_list=>exact IsiPair.tuple_list e c fin2
    |tuple_tuple=>exact IsiPair.tuple_tuple e c fin1
 |_=>exact(show False from ht).elim
theorem yQ:∀{bs:List Bool}{us:List Value}{i:Nat}{u:Value},Vals (bs.map V.bl) us->us[i]?=some u->∃b,bs[i]?=some b/\u=.bool b
 |[],_,_,_,.nil,e=>by simp at e
 |b::bs,_,0,_,.cons r _,e=>by
  simp at e
  subst e
  exact⟨b,rfl,r⟩
 |b::bs,_,i+1,_,.cons _ t,e=>by
  obtain⟨c,h1,h2⟩:=yQ (i:=i) t (by simpa using e)
  exact⟨c,by simpa using h1,h2⟩
theorem bl1(bs:List Bool):((List.range bs.length).all λi=>(bs[i]?).getD true)=bs.all id:=by
 rw[Bool.eq_iff_iff,List.all_eq_true,List.all_eq_true]
 constructor
 . intro h b hb
   obtain⟨i,hi,e⟩:=List.mem_iff_getElem.mp hb
   have q:=h i (List.mem_range.mpr hi)
   rw[List.getElem?_eq_getElem hi,e]at q
   exact q
 . intro h i hi
   have hi':=List.mem_range.mp hi
   rw[List.getElem?_eq_getElem hi']
   exact h _ (List.getElem_mem hi')
theorem av5{s:Shared}{h':Heap}{o:Obj}(hk:∀b x,b∉[s.heap.objs.size]->(s.heap.push o).get? b=some x->h'.get? b=some x):∀b x,s.heap.get? b=some x->h'.get? b=some x:=
 λb x e=>hk b x (λhm=>by rw[List.mem_singleton.mp hm]at e;exact Nat.lt_irrefl _ (Heap.lt_size e)) (Heap.get?_push_of_some _ e)
theorem bf4(hc:X.calm=true):CallR X (.builtin "all") (λxs H Q=>∃(p:Addr)(bs:List Bool),xs=[.ref p]/\SqL X.K H p (bs.map V.bl)/\Q (.bl (bs.all id)) H):=by
 intro pins s σ H xs us Q I r h
 obtain⟨p,bs,rfl,hq,q⟩:=h
 obtain⟨u,rfl,r1⟩:=r.one
 obtain rfl:u=Value.ref p:=r1
 obtain⟨its,rv,pl,hz⟩:=I.list hq
 have hl:=pl.isList
 have hlen:bs.length=its.length:=by have:=rv.length;rwa[List.length_map]at this
 have hlt:p<s.heap.objs.size:=by obtain⟨_,_,e,_⟩:=pl;exact Heap.lt_size e
 refine call_all_walk (wpAny_pyIter_list hl ?_)
 refine⟨s.heap.objs.size,[s.heap.objs.size,p],[s.heap.objs.size],its.toArray.size,_,_,λi=>(bs[i]?).getD true,rfl,Walks.list (A:=X.A.in1) (I.ok.hd hc) _ p (Nat.ne_of_lt hlt) its.toArray,
  ⟨⟨_,Heap.get?_push_size _ rfl,rfl,rfl⟩,hl.push _⟩,λi v s' Q' E' hP hQ=>?_,λh' tk hk=>?_⟩
 . obtain⟨b,e,rfl⟩:=yQ rv (i:=i) (u:=v) (by simpa using hP)
   simp only[e,Option.getD_some]at hQ
   exact wpAny_truthy_bool hQ
 . have e:((List.range its.toArray.size).all λi=>(bs[i]?).getD true)=bs.all id:=by
    rw[List.size_toArray,<-hlen]
    exact bl1 bs
   rw[e]
   exact⟨.bl _,H,I.kept (av5 hk),rfl,q⟩
end
structure dL (P:Program) (w:World) (K:PySem.W.Frag) (mg:Str->Option Value) (base:Heap) (k:Nat) (x:Str) (ps:List Str) (sp:Sp):Prop where
 ex:∃f fd,FnOk P w K mg base mZ k f fd ps sp/\mg x=some (.ref f)/\PySem.W.keepIn K (.ref f)=true/\Binds K fd ps []
def au5(sp:Sp)(t:TA):TE:=λσ H Q=>t σ H λvs H1=>sp vs H1 Q E0
section
variable {X : Cx}
theorem bX{k:Nat}{x:Str}{ps:List Str}{sp:Sp}{p pos:Pos}{e:Expr}{es:List Expr}{t:TA}(d:dL X.prog X.w X.K X.mg X.base k x ps sp)(hr:Room k X.A)(ha:PA X (e::es) t)(hg:Gl X x:=by rfl)
 (hdb:(x==("__debug__":Str))=false:=by decide)(he:starEach (e::es) X.env=(false,eval e X.env)::starEach es X.env:=by rfl)(hpl:(backTo pos (starEach es X.env)).any (·.1)=false:=by rfl):
 PE X (.Call (.Name x p) (e::es) [] pos) (au5 sp t):=by
 obtain⟨f,fd,F,hm,hk,hb⟩:=d.ex
 intro pins s σ H Q I h
 have e1:(λvs H1=>sp (vs++[]) H1 Q E0)=λvs H1=>sp vs H1 Q E0:=by
  funext vs H1
  rw[List.append_nil]
 refine be8 F hr hg hm hk hb .nil bd7 ha hdb he hpl s σ H Q I ?_
 show t σ H λvs H1=>sp (vs++[]) H1 Q E0
 rw[e1]
 exact h
end
end L2
namespace Att
open PySem PySem.W PySem.Calls PyProof.Rows
theorem weight_mem:∀(ns:List Int)(n:Int),n∈ns->WData.weight (.int n)<=WData.weightAll (ns.map WData.int)
 |m::ns,n,h=>by
  rw[List.map_cons]
  simp only[WData.weightAll]
  rcases List.mem_cons.mp h with rfl|h
  . omega
  . have:=weight_mem ns n h
    omega
theorem bits_of{ns:List Int}(h:WData.layableAll [.list (ns.map WData.int)]=true):∀n∈ns,Builtin.Int.intBits n<=1048576:=by
 intro n hn
 have h1:WData.layable (.list (ns.map WData.int))=true:=by
  have h2:([WData.list (ns.map WData.int)].all WData.layable)=true:=h
  rw[List.all_cons,Bool.and_eq_true]at h2
  exact h2.1
 unfold WData.layable at h1
 rw[Bool.and_eq_true]at h1
 have h3:=of_decide_eq_true h1.2
 have h4:=weight_mem ns n hn
 have h5:WData.weight (.int n)=Builtin.Int.intBits n:=by
  unfold WData.weight Builtin.Int.intBits
  rfl
 have h6:WData.weight (.list (ns.map WData.int))=WData.weightAll (ns.map WData.int):=by
  conv=>lhs;unfold WData.weight
 rw[h6]at h3
 rw[h5]at h4
 have h7:(2:Nat)^20=1048576:=by decide
 omega
theorem attach_callB{l:OpenLaw}{n:Nat}{q:Program}{loose:List Str}{XP:(Str->Option Value)->Heap->Prop}{YP:World->Heap->Prop}{d:DefRec}
 (hn:l.most=some n)(hdf:d.params.defaults=[])
 (call:∀(w:World)(s₀ s₁:Shared)(mg mb:Str->Option Value)(fa:Addr)(o:Obj)(pm cd doc:Value)(a:Addr)(vs:List Value)(ns:List Int),
  Ground q loose [] XP w s₀ mg mb s₁.heap->YP w s₁.heap->
  s₁.heap.get? fa=some o->o.data=.func (docDef d.name d.params d.body d.scope pm cd doc)->s₁.heap.CodeRec cd d.name->mg d.name=some (.ref fa)->
  s₁.heap.get? a=some {cls:=.type "list",data:=.seq vs.toArray}->IntsAre vs ns->ns.length<=n->s₁.gens=#[]->(∀n∈ns,Builtin.Int.intBits n<=1048576)->
  codeAny (model l.prog w) callerA (.call (.ref fa) ⟨[.ref a],[]⟩) (λr s'=>r=.ok (.ret (.bool true))/\OldK s₁.heap s'.heap/\s'.os=s₁.os/\AllBare s'.gens) s₁):
 WalkO q loose XP YP l.row.toRowW d [] (λf vs=>PySem.call f vs):=by
 intro w s₀ s₁ mg mb G Y fa o pm cd doc dV kV ho hd hcd hD hmg hg args vals as hpre hlay hrd hwl hlo
 obtain rfl:dV=.none:=Dflts.none hD hdf
 obtain rfl:kV=.none:=Dflts.noKw hD
 obtain⟨a,vs,ns,rfl,rfl,hobj,hints,hlen⟩:=script_of hn hpre hwl
 refine enter_call (codeAny_mono (call w s₀ s₁ mg mb fa o pm cd doc a vs ns G Y ho (fd_plain hd) hcd hmg hobj hints hlen hg (bits_of hlay)) λr s' hq=>?_)
 obtain⟨rfl,h2,h3,h4⟩:=hq
 exact⟨.inl ⟨.bool true,.bool true,[],rfl,λ_=>rfl,.bool true,post_true l _,λ_=>⟨List.Pairwise.nil,λ_ hm=>(nomatch hm)⟩⟩,h2,h3,h4⟩
end Att
namespace L2
open PySem PySem.Spec PyProof.Rows
def SqS(K:PySem.W.Frag)(H:Hp)(a:Addr)(xs:List V):Prop:=
 Rd H a (.lst xs)\/
  ∃(o:Obj)(its:Array Value)(n:Nat),K.lookup a=some o/\o.cls=.type "list"/\o.dict=none/\o.slots=#[]/\o.data=.seq its n/\its.size<=sizeLine/\Vals xs its.toList
theorem SqS.sq{K:PySem.W.Frag}{H:Hp}{a:Addr}{xs:List V}(h:SqS K H a xs):SqL K H a xs:=by
 rcases h with h|⟨o,its,n,h1,h2,h3,_,h5,h6,h7⟩
 . exact .inl h
 . exact .inr ⟨o,its,n,h1,h2,h3,h5,h6,h7⟩
theorem Inv.listS{X:Cx}{pins:List (Addr×Obj)}{σ:St}{H:Hp}{s:Shared}{a:Addr}{xs:List V}(I:Inv X pins σ H s)(h:SqS X.K H a xs):∃(its:List Value)(n:Nat),Vals xs its/\s.heap.get? a=some {cls:=.type "list",data:=.seq its.toArray n}/\xs.length<=sizeLine:=by
 rcases h with h|⟨o,its,n,hk,hc,hd,hsl,hs,hz,r⟩
 . obtain⟨z,its,n,r,e⟩:=h.ok I.hok
   exact⟨its,n,r,e,z⟩
 . have e:=I.kIn a o hk
   obtain⟨cls,dict,data,slots⟩:=o
   simp only at hc hd hsl hs
   subst hc hd hsl hs
   refine⟨its.toList,n,r,by simpa using e,?_⟩
   have:=r.length
   simp only[Array.length_toList]at this
   omega
def as3(K:PySem.W.Frag):Sp:=λvs H Q _=>∃(a:Addr)(ns:List Int),vs=[.ref a]/\SqS K H a (ns.map V.int)/\ns.length<=63/\(∀n∈ns,Builtin.Int.intBits n<=1048576)/\∀H',Q (.bl true) H'
theorem bi4{l:PySem.W.OpenLaw}{k:Nat}{q:Program}{loose:List Str}{XP:(Str->Option Value)->Heap->Prop}{YP:World->Heap->Prop}{d:DefRec}{K:Params->PySem.W.Frag}{x:Str}
 (hn:l.most=some 63)(hdf:d.params.defaults=[])(hr:Room k callerA)
 (hY:∀(w:World)(h:Heap),YP w h->(K w.params).In h)
 (F:∀(w:World)(mg:Str->Option Value)(fa:Addr)(h:Heap),(K w.params).In h->h.Ns mainGlobals mg->mg d.name=some (.ref fa)->
  ∃fd:FuncData,(∀(s:Shared)(u:Value),BindsTo s fd ⟨[u],[]⟩ [(x,u)])/\
   ∀base:Heap,(K w.params).In base->base.Ns mainGlobals mg->FnOk l.prog w (K w.params) mg base mZ k fa fd [x] (as3 (K w.params))):
 PySem.W.WalkO q loose XP YP l.row.toRowW d [] (λf vs=>PySem.call f vs):=by
 refine Att.attach_callB hn hdf λw s₀ s₁ mg mb fa o pm cd doc a vs ns G Y ho hd hcd hmg hobj hints hlen hg hbits=>?_
 have KX:=hY w _ Y
 obtain⟨fd,hb,hF⟩:=F w mg fa _ KX G.T.g hmg
 have hS':∀{H:Hp},SqL (K w.params) H a (ns.map V.int)->SqS (K w.params) H a (ns.map V.int):=λ{H} h=>by
  rcases h with h|⟨o,its,n,h1,h2,h3,h5,h6,h7⟩
  . exact .inl h
  . have e:=KX a o h1
    rw[hobj]at e
    cases e
    exact .inr ⟨_,its,n,h1,h2,h3,rfl,h5,h6,h7⟩
 exact bt3 KX G.T.g G.T.b G.T.builtins G.T.nolimit hg hobj hints (Nat.le_trans hlen (by decide)) hr hF hb (λH hO hS=>⟨a,ns,rfl,hS' hS,hlen,hbits,λ_=>rfl⟩) λH e s' h=>h
end L2
namespace L2
open PySem PySem.Spec PyProof.Rows
abbrev pC(X:Cx)(scope:Scope)(cl:List (Str×Addr))(C:Addr)(s₀:Shared)(H₀:Hp)(ex:List Addr):Cx:=
 {X with s₀:=s₀,H₀:=H₀,env:=compEnvC scope cl C X.env,outer:=X.stack,ex:=ex,fn:=λ_=>false,pn:=[],xe:=λ_ _=>False}
def fF (cells : List (Str × Addr)) : List (Str × NameKind) → List (Str × Addr) → List (Str × Addr)
  | [], acc => acc
  | (n, k) :: r, acc => if (k == .free) = true then fF cells r ((n, (cells.lookup n).getD 0) :: acc) else fF cells r acc
theorem uK {env : Env} : ∀ (names : List (Str × NameKind)) (acc : List (Str × Addr)), (∀ x ∈ names, x.2 = .free → ∃ c, env.cells.lookup x.1 = some c) →
    (forIn names acc fun (x : Str × NameKind) (cs : List (Str × Addr)) => (if (x.2 == .free) = true then (do let c ← cellOf env x.1; pure (ForInStep.yield ((x.1, c) :: cs))) else pure (ForInStep.yield cs) : Sem (ForInStep (List (Str × Addr))))) = (pure (fF env.cells names acc) : Sem (List (Str × Addr)))
  | [], acc, _ => rfl
  | (n, k) :: r, acc, h => by
    rw [List.forIn_cons]
    have hr : ∀ x ∈ r, x.2 = .free → ∃ c, env.cells.lookup x.1 = some c := fun x hx => h x (List.mem_cons_of_mem _ hx)
    by_cases hk : (k == NameKind.free) = true
    · obtain ⟨c, hc⟩ := h (n, k) List.mem_cons_self (by simpa using hk)
      have e1 : cellOf env n = pure c := by unfold cellOf; rw [hc]
      simp only [hk, if_true, e1, pure_bind]
      have e2 : fF env.cells ((n, k) :: r) acc = fF env.cells r ((n, c) :: acc) := by
        conv => lhs; unfold fF
        rw [if_pos hk, hc]
        all_goals rfl
      rw [e2]
      exact uK r _ hr
    · simp only [hk, if_false, pure_bind]
      have e2 : fF env.cells ((n, k) :: r) acc = fF env.cells r acc := by
        conv => lhs; unfold fF
        rw [if_neg hk]
      rw [e2]
      exact uK r _ hr
theorem uT {env : Env} {scope : Scope} (h : ∀ x ∈ scope.names, x.2 = .free → ∃ c, env.cells.lookup x.1 = some c) : closureFor scope env = pure (fF env.cells scope.names []) := by
  have q := uK (env := env) scope.names [] h
  unfold closureFor
  have e : (forIn scope.names ([] : List (Str × Addr)) fun (x : Str × NameKind) (r : List (Str × Addr)) =>
      (match x with
      | (name, kind) => if (kind == NameKind.free) = true then (do let c ← cellOf env name; pure (ForInStep.yield ((name, c) :: r))) else pure (ForInStep.yield r) : Sem (ForInStep (List (Str × Addr))))) = pure (fF env.cells scope.names []) := q
  first
    | (show (do let r ← (forIn scope.names ([] : List (Str × Addr)) _); pure r) = _; erw [e]; rfl)
    | (simp only [bind_pure]; exact e)
    | exact e
theorem qW {cells : List (Str × Addr)} : ∀ (names : List (Str × NameKind)) (acc : List (Str × Addr)), (∀ x ∈ names, x.2 = .free → ∃ c, cells.lookup x.1 = some c) → (∀ y c, acc.lookup y = some c → cells.lookup y = some c) →
    ∀ y c, (fF cells names acc).lookup y = some c → cells.lookup y = some c
  | [], _, _, ha => ha
  | (n, k) :: r, acc, h, ha => by
    have hr : ∀ x ∈ r, x.2 = .free → ∃ c, cells.lookup x.1 = some c := fun x hx => h x (List.mem_cons_of_mem _ hx)
    unfold fF
    by_cases hk : (k == NameKind.free) = true
    · rw [if_pos hk]
      obtain ⟨c, hc⟩ := h (n, k) List.mem_cons_self (by simpa using hk)
      refine qW r _ hr fun y d e => ?_
      rw [List.lookup_cons] at e
      cases q : y == n with
      | true =>
        rw [q] at e
        have e' : (cells.lookup n).getD 0 = d := Option.some.inj e
        have yn : y = n := by simpa using q
        subst yn
        have hc' : cells.lookup y = some c := hc
        rw [hc'] at e' ⊢
        exact congrArg some e'
      | false =>
        rw [q] at e
        exact ha y d e
    · rw [if_neg hk]
      exact qW r acc hr ha
theorem sE {cells : List (Str × Addr)} : ∀ (names : List (Str × NameKind)) (acc : List (Str × Addr)) (y : Str), (∃ c, acc.lookup y = some c) → ∃ c, (fF cells names acc).lookup y = some c
  | [], _, _, h => h
  | (n, k) :: r, acc, y, h => by
    unfold fF
    split
    · refine sE r _ y ?_
      rw [List.lookup_cons]
      cases q : y == n with
      | true => exact ⟨_, rfl⟩
      | false => exact h
    · exact sE r acc y h
theorem qE {cells : List (Str × Addr)} : ∀ (names : List (Str × NameKind)) (acc : List (Str × Addr)) (y : Str), (y, NameKind.free) ∈ names → ∃ c, (fF cells names acc).lookup y = some c
  | (n, k) :: r, acc, y, h => by
    unfold fF
    rcases List.mem_cons.mp h with e | h
    · have e1 : y = n := congrArg Prod.fst e
      have e2 : NameKind.free = k := congrArg Prod.snd e
      subst e1
      subst e2
      rw [if_pos (by rfl)]
      refine sE r _ y ?_
      rw [List.lookup_cons, beq_self_eq_true]
      exact ⟨_, rfl⟩
    · split
      · exact qE r _ y h
      · exact qE r _ y h
theorem tZ {env : Env} {x : Str} : ∀ (names : List (Str × NameKind)),
    (names.map fun (n, k) => if (k == NameKind.free && env.scope.kind == .function && env.kindOf n == some .cell) then (n, NameKind.cell) else (n, k)).lookup x
      = (names.lookup x).map fun k => if (k == NameKind.free && env.scope.kind == .function && env.kindOf x == some .cell) = true then NameKind.cell else k
  | [] => rfl
  | (n, k) :: r => by
    have ih := tZ (env := env) (x := x) r
    show List.lookup x ((if (k == NameKind.free && env.scope.kind == .function && env.kindOf n == some .cell) = true then (n, NameKind.cell) else (n, k)) :: _) = _
    rw [List.lookup_cons (a := x) (as := r)]
    cases hx : x == n with
    | true =>
      have e : x = n := by simpa using hx
      subst e
      by_cases hc : (k == NameKind.free && env.scope.kind == .function && env.kindOf x == some .cell) = true
      · rw [if_pos hc, List.lookup_cons, beq_self_eq_true]
        show some NameKind.cell = some (if _ then _ else _)
        rw [if_pos hc]
      · rw [if_neg hc, List.lookup_cons, beq_self_eq_true]
        show some k = some (if _ then _ else _)
        rw [if_neg hc]
    | false =>
      by_cases hc : (k == NameKind.free && env.scope.kind == .function && env.kindOf n == some .cell) = true
      · rw [if_pos hc, List.lookup_cons, hx]; exact ih
      · rw [if_neg hc, List.lookup_cons, hx]; exact ih
theorem yI {x : Str} {k : NameKind} : ∀ {names : List (Str × NameKind)}, names.lookup x = some k → (x, k) ∈ names
  | (n, k') :: r, h => by
    rw [List.lookup_cons] at h
    cases hx : x == n with
    | true =>
      rw [hx] at h
      have e : x = n := by simpa using hx
      subst e
      cases h
      exact List.mem_cons_self
    | false =>
      rw [hx] at h
      exact List.mem_cons_of_mem _ (yI h)
structure CScope (X : Cx) (ks : List Nat) (scope : Scope) : Prop where
  kind : scope.kind = .function
  cell : ∀ y ∈ scope.names, y.2 ≠ .cell
  names : ∀ y ∈ scope.names, y.2 = .local → scope.names.lookup y.1 = some .local
  freeB : (scope.names.all fun y => !(y.2 == NameKind.free) || (X.env.kindOf y.1 == some NameKind.cell || X.env.kindOf y.1 == some NameKind.free)) = true
  slotsB : (X.N.zipIdx.all fun p => !(scope.names.lookup p.1 == some NameKind.local) || ks.contains p.2) = true
theorem CScope.free{X:Cx}{ks:List Nat}{scope:Scope}(S:CScope X ks scope):∀y∈scope.names,y.2=.free->X.env.kindOf y.1=some .cell\/X.env.kindOf y.1=some .free:=λy hy hk=>by
 have h:=List.all_eq_true.mp S.freeB y hy
 rw[hk]at h
 simpa using h
theorem CScope.slots{X:Cx}{ks:List Nat}{scope:Scope}(S:CScope X ks scope):∀p∈X.N.zipIdx,scope.names.lookup p.1=some .local->p.2∈ks:=λp hp hk=>by
 have h:=List.all_eq_true.mp S.slotsB p hp
 rw[hk]at h
 simpa using h
def clr:List Nat->St->St
 |[],σ=>σ
 |k::ks,σ=>clr ks (σ.set k none)
theorem nV:∀(ks:List Nat)(σ:St),(clr ks σ).length=σ.length
 |[],_=>rfl
 |k::ks,σ=>by
  show(clr ks (σ.set k none)).length=_
  rw[nV ks,List.length_set]
theorem ad1:∀(ks:List Nat)(σ:St){i:Nat}{v:V},(clr ks σ)[i]?=some (some v)->σ[i]?=some (some v)/\i∉ks
 |[],_,_,_,h=>⟨h,List.not_mem_nil⟩
 |k::ks,σ,i,v,h=>by
  obtain⟨h1,h2⟩:=ad1 ks (σ.set k none) h
  by_cases e:i=k
  . subst e
    rw[List.getElem?_set_self']at h1
    cases q:σ[i]? with
    |none=>rw[q]at h1;cases h1
    |some o=>rw[q]at h1;cases h1
  . rw[List.getElem?_set_ne (Ne.symm e)]at h1
    exact⟨h1,λz=>(List.mem_cons.mp z).elim e h2⟩
def PIf(Y:Cx)(ifs:List Expr)(t:TT):Prop:=
 ∀⦃pins:List (Addr×Obj)⦄ (s:Shared)(σ:St)(H:Hp)(Q:Bool->Hp->Prop),Inv Y pins σ H s->t σ H Q->
  wpAny (model Y.prog Y.w) Y.A (forIn ifs true λc r=>if r=true then do let ok<-isTrue c Y.env (eval c Y.env);pure (ForInStep.yield ok)else pure (ForInStep.yield r)) (TP Y pins σ Q) Y.xe s
def cm3:TT:=λ_ H Q=>Q true H
theorem eE{Y:Cx}:PIf Y [] cm3:=λ_ _ _ H _ I h=>wpAny_tests_nil ⟨H,I,h⟩
theorem ba1{prog:Program}{w:World}{A:Around}{R:Result->Shared->Prop}{s:Shared}{elt target iter:Expr}{ifs:List Expr}{scope:Scope}{pos:Pos}{it acc:Value}{env:Env}(I:Nat->Shared->Prop)
 (turn:∀n s,I n s->wpAny (model prog w) A (pyNext it) (λr s₁=>match r with
  |none=>R (.ok .next) s₁
  |some v=>wpAny (model prog w) A (letOwnedTupleGo target it v) (λ_ s₁'=>wpAny (model prog w) A (assign target env v) (λ_ s₂=>
   wpAny (model prog w) A (forIn ifs true λc r=>if r=true then do let ok<-isTrue c env (eval c env);pure (ForInStep.yield ok)else pure (ForInStep.yield r)) (λok s₃=>
    if ok=true then wpAny (model prog w) A (eval elt env) (λx s₄=>
     wpAny (model prog w) A (call (.builtin "list.append") [acc,x]) (λ_ s₅=>∃m,m<n/\I m s₅) (λ_ _=>False) s₄) (λ_ _=>False) s₃
    else∃m,m<n/\I m s₃) (λ_ _=>False) s₂) (λ_ _=>False) s₁') (λ_ _=>False) s₁) (λ_ _=>False) s)
 (n:Nat)(h:I n s):
 codeAny (model prog w) A (.compLoop (.ListComp elt [⟨target,iter,ifs,0⟩] scope pos) 0 it acc env) R s:=by
 refine codeAny_loop rfl I (λn s hI=>?_) n h
 show wpAny _ A ((compTurn (.ListComp elt [⟨target,iter,ifs,0⟩] scope pos) 0 it acc env).onRaise (λx=>do noteFrame x env;theTreesLotGoes x)) _ _ s
 refine wpAny_noted ?_
 rw[compTurn_list]
 refine wpAny_bind (wpAny_standAt (wpAny_bind (wpAny_mono (turn n s hI) (λr s₁ h₁=>?_) λ_ _ h'=>h'.elim)))
 cases r with
 |none=>exact wpAny_pure h₁
 |some v=>
  refine wpAny_bind (wpAny_mono h₁ (λ_ s₁' h₁'=>?_) λ_ _ h'=>h'.elim)
  refine wpAny_bind (wpAny_mono h₁' (λ_ s₂ h₂=>wpAny_bind (wpAny_mono h₂ (λok s₃ h₃=>?_) λ_ _ h'=>h'.elim)) λ_ _ h'=>h'.elim)
  cases ok with
  |false=>exact wpAny_pure ⟨rfl,h₃⟩
  |true=>
   exact wpAny_bind (wpAny_bind (wpAny_mono h₃ (λx s₄ h₄=>wpAny_bind (wpAny_mono h₄ (λ_ s₅ h₅=>wpAny_pure (wpAny_pure ⟨rfl,h₅⟩)) λ_ _ h'=>h'.elim)) λ_ _ h'=>h'.elim))
theorem Inv.track{X:Cx}{pins:List (Addr×Obj)}{σ:St}{H:Hp}{s:Shared}{D:Addr}{its:List Value}{ys:List V}{n:Nat}(I:Inv X pins σ H s)(hn:H D=none)(hl:X.s₀.heap.objs.size<=D)(hL:D≠X.env.locals)
 (hc:∀x c,X.env.cells.lookup x=some c->c≠D)(hp:∀p∈X.pn++pins,p.1≠D)(e:s.heap.get? D=some {cls:=.type "list",data:=.seq its.toArray n})(rv:Vals ys its)(hz:ys.length<=sizeLine):
 Inv X pins σ (upd H D (.lst ys)) s:=by
 have old:∀b o,X.s₀.heap.get? b=some o->b≠D:=λb o q z=>by
  subst z
  exact absurd (Nat.lt_of_lt_of_le (Heap.lt_size q) hl) (Nat.lt_irrefl _)
 have ne:∀b o,H b=some o->b≠D:=λb o q=>cR q hn
 refine⟨I.ok,I.os,I.bare,⟨I.base.keep,I.base.slot,λb o q n' hx=>?_,I.base.there,λb xs q=>?_,λb o u q=>?_,λb ps q=>?_⟩,I.loc,I.cell,?_,λx c q=>?_,λp q=>?_,λb u q=>?_,I.len⟩
 . rw[aY (old b o q)]
   exact I.base.free b o q n' hx
 . have z:=I.base.tups b xs q
   rw[aY (ne _ _ z)]
   exact z
 . have z:=I.base.frzs b o u q
   rw[aY (ne _ _ z)]
   exact z
 . obtain⟨more,z⟩:=I.base.tbls b ps q
   exact⟨more,by rw[aY (ne _ _ z)];exact z⟩
 . rw[aY (Ne.symm hL)]
   exact I.free
 . rw[aY (hc x c q)]
   exact I.freeC x c q
 . obtain⟨h1,h2,h3⟩:=I.pin p q
   exact⟨h1,by rw[aY (hp p q)];exact h2,h3⟩
 . by_cases hb:b=D
   . subst hb
     rw[bZ]at q
     cases q
     exact⟨hz,its,n,rv,e⟩
   . rw[aY hb]at q
     exact(I.hok b u q).stay (λc v _ z=>z) (λc z=>by rw[aY (ne _ _ z)];exact z) λc xs z=>by rw[aY (ne _ _ z)];exact z
def Ext(ks:List Nat)(σ σ2:St):Prop:=σ2.length=σ.length/\∀(i:Nat)(v:V),(clr ks σ)[i]?=some (some v)->σ2[i]?=some (some v)
def CGo(ks:List Nat)(g:TG)(tc:TT)(te:TE)(σ:St)(F:Addr->Hp->Prop)(J:It)(H1:Hp):Prop:=
 ∃W:Nat->Nat->List V->Hp->Prop,(∃m,W 0 m [] H1)/\∀i m ys H,W i m ys H->
  (J.stop i H/\∀D,H D=none->F D (upd H D (.lst ys)))\/
  (J.go i H/\ys.length<sizeLine/\∃N:List V->Hp->Prop,(∀ys' H',N ys' H'->∃m',m'<m/\W (i+1) m' ys' H')/\∀x H',J.yld i H x H'->g x (clr ks σ) H' λσ2 H2=>Ext ks σ σ2/\tc σ2 H2 λb H3=>
   if b=true then te σ2 H3 λv H4=>N (ys++[v]) H4 else N ys H3)
def bq7(ks:List Nat)(wi:TI)(g:TG)(tc:TT)(te:TE):TE:=λσ H Q=>wi σ H (CGo ks g tc te σ λD H'=>Q (.ref D) H')
def aw5(k:Nat)(ks:List Nat)(wi:TI)(g:TG)(tc:TT)(te:TE):TS:=λD σ H=>wi σ H (CGo ks g tc te σ λa H'=>D.nx (σ.set k (some (.ref a))) H')
section
variable {X : Cx}
theorem al7 {tg iter elt : Expr} {ifs : List Expr} {scope : Scope} {pos : Pos} {ks : List Nat} {g : TG} {tc : TT} {te : TE} {F : Addr → Hp → Prop} {RR : Value → Addr → Result → Shared → Prop} {E : Value → Shared → Prop}
    {pins : List (Addr × Obj)} {σ : St} {s2 : Shared} {itv : Value} (S : CScope X ks scope) (hc : X.calm = true)
    (hg : ∀ cl C s₀ H₀ ex, PG (pC X scope cl C s₀ H₀ ex) tg g) (hi : ∀ cl C s₀ H₀ ex, PIf (pC X scope cl C s₀ H₀ ex) ifs tc) (he : ∀ cl C s₀ H₀ ex, PE (pC X scope cl C s₀ H₀ ex) elt te)
    (h : PIE X pins σ tg (CGo ks g tc te σ F) itv s2)
    (hRR : ∀ D C s' H', Inv X pins σ H' s' → (∃ m, s'.heap.Ns C m) → rR X pins H' C → F D H' → RR (.ref D) C (.ok .next) s') :
    wpAny (model X.prog X.w) X.A (newList []) (fun acc s₃ => wpAny (model X.prog X.w) X.A (newFunctionEnv scope X.env.globals (fF X.env.cells scope.names []) [] X.env.qual none .none (some X.env)) (fun cenv s₄ =>
      codeAny (model X.prog X.w) X.A (.compStart (.ListComp elt [⟨tg, iter, ifs, 0⟩] scope pos) 0 itv acc { cenv with scope := relabel scope X.env }) (RR acc cenv.locals) s₄) E s₃) E s2 := by
  obtain ⟨it, fp, tn, J, H2, rfl, I2, T, st2, f2, W, ⟨m0, w0⟩, turn⟩ := h
  refine wpAny_newObj_type (wpAny_newFunctionEnv S.cell (by intro y hy; simp at hy) (fun h₁ hns₁ hsb₁ => ?_) S.kind)
  dsimp only at hns₁ hsb₁ ⊢
  have hD2 : s2.heap.get? s2.heap.objs.size = none := Heap.get?_none_of_le (Nat.le_refl _)
  have nD : H2 s2.heap.objs.size = none := I2.hok.fresh (Nat.le_refl _)
  have I3 : Inv X pins σ H2 { s2 with heap := s2.heap.push { cls := .type "list", dict := none, data := .seq ([] : List Value).toArray } } := I2.kept (t' := s2.toks) fun b o e => Heap.get?_push_of_some _ e
  have eD3 : (s2.heap.push { cls := .type "list", dict := none, data := .seq ([] : List Value).toArray }).get? s2.heap.objs.size = some { cls := .type "list", dict := none, data := .seq ([] : List Value).toArray } := Heap.get?_push_size _ rfl
  have hsz3 : (s2.heap.push { cls := .type "list", dict := none, data := .seq ([] : List Value).toArray }).objs.size = s2.heap.objs.size + 1 := Heap.size_push _ _
  have fD := I2.fpOk (b := s2.heap.objs.size) (Nat.le_refl _) nD
  have fplt : ∀ b ∈ fp, b < s2.heap.objs.size := fun b hb => by
    obtain ⟨o, e, _⟩ := T.obj _ _ st2 b hb
    exact Heap.lt_size e
  have hDfp : s2.heap.objs.size ∉ fp := fun z => Nat.lt_irrefl _ (fplt _ z)
  generalize hs3 : ({ s2 with heap := s2.heap.push { cls := .type "list", dict := none, data := .seq ([] : List Value).toArray } } : Shared) = s3 at I3
  generalize hDD : s2.heap.objs.size = D at *
  have s3h : s3.heap = s2.heap.push { cls := .type "list", dict := none, data := .seq ([] : List Value).toArray } := by rw [← hs3]
  rw [← s3h] at hns₁ hsb₁ eD3 hsz3
  have fC := I3.fpOk (H' := H2) (b := s3.heap.objs.size) (Nat.le_refl _) (I3.hok.fresh (Nat.le_refl _))
  have old : ∀ b o, s3.heap.get? b = some o → h₁.get? b = some o := fun b o e => hsb₁.extBut b o (Nat.ne_of_lt (Heap.lt_size e)) (Heap.get?_push_of_some _ e)
  generalize hCC : s3.heap.objs.size = C at *
  have hDltC : D < C := by rw [hsz3]; exact Nat.lt_succ_self _
  have hDC : D ≠ C := Nat.ne_of_lt hDltC
  have hclos := uT (env := X.env) (scope := scope) fun x hx hk => I2.ok.has x.1 (S.free x hx hk)
  have csound : ∀ y c, (fF X.env.cells scope.names []).lookup y = some c → X.env.cells.lookup y = some c :=
    qW scope.names [] (fun x hx hk => I2.ok.has x.1 (S.free x hx hk)) fun y c e => by cases e
  generalize hcl : fF X.env.cells scope.names [] = cl at *
  have kin : ∀ y, (compEnvC scope cl C X.env).kindOf y = (scope.names.lookup y).map fun k => if (k == NameKind.free && X.env.scope.kind == .function && X.env.kindOf y == some .cell) = true then NameKind.cell else k := fun y => tZ scope.names
  have isFree : ∀ y, ((compEnvC scope cl C X.env).kindOf y = some .cell ∨ (compEnvC scope cl C X.env).kindOf y = some .free) → (y, NameKind.free) ∈ scope.names := fun y hy => by
    rw [kin y] at hy
    cases q : scope.names.lookup y with
    | none =>
      rw [q] at hy
      rcases hy with z | z <;> cases z
    | some k =>
      rw [q] at hy
      have hm := yI q
      cases k with
      | free => exact hm
      | cell => exact absurd rfl (S.cell _ hm)
      | _ =>
        rcases hy with z | z
        · exact absurd (Option.some.inj z) (by simp)
        · exact absurd (Option.some.inj z) (by simp)
  have neFs : ∀ b, rR X pins H2 b → b ∉ lY X.stack := fun b f z => by
    rcases List.mem_cons.mp (I2.stkSub b z) with e | e
    · exact f.2.1 e
    · exact f.2.2.1 e
  have exs : ∀ b ∈ D :: fp, rR X pins H2 b := fun b hb => by
    rcases List.mem_cons.mp hb with e | e
    · rw [e]; exact fD
    · exact f2 b e
  have exlt : ∀ b ∈ D :: fp, b < C := fun b hb => by
    rcases List.mem_cons.mp hb with e | e
    · rw [e]; exact hDltC
    · exact Nat.lt_trans (fplt b e) hDltC
  have okY : (pC X scope cl C s3 H2 (D :: fp)).Ok :=
    { mod := I2.ok.mod, kind := S.kind, glob := I2.ok.glob, blt := I2.ok.blt, above := Nat.le_of_eq hCC
      inj := fun x y c h1 h2 => I2.ok.inj x y c (csound _ _ h1) (csound _ _ h2)
      has := fun y hy => by
        have z := qE (cells := X.env.cells) scope.names [] y (isFree y hy)
        rw [hcl] at z
        exact z
      cab := fun _ _ z => by cases z
      hd := I2.ok.hd, frames := I2.ok.frames, stk := .inl rfl
      exf := fun b hb => ⟨Nat.ne_of_lt (exlt b hb), fun x c e z => (exs b hb).2.2.2.2.1 x c (csound _ _ e) z⟩
      bs := I3.bs
      bsz := Nat.le_trans I2.ok.bsz I3.sz
      noex := fun b o e hb => by
        rcases (exs b hb).2.2.2.1 with z | z
        · exact I2.ok.noex b o e z
        · exact absurd (Nat.lt_of_lt_of_le (Heap.lt_size e) (Nat.le_trans I2.ok.bsz z)) (Nat.lt_irrefl _)
      exfs := fun b hb => neFs b (exs b hb)
      funs := I3.stack
      frf := I3.stkFree }
  have outP : ∀ p ∈ X.pn ++ pins, p.1 ≠ C ∧ p.1 ∉ lY X.stack ∧ p.1 ≠ D := fun p hp => by
    obtain ⟨e, n, ne, nf, d⟩ := I2.pin p hp
    have lt : p.1 < D := by rw [← hDD]; exact Heap.lt_size e
    refine ⟨Nat.ne_of_lt (Nat.lt_trans lt hDltC), fun z => ?_, Nat.ne_of_lt lt⟩
    rcases List.mem_cons.mp (I2.stkSub p.1 z) with q | q
    · exact ne q
    · exact nf q
  have I4 : Inv (pC X scope cl C s3 H2 (D :: fp)) (X.pn ++ pins) (clr ks σ) H2 { s3 with heap := h₁, toks := s3.toks + ([] : List (Str × Value)).length } := by
    refine ⟨okY, rfl, I3.bare, Un.kept old, ⟨_, hns₁, fun i x v e1 e2 e3 => ?_⟩, fun x c e => ?_, ?_, fun x c e => ?_, fun p hp => ?_, I3.hok.kept old, ?_⟩
    · obtain ⟨e2, nk⟩ := ad1 ks σ e2
      have hv : (compEnvC scope cl C X.env).kindOf x = some .cell ∨ (compEnvC scope cl C X.env).kindOf x = some .free := by
        rcases e3 with z | z | z
        · exfalso
          have z' : (compEnvC scope cl C X.env).kindOf x = some .local := z
          rw [kin x] at z'
          have hm : (x, i) ∈ X.N.zipIdx := by
            rw [List.mem_zipIdx_iff_getElem?]
            exact e1
          refine nk (S.slots (x, i) hm ?_)
          show scope.names.lookup x = some .local
          cases q : scope.names.lookup x with
          | none => rw [q] at z'; cases z'
          | some k =>
            rw [q] at z'
            have z2 := Option.some.inj z'
            cases k with
            | «local» => rfl
            | free =>
              exfalso
              dsimp only at z2
              split at z2 <;> cases z2
            | _ => exact absurd z2 (by simp)
        · exact .inl z
        · exact .inr z
      have hf := isFree x hv
      have hX := S.free (x, .free) hf rfl
      obtain ⟨m, hn, hl⟩ := I3.loc
      obtain ⟨u, r, lk⟩ := hl i x v e1 e2 (by rcases hX with z | z; exact .inr (.inl z); exact .inr (.inr z))
      refine ⟨u, r, .inr ⟨hv, ?_⟩⟩
      have z := qE (cells := X.env.cells) scope.names [] x hf
      rw [hcl] at z
      obtain ⟨c, hcx⟩ := z
      rcases lk with ⟨kl, _⟩ | ⟨_, c', e', z'⟩
      · have hX' : X.env.kindOf x = some .cell ∨ X.env.kindOf x = some .free := hX
        rw [kl] at hX'
        rcases hX' with z | z <;> cases z
      · have q := csound x c hcx
        rw [e'] at q
        cases q
        obtain ⟨o, ho, hd⟩ := z'
        exact ⟨c, hcx, o, old _ _ ho, hd⟩
    · obtain ⟨v, o, ho, hd⟩ := I3.cell x c (csound x c e)
      exact ⟨v, o, old _ _ ho, hd⟩
    · exact I3.hok.fresh (Nat.le_of_eq hCC)
    · exact I3.freeC x c (csound x c e)
    · have hp' : p ∈ X.pn ++ pins := hp
      obtain ⟨e, n, ne, nf, d⟩ := I3.pin p hp'
      exact ⟨old _ _ e, n, (outP p hp').1, (outP p hp').2.1, d⟩
    · rw [nV]
      exact I3.len
  have fpY : ∀ {pl : List (Addr × Obj)} {H' : Hp}, (∀ p ∈ pl, p.1 ∉ fp) → (∀ b ∈ fp, H' b = none) → ∀ b ∈ fp, rR (pC X scope cl C s3 H2 (D :: fp)) ((X.pn ++ pins) ++ pl) H' b := fun {pl H'} hpl hn b hb => by
    have f := f2 b hb
    refine ⟨hn b hb, Nat.ne_of_lt (exlt b (List.mem_cons_of_mem _ hb)), neFs b f, .inl (List.mem_cons_of_mem _ hb), fun x c e z => f.2.2.2.2.1 x c (csound x c e) z, fun p hp => ?_⟩
    have hp' : p ∈ (X.pn ++ pins) ++ pl := hp
    rcases List.mem_append.mp hp' with q | q
    · exact f.2.2.2.2.2 p q
    · exact fun z => hpl p q (by rw [z]; exact hb)
  have fV : ∀ s₅ : Shared, s₅ = { s3 with heap := h₁, toks := s3.toks + ([] : List (Str × Value)).length } →
      codeAny (model X.prog X.w) X.A (.compLoop (.ListComp elt [⟨tg, iter, ifs, 0⟩] scope pos) 0 (.ref it) (.ref D) (compEnvC scope cl C X.env)) (RR (.ref D) C) s₅ := by
    rintro s₅ rfl
    refine ba1 (fun n s' => ∃ i H' ys its nn, Inv (pC X scope cl C s3 H2 (D :: fp)) (X.pn ++ pins) (clr ks σ) H' s' ∧ tn i s'.heap ∧ (∀ b ∈ fp, H' b = none) ∧ H' D = none ∧ s'.heap.get? D = some { cls := .type "list", data := .seq its nn } ∧ Vals ys its.toList ∧ ys.length ≤ sizeLine ∧ W i n ys H') ?_ m0
      ⟨0, H2, [], #[], 0, I4, T.keep _ _ _ st2 (fun b hb o e => old _ _ (by rw [s3h]; exact Heap.get?_push_of_some _ e)), fun b hb => (f2 b hb).1, nD, old _ _ eD3, .nil, Nat.zero_le _, w0⟩
    rintro n s6 ⟨i, H6, ys, its, nn, I6, st6, fr6, nD6, eD6, rv6, hz6, w6⟩
    have I6' : Inv (pC X scope cl C s3 H2 (D :: fp)) ((X.pn ++ pins) ++ [(D, { cls := .type "list", data := .seq its nn })]) (clr ks σ) H6 s6 := I6.pins_of fun p hp => (List.mem_append.mp hp).elim (fun z => I6.pin p (List.mem_append_right _ z)) fun z => by
      obtain rfl := List.mem_singleton.mp z
      exact ⟨eD6, nD6, hDC, neFs D fD, fun v q => by cases q⟩
    have plD : ∀ p ∈ [((D, { cls := .type "list", data := .seq its nn }) : Addr × Obj)], p.1 ∉ fp := fun p hp => by
      obtain rfl := List.mem_singleton.mp hp
      exact hDfp
    rcases turn i n ys H6 w6 with ⟨stop, cL⟩ | ⟨go, hz, N, hN, step⟩
    · refine cE (T.done (pC X scope cl C s3 H2 (D :: fp)) rfl rfl rfl hc i _ s6 (clr ks σ) H6 _ I6' (fpY plD fr6) st6 stop) fun r s7 ⟨hr, I7⟩ => ?_
      subst hr
      have IX : Inv X pins σ H6 s7 := I3.call' (ch := D :: fp) I7.os I7.base I7.hok I7.bare fun b hb => ⟨(exs b hb).2.2.2.1, (exs b hb).2.1, (exs b hb).2.2.2.2.1, (exs b hb).2.2.2.2.2⟩
      have eD7 := (I7.pin (D, { cls := .type "list", data := .seq its nn }) (List.mem_append_right _ (List.mem_append_right _ (List.mem_singleton.mpr rfl)))).1
      have rv7 : Vals ys its.toList := rv6
      have IT : Inv X pins σ (upd H6 D (.lst ys)) s7 := IX.track (its := its.toList) (n := nn) nD6 (by
        have := I2.sz
        omega) fD.2.1 fD.2.2.2.2.1 fD.2.2.2.2.2 (by simpa using eD7) rv7 hz6
      obtain ⟨m7, hn7, _⟩ := I7.loc
      refine hRR D C s7 _ IT ⟨m7, hn7⟩ ⟨?_, fC.2⟩ (cL D nD6)
      rw [aY (Ne.symm hDC)]
      exact I7.free
    · refine cE (T.item (pC X scope cl C s3 H2 (D :: fp)) rfl rfl rfl hc i _ s6 (clr ks σ) H6 _ I6' (fpY plD fr6) st6 go) fun r s7 ⟨u, hr, h7⟩ => ?_
      subst hr
      refine cE h7 fun _ s8 ⟨x, H8, I8, r8, y8, st8, fr8⟩ => ?_
      have I8' := I8.pinned (fpY plD fr8) (T.obj _ _ st8)
      refine cE (hg cl C s3 H2 (D :: fp) s8 (clr ks σ) H8 x u _ I8' r8 (step x H8 y8)) fun _ s9 ⟨σ9, H9, I9, hE, q9⟩ => ?_
      refine cE (hi cl C s3 H2 (D :: fp) s9 σ9 H9 _ I9 q9) fun ok s10 ⟨H10, I10, q10⟩ => ?_
      have memD : (D, ({ cls := .type "list", data := .seq its nn } : Obj)) ∈ ([] : List (Addr × Obj)) ++ (((X.pn ++ pins) ++ [(D, { cls := .type "list", data := .seq its nn })]) ++ tV fp s8.heap) := List.mem_append_right _ (List.mem_append_left _ (List.mem_append_right _ (List.mem_singleton.mpr rfl)))
      have keepT : ∀ {σ' : St} {H' : Hp} {s' : Shared}, Inv (pC X scope cl C s3 H2 (D :: fp)) (((X.pn ++ pins) ++ [(D, { cls := .type "list", data := .seq its nn })]) ++ tV fp s8.heap) σ' H' s' → tn (i + 1) s'.heap ∧ (∀ b ∈ fp, H' b = none) := fun {σ' H' s'} I' =>
        ⟨T.keep _ _ _ st8 fun b hb o e => (I'.pin (b, o) (List.mem_append_right _ (List.mem_append_right _ (qD hb e)))).1, fun b hb => by
          obtain ⟨o, e, d⟩ := T.obj _ _ st8 b hb
          exact (I'.pin (b, o) (List.mem_append_right _ (List.mem_append_right _ (qD hb e)))).2.1⟩
      cases ok with
      | false =>
        obtain ⟨m', hm, w10⟩ := hN ys H10 q10
        obtain ⟨k1, k2⟩ := keepT I10
        obtain ⟨p1, p2, _⟩ := I10.pin _ memD
        exact ⟨m', hm, i + 1, H10, ys, its, nn, I10.unpinned.unpinned.weak (by rw [nV]; exact hE.1.symm) hE.2, k1, k2, p2, p1, rv6, hz6, w10⟩
      | true =>
        refine cE (he cl C s3 H2 (D :: fp) s10 σ9 H10 _ I10 q10) fun vv s11 ⟨v, H11, I11, r11, n11⟩ => ?_
        obtain ⟨m', hm, w11⟩ := hN _ _ n11
        obtain ⟨k1, k2⟩ := keepT I11
        obtain ⟨p1, p2, _⟩ := I11.pin _ memD
        have hlen : ys.length = its.size := by have := rv6.length; simpa using this
        refine call_meets PySem.F.slot_list_append ⟨_, p1, rfl⟩ PySem.F.entry_list_append (PySem.F.args_list_append_2 _ _) (PySem.list_append D its nn vv (by omega)) ⟨p1, ?_⟩
        have q := PySem.IsL.update p1 fun xs => xs.push vv
        refine ⟨m', hm, i + 1, H11, ys ++ [v], its.push vv, _, (I11.unpinned.unpinned.weak (by rw [nV]; exact hE.1.symm) hE.2).turned (fun b o hb e => (Heap.get?_update_other _ _ (Ne.symm hb)).trans e) p2 hDC (.inl List.mem_cons_self) (fun x c e z => fD.2.2.2.2.1 x c (csound x c e) z) (fun p hp => (outP p hp).2.2), ?_, k2, p2, q, ?_, ?_, w11⟩
        · refine T.keep _ _ _ k1 fun b hb o e => (Heap.get?_update_other _ _ ?_).trans e
          intro z
          exact hDfp (by rw [z]; exact hb)
        · have : (its.push vv).toList = its.toList ++ [vv] := by simp
          rw [this]
          exact rv6.append (.cons r11 .nil)
        · rw [List.length_append, List.length_singleton]
          omega
  have hCC' : (s2.heap.push { cls := .type "list", dict := none, data := .seq ([] : List Value).toArray }).objs.size = C := by rw [← s3h]; exact hCC
  rw [hCC']
  exact codeAny_compStart_list (fV _ (by rw [← hs3])) (T.self _ 0 _ _ _ (T.keep _ _ _ st2 (fun b hb o e => old _ _ (by rw [s3h]; exact Heap.get?_push_of_some _ e))) (fV _ (by rw [← hs3])))
theorem gA{tg iter elt:Expr}{ifs:List Expr}{scope:Scope}{pos:Pos}{ks:List Nat}{wi:TI}{g:TG}{tc:TT}{te:TE}(S:CScope X ks scope)(hc:X.calm=true)(hit:PI X tg iter wi)
 (hg:∀cl C s₀ H₀ ex,PG (pC X scope cl C s₀ H₀ ex) tg g)(hi:∀cl C s₀ H₀ ex,PIf (pC X scope cl C s₀ H₀ ex) ifs tc)(he:∀cl C s₀ H₀ ex,PE (pC X scope cl C s₀ H₀ ex) elt te)
 (hs:∀x,foldedSetIterable iter X.env x=pure x:=by intro _;rfl):PE X (.ListComp elt [⟨tg,iter,ifs,0⟩] scope pos) (bq7 ks wi g tc te):=by
 intro pins s σ H Q I h
 rw[eval_ListComp]
 refine wpAny_comprehension_free (use:=none) rfl hs (uT λx hx hk=>I.ok.has x.1 (S.free x hx hk)) S.kind S.names (cE (hit s σ H _ I h) λv s1 h1=>cE h1 λitv s2 h2=>?_)
 refine al7 (RR:=λacc C=>compPost (model X.prog X.w) X.A X.xe none (EP X pins σ Q) acc C) S hc hg hi he h2 ?_
 rintro D C s' H' I' ⟨m,hn⟩ f q
 exact⟨m,hn,λh'' sb=>⟨.ref D,H',I'.turned (t':=s'.toks) (λb o hb e=>(sb.2 b hb).trans e) f.1 f.2.1 f.2.2.2.1 f.2.2.2.2.1 f.2.2.2.2.2,rfl,q⟩⟩
theorem qK{i:Nat}{y:Str}{py spos:Pos}{tg iter elt:Expr}{ifs:List Expr}{scope:Scope}{pos:Pos}{ks:List Nat}{wi:TI}{g:TG}{tc:TT}{te:TE}(hN:X.N.Nodup)(hi':X.N[i]?=some y)(hy:Loc X.env.scope y)
 (S:CScope X ks scope)(hc:X.calm=true)(hit:PI X tg iter wi)
 (hg:∀cl C s₀ H₀ ex,PG (pC X scope cl C s₀ H₀ ex) tg g)(hi:∀cl C s₀ H₀ ex,PIf (pC X scope cl C s₀ H₀ ex) ifs tc)(he:∀cl C s₀ H₀ ex,PE (pC X scope cl C s₀ H₀ ex) elt te)
 (hsw:swapsWith (.ListComp elt [⟨tg,iter,ifs,0⟩] scope pos) (some (.Name y py)) spos.line X.env=pure true:=by rfl)
 (hs:∀x,foldedSetIterable iter X.env x=pure x:=by intro _;rfl)(hf:X.fn y=true\/X.env.scope.names.lookup y=some .local:=by first|exact .inl rfl|exact .inr rfl|assumption):
 PS X (.Assign [.Name y py] (.ListComp elt [⟨tg,iter,ifs,0⟩] scope pos) spos) (aw5 i ks wi g tc te):=by
 intro pins s σ H D I h
 rw[exec_Assign_Name_used _ _ _ _ hsw]
 refine wpAny_bind (wpAny_standAt (wpAny_bind ?_))
 show wpAny _ X.A (do let _<-comprehension (.ListComp elt [⟨tg,iter,ifs,0⟩] scope pos) scope X.env _ (newList []) false (eval iter X.env) (some (assign (.Name y py) X.env))) _ _ s
 refine wpAny_bind (wpAny_mono (wpAny_comprehension_free (use:=some (assign (.Name y py) X.env)) (Q:=λ_ s'=>SP X pins D .next s') rfl hs (uT λx hx hk=>I.ok.has x.1 (S.free x hx hk)) S.kind S.names
  (cE (hit s σ H _ I h) λv s1 h1=>cE h1 λitv s2 h2=>?_)) (λ_ s' hq=>wpAny_pure (wpAny_pure hq)) λ_ _ e=>e)
 refine al7 (RR:=λacc C=>compPost (model X.prog X.w) X.A X.xe (some (assign (.Name y py) X.env)) (λ_ s'=>SP X pins D .next s') acc C) S hc hg hi he h2 ?_
 rintro L C s' H' I' ⟨m,hn⟩ f q
 show wpAny _ _ (assign (.Name y py) X.env (.ref L)) _ _ s'
 refine wpAny_assign_Name (ak2 (v:=.ref L) I' hN hi' hy rfl (λs'' I'' hh=>?_) hf)
 obtain⟨a,sb,ha⟩:=hh
 have hCa:C≠a:=by
  rcases ha with e|e
  . rw[e];exact f.2.1
  . exact λz=>f.2.2.2.2.1 y a e z.symm
 exact⟨m,hn.sameBut sb hCa,λh'' sb'=>⟨_,H',I''.turned (t':=s''.toks) (λb o hb e=>(sb'.2 b hb).trans e) f.1 f.2.1 f.2.2.2.1 f.2.2.2.2.1 f.2.2.2.2.2,q⟩⟩
end
end L2
namespace L2
open PySem PySem.Spec PyProof.Rows
section
variable {X : Cx}
theorem ba2(hc:X.calm=true):CallR X (.builtin "max") (λxs H Q=>∃(p:Addr)(ns:List Int),xs=[.ref p]/\SqL X.K H p (ns.map V.int)/\ns≠[]/\∀M,M∈ns->(∀a∈ns,a<=M)->Q (.int M) H):=by
 intro pins s σ H xs us Q I r h
 obtain⟨p,ns,rfl,hp,hne,q⟩:=h
 obtain⟨u,rfl,ru⟩:=r.one
 obtain rfl:u=Value.ref p:=ru
 obtain⟨its,rv,pl,_⟩:=I.list hp
 have hi:IntsAre its ns:=ar0 rv
 have hl:=pl.isList
 obtain⟨xs,e⟩:=hi.allInts.items
 have hns:ns=xs.toList.map (·.1):=by
  rw[<-hi.numsOf,<-nums_intItems,<-e]
 have hsz:0<xs.size:=by
  have h3:=List.length_pos_iff.mpr hne
  rw[hns,List.length_map,Array.length_toList]at h3
  exact h3
 rw[e]at hl
 refine max_intList (I.ok.hd hc) hl hsz λv h' tk hv hk=>?_
 obtain⟨t,rfl⟩:=intItems_at hv
 obtain⟨h1,h2⟩:=argBest_gt (numAt xs) (xs.size-1)
 refine⟨.int _,H,I.kept hk,⟨t,rfl⟩,q _ ?_ λa ha=>?_⟩
 . rw[hns,numAt_eq];exact getD_mem (by rw[List.length_map,Array.length_toList];omega)
 . rw[hns]at ha
   obtain⟨j,hj,rfl⟩:=mem_getD ha
   rw[List.length_map,Array.length_toList]at hj
   rw[<-numAt_eq];exact h2 j (by omega)
theorem bo1(hc:X.calm=true):CallR X (.builtin "min") (λxs H Q=>∃(p:Addr)(ns:List Int),xs=[.ref p]/\SqL X.K H p (ns.map V.int)/\ns≠[]/\∀M,M∈ns->(∀a∈ns,M<=a)->Q (.int M) H):=by
 intro pins s σ H xs us Q I r h
 obtain⟨p,ns,rfl,hp,hne,q⟩:=h
 obtain⟨u,rfl,ru⟩:=r.one
 obtain rfl:u=Value.ref p:=ru
 obtain⟨its,rv,pl,_⟩:=I.list hp
 have hi:IntsAre its ns:=ar0 rv
 have hl:=pl.isList
 obtain⟨xs,e⟩:=hi.allInts.items
 have hns:ns=xs.toList.map (·.1):=by
  rw[<-hi.numsOf,<-nums_intItems,<-e]
 have hsz:0<xs.size:=by
  have h3:=List.length_pos_iff.mpr hne
  rw[hns,List.length_map,Array.length_toList]at h3
  exact h3
 rw[e]at hl
 refine min_intList (I.ok.hd hc) hl hsz λv h' tk hv hk=>?_
 obtain⟨t,rfl⟩:=intItems_at hv
 obtain⟨h1,h2⟩:=argBest_lt (numAt xs) (xs.size-1)
 refine⟨.int _,H,I.kept hk,⟨t,rfl⟩,q _ ?_ λa ha=>?_⟩
 . rw[hns,numAt_eq];exact getD_mem (by rw[List.length_map,Array.length_toList];omega)
 . rw[hns]at ha
   obtain⟨j,hj,rfl⟩:=mem_getD ha
   rw[List.length_map,Array.length_toList]at hj
   rw[<-numAt_eq];exact h2 j (by omega)
end
section
variable {X : Cx}
end
end L2
namespace L2
open PySem PySem.Spec PyProof.Rows
def Its(z:Str):It:=⟨λi _=>i<z.cps.size,λi H x H'=>H'=H/\∃c,z.cps[i]?=some c/\x=.str ⟨#[c]⟩,λi _=>z.cps.size<=i⟩
theorem by2{M:Model}{A:Around}{E:Value->Shared->Prop}{s:Shared}{tg:Expr}{it:Addr}{x:Str}{t:Tok}{Q:Unit->Shared->Prop}(hQ:Q () s):wpAny M A (letOwnedTupleGo tg (.ref it) (.str x t)) Q E s:=by
 unfold letOwnedTupleGo
 cases tg<;>exact wpAny_pure hQ
theorem aq9{P:Program}{w:World}{K:PySem.W.Frag}{tg:Expr}(it:Addr)(z:Str)(t:Tok):aq1 P w K tg (Its z) [it] it (λi h=>h.IsStrIter it "str_ascii_iterator" z t i) where
 mem:=by simp
 obj:=λi h st b hb=>by
  have e:b=it:=by simpa using hb
  subst e
  obtain⟨o,e,c,d⟩:=st
  exact⟨o,e,λv q=>by rw[d]at q;cases q⟩
 keep:=λi h h' st k=>let⟨o,e,r⟩:=st;⟨o,k it (by simp) o e,r⟩
 item:=by
  intro X hP hw hK hc i pins s σ H E I hf st hg
  subst hP hw hK
  obtain⟨f0,f1,f2,f3,f4,f5⟩:=hf it (by simp)
  have hg':i<z.cps.size:=hg
  refine wpAny_pyNext_ascii_item st (c:=z.cps[i]) (by simp[hg']) λh' hit' hs'=>?_
  have I1:Inv X pins σ H {s with heap:=h',toks:=s.toks+1}:=I.turned (λb o hb e=>hs'.extBut b o hb e) f0 f1 f3 f4 f5
  exact⟨_,rfl,by2 ⟨.str ⟨#[z.cps[i]]⟩,H,I1,⟨_,rfl⟩,⟨rfl,_,by simp[hg'],rfl⟩,hit',λb hb=>(hf b hb).1⟩⟩
 done:=by
  intro X hP hw hK hc i pins s σ H E I hf st hg
  subst hP hw hK
  obtain⟨f0,f1,f2,f3,f4,f5⟩:=hf it (by simp)
  have hg':z.cps.size<=i:=hg
  exact wpAny_pyNext_ascii_end (I.ok.hd hc) st (by simp[hg']) λh' he'=>⟨rfl,I.turned (t':=s.toks) (λb o hb e=>he' b o hb e) f0 f1 f3 f4 f5⟩
 self:=λ_ _ _ _ _ st h=>wpAny_pyIter_striter_ascii st h
theorem br0{P:Program}{w:World}{K:PySem.W.Frag}{tg:Expr}(it:Addr)(z:Str)(t:Tok):aq1 P w K tg (Its z) [it] it (λi h=>h.IsStrIter it "str_iterator" z t i) where
 mem:=by simp
 obj:=λi h st b hb=>by
  have e:b=it:=by simpa using hb
  subst e
  obtain⟨o,e,c,d⟩:=st
  exact⟨o,e,λv q=>by rw[d]at q;cases q⟩
 keep:=λi h h' st k=>let⟨o,e,r⟩:=st;⟨o,k it (by simp) o e,r⟩
 item:=by
  intro X hP hw hK hc i pins s σ H E I hf st hg
  subst hP hw hK
  obtain⟨f0,f1,f2,f3,f4,f5⟩:=hf it (by simp)
  have hg':i<z.cps.size:=hg
  refine wpAny_pyNext_wide_item st (c:=z.cps[i]) (by simp[hg']) λh' hit' hs'=>?_
  have I1:Inv X pins σ H {s with heap:=h',toks:=s.toks+1}:=I.turned (λb o hb e=>hs'.extBut b o hb e) f0 f1 f3 f4 f5
  exact⟨_,rfl,by2 ⟨.str ⟨#[z.cps[i]]⟩,H,I1,⟨_,rfl⟩,⟨rfl,_,by simp[hg'],rfl⟩,hit',λb hb=>(hf b hb).1⟩⟩
 done:=by
  intro X hP hw hK hc i pins s σ H E I hf st hg
  subst hP hw hK
  obtain⟨f0,f1,f2,f3,f4,f5⟩:=hf it (by simp)
  have hg':z.cps.size<=i:=hg
  exact wpAny_pyNext_wide_end (I.ok.hd hc) st (by simp[hg']) λh' he'=>⟨rfl,I.turned (t':=s.toks) (λb o hb e=>he' b o hb e) f0 f1 f3 f4 f5⟩
 self:=λ_ _ _ _ _ st h=>wpAny_pyIter_striter_wide st h
section
variable {X : Cx}
def cx1:V->Option Int->Option Int->Hp->VK->Prop:=λx lo hi H Q=>∃z,x=.str z/\z.length<=sizeLine/\Q (.str (Txt.slice z lo hi)) H
theorem cc2:SlR X cx1:=by
 intro pins s σ H x v vl vu lo hi sl Q I rx hs pl pu h
 obtain⟨z,rfl,hz,q⟩:=h
 obtain⟨t,rfl⟩:=rx
 refine⟨"str",_,F.slot_str_getitem.lookup,typeIs_str s z t,?_⟩
 obtain⟨o,e,c,d⟩:=hs
 have go:∀(l u:Option (Int×Tok)),vl=partValue l->vu=partValue u->lo=l.map (·.1)->hi=u.map (·.1)->wpAny (model X.prog X.w) X.A (getItem (.str z t) (.ref sl)) (EP X pins σ Q) X.xe s:=by
  rintro l u rfl rfl rfl rfl
  refine wpAny_getItem_str_slice (l:=l) (u:=u) (st:=none) ⟨o,e,c,d⟩ rfl ?_
  unfold sliceMade
  unfold Txt.slice at q
  have e1:((((none:Option (Int×Tok)).map (·.1)).getD 1==1&&(slicePicked z l u none).length==z.length)=true)=(((1:Int)==1&&(Builtin.Str.strSliceIndices (l.map (·.1)) (u.map (·.1)) 1 z.length).length==z.length)=true):=rfl
  split
  . rename_i hh
    rw[if_pos (e1▸hh)]at q
    exact⟨.str z,H,I,⟨t,rfl⟩,q⟩
  . rename_i hh
    rw[if_neg (e1▸hh)]at q
    refine⟨Nat.le_trans (Nat.le_trans (List.length_filterMap_le _ _) (sliceIndices_le _ _ _)) hz,.str _,H,I.tok _,⟨_,rfl⟩,q⟩
 cases pl with
 |none=>
  cases pu with
  |none=>exact go none none rfl rfl rfl rfl
  |int j u=>exact go none (some (j,u)) rfl rfl rfl rfl
 |int i t'=>
  cases pu with
  |none=>exact go (some (i,t')) none rfl rfl rfl rfl
  |int j u=>exact go (some (i,t')) (some (j,u)) rfl rfl rfl rfl
end
end L2
namespace L2
open PySem PySem.Spec PyProof.Rows
section
variable {X : Cx}
def cb5:R2:=λx y H Q=>∃i j,x=.str i/\y=.str j/\i.length+j.length<=sizeLine/\Q (.str (i++j)) H
def cf1(K:PySem.W.Frag):List V->Hp->VK->Prop:=λxs H Q=>∃x n,xs=[x]/\cv0 K x H n/\Q (.int n) H
def cn2:List V->Hp->VK->Prop:=λxs H Q=>∃i,xs=[.int i]/\Q (.int (if i<0 then -i else i)) H
def an7:List V->Hp->VK->Prop:=λxs H Q=>∃i j,xs=[.int i,.int j]/\gF i j/\∀p,H p=none->Q (.ref p) (upd H p (.tup [.int (i/j),.int (i%j)]))
def cf8(K:PySem.W.Frag):List V->Hp->VK->Prop:=λxs H Q=>∃x T tx b,xs=[x,.ty T]/\TyN K H x tx/\fY tx T b/\Q (.bl b) H
def cl3(K:PySem.W.Frag):List V->Hp->VK->Prop:=λxs H Q=>∃(p:Addr)(bs:List Bool),xs=[.ref p]/\SqL K H p (bs.map V.bl)/\Q (.bl (bs.all id)) H
def cv6:List V->Hp->VK->Prop:=λxs H Q=>∃i j,xs=[.int i,.int j]/\Q (.int (if j>i then j else i)) H
def cv5:List V->Hp->VK->Prop:=λxs H Q=>∃i j,xs=[.int i,.int j]/\Q (.int (if j<i then j else i)) H
def cr4(K:PySem.W.Frag):List V->Hp->VK->Prop:=λxs H Q=>∃(p:Addr)(ns:List Int),xs=[.ref p]/\SqL K H p (ns.map V.int)/\ns≠[]/\∀M,M∈ns->(∀a∈ns,a<=M)->Q (.int M) H
def cz6(K:PySem.W.Frag):List V->Hp->VK->Prop:=λxs H Q=>∃(p:Addr)(ns:List Int),xs=[.ref p]/\SqL K H p (ns.map V.int)/\ns≠[]/\∀M,M∈ns->(∀a∈ns,M<=a)->Q (.int M) H
def be6(K:PySem.W.Frag):List V->Hp->VK->Prop:=λxs H Q=>cv6 xs H Q\/cr4 K xs H Q
def bu3(K:PySem.W.Frag):List V->Hp->VK->Prop:=λxs H Q=>cv5 xs H Q\/cz6 K xs H Q
theorem bp2(hc:X.calm=true:=by rfl):CallR X (.builtin "max") (be6 X.K):=(bd3 hc).or (ba2 hc)
theorem by0(hc:X.calm=true:=by rfl):CallR X (.builtin "min") (bu3 X.K):=(bc1 hc).or (bo1 hc)
theorem ap3{x:Str}{ty:String}{pos:Pos}(hm:X.mg x=none)(hv:bootBuiltins x=some (.type ty))(hg:Gl X x:=by rfl)(hn:x≠"__name__":=by decide)(hd:(x==("__debug__":Str))=false:=by decide):PE X (.Name x pos) (tC (.ty ty)):=
 bv8 (v:=.ty ty) hg hm hv rfl hn hd
def jL(mg:Str->Option Value)(x:Str)(v:V):Prop:=∃u,mg x=some u/\RelV v u
theorem dP{x:Str}{v:V}{pos:Pos}(h:jL X.mg x v)(hg:Gl X x:=by rfl)(hd:(x==("__debug__":Str))=false:=by decide):PE X (.Name x pos) (tC v):=by
 obtain⟨u,hm,r⟩:=h
 exact by9 hg hm r hd
end
theorem jS:bootBuiltins "len"=some (.builtin "len"):=PySem.boot_len
theorem bt1:bootBuiltins "abs"=some (.builtin "abs"):=by decide+kernel
theorem wQ:bootBuiltins "divmod"=some (.builtin "divmod"):=by decide+kernel
theorem cB:bootBuiltins "isinstance"=some (.builtin "isinstance"):=by decide+kernel
theorem tL:bootBuiltins "all"=some (.builtin "all"):=by decide+kernel
theorem ci3:bootBuiltins "max"=some (.builtin "max"):=by decide+kernel
theorem br1:bootBuiltins "min"=some (.builtin "min"):=by decide+kernel
theorem cb2:bootBuiltins "int"=some (.type "int"):=by decide+kernel
theorem bq8:bootBuiltins "bool"=some (.type "bool"):=by decide+kernel
theorem lT:bootBuiltins "list"=some (.type "list"):=by decide+kernel
theorem yS:bootBuiltins "tuple"=some (.type "tuple"):=by decide+kernel
section
variable {t u : TS} {D : oG} {σ : St} {H : Hp} {te ta tb tc : TE} {g : TG} {i : Nat} {v : V} {Q : VK} {c : TT} {K : PySem.W.Frag} {r r' : R2}
end
end L2
namespace L2
open PySem PySem.Spec PyProof.Rows
structure dR (K:PySem.W.Frag) (mg:Str->Option Value) (x:Str) (st:Stmt):Prop where
 ex:∃f fd,Fun K x x st f fd/\mg x=some (.ref f)
theorem cl1{K:PySem.W.Frag}{h:Heap}{mg:Str->Option Value}(X:K.In h)(G:h.Ns mainGlobals mg){x:Str}{st:Stmt}{f:Addr}{oc:Value}{od an:Option Addr}{osl:Array (Option Value)}{kV doc pm cdv ct:Value}
 (a:PySem.W.nsIn K mainGlobals x=some (some (.ref f)))(l:K.lookup f=some ⟨oc,od,.func (PySem.W.fnOf x x (fZ st) (cF st) (aS st) .none kV doc pm an cdv ct),osl⟩)
 (c:PySem.W.codeIn K cdv x=true)(k:PySem.W.keepIn K (.ref f)=true):dR K mg x st:=⟨f,_,wV l c k,PySem.W.mg_of X G a⟩
theorem cj3{K:PySem.W.Frag}{h:Heap}{mg:Str->Option Value}(X:K.In h)(G:h.Ns mainGlobals mg){x:Str}{v:V}{u:Value}(a:PySem.W.nsIn K mainGlobals x=some (some u))(r:RelV v u):jL mg x v:=⟨u,PySem.W.mg_of X G a,r⟩
section
variable {P : Program} {w : World} {K : PySem.W.Frag} {mg : Str → Option Value} {base : Heap}
end
theorem co0{a:Int}{n:Nat}(h:Builtin.Int.intBits a<=n):a.natAbs<2^n:=by
 unfold Builtin.Int.intBits at h
 by_cases e:a=0
 . subst e
   exact Nat.two_pow_pos n
 . rw[if_neg (by simpa using e)]at h
   have h0:a.natAbs≠0:=by omega
   exact(Nat.log2_lt h0).mp (by omega)
theorem az6{a:Int}{n:Nat}(h:a.natAbs<2^n):Builtin.Int.intBits a<=n:=by
 unfold Builtin.Int.intBits
 by_cases e:a=0
 . subst e
   exact Nat.zero_le _
 . rw[if_neg (by simpa using e)]
   have h0:a.natAbs≠0:=by omega
   have:=(Nat.log2_lt h0).mpr h
   omega
theorem ax7{a b:Int}(h:Builtin.Int.intBits a+Builtin.Int.intBits b<=134217728):IntMulOk a b:=by
 have e:(2:Nat)^27=134217728:=by decide
 have h:Builtin.Int.intTooBig (Builtin.Int.intBits a+Builtin.Int.intBits b)=false:=by
  unfold Builtin.Int.intTooBig bitsLine
  exact decide_eq_false (by omega)
 unfold IntMulOk
 rw[h]
 simp
theorem bi8{a b:Int}(h1:-(2^64)<b)(h2:b<2^64):IntMulOk a b:=IntMulOk.of_right (intBits_le_64 h1 h2)
theorem bk8{a b:Int}(h1:-(2^64)<a)(h2:a<2^64):IntMulOk a b:=IntMulOk.of_left (intBits_le_64 h1 h2)
end L2
namespace L2
open PySem PySem.Spec PyProof.Rows
section
variable {prog : Program} {w : World} {A : Around} {E : Value → Shared → Prop} {s : Shared}
end
section
variable {prog : Program} {w : World} {A : Around} {E : Value → Shared → Prop} {s : Shared}
end
end L2
namespace L2
open PySem PySem.Spec PyProof.Rows
def SqK(k:Bool)(K:PySem.W.Frag)(H:Hp)(l:Addr)(xs:List V):Prop:=cond k (SqT K H l xs) (SqL K H l xs)
section
variable {X : Cx} {pins : List (Addr × Obj)} {σ : St} {H : Hp} {s : Shared} {l : Addr} {xs ys : List V}
end
def Itz(K:PySem.W.Frag)(k1 k2:Bool)(l1 l2:Addr):It:=
 ⟨λi H=>∃xs ys x y,SqK k1 K H l1 xs/\SqK k2 K H l2 ys/\xs[i]?=some x/\ys[i]?=some y,
  λi H v H'=>∃p,H p=none/\v=.ref p/\∀xs ys,SqK k1 K H l1 xs->SqK k2 K H l2 ys->∃x y,xs[i]?=some x/\ys[i]?=some y/\H'=upd H p (.tup [x,y]),
  λi H=>∃xs ys,SqK k1 K H l1 xs/\SqK k2 K H l2 ys/\(xs.length<=i\/ys.length<=i)⟩
def Ite(K:PySem.W.Frag)(l:Addr):It:=
 ⟨λi H=>∃xs x,SqL K H l xs/\xs[i]?=some x,λi H v H'=>∃p,H p=none/\v=.ref p/\∀xs,SqL K H l xs->∃x,xs[i]?=some x/\H'=upd H p (.tup [.int i,x]),λi H=>∃xs,SqL K H l xs/\xs.length<=i⟩
section
variable {X : Cx}
end
end L2
namespace L2
open PySem PySem.Spec PyProof.Rows
def jK(σ:List Str)(x:Str):List Str:=if σ.any (· ==x)=true then σ else σ++[x]
def jU(val:Nat->Str)(i:Nat):List Str:=((List.range i).map val).foldl jK []
theorem wS(val:Nat->Str)(i:Nat):jU val (i+1)=jK (jU val i) (val i):=by
 unfold jU
 rw[List.range_succ,List.map_append,List.foldl_append]
 rfl
theorem ae5(val:Nat->Str):∀i,(jU val i).length<=i
 |0=>Nat.le_refl _
 |i+1=>by
  rw[wS]
  unfold jK
  have ih:=ae5 val i
  split
  . omega
  . simp;omega
theorem bt2(σ:List Str)(v k:Str):(jK σ v).any (· ==k)=(σ.any (· ==k)||decide (k=v)):=by
 unfold jK
 by_cases h:σ.any (· ==v)=true
 . rw[if_pos h]
   by_cases e:k=v
   . subst e
     rw[h]
     simp
   . simp[e]
 . rw[if_neg h,List.any_append]
   by_cases e:k=v
   . subst e
     simp
   . have hb:(v==k)=false:=by simpa using(λh':v=k=>e h'.symm)
     simp[hb,e]
theorem bv1(σ:List Str)(v:Str):(jK σ v).length=if σ.any (· ==v)then σ.length else σ.length+1:=by
 unfold jK
 split<;>simp
section
variable {prog : Program} {w : World} {A : Around} {R : Result → Shared → Prop} {I : Addr} {fp wr : List Addr} {G : Array GenState → Array GenState → Prop} {n : Nat} {P : Nat → Value → Prop} {St : Nat → Shared → Prop}
theorem br5(W:WalksS prog w A.in1 I fp wr G n P St)(S:Addr)(hS:S∉fp)(val:Nat->Str)(hval:∀i v,P i v->∃t,v=.str (val i) t)(hb:n+1<scanBound):
 ∀(k i:Nat)(s:Shared),n-i=k->i<=n->St i s->s.heap.SetOf (strKind prog w) S (λx=>(jU val i).any (· ==x)) (jU val i).length->
  (∀s',Moved (S::wr) G s s'->s'.heap.SetOf (strKind prog w) S (λx=>(jU val n).any (· ==x)) (jU val n).length->R (.ok (.ret .none)) s')->
  codeAny (model prog w) A (.builtin "set.update.loop" ⟨[.ref S,.ref I],[]⟩) R s:=by
 have hw:S∉wr:=λh=>hS (W.sub _ h)
 have sub:∀b∈wr,b∈S::wr:=λb hb=>List.mem_cons_of_mem _ hb
 intro k
 induction k with
 |zero=>
  intro i s hk hi st hs hR
  obtain rfl:i=n:=by omega
  refine codeAny_builtin PyProof.Rows.F.entry_set_update_loop ?_;rw[Around.under_plainId PyProof.Rows.F.plain_set_update_loop _]
  (show wpAny _ A.in1 (pyNext (.ref I)>>=_) _ _ s);refine wpAny_bind (W.done s _ _ st λs' hm=>?_)
  (show wpAny _ A.in1 (ret Value.none) _ _ s');refine wpAny_pure (hR s' (hm.mono sub) ?_)
  obtain⟨o,es,ep,t,ho,r⟩:=hs
  exact⟨o,es,ep,t,hm.heap S _ hw ho,r⟩
 |succ k ih=>
  intro i s hk hi st hs hR
  have lt:i<n:=by omega
  refine codeAny_builtin PyProof.Rows.F.entry_set_update_loop ?_;rw[Around.under_plainId PyProof.Rows.F.plain_set_update_loop _]
  (show wpAny _ A.in1 (pyNext (.ref I)>>=_) _ _ s);refine wpAny_bind (W.item i s _ _ lt st λv s' hP st' hm=>?_)
  obtain⟨t,rfl⟩:=hval i v hP
  have hs':s'.heap.SetOf (strKind prog w) S (λx=>(jU val i).any (· ==x)) (jU val i).length:=by
   obtain⟨o,es,ep,tb,ho,r⟩:=hs
   exact⟨o,es,ep,tb,hm.heap S _ hw ho,r⟩
  (show wpAny _ A.in1 (holding [Value.str (val i) t] (setAdd S (.str (val i) t))>>=_) _ _ s');refine wpAny_bind (wpAny_holding ?_);unfold setAdd
  refine wpAny_holding ?_;refine wpAny_bind ((strKind prog w).pyHash (k:=val i) (strKind_is _ _ _ _) ?_)
  have room:(jU val i).length+1<scanBound:=by have:=ae5 val i;omega
  refine wpAny_setAddHashed_of (knd:=strKind prog w) (s:={s' with toks:=s'.toks+1}) (strKind_is _ _ _ _) rfl hs' room λh' hsb hS2=>?_
  have hi':h'.SetOf (strKind prog w) S (λx=>(jU val (i+1)).any (· ==x)) (jU val (i+1)).length:=SetOf_congr hS2 (λx=>by rw[wS,bt2]) (by rw[wS,bv1])
  refine wpAny_pure ⟨plainId_quiet PyProof.Rows.F.plain_set_update_loop _,ih (i+1) _ (by omega) lt (W.frame _ s' _ _ st' (Nat.le_succ _) λb hb o e=>?_) hi' λs'' hm'' hS''=>?_⟩
  . exact(hsb.2 b (λh:b=S=>hS (by rw[<-h];exact hb))).trans e
  . refine hR s'' (Moved.trans W.gtrans ((hm.mono sub).then_heap (Nat.le_succ _) λb o hb e=>?_) hm'') hS''
    exact(hsb.2 b (λh:b=S=>hb (by rw[h];exact List.mem_cons_self))).trans e
end
section
variable {prog : Program} {w : World} {A : Around} {E : Value → Shared → Prop} {s : Shared}
abbrev kE(led:Bool):Obj:={cls:=.type "set",dict:=none,data:=.set #[] 0 (.fresh 0 0 led)}
set_option maxHeartbeats 3200000 in
theorem ad3{l:Addr}{us:Array Value}{val:Nat->Str}{Q:Value->Shared->Prop}(hh:A.handled=none)(hl:s.heap.IsList l us)(hv:∀(i:Nat) v,us[i]?=some v->∃t,v=.str (val i) t)(hb:us.size+1<scanBound)
 (h:∀(h':Heap)(tk:Nat),h'.SetOf (strKind prog w) s.heap.objs.size (λx=>(jU val us.size).any (· ==x)) (jU val us.size).length->(∀b o,b<s.heap.objs.size->s.heap.get? b=some o->h'.get? b=some o)->Q (.ref s.heap.objs.size) {s with heap:=h',toks:=tk}):
 wpAny (model prog w) A (call (.type "set") [.ref l]) Q E s:=by
 obtain⟨c,tl,hmro⟩:=PySem.F.called_set.mro
 have hmade:=PySem.F.called_set.made
 have hsub:=PySem.F.called_set.sub
 refine wpAny_call (codeAny_of_tree ?_);(show wpAny _ _ (callAny (.type "set") _) _ _ _)
 refine wpAny_pure ⟨Code.quiet_builtin _ (by decide+kernel),codeAny_builtin PySem.F.entry_type_call ?_⟩;rw[Around.under_plain (weight_type_call_type "set" [.ref l] []) rfl]
 have h1:=PySem.F.called_set.notType
 have h2:=PySem.F.called_set.canCreate
 have hct:=PySem.F.typeCall_set_1 (.ref l)
 (repeat(any_goals(first|assumption|wp_step)))
 refine codeAny_mono (code_set_new_1 (.ref l) (E:=E) (Q₁:=λobj s₁=>∃led:Bool,obj=.ref s.heap.objs.size/\s₁={s with heap:=s.heap.push (kE led)}) λled=>⟨led,rfl,rfl⟩) λr s₁ hr=>?_
 cases r with
 |error e=>exact hr
 |ok fl=>
  cases fl with
  |ret obj=>
   obtain⟨led,rfl,rfl⟩:=hr
   have hS:(s.heap.push (kE led)).get? s.heap.objs.size=some (kE led):=Heap.get?_push_size _ rfl
   have hT:Shared.TypeIs {s with heap:=s.heap.push (kE led)} (.ref s.heap.objs.size) "set":=⟨_,hS,rfl⟩
   have hli:=PySem.F.called_set.init.lookup
   have hbi:=PySem.F.called_set.init.bind (.ref s.heap.objs.size)
   (repeat(any_goals(first|assumption|wp_step)))
   refine codeAny_mono (codeAny_call_builtin (R:=wants (λr s₂=>r=.none/\∃h' tk,s₂={s with heap:=h',toks:=tk}/\h'.SetOf (strKind prog w) s.heap.objs.size (λx=>(jU val us.size).any (· ==x)) (jU val us.size).length/\
    (∀b o,b<s.heap.objs.size->s.heap.get? b=some o->h'.get? b=some o)) E) PySem.F.called_set.init.plain PySem.F.entry_set_init (check_set_init_1 hT ?_)) λr₂ s₂ hr₂=>?_
   . obtain⟨ol,hol,hcl,nl,hdl⟩:=hl
     obtain⟨ocls,odict,odata,oslots⟩:=ol
     simp only at hcl hdl;subst hcl;subst hdl
     have hol':(s.heap.push (kE led)).get? l=some {cls:=.type "list",dict:=odict,data:=.seq us nl,slots:=oslots}:=Heap.get?_push_of_some _ hol
     have hsls:=PySem.F.sub_list_set
     have hslf:=PySem.F.sub_list_frozenset
     have hne:(Value.type "list"==Value.type "dict")=false:=by decide
     have hl1:(s.heap.push (kE led)).IsList l us:=⟨_,hol',rfl,nl,rfl⟩
     unfold Builtin.«set.__init__» noKeywords Builtin.Frozenset.updateFrom;generalize hPI:pyIter=PI;wp_walk;subst hPI
     refine wpAny_pyIter_list hl1 ?_;refine wpAny_bind (wpAny_runValue ?_)
     have hlS:l<s.heap.objs.size:=Heap.lt_size hol
     have hh3:A.in1.in1.in1.handled=none:=by simp[hh]
     have hneI:l≠(s.heap.push (kE led)).objs.size:=by rw[Heap.size_push];exact Nat.ne_of_lt (Nat.lt_succ_of_lt hlS)
     have hSf:s.heap.objs.size∉[(s.heap.push (kE led)).objs.size,l]:=by
      rw[Heap.size_push];simp only[List.mem_cons,List.not_mem_nil,or_false,not_or];exact⟨Nat.ne_of_lt (Nat.lt_succ_self _),Nat.ne_of_gt hlS⟩
     refine br5 ((Walks.list hh3 _ l hneI us).toS) s.heap.objs.size hSf val hv hb (us.size-0) 0 _ (by omega) (Nat.zero_le _) ⟨⟨_,Heap.get?_push_size _ rfl,rfl,rfl⟩,(hl1.push _)⟩ ?hS0 ?hR
     case hS0=>exact SetOf_congr ((setObjOf_fresh (knd:=strKind prog w) led).setOf (Heap.get?_push_of_some _ hS) (by unfold scanBound;omega)) (λ_=>rfl) rfl
     case hR=>
      intro s' hm hS'
      obtain⟨h',g',d',tk',os'⟩:=s'
      obtain rfl:g'=s.gens:=hm.gens
      obtain rfl:d'=s.drawn:=hm.drawn
      obtain rfl:os'=s.os:=hm.os
      (show wpAny _ _ _ _ _ _);refine wpAny_pure ?_;(show wpAny _ _ (ret Value.none) _ _ _)
      refine wpAny_pure ⟨rfl,h',tk',rfl,hS',λb o hb e=>?_⟩
      have hb2:b≠(s.heap.push (kE led)).objs.size:=by rw[Heap.size_push];exact Nat.ne_of_lt (Nat.lt_succ_of_lt hb)
      exact hm.heap b o (by simp only[List.mem_cons,List.not_mem_nil,or_false,not_or];exact⟨Nat.ne_of_lt hb,hb2⟩) (Heap.get?_push_of_some _ (Heap.get?_push_of_some _ e))
   . cases r₂ with
     |error e=>exact hr₂
     |ok fl₂=>
      cases fl₂ with
      |ret r=>
       obtain⟨rfl,h',tk,rfl,hS',hk'⟩:=hr₂
       (repeat(any_goals(first|assumption|wp_step)))
       exact h _ _ hS' hk'
      |_=>exact hr₂
  |_=>exact hr
end
end L2
namespace L2
open PySem PySem.Spec PyProof.Rows
def dkA(h:Heap)(a:Addr):Option (Option Addr):=(h.objs[a]?).map (·.dict)
def KD(h h':Heap):Prop:=∀a d,dkA h a=some d->dkA h' a=some d
theorem KD.refl(h:Heap):KD h h:=λ_ _ e=>e
theorem KD.trans{a b c:Heap}(x:KD a b)(y:KD b c):KD a c:=λp d e=>y p d (x p d e)
theorem KD.at{h h':Heap}{a:Addr}{o o':Obj}(k:KD h h')(e:h.get? a=some o)(e':h'.get? a=some o'):o'.dict=o.dict:=by
 have h1:dkA h a=some o.dict:=by unfold dkA;rw[(Heap.get?_some_iff.mp e).1];rfl
 have h2:dkA h' a=some o'.dict:=by unfold dkA;rw[(Heap.get?_some_iff.mp e').1];rfl
 rw[k a _ h1]at h2
 exact(Option.some.inj h2).symm
theorem KD.push(h:Heap)(o:Obj):KD h (h.push o):=λa d e=>by
 unfold dkA at*
 show((h.objs.push o)[a]?).map _=_
 have lt:a<h.objs.size:=by
  cases q:h.objs[a]? with
  |none=>rw[q]at e;cases e
  |some x=>exact(Array.getElem?_eq_some_iff.mp q).1
 rw[Array.getElem?_push_lt lt,<-e,Array.getElem?_eq_getElem lt]
theorem KD.upd(h:Heap)(b:Addr){f:Obj->Obj}(hf:∀o,(f o).dict=o.dict):KD h (h.update b f):=λa d e=>by
 unfold dkA at*
 show((h.objs.modify b f)[a]?).map _=_
 rw[Array.getElem?_modify]
 by_cases q:b=a
 . subst q
   rw[if_pos rfl]
   cases z:h.objs[b]? with
   |none=>rw[z]at e;cases e
   |some x=>rw[z]at e;rw[<-e];exact congrArg some (hf x)
 . rw[if_neg q];exact e
def Dk{α:Type}:Sem α->Prop
 |.pure _=>True
 |.raise _=>True
 |.unsupported _=>True
 |.finish _=>True
 |.register _ _=>True
 |.rule _ k=>Dk (k ())
 |.at _ k=>Dk (k ())
 |.load _ _ k=>∀o,Dk (k o)
 |.update _ _ f k=>(∀o,(f o).dict=o.dict)/\Dk (k ())
 |.loadIfAlive _ k=>∀o,Dk (k o)
 |.point _ k=>Dk (k ())
 |.alloc _ k=>∀a,Dk (k a)
 |.fresh k=>∀a,Dk (k a)
 |.ask k=>∀a,Dk (k a)
 |.handled _ k=>∀a,Dk (k a)
 |.stack k=>∀a,Dk (k a)
 |.thread k=>∀a,Dk (k a)
 |_=>False
theorem ct6{α:Type}{M:Model}{Γ:PySem.Ctx}{h0:Heap}{Q:α->Pos->Shared->Prop}{E:Value->Pos->Shared->Prop}:∀(t:Sem α)(p:Pos)(s:Shared),Dk t->KD h0 s.heap->Sem.wp M Γ t Q E p s->
 Sem.wp M Γ t (λa p' s'=>Q a p' s'/\KD h0 s'.heap) (λe p' s'=>E e p' s'/\KD h0 s'.heap) p s:=by
 intro t
 induction t with
 |pure a=>intro p s _ k h;simp only[Sem.wp]at h⊢;exact⟨h,k⟩
 |raise e=>intro p s _ k h;simp only[Sem.wp]at h⊢;exact⟨h,k⟩
 |unsupported w=>intro p s _ k h;simp only[Sem.wp]at h
 |finish e=>intro p s _ k h;simp only[Sem.wp]at h
 |register e=>intro p s _ k h;simp only[Sem.wp]at h
 |rule _ k ih=>intro p s d k h;simp only[Sem.wp,Dk]at h d⊢;exact ih () p s d k h
 |«at» _ k ih=>intro p s d k h;simp only[Sem.wp,Dk]at h d⊢;exact ih () _ s d k h
 |load a _ k ih=>intro p s d k h;simp only[Sem.wp,Dk]at h d⊢;obtain⟨o,e,h⟩:=h;exact⟨o,e,ih o p s (d o) k h⟩
 |update a _ f k ih=>intro p s d k h;simp only[Sem.wp,Dk]at h d⊢;exact⟨h.1,ih () p _ d.2 (k.trans (KD.upd _ _ d.1)) h.2⟩
 |loadIfAlive a k ih=>intro p s d k h;simp only[Sem.wp,Dk]at h d⊢;exact ih _ p s (d _) k h
 |point _ k ih=>intro p s d k h;simp only[Sem.wp,Dk]at h d⊢;exact ih () p s d k h
 |alloc o k ih=>intro p s d k h;simp only[Sem.wp,Dk]at h d⊢;exact ih _ p _ (d _) (k.trans (KD.push _ _)) h
 |fresh k ih=>intro p s d k h;simp only[Sem.wp,Dk]at h d⊢;exact ih _ p _ (d _) k h
 |ask k ih=>intro p s d k h;simp only[Sem.wp,Dk]at h d⊢;exact ih _ p _ (d _) k h
 |handled _ k ih=>intro p s d k h;simp only[Sem.wp,Dk]at h d⊢;exact ih _ p _ (d _) k h
 |stack k ih=>intro p s d k h;simp only[Sem.wp,Dk]at h d⊢;exact ih _ p _ (d _) k h
 |thread k ih=>intro p s d k h;simp only[Sem.wp,Dk]at h d⊢;exact ih _ p _ (d _) k h
 |_=>intro p s d;simp only[Dk]at d
theorem xI{α:Type}{M:Model}{A:Around}{Q:α->Shared->Prop}{E:Value->Shared->Prop}{t:Sem α}{s:Shared}(d:Dk t)(h:wpAny M A t Q E s):
 wpAny M A t (λa s'=>Q a s'/\KD s.heap s'.heap) E s:=λΓ p hΓ=>Sem.wp_mono M Γ t (λ_ _ _ z=>z) (λ_ _ _ z=>z.1) p s (ct6 t p s d (KD.refl _) (h Γ p hΓ))
theorem oM{α β:Type}{m:Sem α}{f:α->Sem β}(hm:Dk m)(hf:∀a,Dk (f a)):Dk (m>>=f):=by
 show Dk (m.bind f)
 induction m with
 |pure a=>exact hf a
 |raise e=>trivial
 |unsupported w=>trivial
 |finish e=>trivial
 |register e=>trivial
 |rule _ k ih=>simp only[Dk,Sem.bind]at hm⊢;exact ih () hm
 |«at» _ k ih=>simp only[Dk,Sem.bind]at hm⊢;exact ih () hm
 |load a _ k ih=>simp only[Dk,Sem.bind]at hm⊢;exact λo=>ih o (hm o)
 |update a _ g k ih=>simp only[Dk,Sem.bind]at hm⊢;exact⟨hm.1,ih () hm.2⟩
 |loadIfAlive a k ih=>simp only[Dk,Sem.bind]at hm⊢;exact λo=>ih o (hm o)
 |point _ k ih=>simp only[Dk,Sem.bind]at hm⊢;exact ih () hm
 |alloc o k ih=>simp only[Dk,Sem.bind]at hm⊢;exact λo=>ih o (hm o)
 |fresh k ih=>simp only[Dk,Sem.bind]at hm⊢;exact λo=>ih o (hm o)
 |ask k ih=>simp only[Dk,Sem.bind]at hm⊢;exact λo=>ih o (hm o)
 |handled _ k ih=>simp only[Dk,Sem.bind]at hm⊢;exact λo=>ih o (hm o)
 |stack k ih=>simp only[Dk,Sem.bind]at hm⊢;exact λo=>ih o (hm o)
 |thread k ih=>simp only[Dk,Sem.bind]at hm⊢;exact λo=>ih o (hm o)
 |_=>simp only[Dk]at hm
theorem tS{α:Type}(a:α):Dk (pure a:Sem α):=trivial
theorem av0{α:Type}(w:String):Dk (unsupported w:Sem α):=trivial
theorem xQ(a:Addr):Dk (load a):=λ_=>trivial
theorem zJ(v:Value)(i:Nat):Dk (field v i):=by
 unfold field fieldsOf
 repeat' first|exact tS _|exact av0 _|exact xQ _|exact bs3 _ _|refine oM ?_ λ_=>?_|split
theorem bg6(f:Array Value->Array Value)(o:Obj):(Obj.mapFields f o).dict=o.dict:=by
 obtain⟨c,d,dt,sl⟩:=o
 cases dt<;>rfl
theorem bg0(v:Value)(i:Nat)(x:Value):Dk (setField v i x):=by
 unfold setField updateField
 repeat' first|exact tS _|exact av0 _|exact xQ _|exact bs3 _ _|exact⟨bg6 _,trivial⟩|refine oM ?_ λ_=>?_|split
theorem vU(e:Value)(f:Option Addr):Dk (setFlight e f):=by
 unfold setFlight
 repeat' first|exact tS _|exact zJ _ _|exact bg0 _ _ _|refine oM ?_ λ_=>?_|split
theorem ar5:Dk underTheClaimsCaller:=by
 unfold underTheClaimsCaller
 exact oM (λ_=>trivial) λ_=>trivial
theorem ac6:∀l:List Env,Dk (readyFrames l)
 |[]=>trivial
 |env::outer=>by
  have ih:=ac6 outer
  unfold readyFrames behindIsImport keptBack
  repeat' first|exact ih|exact tS _|exact av0 _|exact xQ _|exact zJ _ _|exact ar5|exact⟨λ_=>rfl,trivial⟩|refine oM ?_ λ_=>?_|split
theorem ao7(e:Value)(env:Env):Dk (noteFrame e env):=by
 unfold noteFrame EntryCells.newEntry newFields newObj newObjAsIs PySem.frameOf frameObject frameEnvs entryPlaceOf
 repeat' first|exact tS _|exact av0 _|exact xQ _|exact zJ _ _|exact bg0 _ _ _|exact ac6 _|exact ar5|exact(λ_=>trivial)|exact trivial|refine oM ?_ λ_=>?_|split
theorem ae0(env:Env)(e:Value):Dk (leaving env e):=oM (ao7 e env) λ_=>vU e none
end L2
namespace L2
open PySem PySem.Spec PyProof.Rows
structure Fly (P:Program) (w:World) (outer:List Env) (H:Hp) (s:Shared) (C:Addr) (dx:Option Addr) (H':Hp) (ea:Addr) (s':Shared):Prop where
 os:s'.os=s.os
 bare:AllBare s'.gens
 un:Un (lY outer) [] H H' s.heap s'.heap
 hok:HOk P w H' s'.heap
 free:H' ea=none
 dict:∃o,s'.heap.get? ea=some o/\o.dict=dx
 air:∃a0 B,Heap.FlyingW B outer ea (.ref C) a0 s'.heap/\(∀b o,s.heap.get? b=some o->b∉lY outer->∃o',B.get? b=some o')/\∀b u,H' b=some u->∃o,B.get? b=some o
def pY(P:Program)(w:World):qY:=λouter H s E e s'=>∃ea C dx H',e=.ref ea/\Fly P w outer H s C dx H' ea s'/\E (.ref C) dx H'
section
variable {X : Cx} {pins : List (Addr × Obj)} {σ : St} {H H' : Hp} {s s2 : Shared} {B h3 : Heap} {ea C : Addr} {a0 : Value} {dx : Option Addr}
theorem ObjOk.there{P:Program}{w:World}{h:Heap}{a:Addr}{o:HO}(x:ObjOk P w H h a o):∃u,h.get? a=some u:=by
 cases o with
 |lst xs=>obtain⟨_,_,_,_,e⟩:=x;exact⟨_,e⟩
 |tup xs=>obtain⟨_,_,_,ob,e,_⟩:=x;exact⟨_,e⟩
 |dK kvs=>obtain⟨_,_,_,_,o,_,_,e,_⟩:=x;exact⟨_,e⟩
 |dT kvs=>obtain⟨_,_,_,_,o,_,_,e,_⟩:=x;exact⟨_,e⟩
 |set S n=>obtain⟨o,_,_,_,e,_⟩:=x;exact⟨_,e⟩
 |ins C dx fs=>obtain⟨_,_,_,e,_⟩:=x;exact⟨_,e⟩
 |own y=>exact x
 |xd fs=>obtain⟨_,⟨_,_,_,e,_⟩,_⟩:=x;exact⟨_,e⟩
 |rng lo hi=>obtain⟨_,_,_,e⟩:=x;exact⟨_,e⟩
 |frz ob u=>obtain⟨e,_⟩:=x;exact⟨_,e⟩
 |tbl ps=>exact⟨_,(show h.get? a=some _ from x)⟩
 |met f y=>exact⟨_,(show h.get? a=some _ from x)⟩
 |ext φ=>obtain⟨_,e,_⟩:=x;exact e
theorem HOk.based{P:Program}{w:World}{h h':Heap}(x:HOk P w H h)(hB:B.StaysIn h)(hB':B.StaysIn h')(c:∀b u,H b=some u->∃o,B.get? b=some o):HOk P w H h':=λa o e=>
 (x a o e).stay (λb u hb q=>by
  obtain⟨ob,eb⟩:∃ob,B.get? b=some ob:=by
   rcases hb with rfl|hb
   . exact c b o e
   . exact c b _ hb
  have:=hB b ob eb
  rw[q]at this
  cases this
  exact hB' b _ eb) (λ_ q=>q) (λ_ _ q=>q)
theorem Inv.ne_loc(I:Inv X pins σ H s){b:Addr}{o:Obj}(e:X.s₀.heap.get? b=some o):b≠X.env.locals:=λz=>by
 have h1:=Heap.lt_size e
 have h2:=I.ok.above
 rw[z]at h1
 exact absurd (Nat.lt_of_lt_of_le h1 h2) (Nat.lt_irrefl _)
theorem bf0(I:Inv X pins σ H' s2)(hex:X.ex=[])(hB2:B.StaysIn s2.heap)(hfl:Heap.FlyingW B X.outer ea (.ref C) a0 h3)(hup:s2.heap.UpToSlots h3)(hea:H' ea=none)(hdx:∃o,h3.get? ea=some o/\o.dict=dx)
 (c1:∀b o,X.s₀.heap.get? b=some o->b∉X.fs->∃o',B.get? b=some o')(c2:∀b u,H' b=some u->∃o,B.get? b=some o):Fly X.prog X.w X.outer X.H₀ X.s₀ C dx H' ea {s2 with heap:=h3}:=by
 have nx:∀b:Addr,b∉X.ex:=λb=>by rw[hex];simp
 have slot:∀b o,X.s₀.heap.get? b=some o->X.H₀ b=none->b∈X.fs->∃sl,h3.get? b=some {o with slots:=sl}:=λb o e n hb=>by
  obtain⟨sl,e1⟩:=I.base.slot b o e n hb (nx b)
  obtain⟨_,o',ho',hnf⟩:=I.ok.funs.mem hb
  rw[e]at ho'
  cases ho'
  obtain⟨sl',e2⟩:=hup b _ e1 hnf
  exact⟨sl',e2⟩
 refine⟨I.os,I.bare,⟨λb o e n hb _=>?_,λb o e n hb _=>slot b o e n hb,λb o e n _=>I.base.free b o e n (nx b),λb o e _=>?_,I.base.tups,I.base.frzs,I.base.tbls⟩,HOk.based I.hok hB2 hfl.1 c2,hea,hdx,a0,B,hfl,c1,c2⟩
 . obtain⟨o',eb⟩:=c1 b o e hb
   have e1:=I.base.keep b o e n hb (nx b)
   have:=hB2 b o' eb
   rw[e1]at this
   cases this
   exact hfl.1 b _ eb
 . by_cases hb:b∈X.fs
   . obtain⟨_,o',ho',_⟩:=hfl.2.2.1.mem hb
     exact⟨o',ho'⟩
   . obtain⟨o',eb⟩:=c1 b o e hb
     exact⟨o',hfl.1 b _ eb⟩
theorem bk2{M:Model}{A:Around}{E:Value->Shared->Prop}{H1:Hp}{s1:Shared}(I:Inv X pins σ H1 s1)(hA:A.frames=some (X.env::X.outer))(hex:X.ex=[])(hst:X.stack=X.env::X.outer)(hfr:X.env.frame=some X.env.locals)
 (F:Fly X.prog X.w X.stack H1 s1 C dx H' ea s2):wpAny M A (leaving X.env (.ref ea)) (λ_ s3=>Fly X.prog X.w X.outer X.H₀ X.s₀ C dx H' ea s3) E s2:=by
 obtain⟨a0,B,hfl,c1,c2⟩:=F.air
 obtain⟨oe,he,hd⟩:=F.dict
 have I2:Inv X pins σ H' s2:=I.call' (ch:=[]) F.os F.un F.hok F.bare (λb z=>absurd z (by simp))
 rw[hst]at hfl
 refine wpAny_mono (xI (ae0 _ _) (wpAny_leaves_onW (Q:=λ_ s3=>Heap.FlyingW B X.outer ea (.ref C) a0 s3.heap/\s2.heap.UpToSlots s3.heap/\s3={s2 with heap:=s3.heap}) hA hfr hfl λh' x1 x2=>⟨x1,x2,rfl⟩)) (λ_ s3 ⟨⟨x1,x2,x3⟩,kd⟩=>?_) λ_ _ z=>z
 rw[x3]
 refine bf0 I2 hex hfl.1 x1 x2 F.free ?_ (λb o e hb=>?_) c2
 . obtain⟨o3,h3,_⟩:=x1.there
   exact⟨o3,h3,(kd.at he h3).trans hd⟩
 obtain⟨o',e1⟩:=I.base.there b o e (by rw[hex];simp)
 refine c1 b o' e1 λhm=>?_
 rcases List.mem_cons.mp (I.stkSub b hm)with z|z
 . exact I.ne_loc e z
 . exact hb z
def vA(h:Heap)(e C:Addr)(dx:Option Addr):Prop:=∃oe vs a0,h.get? e=some oe/\oe.cls=.ref C/\oe.dict=dx/\oe.data=.fields vs/\vs[1]?=some Value.none/\vs[0]?=some a0
theorem bi1{M:Model}{A:Around}{E:Value->Shared->Prop}(I:Inv X pins σ H' s2)(hA:A.frames=some (X.env::X.outer))(hex:X.ex=[])(hst:X.stack=X.env::X.outer)(hfr:X.env.frame=some X.env.locals)
 (hea:H' ea=none)(h0:X.s₀.heap.get? ea=none)(hx:vA s2.heap ea C dx):wpAny M A (leaving X.env (.ref ea)) (λ_ s3=>Fly X.prog X.w X.outer X.H₀ X.s₀ C dx H' ea s3) E s2:=by
 obtain⟨oe,vs,a0,he,hc,hd,hda,h1,hv0⟩:=hx
 let B:=PySem.W.hideAll s2.heap (ea::lY X.stack)
 have hBh:B.StaysIn s2.heap:=λb o q=>PySem.W.of_hideAll _ q
 have hB:∀b o,s2.heap.get? b=some o->b∉ea::lY X.stack->B.get? b=some o:=λb o q n=>PySem.W.hideAll_get _ q n
 have hBe:B.get? ea=none:=PySem.W.hideAll_none _ List.mem_cons_self
 have hfun:s2.heap.FunFrames B (X.env::X.outer):=by
  have:=PySem.W.funFrames_hide (as:=ea::lY X.stack) I.stack (λenv he b hb=>List.mem_cons_of_mem _ (List.mem_filterMap.mpr ⟨env,he,hb⟩))
  rw[<-hst]
  exact this
 refine wpAny_mono (xI (ae0 _ _) (wpAny_leaving_firstW (Q:=λ_ s3=>Heap.FlyingW B X.outer ea (.ref C) a0 s3.heap/\s2.heap.UpToSlots s3.heap/\s3={s2 with heap:=s3.heap}) hA hfun hfr he hBh hBe hda h1 hv0 λh' ⟨k1,k2,k3,k4⟩=>⟨⟨k1,hBe,k2.2.2,hc▸k3⟩,k4,rfl⟩)) (λ_ s3 ⟨⟨x1,x2,x3⟩,kd⟩=>?_) λ_ _ z=>z
 rw[x3]
 refine bf0 I hex hBh x1 x2 hea ?_ (λb o e hb=>?_) (λb u q=>?_)
 . obtain⟨o3,h3,_⟩:=x1.there
   exact⟨o3,h3,(kd.at he h3).trans hd⟩
 . obtain⟨o',e1⟩:=I.base.there b o e (by rw[hex];simp)
   refine⟨o',hB b o' e1 λhm=>?_⟩
   rcases List.mem_cons.mp hm with z|hm
   . rw[z,h0]at e;cases e
   rcases List.mem_cons.mp (I.stkSub b hm)with z|z
   . exact I.ne_loc e z
   . exact hb z
 . obtain⟨o,e⟩:=(I.hok b u q).there
   refine⟨o,hB b o e λhm=>?_⟩
   rcases List.mem_cons.mp hm with z|hm
   . rw[z,hea]at q;cases q
   rw[I.stkFree b hm]at q
   cases q
structure XeOk (X:Cx) (E:XK):Prop where
 new:∀(pins:List (Addr×Obj))(σ:St)(H:Hp)(s:Shared)(ea C:Addr)(dx:Option Addr),Inv X pins σ H s->H ea=none->X.s₀.heap.get? ea=none->vA s.heap ea C dx->E (.ref C) dx H->X.xe (.ref ea) s
 fly:∀(pins:List (Addr×Obj))(σ:St)(H H':Hp)(s s':Shared)(ea C:Addr)(dx:Option Addr),Inv X pins σ H s->Fly X.prog X.w X.stack H s C dx H' ea s'->E (.ref C) dx H'->X.xe (.ref ea) s'
theorem XeOk.passes{E:XK}(x:XeOk X E):pF (pY X.prog X.w) X E:=λpins σ H s e s' I h=>by
 obtain⟨ea,C,dx,H',rfl,F,q⟩:=h
 exact x.fly pins σ H H' s s' ea C dx I F q
theorem xe_of{P:Program}{w:World}{K:PySem.W.Frag}{mg:Str->Option Value}{base:Heap}{N:List Str}{qual:Str}{scope:Scope}{f:Addr}{cd:Value}{A:Around}{outer:List Env}{s0:Shared}{H0:Hp}{E:XK}:
 XeOk (kB (pY P w) P w K mg base N qual scope f cd A outer s0 H0 E) E where
 new:=λpins σ H s ea C dx I h1 h2 h3 q=>wpAny_mono (bi1 (E:=λ_ _=>False) I I.ok.frames rfl rfl rfl h1 h2 h3) (λ_ s3 F=>⟨ea,C,dx,H,rfl,F,q⟩) λ_ _ z=>z.elim
 fly:=λpins σ H H' s s' ea C dx I F q=>wpAny_mono (bk2 (E:=λ_ _=>False) I I.ok.frames rfl rfl rfl F) (λ_ s3 F=>⟨ea,C,dx,H',rfl,F,q⟩) λ_ _ z=>z.elim
theorem Inv.trackE{H1:Hp}{s1:Shared}{a:Addr}{o:HO}(I1:Inv X pins σ H1 s1)(n1:s1.heap.get? a=none)(hex:X.ex=[])(I:Inv X pins σ H s)(ha:H a=none)(new:ObjOk X.prog X.w (upd H a o) s.heap a o):Inv X pins σ (upd H a o) s:=by
 have ne:∀b u,s1.heap.get? b=some u->b≠a:=λb u e z=>by rw[z,n1]at e;cases e
 have nh:∀b u,H b=some u->b≠a:=λb u e=>cR e ha
 have n0:∀b u,X.s₀.heap.get? b=some u->b≠a:=λb u e=>by
  obtain⟨o',e1⟩:=I1.base.there b u e (by rw[hex];simp)
  exact ne b o' e1
 refine⟨I.ok,I.os,I.bare,⟨I.base.keep,I.base.slot,λb u e n x=>by rw[aY (n0 b u e)];exact I.base.free b u e n x,I.base.there,λb xs e=>by have q:=I.base.tups b xs e;rw[aY (nh _ _ q)];exact q,
  λb ob u e=>by have q:=I.base.frzs b ob u e;rw[aY (nh _ _ q)];exact q,λb ps e=>by obtain⟨m,q⟩:=I.base.tbls b ps e;exact⟨m,by rw[aY (nh _ _ q)];exact q⟩⟩,I.loc,I.cell,?_,λx c e=>?_,λp hp=>?_,λb u e=>?_,I.len⟩
 . obtain⟨m,⟨ol,_,_,e,_⟩,_⟩:=I1.loc
   rw[aY (ne _ _ e)];exact I.free
 . obtain⟨v,oc,e1,_⟩:=I1.cell x c e
   rw[aY (ne _ _ e1)];exact I.freeC x c e
 . obtain⟨e1,_⟩:=I1.pin p hp
   obtain⟨q1,q2,q3⟩:=I.pin p hp
   exact⟨q1,by rw[aY (ne _ _ e1)];exact q2,q3⟩
 . by_cases hb:b=a
   . subst hb;rw[bZ]at e;cases e;exact new
   . rw[aY hb]at e
     exact(I.hok b u e).stay (λ_ _ _ q=>q) (λc q=>by rw[aY (nh _ _ q)];exact q) λc xs q=>by rw[aY (nh _ _ q)];exact q
theorem Inv.drop{a:Addr}{φ:Heap->Prop}(I:Inv X pins σ H s)(ha:H a=some (.ext φ)):Inv X pins σ (λb=>if b=a then none else H b) s:=by
 have nn:∀b,H b=none->(if b=a then none else H b)=none:=λb e=>by split<;>first|rfl|exact e
 have nt:∀b u,H b=some u->(∀ψ,u≠ .ext ψ)->(if b=a then none else H b)=some u:=λb u e n=>by
  rw[if_neg (λz=>by rw[z,ha]at e;cases e;exact n _ rfl)];exact e
 refine⟨I.ok,I.os,I.bare,⟨I.base.keep,I.base.slot,λb u e n x=>nn b (I.base.free b u e n x),I.base.there,λb xs e=>nt _ _ (I.base.tups b xs e) (λ_ z=>nomatch z),
  λb ob u e=>nt _ _ (I.base.frzs b ob u e) (λ_ z=>nomatch z),λb ps e=>by obtain⟨m,q⟩:=I.base.tbls b ps e;exact⟨m,nt _ _ q (λ_ z=>nomatch z)⟩⟩,I.loc,I.cell,nn _ I.free,λx c e=>nn _ (I.freeC x c e),λp hp=>?_,λb u e=>?_,I.len⟩
 . obtain⟨q1,q2,q3⟩:=I.pin p hp
   exact⟨q1,nn _ q2,q3⟩
 . have e':H b=some u:=by
    have e:(if b=a then none else H b)=some u:=e
    split at e
    . cases e
    . exact e
   exact(I.hok b u e').stay (λ_ _ _ q=>q) (λc q=>nt _ _ q (λ_ z=>nomatch z)) λc xs q=>nt _ _ q (λ_ z=>nomatch z)
end
end L2
namespace L2
open PySem PySem.Spec PyProof.Rows PySem.W
abbrev veB:List Value:=[.type "ValueError",.type "Exception",.type "BaseException",.type "object"]
def uY(K:PySem.W.Frag)(C:Addr):Bool:=match K.lookup C with
 |some ⟨.type "type",_,.cls cd,sl⟩=>(match cd.mro,sl.toList with
  |.ref C'::bm,[_,_,_,_,some (.builtin n),_]=>C'==C&&n=="ValueError.__new__"&&!cd.hasDel&&cd.hasDict&&tailIn K veB bm
  |_,_=>false)
 |_=>false
def ap0:List Value->Bool
 |.ref _::r=>ap0 r
 |l=>l==veB
theorem aq2(self:Value):∀{l:List Value},ap0 l=true->refuseLoop self "__setattr__" l=pure ()
 |[],e=>by cases e
 |v::r,e=>by
  cases v with
  |ref c=>rw[refuseLoop_ref];exact aq2 self (l:=r) e
  |type n=>rw[beq_iff_eq.mp (show(Value.type n::r==veB)=true from e)];exact PySem.F.store_ValueError.passes self
  |_=>exact absurd (beq_iff_eq.mp (show(_::r==veB)=true from e)) (by simp[veB])
section
variable {prog : Program} {w : World} {A : Around} {E : Value → Shared → Prop} {h : Heap} {g : Array GenState} {d : Drawn} {t : Nat} {os : OsState} {K : PySem.W.Frag} {C : Addr}
theorem xE(X:K.In h)(q:uY K C=true):∃nm qn N bs bm hdct sn sub ab col dd k0 k1 k2 k3 k5,h.get? C=some (excClassObj nm qn C N bs bm hdct sn sub ab col dd k0 k1 k2 k3 k5 "ValueError.__new__")/\OwnTail h veB bm/\hdct=true/\∃cd,clsIn K C=some cd/\cd.mro=.ref C::bm/\cd.hasDict=true:=by
 unfold uY at q
 split at q
 . rename_i dd cd sl ho
   split at q
   . rename_i C' bm k0 k1 k2 k3 n k5 hm hs
     simp only[Bool.and_eq_true,beq_iff_eq,Bool.not_eq_true']at q
     obtain⟨⟨⟨⟨rfl,rfl⟩,hdel⟩,hdc⟩,ht⟩:=q
     have hcd:clsIn K C'=some cd:=by unfold clsIn;rw[ho]
     obtain⟨nm,bs,mro,ns,qn,hd,sn,sub,ab,col,del⟩:=cd
     dsimp only at hm hdel hdc
     subst hm hdel hdc
     have hsl:sl=#[k0,k1,k2,k3,some (.builtin "ValueError.__new__"),k5]:=by
      obtain⟨l⟩:=sl
      simp only at hs
      rw[hs]
     subst hsl
     exact⟨nm,qn,ns,bs,bm,true,sn,sub,ab,col,dd,k0,k1,k2,k3,k5,X _ _ ho,tail_of_in X ht,rfl,_,hcd,rfl,rfl⟩
   . cases q
 . cases q
theorem bk0{rest:List Value}{fI:Addr}{Q:Fin->Shared->Prop}(X:K.In h)(hC:uY K C=true)(hi:findIn K (.ref C) "__init__"=some (some (.ref fI)))(hf:typeIn K (.ref fI)=some (.type "function"))(hrest:rest.length<=sizeLine)
 (hq:wpAny (model prog w) A (call (.ref fI) (.ref (h.objs.size+1)::rest)) (λr s'=>r=.none/\Q (.done (.ret (.ref (h.objs.size+1)))) s') E ⟨((h.push {cls:=.type "tuple",data:=.seq rest.toArray}).push {cls:=.ref C,data:=.fields #[.ref h.objs.size,.none,.none,.none,.bool false,.none]}),g,d,t,os⟩):
 wpAny (model prog w) A (Builtin.«type.__call__» ⟨.ref C::rest,[]⟩) Q E ⟨h,g,d,t,os⟩:=by
 obtain⟨nm,qn,N,bs,bm,hdct,sn,sub,ab,col,dd,k0,k1,k2,k3,k5,hC,T,-⟩:=xE X hC
 have F:=PySem.F.excBase_ValueError
 repeat(first|with_reducible refine wpAny_loadPart_at hC ?_|with_reducible refine wpAny_madeBy_exc hC ?_|wp_step)
 refine codeAny_call_builtin_code (Code.quiet_builtin _ F.quiet) (wpAny_check_new_subT F T hC ?_)
 refine codeAny_exc_new_subT F T hC ?_ hrest
 show wpAny _ _ _ _ _ _
 have kp:∀b o,h.get? b=some o->((h.push {cls:=.type "tuple",data:=.seq rest.toArray}).push {cls:=.ref C,data:=.fields #[.ref h.objs.size,.none,.none,.none,.bool false,.none]}).get? b=some o:=λb o e=>Heap.get?_push_of_some _ (Heap.get?_push_of_some _ e)
 have hC₁:=kp _ _ hC
 have hget:((h.push {cls:=.type "tuple",data:=.seq rest.toArray}).push {cls:=.ref C,data:=.fields #[.ref h.objs.size,.none,.none,.none,.bool false,.none]}).get? (h.objs.size+1)=some {cls:=.ref C,data:=.fields #[.ref h.objs.size,.none,.none,.none,.bool false,.none]}:=by heap_get
 have hcC:(Value.ref C::bm).contains (.ref C)=true:=by simp
 unfold isInstance
 repeat(first|with_reducible refine wpAny_loadPart_at hget ?_|(with_reducible refine wpAny_isSubtype_exc hC₁ ?_;rw[hcC])|wp_step)
 show wpAny _ _ (typeLookup (.ref C) _) _ _ _
 refine(looks_findIn (X.keeps kp) hi).here (wpAny_holding (wpAny_bind ((bind_fn (X.keeps kp) _ hf).here ?_)))
 refine wpAny_bind (wpAny_mono hq (λr s' hr=>?_) λ_ _ x=>x)
 obtain⟨rfl,hQ⟩:=hr
 wp_walk
 exact hQ
theorem bm0{rest:List Value}{fI:Addr}{Q:Value->Shared->Prop}(X:K.In h)(hC:uY K C=true)(hi:findIn K (.ref C) "__init__"=some (some (.ref fI)))(hf:typeIn K (.ref fI)=some (.type "function"))(hrest:rest.length<=sizeLine)
 (hq:wpAny (model prog w) (A.under (.builtin "type.__call__" ⟨.ref C::rest,[]⟩)) (call (.ref fI) (.ref (h.objs.size+1)::rest)) (λr s'=>r=.none/\Q (.ref (h.objs.size+1)) s') E ⟨((h.push {cls:=.type "tuple",data:=.seq rest.toArray}).push {cls:=.ref C,data:=.fields #[.ref h.objs.size,.none,.none,.none,.bool false,.none]}),g,d,t,os⟩):
 wpAny (model prog w) A (call (.ref C) rest) Q E ⟨h,g,d,t,os⟩:=by
 have hC':=hC
 obtain⟨nm,qn,N,bs,bm,hdct,sn,sub,ab,col,dd,k0,k1,k2,k3,k5,hC,T,-⟩:=xE X hC
 have f1:=tc_lookup
 have f2:=tc_bind (.ref C)
 have hT:(⟨h,g,d,t,os⟩:Shared).TypeIs (.ref C) "type":=⟨_,hC,rfl⟩
 refine wpAny_call (codeAny_of_tree ?_)
 show wpAny _ _ (callAny (.ref C) _) _ _ _
 repeat(any_goals(first|assumption|with_reducible refine wpAny_loadPart_at hC ?_|wp_step))
 refine⟨rfl,?_⟩
 refine codeAny_call_builtin_at (Code.quiet_builtin _ (by decide+kernel)) entry_typeCall (wpAny_check_type_call_sub hC (bk0 (hrest:=hrest) X hC' hi hf ?_))
 exact hq
end
end L2
namespace L2
open PySem PySem.Spec PyProof.Rows PySem.W
structure ErrG (K:PySem.W.Frag) (C:Addr):Prop where
 cls:uY K C=true
 refs:∃cd,clsIn K C=some cd/\ap0 cd.mro=true/\cd.mro.contains (.type "object")=true/\cd.mro.contains (.type "BaseException")=true
 ga:findIn K (.ref C) "__getattribute__"=some (some (.builtin "BaseException.__getattribute__"))
 gt:findIn K (.ref C) "__getattr__"=some none
 ca:findIn K (.ref C) "__class__"=some (some (.builtin "object.__class__"))
 hn:specialIn K (.builtin "object.__class__") "__get__"=some (some (.builtin "getset_descriptor.__get__"))
 htk:takesIn K (.builtin "object.__class__")=some true
 hm:mroIn K C (.type "object")=some true
structure ErrF (K:PySem.W.Frag) (C:Addr) (f:Str):Prop extends ErrG K C where
 sa:findIn K (.ref C) "__setattr__"=some (some (.builtin "object.__setattr__"))
 no:findIn K (.ref C) f=some none
section
variable {prog : Program} {w : World} {A : Around} {E : Value → Shared → Prop} {s : Shared} {K : PySem.W.Frag} {C x : Addr} {f : Str} {ox : Obj} {v : Value}
theorem cg8{Q:Unit->Shared->Prop}(X:K.In s.heap)(F:ErrF K C f)(hx:s.heap.get? x=some ox)(hc:ox.cls=.ref C)(hd:ox.dict=none){vs:Array Value}(hda:ox.data=.fields vs)
 (h:∀h',h'.get? x=some {ox with dict:=some s.heap.objs.size}->h'.Ns1 s.heap.objs.size (λy=>if y=f then some v else none)->(∀b o,b≠x->s.heap.get? b=some o->h'.get? b=some o)->Q () {s with heap:=h',toks:=s.toks+2}):
 wpAny (model prog w) A (setAttr (.ref x) f v) Q E s:=by
 have J:InstAt s.heap x ox C none:=⟨hx,hc,by unfold notCls;rw[hda],by rw[hd];trivial⟩
 obtain⟨cd,hcd,hr,ho,-⟩:=F.refs
 have ne:cd.mro.isEmpty=false:=by cases q:cd.mro with|nil=>rw[q]at hr;cases hr|cons _ _=>rfl
 refine PySem.W.set_plain X J F.sa ?_
 have SF:=PySem.F.store_object
 have sub:Looks (model prog w) s.heap (isInstance (.ref x) (.type "object")) true:=J.type.andThen (looks_mroIn X (by unfold mroIn;rw[hcd,Option.bind_some,if_neg (by rw[ne];decide),ho]))
 refine codeAny_call_builtin SF.slot.plain SF.entry (@check_slot (model prog w) _ _ {s with toks:=s.toks+1} "object.__setattr__" "object" "__setattr__" (.ref x) [.str f s.toks,v] [] _ SF.kind SF.split sub (SF.args (.ref x) (.str f s.toks) v) ?_)
 have hm:Looks (model prog w) s.heap (mroOf (.ref C)) cd.mro:=(looks_clsIn X hcd).andThen .now
 have J':InstAt ({s with toks:=s.toks+1}:Shared).heap x ox C none:=J
 rw[osa_eq,refuse_eq]
 refine wpAny_bind (wpAny_bind (Looks.here (s:={s with toks:=s.toks+1}) J'.type (wpAny_bind (Looks.here (s:={s with toks:=s.toks+1}) hm ?_))))
 rw[aq2 _ hr]
 refine wpAny_pure (wpAny_bind (Looks.here (s:={s with toks:=s.toks+1}) J'.type (wpAny_bind (Looks.here (s:={s with toks:=s.toks+1}) (looks_findIn X F.no) (wpAny_bind (wpAny_pure ?_))))))
 obtain⟨nm,qn,N,bs,bm,hdct,sn,sub,ab,col,dd,k0,k1,k2,k3,k5,hC,T,hh,cd',hcd',hmr,hdc⟩:=xE X F.cls
 rw[hcd]at hcd'
 cases hcd'
 obtain⟨oc,od,odt,osl⟩:=ox
 dsimp only at hc hd hda
 subst hc hd hda
 refine wpAny_bind (wpAny_pure (wpAny_bind (wpAny_bind (wpAny_loadPart hx (wpAny_bind (Looks.here (s:={s with toks:=s.toks+1}) (looks_clsIn X hcd) ?_))))))
 rw[hdc]
 have hx₁:(s.heap.push {cls:=.type "dict",data:=.dict #[]}).get? x=some ⟨.ref C,none,.fields vs,osl⟩:=Heap.get?_push_of_some _ hx
 have hxs:x≠s.heap.objs.size:=Nat.ne_of_lt (Heap.lt_size hx)
 have hfr:=(Heap.get?_some_iff.mp hx).2
 rw[if_neg (by decide)]
 show wpAny _ _ (do let d<-alloc {cls:=.type "dict",data:=.dict #[]};update x λo=>{cls:=o.cls,dict:=some d,data:=o.data,slots:=o.slots};(pure (some d):Sem (Option Addr))) _ _ _
 refine wpAny_bind (wpAny_alloc (wpAny_bind (wpAny_update (s:={s with toks:=s.toks+1,heap:=s.heap.push _}) hx₁ (wpAny_pure ?_))))
 have hgd:((s.heap.push {cls:=.type "dict",data:=.dict #[]}).update x λo=>{cls:=o.cls,dict:=some s.heap.objs.size,data:=o.data,slots:=o.slots}).get? s.heap.objs.size=some {cls:=.type "dict",data:=.dict #[]}:=
  (Heap.get?_update_ne _ _ _ _ hxs.symm).trans (Heap.get?_push_at rfl rfl)
 have hnd:((s.heap.push {cls:=.type "dict",data:=.dict #[]}).update x λo=>{cls:=o.cls,dict:=some s.heap.objs.size,data:=o.data,slots:=o.slots}).Ns s.heap.objs.size (λ_=>none):=
  ⟨_,#[],_,hgd,rfl,λe he=>absurd he (by simp),λ_=>rfl⟩
 show wpAny _ _ (Builtin.ObjectAttr.storeInDict s.heap.objs.size (.str f s.toks) f v) _ _ _
 unfold Builtin.ObjectAttr.storeInDict Builtin.ObjectAttr.newKeyGuard
 refine wpAny_bind (wpAny_pure (wpAny_bind (wpAny_nsSet1 (s:={s with toks:=s.toks+1,heap:=_}) (Heap.Ns1.of_empty hnd) λh' hn' hs=>?_)))
 obtain⟨oD,esD,epD,hoD,hdD,hcD⟩:=hn'.count (Within.cons f v Within.nil)
 refine wpAny_bind (wpAny_lookBehind hoD (by rw[hdD];exact pastItsLine_dict (Nat.le_trans hcD (by rw[List.length_cons,List.length_nil,sizeLine_eq];omega))) ?_)
 refine wpAny_pure (h h' ?_ hn' λb o hb e=>?_)
 . exact(hs.2 x hxs).trans (Heap.get?_update_self _ hx₁ rfl)
 . exact(hs.2 b (Nat.ne_of_lt (Heap.lt_size e))).trans ((Heap.get?_update_ne _ _ _ _ hb).trans (Heap.get?_push_of_some _ e))
theorem ak7{od:Option Obj}{name:Str}{tk:Tok}{fill expr:Bool}{Q:Value->Shared->Prop}(X:K.In s.heap)(G:ErrG K C)(J:InstAt s.heap x ox C od)
 (cL:∀R:Result->Shared->Prop,R (.ok (.ret v)) s->wpAny (model prog w) A.in1 (Builtin.«object.__getattribute__» ⟨[.ref x,.str name tk],[]⟩) (λcL s'=>match cL with|.done f=>R (.ok f) s'|.again c'=>c'.quiet=true/\codeAny (model prog w) A c' R s') (λe s'=>R (.error e) s') s)
 (hh:handedIn v=true)(h:Q v s):wpAny (model prog w) A (getAttrBy (.ref x) (.str name tk) fill expr) Q E s:=by
 obtain⟨cd,hcd,hr,ho,hb⟩:=G.refs
 have ne:cd.mro.isEmpty=false:=by cases q:cd.mro with|nil=>rw[q]at hr;cases hr|cons _ _=>rfl
 have L0:=J.type (M:=model prog w)
 have L1:=looks_findIn (M:=model prog w) X G.ga
 have L2:=looks_findIn (M:=model prog w) X G.gt
 have sub:Looks (model prog w) s.heap (isInstance (.ref x) (.type "BaseException")) true:=J.type.andThen (looks_mroIn X (by unfold mroIn;rw[hcd,Option.bind_some,if_neg (by rw[ne];decide),hb]))
 have hga:bindSpecial (.builtin "BaseException.__getattribute__") (.ref x)=pure (.builtin "BaseException.__getattribute__",[.ref x]):=PySem.F.excAttr_ValueError.ga.bind _
 have hx0:(expr&&onTheHeap (Value.builtin "BaseException.__getattribute__"))=false:=by cases expr<;>rfl
 unfold getAttrBy
 refine wpAny_holding (wpAny_bind (L0.here (wpAny_bind (L1.here ?_))))
 dsimp only
 rw[if_neg (by rw[Bool.and_eq_true];rintro⟨_,q⟩;exact absurd q (by decide+kernel))]
 unfold getAttrByItsOwn
 refine wpAny_bind (show wpAny _ _ (typeLookup (.ref C) "__getattr__") _ _ _ from L2.here ?_)
 unfold callGetattribute boundAndCalled
 rw[hx0]
 have cL:codeAny (model prog w) A (.call (.builtin "BaseException.__getattribute__") ⟨[.ref x,.str name tk],[]⟩) (λr s'=>r=.ok (.ret v)/\s'=s) s:=
  codeAny_call_builtin PySem.F.excAttr_ValueError.ga.plain PySem.F.entry_bexc_ga (@check_slot (model prog w) _ _ s "BaseException.__getattribute__" "BaseException" "__getattribute__" (.ref x) [.str name tk] [] _ (by decide+kernel) (by decide+kernel) sub (PySem.F.args_bexc_ga _ _) (cL (λr s'=>r=.ok (.ret v)/\s'=s) ⟨rfl,rfl⟩))
 obtain⟨h0,g,d,t,os⟩:=s
 repeat(any_goals(first|assumption|wp_step))
 refine codeAny_mono cL λr s' ⟨e1,e2⟩=>?_
 subst e1 e2
 dsimp only
 repeat(any_goals(first|assumption|wp_step))
 show wpAny _ _ (handedOut v) _ _ _
 rw[handedOut_of hh]
 exact wpAny_pure h
theorem ch9{dx:Addr}{mA:Str->Option Value}{expr:Bool}{Q:Value->Shared->Prop}(X:K.In s.heap)(F:ErrF K C f)(hx:s.heap.get? x=some ox)(hc:ox.cls=.ref C)(hd:ox.dict=some dx){vs:Array Value}(hda:ox.data=.fields vs)
 (hN:s.heap.Ns1 dx mA)(hv:mA f=some v)(hh:handedIn v=true)(h:Q v {s with toks:=s.toks+1}):wpAny (model prog w) A (getAttr (.ref x) f expr) Q E s:=by
 obtain⟨od,hod,hl⟩:=ar2 hN
 have J:InstAt s.heap x ox C (some od):=⟨hx,hc,by unfold notCls;rw[hda],by rw[hd];exact hod⟩
 obtain⟨cd,hcd,-⟩:=F.refs
 obtain⟨nm,qn,N,bs,bm,hdct,sn,sub',ab,col,dd,k0,k1,k2,k3,k5,hC,T,hh',cd',hcd',hmr,hdc⟩:=xE X F.cls
 rw[hcd]at hcd'
 cases hcd'
 have hhd:hasDictIn K C=true:=by unfold hasDictIn;rw[hcd];exact hdc
 have hf:findObj K C (some od) f=some (.value v):=findObj_own hhd F.no rfl (by rw[hl,hv])
 unfold getAttr
 refine wpAny_bind (wpAny_mkText (ak7 (s:={s with toks:=s.toks+1}) X F.toErrG J (λR hR=>?_) hh h))
 unfold Builtin.«object.__getattribute__»
 exact wpAny_bind (wpAny_pure (wpAny_bind (wpAny_pure (wpAny_bind (Looks.here (s:={s with toks:=s.toks+1}) J.type (wpAny_bind (Looks.here (s:={s with toks:=s.toks+1}) (looks_find X J hf) (wpAny_pure hR))))))))
theorem ck8{od:Option Obj}{Q:Option Value->Shared->Prop}(X:K.In s.heap)(G:ErrG K C)(J:InstAt s.heap x ox C od)(h:Q (some (.ref C)) {s with toks:=s.toks+1}):wpAny (model prog w) A (getAttr? (.ref x) "__class__") Q E s:=by
 obtain⟨cd,hcd,-⟩:=G.refs
 have hf:findObj K C od "__class__"=some (.bind (.builtin "getset_descriptor.__get__") (.builtin "object.__class__")):=by
  unfold findObj
  rw[hcd,Option.bind_some,G.ca,Option.bind_some]
  simp[G.hn,G.htk]
 unfold getAttr? getAttrBy?
 refine wpAny_bind (wpAny_mkText (wpAny_bind (wpAny_attempt (ak7 (s:={s with toks:=s.toks+1}) (v:=.ref C) X G J (λR hR=>?_) rfl (wpAny_pure h)))))
 unfold Builtin.«object.__getattribute__»
 refine wpAny_bind (wpAny_pure (wpAny_bind (wpAny_pure (wpAny_bind (Looks.here (s:={s with toks:=s.toks+1}) J.type (wpAny_bind (Looks.here (s:={s with toks:=s.toks+1}) (looks_find X J hf) ?_)))))))
 show wpAny _ _ (holding [.builtin "object.__class__"] (call (.builtin "getset_descriptor.__get__") [.builtin "object.__class__",.ref x,.ref C])>>=ret) _ _ _
 exact wpAny_bind (wpAny_holding (wpAny_call (class_get (s:={s with toks:=s.toks+1}) X J G.hm (wpAny_pure hR))))
theorem by5:ErrG K C->KitX K (.ref x) (.ref C) (λh=>∃ox od,InstAt h x ox C od):=λG=>{
 ty:=λ_ _ _ ⟨_,_,I⟩=>I.type
 it:=λ_ _ X _=>by
  obtain⟨cdD,hcD,_⟩:=G.refs
  unfold clsIn at hcD
  split at hcD
  . rename_i c' d' cd' sl' ho
    intro A' Q' E' s' k q
    unfold isType loadHead
    exact wpAny_bind (wpAny_loadPart (k _ _ (X _ _ ho)) (wpAny_pure q))
  . cases hcD
 ne:=λh tp dd its n sl X htp=>by
  obtain⟨cdD,hcD,_⟩:=G.refs
  refine Bool.eq_false_iff.mpr λq=>?_
  have e:C=tp:=Value.ref.inj (beq_iff_eq.mp q)
  subst e
  unfold clsIn at hcD
  split at hcD
  . rename_i c' d' cd' sl' ho
    have z:=(X _ _ ho).symm.trans htp
    cases z
  . cases hcD
 ca:=λX ⟨_,_,I⟩ k=>ck8 X G I k}
end
def bv3(h:Heap)(e C:Addr)(dx:Option Addr):Prop:=∃oe vs,h.get? e=some oe/\oe.cls=.ref C/\oe.dict=dx/\oe.data=.fields vs
abbrev nN(e C:Addr)(dx:Option Addr):HO:=.ext λh=>bv3 h e C dx
abbrev rC(e C:Addr)(dx:Option Addr):HO:=.ext λh=>vA h e C dx
theorem bk9{P:Program}{w:World}{H:Hp}{h:Heap}{e C:Addr}{dx:Option Addr}(x:bv3 h e C dx):ObjOk P w H h e (nN e C dx):=by
 obtain⟨oe,vs,h1,h2,h3,h4⟩:=id x
 exact⟨x,⟨oe,h1⟩,λa b ⟨o,v,q1,q⟩ k=>⟨o,v,k _ q1,q⟩⟩
theorem af7{P:Program}{w:World}{H:Hp}{h:Heap}{e C:Addr}{dx:Option Addr}(x:vA h e C dx):ObjOk P w H h e (rC e C dx):=by
 obtain⟨oe,vs,a0,h1,h2⟩:=id x
 exact⟨x,⟨oe,h1⟩,λa b ⟨o,v,a0,q1,q⟩ k=>⟨o,v,a0,k _ q1,q⟩⟩
def bv7(C:Addr)(f:Str):Sp:=λvs H Q _=>∃e v,vs=[.ref e,v]/\H e=some (rC e C none)/\∀dx,H dx=none->dx≠e->Q .non (upd (upd H dx (.xd [(f,v)])) e (rC e C (some dx)))
section
variable {X : Cx} {C : Addr} {f : Str}
def cx5(C:Addr)(f:Str):TS:=λD σ H=>∃e v,σ[0]?=some (some (.ref e))/\σ[1]?=some (some v)/\H e=some (rC e C none)/\∀dx,H dx=none->dx≠e->D.nx σ (upd (upd H dx (.xd [(f,v)])) e (rC e C (some dx)))
theorem cc0{a b:Str}{p1 p2 p3 p4:Pos}(F:ErrF X.K C f)(h0:PE X (.Name a p1) (oF 0))(h1:PE X (.Name b p3) (oF 1))(hs:swapsWith (.Name b p3) (some (.Attribute (.Name a p1) f p2)) p4.line X.env=pure false):
 PS X (.Assign [.Attribute (.Name a p1) f p2] (.Name b p3) p4) (cx5 C f):=by
 intro pins s σ H D I ⟨e,v,q0,q1,he,h⟩
 refine plainObj_wpAny_Assign_Attribute (cE (h1 s σ H (λx H'=>x=v/\H'=H) I ⟨v,q1,rfl,rfl⟩) λu s1 ⟨y,H1,I1,ry,e1,e2⟩=>cE (h0 s1 σ H1 (λx H'=>x=.ref e/\H'=H1) I1 ⟨_,q0,rfl,rfl⟩) λov s2 ⟨x,H2,I2,rx,e3,e4⟩=>?_) hs
 subst e1 e3 e4 e2
 obtain rfl:ov=Value.ref e:=rx
 obtain⟨⟨oe,vs,a0,k1,k2,k3,k4,k5⟩,-⟩:=I2.hok e _ he
 refine cg8 I2.kIn F k1 k2 k3 k4 λh' x1 x2 x3=>?_
 have lt:=Heap.lt_size k1
 have hdn:H2 s2.heap.objs.size=none:=I2.hok.fresh (Nat.le_refl _)
 have hne:s2.heap.objs.size≠e:=λz=>absurd lt (by rw[z];exact Nat.lt_irrefl _)
 refine⟨σ,_,?_,h s2.heap.objs.size hdn hne⟩
 have new:vA h' e C (some s2.heap.objs.size):=⟨_,vs,a0,x1,k2,rfl,k4,k5⟩
 refine I2.un (t':=s2.toks+2) (h':=h') ⟨λb o q n _ _=>x3 b o (λz=>by rw[z,he]at n;cases n) q,λb o q n _ _=>⟨o.slots,x3 b o (λz=>by rw[z,he]at n;cases n) q⟩,λb o q n _=>?_,λb o q _=>?_,λb xs q=>?_,λb o u q=>?_,λb ps q=>⟨#[],?_⟩⟩ λb u q=>?_
 . have b1:b≠e:=λz=>by rw[z,he]at n;cases n
   have b2:b≠s2.heap.objs.size:=Nat.ne_of_lt (Heap.lt_size q)
   rw[aY b1,aY b2];exact n
 . by_cases z:b=e
   . rw[z];exact⟨_,x1⟩
   . exact⟨o,x3 b o z q⟩
 . rw[aY (al0 q he (λz=>nomatch z)),aY (cR q hdn)];exact q
 . rw[aY (al0 q he (λz=>nomatch z)),aY (cR q hdn)];exact q
 . rw[aY (al0 q he (λz=>nomatch z)),aY (cR q hdn),q];simp
 . by_cases z:b=e
   . subst z;rw[bZ]at q;cases q;exact af7 new
   . rw[aY z]at q
     by_cases z2:b=s2.heap.objs.size
     . subst z2
       rw[bZ]at q
       cases q
       refine⟨_,x2,λg=>?_⟩
       show RelO (List.lookup g [(f,y)]) (if g=f then some u else none)
       by_cases z3:g=f
       . subst z3;simp[List.lookup];exact ry
       . have:(g==f)=false:=by simpa using z3
         simp[List.lookup,this,z3,RelO]
     . rw[aY z2]at q
       refine(I2.hok b u q).stay (λc o hc e1=>x3 c o (λz3=>?_) e1) (λc e1=>?_) λc xs e1=>?_
       . rcases hc with hc|hc
         . exact z (hc.symm.trans z3)
         . rw[z3,he]at hc;cases hc
       . rw[aY (al0 e1 he (λz=>nomatch z)),aY (cR e1 hdn)];exact e1
       . rw[aY (al0 e1 he (λz=>nomatch z)),aY (cR e1 hdn)];exact e1
end
theorem bm5{P:Program}{w:World}{K:PySem.W.Frag}{mg:Str->Option Value}{base:Heap}{C g:Addr}{f qual b:Str}{st:Stmt}{fd:FuncData}{p1 p2 p3 p4:Pos}(F:Fun K "__init__" qual st g fd)(E:ErrF K C f)(S:bL ["self",b] ["self",b] (aS st))
 (hb:cF st=[.Assign [.Attribute (.Name "self" p1) f p2] (.Name b p3) p4])(hd:(b==("__debug__":Str))=false)(hc:(b==("__classdict__":Str))=false)(hsw:∀env,swapsWith (.Name b p3) (some (.Attribute (.Name "self" p1) f p2)) p4.line env=pure false):FnOk P w K mg base mZ 1 g fd ["self",b] (bv7 C f):=by
 have v0:Vis (aS st) "self":=(S.par "self" List.mem_cons_self).imp_right .inl
 have v1:Vis (aS st) b:=(S.par b (List.mem_cons_of_mem _ List.mem_cons_self)).imp_right .inl
 refine F.ok (k:=0) S (λvs H Q E h=>by obtain⟨_,_,rfl,_⟩:=h;rfl) λcdv A outer s H vs Q E' hr h=>⟨_,hb▸aW (cc0 (X:=(kB mZ P w K mg base ["self",b] qual (aS st) g cdv A outer s H E').nox) E (ao4 (i:=0) rfl v0 rfl rfl) (ao4 (i:=1) rfl v1 hd hc) (hsw _)),?_⟩
 obtain⟨e,v,rfl,he,h⟩:=h
 exact⟨e,v,rfl,rfl,he,h⟩
end L2
namespace L2
open PySem PySem.Spec PyProof.Rows PySem.W
section
variable {M : Model} {A : Around} {E : Value → Shared → Prop} {s : Shared} {env : Env} {C : Addr} {K : PySem.W.Frag}
theorem bb2{x:Sem Value}{Q:Flow->Shared->Prop}(hh:A.handled=none)(hK:uY K C=true)
 (h:wpAny M A x (λv s₁=>∃e dx,v=.ref e/\K.In s₁.heap/\vA s₁.heap e C dx/\E (.ref e) s₁) E s):wpAny M A (raiseStmt env (some x) none) Q E s:=by
 unfold raiseStmt
 refine wpAny_bind (wpAny_mono h (λv s₁ h₁=>?_) λ_ _ x=>x)
 obtain⟨e,dx,rfl,hI,⟨oe,vs,a0,he,hc,hd,hda,h1,h0⟩,hE⟩:=h₁
 obtain⟨hp,g,d,tk,os⟩:=s₁
 obtain⟨nm,qn,N,bs,bm,hdct,sn,sub,ab,col,dd,k0,k1,k2,k3,k5,hC,T,-⟩:=xE hI hK
 have hcB:(Value.ref C::bm).contains (.type "BaseException")=true:=by rw[List.contains_cons,T.hasType PySem.F.excBase_ValueError.hasBase,Bool.or_true]
 repeat(first|with_reducible refine wpAny_field he hda h1 ?_|(with_reducible refine wpAny_loadPart_at he ?_;rw[hc])|with_reducible refine wpAny_loadPart_at hC ?_|(with_reducible refine wpAny_isSubtype_exc hC ?_;rw[hcB])|wp_step)
 exact wpAny_raiseNew_none hh hE
end
structure ap1 (P:Program) (w:World) (K:PySem.W.Frag) (mg:Str->Option Value) (base:Heap) (x:Str) (C:Addr) (f:Str):Prop where
 flds:ErrF K C f
 glob:mg x=some (.ref C)
 kp:keepIn K (.ref C)=true
 init:∃g fd b,findIn K (.ref C) "__init__"=some (some (.ref g))/\isFn K (.ref g)=true/\FnOk P w K mg base mZ 1 g fd ["self",b] (bv7 C f)/\Binds K fd ["self",b] []
section
variable {X : Cx} {pins : List (Addr × Obj)} {σ : St} {H : Hp} {s : Shared} {C : Addr} {f x : Str} {v : V} {u : Value} {Q : Value → Shared → Prop} {E : Value → Shared → Prop}
theorem bk5(I:Inv X pins σ H s)(R:ap1 X.prog X.w X.K X.mg X.base x C f)(hr:Room 2 X.A)(r:RelV v u)
 (h:∀s' e dx,s.heap.get? e=none->H e=none->H dx=none->dx≠e->vA s'.heap e C (some dx)->Inv X pins σ (upd H dx (.xd [(f,v)])) s'->Q (.ref e) s'):wpAny (model X.prog X.w) X.A (call (.ref C) [u]) Q E s:=by
 obtain⟨g,fd,b,hi,hf,G,hb⟩:=R.init
 obtain⟨hh,gg,d,t,os⟩:=s
 refine bm0 I.kIn R.flds.cls hi (beq_iff_eq.mp hf) (show 1<=sizeLine by decide) ?_
 have hnew:vA ((hh.push {cls:=.type "tuple",data:=.seq [u].toArray}).push {cls:=.ref C,data:=.fields #[.ref hh.objs.size,.none,.none,.none,.bool false,.none]}) (hh.objs.size+1) C none:=
  ⟨_,_,_,by heap_get,rfl,rfl,rfl,rfl,rfl⟩
 have I2:Inv X pins σ (upd H (hh.objs.size+1) (rC (hh.objs.size+1) C none)) ⟨(hh.push {cls:=.type "tuple",data:=.seq [u].toArray}).push {cls:=.ref C,data:=.fields #[.ref hh.objs.size,.none,.none,.none,.bool false,.none]},gg,d,t,os⟩:=
  I.laid (s:=⟨hh,gg,d,t,os⟩) (t':=t) (a:=hh.objs.size+1) (λb u e=>Heap.get?_push_of_some _ (Heap.get?_push_of_some _ e)) (Nat.le_succ _) (af7 hnew)
 have He:H (hh.objs.size+1)=none:=I.hok.fresh (Nat.le_succ _)
 have r2:Vals [V.ref (hh.objs.size+1),v] [Value.ref (hh.objs.size+1),u]:=.cons rfl (.cons r .nil)
 refine wpAny_call (codeAny_mono (G.run _ X.stack _ _ ⟨[Value.ref (hh.objs.size+1),u],[]⟩ [Value.ref (hh.objs.size+1),u] _
  (λx H3=>x=.non/\∃dx,upd H (hh.objs.size+1) (rC (hh.objs.size+1) C none) dx=none/\dx≠hh.objs.size+1/\H3=upd (upd (upd H (hh.objs.size+1) (rC (hh.objs.size+1) C none)) dx (.xd [(f,v)])) (hh.objs.size+1) (rC (hh.objs.size+1) C (some dx))) E0 (hr.make C [u] [])
  (I2.env0.make C [u] []) (by have:=hb ⟨_,gg,d,t,os⟩ [Value.ref (hh.objs.size+1),u] I2.kIn rfl;rwa[List.append_nil]at this) r2 ⟨_,_,rfl,bZ,λdx q1 q2=>⟨rfl,dx,q1,q2,rfl⟩⟩) λr s' hq=>?_)
 cases r with
 |error e=>exact hq.elim
 |ok fl=>
  cases fl with
  |ret u'=>
   obtain⟨v',H',I3,rv,ev,dx,q1,q2,q3⟩:=I2.after hq
   subst ev q3
   obtain⟨hn,-⟩:=I3.hok _ _ bZ
   have I4:=I3.drop bZ
   rw[aY q2]at q1
   refine⟨rv,h s' _ dx (Heap.get?_none_of_le (Nat.le_succ _)) He q1 q2 hn ?_⟩
   have:(λb=>if b=hh.objs.size+1 then none else upd (upd (upd H (hh.objs.size+1) (rC (hh.objs.size+1) C none)) dx (.xd [(f,v)])) (hh.objs.size+1) (rC (hh.objs.size+1) C (some dx)) b)=upd H dx (.xd [(f,v)]):=by
    funext b
    by_cases z:b=hh.objs.size+1
    . subst z;rw[if_pos rfl,aY (Ne.symm q2),He]
    . rw[if_neg z,aY z]
      by_cases z2:b=dx
      . subst z2;rw[bZ,bZ]
      . rw[aY z2,aY z2,aY z]
   rw[this]at I4
   exact I4
  |next=>exact False.elim hq
  |brk=>exact False.elim hq
  |cont=>exact False.elim hq
end
section
variable {X : Cx} {C : Addr} {f x : Str} {np cpos pos : Pos} {e₀ : Expr} {ta : TA} {E : XK}
def aa7(C:Addr)(f:Str)(E:XK)(ta:TA):TS:=λ_ σ H=>ta σ H λvs H1=>∃v,vs=[v]/\∀dx,H1 dx=none->E (.ref C) (some dx) (upd H1 dx (.xd [(f,v)]))
theorem ck4{Q:Value->Shared->Prop}{R':List V->Hp->Prop}{pins:List (Addr×Obj)}{σ:St}{H:Hp}{s:Shared}(R:ap1 X.prog X.w X.K X.mg X.base x C f)(hr:Room 2 X.A)(hg:Gl X x)(ha:PA X [e₀] ta)(hdb:(x==("__debug__":Str))=false)(he:starEach [e₀] X.env=[(false,eval e₀ X.env)])(I:Inv X pins σ H s)
 (h:ta σ H R')(hq:∀vs H1 s1,Inv X pins σ H1 s1->R' vs H1->∃v,vs=[v]/\∀s' e dx,s1.heap.get? e=none->H1 e=none->H1 dx=none->dx≠e->vA s'.heap e C (some dx)->Inv X pins σ (upd H1 dx (.xd [(f,v)])) s'->Q (.ref e) s'):wpAny (model X.prog X.w) X.A (eval (.Call (.Name x np) [e₀] [] cpos) X.env) Q X.xe s:=by
 refine wpAny_Call_Name_kw (qS I hg R.glob ?_ hdb)
 refine PySem.W.callWith_K (h₀:=X.base) I.ok.mod.kin R.kp (cE (ha pins s σ H _ I h) λus s1 ⟨vs,H1,I1,r,q⟩=>⟨I1.kIn,?_⟩) he rfl
 obtain⟨v,ev,q2⟩:=hq vs H1 s1 I1 q
 subst ev
 obtain⟨u,rfl,ru⟩:∃u,us=[u]/\RelV v u:=by
  cases r with|cons a b=>cases b with|nil=>exact⟨_,rfl,a⟩
 exact bk5 I1 R hr ru q2
theorem bz9{pins:List (Addr×Obj)}{σ:St}{H:Hp}{s:Shared}{e:Addr}(I:Inv X pins σ H s)(hex:X.ex=[])(h:s.heap.get? e=none):X.s₀.heap.get? e=none:=by
 cases q:X.s₀.heap.get? e with
 |none=>rfl
 |some o=>
  obtain⟨o',z⟩:=I.base.there e o q (by rw[hex];simp)
  rw[h]at z
  cases z
theorem sM(R:ap1 X.prog X.w X.K X.mg X.base x C f)(xe:XeOk X E)(hr:Room 2 X.A)(ha:PA X [e₀] ta)(hex:X.ex=[]:=by rfl)(hc:X.calm=true:=by rfl)(hg:Gl X x:=by rfl)(hdb:(x==("__debug__":Str))=false:=by decide)(he:starEach [e₀] X.env=[(false,eval e₀ X.env)]:=by rfl):PS X (.Raise (some (.Call (.Name x np) [e₀] [] cpos)) none pos) (aa7 C f E ta):=by
 intro pins s σ H D I h
 rw[arm_exec_Raise]
 refine wpAny_bind (wpAny_standAt (bb2 (I.ok.hd hc) R.flds.cls (wpAny_bind (wpAny_mono ?_ (λv s₃ h₃=>wpAny_bind (wpAny_standAt (wpAny_pure h₃))) λ_ _ x=>x))))
 exact ck4 R hr hg ha hdb he I h λvs H1 s1 I1 ⟨v,ev,q⟩=>⟨v,ev,λs' e dx h1 h2 h3 h4 h5 I'=>⟨e,some dx,rfl,I'.kIn,h5,xe.new pins σ _ s' e C (some dx) I' (by rw[aY (Ne.symm h4)];exact h2) (bz9 I1 hex h1) h5 (q dx h3)⟩⟩
end
end L2
namespace L2
open PySem PySem.Spec PyProof.Rows PySem.W
def am1(H:Hp)(dx:Option Addr)(fs:List (Str×V)):Prop:=(dx=none/\fs=[])\/∃d,dx=some d/\H d=some (.xd fs)
def wN:V->Value
 |.ref a=>.ref a
 |.ty n=>.type n
 |_=>.none
structure oB (K:PySem.W.Frag) (C:Addr) (D:V) (b:Bool):Prop where
 g:ErrG K C
 kit:kitOne K (.ref C) (wN D)=some b
structure pL (K:PySem.W.Frag) (D:V):Prop where
 rel:RelV D (wN D)
 kit:kitOne K (.type "NoneType") (wN D)=some false
def bz6(tab:List (Addr×Bool))(D:V):List V->Hp->VK->Prop:=λxs H Q=>∃v,xs=[v,D]/\((v=.non/\Q (.bl false) H)\/∃e C dx fs b,v=.ref e/\H e=some (nN e C dx)/\am1 H dx fs/\(C,b)∈tab/\Q (.bl b) H)
section
variable {X : Cx} {pins : List (Addr × Obj)} {σ : St} {H : Hp} {s : Shared}
theorem bd5{e C:Addr}{dx:Option Addr}{fs:List (Str×V)}(I:Inv X pins σ H s)(he:H e=some (nN e C dx))(hd:am1 H dx fs):∃ox od,InstAt s.heap e ox C od:=by
 obtain⟨⟨oe,vs,h1,h2,h3,h4⟩,-⟩:=I.hok e _ he
 rcases hd with⟨rfl,-⟩|⟨d,rfl,hd⟩
 . exact⟨oe,none,h1,h2,by unfold notCls;rw[h4],by rw[h3];trivial⟩
 . obtain⟨ob,e2⟩:=(I.hok d _ hd).there
   exact⟨oe,some ob,h1,h2,by unfold notCls;rw[h4],by rw[h3];exact e2⟩
theorem eF{tab:List (Addr×Bool)}{D:V}(N:pL X.K D)(hT:∀q∈tab,oB X.K q.1 D q.2):CallR X (.builtin "isinstance") (bz6 tab D):=by
 intro pins s σ H xs us Q I r h
 obtain⟨v,rfl,h⟩:=h
 obtain⟨u,c,rfl,rx,rD⟩:=r.two
 obtain rfl:c=wN D:=by
  have:=N.rel
  cases D<;>first|exact rD.trans this.symm|(obtain⟨_,z⟩:=this;cases z)|(cases this)
 rcases h with⟨rfl,q⟩|⟨e,C,dx,fs,b,rfl,he,hd,hq,q⟩
 . cases(show u=Value.none from rx)
   exact kia_one kitx_none I.kIn True.intro N.kit (λz=>nomatch z) λtk=>⟨.bl false,H,I.tok _,rfl,q⟩
 . cases(show u=Value.ref e from rx)
   have o:=hT _ hq
   exact kia_one (by5 o.g) I.kIn (bd5 I he hd) o.kit (λz=>nomatch z) λtk=>⟨.bl b,H,I.tok _,rfl,q⟩
def bu7(K:PySem.W.Frag)(f:Str)(te:TE):TE:=λσ H Q=>te σ H λx H1=>∃e C d fs v,x=.ref e/\H1 e=some (nN e C (some d))/\H1 d=some (.xd fs)/\ErrF K C f/\fs.lookup f=some v/\Q v H1
theorem be9(K:PySem.W.Frag){o:Expr}{te:TE}{f:Str}{pos:Pos}(he:PE X o te)(hb:attributeBase o f X.env (eval o X.env)=eval o X.env:=by rfl)(hK:X.K=K:=by rfl):PE X (.Attribute o f pos) (bu7 K f te):=by
 subst hK
 intro pins s σ H Q I h
 refine aq7 hb (cE (he s σ H _ I h) λu s1 ⟨x,H1,I1,rx,e,C,d,fs,v,ex,e1,e2,F,l,q⟩=>?_)
 subst ex
 obtain rfl:u=Value.ref e:=rx
 obtain⟨⟨oe,vs,h1,h2,h3,h4⟩,-⟩:=I1.hok e _ e1
 obtain⟨mA,hN,hr⟩:=(show∃mA,s1.heap.Ns1 d mA/\∀f,RelO (fs.lookup f) (mA f) from I1.hok d _ e2)
 obtain⟨w,hw,rw'⟩:=RelO.some_of (v:=v) (o:=mA f) (by rw[<-l];exact hr f)
 exact ch9 I1.kIn F h1 h2 h3 h4 hN hw (ac2 rw') ⟨v,H1,I1.tok _,rw',q⟩
end
end L2
namespace L2
open PySem PySem.Spec PyProof.Rows PySem.W
section
variable {X : Cx} {pins : List (Addr × Obj)} {σ : St} {H H' : Hp} {s s' : Shared} {B h' : Heap} {ea C : Addr} {dx : Option Addr} {a0 : Value}
theorem Inv.land(I:Inv X pins σ H s)(hex:X.ex=[])(F:Fly X.prog X.w X.stack H s C dx H' ea s')(c1:∀b o,s.heap.get? b=some o->b∉lY X.stack->∃o',B.get? b=some o')(c2:∀b u,H' b=some u->∃o,B.get? b=some o)
 (hB:B.StaysIn s'.heap)(hB':B.StaysIn h')(hup:s'.heap.UpToSlots h'):Inv X pins σ H' {s' with heap:=h'}:=by
 have fr:∀b o,s'.heap.get? b=some o->b∈lY X.stack->∃sl,h'.get? b=some {o with slots:=sl}:=λb o e hb=>by
  obtain⟨_,o1,e1,n1⟩:=I.stack.mem hb
  obtain⟨sl1,e2⟩:=F.un.slot b o1 e1 (I.stkFree b hb) hb (by simp)
  rw[e]at e2
  cases e2
  exact hup b _ e n1
 refine I.call' (s':={s' with heap:=h'}) (ch:=[]) F.os ⟨λb o e n hb _=>?_,λb o e n hb _=>?_,F.un.free,λb o e _=>?_,F.un.tups,F.un.frzs,F.un.tbls⟩ (HOk.based F.hok hB hB' c2) F.bare (λb z=>absurd z (by simp))
 . obtain⟨o',eb⟩:=c1 b o e hb
   have e1:=F.un.keep b o e n hb (by simp)
   have:=hB b o' eb
   rw[e1]at this
   cases this
   exact hB' b _ eb
 . obtain⟨sl,e1⟩:=F.un.slot b o e n hb (by simp)
   obtain⟨sl2,e2⟩:=fr b _ e1 hb
   exact⟨sl2,e2⟩
 . by_cases hb:b∈lY X.stack
   . obtain⟨o1,e1⟩:=F.un.there b o e (by simp)
     obtain⟨sl,e2⟩:=fr b o1 e1 hb
     exact⟨_,e2⟩
   . obtain⟨o',eb⟩:=c1 b o e hb
     exact⟨o',hB' b _ eb⟩
theorem Fly.fresh(I:Inv X pins σ H s)(F:Fly X.prog X.w X.stack H s C dx H' ea s'):s.heap.get? ea=none:=by
 obtain⟨a0,B,hfl,c1,c2⟩:=F.air
 cases q:s.heap.get? ea with
 |none=>rfl
 |some o=>
  by_cases hb:ea∈lY X.stack
  . obtain⟨_,o1,e1,n1⟩:=I.stack.mem hb
    obtain⟨sl,e2⟩:=F.un.slot ea o1 e1 (I.stkFree ea hb) hb (by simp)
    obtain⟨oe,ws,hoe,_,hoed,_⟩:=hfl.first
    rw[e2]at hoe
    cases hoe
    exact absurd hoed (n1 ws)
  . obtain⟨o',eb⟩:=c1 ea o q hb
    rw[hfl.2.1]at eb
    cases eb
abbrev Cx.inS(X:Cx)(v:Value):Cx:={X with A:=X.A.mark (some v),calm:=false}
theorem Inv.inS(I:Inv X pins σ H s)(v:Value):Inv (X.inS v) pins σ H s:=
 ⟨⟨I.ok.mod,I.ok.kind,I.ok.glob,I.ok.blt,I.ok.above,I.ok.inj,I.ok.has,I.ok.cab,(λz=>nomatch z),I.ok.frames,I.ok.stk,I.ok.exf,I.ok.bs,I.ok.bsz,I.ok.noex,I.ok.exfs,I.ok.funs,I.ok.frf⟩,I.os,I.bare,I.base,I.loc,I.cell,I.free,I.freeC,I.pin,I.hok,I.len⟩
theorem Inv.offS{v:Value}(ok:X.Ok)(I:Inv (X.inS v) pins σ H s):Inv X pins σ H s:=⟨ok,I.os,I.bare,I.base,I.loc,I.cell,I.free,I.freeC,I.pin,I.hok,I.len⟩
theorem bb1 {M : Model} {A : Around} {E : Value → Shared → Prop} {k : Nat} {n : Str} {pos : Pos} {Q : Unit → Shared → Prop} (I : Inv X pins σ H s) (hN : X.N.Nodup) (hk : X.N[k]? = some n) (hl : X.env.scope.names.lookup n = some .local)
    (h : ∀ s', Inv X pins (σ.set k none) H s' → Q () s') : wpAny M A (do bindName X.env n .none; unbindBehindTheSuite X.env n pos) Q E s := by
  obtain ⟨m, hn, hl'⟩ := id I.loc
  have hcls : (X.env.scope.kind == .class || (X.env.scope.kind == .module && X.env.locals != X.env.globals)) = false := by rw [I.ok.kind]; rfl
  refine wpAny_nameGoes_keeps hl hn hcls fun h' v hn' hs => h _ ?_
  obtain ⟨oL, _, _, hoL, _⟩ := id hn
  have hok : HOk X.prog X.w H h' := fun b ob e => (I.hok b ob e).stay (fun c w' hc q => (hs.2 c (by
    rintro rfl
    rcases hc with hc | hc
    · rw [← hc, I.free] at e; cases e
    · rw [I.free] at hc; cases hc)).trans q) (fun _ q => q) fun _ _ q => q
  refine ⟨I.ok, I.os, I.bare, ⟨fun b o e n hb hx => ?_, fun b o e n hb hx => ?_, I.base.free, fun b o e hx => ?_, I.base.tups, I.base.frzs, I.base.tbls⟩, ⟨_, hn', fun j y v' e1 e2 e3 => ?_⟩, fun y c e => ?_, I.free, I.freeC, fun p hp => ?_, hok, by simpa using I.len⟩
  · exact (hs.2 b (I.ne_loc e)).trans (I.base.keep b o e n hb hx)
  · obtain ⟨sl, e1⟩ := I.base.slot b o e n hb hx
    exact ⟨sl, (hs.2 b (I.ne_loc e)).trans e1⟩
  · obtain ⟨o', e1⟩ := I.base.there b o e hx
    exact ⟨o', (hs.2 b (I.ne_loc e)).trans e1⟩
  · by_cases hj : j = k
    · subst hj
      rw [List.getElem?_set] at e2
      split at e2
      · split at e2 <;> cases e2
      · rename_i z; exact absurd rfl z
    · rw [List.getElem?_set_ne (Ne.symm hj)] at e2
      obtain ⟨u', r', q⟩ := hl' j y v' e1 e2 e3
      refine ⟨u', r', ?_⟩
      rcases q with ⟨kk, e⟩ | ⟨kk, c, e, z⟩
      · refine .inl ⟨kk, ?_⟩
        have : y ≠ n := fun e => hj (zN hN e1 (e ▸ hk))
        simp [this, e]
      · exact .inr ⟨kk, c, e, z.sameBut hs (I.cne y c e)⟩
  · obtain ⟨w', z⟩ := I.cell y c e
    exact ⟨w', z.sameBut hs (I.cne y c e)⟩
  · obtain ⟨e, n, ne, nf, d⟩ := I.pin p hp
    exact ⟨(hs.2 p.1 ne).trans e, n, ne, nf, d⟩
theorem aw8{M:Model}{A:Around}{E:Value->Shared->Prop}{K:PySem.W.Frag}{e CE:Addr}{oe:Obj}{Q:Bool->Shared->Prop}(X:K.In s.heap)(he:s.heap.get? e=some oe)(hc:oe.cls=.ref C)(hE:mroIn K C (.ref CE)=some true)(hB:mroIn K CE (.type "BaseException")=some true)
 (hT:typeIn K (.ref CE)=some (.type "type"))(hq:Q true s):wpAny M A (excMatches (.ref e) (.ref CE)) Q E s:=by
 have L1:Looks M s.heap (typeOf (.ref e)) (.ref C):=hc▸(Looks.ld he).andThen .now
 have L2:=looks_mroIn (M:=M) X hE
 have L3:=looks_mroIn (M:=M) X hB
 have L4:=looks_typeIn (M:=M) X hT
 have L5:Looks M s.heap (isType (.ref CE)) true:=by
  obtain⟨cd,h1,h2⟩:=Option.bind_eq_some_iff.mp hB
  unfold clsIn at h1
  split at h1
  . rename_i ho
    intro A' Q' E' s' k q
    unfold isType loadHead
    exact wpAny_bind (wpAny_loadPart (k _ _ (X _ _ ho)) (wpAny_pure q))
  . cases h1
 have L6:Looks M s.heap (isInstance (.ref CE) (.type "tuple")) false:=L4.andThen (Looks.of_pure tc_notTuple)
 unfold excMatches isExcClass
 refine wpAny_bind (L6.here (wpAny_bind (wpAny_pure ?_)))
 simp only[List.forIn_cons,List.forIn_nil]
 refine wpAny_bind (wpAny_bind (wpAny_bind (wpAny_bind (L5.here ?_))))
 refine L3.here (wpAny_pure (wpAny_pure (wpAny_bind (L1.here (wpAny_bind (wpAny_bind (wpAny_bind (L2.here (wpAny_pure (wpAny_pure (wpAny_pure hq)))))))))))
structure ai8 (K:PySem.W.Frag) (mg:Str->Option Value) (x:Str) (CE:Addr):Prop where
 glob:mg x=some (.ref CE)
 base:mroIn K CE (.type "BaseException")=some true
 ty:typeIn K (.ref CE)=some (.type "type")
def dS(D:oG)(k:Nat):oG:={nx:=λσ' H'=>D.nx (σ'.set k none) H',rt:=λ_ _=>False}
theorem cn3{D:oG}{ts:TS}{x n:Str}{k:Nat}{CE:Addr}{b₀:Stmt}{suite:List Stmt}{np hp:Pos}(I:Inv X pins σ H s)(hex:X.ex=[])(hst:X.stack=X.env::X.outer)(hfr:X.env.frame=some X.env.locals)(hN:X.N.Nodup)(hk:X.N[k]?=some n)(hl:X.env.scope.names.lookup n=some .local)(hg:Gl X x)(hdb:(x==("__debug__":Str))=false)
 (nox:∀e s,X.xe e s->False)(C0:ai8 X.K X.mg x CE)(hs:∀v,PSs (X.inS v) (b₀::suite) ts)(F:Fly X.prog X.w X.stack H s C dx H' ea s')(hm:mroIn X.K C (.ref CE)=some true)
 (h:ts (dS D k) (σ.set k (some (.ref ea))) (upd H' ea (nN ea C dx))):
 wpAny (model X.prog X.w) X.A (noteFrame (.ref ea) X.env) (λ_ s₂=>wpAny (model X.prog X.w) X.A (setFlight (.ref ea) none) (λ_ s₃=>wpAny (model X.prog X.w) X.A (handleBy (.ref ea) X.env [.ExceptHandler (some (.Name x np)) (some n) (b₀::suite) hp]) (SP X pins D) X.xe s₃) X.xe s₂) X.xe s':=by
 obtain⟨a0,B,hfl,c1,c2⟩:=F.air
 obtain⟨oe,he,hd⟩:=F.dict
 have new:=F.fresh I
 have hA:X.A.frames=some (X.env::X.outer):=by rw[<-hst];exact I.ok.frames
 have hB1:=hfl.1
 rw[hst]at hfl
 refine wpAny_mono (xI (ao7 _ _) (wpAny_looks_onW (Q:=λ_ s3=>Heap.HeldW B (X.env::X.outer) ea (.ref C) a0 X.env.locals s3.heap/\s'.heap.UpToSlots s3.heap/\s3={s' with heap:=s3.heap}) hA hfr hfl λh' x1 x2=>⟨x1,x2,rfl⟩)) (λ_ s4 ⟨⟨x1,x2,x3⟩,kd⟩=>?_) λ_ _ z=>z
 refine wpAny_mono (xI (vU _ _) (wpAny_landsW (Q:=λ_ s5=>Heap.FlyingW B (X.env::X.outer) ea (.ref C) a0 s5.heap/\s4.heap.UpToSlots s5.heap/\s5={s4 with heap:=s5.heap}) x1 λh' y1 y2=>⟨y1,y2,rfl⟩)) (λ_ s5 ⟨⟨y1,y2,y3⟩,kd'⟩=>?_) λ_ _ z=>z
 have up5:=x2.trans y2
 have kd5:=kd.trans kd'
 have e5:s5={s' with heap:=s5.heap}:=by rw[y3,x3]
 have I5:Inv X pins σ H' s5:=by rw[e5];exact I.land hex F c1 c2 hB1 y1.1 up5
 obtain⟨o5,ho5,hc5⟩:=y1.there
 refine wpAny_handleBy_cons (codeAny_handlers_test (qS (X:=X.inS (.ref ea)) (I5.inS _) hg C0.glob ?_ hdb)) (by intro q;cases q)
 refine aw8 I5.kIn ho5 hc5 hm C0.base C0.ty (codeAny_handlers_suite_as ?_)
 refine wpAny_mono (xI (vU _ _) (lands_againW (Q:=λ_ s6=>Heap.FlyingW B (X.env::X.outer) ea (.ref C) a0 s6.heap/\s5.heap.UpToSlots s6.heap/\s6={s5 with heap:=s6.heap}) y1 λh' z1 z2=>⟨z1,z2,rfl⟩)) (λ_ s6 ⟨⟨z1,z2,z3⟩,kd6⟩=>?_) λ_ _ z=>z
 have e6:s6={s' with heap:=s6.heap}:=by rw[z3,e5]
 have I6:Inv X pins σ H' s6:=by rw[e6];exact I.land hex F c1 c2 hB1 z1.1 (up5.trans z2)
 obtain⟨o6,vs6,ho6,hc6,hd6,_⟩:=z1.first
 have E6:bv3 s6.heap ea C dx:=⟨o6,vs6,ho6,hc6,((kd5.trans kd6).at he ho6).trans hd,hd6⟩
 have I7:Inv X pins σ (upd H' ea (nN ea C dx)) s6:=Inv.trackE I new hex I6 F.free (bk9 E6)
 refine zB (X:=X.inS (.ref ea)) (v:=.ref ea) (I7.inS _) hN hk (.inl hl) rfl (λs8 I8=>?_) (.inr hl)
 refine wpAny_mono (hs (.ref ea) s8 _ _ (dS D k) I8 h) (λf s9 q=>?_) λe s9 z=>(nox e s9 z).elim
 cases f with
 |next=>
  obtain⟨σ',H9,I9,q⟩:=q
  exact bb1 (Inv.offS I.ok I9) hN hk hl λs10 I10=>⟨_,_,I10,q⟩
 |ret u=>obtain⟨v,σ',H9,I9,r,q⟩:=q;exact q.elim
 |brk=>obtain⟨σ',H9,I9,q⟩:=q;exact q.elim
 |cont=>obtain⟨σ',H9,I9,q⟩:=q;exact q.elim
end
end L2
namespace L2
open PySem PySem.Spec PyProof.Rows PySem.W
structure ad5 (P:Program) (w:World) (K:PySem.W.Frag) (mg:Str->Option Value) (base:Heap) (k:Nat) (x:Str) (ps:List Str) (sp:Sp):Prop where
 ex:∃f fd,FnOk P w K mg base (pY P w) k f fd ps sp/\mg x=some (.ref f)/\keepIn K (.ref f)=true/\Binds K fd ps []
structure af4 (P:Program) (w:World) (K:PySem.W.Frag) (mg:Str->Option Value) (base:Heap) (k:Nat) (x:Str) (C:Addr) (sp:Sp):Prop where
 ex:∃f fd ps,Mk K C f/\FnOk P w K mg base (pY P w) k f fd ps sp/\mg x=some (.ref C)/\Binds K fd ps []
theorem ca6{X:Cx}:pF (pY X.prog X.w) X E0:=λ_ _ _ _ _ _ _ ⟨_,_,_,_,_,_,h⟩=>h.elim
theorem Fun.okX{P:Program}{w:World}{K:PySem.W.Frag}{mg:Str->Option Value}{base:Heap}{x qual:Str}{st:Stmt}{f:Addr}{fd:FuncData}{N ps:List Str}{k:Nat}{sp:Sp}(F:Fun K x qual st f fd)(S:bL N ps (aS st))(len:∀vs H Q E,sp vs H Q E->vs.length=ps.length)
 (hbody:∀(cdv:Value)(A:Around)(outer:List Env)(s:Shared)(H:Hp)(vs:List V)(Q:VK)(E:XK),Room k (A.deeper (envOfC qual (aS st) s.heap.objs.size f cdv))->sp vs H Q E->
  ∃t,PSs (kB (pY P w) P w K mg base N qual (aS st) f cdv A outer s H E) (cF st) t/\t {nx:=λ_ H'=>Q .non H',rt:=Q} (fV N vs) H):FnOk P w K mg base (pY P w) (k+1) f fd ps sp:=by
 obtain⟨oc,od,kV,doc,pm,an,cdv,ct,osl,rfl,lk,hcd⟩:=F.ex
 exact br7 lk hcd S len λA outer s H vs Q E hr hsp=>hbody cdv A outer s H vs Q E hr hsp
section
variable {X : Cx} {k : Nat} {f : Addr} {fd : FuncData} {ps : List Str} {sp : Sp} {x : Str} {p pos : Pos} {e : Expr} {es : List Expr} {t : TA} {E : XK} {C : Addr}
def cm6(sp:Sp)(E:XK)(t:TA):TE:=λσ H Q=>t σ H λvs H1=>sp vs H1 Q E
theorem ay6(d:af4 X.prog X.w X.K X.mg X.base k x C sp)(xe:pF (pY X.prog X.w) X E)(hr:Room (k+1) X.A)(ha:PA X (e::es) t)(hg:Gl X x:=by rfl)
 (hdb:(x==("__debug__":Str))=false:=by decide)(he:starEach (e::es) X.env=(false,eval e X.env)::starEach es X.env:=by rfl)(hpl:(backTo pos (starEach es X.env)).any (·.1)=false:=by rfl):PE X (.Call (.Name x p) (e::es) [] pos) (al3 C sp [] E t):=by
 obtain⟨f,fd,ps,M,F,hm,hb⟩:=d.ex
 exact cm0 M F hr hg hm hb .nil xe ha hdb he hpl
theorem ci7{pins:List (Addr×Obj)}{σ:St}{H:Hp}{s:Shared}{Q:VK}(d:ad5 X.prog X.w X.K X.mg X.base k x ps sp)(hr:Room k X.A)(ha:PA X (e::es) t)(nox:∀e s,X.xe e s->False)(hg:Gl X x)(hdb:(x==("__debug__":Str))=false)(he:starEach (e::es) X.env=(false,eval e X.env)::starEach es X.env)(hpl:(backTo pos (starEach es X.env)).any (·.1)=false)
 (I:Inv X pins σ H s)(h:cm6 sp E t σ H Q):wpAny (model X.prog X.w) X.A (eval (.Call (.Name x p) (e::es) [] pos) X.env) (EP X pins σ Q) (λe' s'=>∃H1 s1,Inv X pins σ H1 s1/\pY X.prog X.w X.stack H1 s1 E e' s') s:=by
 obtain⟨f,fd,F,hm,hk,hb⟩:=d.ex
 refine wpAny_Call_Name_kw (qS I hg hm ?_ hdb)
 refine PySem.W.callWith_K (h₀:=X.base) I.ok.mod.kin hk (wpAny_mono (ha pins s σ H _ I h) (λus s1 ⟨vs,H1,I1,r,q⟩=>⟨I1.kIn,?_⟩) λe' s' z=>(nox e' s' z).elim) he hpl
 have hl:us.length=ps.length:=by rw[<-r.length];exact F.len _ _ _ _ q
 refine wpAny_call (codeAny_mono (F.run X.A X.stack s1 H1 ⟨us,[]⟩ us vs Q E hr I1.env0 (by have:=hb s1 us I1.kIn (by rw[List.append_nil];exact hl);rwa[List.append_nil]at this) r q) λr s' hq=>?_)
 cases r with
 |error e=>exact⟨H1,s1,I1,hq⟩
 |ok fl=>
  cases fl with
  |ret u=>exact I1.after hq
  |next=>exact False.elim hq
  |brk=>exact False.elim hq
  |cont=>exact False.elim hq
def cy3(sp:Sp)(K:PySem.W.Frag)(CE:Addr)(k:Nat)(ta:TA)(ts:TS)(g:V->St->St):TS:=λD σ H=>ta σ H λvs H1=>sp vs H1 (λv H2=>D.nx (g v σ) H2)
 λc dx H2=>∃C,c=.ref C/\mroIn K C (.ref CE)=some true/\∀ea,H2 ea=none->ts (dS D k) (σ.set k (some (.ref ea))) (upd H2 ea (nN ea C dx))
theorem bx9{CE:Addr}{ts:TS}{z n:Str}{j:Nat}{b₀:Stmt}{suite:List Stmt}{np hp p1 p2:Pos}{q:List Str}{c:Scope}(S:bL X.N q c)(d:ad5 X.prog X.w X.K X.mg X.base k x ps sp)(C0:ai8 X.K X.mg z CE){m:Nat}(hr:Room m X.A)(ha:PA X (e::es) t)(hs:∀v,PSs (X.inS v) (b₀::suite) ts)(hj:X.N[j]?=some n:=by rfl)(hl:X.env.scope.names.lookup n=some .local:=by rfl)
 (hkm:k<=m:=by decide)(hx0:X.xe=λ_ _=>False:=by rfl)(hex:X.ex=[]:=by rfl)(hst:X.stack=X.env::X.outer:=by rfl)(hfr:X.env.frame=some X.env.locals:=by rfl)(hg:Gl X x:=by rfl)(hz:Gl X z:=by rfl)(hdb:(x==("__debug__":Str))=false:=by decide)(hdz:(z==("__debug__":Str))=false:=by decide)
 (he:starEach (e::es) X.env=(false,eval e X.env)::starEach es X.env:=by rfl)(hpl:(backTo pos (starEach es X.env)).any (·.1)=false:=by rfl)(hsw:swapsWith (.Call (.Name x p) (e::es) [] pos) none p1.line X.env=pure false:=by rfl):
 PS X (.Try [.Expr (.Call (.Name x p) (e::es) [] pos) p1] [.ExceptHandler (some (.Name z np)) (some n) (b₀::suite) hp] [] [] p2) (cy3 sp X.K CE j t ts λ_ σ=>σ):=by
 intro pins s σ H D I h
 have nox:∀e s,X.xe e s->False:=λe s z=>by rw[hx0]at z;exact z
 refine wpAny_Try_except (wpAny_execs_cons (wpAny_Expr_any (wpAny_mono (ci7 d (hr.mono hkm) ha nox hg hdb he hpl I h) (λu s1 ⟨v,H1,I1,r1,q1⟩=>wpAny_execs_nil ?_) λe' s' ⟨H1,s1,I1,ea,C,dx,H',ee,F,C',ec,hm,hq⟩=>?_) I.quiet hsw))
 . exact wpAny_execs_nil ⟨σ,H1,I1,q1⟩
 . subst ee
   cases ec
   exact cn3 I1 hex hst hfr S.nd hj hl hz hdz nox C0 hs F hm (hq ea F.free)
end
end L2
namespace TL
open PySem PySem.Spec PyProof.Rows L2
inductive T where
 |non|bl (b:Bool)|int (i:Int)|str (x:Str)|ty (n:String)
 |err (c:Str) (fs:List (Str×V))
 |lst (o:Bool) (xs:List T)
 |tup (xs:List T)
 |ins (o:Bool) (c:Str) (ns:List Str) (xs:List T)
mutual
def frz:T->T
 |.lst _ xs=>.lst false (frzs xs)
 |.tup xs=>.tup (frzs xs)
 |.ins _ c ns xs=>.ins false c ns (frzs xs)
 |.non=>.non
 |.bl b=>.bl b
 |.int i=>.int i
 |.str x=>.str x
 |.ty n=>.ty n
 |.err c fs=>.err c fs
def frzs:List T->List T
 |[]=>[]
 |t::ts=>frz t::frzs ts
end
mutual
def dG:T->Bool
 |.lst o xs=>!o&&bA xs
 |.tup xs=>bA xs
 |.ins o _ _ xs=>!o&&bA xs
 |.non=>true
 |.bl _=>true
 |.int _=>true
 |.str _=>true
 |.ty _=>true
 |.err _ _=>true
def bA:List T->Bool
 |[]=>true
 |t::ts=>dG t&&bA ts
end
mutual
def gP:T->Bool
 |.lst o xs=>o&&fR xs
 |.tup xs=>fR xs
 |.ins o _ _ xs=>o&&fR xs
 |.non=>true
 |.bl _=>true
 |.int _=>true
 |.str _=>true
 |.ty _=>true
 |.err _ _=>true
def fR:List T->Bool
 |[]=>true
 |t::ts=>gP t&&fR ts
end
theorem ac7:∀ts,frzs ts=ts.map frz
 |[]=>rfl
 |t::ts=>by simp[frzs,ac7 ts]
mutual
theorem wI:∀t,dG t=true->frz t=t
 |.lst o xs,h=>by
  simp only[dG,Bool.and_eq_true,Bool.not_eq_true']at h
  rw[frz,fO xs h.2,h.1]
 |.tup xs,h=>by
  simp only[dG]at h
  rw[frz,fO xs h]
 |.ins o _ _ xs,h=>by
  simp only[dG,Bool.and_eq_true,Bool.not_eq_true']at h
  rw[frz,fO xs h.2,h.1]
 |.non,_=>rfl
 |.bl _,_=>rfl
 |.int _,_=>rfl
 |.str _,_=>rfl
 |.ty _,_=>rfl
 |.err _ _,_=>rfl
theorem fO:∀ts,bA ts=true->frzs ts=ts
 |[],_=>rfl
 |t::ts,h=>by
  simp only[bA,Bool.and_eq_true]at h
  rw[frzs,wI t h.1,fO ts h.2]
end
structure Exc where
 c:Str
 fs:List (Str×V)
inductive Res (α:Type) where
 |ok (a:α)|ex (x:Exc)|no
def Res.bind{α β:Type}:Res α->(α->Res β)->Res β
 |.ok a,f=>f a
 |.ex x,_=>.ex x
 |.no,_=>.no
abbrev Fr:=List (Option T)
inductive bP where
 |nx (ρ:Fr)|rt (t:T)|rm (ρ:Fr) (t:T)|bk (ρ:Fr)|ct (ρ:Fr)|ex (x:Exc)|no
def nO:HO->Bool
 |.tup _=>true
 |.frz _ _=>true
 |.ext _=>true
 |.xd _=>true
 |_=>false
def FzL(K:PySem.W.Frag)(H:Hp)(Z:Addr->Prop)(a:Addr)(xs:List V):Prop:=
 (H a=some (.lst xs)/\Z a)\/(∃o,H a=some (.frz o (.lst xs)))\/
  ∃(o:Obj)(its:Array Value)(n:Nat),K.lookup a=some o/\o.cls=.type "list"/\o.dict=none/\o.slots=#[]/\o.data=.seq its n/\its.size<=sizeLine/\Vals xs its.toList
theorem FzL.sqS{K:PySem.W.Frag}{H:Hp}{Z:Addr->Prop}{a:Addr}{xs:List V}(h:FzL K H Z a xs):SqS K H a xs:=by
 rcases h with⟨h,_⟩|⟨o,h⟩|h
 . exact .inl (.inl h)
 . exact .inl (.inr ⟨o,h⟩)
 . exact .inr h
theorem FzL.sq{K:PySem.W.Frag}{H:Hp}{Z:Addr->Prop}{a:Addr}{xs:List V}(h:FzL K H Z a xs):SqL K H a xs:=h.sqS.sq
section
variable (K : PySem.W.Frag) (cn : Str → Option Addr)
mutual
def Rep(H:Hp)(Z:Addr->Prop):T->V->List Addr->Prop
 |.non,v,A=>v=.non/\A=[]
 |.bl b,v,A=>v=.bl b/\A=[]
 |.int i,v,A=>v=.int i/\A=[]
 |.str x,v,A=>v=.str x/\A=[]
 |.ty n,v,A=>v=.ty n/\A=[]
 |.err c fs,v,A=>∃a C dx,v=.ref a/\A=[]/\cn c=some C/\H a=some (nN a C dx)/\am1 H dx fs
 |.lst true ts,v,A=>∃a vs B,v=.ref a/\A=a::B/\H a=some (.lst vs)/\Reps H Z ts vs B
 |.lst false ts,v,A=>∃a vs,v=.ref a/\A=[]/\FzL K H Z a vs/\Reps H Z ts vs []
 |.tup ts,v,A=>∃a vs,v=.ref a/\SqT K H a vs/\Reps H Z ts vs A
 |.ins true c ns ts,v,A=>∃a C dx vs B,v=.ref a/\A=a::B/\cn c=some C/\H a=some (.ins C dx (ns.zip vs))/\ns.length=vs.length/\Reps H Z ts vs B
 |.ins false c ns ts,v,A=>∃a C dx vs,v=.ref a/\A=[]/\cn c=some C/\H a=some (.ins C dx (ns.zip vs))/\Z a/\ns.length=vs.length/\Reps H Z ts vs []
def Reps(H:Hp)(Z:Addr->Prop):List T->List V->List Addr->Prop
 |[],vs,A=>vs=[]/\A=[]
 |t::ts,vs,A=>∃v r B C,vs=v::r/\A=B++C/\Rep H Z t v B/\Reps H Z ts r C
end
end
section
variable {K : PySem.W.Frag} {cn : Str → Option Addr} {H H' : Hp} {Z Z' : Addr → Prop}
theorem FzL.keep{a:Addr}{xs:List V}(h:FzL K H Z a xs)(hk:∀a o,H a=some o->(Z a\/nO o=true)->H' a=some o)(hz:∀a,Z a->Z' a):FzL K H' Z' a xs:=by
 rcases h with⟨h,z⟩|⟨o,h⟩|h
 . exact .inl ⟨hk _ _ h (.inl z),hz _ z⟩
 . exact .inr (.inl ⟨o,hk _ _ h (.inr rfl)⟩)
 . exact .inr (.inr h)
theorem SqT.keep{a:Addr}{xs:List V}(h:SqT K H a xs)(hk:∀a o,H a=some o->nO o=true->H' a=some o):SqT K H' a xs:=by
 rcases h with(h|⟨o,h⟩)|h
 . exact .inl (.inl (hk _ _ h rfl))
 . exact .inl (.inr ⟨o,hk _ _ h rfl⟩)
 . exact .inr h
mutual
theorem Rep.keep:∀(t:T){v:V}{A:List Addr},Rep K cn H Z t v A->(∀a o,H a=some o->(a∈A\/Z a\/nO o=true)->H' a=some o)->(∀a,Z a->Z' a)->Rep K cn H' Z' t v A
 |.non,_,_,h,_,_=>by simpa only[Rep]using h
 |.bl _,_,_,h,_,_=>by simpa only[Rep]using h
 |.int _,_,_,h,_,_=>by simpa only[Rep]using h
 |.str _,_,_,h,_,_=>by simpa only[Rep]using h
 |.ty _,_,_,h,_,_=>by simpa only[Rep]using h
 |.err _ _,_,_,h,hk,_=>by
  simp only[Rep]at h⊢
  obtain⟨a,C,dx,e1,e2,e3,e4,e5⟩:=h
  exact⟨a,C,dx,e1,e2,e3,hk _ _ e4 (.inr (.inr rfl)),e5.imp_right λ⟨d,q1,q2⟩=>⟨d,q1,hk _ _ q2 (.inr (.inr rfl))⟩⟩
 |.lst true ts,v,A,h,hk,hz=>by
  simp only[Rep]at h⊢
  obtain⟨a,vs,B,rfl,rfl,e,r⟩:=h
  exact⟨a,vs,B,rfl,rfl,hk a _ e (.inl List.mem_cons_self),Reps.keep ts r (λb o q c=>hk b o q (c.imp_left (List.mem_cons_of_mem _))) hz⟩
 |.lst false ts,v,A,h,hk,hz=>by
  simp only[Rep]at h⊢
  obtain⟨a,vs,rfl,rfl,e,r⟩:=h
  exact⟨a,vs,rfl,rfl,e.keep (λb o q c=>hk b o q (.inr c)) hz,Reps.keep ts r hk hz⟩
 |.tup ts,v,A,h,hk,hz=>by
  simp only[Rep]at h⊢
  obtain⟨a,vs,rfl,e,r⟩:=h
  exact⟨a,vs,rfl,SqT.keep e (λb o q c=>hk b o q (.inr (.inr c))),Reps.keep ts r hk hz⟩
 |.ins true c ns ts,v,A,h,hk,hz=>by
  simp only[Rep]at h⊢
  obtain⟨a,C,dx,vs,B,rfl,rfl,hc,e,l,r⟩:=h
  exact⟨a,C,dx,vs,B,rfl,rfl,hc,hk a _ e (.inl List.mem_cons_self),l,Reps.keep ts r (λb o q c=>hk b o q (c.imp_left (List.mem_cons_of_mem _))) hz⟩
 |.ins false c ns ts,v,A,h,hk,hz=>by
  simp only[Rep]at h⊢
  obtain⟨a,C,dx,vs,rfl,rfl,hc,e,z,l,r⟩:=h
  exact⟨a,C,dx,vs,rfl,rfl,hc,hk a _ e (.inr (.inl z)),hz a z,l,Reps.keep ts r hk hz⟩
theorem Reps.keep:∀(ts:List T){vs:List V}{A:List Addr},Reps K cn H Z ts vs A->(∀a o,H a=some o->(a∈A\/Z a\/nO o=true)->H' a=some o)->(∀a,Z a->Z' a)->Reps K cn H' Z' ts vs A
 |[],_,_,h,_,_=>by simpa only[Reps]using h
 |t::ts,vs,A,h,hk,hz=>by
  simp only[Reps]at h⊢
  obtain⟨v,r,B,C,rfl,rfl,h1,h2⟩:=h
  exact⟨v,r,B,C,rfl,rfl,Rep.keep t h1 (λb o q c=>hk b o q (c.imp_left (List.mem_append_left _))) hz,Reps.keep ts h2 (λb o q c=>hk b o q (c.imp_left (List.mem_append_right _))) hz⟩
end
theorem Rep.same{t:T}{v:V}{A:List Addr}(h:Rep K cn H Z t v A)(s:Same H H')(hz:∀a,Z a->Z' a):Rep K cn H' Z' t v A:=Rep.keep t h (λa o q _=>s a o q) hz
theorem Reps.same{t:List T}{v:List V}{A:List Addr}(h:Reps K cn H Z t v A)(s:Same H H')(hz:∀a,Z a->Z' a):Reps K cn H' Z' t v A:=Reps.keep t h (λa o q _=>s a o q) hz
theorem bv2{a b:Addr}{o o':HO}(h:H a=some o)(h':H b=some o')(i:nO o=true)(i':nO o'=false):a≠b:=by
 rintro rfl
 rw[h]at h'
 cases h'
 rw[i]at i'
 cases i'
theorem Rep.upd{t:T}{v:V}{A:List Addr}{a:Addr}{o o':HO}(h:Rep K cn H Z t v A)(ha:H a=some o)(hi:nO o=false)(hA:a∉A)(hZ:¬Z a):Rep K cn (L2.upd H a o') Z t v A:=
 Rep.keep t h (λb u q c=>by
  rw[aY]
  . exact q
  . rcases c with c|c|c
    . rintro rfl;exact hA c
    . rintro rfl;exact hZ c
    . exact bv2 q ha c hi) (λ_ z=>z)
theorem Reps.upd{t:List T}{v:List V}{A:List Addr}{a:Addr}{o o':HO}(h:Reps K cn H Z t v A)(ha:H a=some o)(hi:nO o=false)(hA:a∉A)(hZ:¬Z a):Reps K cn (L2.upd H a o') Z t v A:=
 Reps.keep t h (λb u q c=>by
  rw[aY]
  . exact q
  . rcases c with c|c|c
    . rintro rfl;exact hA c
    . rintro rfl;exact hZ c
    . exact bv2 q ha c hi) (λ_ z=>z)
mutual
theorem Rep.frz:∀(t:T){v:V}{A:List Addr},Rep K cn H Z t v A->(∀a,Z a->Z' a)->(∀a∈A,Z' a)->Rep K cn H Z' (frz t) v []
 |.non,_,_,h,_,_=>by simp only[Rep,TL.frz]at h⊢;exact⟨h.1,trivial⟩
 |.bl _,_,_,h,_,_=>by simp only[Rep,TL.frz]at h⊢;exact⟨h.1,trivial⟩
 |.int _,_,_,h,_,_=>by simp only[Rep,TL.frz]at h⊢;exact⟨h.1,trivial⟩
 |.str _,_,_,h,_,_=>by simp only[Rep,TL.frz]at h⊢;exact⟨h.1,trivial⟩
 |.ty _,_,_,h,_,_=>by simp only[Rep,TL.frz]at h⊢;exact⟨h.1,trivial⟩
 |.err _ _,_,_,h,_,_=>by
  simp only[Rep,TL.frz]at h⊢
  obtain⟨a,C,dx,e1,e2,e3,e4,e5⟩:=h
  exact⟨a,C,dx,e1,trivial,e3,e4,e5⟩
 |.lst true ts,v,A,h,hz,hA=>by
  simp only[Rep,TL.frz]at h⊢
  obtain⟨a,vs,B,rfl,rfl,e,r⟩:=h
  exact⟨a,vs,rfl,trivial,.inl ⟨e,hA a List.mem_cons_self⟩,Reps.frz ts r hz λb hb=>hA b (List.mem_cons_of_mem _ hb)⟩
 |.lst false ts,v,A,h,hz,hA=>by
  simp only[Rep,TL.frz]at h⊢
  obtain⟨a,vs,rfl,rfl,e,r⟩:=h
  exact⟨a,vs,rfl,trivial,e.keep (λ_ _ q _=>q) hz,Reps.frz ts r hz hA⟩
 |.tup ts,v,A,h,hz,hA=>by
  simp only[Rep,TL.frz]at h⊢
  obtain⟨a,vs,rfl,e,r⟩:=h
  exact⟨a,vs,rfl,e,Reps.frz ts r hz hA⟩
 |.ins true c ns ts,v,A,h,hz,hA=>by
  simp only[Rep,TL.frz]at h⊢
  obtain⟨a,C,dx,vs,B,rfl,rfl,hc,e,l,r⟩:=h
  exact⟨a,C,dx,vs,rfl,trivial,hc,e,hA a List.mem_cons_self,l,Reps.frz ts r hz λb hb=>hA b (List.mem_cons_of_mem _ hb)⟩
 |.ins false c ns ts,v,A,h,hz,hA=>by
  simp only[Rep,TL.frz]at h⊢
  obtain⟨a,C,dx,vs,rfl,rfl,hc,e,z,l,r⟩:=h
  exact⟨a,C,dx,vs,rfl,trivial,hc,e,hz a z,l,Reps.frz ts r hz hA⟩
theorem Reps.frz:∀(ts:List T){vs:List V}{A:List Addr},Reps K cn H Z ts vs A->(∀a,Z a->Z' a)->(∀a∈A,Z' a)->Reps K cn H Z' (frzs ts) vs []
 |[],_,_,h,_,_=>by simp only[Reps,TL.frzs]at h⊢;exact⟨h.1,trivial⟩
 |t::ts,vs,A,h,hz,hA=>by
  simp only[Reps,TL.frzs]at h⊢
  obtain⟨v,r,B,C,rfl,rfl,h1,h2⟩:=h
  exact⟨v,r,[],[],rfl,rfl,Rep.frz t h1 hz λb hb=>hA b (List.mem_append_left _ hb),Reps.frz ts h2 hz λb hb=>hA b (List.mem_append_right _ hb)⟩
end
mutual
theorem Rep.any:∀(t:T){v:V}{A:List Addr},gP t=true->Rep K cn H Z t v A->Rep K cn H Z' t v A
 |.non,_,_,_,h=>by simpa only[Rep]using h
 |.bl _,_,_,_,h=>by simpa only[Rep]using h
 |.int _,_,_,_,h=>by simpa only[Rep]using h
 |.str _,_,_,_,h=>by simpa only[Rep]using h
 |.ty _,_,_,_,h=>by simpa only[Rep]using h
 |.err _ _,_,_,_,h=>by simpa only[Rep]using h
 |.lst true ts,v,A,c,h=>by
  simp only[Rep,gP,Bool.true_and]at h c⊢
  obtain⟨a,vs,B,rfl,rfl,e,r⟩:=h
  exact⟨a,vs,B,rfl,rfl,e,Reps.any ts c r⟩
 |.lst false ts,v,A,c,h=>by simp[gP]at c
 |.tup ts,v,A,c,h=>by
  simp only[Rep,gP]at h c⊢
  obtain⟨a,vs,rfl,e,r⟩:=h
  exact⟨a,vs,rfl,e,Reps.any ts c r⟩
 |.ins true cc ns ts,v,A,c,h=>by
  simp only[Rep,gP,Bool.true_and]at h c⊢
  obtain⟨a,C,dx,vs,B,rfl,rfl,hc,e,l,r⟩:=h
  exact⟨a,C,dx,vs,B,rfl,rfl,hc,e,l,Reps.any ts c r⟩
 |.ins false cc ns ts,v,A,c,h=>by simp[gP]at c
theorem Reps.any:∀(ts:List T){vs:List V}{A:List Addr},fR ts=true->Reps K cn H Z ts vs A->Reps K cn H Z' ts vs A
 |[],_,_,_,h=>by simpa only[Reps]using h
 |t::ts,vs,A,c,h=>by
  simp only[Reps,fR,Bool.and_eq_true]at h c⊢
  obtain⟨v,r,B,C,rfl,rfl,h1,h2⟩:=h
  exact⟨v,r,B,C,rfl,rfl,Rep.any t c.1 h1,Reps.any ts c.2 h2⟩
end
mutual
theorem Rep.bare:∀(t:T){v:V}{A:List Addr},dG t=true->Rep K cn H Z t v A->A=[]
 |.non,_,_,_,h=>by simp only[Rep]at h;exact h.2
 |.bl _,_,_,_,h=>by simp only[Rep]at h;exact h.2
 |.int _,_,_,_,h=>by simp only[Rep]at h;exact h.2
 |.str _,_,_,_,h=>by simp only[Rep]at h;exact h.2
 |.ty _,_,_,_,h=>by simp only[Rep]at h;exact h.2
 |.err _ _,_,_,_,h=>by simp only[Rep]at h;obtain⟨a,C,dx,e1,e2,e3,e4,e5⟩:=h;exact e2
 |.lst true ts,v,A,c,h=>by simp[dG]at c
 |.lst false ts,v,A,c,h=>by
  simp only[Rep]at h
  obtain⟨a,vs,rfl,rfl,e,r⟩:=h
  rfl
 |.tup ts,v,A,c,h=>by
  simp only[Rep,dG]at h c
  obtain⟨a,vs,rfl,e,r⟩:=h
  exact Reps.bare ts c r
 |.ins true cc ns ts,v,A,c,h=>by simp[dG]at c
 |.ins false cc ns ts,v,A,c,h=>by
  simp only[Rep]at h
  obtain⟨a,C,dx,vs,rfl,rfl,_⟩:=h
  rfl
theorem Reps.bare:∀(ts:List T){vs:List V}{A:List Addr},bA ts=true->Reps K cn H Z ts vs A->A=[]
 |[],_,_,_,h=>by simp only[Reps]at h;exact h.2
 |t::ts,vs,A,c,h=>by
  simp only[Reps,bA,Bool.and_eq_true]at h c
  obtain⟨v,r,B,C,rfl,rfl,h1,h2⟩:=h
  rw[Rep.bare t c.1 h1,Reps.bare ts c.2 h2]
  rfl
end
mutual
theorem Rep.dom:∀(t:T){v:V}{A:List Addr},Rep K cn H Z t v A->∀a∈A,∃o,H a=some o/\nO o=false
 |.non,_,_,h=>by simp only[Rep]at h;rw[h.2];intro a ha;cases ha
 |.bl _,_,_,h=>by simp only[Rep]at h;rw[h.2];intro a ha;cases ha
 |.int _,_,_,h=>by simp only[Rep]at h;rw[h.2];intro a ha;cases ha
 |.str _,_,_,h=>by simp only[Rep]at h;rw[h.2];intro a ha;cases ha
 |.ty _,_,_,h=>by simp only[Rep]at h;rw[h.2];intro a ha;cases ha
 |.err _ _,_,_,h=>by simp only[Rep]at h;obtain⟨a,C,dx,e1,e2,e3,e4,e5⟩:=h;rw[e2];intro a ha;cases ha
 |.lst true ts,v,A,h=>by
  simp only[Rep]at h
  obtain⟨a,vs,B,rfl,rfl,e,r⟩:=h
  intro b hb
  rcases List.mem_cons.mp hb with rfl|hb
  . exact⟨_,e,rfl⟩
  . exact Reps.dom ts r b hb
 |.lst false ts,v,A,h=>by
  simp only[Rep]at h
  obtain⟨a,vs,rfl,rfl,e,r⟩:=h
  intro a ha;cases ha
 |.tup ts,v,A,h=>by
  simp only[Rep]at h
  obtain⟨a,vs,rfl,e,r⟩:=h
  exact Reps.dom ts r
 |.ins true cc ns ts,v,A,h=>by
  simp only[Rep]at h
  obtain⟨a,C,dx,vs,B,rfl,rfl,hc,e,l,r⟩:=h
  intro b hb
  rcases List.mem_cons.mp hb with rfl|hb
  . exact⟨_,e,rfl⟩
  . exact Reps.dom ts r b hb
 |.ins false cc ns ts,v,A,h=>by
  simp only[Rep]at h
  obtain⟨a,C,dx,vs,rfl,rfl,_⟩:=h
  intro a ha;cases ha
theorem Reps.dom:∀(ts:List T){vs:List V}{A:List Addr},Reps K cn H Z ts vs A->∀a∈A,∃o,H a=some o/\nO o=false
 |[],_,_,h=>by simp only[Reps]at h;rw[h.2];intro a ha;cases ha
 |t::ts,vs,A,h=>by
  simp only[Reps]at h
  obtain⟨v,r,B,C,rfl,rfl,h1,h2⟩:=h
  intro a ha
  rcases List.mem_append.mp ha with ha|ha
  . exact Rep.dom t h1 a ha
  . exact Reps.dom ts h2 a ha
end
theorem Reps.length:∀(ts:List T){vs:List V}{A:List Addr},Reps K cn H Z ts vs A->vs.length=ts.length
 |[],_,_,h=>by simp only[Reps]at h;rw[h.1];rfl
 |t::ts,vs,A,h=>by
  simp only[Reps]at h
  obtain⟨v,r,B,C,rfl,rfl,h1,h2⟩:=h
  simp[Reps.length ts h2]
theorem Reps.get:∀(ts:List T){vs:List V}{A:List Addr}{i:Nat}{t:T},Reps K cn H Z ts vs A->ts[i]?=some t->∃v B,vs[i]?=some v/\Rep K cn H Z t v B/\(∀b∈B,b∈A)/\B.Sublist A
 |[],_,_,_,_,h,e=>by simp at e
 |t::ts,vs,A,0,t',h,e=>by
  simp only[Reps]at h
  obtain⟨v,r,B,C,rfl,rfl,h1,h2⟩:=h
  simp at e
  subst e
  exact⟨v,B,rfl,h1,λb hb=>List.mem_append_left _ hb,List.sublist_append_left _ _⟩
 |t::ts,vs,A,i+1,t',h,e=>by
  simp only[Reps]at h
  obtain⟨v,r,B,C,rfl,rfl,h1,h2⟩:=h
  obtain⟨v',B',e1,e2,e3,e4⟩:=Reps.get ts (i:=i) h2 (by simpa using e)
  exact⟨v',B',by simpa using e1,e2,λb hb=>List.mem_append_right _ (e3 b hb),e4.trans (List.sublist_append_right _ _)⟩
theorem Reps.append:∀(ts:List T){us:List T}{vs ws:List V}{A B:List Addr},Reps K cn H Z ts vs A->Reps K cn H Z us ws B->Reps K cn H Z (ts++us) (vs++ws) (A++B)
 |[],us,vs,ws,A,B,h,h'=>by
  simp only[Reps]at h
  obtain⟨rfl,rfl⟩:=h
  exact h'
 |t::ts,us,vs,ws,A,B,h,h'=>by
  simp only[Reps,List.cons_append]at h⊢
  obtain⟨v,r,C,D,rfl,rfl,h1,h2⟩:=h
  exact⟨v,r++ws,C,D++B,rfl,by simp,h1,Reps.append ts h2 h'⟩
theorem Reps.one{t:T}{v:V}{B:List Addr}(h:Rep K cn H Z t v B):Reps K cn H Z [t] [v] B:=by
 simp only[Reps]
 exact⟨v,[],B,[],rfl,by simp,h,rfl,rfl⟩
theorem Reps.nil:Reps K cn H Z [] [] []:=by simp[Reps]
theorem Reps.take:∀(n:Nat)(ts:List T){vs:List V},Reps K cn H Z ts vs []->Reps K cn H Z (ts.take n) (vs.take n) []
 |0,ts,vs,h=>by simp[Reps]
 |n+1,[],vs,h=>by
  simp only[Reps]at h
  obtain⟨rfl,_⟩:=h
  simp[Reps]
 |n+1,t::ts,vs,h=>by
  simp only[Reps]at h
  obtain⟨v,r,B,C,rfl,e,h1,h2⟩:=h
  have eb:B=[]/\C=[]:=by simpa using e.symm
  obtain⟨rfl,rfl⟩:=eb
  simp only[List.take_succ_cons,Reps]
  exact⟨v,r.take n,[],[],rfl,rfl,h1,Reps.take n ts h2⟩
theorem Reps.drop:∀(n:Nat)(ts:List T){vs:List V},Reps K cn H Z ts vs []->Reps K cn H Z (ts.drop n) (vs.drop n) []
 |0,ts,vs,h=>h
 |n+1,[],vs,h=>by
  simp only[Reps]at h
  obtain⟨rfl,_⟩:=h
  simp[Reps]
 |n+1,t::ts,vs,h=>by
  simp only[Reps]at h
  obtain⟨v,r,B,C,rfl,e,h1,h2⟩:=h
  have eb:B=[]/\C=[]:=by simpa using e.symm
  obtain⟨rfl,rfl⟩:=eb
  simpa using Reps.drop n ts h2
end
end TL
namespace TL
open PySem PySem.Spec PyProof.Rows L2
abbrev St:=L2.St
theorem zE{H:Hp}{p:Addr}(h:H p=none)(o:HO):Same H (L2.upd H p o):=λb u q=>by rw[aY (cR q h)];exact q
theorem cU{α:Type}{P:α->Prop}:∀b∈([]:List α),P b:=λ_ h=>nomatch h
def Slot(K:PySem.W.Frag)(cn:Str->Option Addr)(H:Hp)(Z:Addr->Prop)(o:Option T)(w:Option V)(A:List Addr):Prop:=
 match o with
 |none=>A=[]
 |some t=>∃v,w=some v/\Rep K cn H Z t v A
def Slots(K:PySem.W.Frag)(cn:Str->Option Addr)(H:Hp)(Z:Addr->Prop):Fr->St->List (List Addr)->Prop
 |[],σ,As=>σ=[]/\As=[]
 |o::ρ,σ,As=>∃w σ' A As',σ=w::σ'/\As=A::As'/\Slot K cn H Z o w A/\Slots K cn H Z ρ σ' As'
abbrev fM:=List (Nat×V)
structure Frm (Jn:fM) (K:PySem.W.Frag) (cn:Str->Option Addr) (H:Hp) (Z:Addr->Prop) (ρ:Fr) (σ:St) (As:List (List Addr)):Prop where
 sl:Slots K cn H Z ρ σ As
 nd:As.flatten.Nodup
 nz:∀a∈As.flatten,¬Z a
 zi:∀a,Z a->H a≠none
 pn:∀p∈Jn,σ[p.1]?=some (some p.2)
structure Ev (As:List (List Addr)) (H:Hp) (Z:Addr->Prop) (As':List (List Addr)) (H':Hp) (Z':Addr->Prop):Prop where
 keep:∀a o,H a=some o->a∉As.flatten->H' a=some o
 own:∀a∈As'.flatten,a∈As.flatten\/H a=none
 zz:∀a,Z a->Z' a
 zn:∀a,Z' a->Z a\/a∈As.flatten\/H a=none
 dom:∀a,H' a=none->H a=none
theorem Ev.refl{As:List (List Addr)}{H:Hp}{Z:Addr->Prop}:Ev As H Z As H Z:=
 ⟨λ_ _ h _=>h,λ_ h=>.inl h,λ_ h=>h,λ_ h=>.inl h,λ_ h=>h⟩
theorem Ev.trans{As As1 As2:List (List Addr)}{H H1 H2:Hp}{Z Z1 Z2:Addr->Prop}(a:Ev As H Z As1 H1 Z1)(b:Ev As1 H1 Z1 As2 H2 Z2):Ev As H Z As2 H2 Z2 where
 keep:=λx o h n=>b.keep x o (a.keep x o h n) λq=>by
  rcases a.own x q with q|q
  . exact n q
  . rw[h]at q;cases q
 own:=λx h=>by
  rcases b.own x h with q|q
  . exact a.own x q
  . exact .inr (a.dom x q)
 zz:=λx h=>b.zz x (a.zz x h)
 zn:=λx h=>by
  rcases b.zn x h with q|q|q
  . exact a.zn x q
  . exact .inr (a.own x q)
  . exact .inr (.inr (a.dom x q))
 dom:=λx h=>a.dom x (b.dom x h)
structure Post (K:PySem.W.Frag) (cn:Str->Option Addr) (As:List (List Addr)) (H:Hp) (Z:Addr->Prop) (mv:List Nat) (H':Hp) (Z':Addr->Prop) (t:T) (v:V) (B:List Addr):Prop where
 same:Same H H'
 zz:∀a,Z a->Z' a
 zn:∀a,Z' a->Z a\/H a=none
 zi:∀a,Z' a->H' a≠none
 rep:Rep K cn H' Z' t v B
 nd:B.Nodup
 bz:∀b∈B,¬Z' b
 bn:∀b∈B,H b=none\/∃i∈mv,b∈As.getD i []
structure PostB (K:PySem.W.Frag) (cn:Str->Option Addr) (H:Hp) (Z:Addr->Prop) (H':Hp) (Z':Addr->Prop) (t:T) (v:V) (B:List Addr):Prop where
 same:Same H H'
 zz:∀a,Z a->Z' a
 zn:∀a,Z' a->Z a\/H a=none
 zi:∀a,Z' a->H' a≠none
 rep:Rep K cn H' Z' t v B
structure XPost (K:PySem.W.Frag) (cn:Str->Option Addr) (As:List (List Addr)) (H:Hp) (Z:Addr->Prop) (x:Exc) (C:Addr) (a:Option Addr) (H':Hp) (Z':Addr->Prop):Prop where
 ev:Ev As H Z [] H' Z'
 cls:cn x.c=some C
 zi:∀a,Z' a->H' a≠none
 flds:am1 H' a x.fs
section
variable (Jn : fM) (K : PySem.W.Frag) (cn : Str → Option Addr) (E : XK)
def WpX(As:List (List Addr))(H:Hp)(Z:Addr->Prop)(x:Exc):Prop:=∀C a H' Z',XPost K cn As H Z x C a H' Z'->E (.ref C) a H'
def WpE(As:List (List Addr))(H:Hp)(Z:Addr->Prop)(mv:List Nat)(Q:VK):Res T->Prop
 |.ok t=>∀v H' Z' B,Post K cn As H Z mv H' Z' t v B->Q v H'
 |.ex x=>WpX K cn E As H Z x
 |.no=>False
def WpB(As:List (List Addr))(H:Hp)(Z:Addr->Prop)(Q:VK):Res T->Prop
 |.ok t=>∀v H' Z' B,PostB K cn H Z H' Z' t v B->Q v H'
 |.ex x=>WpX K cn E As H Z x
 |.no=>False
structure PostT (H:Hp) (Z:Addr->Prop) (H':Hp) (Z':Addr->Prop):Prop where
 same:Same H H'
 zz:∀a,Z a->Z' a
 zn:∀a,Z' a->Z a\/H a=none
 zi:∀a,Z' a->H' a≠none
def WpT(As:List (List Addr))(H:Hp)(Z:Addr->Prop)(Q:Bool->Hp->Prop):Res Bool->Prop
 |.ok b=>∀H' Z',PostT H Z H' Z'->Q b H'
 |.ex x=>WpX K cn E As H Z x
 |.no=>False
structure cy4 (As:List (List Addr)) (H:Hp) (Z:Addr->Prop) (t:T) (v:V) (H':Hp) (Z':Addr->Prop) (B:List Addr):Prop where
 ev:Ev As H Z [B] H' Z'
 rep:Rep K cn H' Z' t v B
 nd:B.Nodup
 bz:∀b∈B,¬Z' b
 zi:∀a,Z' a->H' a≠none
def Wp(As:List (List Addr))(H:Hp)(Z:Addr->Prop)(D:oG):bP->Prop
 |.nx ρ=>∀σ' As' H' Z',Frm Jn K cn H' Z' ρ σ' As'->Ev As H Z As' H' Z'->D.nx σ' H'
 |.bk ρ=>∀σ' As' H' Z',Frm Jn K cn H' Z' ρ σ' As'->Ev As H Z As' H' Z'->D.bk σ' H'
 |.ct ρ=>∀σ' As' H' Z',Frm Jn K cn H' Z' ρ σ' As'->Ev As H Z As' H' Z'->D.ct σ' H'
 |.rt t=>∀v H' Z' B,cy4 K cn As H Z t v H' Z' B->D.rt v H'
 |.rm ρ t=>∀v σ' As' H' Z',Frm Jn K cn H' Z' ρ σ' As'->Ev As H Z As' H' Z'->Rep K cn H' Z' t v []->D.rt v H'
 |.ex x=>WpX K cn E As H Z x
 |.no=>False
def RE(mv:List Nat)(te:TE)(d:Fr->Res T):Prop:=∀As H Z ρ σ,Frm Jn K cn H Z ρ σ As->∀Q,WpE K cn E As H Z mv Q (d ρ)->te σ H Q
def RB(te:TE)(d:Fr->Res T):Prop:=∀As H Z ρ σ,Frm Jn K cn H Z ρ σ As->∀Q,WpB K cn E As H Z Q (d ρ)->te σ H Q
def RT(tt:TT)(d:Fr->Res Bool):Prop:=∀As H Z ρ σ,Frm Jn K cn H Z ρ σ As->∀Q,WpT K cn E As H Z Q (d ρ)->tt σ H Q
def RS(ts:TS)(d:Fr->bP):Prop:=∀As H Z ρ σ,Frm Jn K cn H Z ρ σ As->∀D,Wp Jn K cn E As H Z D (d ρ)->ts D σ H
end
section
variable {Jn : fM} {K : PySem.W.Frag} {cn : Str → Option Addr} {E : XK} {As As1 : List (List Addr)} {H H1 : Hp} {Z Z1 : Addr → Prop} {ρ : Fr} {σ : St}
theorem WpX.ev{x:Exc}(h:WpX K cn E As H Z x)(e:Ev As H Z As1 H1 Z1):WpX K cn E As1 H1 Z1 x:=λC a H' Z' p=>h C a H' Z' ⟨e.trans p.ev,p.cls,p.zi,p.flds⟩
theorem Wp.ev{D:oG}{o:bP}(h:Wp Jn K cn E As H Z D o)(e:Ev As H Z As1 H1 Z1):Wp Jn K cn E As1 H1 Z1 D o:=by
 cases o with
 |nx ρ=>exact λσ' As' H' Z' f q=>h σ' As' H' Z' f (e.trans q)
 |bk ρ=>exact λσ' As' H' Z' f q=>h σ' As' H' Z' f (e.trans q)
 |ct ρ=>exact λσ' As' H' Z' f q=>h σ' As' H' Z' f (e.trans q)
 |rt t=>exact λv H' Z' B p=>h v H' Z' B ⟨e.trans p.ev,p.rep,p.nd,p.bz,p.zi⟩
 |rm ρ t=>exact λv σ' As' H' Z' f q r=>h v σ' As' H' Z' f (e.trans q) r
 |ex x=>exact WpX.ev h e
 |no=>exact h
structure Mo (H:Hp) (Z:Addr->Prop) (H':Hp) (Z':Addr->Prop):Prop where
 same:Same H H'
 zz:∀a,Z a->Z' a
 zn:∀a,Z' a->Z a\/H a=none
 zi:∀a,Z' a->H' a≠none
theorem Mo.ev{H':Hp}{Z':Addr->Prop}(m:Mo H Z H' Z'):Ev As H Z As H' Z':=
 ⟨λa o h _=>m.same a o h,λ_ h=>.inl h,m.zz,λa h=>(m.zn a h).imp_right .inr,λa h=>m.same.free h⟩
theorem Mo.trans{H2:Hp}{Z2:Addr->Prop}(a:Mo H Z H1 Z1)(b:Mo H1 Z1 H2 Z2):Mo H Z H2 Z2:=
 ⟨a.same.trans b.same,λx h=>b.zz x (a.zz x h),λx h=>by
  rcases b.zn x h with q|q
  . exact a.zn x q
  . exact .inr (a.same.free q),b.zi⟩
theorem Frm.mo0(F:Frm Jn K cn H Z ρ σ As):Mo H Z H Z:=⟨Same.refl _,λ_ h=>h,λ_ h=>.inl h,F.zi⟩
theorem Post.mo{H':Hp}{Z':Addr->Prop}{mv:List Nat}{t:T}{v:V}{B:List Addr}(p:Post K cn As H Z mv H' Z' t v B):Mo H Z H' Z':=⟨p.same,p.zz,p.zn,p.zi⟩
theorem PostB.mo{H':Hp}{Z':Addr->Prop}{t:T}{v:V}{B:List Addr}(p:PostB K cn H Z H' Z' t v B):Mo H Z H' Z':=⟨p.same,p.zz,p.zn,p.zi⟩
theorem PostT.mo{H':Hp}{Z':Addr->Prop}(p:PostT H Z H' Z'):Mo H Z H' Z':=⟨p.same,p.zz,p.zn,p.zi⟩
theorem Mo.postT{H':Hp}{Z':Addr->Prop}(p:Mo H Z H' Z'):PostT H Z H' Z':=⟨p.same,p.zz,p.zn,p.zi⟩
theorem Slot.mo{H':Hp}{Z':Addr->Prop}{o:Option T}{w:Option V}{A:List Addr}(h:Slot K cn H Z o w A)(s:Same H H')(hz:∀a,Z a->Z' a):Slot K cn H' Z' o w A:=by
 cases o with
 |none=>exact h
 |some t=>obtain⟨v,e,r⟩:=h;exact⟨v,e,r.same s hz⟩
theorem Slots.mo{H':Hp}{Z':Addr->Prop}(s:Same H H')(hz:∀a,Z a->Z' a):∀{ρ:Fr}{σ:St}{As:List (List Addr)},Slots K cn H Z ρ σ As->Slots K cn H' Z' ρ σ As
 |[],_,_,h=>h
 |o::ρ,_,_,h=>by
  obtain⟨w,σ',A,As',rfl,rfl,h1,h2⟩:=h
  exact⟨w,σ',A,As',rfl,rfl,h1.mo s hz,Slots.mo s hz h2⟩
theorem Slots.dom:∀{ρ:Fr}{σ:St}{As:List (List Addr)},Slots K cn H Z ρ σ As->∀a∈As.flatten,∃o,H a=some o/\nO o=false
 |[],_,_,h,a,ha=>by obtain⟨rfl,rfl⟩:=h;simp at ha
 |o::ρ,_,_,h,a,ha=>by
  obtain⟨w,σ',A,As',rfl,rfl,h1,h2⟩:=h
  rw[List.flatten_cons,List.mem_append]at ha
  rcases ha with ha|ha
  . cases o with
    |none=>have:A=[]:=h1;subst this;cases ha
    |some t=>obtain⟨v,e,r⟩:=h1;exact r.dom t a ha
  . exact Slots.dom h2 a ha
theorem Frm.mo{H':Hp}{Z':Addr->Prop}(F:Frm Jn K cn H Z ρ σ As)(m:Mo H Z H' Z'):Frm Jn K cn H' Z' ρ σ As:=by
 refine⟨F.sl.mo m.same m.zz,F.nd,λa ha z=>?_,m.zi,F.pn⟩
 rcases m.zn a z with q|q
 . exact F.nz a ha q
 . obtain⟨o,e,_⟩:=F.sl.dom a ha
   rw[e]at q
   cases q
theorem WpE.mo{H':Hp}{Z':Addr->Prop}{mv:List Nat}{Q:VK}{r:Res T}(F:Frm Jn K cn H Z ρ σ As)(h:WpE K cn E As H Z mv Q r)(m:Mo H Z H' Z'):WpE K cn E As H' Z' mv Q r:=by
 cases r with
 |ok t=>exact λv H2 Z2 B p=>h v H2 Z2 B ⟨m.same.trans p.same,λa q=>p.zz a (m.zz a q),(m.trans p.mo).zn,p.zi,p.rep,p.nd,p.bz,λb hb=>(p.bn b hb).imp_left m.same.free⟩
 |ex x=>exact WpX.ev h m.ev
 |no=>exact h
theorem WpT.mo{H':Hp}{Z':Addr->Prop}{Q:Bool->Hp->Prop}{r:Res Bool}(h:WpT K cn E As H Z Q r)(m:Mo H Z H' Z'):WpT K cn E As H' Z' Q r:=by
 cases r with
 |ok b=>exact λH2 Z2 p=>h H2 Z2 (m.trans p.mo).postT
 |ex x=>exact WpX.ev h m.ev
 |no=>exact h
theorem Slots.get:∀{ρ:Fr}{σ:St}{As:List (List Addr)}{i:Nat}{t:T},Slots K cn H Z ρ σ As->ρ[i]?=some (some t)->∃v,σ[i]?=some (some v)/\Rep K cn H Z t v (As.getD i [])
 |[],_,_,_,_,h,e=>by simp at e
 |o::ρ,_,_,0,t,h,e=>by
  obtain⟨w,σ',A,As',rfl,rfl,h1,h2⟩:=h
  simp at e
  subst e
  obtain⟨v,rfl,r⟩:=h1
  exact⟨v,rfl,r⟩
 |o::ρ,_,_,i+1,t,h,e=>by
  obtain⟨w,σ',A,As',rfl,rfl,h1,h2⟩:=h
  obtain⟨v,e1,e2⟩:=Slots.get (i:=i) h2 (by simpa using e)
  exact⟨v,by simpa using e1,by simpa using e2⟩
theorem Slots.set{t:T}{v:V}{B:List Addr}(r:Rep K cn H Z t v B):∀{ρ:Fr}{σ:St}{As:List (List Addr)}(i:Nat),Slots K cn H Z ρ σ As->Slots K cn H Z (ρ.set i (some t)) (σ.set i (some v)) (As.set i B)
 |[],_,_,_,h=>by obtain⟨rfl,rfl⟩:=h;exact⟨rfl,rfl⟩
 |o::ρ,_,_,0,h=>by
  obtain⟨w,σ',A,As',rfl,rfl,h1,h2⟩:=h
  exact⟨some v,σ',B,As',rfl,rfl,⟨v,rfl,r⟩,h2⟩
 |o::ρ,_,_,i+1,h=>by
  obtain⟨w,σ',A,As',rfl,rfl,h1,h2⟩:=h
  exact⟨w,σ'.set i (some v),A,As'.set i B,rfl,rfl,h1,Slots.set r i h2⟩
theorem Slots.kill:∀{ρ:Fr}{σ:St}{As:List (List Addr)}(i:Nat),Slots K cn H Z ρ σ As->Slots K cn H Z (ρ.set i none) σ (As.set i [])
 |[],_,_,_,h=>by obtain⟨rfl,rfl⟩:=h;exact⟨rfl,rfl⟩
 |o::ρ,_,_,0,h=>by
  obtain⟨w,σ',A,As',rfl,rfl,h1,h2⟩:=h
  exact⟨w,σ',[],As',rfl,rfl,rfl,h2⟩
 |o::ρ,_,_,i+1,h=>by
  obtain⟨w,σ',A,As',rfl,rfl,h1,h2⟩:=h
  exact⟨w,σ',A,As'.set i [],rfl,rfl,h1,Slots.kill i h2⟩
theorem Slots.kill2(o:Option V):∀{ρ:Fr}{σ:St}{As:List (List Addr)}(i:Nat),Slots K cn H Z ρ σ As->Slots K cn H Z (ρ.set i none) (σ.set i o) (As.set i [])
 |[],_,_,_,h=>by obtain⟨rfl,rfl⟩:=h;exact⟨rfl,rfl⟩
 |o::ρ,_,_,0,h=>by
  obtain⟨w,σ',A,As',rfl,rfl,h1,h2⟩:=h
  exact⟨_,σ',[],As',rfl,rfl,rfl,h2⟩
 |o::ρ,_,_,i+1,h=>by
  obtain⟨w,σ',A,As',rfl,rfl,h1,h2⟩:=h
  exact⟨w,_,A,As'.set i [],rfl,rfl,h1,Slots.kill2 _ i h2⟩
theorem dO{B:List Addr}{a:Addr}:∀{As:List (List Addr)}{i:Nat},a∈(As.set i B).flatten->a∈B\/a∈As.flatten
 |[],_,h=>by simp at h
 |A::As,0,h=>by
  rw[List.set_cons_zero,List.flatten_cons,List.mem_append]at h
  rw[List.flatten_cons,List.mem_append]
  exact h.imp_right .inr
 |A::As,i+1,h=>by
  rw[List.set_cons_succ,List.flatten_cons,List.mem_append]at h
  rw[List.flatten_cons,List.mem_append]
  rcases h with h|h
  . exact .inr (.inl h)
  . exact(dO h).imp_right .inr
theorem kQ{B:List Addr}(hB:B.Nodup):∀{As:List (List Addr)}{i:Nat},As.flatten.Nodup->(∀b∈B,b∈As.flatten->b∈As.getD i [])->(As.set i B).flatten.Nodup
 |[],_,h,_=>h
 |A::As,0,h,d=>by
  rw[List.flatten_cons,List.nodup_append]at h
  rw[List.set_cons_zero,List.flatten_cons,List.nodup_append]
  refine⟨hB,h.2.1,λb hb c hc e=>?_⟩
  subst e
  have q:=d b hb (by rw[List.flatten_cons,List.mem_append];exact .inr hc)
  exact h.2.2 b (by simpa using q) b hc rfl
 |A::As,i+1,h,d=>by
  rw[List.flatten_cons,List.nodup_append]at h
  rw[List.set_cons_succ,List.flatten_cons,List.nodup_append]
  have d':∀b∈B,b∈As.flatten->b∈As.getD i []:=λb hb hc=>by
   have q:=d b hb (by rw[List.flatten_cons,List.mem_append];exact .inr hc)
   simpa using q
  refine⟨h.1,kQ hB h.2.1 d',λa ha c hc e=>?_⟩
  subst e
  rcases dO hc with q|q
  . have z:=d a q (by rw[List.flatten_cons,List.mem_append];exact .inl ha)
    have z':a∈As.getD i []:=by simpa using z
    have z2:a∈As.flatten:=by
     rw[List.getD_eq_getElem?_getD]at z'
     cases e:As[i]? with
     |none=>rw[e]at z';cases z'
     |some C=>rw[e]at z';exact List.mem_flatten.mpr ⟨C,List.mem_of_getElem? e,z'⟩
    exact h.2.2 a ha a z2 rfl
  . exact h.2.2 a ha a q rfl
theorem aV{a:Addr}{i:Nat}(h:a∈As.getD i []):a∈As.flatten:=by
 rw[List.getD_eq_getElem?_getD]at h
 cases e:As[i]? with
 |none=>rw[e]at h;cases h
 |some C=>rw[e]at h;exact List.mem_flatten.mpr ⟨C,List.mem_of_getElem? e,h⟩
def kW(Jn:fM)(i:Nat):Bool:=Jn.all λp=>!(p.1==i)
theorem vV{σ:St}{Jn:fM}{i:Nat}(h:kW Jn i=true)(o:Option V)(q:∀p∈Jn,σ[p.1]?=some (some p.2)):∀p∈Jn,(σ.set i o)[p.1]?=some (some p.2):=λp hp=>by
 unfold kW at h
 rw[List.all_eq_true]at h
 have:=h p hp
 rw[List.getElem?_set_ne (by intro z;simp[z]at this)]
 exact q p hp
theorem Frm.set{t:T}{v:V}{B:List Addr}(F:Frm Jn K cn H Z ρ σ As)(r:Rep K cn H Z t v B)(nd:B.Nodup)(bz:∀b∈B,¬Z b)(i:Nat)(fr:∀b∈B,b∈As.flatten->b∈As.getD i [])(hJ:kW Jn i=true):Frm Jn K cn H Z (ρ.set i (some t)) (σ.set i (some v)) (As.set i B):=
 ⟨F.sl.set r i,kQ nd F.nd fr,λa ha=>(dO ha).elim (bz a) (F.nz a),F.zi,vV hJ _ F.pn⟩
theorem Frm.kill(F:Frm Jn K cn H Z ρ σ As)(i:Nat):Frm Jn K cn H Z (ρ.set i none) σ (As.set i []):=
 ⟨F.sl.kill i,kQ List.nodup_nil F.nd (λb hb=>by cases hb),λa ha=>(dO ha).elim (λq=>by cases q) (F.nz a),F.zi,F.pn⟩
def kills:List Nat->Fr->Fr
 |[],ρ=>ρ
 |i::is,ρ=>kills is (ρ.set i none)
def eJ:List Nat->List (List Addr)->List (List Addr)
 |[],As=>As
 |i::is,As=>eJ is (As.set i [])
theorem Frm.kills(mv:List Nat):∀{ρ:Fr}{As:List (List Addr)},Frm Jn K cn H Z ρ σ As->Frm Jn K cn H Z (TL.kills mv ρ) σ (eJ mv As):=by
 induction mv with
 |nil=>exact λF=>F
 |cons i is ih=>exact λF=>ih (F.kill i)
theorem dZ{mv:List Nat}{a:Addr}:∀{As:List (List Addr)},a∈(eJ mv As).flatten->a∈As.flatten:=by
 induction mv with
 |nil=>exact λh=>h
 |cons i is ih=>exact λh=>(dO (ih h)).elim (λq=>by cases q) id
theorem pH{mv:List Nat}{i:Nat}{a:Addr}:∀{As:List (List Addr)},As.flatten.Nodup->i∈mv->a∈As.getD i []->a∉(eJ mv As).flatten:=by
 induction mv with
 |nil=>exact λ_ h=>by cases h
 |cons j js ih=>
  intro As nd hi ha hm
  by_cases e:i=j
  . subst e
    have h1:=dZ (mv:=js) (As:=As.set i []) hm
    have:∀{As:List (List Addr)}{i:Nat},As.flatten.Nodup->a∈As.getD i []->a∉(As.set i []).flatten:=by
     intro As
     induction As with
     |nil=>intro i _ h;simp at h
     |cons A As ih2=>
      intro i nd h hm
      rw[List.flatten_cons,List.nodup_append]at nd
      cases i with
      |zero=>
       rw[List.set_cons_zero,List.flatten_cons,List.nil_append]at hm
       exact nd.2.2 a (by simpa using h) a hm rfl
      |succ i=>
       rw[List.set_cons_succ,List.flatten_cons,List.mem_append]at hm
       have h':a∈As.getD i []:=by simpa using h
       rcases hm with hm|hm
       . exact nd.2.2 a hm a (aV h') rfl
       . exact ih2 nd.2.1 h' hm
    exact this nd ha h1
  . have hi':i∈js:=(List.mem_cons.mp hi).resolve_left e
    refine ih (As:=As.set j []) (kQ List.nodup_nil nd (λb hb=>by cases hb)) hi' ?_ hm
    rw[List.getD_eq_getElem?_getD,List.getElem?_set_ne (Ne.symm e),<-List.getD_eq_getElem?_getD]
    exact ha
def af0(i:Nat)(ρ:Fr):Fr:=match ρ[i]? with
 |some (some t)=>ρ.set i (some (frz t))
 |_=>ρ
theorem Frm.frz(F:Frm Jn K cn H Z ρ σ As)(i:Nat):∃Z' As',Frm Jn K cn H Z' (af0 i ρ) σ As'/\Ev As H Z As' H Z':=by
 unfold af0
 cases e:ρ[i]? with
 |none=>exact⟨Z,As,F,Ev.refl⟩
 |some o=>
  cases o with
  |none=>exact⟨Z,As,F,Ev.refl⟩
  |some t=>
   obtain⟨v,es,r⟩:=F.sl.get e
   let Z':Addr->Prop:=λa=>Z a\/a∈As.getD i []
   have hz:∀a,Z a->Z' a:=λa h=>.inl h
   have r':Rep K cn H Z' (TL.frz t) v []:=Rep.frz t r hz λa ha=>.inr ha
   have sl:Slots K cn H Z' (ρ.set i (some (TL.frz t))) (σ.set i (some v)) (As.set i []):=(F.sl.mo (Same.refl _) hz).set r' i
   have es2:σ.set i (some v)=σ:=by
    apply List.ext_getElem?
    intro j
    by_cases ej:i=j
    . subst ej
      rw[List.getElem?_set_self',es]
      rfl
    . rw[List.getElem?_set_ne ej]
   rw[es2]at sl
   refine⟨Z',As.set i [],⟨sl,kQ List.nodup_nil F.nd (λb hb=>by cases hb),λa ha z=>?_,λa z=>?_,F.pn⟩,⟨λ_ _ h _=>h,λa ha=>?_,hz,λa z=>?_,λ_ h=>h⟩⟩
   . rcases z with z|z
     . exact(dO ha).elim (λq=>by cases q) (λq=>F.nz a q z)
     . exact pH (mv:=[i]) F.nd List.mem_cons_self z ha
   . rcases z with z|z
     . exact F.zi a z
     . obtain⟨o,q,_⟩:=F.sl.dom a (aV z)
       rw[q]
       exact λh=>by cases h
   . exact .inl ((dO ha).elim (λq=>by cases q) id)
   . rcases z with z|z
     . exact .inl z
     . exact .inr (.inl (aV z))
end
end TL
namespace TL
open PySem PySem.Spec PyProof.Rows L2
section
variable {Jn : fM} {K : PySem.W.Frag} {cn : Str → Option Addr} {E : XK}
theorem WpB.wpE{As:List (List Addr)}{H:Hp}{Z:Addr->Prop}{Q:VK}{r:Res T}{mv:List Nat}(w:WpB K cn E As H Z Q r):WpE K cn E As H Z mv Q r:=by
 cases r with
 |ok t=>exact λv H' Z' B p=>w v H' Z' B ⟨p.same,p.zz,p.zn,p.zi,p.rep⟩
 |ex x=>exact w
 |no=>exact w
theorem RE.rb{mv:List Nat}{te:TE}{d:Fr->Res T}(h:RE Jn K cn E mv te d):RB Jn K cn E te d:=λAs H Z ρ σ F Q w=>h As H Z ρ σ F Q w.wpE
def aF(i:Nat):Fr->Res T:=λρ=>match ρ[i]? with
 |some (some t)=>.ok t
 |_=>.no
theorem aD(i:Nat):RB Jn K cn E (oF i) (aF i):=λAs H Z ρ σ F Q w=>by
 unfold aF at w
 cases e:ρ[i]? with
 |none=>rw[e]at w;exact False.elim w
 |some o=>
  rw[e]at w
  cases o with
  |none=>exact False.elim w
  |some t=>
   obtain⟨v,es,r⟩:=F.sl.get e
   exact⟨v,es,w v H Z _ ⟨Same.refl _,λ_ h=>h,λ_ h=>.inl h,F.zi,r⟩⟩
theorem yD(i:Nat):RE Jn K cn E [i] (oF i) (aF i):=λAs H Z ρ σ F Q w=>by
 unfold aF at w
 cases e:ρ[i]? with
 |none=>rw[e]at w;exact False.elim w
 |some o=>
  rw[e]at w
  cases o with
  |none=>exact False.elim w
  |some t=>
   obtain⟨v,es,r⟩:=F.sl.get e
   refine⟨v,es,w v H Z _ ⟨Same.refl _,λ_ h=>h,λ_ h=>.inl h,F.zi,r,?_,λb hb=>F.nz b (aV hb),λb hb=>.inr ⟨i,List.mem_cons_self,hb⟩⟩⟩
   have nd:=F.nd
   rw[List.getD_eq_getElem?_getD]
   cases q:As[i]? with
   |none=>exact List.nodup_nil
   |some C=>exact List.Nodup.sublist (List.sublist_flatten_of_mem (List.mem_of_getElem? q)) nd
def dJ(d:Fr->Res T):Fr->Res T:=λρ=>(d ρ).bind λt=>if dG t=true then .ok t else .no
theorem RB.chk{te:TE}{d:Fr->Res T}(h:RB Jn K cn E te d):RE Jn K cn E [] te (dJ d):=λAs H Z ρ σ F Q w=>h As H Z ρ σ F Q (by
 unfold dJ at w
 cases e:d ρ with
 |ok t=>
  rw[e]at w
  intro v H' Z' B p
  by_cases c:dG t=true
  . simp only[Res.bind,if_pos c]at w
    have:=p.rep.bare t c
    subst this
    exact w v H' Z' [] ⟨p.same,p.zz,p.zn,p.zi,p.rep,List.nodup_nil,cU,cU⟩
  . simp only[Res.bind,if_neg c]at w
    exact False.elim w
 |ex x=>rw[e]at w;exact w
 |no=>rw[e]at w;exact w)
def pW(d:Fr->Res T):Fr->Res T:=λρ=>(d ρ).bind λt=>.ok (frz t)
theorem RE.frz{te:TE}{d:Fr->Res T}(h:RE Jn K cn E [] te d):RE Jn K cn E [] te (pW d):=λAs H Z ρ σ F Q w=>h As H Z ρ σ F Q (by
 unfold pW at w
 cases e:d ρ with
 |ok t=>
  rw[e]at w
  intro v H' Z' B p
  refine w v H' (λa=>Z' a\/a∈B) [] ⟨p.same,λa h=>.inl (p.zz a h),λa h=>?_,λa h=>?_,Rep.frz t p.rep (λa h=>.inl h) (λa h=>.inr h),List.nodup_nil,cU,cU⟩
  . rcases h with h|h
    . exact p.zn a h
    . rcases p.bn a h with q|⟨i,q,_⟩
      . exact .inr q
      . cases q
  . rcases h with h|h
    . exact p.zi a h
    . obtain⟨o,q,_⟩:=p.rep.dom t a h
      rw[q]
      exact(λz=>nomatch z)
 |ex x=>rw[e]at w;exact w
 |no=>rw[e]at w;exact w)
def dC(t:T):Fr->Res T:=λ_=>.ok t
theorem am4{t:T}{v:V}(h:∀H Z,Rep K cn H Z t v []):RE Jn K cn E [] (tC v) (dC t):=λAs H Z ρ σ F Q w=>
 w v H Z [] ⟨Same.refl _,λ_ h=>h,λ_ h=>.inl h,F.zi,h H Z,List.nodup_nil,cU,cU⟩
theorem aG{i:Int}:RE Jn K cn E [] (tC (.int i)) (dC (.int i)):=am4 λH Z=>by simp[Rep]
theorem cC{i:Str}:RE Jn K cn E [] (tC (.str i)) (dC (.str i)):=am4 λH Z=>by simp[Rep]
theorem mS{i:Bool}:RE Jn K cn E [] (tC (.bl i)) (dC (.bl i)):=am4 λH Z=>by simp[Rep]
theorem xJ:RE Jn K cn E [] (tC .non) (dC .non):=am4 λH Z=>by simp[Rep]
theorem as8{n:String}:RE Jn K cn E [] (tC (.ty n)) (dC (.ty n)):=am4 λH Z=>by simp[Rep]
def mP(K:PySem.W.Frag)(cn:Str->Option Addr)(r:R2)(f:T->T->Res T):Prop:=
 ∀(E:XK)(As:List (List Addr))(H:Hp)(Z:Addr->Prop)(t u:T)(x y:V)(A B:List Addr)(Q:VK),(∀a,Z a->H a≠none)->Rep K cn H Z t x A->Rep K cn H Z u y B->WpE K cn E As H Z [] Q (f t u)->r x y H Q
def aJ(f:T->T->Res T)(a b:Fr->Res T):Fr->Res T:=λρ=>(a ρ).bind λx=>(b ρ).bind λy=>f x y
theorem aL{r:R2}{f:T->T->Res T}{ta tb:TE}{a b:Fr->Res T}(hr:mP K cn r f)(ha:RB Jn K cn E ta a)(hb:RB Jn K cn E tb b):RE Jn K cn E [] (tOp r ta tb) (aJ f a b):=λAs H Z ρ σ F Q w=>by
 unfold aJ at w
 refine ha As H Z ρ σ F _ ?_
 cases e:a ρ with
 |ok t=>
  rw[e]at w
  intro v H1 Z1 B p
  refine hb As H1 Z1 ρ σ (F.mo p.mo) _ ?_
  simp only[Res.bind]at w
  cases e2:b ρ with
  |ok u=>
   rw[e2]at w
   intro v2 H2 Z2 B2 p2
   exact hr E As H2 Z2 t u v v2 B B2 Q p2.zi (p.rep.same p2.same p2.zz) p2.rep (w.mo F (p.mo.trans p2.mo))
  |ex x=>rw[e2]at w;exact WpX.ev w p.mo.ev
  |no=>rw[e2]at w;exact w
 |ex x=>rw[e]at w;exact w
 |no=>rw[e]at w;exact w
def eX(f:T->Res T)(a:Fr->Res T):Fr->Res T:=λρ=>(a ρ).bind f
def R1R(K:PySem.W.Frag)(cn:Str->Option Addr)(r:V->Hp->VK->Prop)(f:T->Res T):Prop:=
 ∀(E:XK)(As:List (List Addr))(H:Hp)(Z:Addr->Prop)(t:T)(x:V)(A:List Addr)(Q:VK),(∀a,Z a->H a≠none)->Rep K cn H Z t x A->WpE K cn E As H Z [] Q (f t)->r x H Q
theorem qM{r:V->Hp->VK->Prop}{f:T->Res T}{ta:TE}{a:Fr->Res T}(hr:R1R K cn r f)(ha:RB Jn K cn E ta a):RE Jn K cn E [] (tUn r ta) (eX f a):=λAs H Z ρ σ F Q w=>by
 unfold eX at w
 refine ha As H Z ρ σ F _ ?_
 cases e:a ρ with
 |ok t=>
  rw[e]at w
  exact λv H1 Z1 B p=>hr E As H1 Z1 t v B Q p.zi p.rep (WpE.mo F w p.mo)
 |ex x=>rw[e]at w;exact w
 |no=>rw[e]at w;exact w
def pI(f g:T->T->Res T)(a b c:Fr->Res T):Fr->Res T:=λρ=>(a ρ).bind λx=>(b ρ).bind λy=>(f x y).bind λk=>match k with
 |.bl true=>(c ρ).bind λz=>g y z
 |.bl false=>.ok (.bl false)
 |_=>.no
theorem WpE.bl{As:List (List Addr)}{H:Hp}{Z:Addr->Prop}{b:Bool}{Q:VK}(w:WpE K cn E As H Z [] Q (.ok (.bl b)))(zi:∀a,Z a->H a≠none):Q (.bl b) H:=
 w (.bl b) H Z [] ⟨Same.refl _,λ_ h=>h,λ_ h=>.inl h,zi,by simp[Rep],List.nodup_nil,cU,cU⟩
theorem rP{r r':R2}{f g:T->T->Res T}{ta tb tc:TE}{a b c:Fr->Res T}(hr:mP K cn r f)(hr':mP K cn r' g)(ha:RB Jn K cn E ta a)(hb:RB Jn K cn E tb b)(hc:RB Jn K cn E tc c):RE Jn K cn E [] (ae4 r r' ta tb tc) (pI f g a b c):=λAs H Z ρ σ F Q w=>by
 unfold pI at w
 refine ha As H Z ρ σ F _ ?_
 cases e:a ρ with
 |ok t=>
  rw[e]at w
  intro v H1 Z1 B p
  refine hb As H1 Z1 ρ σ (F.mo p.mo) _ ?_
  simp only[Res.bind]at w
  cases e2:b ρ with
  |ok u=>
   rw[e2]at w
   intro v2 H2 Z2 B2 p2
   refine hr E As H2 Z2 t u v v2 B B2 _ p2.zi (p.rep.same p2.same p2.zz) p2.rep ?_
   simp only at w
   cases e3:f t u with
   |ok k=>
    rw[e3]at w
    intro v3 H3 Z3 B3 p3
    have m3:=(p.mo.trans p2.mo).trans p3.mo
    cases k with
    |bl k=>
     have q:=p3.rep
     simp only[Rep]at q
     obtain⟨rfl,rfl⟩:=q
     refine⟨k,rfl,?_⟩
     cases k with
     |true=>
      rw[if_pos rfl]
      refine hc As H3 Z3 ρ σ (F.mo m3) _ ?_
      simp only at w
      cases e4:c ρ with
      |ok z=>
       rw[e4]at w
       intro v4 H4 Z4 B4 p4
       exact hr' E As H4 Z4 u z v2 v4 B2 B4 Q p4.zi (p2.rep.same (p3.same.trans p4.same) (λa h=>p4.zz a (p3.zz a h))) p4.rep (WpE.mo F w (m3.trans p4.mo))
      |ex x=>rw[e4]at w;exact WpX.ev w m3.ev
      |no=>rw[e4]at w;exact w
     |false=>
      rw[if_neg (by decide)]
      exact WpE.bl (WpE.mo F w m3) p3.zi
    |_=>exact False.elim w
   |ex x=>rw[e3]at w;exact WpX.ev w (p.mo.trans p2.mo).ev
   |no=>rw[e3]at w;exact w
  |ex x=>rw[e2]at w;exact WpX.ev w p.mo.ev
  |no=>rw[e2]at w;exact w
 |ex x=>rw[e]at w;exact w
 |no=>rw[e]at w;exact w
def pA(a b:Fr->Res T):Fr->Res T:=λρ=>(a ρ).bind λx=>match x with
 |.bl true=>b ρ
 |.bl false=>.ok (.bl false)
 |_=>.no
def cd9(a b:Fr->Res T):Fr->Res T:=λρ=>(a ρ).bind λx=>match x with
 |.bl true=>.ok (.bl true)
 |.bl false=>b ρ
 |_=>.no
def ar3(a:Fr->Res T):Fr->Res T:=λρ=>(a ρ).bind λx=>match x with
 |.bl b=>.ok (.bl (!b))
 |_=>.no
theorem oH{ta tb:TE}{a b:Fr->Res T}(ha:RB Jn K cn E ta a)(hb:RE Jn K cn E [] tb b):RE Jn K cn E [] (bx6 ta tb) (pA a b):=λAs H Z ρ σ F Q w=>by
 unfold pA at w
 refine ha As H Z ρ σ F _ ?_
 cases e:a ρ with
 |ok t=>
  rw[e]at w
  intro v H1 Z1 B p
  cases t with
  |bl k=>
   have q:=p.rep
   simp only[Rep]at q
   obtain⟨rfl,rfl⟩:=q
   refine⟨k,rfl,?_⟩
   cases k with
   |true=>rw[if_pos rfl];exact hb As H1 Z1 ρ σ (F.mo p.mo) Q (WpE.mo F w p.mo)
   |false=>rw[if_neg (by decide)];exact WpE.bl (WpE.mo F w p.mo) p.zi
  |_=>exact False.elim w
 |ex x=>rw[e]at w;exact w
 |no=>rw[e]at w;exact w
theorem bh9{ta:TE}{a:Fr->Res T}(ha:RB Jn K cn E ta a):RE Jn K cn E [] (bs6 ta) (ar3 a):=λAs H Z ρ σ F Q w=>by
 unfold ar3 at w
 refine ha As H Z ρ σ F _ ?_
 cases e:a ρ with
 |ok t=>
  rw[e]at w
  intro v H1 Z1 B p
  cases t with
  |bl k=>
   have q:=p.rep
   simp only[Rep]at q
   obtain⟨rfl,rfl⟩:=q
   exact⟨k,rfl,WpE.bl (WpE.mo F w p.mo) p.zi⟩
  |_=>exact False.elim w
 |ex x=>rw[e]at w;exact w
 |no=>rw[e]at w;exact w
def dIf(c:Fr->Res Bool)(a b:Fr->Res T):Fr->Res T:=λρ=>(c ρ).bind λk=>if k=true then a ρ else b ρ
def toB:T->Res Bool
 |.bl b=>.ok b
 |_=>.no
def dN(a:Fr->Res T):Fr->Res Bool:=λρ=>(a ρ).bind toB
theorem cW{ta:TE}{a:Fr->Res T}(ha:RB Jn K cn E ta a):RT Jn K cn E (ap8 ta) (dN a):=λAs H Z ρ σ F Q w=>by
 unfold dN at w
 refine ha As H Z ρ σ F _ ?_
 cases e:a ρ with
 |ok t=>
  rw[e]at w
  intro v H1 Z1 B p
  cases t with
  |bl k=>
   have q:=p.rep
   simp only[Rep]at q
   obtain⟨rfl,rfl⟩:=q
   exact⟨k,rfl,w H1 Z1 p.mo.postT⟩
  |_=>exact False.elim w
 |ex x=>rw[e]at w;exact w
 |no=>rw[e]at w;exact w
def sQ:T->Res Bool
 |.non=>.ok false
 |.bl b=>.ok b
 |.int i=>.ok (i !=0)
 |.str x=>if x.length<=sizeLine then .ok ((x.length:Int) !=0)else .no
 |.lst _ xs=>.ok (!xs.isEmpty)
 |.tup xs=>.ok (!xs.isEmpty)
 |_=>.no
def mW(a:Fr->Res T):Fr->Res Bool:=λρ=>(a ρ).bind sQ
theorem Reps.isEmpty{H:Hp}{Z:Addr->Prop}{ts:List T}{vs:List V}{A:List Addr}(r:Reps K cn H Z ts vs A):vs.isEmpty=ts.isEmpty:=by
 have h:=Reps.length ts r
 cases ts<;>cases vs<;>simp_all
theorem ci0{H:Hp}{Z:Addr->Prop}{t:T}{v:V}{B:List Addr}{k:Bool}(r:Rep K cn H Z t v B)(h:sQ t=.ok k):ai4 K v H k:=by
 cases t with
 |non=>simp only[Rep]at r;obtain⟨rfl,_⟩:=r;cases h;rfl
 |bl b=>simp only[Rep]at r;obtain⟨rfl,_⟩:=r;cases h;rfl
 |int b=>simp only[Rep]at r;obtain⟨rfl,_⟩:=r;cases h;rfl
 |str b=>
  simp only[Rep]at r
  obtain⟨rfl,_⟩:=r
  simp only[sQ]at h
  split at h
  . cases h;exact⟨by assumption,rfl⟩
  . cases h
 |lst o xs=>
  cases h
  cases o with
  |true=>
   simp only[Rep]at r
   obtain⟨a,vs,B,rfl,rfl,e,r⟩:=r
   exact .inl ⟨vs,SqL.of e,by rw[r.isEmpty]⟩
  |false=>
   simp only[Rep]at r
   obtain⟨a,vs,rfl,rfl,e,r⟩:=r
   exact .inl ⟨vs,e.sq,by rw[r.isEmpty]⟩
 |tup xs=>
  cases h
  simp only[Rep]at r
  obtain⟨a,vs,rfl,e,r⟩:=r
  exact .inr (.inl ⟨vs,e,by rw[r.isEmpty]⟩)
 |ty _=>cases h
 |err _ _=>cases h
 |ins _ _ _ _=>cases h
theorem bf3{t:T}{x:Exc}(h:sQ t=.ex x):False:=by
 cases t<;>simp only[sQ]at h<;>first|cases h|(split at h<;>cases h)
theorem kN{ta:TE}{a:Fr->Res T}(ha:RB Jn K cn E ta a):RT Jn K cn E (λσ H Q=>ta σ H λx H'=>∃k,ai4 K x H' k/\Q k H') (mW a):=λAs H Z ρ σ F Q w=>by
 unfold mW at w
 refine ha As H Z ρ σ F _ ?_
 cases e:a ρ with
 |ok t=>
  rw[e]at w
  intro v H1 Z1 B p
  simp only[Res.bind]at w
  cases e2:sQ t with
  |ok k=>rw[e2]at w;exact⟨k,ci0 p.rep e2,w H1 Z1 p.mo.postT⟩
  |ex x=>exact(bf3 e2).elim
  |no=>rw[e2]at w;exact w.elim
 |ex x=>rw[e]at w;exact w
 |no=>rw[e]at w;exact w
def lD(c:Fr->Res Bool):Fr->Res Bool:=λρ=>(c ρ).bind λk=>.ok (!k)
def cb8(c d:Fr->Res Bool):Fr->Res Bool:=λρ=>(c ρ).bind λk=>if k=true then d ρ else .ok false
def yK(c d:Fr->Res Bool):Fr->Res Bool:=λρ=>(c ρ).bind λk=>if k=true then .ok true else d ρ
theorem jA{tt:TT}{c:Fr->Res Bool}(hc:RT Jn K cn E tt c):RT Jn K cn E (cr1 tt) (lD c):=λAs H Z ρ σ F Q w=>by
 unfold lD at w
 refine hc As H Z ρ σ F _ ?_
 cases e:c ρ with
 |ok k=>rw[e]at w;exact λH1 Z1 p=>w H1 Z1 p
 |ex x=>rw[e]at w;exact w
 |no=>rw[e]at w;exact w
theorem uH{tt uu:TT}{c d:Fr->Res Bool}(hc:RT Jn K cn E tt c)(hd:RT Jn K cn E uu d):RT Jn K cn E (tOr tt uu) (yK c d):=λAs H Z ρ σ F Q w=>by
 unfold yK at w
 refine hc As H Z ρ σ F _ ?_
 cases e:c ρ with
 |ok k=>
  rw[e]at w
  intro H1 Z1 p
  cases k with
  |false=>rw[if_neg (by decide)];exact hd As H1 Z1 ρ σ (F.mo p.mo) Q (WpT.mo w p.mo)
  |true=>rw[if_pos rfl];exact w H1 Z1 p
 |ex x=>rw[e]at w;exact w
 |no=>rw[e]at w;exact w
end
end TL
namespace TL
open PySem PySem.Spec PyProof.Rows L2
section
variable {Jn : fM} {K : PySem.W.Frag} {cn : Str → Option Addr} {E : XK}
structure ce7 (K:PySem.W.Frag) (cn:Str->Option Addr) (As:List (List Addr)) (H:Hp) (Z:Addr->Prop) (mv:List Nat) (H':Hp) (Z':Addr->Prop) (ts:List T) (vs:List V) (B:List Addr):Prop where
 mo:Mo H Z H' Z'
 rep:Reps K cn H' Z' ts vs B
 nd:B.Nodup
 bz:∀b∈B,¬Z' b
 bn:∀b∈B,H b=none\/∃i∈mv,b∈As.getD i []
def WpA(K:PySem.W.Frag)(cn:Str->Option Addr)(E:XK)(As:List (List Addr))(H:Hp)(Z:Addr->Prop)(mv:List Nat)(Q:List V->Hp->Prop):Res (List T)->Prop
 |.ok ts=>∀vs H' Z' B,ce7 K cn As H Z mv H' Z' ts vs B->Q vs H'
 |.ex x=>WpX K cn E As H Z x
 |.no=>False
def cu7(K:PySem.W.Frag)(cn:Str->Option Addr)(E:XK)(As:List (List Addr))(H:Hp)(Z:Addr->Prop)(Q:List V->Hp->Prop):Res (List T)->Prop
 |.ok ts=>∀vs H' Z' B,Mo H Z H' Z'->Reps K cn H' Z' ts vs B->Q vs H'
 |.ex x=>WpX K cn E As H Z x
 |.no=>False
def RA(Jn:fM)(K:PySem.W.Frag)(cn:Str->Option Addr)(E:XK)(mv:List Nat)(ta:TA)(d:Fr->Res (List T)):Prop:=∀As H Z ρ σ,Frm Jn K cn H Z ρ σ As->∀Q,WpA K cn E As H Z mv Q (d ρ)->ta σ H Q
def tO(Jn:fM)(K:PySem.W.Frag)(cn:Str->Option Addr)(E:XK)(ta:TA)(d:Fr->Res (List T)):Prop:=∀As H Z ρ σ,Frm Jn K cn H Z ρ σ As->∀Q,cu7 K cn E As H Z Q (d ρ)->ta σ H Q
def aO:Fr->Res (List T):=λ_=>.ok []
def aE(a:Fr->Res T)(r:Fr->Res (List T)):Fr->Res (List T):=λρ=>(a ρ).bind λt=>(r ρ).bind λts=>.ok (t::ts)
theorem bC:RA Jn K cn E [] pN aO:=λAs H Z ρ σ F Q w=>w [] H Z [] ⟨F.mo0,Reps.nil,List.nodup_nil,cU,cU⟩
theorem aR:tO Jn K cn E pN aO:=λAs H Z ρ σ F Q w=>w [] H Z [] F.mo0 Reps.nil
theorem bu4{As:List (List Addr)}{a:Addr}:∀{i j:Nat},As.flatten.Nodup->a∈As.getD i []->a∈As.getD j []->i=j:=by
 induction As with
 |nil=>intro i j _ h;simp at h
 |cons A As ih=>
  intro i j nd h1 h2
  rw[List.flatten_cons,List.nodup_append]at nd
  cases i with
  |zero=>
   cases j with
   |zero=>rfl
   |succ j=>exact absurd rfl (nd.2.2 a (by simpa using h1) a (aV (by simpa using h2)))
  |succ i=>
   cases j with
   |zero=>exact absurd rfl (nd.2.2 a (by simpa using h2) a (aV (by simpa using h1)))
   |succ j=>exact congrArg (· +1) (ih (i:=i) (j:=j) nd.2.1 (by simpa using h1) (by simpa using h2))
theorem aM{mv mw:List Nat}{te:TE}{tr:TA}{a:Fr->Res T}{r:Fr->Res (List T)}(ha:RE Jn K cn E mv te a)(hr:RA Jn K cn E mw tr r)(hd:(mv.all λi=>!mw.contains i)=true:=by rfl):RA Jn K cn E (mv++mw) (jZ te tr) (aE a r):=λAs H Z ρ σ F Q w=>by
 unfold aE at w
 refine ha As H Z ρ σ F _ ?_
 cases e:a ρ with
 |ok t=>
  rw[e]at w
  intro v H1 Z1 B p
  refine hr As H1 Z1 ρ σ (F.mo p.mo) _ ?_
  simp only[Res.bind]at w
  cases e2:r ρ with
  |ok ts=>
   rw[e2]at w
   intro vs H2 Z2 B2 p2
   refine w (v::vs) H2 Z2 (B++B2) ⟨p.mo.trans p2.mo,?_,?_,?_,?_⟩
   . simp only[Reps]
     exact⟨v,vs,B,B2,rfl,rfl,p.rep.same p2.mo.same p2.mo.zz,p2.rep⟩
   . rw[List.nodup_append]
     refine⟨p.nd,p2.nd,λb hb c hc z=>?_⟩
     subst z
     obtain⟨o,ho,_⟩:=p.rep.dom t b hb
     rcases p2.bn b hc with q|⟨j,hj,q⟩
     . rw[ho]at q;cases q
     . rcases p.bn b hb with z|⟨i,hi,z⟩
       . obtain⟨o',ho',_⟩:=F.sl.dom b (aV q)
         rw[ho']at z;cases z
       . have eij:=bu4 F.nd z q
         subst eij
         have hh:=List.all_eq_true.mp hd i hi
         simp at hh
         exact hh hj
   . intro b hb
     rcases List.mem_append.mp hb with hb|hb
     . intro z
       rcases p2.mo.zn b z with z|z
       . exact p.bz b hb z
       . obtain⟨o,ho,_⟩:=p.rep.dom t b hb
         rw[ho]at z;cases z
     . exact p2.bz b hb
   . intro b hb
     rcases List.mem_append.mp hb with hb|hb
     . exact(p.bn b hb).imp_right λ⟨i,hi,z⟩=>⟨i,List.mem_append_left _ hi,z⟩
     . rcases p2.bn b hb with z|⟨i,hi,z⟩
       . exact .inl (p.same.free z)
       . exact .inr ⟨i,List.mem_append_right _ hi,z⟩
  |ex x=>rw[e2]at w;exact WpX.ev w p.mo.ev
  |no=>rw[e2]at w;exact w
 |ex x=>rw[e]at w;exact w
 |no=>rw[e]at w;exact w
theorem aI{te:TE}{tr:TA}{a:Fr->Res T}{r:Fr->Res (List T)}(ha:RB Jn K cn E te a)(hr:tO Jn K cn E tr r):tO Jn K cn E (jZ te tr) (aE a r):=λAs H Z ρ σ F Q w=>by
 unfold aE at w
 refine ha As H Z ρ σ F _ ?_
 cases e:a ρ with
 |ok t=>
  rw[e]at w
  intro v H1 Z1 B p
  refine hr As H1 Z1 ρ σ (F.mo p.mo) _ ?_
  simp only[Res.bind]at w
  cases e2:r ρ with
  |ok ts=>
   rw[e2]at w
   intro vs H2 Z2 B2 m2 r2
   refine w (v::vs) H2 Z2 (B++B2) (p.mo.trans m2) ?_
   simp only[Reps]
   exact⟨v,vs,B,B2,rfl,rfl,p.rep.same m2.same m2.zz,r2⟩
  |ex x=>rw[e2]at w;exact WpX.ev w p.mo.ev
  |no=>rw[e2]at w;exact w
 |ex x=>rw[e]at w;exact w
 |no=>rw[e]at w;exact w
def cG(r:Fr->Res (List T)):Fr->Res T:=λρ=>(r ρ).bind λts=>if ts.length<=sizeLine then .ok (.lst true ts)else .no
def oC(r:Fr->Res (List T)):Fr->Res T:=λρ=>(r ρ).bind λts=>if ts.length<=sizeLine then .ok (.tup ts)else .no
theorem Mo.new{H:Hp}{Z:Addr->Prop}{p:Addr}(o:HO)(hp:H p=none)(zi:∀a,Z a->H a≠none):Mo H Z (L2.upd H p o) Z:=
 ⟨zE hp o,λ_ h=>h,λ_ h=>.inl h,λa h=>by
  by_cases e:a=p
  . subst e;rw[bZ];exact(λz=>nomatch z)
  . rw[aY e];exact zi a h⟩
theorem bG{mv:List Nat}{ta:TA}{r:Fr->Res (List T)}(h:RA Jn K cn E mv ta r):RE Jn K cn E mv (by4 ta) (cG r):=λAs H Z ρ σ F Q w=>by
 unfold cG at w
 refine h As H Z ρ σ F _ ?_
 cases e:r ρ with
 |ok ts=>
  rw[e]at w
  intro vs H1 Z1 B p
  simp only[Res.bind]at w
  split at w
  . next hl=>
    refine⟨by rw[Reps.length ts p.rep];exact hl,λq hq=>?_⟩
    have hZ:¬Z1 q:=λz=>p.mo.zi q z hq
    have m:=Mo.new (.lst vs) hq p.mo.zi
    refine w (.ref q) _ Z1 (q::B) ⟨(p.mo.trans m).same,(p.mo.trans m).zz,(p.mo.trans m).zn,m.zi,?_,?_,?_,?_⟩
    . simp only[Rep]
      exact⟨q,vs,B,rfl,rfl,bZ,p.rep.same m.same m.zz⟩
    . refine List.nodup_cons.mpr ⟨λhb=>?_,p.nd⟩
      obtain⟨o,ho,_⟩:=Reps.dom ts p.rep q hb
      rw[ho]at hq;cases hq
    . intro b hb
      rcases List.mem_cons.mp hb with rfl|hb
      . exact hZ
      . exact p.bz b hb
    . intro b hb
      rcases List.mem_cons.mp hb with rfl|hb
      . exact .inl (p.mo.same.free hq)
      . exact p.bn b hb
  . exact w.elim
 |ex x=>rw[e]at w;exact w
 |no=>rw[e]at w;exact w
theorem wE{mv:List Nat}{ta:TA}{r:Fr->Res (List T)}(h:RA Jn K cn E mv ta r):RE Jn K cn E mv (co3 ta) (oC r):=λAs H Z ρ σ F Q w=>by
 unfold oC at w
 refine h As H Z ρ σ F _ ?_
 cases e:r ρ with
 |ok ts=>
  rw[e]at w
  intro vs H1 Z1 B p
  simp only[Res.bind]at w
  split at w
  . next hl=>
    refine⟨by rw[Reps.length ts p.rep];exact hl,λq hq=>?_⟩
    have m:=Mo.new (.tup vs) hq p.mo.zi
    refine w (.ref q) _ Z1 B ⟨(p.mo.trans m).same,(p.mo.trans m).zz,(p.mo.trans m).zn,m.zi,?_,p.nd,p.bz,p.bn⟩
    simp only[Rep]
    exact⟨q,vs,rfl,SqT.of bZ,p.rep.same m.same m.zz⟩
  . exact w.elim
 |ex x=>rw[e]at w;exact w
 |no=>rw[e]at w;exact w
def vO(K:PySem.W.Frag)(cn:Str->Option Addr)(r:List V->Hp->VK->Prop)(f:List T->Res T):Prop:=
 ∀(E:XK)(As:List (List Addr))(H:Hp)(Z:Addr->Prop)(ts:List T)(xs:List V)(A:List Addr)(Q:VK),(∀a,Z a->H a≠none)->Reps K cn H Z ts xs A->WpE K cn E As H Z [] Q (f ts)->r xs H Q
def dX(f:List T->Res T)(r:Fr->Res (List T)):Fr->Res T:=λρ=>(r ρ).bind f
theorem cT{r:List V->Hp->VK->Prop}{f:List T->Res T}{ta:TA}{a:Fr->Res (List T)}(hr:vO K cn r f)(ha:tO Jn K cn E ta a):RE Jn K cn E [] (tCB r ta) (dX f a):=λAs H Z ρ σ F Q w=>by
 unfold dX at w
 refine ha As H Z ρ σ F _ ?_
 cases e:a ρ with
 |ok ts=>rw[e]at w;exact λvs H1 Z1 B m p=>hr E As H1 Z1 ts vs B Q m.zi p (WpE.mo F w m)
 |ex x=>rw[e]at w;exact w
 |no=>rw[e]at w;exact w
def RMR(K:PySem.W.Frag)(cn:Str->Option Addr)(ty:String)(r:V->List V->Hp->VK->Prop)(f:T->List T->Res T):Prop:=
 ∀(E:XK)(As:List (List Addr))(H:Hp)(Z:Addr->Prop)(t:T)(ts:List T)(x:V)(xs:List V)(A B:List Addr)(Q:VK),(∀a,Z a->H a≠none)->Rep K cn H Z t x A->Reps K cn H Z ts xs B->WpE K cn E As H Z [] Q (f t ts)->r x xs H Q
def dBM(ok:T->Bool)(f:T->List T->Res T)(o:Fr->Res T)(r:Fr->Res (List T)):Fr->Res T:=λρ=>(o ρ).bind λt=>if ok t=true then(r ρ).bind λts=>f t ts else .no
def cr3:T->Bool
 |.str _=>true
 |_=>false
def at5:T->Bool
 |.lst _ _=>true
 |_=>false
theorem Rep.lstSq{H:Hp}{Z:Addr->Prop}{o:Bool}{ts:List T}{v:V}{B:List Addr}(r:Rep K cn H Z (.lst o ts) v B):∃a vs C,v=.ref a/\SqS K H a vs/\Reps K cn H Z ts vs C/\C.Sublist B:=by
 cases o with
 |true=>
  simp only[Rep]at r
  obtain⟨a,vs,C,rfl,rfl,e,r⟩:=r
  exact⟨a,vs,C,rfl,.inl (.inl e),r,List.sublist_cons_self _ _⟩
 |false=>
  simp only[Rep]at r
  obtain⟨a,vs,rfl,rfl,e,r⟩:=r
  exact⟨a,vs,[],rfl,e.sqS,r,List.Sublist.slnil⟩
theorem bd1{H:Hp}{Z:Addr->Prop}{t:T}{v:V}{B:List Addr}(h:at5 t=true)(r:Rep K cn H Z t v B):tyV K "list" v H:=by
 cases t with
 |lst o xs=>obtain⟨a,vs,C,rfl,s,_⟩:=r.lstSq;exact .inl ⟨rfl,vs,s.sq⟩
 |_=>cases h
theorem cs6{ty:String}{r:V->List V->Hp->VK->Prop}{f:T->List T->Res T}{ok:T->Bool}{to:TE}{ta:TA}{o:Fr->Res T}{a:Fr->Res (List T)}(hty:∀{H:Hp}{Z:Addr->Prop}{t:T}{v:V}{B:List Addr},ok t=true->Rep K cn H Z t v B->tyV K ty v H)(hr:RMR K cn ty r f)
 (ho:RB Jn K cn E to o)(ha:tO Jn K cn E ta a):RE Jn K cn E [] (tBM K ty r to ta) (dBM ok f o a):=λAs H Z ρ σ F Q w=>by
 unfold dBM at w
 refine ho As H Z ρ σ F _ ?_
 cases e:o ρ with
 |ok t=>
  rw[e]at w
  intro v H1 Z1 B p
  simp only[Res.bind]at w
  split at w
  . next hok=>
    refine⟨hty hok p.rep,ha As H1 Z1 ρ σ (F.mo p.mo) _ ?_⟩
    cases e2:a ρ with
    |ok ts=>rw[e2]at w;exact λvs H2 Z2 B2 m r2=>hr E As H2 Z2 t ts v vs B B2 Q m.zi (p.rep.same m.same m.zz) r2 (WpE.mo F w (p.mo.trans m))
    |ex x=>rw[e2]at w;exact WpX.ev w p.mo.ev
    |no=>rw[e2]at w;exact w
  . exact w.elim
 |ex x=>rw[e]at w;exact w
 |no=>rw[e]at w;exact w
def cJ(K:PySem.W.Frag)(cn:Str->Option Addr)(n:Nat)(F:List T->Res T):Sp:=λvs H Q E=>vs.length=n/\∃ts Z,(∀a,Z a->H a≠none)/\Reps K cn H Z ts vs []/\WpE K cn E [] H Z [] Q (F ts)
def cP(n:Nat)(F:List T->Res T)(r:Fr->Res (List T)):Fr->Res T:=λρ=>(r ρ).bind λts=>if ts.length=n then match F (frzs ts)with
 |.ok t=>if(gP t||bA ts)=true then .ok t else .no
 |_=>.no else .no
theorem cD{n:Nat}{G:List T->Res T}{ta:TA}{a:Fr->Res (List T)}(ha:tO Jn K cn E ta a):RE Jn K cn E [] (au5 (cJ K cn n G) ta) (cP n G a):=λAs H Z ρ σ F Q w=>by
 unfold cP at w
 refine ha As H Z ρ σ F _ ?_
 cases e:a ρ with
 |ok ts=>
  rw[e]at w
  intro vs H1 Z1 B m r1
  simp only[Res.bind]at w
  split at w
  . next hn=>
    refine⟨by rw[Reps.length ts r1,hn],frzs ts,(λa=>Z1 a\/a∈B),λa h=>?_,Reps.frz ts r1 (λa h=>.inl h) (λa h=>.inr h),?_⟩
    . rcases h with h|h
      . exact m.zi a h
      . obtain⟨o,q,_⟩:=Reps.dom ts r1 a h
        rw[q]
        exact(λz=>nomatch z)
    cases e2:G (frzs ts)with
    |ok t=>
     rw[e2]at w
     intro v H2 Z2 C p
     simp only at w
     split at w
     . next hc=>
       rw[Bool.or_eq_true]at hc
       have bn:∀b∈C,H1 b=none:=λb hb=>(p.bn b hb).resolve_right (λ⟨i,hi,_⟩=>by cases hi)
       by_cases hcl:gP t=true
       . refine w v H2 Z1 C ⟨m.same.trans p.same,m.zz,λa h=>m.zn a h,λa h=>?_,Rep.any t hcl p.rep,p.nd,λb hb z=>?_,λb hb=>.inl (m.same.free (bn b hb))⟩
         . intro q
           exact m.zi a h (p.same.free q)
         . exact m.zi b z (bn b hb)
       . have hno:=hc.resolve_left hcl
         have hB:=Reps.bare ts hno r1
         subst hB
         refine w v H2 Z2 C ⟨m.same.trans p.same,λa h=>p.zz a (.inl (m.zz a h)),λa h=>?_,p.zi,p.rep,p.nd,p.bz,λb hb=>.inl (m.same.free (bn b hb))⟩
         rcases p.zn a h with(h|h)|h
         . exact m.zn a h
         . cases h
         . exact .inr (m.same.free h)
     . exact w.elim
    |ex x=>rw[e2]at w;exact w.elim
    |no=>rw[e2]at w;exact w.elim
  . exact w.elim
 |ex x=>rw[e]at w;exact w
 |no=>rw[e]at w;exact w
def WpO(K:PySem.W.Frag)(cn:Str->Option Addr)(E:XK)(As:List (List Addr))(H:Hp)(Z:Addr->Prop)(Q:Option Int->Hp->Prop):Res (Option Int)->Prop
 |.ok o=>∀H' Z',Mo H Z H' Z'->Q o H'
 |.ex x=>WpX K cn E As H Z x
 |.no=>False
def RO(Jn:fM)(K:PySem.W.Frag)(cn:Str->Option Addr)(E:XK)(t:TO)(d:Fr->Res (Option Int)):Prop:=∀As H Z ρ σ,Frm Jn K cn H Z ρ σ As->∀Q,WpO K cn E As H Z Q (d ρ)->t σ H Q
def fG:Fr->Res (Option Int):=λ_=>.ok none
def toI:T->Res (Option Int)
 |.int i=>.ok (some i)
 |_=>.no
def iB(a:Fr->Res T):Fr->Res (Option Int):=λρ=>(a ρ).bind toI
theorem gN:RO Jn K cn E as7 fG:=λAs H Z ρ σ F Q w=>w H Z F.mo0
theorem eW{te:TE}{a:Fr->Res T}(ha:RB Jn K cn E te a):RO Jn K cn E (bu6 te) (iB a):=λAs H Z ρ σ F Q w=>by
 unfold iB at w
 refine ha As H Z ρ σ F _ ?_
 cases e:a ρ with
 |ok t=>
  rw[e]at w
  intro v H1 Z1 B p
  cases t with
  |int i=>
   have q:=p.rep
   simp only[Rep]at q
   obtain⟨rfl,rfl⟩:=q
   exact⟨i,rfl,w H1 Z1 p.mo⟩
  |_=>exact False.elim w
 |ex x=>rw[e]at w;exact w
 |no=>rw[e]at w;exact w
def RSR(K:PySem.W.Frag)(cn:Str->Option Addr)(r:V->Option Int->Option Int->Hp->VK->Prop)(f:T->Option Int->Option Int->Res T):Prop:=
 ∀(E:XK)(As:List (List Addr))(H:Hp)(Z:Addr->Prop)(t:T)(x:V)(A:List Addr)(lo hi:Option Int)(Q:VK),(∀a,Z a->H a≠none)->Rep K cn H Z t x A->WpE K cn E As H Z [] Q (f t lo hi)->r x lo hi H Q
def nS(f:T->Option Int->Option Int->Res T)(a:Fr->Res T)(l h:Fr->Res (Option Int)):Fr->Res T:=λρ=>(a ρ).bind λt=>(l ρ).bind λlo=>(h ρ).bind λhi=>f t lo hi
theorem jI{r:V->Option Int->Option Int->Hp->VK->Prop}{f:T->Option Int->Option Int->Res T}{te:TE}{tl th:TO}{a:Fr->Res T}{l h:Fr->Res (Option Int)}(hr:RSR K cn r f)(ha:RB Jn K cn E te a)(hl:RO Jn K cn E tl l)(hh:RO Jn K cn E th h):RE Jn K cn E [] (tSl r te tl th) (nS f a l h):=λAs H Z ρ σ F Q w=>by
 unfold nS at w
 refine ha As H Z ρ σ F _ ?_
 cases e:a ρ with
 |ok t=>
  rw[e]at w
  intro v H1 Z1 B p
  refine hl As H1 Z1 ρ σ (F.mo p.mo) _ ?_
  simp only[Res.bind]at w
  cases e2:l ρ with
  |ok lo=>
   rw[e2]at w
   intro H2 Z2 m2
   have m12:=p.mo.trans m2
   refine hh As H2 Z2 ρ σ (F.mo m12) _ ?_
   simp only at w
   cases e3:h ρ with
   |ok hi=>
    rw[e3]at w
    intro H3 Z3 m3
    exact hr E As H3 Z3 t v B lo hi Q m3.zi (p.rep.same (m2.same.trans m3.same) λa h=>m3.zz a (m2.zz a h)) (WpE.mo F w (m12.trans m3))
   |ex x=>rw[e3]at w;exact WpX.ev w m12.ev
   |no=>rw[e3]at w;exact w
  |ex x=>rw[e2]at w;exact WpX.ev w p.mo.ev
  |no=>rw[e2]at w;exact w
 |ex x=>rw[e]at w;exact w
 |no=>rw[e]at w;exact w
end
end TL
namespace TL
open PySem PySem.Spec PyProof.Rows L2
section
variable {Jn : fM} {K : PySem.W.Frag} {cn : Str → Option Addr} {E : XK}
def SqF(fz k:Bool)(K:PySem.W.Frag)(H:Hp)(Z:Addr->Prop)(l:Addr)(xs:List V):Prop:=cond k (SqT K H l xs) (if fz=true then FzL K H Z l xs else SqL K H l xs)
def xR(ts us:List T):List T:=List.zipWith (λt u=>T.tup [t,u]) ts us
def xT(ts:List T):List T:=List.zipWith (λi t=>T.tup [.int (i:Nat),t]) (List.range ts.length) ts
def Src(K:PySem.W.Frag)(cn:Str->Option Addr)(fz:Bool)(H:Hp)(Z:Addr->Prop)(J:It)(ts:List T):Prop:=
 (∃a vs,J=Itl K a/\(if fz=true then FzL K H Z a vs else SqL K H a vs)/\Reps K cn H Z ts vs [])\/
 (∃a vs,J=Itt K a/\SqT K H a vs/\Reps K cn H Z ts vs [])\/
 (∃(lo:Int)(n:Nat),J=Itr lo n/\ts=(List.range n).map λi=>T.int (lo+(i:Nat)))\/
 (∃z:Str,J=Its z/\ts=z.cps.toList.map λc=>T.str ⟨#[c]⟩)\/
 (∃k1 k2 l1 l2 vs ws us us',J=Itz K k1 k2 l1 l2/\SqF fz k1 K H Z l1 vs/\SqF fz k2 K H Z l2 ws/\Reps K cn H Z us vs []/\Reps K cn H Z us' ws []/\ts=xR us us')\/
 (∃l vs us,J=Ite K l/\SqF fz false K H Z l vs/\Reps K cn H Z us vs []/\ts=xT us)
theorem ae1{fz:Bool}{H:Hp}{Z:Addr->Prop}{a:Addr}{vs:List V}(h:if fz=true then FzL K H Z a vs else SqL K H a vs):SqL K H a vs:=by
 cases fz with
 |true=>rw[if_pos rfl]at h;exact h.sq
 |false=>rw[if_neg (by decide)]at h;exact h
theorem SqF.sq{fz k:Bool}{H:Hp}{Z:Addr->Prop}{l:Addr}{xs:List V}(h:SqF fz k K H Z l xs):SqK k K H l xs:=by
 cases k with
 |true=>exact h
 |false=>exact ae1 h
theorem bc2{t:T}:∀{us us':List T}{i:Nat},(xR us us')[i]?=some t->∃t1 t2,us[i]?=some t1/\us'[i]?=some t2/\t=.tup [t1,t2]:=by
 intro us us' i h
 unfold xR at h
 rw[List.getElem?_zipWith]at h
 cases h1:us[i]? with
 |none=>rw[h1]at h;cases h
 |some t1=>
  cases h2:us'[i]? with
  |none=>rw[h1,h2]at h;cases h
  |some t2=>
   rw[h1,h2]at h
   exact⟨t1,t2,rfl,rfl,(Option.some.inj h).symm⟩
theorem be0(us us':List T):(xR us us').length=min us.length us'.length:=by simp[xR]
theorem bg2(us:List T):(xT us).length=us.length:=by simp[xT]
theorem bh2{t:T}{us:List T}{i:Nat}(h:(xT us)[i]?=some t):∃t2,us[i]?=some t2/\t=.tup [.int i,t2]:=by
 unfold xT at h
 rw[List.getElem?_zipWith]at h
 cases h2:us[i]? with
 |none=>rw[h2]at h;cases q:(List.range us.length)[i]?<;>rw[q]at h<;>cases h
 |some t2=>
  have hi:=(List.getElem?_eq_some_iff.mp h2).1
  rw[h2,List.getElem?_range hi]at h
  exact⟨t2,rfl,(Option.some.inj h).symm⟩
theorem an5{H:Hp}{Z:Addr->Prop}{t1 t2:T}{v1 v2 x:V}{p:Addr}(ex:x=.ref p)(hp:H p=some (.tup [v1,v2]))(h1:Rep K cn H Z t1 v1 [])(h2:Rep K cn H Z t2 v2 []):Rep K cn H Z (.tup [t1,t2]) x []:=by
 simp only[Rep]
 refine⟨p,[v1,v2],ex,SqT.of hp,?_⟩
 simp only[Reps]
 exact⟨v1,[v2],[],[],rfl,rfl,h1,v2,[],[],[],rfl,rfl,h2,rfl,rfl⟩
theorem Src.turn{fz:Bool}{H:Hp}{Z:Addr->Prop}{J:It}{ts:List T}{i:Nat}{t:T}(h:Src K cn fz H Z J ts)(zi:∀a,Z a->H a≠none)(e:ts[i]?=some t):J.go i H/\∀x H',J.yld i H x H'->Mo H Z H' Z/\Rep K cn H' Z t x []:=by
 have m0:Mo H Z H Z:=⟨Same.refl _,λ_ h=>h,λ_ h=>.inl h,zi⟩
 rcases h with⟨a,vs,rfl,hs,r⟩|⟨a,vs,rfl,hs,r⟩|⟨lo,n,rfl,rfl⟩|⟨z,rfl,rfl⟩|⟨k1,k2,l1,l2,vs,ws,us,us',rfl,q1,q2,r1,r2,rfl⟩|⟨l,vs,us,rfl,q1,r1,rfl⟩
 . obtain⟨v,B,ev,rv,hB,_⟩:=Reps.get ts r e
   have hs:=ae1 hs
   have eB:B=[]:=List.eq_nil_iff_forall_not_mem.mpr λb hb=>by cases hB b hb
   subst eB
   refine⟨⟨vs,v,hs,ev⟩,λx H' ⟨e1,e2⟩=>⟨e1▸m0,?_⟩⟩
   subst e1
   have:=e2 vs hs
   rw[ev]at this
   cases this
   exact rv
 . obtain⟨v,B,ev,rv,hB,_⟩:=Reps.get ts r e
   have eB:B=[]:=List.eq_nil_iff_forall_not_mem.mpr λb hb=>by cases hB b hb
   subst eB
   refine⟨⟨vs,v,hs,ev⟩,λx H' ⟨e1,e2⟩=>⟨e1▸m0,?_⟩⟩
   subst e1
   have:=e2 vs hs
   rw[ev]at this
   cases this
   exact rv
 . rw[List.getElem?_map]at e
   cases q:(List.range n)[i]? with
   |none=>rw[q]at e;cases e
   |some j=>
    rw[q]at e
    obtain⟨h1,h2⟩:=List.getElem?_eq_some_iff.mp q
    simp at h1 h2
    subst h2
    cases e
    refine⟨h1,λx H' ⟨e1,e2⟩=>⟨e1▸m0,?_⟩⟩
    subst e1
    subst e2
    simp[Rep]
 . rw[List.getElem?_map]at e
   cases q:z.cps.toList[i]? with
   |none=>rw[q]at e;cases e
   |some c=>
    rw[q]at e
    cases e
    have h1:=(List.getElem?_eq_some_iff.mp q).1
    refine⟨show i<z.cps.size by simpa using h1,λx H' ⟨e1,c',e2,e3⟩=>⟨e1▸m0,?_⟩⟩
    subst e1
    rw[<-Array.getElem?_toList]at e2
    rw[q]at e2
    cases e2
    subst e3
    simp[Rep]
 . obtain⟨t1,t2,e1,e2,rfl⟩:=bc2 e
   obtain⟨v1,B1,ev1,rv1,hB1,_⟩:=Reps.get us r1 e1
   obtain⟨v2,B2,ev2,rv2,hB2,_⟩:=Reps.get us' r2 e2
   have n1:B1=[]:=List.eq_nil_iff_forall_not_mem.mpr λb hb=>by cases hB1 b hb
   have n2:B2=[]:=List.eq_nil_iff_forall_not_mem.mpr λb hb=>by cases hB2 b hb
   subst n1 n2
   refine⟨⟨vs,ws,v1,v2,q1.sq,q2.sq,ev1,ev2⟩,λx H' ⟨p,hp,ex,h⟩=>?_⟩
   obtain⟨y1,y2,f1,f2,rfl⟩:=h vs ws q1.sq q2.sq
   rw[ev1]at f1
   rw[ev2]at f2
   cases f1
   cases f2
   have m:=Mo.new (.tup [v1,v2]) hp zi
   exact⟨m,an5 ex bZ (rv1.same m.same m.zz) (rv2.same m.same m.zz)⟩
 . obtain⟨t2,e2,rfl⟩:=bh2 e
   obtain⟨v2,B2,ev2,rv2,hB2,_⟩:=Reps.get us r1 e2
   have n2:B2=[]:=List.eq_nil_iff_forall_not_mem.mpr λb hb=>by cases hB2 b hb
   subst n2
   refine⟨⟨vs,v2,q1.sq,ev2⟩,λx H' ⟨p,hp,ex,h⟩=>?_⟩
   obtain⟨y2,f2,rfl⟩:=h vs q1.sq
   rw[ev2]at f2
   cases f2
   have m:=Mo.new (.tup [.int i,v2]) hp zi
   exact⟨m,an5 ex bZ (by simp[Rep]) (rv2.same m.same m.zz)⟩
theorem Src.stop{fz:Bool}{H:Hp}{Z:Addr->Prop}{J:It}{ts:List T}{i:Nat}(h:Src K cn fz H Z J ts)(e:ts.length<=i):J.stop i H:=by
 rcases h with⟨a,vs,rfl,hs,r⟩|⟨a,vs,rfl,hs,r⟩|⟨lo,n,rfl,rfl⟩|⟨z,rfl,rfl⟩|⟨k1,k2,l1,l2,vs,ws,us,us',rfl,q1,q2,r1,r2,rfl⟩|⟨l,vs,us,rfl,q1,r1,rfl⟩
 . exact⟨vs,ae1 hs,by rw[Reps.length ts r];exact e⟩
 . exact⟨vs,hs,by rw[Reps.length ts r];exact e⟩
 . show n<=i
   simpa using e
 . have:z.cps.size<=i:=by simpa using e
   exact this
 . refine⟨vs,ws,q1.sq,q2.sq,?_⟩
   rw[Reps.length us r1,Reps.length us' r2]
   rw[be0]at e
   omega
 . refine⟨vs,q1.sq,?_⟩
   rw[Reps.length us r1]
   rw[bg2]at e
   exact e
theorem Same.sqT{H H':Hp}{a:Addr}{xs:List V}(e:Same H H')(h:SqT K H a xs):SqT K H' a xs:=SqT.keep h λb o q _=>e b o q
theorem SqF.mo{fz k:Bool}{H H':Hp}{Z Z':Addr->Prop}{l:Addr}{xs:List V}(h:SqF fz k K H Z l xs)(m:Mo H Z H' Z'):SqF fz k K H' Z' l xs:=by
 cases k with
 |true=>exact Same.sqT m.same h
 |false=>
  cases fz with
  |true=>exact FzL.keep (show FzL K H Z l xs from h) (λb o q _=>m.same b o q) m.zz
  |false=>exact m.same.seq (show SqL K H l xs from h)
theorem SqF.kept{k:Bool}{H H':Hp}{Z Z':Addr->Prop}{l:Addr}{xs:List V}(h:SqF true k K H Z l xs)(kz:∀b o,H b=some o->(Z b\/nO o=true)->H' b=some o)(hz:∀a,Z a->Z' a):SqF true k K H' Z' l xs:=by
 cases k with
 |true=>exact SqT.keep (show SqT K H l xs from h) λb o q c=>kz b o q (.inr c)
 |false=>exact FzL.keep (show FzL K H Z l xs from h) kz hz
theorem Src.mo{fz:Bool}{H H':Hp}{Z Z':Addr->Prop}{J:It}{ts:List T}(h:Src K cn fz H Z J ts)(m:Mo H Z H' Z'):Src K cn fz H' Z' J ts:=by
 rcases h with⟨a,vs,rfl,hs,r⟩|⟨a,vs,rfl,hs,r⟩|h|h|⟨k1,k2,l1,l2,vs,ws,us,us',rfl,q1,q2,r1,r2,rfl⟩|⟨l,vs,us,rfl,q1,r1,rfl⟩
 . refine .inl ⟨a,vs,rfl,?_,r.same m.same m.zz⟩
   cases fz with
   |true=>rw[if_pos rfl]at hs⊢;exact hs.keep (λb o q _=>m.same b o q) m.zz
   |false=>rw[if_neg (by decide)]at hs⊢;exact m.same.seq hs
 . exact .inr (.inl ⟨a,vs,rfl,Same.sqT m.same hs,r.same m.same m.zz⟩)
 . exact .inr (.inr (.inl h))
 . exact .inr (.inr (.inr (.inl h)))
 . exact .inr (.inr (.inr (.inr (.inl ⟨k1,k2,l1,l2,vs,ws,us,us',rfl,q1.mo m,q2.mo m,r1.same m.same m.zz,r2.same m.same m.zz,rfl⟩))))
 . exact .inr (.inr (.inr (.inr (.inr ⟨l,vs,us,rfl,q1.mo m,r1.same m.same m.zz,rfl⟩))))
theorem Src.ev{H H':Hp}{Z Z':Addr->Prop}{J:It}{ts:List T}{ρ:Fr}{σ:St}{As As':List (List Addr)}(h:Src K cn true H Z J ts)(F:Frm Jn K cn H Z ρ σ As)(e:Ev As H Z As' H' Z'):Src K cn true H' Z' J ts:=by
 have kz:∀b o,H b=some o->(Z b\/nO o=true)->H' b=some o:=λb o q c=>e.keep b o q λhb=>by
  rcases c with c|c
  . exact F.nz b hb c
  . obtain⟨o',q',i'⟩:=F.sl.dom b hb
    rw[q]at q'
    cases q'
    rw[c]at i'
    cases i'
 rcases h with⟨a,vs,rfl,hs,r⟩|⟨a,vs,rfl,hs,r⟩|h|h|⟨k1,k2,l1,l2,vs,ws,us,us',rfl,q1,q2,r1,r2,rfl⟩|⟨l,vs,us,rfl,q1,r1,rfl⟩
 . rw[if_pos rfl]at hs
   refine .inl ⟨a,vs,rfl,?_,Reps.keep ts r (λb o q c=>kz b o q (c.resolve_left ((λz=>nomatch z)))) e.zz⟩
   rw[if_pos rfl]
   exact hs.keep kz e.zz
 . exact .inr (.inl ⟨a,vs,rfl,SqT.keep hs (λb o q c=>kz b o q (.inr c)),Reps.keep ts r (λb o q c=>kz b o q (c.resolve_left ((λz=>nomatch z)))) e.zz⟩)
 . exact .inr (.inr (.inl h))
 . exact .inr (.inr (.inr (.inl h)))
 . exact .inr (.inr (.inr (.inr (.inl ⟨k1,k2,l1,l2,vs,ws,us,us',rfl,q1.kept kz e.zz,q2.kept kz e.zz,Reps.keep us r1 (λb o q c=>kz b o q (c.resolve_left ((λz=>nomatch z)))) e.zz,Reps.keep us' r2 (λb o q c=>kz b o q (c.resolve_left ((λz=>nomatch z)))) e.zz,rfl⟩))))
 . exact .inr (.inr (.inr (.inr (.inr ⟨l,vs,us,rfl,q1.kept kz e.zz,Reps.keep us r1 (λb o q c=>kz b o q (c.resolve_left ((λz=>nomatch z)))) e.zz,rfl⟩))))
def WpI(K:PySem.W.Frag)(cn:Str->Option Addr)(E:XK)(fz:Bool)(As:List (List Addr))(H:Hp)(Z:Addr->Prop)(R:It->Hp->Prop):Res (List T)->Prop
 |.ok ts=>∀J H' Z',Mo H Z H' Z'->Src K cn fz H' Z' J ts->R J H'
 |.ex x=>WpX K cn E As H Z x
 |.no=>False
def RI(Jn:fM)(K:PySem.W.Frag)(cn:Str->Option Addr)(E:XK)(fz:Bool)(wi:TI)(d:Fr->Res (List T)):Prop:=∀As H Z ρ σ,Frm Jn K cn H Z ρ σ As->∀R,WpI K cn E fz As H Z R (d ρ)->wi σ H R
noncomputable def gate{α:Type}(p:Prop)(a:Res α):Res α:=@ite _ p (Classical.propDecidable p) a .no
theorem bu1{α:Type}(a:Res α):gate True a=a:=by unfold gate;rw[if_pos trivial]
theorem yW{α:Type}{p:Prop}{a:Res α}(h:p):gate p a=a:=by unfold gate;rw[if_pos h]
theorem WpI.gate{fz:Bool}{As:List (List Addr)}{H:Hp}{Z:Addr->Prop}{R:It->Hp->Prop}{p:Prop}{r:Res (List T)}(w:WpI K cn E fz As H Z R (TL.gate p r)):p/\WpI K cn E fz As H Z R r:=by
 unfold TL.gate at w
 split at w
 . exact⟨by assumption,w⟩
 . exact w.elim
theorem WpE.gate{As:List (List Addr)}{H:Hp}{Z:Addr->Prop}{mv:List Nat}{Q:VK}{p:Prop}{r:Res T}(w:WpE K cn E As H Z mv Q (TL.gate p r)):p/\WpE K cn E As H Z mv Q r:=by
 unfold TL.gate at w
 split at w
 . exact⟨by assumption,w⟩
 . exact w.elim
def eV(lo:Int)(n:Nat):List T:=(List.range n).map λi=>T.int (lo+(i:Nat))
noncomputable def oV:List T->Res (List T)
 |[.int j]=>gate (-(2^62)<=j/\j<2^62) (.ok (eV 0 j.toNat))
 |_=>.no
noncomputable def af8:List T->Res (List T)
 |[.int i,.int j]=>gate (-(2^62)<=i/\i<2^62/\-(2^62)<=j/\j<2^62) (.ok (eV i (j-i).toNat))
 |_=>.no
def mF(f:List T->Res (List T))(a:Fr->Res (List T)):Fr->Res (List T):=λρ=>(a ρ).bind f
theorem Reps.ints1{H:Hp}{Z:Addr->Prop}{i:Int}{vs:List V}{A:List Addr}(r:Reps K cn H Z [.int i] vs A):vs=[.int i]:=by
 simp only[Reps,Rep]at r
 obtain⟨v,w,B,C,rfl,rfl,⟨rfl,rfl⟩,rfl,rfl⟩:=r
 rfl
theorem Reps.ints2{H:Hp}{Z:Addr->Prop}{i j:Int}{vs:List V}{A:List Addr}(r:Reps K cn H Z [.int i,.int j] vs A):vs=[.int i,.int j]:=by
 simp only[Reps,Rep]at r
 obtain⟨v,w,B,C,rfl,rfl,⟨rfl,rfl⟩,v2,w2,B2,C2,rfl,rfl,⟨rfl,rfl⟩,rfl,rfl⟩:=r
 rfl
theorem kP{fz:Bool}{ta:TA}{a:Fr->Res (List T)}(ha:tO Jn K cn E ta a):RI Jn K cn E fz (bi7 ta) (mF oV a):=λAs H Z ρ σ F R w=>by
 unfold mF at w
 refine ha As H Z ρ σ F _ ?_
 cases e:a ρ with
 |ok ts=>
  rw[e]at w
  intro vs H1 Z1 B m r
  simp only[Res.bind]at w
  unfold oV at w
  split at w
  . next j=>
    obtain⟨hb,w⟩:=w.gate
    exact⟨j,r.ints1,hb.1,hb.2,w (Itr 0 j.toNat) H1 Z1 m (.inr (.inr (.inl ⟨0,j.toNat,rfl,rfl⟩)))⟩
  . exact w.elim
 |ex x=>rw[e]at w;exact w
 |no=>rw[e]at w;exact w
theorem cb0{fz:Bool}{ta:TA}{a:Fr->Res (List T)}(ha:tO Jn K cn E ta a):RI Jn K cn E fz (bw6 ta) (mF af8 a):=λAs H Z ρ σ F R w=>by
 unfold mF at w
 refine ha As H Z ρ σ F _ ?_
 cases e:a ρ with
 |ok ts=>
  rw[e]at w
  intro vs H1 Z1 B m r
  simp only[Res.bind]at w
  unfold af8 at w
  split at w
  . next i j=>
    obtain⟨hb,w⟩:=w.gate
    exact⟨i,j,r.ints2,hb,w (Itr i (j-i).toNat) H1 Z1 m (.inr (.inr (.inl ⟨i,_,rfl,rfl⟩)))⟩
  . exact w.elim
 |ex x=>rw[e]at w;exact w
 |no=>rw[e]at w;exact w
def iV(K:PySem.W.Frag)(tl:TE):TI:=λσ H R=>tl σ H λx H1=>(∃a,x=.ref a/\(((∃xs,SqL K H1 a xs)/\R (Itl K a) H1)\/((∃xs,SqT K H1 a xs)/\R (Itt K a) H1)))\/∃z,x=.str z/\R (Its z) H1
def mL:T->Res (List T)
 |.lst _ ts=>if bA ts=true then .ok ts else .no
 |.tup ts=>if bA ts=true then .ok ts else .no
 |.str z=>.ok (z.cps.toList.map λc=>T.str ⟨#[c]⟩)
 |_=>.no
def vX:T->Res (List T)
 |.lst o ts=>if(!o&&bA ts)=true then .ok ts else .no
 |.tup ts=>if bA ts=true then .ok ts else .no
 |.str z=>.ok (z.cps.toList.map λc=>T.str ⟨#[c]⟩)
 |_=>.no
def kX(f:T->Res (List T))(a:Fr->Res T):Fr->Res (List T):=λρ=>(a ρ).bind f
theorem Reps.bareE{H:Hp}{Z:Addr->Prop}{ts:List T}{vs:List V}{A:List Addr}(r:Reps K cn H Z ts vs A)(h:bA ts=true):Reps K cn H Z ts vs []:=by
 have:=Reps.bare ts h r
 subst this
 exact r
theorem mX{tl:TE}{a:Fr->Res T}(ha:RB Jn K cn E tl a):RI Jn K cn E false (iV K tl) (kX mL a):=λAs H Z ρ σ F R w=>by
 unfold kX at w
 refine ha As H Z ρ σ F _ ?_
 cases e:a ρ with
 |ok t=>
  rw[e]at w
  intro v H1 Z1 B p
  simp only[Res.bind]at w
  cases t with
  |lst o ts=>
   simp only[mL]at w
   split at w
   . next hn=>
     obtain⟨b,vs,C,rfl,hs,r,_⟩:=p.rep.lstSq
     have hs:=hs.sq
     exact .inl ⟨b,rfl,.inl ⟨⟨vs,hs⟩,w _ H1 Z1 p.mo (.inl ⟨b,vs,rfl,by rw[if_neg (by decide)];exact hs,r.bareE hn⟩)⟩⟩
   . exact w.elim
  |tup ts=>
   simp only[mL]at w
   split at w
   . next hn=>
     have q:=p.rep
     simp only[Rep]at q
     obtain⟨b,vs,rfl,hs,r⟩:=q
     exact .inl ⟨b,rfl,.inr ⟨⟨vs,hs⟩,w _ H1 Z1 p.mo (.inr (.inl ⟨b,vs,rfl,hs,r.bareE hn⟩))⟩⟩
   . exact w.elim
  |str z=>
   have q:=p.rep
   simp only[Rep]at q
   obtain⟨rfl,_⟩:=q
   exact .inr ⟨z,rfl,w _ H1 Z1 p.mo (.inr (.inr (.inr (.inl ⟨z,rfl,rfl⟩))))⟩
  |_=>exact w.elim
 |ex x=>rw[e]at w;exact w
 |no=>rw[e]at w;exact w
theorem ad9{tl:TE}{a:Fr->Res T}(ha:RB Jn K cn E tl a):RI Jn K cn E true (iV K tl) (kX vX a):=λAs H Z ρ σ F R w=>by
 unfold kX at w
 refine ha As H Z ρ σ F _ ?_
 cases e:a ρ with
 |ok t=>
  rw[e]at w
  intro v H1 Z1 B p
  simp only[Res.bind]at w
  cases t with
  |lst o ts=>
   simp only[vX]at w
   split at w
   . next hn=>
     rw[Bool.and_eq_true]at hn
     cases o with
     |true=>exact absurd hn.1 (by decide)
     |false=>
      have q:=p.rep
      simp only[Rep]at q
      obtain⟨b,vs,rfl,rfl,hs,r⟩:=q
      exact .inl ⟨b,rfl,.inl ⟨⟨vs,hs.sq⟩,w _ H1 Z1 p.mo (.inl ⟨b,vs,rfl,by rw[if_pos rfl];exact hs,r⟩)⟩⟩
   . exact w.elim
  |tup ts=>
   simp only[vX]at w
   split at w
   . next hn=>
     have q:=p.rep
     simp only[Rep]at q
     obtain⟨b,vs,rfl,hs,r⟩:=q
     exact .inl ⟨b,rfl,.inr ⟨⟨vs,hs⟩,w _ H1 Z1 p.mo (.inr (.inl ⟨b,vs,rfl,hs,r.bareE hn⟩))⟩⟩
   . exact w.elim
  |str z=>
   have q:=p.rep
   simp only[Rep]at q
   obtain⟨rfl,_⟩:=q
   exact .inr ⟨z,rfl,w _ H1 Z1 p.mo (.inr (.inr (.inr (.inl ⟨z,rfl,rfl⟩))))⟩
  |_=>exact w.elim
 |ex x=>rw[e]at w;exact w
 |no=>rw[e]at w;exact w
def bf6(fz:Bool):T->Option (List T)
 |.lst o ts=>if((!fz||!o)&&bA ts)=true then some ts else none
 |.tup ts=>if bA ts=true then some ts else none
 |_=>none
def cm8(fz:Bool):List T->Res (List T)
 |[t,u]=>match bf6 fz t,bf6 fz u with
  |some ts,some us=>.ok (xR ts us)
  |_,_=>.no
 |_=>.no
def co8(fz:Bool):List T->Res (List T)
 |[.lst o ts]=>if((!fz||!o)&&bA ts)=true then .ok (xT ts)else .no
 |_=>.no
def RG(Jn:fM)(K:PySem.W.Frag)(cn:Str->Option Addr)(ks:List Nat)(g:TG)(b:T->Fr->Option Fr):Prop:=
 ∀As H Z ρ σ t v B,Frm Jn K cn H Z ρ σ As->Rep K cn H Z t v B->B.Nodup->(∀x∈B,¬Z x)->(∀x∈B,x∉As.flatten)->∀(Q:St->Hp->Prop) ρ',b t ρ=some ρ'->
  (∀σ' As',Frm Jn K cn H Z ρ' σ' As'->(∀a∈As'.flatten,a∈As.flatten\/a∈B)->σ'.length=σ.length->(∀i,i∉ks->σ'[i]?=σ[i]?)->Q σ' H)->g v σ H Q
structure RGs (Jn:fM) (K:PySem.W.Frag) (cn:Str->Option Addr) (ks:List Nat) (n:Nat) (g:wR) (b:List T->Fr->Option Fr):Prop where
 len:∀ts ρ ρ',b ts ρ=some ρ'->ts.length=n
 run:∀As H Z ρ σ ts vs B,Frm Jn K cn H Z ρ σ As->Reps K cn H Z ts vs B->B.Nodup->(∀x∈B,¬Z x)->(∀x∈B,x∉As.flatten)->∀(Q:St->Hp->Prop) ρ',b ts ρ=some ρ'->
  (∀σ' As',Frm Jn K cn H Z ρ' σ' As'->(∀a∈As'.flatten,a∈As.flatten\/a∈B)->σ'.length=σ.length->(∀i,i∉ks->σ'[i]?=σ[i]?)->Q σ' H)->g vs σ H Q
def aQ(i:Nat):T->Fr->Option Fr:=λt ρ=>some (ρ.set i (some t))
def iC:List T->Fr->Option Fr
 |[],ρ=>some ρ
 |_::_,_=>none
def bO(b:T->Fr->Option Fr)(bs:List T->Fr->Option Fr):List T->Fr->Option Fr
 |[],_=>none
 |t::ts,ρ=>match b t ρ with
  |some ρ1=>bs ts ρ1
  |none=>none
def gZ(bs:List T->Fr->Option Fr):T->Fr->Option Fr
 |.tup ts,ρ=>bs ts ρ
 |_,_=>none
theorem aT(i:Nat)(hJ:kW Jn i=true:=by rfl):RG Jn K cn [i] (yE i) (aQ i):=λAs H Z ρ σ t v B F r nd bz bo Q ρ' e h=>by
 cases e
 refine h _ (As.set i B) (F.set r nd bz i (λb hb hA=>absurd hA (bo b hb)) hJ) (λa ha=>(dO ha).symm) (by rw[List.length_set]) λj hj=>?_
 rw[List.getElem?_set_ne (λz=>hj (by rw[z];exact List.mem_cons_self))]
theorem jO:RGs Jn K cn [] 0 bb6 iC where
 len:=λts ρ ρ' e=>by
  cases ts with
  |nil=>rfl
  |cons _ _=>cases e
 run:=λAs H Z ρ σ ts vs B F r nd bz bo Q ρ' e h=>by
  cases ts with
  |nil=>
   cases e
   simp only[Reps]at r
   exact⟨r.1,h σ As F (λa ha=>.inl ha) rfl λ_ _=>rfl⟩
  |cons _ _=>cases e
theorem cX{ks ls:List Nat}{n:Nat}{g:TG}{gs:wR}{b:T->Fr->Option Fr}{bs:List T->Fr->Option Fr}(h1:RG Jn K cn ks g b)(h2:RGs Jn K cn ls n gs bs):RGs Jn K cn (ks++ls) (n+1) (ah3 g gs) (bO b bs) where
 len:=λts ρ ρ' e=>by
  cases ts with
  |nil=>cases e
  |cons t ts=>
   simp only[bO]at e
   cases e1:b t ρ with
   |none=>rw[e1]at e;cases e
   |some ρ1=>rw[e1]at e;rw[List.length_cons,h2.len ts ρ1 ρ' e]
 run:=λAs H Z ρ σ ts vs B F r nd bz bo Q ρ' e h=>by
  cases ts with
  |nil=>cases e
  |cons t ts=>
   simp only[bO]at e
   cases e1:b t ρ with
   |none=>rw[e1]at e;cases e
   |some ρ1=>
    rw[e1]at e
    simp only[Reps]at r
    obtain⟨v,vs',B1,B2,rfl,rfl,r1,r2⟩:=r
    rw[List.nodup_append]at nd
    refine⟨v,vs',rfl,h1 As H Z ρ σ t v B1 F r1 nd.1 (λx hx=>bz x (List.mem_append_left _ hx)) (λx hx=>bo x (List.mem_append_left _ hx)) _ ρ1 e1 λσ1 As1 F1 o1 l1 k1=>?_⟩
    refine h2.run As1 H Z ρ1 σ1 ts vs' B2 F1 r2 nd.2.1 (λx hx=>bz x (List.mem_append_right _ hx)) (λx hx hA=>?_) Q ρ' e λσ2 As2 F2 o2 l2 k2=>?_
    . rcases o1 x hA with z|z
      . exact bo x (List.mem_append_right _ hx) z
      . exact nd.2.2 x z x hx rfl
    . refine h σ2 As2 F2 (λa ha=>?_) (l2.trans l1) λi hi=>?_
      . rcases o2 a ha with z|z
        . exact(o1 a z).imp_right (List.mem_append_left _)
        . exact .inr (List.mem_append_right _ z)
      . rw[k2 i (λz=>hi (List.mem_append_right _ z)),k1 i (λz=>hi (List.mem_append_left _ z))]
theorem lJ{ks:List Nat}{n:Nat}{gs:wR}{bs:List T->Fr->Option Fr}(h:RGs Jn K cn ks n gs bs):RG Jn K cn ks (au9 K n gs) (gZ bs):=λAs H Z ρ σ t v B F r nd bz bo Q ρ' e h'=>by
 cases t with
 |tup ts=>
  simp only[gZ]at e
  simp only[Rep]at r
  obtain⟨a,vs,rfl,hs,r⟩:=r
  exact⟨a,vs,rfl,hs,by rw[Reps.length ts r];exact h.len ts ρ ρ' e,h.run As H Z ρ σ ts vs B F r nd bz bo Q ρ' e h'⟩
 |_=>cases e
def dF(b:T->Fr->Option Fr)(c:Fr->Res Bool)(d:Fr->Res T)(ρ:Fr):List T->Res (List T)
 |[]=>.ok []
 |t::ts=>match b t ρ with
  |none=>.no
  |some ρ1=>(c ρ1).bind λk=>if k=true then(d ρ1).bind λu=>(dF b c d ρ ts).bind λus=>.ok (u::us)else dF b c d ρ ts
def fL(ks:List Nat)(di:Fr->Res (List T))(b:T->Fr->Option Fr)(c:Fr->Res Bool)(d:Fr->Res T):Fr->Res T:=λρ=>
 (di ρ).bind λts=>if ts.length<=sizeLine then(dF b c d (kills ks ρ) ts).bind λus=>.ok (.lst true us)else .no
def cY:Fr->Res Bool:=λ_=>.ok true
theorem fB:RT Jn K cn E cm3 cY:=λAs H Z ρ σ F Q w=>w H Z F.mo0.postT
theorem Slots.clr{H:Hp}{Z:Addr->Prop}(ks:List Nat):∀{ρ:Fr}{σ:St}{As:List (List Addr)},Slots K cn H Z ρ σ As->Slots K cn H Z (kills ks ρ) (L2.clr ks σ) (eJ ks As):=by
 induction ks with
 |nil=>exact λh=>h
 |cons k ks ih=>exact λh=>ih (h.kill2 none k)
def sA(Jn:fM)(ks:List Nat):Bool:=ks.all (kW Jn)
theorem ah0:∀(ks:List Nat){σ:St},sA Jn ks=true->(∀p∈Jn,σ[p.1]?=some (some p.2))->∀p∈Jn,(L2.clr ks σ)[p.1]?=some (some p.2)
 |[],_,_,q=>q
 |k::ks,σ,h,q=>by
  unfold sA at h
  rw[List.all_cons,Bool.and_eq_true]at h
  exact ah0 ks h.2 (vV h.1 none q)
theorem Frm.clr{H:Hp}{Z:Addr->Prop}{ρ:Fr}{σ:St}{As:List (List Addr)}(ks:List Nat)(F:Frm Jn K cn H Z ρ σ As)(hk:sA Jn ks=true):Frm Jn K cn H Z (TL.kills ks ρ) (L2.clr ks σ) (eJ ks As):=
 ⟨F.sl.clr ks,(F.kills ks).nd,(F.kills ks).nz,F.zi,ah0 ks hk F.pn⟩
theorem bn9{ks:List Nat}{g:TG}{tc:TT}{te:TE}{b:T->Fr->Option Fr}{c:Fr->Res Bool}{d:Fr->Res T}(hg:RG Jn K cn ks g b)(hc:RT Jn K cn E tc c)(he:RE Jn K cn E [] te d)(hk:sA Jn ks=true)
 {As:List (List Addr)}{H:Hp}{Z:Addr->Prop}{ρ:Fr}{σ:St}(F:Frm Jn K cn H Z ρ σ As){J:It}{ts:List T}(hs:Src K cn false H Z J ts)(hl:ts.length<=sizeLine){Q:VK}
 (w:WpE K cn E As H Z [] Q ((dF b c d (kills ks ρ) ts).bind λus=>.ok (.lst true us))):CGo ks g tc te σ (λD H'=>Q (.ref D) H') J H:=by
 let R (us:List T) (rest:List T):Res T:=(dF b c d (kills ks ρ) rest).bind λus'=>.ok (.lst true (us++us'))
 refine⟨λi m ys H'=>m=ts.length-i/\i<=ts.length/\∃us Z' B,Mo H Z H' Z'/\Reps K cn H' Z' us ys B/\B.Nodup/\(∀x∈B,¬Z' x/\H x=none)/\us.length<=i/\WpE K cn E As H Z [] Q (R us (ts.drop i)),⟨ts.length,by simp,Nat.zero_le _,[],Z,[],F.mo0,Reps.nil,List.nodup_nil,cU,Nat.le_refl _,?_⟩,?_⟩
 . simpa[R]using w
 rintro i m ys H1 ⟨rfl,hi,us,Z1,B,m1,r1,nd,bz,hul,w⟩
 have hyl:=Reps.length us r1
 have s1:=hs.mo m1
 by_cases hlt:i<ts.length
 . obtain⟨t,et⟩:∃t,ts[i]?=some t:=⟨ts[i],List.getElem?_eq_getElem hlt⟩
   obtain⟨go,yl⟩:=s1.turn m1.zi et
   have ed:ts.drop i=t::ts.drop (i+1):=by
    have:=List.getElem?_eq_some_iff.mp et
    obtain⟨h1,h2⟩:=this
    rw[<-h2]
    exact List.drop_eq_getElem_cons hlt
   refine .inr ⟨go,by omega,_,λys' H' p'=>⟨ts.length-(i+1),by omega,p'⟩,λx H' y=>?_⟩
   obtain⟨my,rx⟩:=yl x H' y
   have r1:=r1.same my.same my.zz
   have m1:=m1.trans my
   have F1:=(F.mo m1).clr ks hk
   rw[ed]at w
   simp only[R,dF]at w
   cases eb:b t (kills ks ρ)with
   |none=>rw[eb]at w;exact w.elim
   |some ρ1=>
    rw[eb]at w
    simp only at w
    refine hg (eJ ks As) H' Z1 (kills ks ρ) (L2.clr ks σ) t x [] F1 rx List.nodup_nil (cU) (cU) _ ρ1 eb λσ2 As2 F2 o2 l2 k2=>⟨⟨?_,λj v hj=>?_⟩,?_⟩
    . rw[l2,nV]
    . have:=(ad1 ks σ hj).2
      rw[k2 j this,hj]
    refine hc As2 H' Z1 ρ1 σ2 F2 _ ?_
    have toX:∀{x:Exc}{H2:Hp}{Z2:Addr->Prop},Mo H' Z1 H2 Z2->WpX K cn E As H Z x->WpX K cn E As2 H2 Z2 x:=by
     intro x H2 Z2 m2 h
     refine h.ev (m1.trans m2).ev|>.ev ⟨λ_ _ q _=>q,λa ha=>?_,λ_ q=>q,λ_ q=>.inl q,λ_ q=>q⟩
     rcases o2 a ha with z|z
     . exact .inl (dZ z)
     . cases z
    cases ec:c ρ1 with
    |ok k=>
     rw[ec]at w
     intro H2 Z2 p2
     simp only[Res.bind]at w
     cases k with
     |true=>
      rw[if_pos rfl]at w
      rw[if_pos rfl]
      refine he As2 H2 Z2 ρ1 σ2 (F2.mo p2.mo) _ ?_
      cases ee:d ρ1 with
      |ok u=>
       rw[ee]at w
       intro v H3 Z3 C p3
       have m3:=(m1.trans p2.mo).trans p3.mo
       have bnC:∀y∈C,H2 y=none:=λy hy=>(p3.bn y hy).resolve_right (λ⟨i,hi,_⟩=>by cases hi)
       refine⟨rfl,hlt,us++[u],Z3,B++C,m3,Reps.append us (r1.same (p2.same.trans p3.same) (λa h=>p3.zz a (p2.zz a h))) (Reps.one p3.rep),?_,?_,by simp;omega,?_⟩
       . rw[List.nodup_append]
         refine⟨nd,p3.nd,λx hx y hy e=>?_⟩
         subst e
         obtain⟨o,ho,_⟩:=Reps.dom us r1 x hx
         have:=bnC x hy
         rw[p2.same x o ho]at this
         cases this
       . intro x hx
         rcases List.mem_append.mp hx with hx|hx
         . refine⟨λz=>?_,(bz x hx).2⟩
           obtain⟨o,ho,_⟩:=Reps.dom us r1 x hx
           rcases(p2.mo.trans p3.mo).zn x z with z|z
           . exact(bz x hx).1 z
           . rw[ho]at z;cases z
         . exact⟨p3.bz x hx,(m1.trans p2.mo).same.free (bnC x hx)⟩
       . simp only[R]
         have:∀r:Res (List T),((r.bind λus'=>Res.ok (u::us')).bind λus'=>Res.ok (T.lst true (us++us')))=r.bind λus'=>Res.ok (T.lst true (us++[u]++us')):=by
          intro r
          cases r<;>simp[Res.bind]
         simp only at w
         rw[<-this]
         exact w
      |ex x=>rw[ee]at w;exact toX p2.mo w
      |no=>rw[ee]at w;exact w.elim
     |false=>
      rw[if_neg (by decide)]at w
      rw[if_neg (by decide)]
      refine⟨rfl,hlt,us,Z2,B,m1.trans p2.mo,r1.same p2.same p2.zz,nd,λx hx=>⟨λz=>?_,(bz x hx).2⟩,by omega,w⟩
      obtain⟨o,ho,_⟩:=Reps.dom us r1 x hx
      rcases p2.zn x z with z|z
      . exact(bz x hx).1 z
      . rw[ho]at z;cases z
    |ex x=>rw[ec]at w;exact toX ⟨Same.refl _,λ_ h=>h,λ_ h=>.inl h,m1.zi⟩ w
    |no=>rw[ec]at w;exact w.elim
 . have ei:i=ts.length:=by omega
   subst ei
   refine .inl ⟨s1.stop (Nat.le_refl _),λD hD=>?_⟩
   rw[List.drop_length]at w
   simp only[R,dF,Res.bind,List.append_nil]at w
   have hm:=m1.trans (Mo.new (.lst ys) hD m1.zi)
   refine w (.ref D) _ Z1 (D::B) ⟨hm.same,hm.zz,hm.zn,hm.zi,?_,?_,?_,?_⟩
   . simp only[Rep]
     exact⟨D,ys,B,rfl,rfl,bZ,r1.same (zE hD _) (λ_ h=>h)⟩
   . refine List.nodup_cons.mpr ⟨λhb=>?_,nd⟩
     obtain⟨o,ho,_⟩:=Reps.dom us r1 D hb
     rw[ho]at hD;cases hD
   . intro x hx
     rcases List.mem_cons.mp hx with rfl|hx
     . exact λz=>m1.zi _ z hD
     . exact(bz x hx).1
   . intro x hx
     rcases List.mem_cons.mp hx with rfl|hx
     . exact .inl (m1.same.free hD)
     . exact .inl (bz x hx).2
theorem fE{ks:List Nat}{wi:TI}{g:TG}{tc:TT}{te:TE}{di:Fr->Res (List T)}{b:T->Fr->Option Fr}{c:Fr->Res Bool}{d:Fr->Res T}(hi:RI Jn K cn E false wi di)(hg:RG Jn K cn ks g b)(hc:RT Jn K cn E tc c)(he:RE Jn K cn E [] te d)(hk:sA Jn ks=true:=by rfl):
 RE Jn K cn E [] (bq7 ks wi g tc te) (fL ks di b c d):=λAs H Z ρ σ F Q w=>by
 unfold fL at w
 refine hi As H Z ρ σ F _ ?_
 cases e:di ρ with
 |ok ts=>
  rw[e]at w
  intro J H1 Z1 m s
  simp only[Res.bind]at w
  split at w
  . next hl=>exact bn9 hg hc he hk (F.mo m) s hl (WpE.mo F w m)
  . exact w.elim
 |ex x=>rw[e]at w;exact w
 |no=>rw[e]at w;exact w
def aX(a b:Fr->bP):Fr->bP:=λρ=>match a ρ with
 |.nx ρ'=>b ρ'
 |o=>o
def dM:Fr->bP:=λρ=>.nx ρ
theorem cI:RS Jn K cn E bc7 dM:=λAs H Z ρ σ F D w=>w σ As H Z F Ev.refl
theorem aU{t u:TS}{a b:Fr->bP}(ha:RS Jn K cn E t a)(hb:RS Jn K cn E u b):RS Jn K cn E (ca1 t u) (aX a b):=λAs H Z ρ σ F D w=>by
 unfold aX at w
 refine ha As H Z ρ σ F _ ?_
 cases e:a ρ with
 |nx ρ'=>
  rw[e]at w
  exact λσ' As' H' Z' F' ev=>hb As' H' Z' ρ' σ' F' D (Wp.ev w ev)
 |bk ρ'=>rw[e]at w;exact w
 |ct ρ'=>rw[e]at w;exact w
 |rt t=>rw[e]at w;exact w
 |rm ρ' t=>rw[e]at w;exact w
 |ex x=>rw[e]at w;exact w
 |no=>rw[e]at w;exact w
theorem RS.frz{t:TS}{a:Fr->bP}(i:Nat)(h:RS Jn K cn E t a):RS Jn K cn E t (λρ=>a (af0 i ρ)):=λAs H Z ρ σ F D w=>by
 obtain⟨Z',As',F',ev⟩:=F.frz i
 exact h As' H Z' _ σ F' D (Wp.ev w ev)
def bY(mv:List Nat)(d:Fr->Res T)(b:T->Fr->Option Fr):Fr->bP:=λρ=>match d ρ with
 |.ok t=>match b t (kills mv ρ)with
  |some ρ'=>.nx ρ'
  |none=>.no
 |.ex x=>.ex x
 |.no=>.no
theorem Post.out{As:List (List Addr)}{H H':Hp}{Z Z':Addr->Prop}{ρ:Fr}{σ:St}{mv:List Nat}{t:T}{v:V}{B:List Addr}(F:Frm Jn K cn H Z ρ σ As)(p:Post K cn As H Z mv H' Z' t v B):∀x∈B,x∉(eJ mv As).flatten:=λx hx hA=>by
 rcases p.bn x hx with z|⟨i,hi,z⟩
 . obtain⟨o,ho,_⟩:=F.sl.dom x (dZ hA)
   rw[ho]at z;cases z
 . exact pH F.nd hi z hA
theorem Post.inA{As:List (List Addr)}{H H':Hp}{Z Z':Addr->Prop}{mv:List Nat}{t:T}{v:V}{B:List Addr}(p:Post K cn As H Z mv H' Z' t v B):∀x∈B,x∈As.flatten\/H x=none:=λx hx=>by
 rcases p.bn x hx with z|⟨i,hi,z⟩
 . exact .inr z
 . exact .inl (aV z)
theorem bJ{ks mv:List Nat}{te:TE}{g:TG}{d:Fr->Res T}{b:T->Fr->Option Fr}(he:RE Jn K cn E mv te d)(hg:RG Jn K cn ks g b):RS Jn K cn E (az3 te g) (bY mv d b):=λAs H Z ρ σ F D w=>by
 unfold bY at w
 refine he As H Z ρ σ F _ ?_
 cases e:d ρ with
 |ok t=>
  rw[e]at w
  intro v H1 Z1 B p
  simp only at w
  cases eb:b t (kills mv ρ)with
  |none=>rw[eb]at w;exact w.elim
  |some ρ'=>
   rw[eb]at w
   refine hg (eJ mv As) H1 Z1 (kills mv ρ) σ t v B ((F.mo p.mo).kills mv) p.rep p.nd p.bz (p.out F) _ ρ' eb λσ' As' F' o' _ _=>?_
   refine w σ' As' H1 Z1 F' ⟨λa o h _=>p.same a o h,λa ha=>?_,p.zz,λa h=>(p.zn a h).imp_right .inr,λa h=>p.same.free h⟩
   rcases o' a ha with z|z
   . exact .inl (dZ z)
   . exact p.inA a z
 |ex x=>rw[e]at w;exact w
 |no=>rw[e]at w;exact w
theorem qP{k:Nat}{ks:List Nat}{wi:TI}{g:TG}{tc:TT}{te:TE}{di:Fr->Res (List T)}{b:T->Fr->Option Fr}{c:Fr->Res Bool}{d:Fr->Res T}(hi:RI Jn K cn E false wi di)(hg:RG Jn K cn ks g b)(hc:RT Jn K cn E tc c)(he:RE Jn K cn E [] te d)(hk:sA Jn ks=true:=by rfl)(hJ:kW Jn k=true:=by rfl):
 RS Jn K cn E (aw5 k ks wi g tc te) (bY [] (fL ks di b c d) (aQ k)):=λAs H Z ρ σ F D w=>
 bJ (fE hi hg hc he hk) (aT k hJ) As H Z ρ σ F D w
def cS(mv:List Nat)(d:Fr->Res T):Fr->bP:=λρ=>match d ρ with
 |.ok t=>.rt t
 |.ex x=>.ex x
 |.no=>.no
theorem bN{mv:List Nat}{te:TE}{d:Fr->Res T}(he:RE Jn K cn E mv te d):RS Jn K cn E (bq5 te) (cS mv d):=λAs H Z ρ σ F D w=>by
 unfold cS at w
 refine he As H Z ρ σ F _ ?_
 cases e:d ρ with
 |ok t=>
  rw[e]at w
  intro v H1 Z1 B p
  refine w v H1 Z1 B ⟨⟨λa o h _=>p.same a o h,λa ha=>?_,p.zz,λa h=>(p.zn a h).imp_right .inr,λa h=>p.same.free h⟩,p.rep,p.nd,p.bz,p.zi⟩
  rw[List.flatten_cons,List.flatten_nil,List.append_nil]at ha
  exact p.inA a ha
 |ex x=>rw[e]at w;exact w
 |no=>rw[e]at w;exact w
def gJ(c:Fr->Res Bool)(a b:Fr->bP):Fr->bP:=λρ=>match c ρ with
 |.ok k=>if k=true then a ρ else b ρ
 |.ex x=>.ex x
 |.no=>.no
theorem dU{tt:TT}{t u:TS}{c:Fr->Res Bool}{a b:Fr->bP}(hc:RT Jn K cn E tt c)(ha:RS Jn K cn E t a)(hb:RS Jn K cn E u b):RS Jn K cn E (cp2 tt t u) (gJ c a b):=λAs H Z ρ σ F D w=>by
 unfold gJ at w
 refine hc As H Z ρ σ F _ ?_
 cases e:c ρ with
 |ok k=>
  rw[e]at w
  intro H1 Z1 p
  simp only at w
  split
  . next h=>rw[if_pos h]at w;exact ha As H1 Z1 ρ σ (F.mo p.mo) D (Wp.ev w p.mo.ev)
  . next h=>rw[if_neg h]at w;exact hb As H1 Z1 ρ σ (F.mo p.mo) D (Wp.ev w p.mo.ev)
 |ex x=>rw[e]at w;exact w
 |no=>rw[e]at w;exact w
def cw4(d:Fr->Res T):Fr->bP:=λρ=>match d ρ with
 |.ok _=>.nx ρ
 |.ex x=>.ex x
 |.no=>.no
def ca4:Fr->bP:=λρ=>.bk ρ
def ch7:Fr->bP:=λρ=>.ct ρ
def jG(b:T->Fr->Option Fr)(body:Fr->bP):List T->Fr->bP
 |[],ρ=>.nx ρ
 |t::ts,ρ=>match b t ρ with
  |none=>.no
  |some ρ1=>match body ρ1 with
   |.nx ρ2=>jG b body ts ρ2
   |.ct ρ2=>jG b body ts ρ2
   |.bk ρ2=>.nx ρ2
   |o=>o
def oT(di:Fr->Res (List T))(b:T->Fr->Option Fr)(body:Fr->bP):Fr->bP:=λρ=>match di ρ with
 |.ok ts=>jG b body ts ρ
 |.ex x=>.ex x
 |.no=>.no
theorem mK{ks:List Nat}{wi:TI}{g:TG}{tb:TS}{di:Fr->Res (List T)}{b:T->Fr->Option Fr}{body:Fr->bP}(hi:RI Jn K cn E true wi di)(hg:RG Jn K cn ks g b)(hb:RS Jn K cn E tb body):RS Jn K cn E (bg5 wi g tb) (oT di b body):=λAs H Z ρ σ F D w=>by
 unfold oT at w
 refine hi As H Z ρ σ F _ ?_
 cases e:di ρ with
 |ok ts=>
  rw[e]at w
  intro J H1 Z1 m s
  refine⟨λi k σ' H'=>k=ts.length-i/\i<=ts.length/\∃ρ' Z' As',Frm Jn K cn H' Z' ρ' σ' As'/\Src K cn true H' Z' J ts/\Wp Jn K cn E As' H' Z' D (jG b body (ts.drop i) ρ'),⟨ts.length,by simp,Nat.zero_le _,ρ,Z1,As,F.mo m,s,Wp.ev w m.ev⟩,?_⟩
  rintro i k σ1 H2 ⟨rfl,hle,ρ1,Z2,As1,F1,s1,w1⟩
  by_cases hlt:i<ts.length
  . obtain⟨t,et⟩:∃t,ts[i]?=some t:=⟨ts[i],List.getElem?_eq_getElem hlt⟩
    obtain⟨go,yl⟩:=s1.turn F1.zi et
    have ed:ts.drop i=t::ts.drop (i+1):=by
     obtain⟨h1,h2⟩:=List.getElem?_eq_some_iff.mp et
     rw[<-h2]
     exact List.drop_eq_getElem_cons hlt
    refine .inr ⟨go,_,λσ' H' p'=>⟨ts.length-(i+1),by omega,p'⟩,λx H' y=>?_⟩
    obtain⟨my,rx⟩:=yl x H' y
    have F1:=F1.mo my
    have s1:=s1.mo my
    have w1:=Wp.ev w1 (my.ev (As:=As1))
    rw[ed]at w1
    simp only[jG]at w1
    cases eb:b t ρ1 with
    |none=>rw[eb]at w1;exact w1.elim
    |some ρ2=>
     rw[eb]at w1
     simp only at w1
     refine hg As1 H' Z2 ρ1 σ1 t x [] F1 rx List.nodup_nil (cU) (cU) _ ρ2 eb λσ2 As2 F2 o2 _ _=>?_
     have ev2:Ev As1 H' Z2 As2 H' Z2:=⟨λ_ _ q _=>q,λa ha=>.inl ((o2 a ha).resolve_right ((λz=>nomatch z))),λ_ q=>q,λ_ q=>.inl q,λ_ q=>q⟩
     refine hb As2 H' Z2 ρ2 σ2 F2 _ ?_
     have w2:=Wp.ev w1 ev2
     cases eo:body ρ2 with
     |nx ρ3=>
      rw[eo]at w2
      exact λσ' As' H'' Z' F' ev=>⟨rfl,hlt,ρ3,Z',As',F',(s1.ev F1 ev2).ev F2 ev,Wp.ev w2 ev⟩
     |ct ρ3=>
      rw[eo]at w2
      exact λσ' As' H'' Z' F' ev=>⟨rfl,hlt,ρ3,Z',As',F',(s1.ev F1 ev2).ev F2 ev,Wp.ev w2 ev⟩
     |bk ρ3=>rw[eo]at w2;exact w2
     |rt t=>rw[eo]at w2;exact w2
     |rm ρ3 t=>rw[eo]at w2;exact w2
     |ex x=>rw[eo]at w2;exact w2
     |no=>rw[eo]at w2;exact w2
  . have ei:i=ts.length:=by omega
    subst ei
    rw[List.drop_length]at w1
    exact .inl ⟨s1.stop (Nat.le_refl _),w1 σ1 As1 H2 Z2 F1 Ev.refl⟩
 |ex x=>rw[e]at w;exact w
 |no=>rw[e]at w;exact w
def nT(c:Fr->Res Bool)(body:Fr->bP):Nat->Fr->bP
 |0,_=>.no
 |n+1,ρ=>match c ρ with
  |.ok k=>if k=true then match body ρ with
   |.nx ρ2=>nT c body n ρ2
   |.ct ρ2=>nT c body n ρ2
   |.bk ρ2=>.nx ρ2
   |o=>o
   else .nx ρ
  |.ex x=>.ex x
  |.no=>.no
theorem am7:∃n:Nat,10^12<=n:=⟨_,Nat.le_refl _⟩
noncomputable def sN:Nat:=Classical.choose am7
theorem ck0:10^12<=sN:=Classical.choose_spec am7
noncomputable def rF(c:Fr->Res Bool)(body:Fr->bP):Fr->bP:=nT c body sN
theorem al4{tc:TT}{tb:TS}{c:Fr->Res Bool}{body:Fr->bP}(hc:RT Jn K cn E tc c)(hb:RS Jn K cn E tb body):RS Jn K cn E (bx1 tc tb) (rF c body):=λAs H Z ρ σ F D w=>by
 unfold rF at w
 refine⟨λn σ' H'=>∃ρ' Z' As',Frm Jn K cn H' Z' ρ' σ' As'/\Wp Jn K cn E As' H' Z' D (nT c body n ρ'),⟨sN,ρ,Z,As,F,w⟩,?_⟩
 rintro n σ1 H1 ⟨ρ1,Z1,As1,F1,w1⟩
 cases n with
 |zero=>exact w1.elim
 |succ n=>
  refine hc As1 H1 Z1 ρ1 σ1 F1 _ ?_
  simp only[nT]at w1
  cases ec:c ρ1 with
  |ok k=>
   rw[ec]at w1
   intro H2 Z2 p2
   simp only at w1
   cases k with
   |true=>
    rw[if_pos rfl]at w1
    rw[if_pos rfl]
    refine⟨λσ' H'=>∃ρ' Z' As',Frm Jn K cn H' Z' ρ' σ' As'/\Wp Jn K cn E As' H' Z' D (nT c body n ρ'),λσ' H' p'=>⟨n,Nat.lt_succ_self _,p'⟩,?_⟩
    refine hb As1 H2 Z2 ρ1 σ1 (F1.mo p2.mo) _ ?_
    have w2:=Wp.ev w1 p2.mo.ev
    cases eo:body ρ1 with
    |nx ρ3=>rw[eo]at w2;exact λσ' As' H'' Z' F' ev=>⟨ρ3,Z',As',F',Wp.ev w2 ev⟩
    |ct ρ3=>rw[eo]at w2;exact λσ' As' H'' Z' F' ev=>⟨ρ3,Z',As',F',Wp.ev w2 ev⟩
    |bk ρ3=>rw[eo]at w2;exact w2
    |rt t=>rw[eo]at w2;exact w2
    |rm ρ3 t=>rw[eo]at w2;exact w2
    |ex x=>rw[eo]at w2;exact w2
    |no=>rw[eo]at w2;exact w2
   |false=>
    rw[if_neg (by decide)]at w1
    rw[if_neg (by decide)]
    exact w1 σ1 As1 H2 Z2 (F1.mo p2.mo) p2.mo.ev
  |ex x=>rw[ec]at w1;exact w1
  |no=>rw[ec]at w1;exact w1
end
end TL
namespace TL
open PySem PySem.Spec PyProof.Rows L2
section
variable {Jn : fM} {K : PySem.W.Frag} {cn : Str → Option Addr} {E : XK}
def iQ(t':T):List Nat->T->Option T
 |[],_=>some t'
 |k::p,.lst o ts=>match ts[k]? with
  |some t=>(iQ t' p t).map λu=>.lst o (ts.set k u)
  |none=>none
 |k::p,.tup ts=>match ts[k]? with
  |some t=>(iQ t' p t).map λu=>.tup (ts.set k u)
  |none=>none
 |k::p,.ins o c ns ts=>match ts[k]? with
  |some t=>(iQ t' p t).map λu=>.ins o c ns (ts.set k u)
  |none=>none
 |_::_,_=>none
structure Plug (K:PySem.W.Frag) (cn:Str->Option Addr) (H:Hp) (Z:Addr->Prop) (t0:T) (v0:V) (A0:List Addr) (p:List Nat) (u:T) (v:V) (B:List Addr):Prop where
 rep:Rep K cn H Z u v B
 sub:B.Sublist A0
 plug:∀H' Z' u' B',(∀a,Z a->Z' a)->(∀b o,H b=some o->((b∈A0/\b∉B)\/Z b\/nO o=true)->H' b=some o)->Rep K cn H' Z' u' v B'->B'.Nodup->(∀x∈B',x∈A0->x∈B)->
  ∃t' A',iQ u' p t0=some t'/\Rep K cn H' Z' t' v0 A'/\A'.Nodup/\∀x∈A',(x∈A0/\x∉B)\/x∈B'
theorem Plug.mo{H H1:Hp}{Z Z1:Addr->Prop}{t0 u:T}{v0 v:V}{A0 B:List Addr}{p:List Nat}(h:Plug K cn H Z t0 v0 A0 p u v B)(s:Same H H1)(zz:∀a,Z a->Z1 a):Plug K cn H1 Z1 t0 v0 A0 p u v B:=
 ⟨h.rep.same s zz,h.sub,λH' Z' u' B' z k=>h.plug H' Z' u' B' (λa q=>z a (zz a q)) λb o q c=>k b o (s b o q) (by
  rcases c with c|c|c
  . exact .inl c
  . exact .inr (.inl (zz b c))
  . exact .inr (.inr c))⟩
theorem Plug.root{H:Hp}{Z:Addr->Prop}{t0:T}{v0:V}{A0:List Addr}(h:Rep K cn H Z t0 v0 A0):Plug K cn H Z t0 v0 A0 [] t0 v0 A0:=
 ⟨h,List.Sublist.refl _,λH' Z' u' B' z k r nd _=>⟨u',B',rfl,r,nd,λx hx=>.inr hx⟩⟩
theorem Reps.splice{H:Hp}{Z:Addr->Prop}:∀(ts:List T){vs:List V}{A:List Addr}{k:Nat}{t:T},Reps K cn H Z ts vs A->ts[k]?=some t->∃v B1 B B2,vs[k]?=some v/\A=B1++B++B2/\Rep K cn H Z t v B/\
 ∀H' Z' t' B',(∀a,Z a->Z' a)->(∀b o,H b=some o->(b∈B1\/b∈B2\/Z b\/nO o=true)->H' b=some o)->Rep K cn H' Z' t' v B'->Reps K cn H' Z' (ts.set k t') vs (B1++B'++B2)
 |[],_,_,_,_,h,e=>by simp at e
 |t::ts,vs,A,0,t',h,e=>by
  simp only[Reps]at h
  obtain⟨v,r,B,C,rfl,rfl,h1,h2⟩:=h
  simp at e
  subst e
  refine⟨v,[],B,C,rfl,by simp,h1,λH' Z' u B' z k q=>?_⟩
  simp only[List.set_cons_zero,Reps]
  exact⟨v,r,B',C,rfl,by simp,q,Reps.keep ts h2 (λb o e c=>k b o e (.inr c)) z⟩
 |t::ts,vs,A,k+1,t',h,e=>by
  simp only[Reps]at h
  obtain⟨v,r,B,C,rfl,rfl,h1,h2⟩:=h
  obtain⟨v',B1,B',B2,e1,rfl,e3,e4⟩:=Reps.splice ts (k:=k) h2 (by simpa using e)
  refine⟨v',B++B1,B',B2,by simpa using e1,by simp,e3,λH' Z' u C' z kk q=>?_⟩
  simp only[List.set_cons_succ,Reps]
  refine⟨v,r,B,B1++C'++B2,rfl,by simp,Rep.keep t h1 (λb o e c=>kk b o e ?_) z,e4 H' Z' u C' z (λb o e c=>kk b o e ?_) q⟩
  . rcases c with c|c
    . exact .inl (List.mem_append_left _ c)
    . exact .inr (.inr c)
  . rcases c with c|c
    . exact .inl (List.mem_append_right _ c)
    . exact .inr c
def gT:List Nat->T->Option T
 |[],t=>some t
 |k::p,.lst _ ts=>(ts[k]?).bind (gT p)
 |k::p,.tup ts=>(ts[k]?).bind (gT p)
 |k::p,.ins _ _ _ ts=>(ts[k]?).bind (gT p)
 |_::_,_=>none
theorem qQ{t' u2:T}{k:Nat}:∀(p:List Nat)(t0 u:T),gT p t0=some u->iQ t' [k] u=some u2->iQ t' (p++[k]) t0=iQ u2 p t0
 |[],t0,u,h,e=>by cases h;exact e
 |j::p,t0,u,h,e=>by
  cases t0 with
  |lst o ts=>
   simp only[gT]at h
   cases q:ts[j]? with
   |none=>rw[q]at h;cases h
   |some t=>
    rw[q]at h
    simp only[List.cons_append,iQ,q]
    rw[qQ p t u h e]
  |tup ts=>
   simp only[gT]at h
   cases q:ts[j]? with
   |none=>rw[q]at h;cases h
   |some t=>
    rw[q]at h
    simp only[List.cons_append,iQ,q]
    rw[qQ p t u h e]
  |ins o c ns ts=>
   simp only[gT]at h
   cases q:ts[j]? with
   |none=>rw[q]at h;cases h
   |some t=>
    rw[q]at h
    simp only[List.cons_append,iQ,q]
    rw[qQ p t u h e]
  |_=>cases h
def xZ(u:T)(ts:List T):T:=match u with
 |.lst o _=>.lst o ts
 |.ins o c ns _=>.ins o c ns ts
 |_=>.tup ts
theorem Plug.step{H:Hp}{Z:Addr->Prop}{t0 u u2:T}{v0 v:V}{A0 B:List Addr}{p:List Nat}{k:Nat}(h:Plug K cn H Z t0 v0 A0 p u v B)(nd:A0.Nodup)(hn:gT p t0=some u){ts:List T}{vs:List V}{C:List Addr}(r:Reps K cn H Z ts vs C)(hC:C.Sublist B)(e:ts[k]?=some u2)
 (hs:∀t',iQ t' [k] u=some (xZ u (ts.set k t')))
 (back:∀H' Z' t' C',(∀a,Z a->Z' a)->(∀b o,H b=some o->((b∈B/\b∉C)\/Z b\/nO o=true)->H' b=some o)->Reps K cn H' Z' (ts.set k t') vs C'->C'.Nodup->(∀x∈C',x∈B->x∈C)->∃B',Rep K cn H' Z' (xZ u (ts.set k t')) v B'/\B'.Nodup/\∀x∈B',(x∈B/\x∉C)\/x∈C'):
 ∃w D,vs[k]?=some w/\Plug K cn H Z t0 v0 A0 (p++[k]) u2 w D:=by
 obtain⟨w,B1,D,B2,ew,rfl,rw',put⟩:=Reps.splice ts r e
 have ndB:B.Nodup:=nd.sublist h.sub
 have ndC:=ndB.sublist hC
 have dsub:D.Sublist (B1++D++B2):=(List.sublist_append_right B1 D).trans (List.sublist_append_left _ B2)
 have hDB:∀x∈D,x∈B:=λx hx=>hC.mem (dsub.mem hx)
 refine⟨w,D,ew,rw',dsub.trans (hC.trans h.sub),λH' Z' u' D' z kk q ndD hD=>?_⟩
 have nd1:=ndC
 rw[List.append_assoc,List.nodup_append]at nd1
 obtain⟨n1,n2,n3⟩:=nd1
 rw[List.nodup_append]at n2
 obtain⟨n4,n5,n6⟩:=n2
 have inC1:∀x∈B1,x∈B1++D++B2:=λx hx=>List.mem_append_left _ (List.mem_append_left _ hx)
 have inC2:∀x∈B2,x∈B1++D++B2:=λx hx=>List.mem_append_right _ hx
 have o1:∀x∈B1,x∈A0/\x∉D:=λx hx=>⟨h.sub.mem (hC.mem (inC1 x hx)),λhd=>n3 x hx x (List.mem_append_left _ hd) rfl⟩
 have o2:∀x∈B2,x∈A0/\x∉D:=λx hx=>⟨h.sub.mem (hC.mem (inC2 x hx)),λhd=>n6 x hd x hx rfl⟩
 have rs:=put H' Z' u' D' z (λb o q c=>kk b o q (by
  rcases c with c|c|c
  . exact .inl (o1 b c)
  . exact .inl (o2 b c)
  . exact .inr c)) q
 have ndN:(B1++D'++B2).Nodup:=by
  rw[List.append_assoc,List.nodup_append]
  refine⟨n1,?_,λx hx y hy e=>?_⟩
  . rw[List.nodup_append]
    refine⟨ndD,n5,λx hx y hy e=>?_⟩
    subst e
    exact(o2 x hy).2 (hD x hx (o2 x hy).1)
  . subst e
    rcases List.mem_append.mp hy with hy|hy
    . exact(o1 x hx).2 (hD x hy (o1 x hx).1)
    . exact n3 x hx x (List.mem_append_right _ hy) rfl
 obtain⟨B',rB,ndB',hB'⟩:=back H' Z' u' _ z (λb o q c=>kk b o q (by
  rcases c with⟨c1,c2⟩|c
  . exact .inl ⟨h.sub.mem c1,λhd=>c2 (dsub.mem hd)⟩
  . exact .inr c)) rs ndN (λx hx hb=>by
    rcases List.mem_append.mp hx with hx|hx
    . rcases List.mem_append.mp hx with hx|hx
      . exact inC1 x hx
      . exact dsub.mem (hD x hx (h.sub.mem hb))
    . exact inC2 x hx)
 obtain⟨t',A',e1,r1,nd',hA'⟩:=h.plug H' Z' _ B' z (λb o q c=>kk b o q (by
  rcases c with⟨c1,c2⟩|c
  . exact .inl ⟨c1,λhd=>c2 (hDB b hd)⟩
  . exact .inr c)) rB ndB' (λx hx ha=>by
    rcases hB' x hx with⟨q,_⟩|q
    . exact q
    . rcases List.mem_append.mp q with q|q
      . rcases List.mem_append.mp q with q|q
        . exact hC.mem (inC1 x q)
        . exact hDB x (hD x q ha)
      . exact hC.mem (inC2 x q))
 refine⟨t',A',?_,r1,nd',λx hx=>?_⟩
 . rw[qQ p t0 u hn (hs u')]
   exact e1
 . rcases hA' x hx with⟨q1,q2⟩|q
   . exact .inl ⟨q1,λhd=>q2 (hDB x hd)⟩
   . rcases hB' x q with⟨q1,q2⟩|q
     . exact .inl ⟨h.sub.mem q1,λhd=>q2 (dsub.mem hd)⟩
     . rcases List.mem_append.mp q with q|q
       . rcases List.mem_append.mp q with q|q
         . exact .inl (o1 x q)
         . exact .inr q
       . exact .inl (o2 x q)
def WpP(K:PySem.W.Frag)(cn:Str->Option Addr)(E:XK)(As:List (List Addr))(H:Hp)(Z:Addr->Prop)(A0:List Addr)(t0:T)(v0:V)(Q:VK):Res (List Nat)->Prop
 |.ok p=>∀u v B H' Z',Mo H Z H' Z'->gT p t0=some u->Plug K cn H' Z' t0 v0 A0 p u v B->Q v H'
 |.ex x=>WpX K cn E As H Z x
 |.no=>False
def RP(Jn:fM)(K:PySem.W.Frag)(cn:Str->Option Addr)(E:XK)(j:Nat)(to:TE)(d:Fr->Res (List Nat)):Prop:=∀As H Z ρ σ,Frm Jn K cn H Z ρ σ As->∀t0 v0,ρ[j]?=some (some t0)->σ[j]?=some (some v0)->Rep K cn H Z t0 v0 (As.getD j [])->∀Q,WpP K cn E As H Z (As.getD j []) t0 v0 Q (d ρ)->to σ H Q
def gQ:Fr->Res (List Nat):=λ_=>.ok []
theorem fT(j:Nat):RP Jn K cn E j (oF j) gQ:=λAs H Z ρ σ F t0 v0 e1 e2 r Q w=>⟨v0,e2,w t0 v0 _ H Z F.mo0 rfl (Plug.root r)⟩
def cz8:T->Option (List T)
 |.lst o ts=>if o=true then some ts else none
 |.tup ts=>some ts
 |_=>none
def pIx(j:Nat)(d:Fr->Res (List Nat))(i:Fr->Res T):Fr->Res (List Nat):=λρ=>(d ρ).bind λp=>(i ρ).bind λx=>match ρ[j]?,x with
 |some (some t0),.int n=>match(gT p t0).bind cz8 with
  |some ts=>match rQ ts.length n with
   |some k=>.ok (p++[k])
   |none=>.no
  |none=>.no
 |_,_=>.no
theorem kS{As:List (List Addr)}(h:As.flatten.Nodup)(i:Nat):(As.getD i []).Nodup:=by
 rw[List.getD_eq_getElem?_getD]
 cases q:As[i]? with
 |none=>exact List.nodup_nil
 |some C=>exact List.Nodup.sublist (List.sublist_flatten_of_mem (List.mem_of_getElem? q)) h
theorem cl2{n k:Nat}{i:Int}(h:rQ n i=some k):k<n:=(ab1 h).2.1
def uL(j:Nat)(p:List Nat)(us:List T)(ρ:Fr):bP:=match ρ[j]? with
 |some (some t0)=>match iQ (.lst true us) p t0 with
  |some t'=>.nx (ρ.set j (some t'))
  |none=>.no
 |_=>.no
def aj4(j:Nat)(p:List Nat)(u:T)(ρ:Fr):bP:=match ρ[j]? with
 |some (some t0)=>match iQ u p t0 with
  |some t'=>.nx (ρ.set j (some t'))
  |none=>.no
 |_=>.no
theorem at1{As As1:List (List Addr)}{H H1:Hp}{Z Z1:Addr->Prop}{ρ1:Fr}{σ:St}{j:Nat}{t0:T}{v0:V}{p:List Nat}{u u':T}{v:V}{B:List Addr}{D:oG}
 (F1:Frm Jn K cn H1 Z1 ρ1 σ As1)(e1:ρ1[j]?=some (some t0))(e2:σ[j]?=some (some v0))(pl:Plug K cn H1 Z1 t0 v0 (As1.getD j []) p u v B)
 {a:Addr}{o0 o1:HO}{C0 C:List Addr}(ev:v=.ref a)(eB:B=a::C0)(ha:H1 a=some o0)(hi:nO o0=false)(hC:a∉C->¬Z1 a->Rep K cn (L2.upd H1 a o1) Z1 u' (.ref a) (a::C))(ndC:C.Nodup)(hCz:∀x∈C,¬Z1 x)(hCa:∀x∈C,x∈As1.flatten->x∈C0)
 (evl:Ev As H Z As1 H1 Z1)(hCn:∀x∈C,x∈As.flatten\/H x=none)(w:Wp Jn K cn E As H Z D (aj4 j p u' ρ1)):D.nx σ (L2.upd H1 a o1):=by
 subst ev eB
 have nd:=kS F1.nd j
 have ndB:(a::C0).Nodup:=nd.sublist pl.sub
 have aA:a∈As1.getD j []:=pl.sub.mem List.mem_cons_self
 have aZ:¬Z1 a:=F1.nz a (aV aA)
 have aC:a∉C:=λh=>(List.nodup_cons.mp ndB).1 (hCa a h (aV aA))
 obtain⟨t',A',es,r',ndA,hA⟩:=pl.plug (L2.upd H1 a o1) Z1 u' (a::C) (λ_ h=>h) (λb o q c=>by
  rw[aY]
  . exact q
  . rintro rfl
    rcases c with c|c|c
    . exact c.2 List.mem_cons_self
    . exact aZ c
    . rw[ha]at q;cases q;rw[hi]at c;cases c) (hC aC aZ) (List.nodup_cons.mpr ⟨aC,ndC⟩) (λx hx hxa=>by
    rcases List.mem_cons.mp hx with rfl|hx
    . exact List.mem_cons_self
    . exact List.mem_cons_of_mem _ (hCa x hx (aV hxa)))
 unfold aj4 at w
 rw[e1]at w
 simp only[es]at w
 have hA':∀x∈A',x∈As1.getD j []\/x∈C:=λx hx=>by
  rcases hA x hx with q|q
  . exact .inl q.1
  . rcases List.mem_cons.mp q with rfl|q
    . exact .inl aA
    . exact .inr q
 have slots:∀{ρ:Fr}{σ:St}{As:List (List Addr)}{i:Nat},Slots K cn H1 Z1 ρ σ As->As.flatten.Nodup->(∀x∈As.flatten,x=a->x∈As.getD i [])->σ[i]?=some (some v0)->Slots K cn (L2.upd H1 a o1) Z1 (ρ.set i (some t')) σ (As.set i A'):=by
  intro ρ
  induction ρ with
  |nil=>intro σ As i h _ _ e;obtain⟨rfl,rfl⟩:=h;simp at e
  |cons o ρ ih=>
   intro σ As i h nd hx e
   obtain⟨w',σ',A,As',rfl,rfl,h1,h2⟩:=h
   rw[List.flatten_cons,List.nodup_append]at nd
   cases i with
   |zero=>
    simp at e
    subst e
    refine⟨_,σ',A',As',rfl,rfl,⟨v0,rfl,r'⟩,?_⟩
    have na:a∉As'.flatten:=λh=>by
     have:=hx a (by rw[List.flatten_cons,List.mem_append];exact .inr h) rfl
     exact nd.2.2 a (by simpa using this) a h rfl
    have:∀{ρ:Fr}{σ:St}{As:List (List Addr)},Slots K cn H1 Z1 ρ σ As->a∉As.flatten->Slots K cn (L2.upd H1 a o1) Z1 ρ σ As:=by
     intro ρ
     induction ρ with
     |nil=>intro σ As h _;exact h
     |cons o ρ ih=>
      intro σ As h hn
      obtain⟨w',σ',A,As',rfl,rfl,h1,h2⟩:=h
      rw[List.flatten_cons,List.mem_append,not_or]at hn
      refine⟨w',σ',A,As',rfl,rfl,?_,ih h2 hn.2⟩
      cases o with
      |none=>exact h1
      |some t=>obtain⟨v,e,r⟩:=h1;exact⟨v,e,r.upd ha hi hn.1 aZ⟩
    exact this h2 na
   |succ i=>
    refine⟨w',σ',A,As'.set i A',rfl,rfl,?_,ih h2 nd.2.1 (λx hx' ex=>?_) (by simpa using e)⟩
    . have na:a∉A:=λh=>by
       have:=hx a (by rw[List.flatten_cons,List.mem_append];exact .inl h) rfl
       have:a∈As'.getD i []:=by simpa using this
       exact nd.2.2 a h a (aV this) rfl
      cases o with
      |none=>exact h1
      |some t=>obtain⟨v,e,r⟩:=h1;exact⟨v,e,r.upd ha hi na aZ⟩
    . have:=hx x (by rw[List.flatten_cons,List.mem_append];exact .inr hx') ex
      simpa using this
 refine w σ (As1.set j A') _ Z1 ⟨slots F1.sl F1.nd (λx _ ex=>by rw[ex];exact aA) e2,kQ ndA F1.nd (λb hb hf=>?_),λb hb z=>?_,λb z=>?_,F1.pn⟩ ?_
 . rcases hA' b hb with q|q
   . exact q
   . exact pl.sub.mem (List.mem_cons_of_mem _ (hCa b q hf))
 . rcases dO hb with q|q
   . rcases hA' b q with q|q
     . exact F1.nz b (aV q) z
     . exact hCz b q z
   . exact F1.nz b q z
 . by_cases e:b=a
   . rw[e,bZ];exact(λz=>nomatch z)
   . rw[aY e];exact F1.zi b z
 . refine⟨λb o q hb=>?_,λb hb=>?_,evl.zz,evl.zn,λb hb=>evl.dom b ?_⟩
   . rw[aY]
     . exact evl.keep b o q hb
     . rintro rfl
       rcases evl.own b (aV aA)with z|z
       . exact hb z
       . rw[q]at z;cases z
   . rcases dO hb with q|q
     . rcases hA' b q with q|q
       . exact evl.own b (aV q)
       . exact hCn b q
     . exact evl.own b q
   . by_cases e:b=a
     . rw[e,bZ]at hb;cases hb
     . rw[aY e]at hb;exact hb
theorem wG{As As1:List (List Addr)}{H H1:Hp}{Z Z1:Addr->Prop}{ρ1:Fr}{σ:St}{j:Nat}{t0:T}{v0:V}{p:List Nat}{us us':List T}{v:V}{B:List Addr}{D:oG}
 (F1:Frm Jn K cn H1 Z1 ρ1 σ As1)(e1:ρ1[j]?=some (some t0))(e2:σ[j]?=some (some v0))(pl:Plug K cn H1 Z1 t0 v0 (As1.getD j []) p (.lst true us) v B)
 {a:Addr}{ws ws':List V}{C0 C:List Addr}(ev:v=.ref a)(eB:B=a::C0)(ha:H1 a=some (.lst ws))(hC:Reps K cn H1 Z1 us' ws' C)(ndC:C.Nodup)(hCz:∀x∈C,¬Z1 x)(hCa:∀x∈C,x∈As1.flatten->x∈C0)
 (evl:Ev As H Z As1 H1 Z1)(hCn:∀x∈C,x∈As.flatten\/H x=none)(w:Wp Jn K cn E As H Z D (uL j p us' ρ1)):D.nx σ (L2.upd H1 a (.lst ws')):=by
 subst ev eB
 refine at1 (E:=E) F1 e1 e2 pl rfl rfl ha rfl (u':=.lst true us') (λaC aZ=>?_) ndC hCz hCa evl hCn w
 simp only[Rep]
 exact⟨a,ws',C,rfl,rfl,bZ,Reps.upd hC ha rfl aC aZ⟩
def qZ(j:Nat)(mv:List Nat)(d:Fr->Res (List Nat))(e:Fr->Res T):Fr->bP:=λρ=>match ρ[j]? with
 |some (some t0)=>match d ρ with
  |.ok p=>match gT p t0 with
   |some (.lst true us)=>match e ρ with
    |.ok t=>if us.length<sizeLine then uL j p (us++[t]) (kills mv ρ)else .no
    |.ex x=>.ex x
    |.no=>.no
   |_=>.no
  |.ex x=>.ex x
  |.no=>.no
 |_=>.no
theorem uV{j:Nat}:∀(mv:List Nat),mv.contains j=false->∀As:List (List Addr),(eJ mv As).getD j []=As.getD j []
 |[],_,_=>rfl
 |i::is,h,As=>by
  simp only[List.contains_cons,Bool.or_eq_false_iff,beq_eq_false_iff_ne]at h
  show(eJ is (As.set i [])).getD j []=_
  rw[uV is h.2,List.getD_eq_getElem?_getD,List.getElem?_set_ne (Ne.symm h.1),<-List.getD_eq_getElem?_getD]
theorem wJ{j:Nat}:∀(mv:List Nat),mv.contains j=false->∀ρ:Fr,(kills mv ρ)[j]?=ρ[j]?
 |[],_,_=>rfl
 |i::is,h,ρ=>by
  simp only[List.contains_cons,Bool.or_eq_false_iff,beq_eq_false_iff_ne]at h
  show(kills is (ρ.set i none))[j]?=_
  rw[wJ is h.2,List.getElem?_set_ne (Ne.symm h.1)]
theorem pJ{j:Nat}{mv:List Nat}{to te:TE}{d:Fr->Res (List Nat)}{e:Fr->Res T}(hd:RP Jn K cn E j to d)(he:RE Jn K cn E mv te e)(hj:mv.contains j=false:=by rfl):RS Jn K cn E (ao0 (tBM K "list" yA to (jZ te pN))) (qZ j mv d e):=λAs H Z ρ σ F D w=>by
 unfold qZ at w
 cases e1:ρ[j]? with
 |none=>rw[e1]at w;exact w.elim
 |some o=>
  rw[e1]at w
  cases o with
  |none=>exact w.elim
  |some t0=>
   obtain⟨v0,e2,r0⟩:=F.sl.get e1
   refine hd As H Z ρ σ F t0 v0 e1 e2 r0 _ ?_
   simp only at w
   cases ed:d ρ with
   |ok p=>
    rw[ed]at w
    intro u v B H1 Z1 m1 hn pl
    simp only[hn]at w
    split at w
    . next us hq=>
      cases hq
      have q:=pl.rep
      simp only[Rep]at q
      obtain⟨a,ws,C0,rfl,rfl,ea,rs⟩:=q
      refine⟨.inl ⟨rfl,ws,SqL.of ea⟩,he As H1 Z1 ρ σ (F.mo m1) _ ?_⟩
      cases ee:e ρ with
      |ok t=>
       rw[ee]at w
       intro y H2 Z2 C p2
       simp only at w
       split at w
       . next hlen=>
         have pl2:=pl.mo p2.same p2.zz
         have ea2:=p2.same _ _ ea
         have rs2:=rs.same p2.same p2.zz
         refine⟨a,ws,y,rfl,rfl,ea2,by rw[Reps.length us rs];exact hlen,?_⟩
         have m2:=m1.trans p2.mo
         have F2:=(F.mo m2).kills mv
         have gD:(eJ mv As).getD j []=As.getD j []:=uV mv hj As
         have pl3:Plug K cn H2 Z2 t0 v0 ((eJ mv As).getD j []) p (.lst true us) (.ref a) (a::C0):=by rw[gD];exact pl2
         have ndB:(a::C0).Nodup:=(kS F.nd j).sublist pl.sub
         have c0A:∀x∈C0,x∈As.getD j []:=λx hx=>pl.sub.mem (List.mem_cons_of_mem _ hx)
         have cOut:∀x∈C,x∉(eJ mv As).flatten:=λx hx hA=>by
          rcases p2.bn x hx with z|⟨i,hi,z⟩
          . obtain⟨o,ho,_⟩:=(F.mo m1).sl.dom x (dZ hA)
            rw[ho]at z;cases z
          . exact pH F.nd hi z hA
         have c0In:∀x∈C0,x∈(eJ mv As).flatten:=λx hx=>aV (i:=j) (by rw[gD];exact c0A x hx)
         refine wG (As:=As) (H:=H) (Z:=Z) (E:=E) F2 (by rw[wJ mv hj];exact e1) e2 pl3 rfl rfl ea2 (us':=us++[t]) (ws':=ws++[y]) (C:=C0++C) (Reps.append us rs2 (Reps.one p2.rep)) ?_ ?_ ?_ ?_ ?_ w
         . rw[List.nodup_append]
           exact⟨(List.nodup_cons.mp ndB).2,p2.nd,λx hx y hy e=>by subst e;exact cOut x hy (c0In x hx)⟩
         . intro x hx
           rcases List.mem_append.mp hx with hx|hx
           . exact F2.nz x (c0In x hx)
           . exact p2.bz x hx
         . intro x hx hA
           rcases List.mem_append.mp hx with hx|hx
           . exact hx
           . exact absurd hA (cOut x hx)
         . exact⟨λb o q _=>m2.same b o q,λb hb=>.inl (dZ hb),m2.zz,λb h=>(m2.zn b h).imp_right .inr,λb h=>m2.same.free h⟩
         . intro x hx
           rcases List.mem_append.mp hx with hx|hx
           . exact .inl (aV (c0A x hx))
           . rcases p2.bn x hx with z|⟨i,hi,z⟩
             . exact .inr (m1.same.free z)
             . exact .inl (aV z)
       . exact w.elim
      |ex x=>rw[ee]at w;exact WpX.ev w m1.ev
      |no=>rw[ee]at w;exact w
    . exact w.elim
   |ex x=>rw[ed]at w;exact w
   |no=>rw[ed]at w;exact w
def yZ(j:Nat)(mv:List Nat)(e:Fr->Res T)(d:Fr->Res (List Nat))(i:Fr->Res T):Fr->bP:=λρ=>match e ρ with
 |.ok t=>match(kills mv ρ)[j]? with
  |some (some t0)=>match d (kills mv ρ)with
   |.ok p=>match gT p t0 with
    |some (.lst true us)=>match i (kills mv ρ)with
     |.ok (.int n)=>match rQ us.length n with
      |some k=>uL j p (us.set k t) (kills mv ρ)
      |none=>.no
     |.ok _=>.no
     |.ex x=>.ex x
     |.no=>.no
    |_=>.no
   |.ex x=>.ex x
   |.no=>.no
  |_=>.no
 |.ex x=>.ex x
 |.no=>.no
theorem Reps.put{H:Hp}{Z:Addr->Prop}{t:T}{y:V}{C:List Addr}(rt:Rep K cn H Z t y C):∀(us:List T){ws:List V}{A:List Addr}{k:Nat},Reps K cn H Z us ws A->k<us.length->∃B1 Bo B2,A=B1++Bo++B2/\Reps K cn H Z (us.set k t) (ws.set k y) (B1++C++B2)
 |[],_,_,_,_,e=>by simp at e
 |u::us,ws,A,0,r,e=>by
  simp only[Reps]at r
  obtain⟨v,r',P,Q',rfl,rfl,h1,h2⟩:=r
  refine⟨[],P,Q',by simp,?_⟩
  simp only[List.set_cons_zero,Reps]
  exact⟨y,r',C,Q',rfl,by simp,rt,h2⟩
 |u::us,ws,A,k+1,r,e=>by
  simp only[Reps]at r
  obtain⟨v,r',P,Q',rfl,rfl,h1,h2⟩:=r
  obtain⟨X1,X2,X3,rfl,hr⟩:=Reps.put rt us (k:=k) h2 (by simpa using e)
  refine⟨P++X1,X2,X3,by simp,?_⟩
  simp only[List.set_cons_succ,Reps]
  exact⟨v,r'.set k y,P,X1++C++X3,rfl,by simp,h1,hr⟩
theorem zV{j:Nat}{mv:List Nat}{te to ti:TE}{e:Fr->Res T}{d:Fr->Res (List Nat)}{i:Fr->Res T}(he:RE Jn K cn E mv te e)(hd:RP Jn K cn E j to d)(hi:RB Jn K cn E ti i):RS Jn K cn E (az3 te (cu2 to ti be7)) (yZ j mv e d i):=λAs H Z ρ σ F D w=>by
 unfold yZ at w
 refine he As H Z ρ σ F _ ?_
 cases ee:e ρ with
 |ok t=>
  rw[ee]at w
  intro y H1 Z1 C p1
  simp only at w
  have F1:=(F.mo p1.mo).kills mv
  cases e1:(kills mv ρ)[j]? with
  |none=>rw[e1]at w;exact w.elim
  |some o=>
   rw[e1]at w
   cases o with
   |none=>exact w.elim
   |some t0=>
    obtain⟨v0,e2,r0⟩:=F1.sl.get e1
    simp only at w
    have ev1:Ev As H Z (eJ mv As) H1 Z1:=⟨λb o q _=>p1.same b o q,λb hb=>.inl (dZ hb),p1.zz,λb h=>(p1.zn b h).imp_right .inr,λb h=>p1.same.free h⟩
    refine hd (eJ mv As) H1 Z1 (kills mv ρ) σ F1 t0 v0 e1 e2 r0 _ ?_
    cases ed:d (kills mv ρ)with
    |ok p=>
     rw[ed]at w
     intro u v B H2 Z2 m2 hn pl
     simp only[hn]at w
     split at w
     . next us hq=>
       cases hq
       refine hi (eJ mv As) H2 Z2 (kills mv ρ) σ (F1.mo m2) _ ?_
       cases ei:i (kills mv ρ)with
       |ok x=>
        rw[ei]at w
        intro vi H3 Z3 Bi p3
        cases x with
        |int n=>
         simp only at w
         have qi:=p3.rep
         simp only[Rep]at qi
         obtain⟨rfl,_⟩:=qi
         cases ek:rQ us.length n with
         |none=>rw[ek]at w;exact w.elim
         |some k=>
          rw[ek]at w
          have m3:=m2.trans p3.mo
          have pl3:=pl.mo p3.same p3.zz
          have q:=pl3.rep
          simp only[Rep]at q
          obtain⟨a,ws,C0,rfl,rfl,ea,rs⟩:=q
          have rt:Rep K cn H3 Z3 t y C:=p1.rep.same m3.same m3.zz
          have F3:=F1.mo m3
          have lw:=Reps.length us rs
          obtain⟨B1,Bo,B2,rfl,rs'⟩:=Reps.put rt us rs (cl2 ek)
          refine⟨a,ws,n,k,rfl,rfl,ea,by rw[lw];exact ek,?_⟩
          have ndB:(a::(B1++Bo++B2)).Nodup:=(kS F1.nd j).sublist pl.sub
          have cA:∀x∈B1++Bo++B2,x∈(eJ mv As).getD j []:=λx hx=>pl.sub.mem (List.mem_cons_of_mem _ hx)
          have i1:∀x∈B1,x∈B1++Bo++B2:=λx hx=>List.mem_append_left _ (List.mem_append_left _ hx)
          have i2:∀x∈B2,x∈B1++Bo++B2:=λx hx=>List.mem_append_right _ hx
          have cOut:=p1.out F
          have nd1:=(List.nodup_cons.mp ndB).2
          rw[List.append_assoc,List.nodup_append]at nd1
          obtain⟨n1,n2,n3⟩:=nd1
          rw[List.nodup_append]at n2
          refine wG (As:=As) (H:=H) (Z:=Z) (E:=E) F3 e1 e2 pl3 rfl rfl ea (us':=us.set k t) (ws':=ws.set k y) (C:=B1++C++B2) rs' ?_ ?_ ?_ (ev1.trans m3.ev) ?_ w
          . rw[List.append_assoc,List.nodup_append]
            refine⟨n1,?_,λx hx z hz e=>?_⟩
            . rw[List.nodup_append]
              exact⟨p1.nd,n2.2.1,λx hx z hz e=>by subst e;exact cOut x hx (aV (cA x (i2 x hz)))⟩
            . subst e
              rcases List.mem_append.mp hz with hz|hz
              . exact cOut x hz (aV (cA x (i1 x hx)))
              . exact n3 x hx x (List.mem_append_right _ hz) rfl
          . intro x hx
            rcases List.mem_append.mp hx with hx|hx
            . rcases List.mem_append.mp hx with hx|hx
              . exact F3.nz x (aV (cA x (i1 x hx)))
              . intro z
                rcases m3.zn x z with z|z
                . exact p1.bz x hx z
                . obtain⟨o,ho,_⟩:=p1.rep.dom t x hx
                  rw[ho]at z;cases z
            . exact F3.nz x (aV (cA x (i2 x hx)))
          . intro x hx hA
            rcases List.mem_append.mp hx with hx|hx
            . rcases List.mem_append.mp hx with hx|hx
              . exact i1 x hx
              . exact absurd hA (cOut x hx)
            . exact i2 x hx
          . intro x hx
            rcases List.mem_append.mp hx with hx|hx
            . rcases List.mem_append.mp hx with hx|hx
              . exact .inl (dZ (aV (cA x (i1 x hx))))
              . exact p1.inA x hx
            . exact .inl (dZ (aV (cA x (i2 x hx))))
        |_=>exact w.elim
       |ex x=>rw[ei]at w;exact WpX.ev w (ev1.trans m2.ev)
       |no=>rw[ei]at w;exact w
     . exact w.elim
    |ex x=>rw[ed]at w;exact WpX.ev w ev1
    |no=>rw[ed]at w;exact w
 |ex x=>rw[ee]at w;exact w
 |no=>rw[ee]at w;exact w
def cL:bP->Res T
 |.nx _=>.ok .non
 |.rt t=>.ok t
 |.ex x=>.ex x
 |_=>.no
def dY(n:Nat)(ts:List T):Fr:=ts.map some++List.replicate (n-ts.length) none
theorem wF{H:Hp}{Z:Addr->Prop}:∀(m:Nat),Slots K cn H Z (List.replicate m none) (List.replicate m none) (List.replicate m [])
 |0=>⟨rfl,rfl⟩
 |m+1=>⟨none,List.replicate m none,[],List.replicate m [],rfl,rfl,rfl,wF m⟩
theorem wW{H:Hp}{Z:Addr->Prop}{m:Nat}:∀(ts:List T){vs:List V},Reps K cn H Z ts vs []->Slots K cn H Z (ts.map some++List.replicate m none) (vs.map some++List.replicate m none) (List.replicate (ts.length+m) [])
 |[],vs,h=>by
  simp only[Reps]at h
  obtain⟨rfl,_⟩:=h
  simpa using wF m
 |t::ts,vs,h=>by
  simp only[Reps]at h
  obtain⟨v,r,B,C,rfl,e,h1,h2⟩:=h
  have eb:B=[]/\C=[]:=by simpa using e.symm
  obtain⟨rfl,rfl⟩:=eb
  have:=wW (m:=m) ts h2
  refine⟨some v,_,[],List.replicate (ts.length+m) [],rfl,?_,⟨v,rfl,h1⟩,this⟩
  rw[List.length_cons,show ts.length+1+m=(ts.length+m)+1 by omega]
  rfl
theorem kI:∀m:Nat,(List.replicate m ([]:List Addr)).flatten=[]
 |0=>rfl
 |m+1=>by rw[List.replicate_succ,List.flatten_cons,kI m];rfl
theorem al5 {CX : qY} {Y : Value → Around → List Env → Shared → Hp → XK → Cx} {P : Program} {w : World} {mg : Str → Option Value} {base : Heap} {qual : Str} {st : Stmt} {f : Addr} {fd : FuncData} {N ps : List Str} {k : Nat} {d : Fr → bP} (ok : ∀ sp : Sp, (∀ vs H Q E, sp vs H Q E → vs.length = ps.length) → (∀ (cdv : Value) (A : Around) (outer : List Env) (s : Shared) (H : Hp) (vs : List V) (Q : VK) (E : XK), Room k (A.deeper (envOfC qual (aS st) s.heap.objs.size f cdv)) → sp vs H Q E →
      ∃ t, PSs (Y cdv A outer s H E) (cF st) t ∧ t { nx := fun _ H' => Q .non H', rt := Q } (fV N vs) H) → FnOk P w K mg base CX (k + 1) f fd ps sp)
    (hbody : ∀ (cdv : Value) (A : Around) (outer : List Env) (s : Shared) (H : Hp) (E : XK), Room k (A.deeper (envOfC qual (aS st) s.heap.objs.size f cdv)) →
      ∃ t, PSs (Y cdv A outer s H E) (cF st) t ∧ RS [] K cn E t d) {n : Nat} {G : List T → Res T} (hn : ps.length = n) (hG : ∀ ts, G ts = cL (d (dY N.length ts))) : FnOk P w K mg base CX (k + 1) f fd ps (cJ K cn n G) := by
  have eG : G = fun ts => cL (d (dY N.length ts)) := funext hG
  subst hn eG
  refine ok _ (fun vs H Q E h => h.1) fun cdv A outer s H vs Q E hr h => ?_
  obtain ⟨hl, ts, Z, zi, r, w⟩ := h
  obtain ⟨t, hp, ht⟩ := hbody cdv A outer s H E hr
  refine ⟨t, hp, ?_⟩
  have lt := Reps.length ts r
  have sl : Slots K cn H Z (dY N.length ts) (L2.fV N vs) (List.replicate (ts.length + (N.length - ts.length)) []) := by
    unfold dY L2.fV
    rw [lt]
    exact wW ts r
  have F0 : Frm [] K cn H Z (dY N.length ts) (L2.fV N vs) (List.replicate (ts.length + (N.length - ts.length)) []) := ⟨sl, by rw [kI]; exact List.nodup_nil, by rw [kI]; exact cU, zi, cU⟩
  refine ht _ H Z _ _ F0 _ ?_
  have bn : ∀ {B : List Addr} {H' : Hp} {Z' : Addr → Prop}, Ev (List.replicate (ts.length + (N.length - ts.length)) []) H Z [B] H' Z' → ∀ b ∈ B, H b = none := fun {B H' Z'} e b hb => by
    rcases e.own b (by simpa using hb) with q | q
    · rw [kI] at q; cases q
    · exact q
  have sm : ∀ {As' : List (List Addr)} {H' : Hp} {Z' : Addr → Prop}, Ev (List.replicate (ts.length + (N.length - ts.length)) []) H Z As' H' Z' → Same H H' ∧ ∀ a, Z' a → Z a ∨ H a = none := fun {As' H' Z'} e => ⟨fun b o q => e.keep b o q (by rw [kI]; exact (fun z => nomatch z)), fun a z => by
    rcases e.zn a z with q | q | q
    · exact .inl q
    · rw [kI] at q; cases q
    · exact .inr q⟩
  cases ed : d (dY N.length ts) with
  | nx ρ =>
    simp only [ed, cL] at w
    intro σ' As' H' Z' F' ev
    exact w .non H' Z' [] ⟨(sm ev).1, ev.zz, (sm ev).2, F'.zi, by simp [Rep], List.nodup_nil, cU, cU⟩
  | rt t =>
    simp only [ed, cL] at w
    intro v H' Z' B p
    exact w v H' Z' B ⟨(sm p.ev).1, p.ev.zz, (sm p.ev).2, p.zi, p.rep, p.nd, p.bz, fun b hb => .inl (bn p.ev b hb)⟩
  | ex x =>
    simp only [ed, cL] at w
    exact WpX.ev w ⟨fun _ _ q _ => q, fun a ha => (by rw [kI] at ha; exact nomatch ha), fun _ h => h, fun _ h => .inl h, fun _ h => h⟩
  | bk ρ => simp only [ed, cL] at w; exact w.elim
  | rm ρ t => simp only [ed, cL] at w; exact w.elim
  | ct ρ => simp only [ed, cL] at w; exact w.elim
  | no => simp only [ed, cL] at w; exact w.elim
theorem ax1{P:Program}{w:World}{mg:Str->Option Value}{base:Heap}{x qual:Str}{st:Stmt}{f:Addr}{fd:FuncData}{N ps:List Str}{k:Nat}{d:Fr->bP}(F:Fun K x qual st f fd)(S:bL N ps (aS st))
 (hbody:∀(cdv:Value)(A:Around)(outer:List Env)(s:Shared)(H:Hp)(E:XK),Room k (A.deeper (envOfC qual (aS st) s.heap.objs.size f cdv))->
  ∃t,PSs (kB mZ P w K mg base N qual (aS st) f cdv A outer s H E).nox (cF st) t/\RS [] K cn E t d){n:Nat}{G:List T->Res T}(hn:ps.length=n)(hG:∀ts,G ts=cL (d (dY N.length ts))):FnOk P w K mg base mZ (k+1) f fd ps (cJ K cn n G):=al5 (λsp len hb=>F.ok S len hb) hbody hn hG
theorem bo3{P:Program}{w:World}{mg:Str->Option Value}{base:Heap}{x qual:Str}{st:Stmt}{f:Addr}{fd:FuncData}{N ps:List Str}{k:Nat}{d:Fr->bP}(F:Fun K x qual st f fd)(S:bL N ps (aS st))
 (hbody:∀(cdv:Value)(A:Around)(outer:List Env)(s:Shared)(H:Hp)(E:XK),Room k (A.deeper (envOfC qual (aS st) s.heap.objs.size f cdv))->
  ∃t,PSs (kB (pY P w) P w K mg base N qual (aS st) f cdv A outer s H E) (cF st) t/\RS [] K cn E t d){n:Nat}{G:List T->Res T}(hn:ps.length=n)(hG:∀ts,G ts=cL (d (dY N.length ts))):FnOk P w K mg base (pY P w) (k+1) f fd ps (cJ K cn n G):=al5 (λsp len hb=>F.okX S len hb) hbody hn hG
theorem dI{P:Program}{w:World}{mg:Str->Option Value}{base:Heap}{x:Str}{st:Stmt}{N ps:List Str}{k:Nat}{d:Fr->bP}(F:dR K mg x st)(S:bL N ps (aS st))
 (hb:∀(kV doc pm:Value)(an:Option Addr)(cdv ct:Value)(us:List Value),us.length=ps.length->bindArgs (PySem.W.fnOf x x (fZ st) (cF st) (aS st) .none kV doc pm an cdv ct) ⟨us,[]⟩=pure (ps.zip us))
 (hbody:∀(f:Addr)(cdv:Value)(A:Around)(outer:List Env)(s:Shared)(H:Hp)(E:XK),Room k (A.deeper (envOfC x (aS st) s.heap.objs.size f cdv))->
  ∃t,PSs (kB mZ P w K mg base N x (aS st) f cdv A outer s H E).nox (cF st) t/\RS [] K cn E t d){n:Nat}{G:List T->Res T}(hn:ps.length=n)(hG:∀ts,G ts=cL (d (dY N.length ts))):dL P w K mg base (k+1) x ps (cJ K cn n G):=by
 obtain⟨f,fd,F,hm⟩:=F.ex
 exact⟨f,fd,ax1 F S (λcdv A outer s H E hr=>hbody f cdv A outer s H E hr) hn hG,hm,F.kp,F.binds hb⟩
theorem law_fn{P:Program}{w:World}{mg:Str->Option Value}{base:Heap}{k:Nat}{f:Addr}{fd:FuncData}{p:Str}{G:List T->Res T}(F:FnOk P w K mg base mZ k f fd [p] (cJ K cn 1 G))
 (h:∀ns:List Int,ns.length<=63->(∀n∈ns,Builtin.Int.intBits n<=1048576)->G [.lst false (ns.map .int)]=.ok (.bl true)):FnOk P w K mg base mZ k f fd [p] (as3 K):=by
 refine F.imp λvs H Q E q=>?_
 obtain⟨a,ns,rfl,hs,h63,hbits,hq⟩:=q
 have rints:∀(Z:Addr->Prop)(ns:List Int),Reps K cn H Z (ns.map T.int) (ns.map V.int) []:=by
  intro Z ns
  induction ns with
  |nil=>simp[Reps]
  |cons n ns ih=>
   simp only[List.map_cons,Reps]
   exact⟨.int n,ns.map V.int,[],[],rfl,rfl,by simp[Rep],ih⟩
 refine⟨rfl,[.lst false (ns.map .int)],λb=>b=a/\H b≠none,λb z=>z.2,Reps.one ?_,?_⟩
 . simp only[Rep]
   refine⟨a,ns.map V.int,rfl,trivial,?_,rints _ ns⟩
   rcases hs with(hs|⟨o,hs⟩)|hs
   . exact .inl ⟨hs,rfl,by rw[hs];exact(λz=>nomatch z)⟩
   . exact .inr (.inl ⟨o,hs⟩)
   . exact .inr (.inr hs)
 . rw[h ns h63 hbits]
   intro v H' Z' B p
   have q:=p.rep
   simp only[Rep]at q
   rw[q.1]
   exact hq H'
end
end TL
namespace L2
open PySem PySem.Spec PyProof.Rows
def EqD(K:PySem.W.Frag)(H:Hp):Nat->V->V->Bool->Prop
 |0,x,y,b=>oZ x=true/\oZ y=true/\b=eqV x y
 |n+1,x,y,b=>(oZ x=true/\oZ y=true/\b=eqV x y)\/
  (∃p q xs ys,x=.ref p/\y=.ref q/\SqL K H p xs/\SqL K H q ys/\((xs.length≠ys.length/\b=false)\/
   (xs.length=ys.length/\∃es:List Bool,es.length=xs.length/\(∀(j:Nat) x y e,xs[j]?=some x->ys[j]?=some y->es[j]?=some e->EqD K H n x y e)/\b=es.all id)))\/
  (∃p q xs ys,x=.ref p/\y=.ref q/\SqT K H p xs/\SqT K H q ys/\∃es:List Bool,es.length=min xs.length ys.length/\
   (∀(j:Nat) x y e,xs[j]?=some x->ys[j]?=some y->es[j]?=some e->EqD K H n x y e)/\b=(es.all id&&xs.length==ys.length))
theorem aw4:∀{x:V},oZ x=true->eqV x x=true
 |.non,_=>rfl
 |.bl b,_=>by simp[eqV]
 |.int i,_=>by simp[eqV]
 |.str s,_=>by simp[eqV]
theorem oQ(es:List Bool):((List.range es.length).all λj=>es.getD j true)=es.all id:=by
 induction es with
 |nil=>rfl
 |cons b es ih=>
  show(List.range (es.length+1)).all _=_
  rw[List.range_succ_eq_map,List.all_cons,List.all_map]
  show(b&&_)=(b&&es.all id)
  rw[<-ih]
  rfl
section
variable {X : Cx} {pins : List (Addr × Obj)} {σ : St} {H : Hp} {s : Shared}
theorem EqD.self(I:Inv X pins σ H s):∀(n:Nat)(x:V)(b:Bool),EqD X.K H n x x b->b=true
 |0,x,b,h=>by
  obtain⟨h1,_,rfl⟩:=h
  exact aw4 h1
 |n+1,x,b,h=>by
  rcases h with⟨h1,_,rfl⟩|⟨p,q,xs,ys,e1,e2,s1,s2,h⟩|⟨p,q,xs,ys,e1,e2,s1,s2,es,hl,he,rfl⟩
  . exact aw4 h1
  . rw[e1]at e2
    cases e2
    have:=I.list_inj s1 s2
    subst this
    rcases h with⟨h,_⟩|⟨_,es,hl,he,rfl⟩
    . exact absurd rfl h
    . rw[List.all_eq_true]
      intro e hm
      obtain⟨j,hj,rfl⟩:=List.getElem_of_mem hm
      exact EqD.self I n xs[j] es[j] (he j xs[j] xs[j] es[j] (List.getElem?_eq_getElem (by omega)) (List.getElem?_eq_getElem (by omega)) (List.getElem?_eq_getElem hj))
  . rw[e1]at e2
    cases e2
    have:=I.tuple_inj s1 s2
    subst this
    rw[beq_self_eq_true,Bool.and_true,List.all_eq_true]
    intro e hm
    obtain⟨j,hj,rfl⟩:=List.getElem_of_mem hm
    have hx:j<xs.length:=by omega
    exact EqD.self I n xs[j] es[j] (he j xs[j] xs[j] es[j] (List.getElem?_eq_getElem hx) (List.getElem?_eq_getElem hx) (List.getElem?_eq_getElem hj))
theorem fH{xs:List V}{us:List Value}{j:Nat}(r:Vals xs us)(h:j<us.length):∃x,xs[j]?=some x/\RelV x us[j]:=by
 have l:=r.length
 have e1:xs[j]?=some xs[j]:=List.getElem?_eq_getElem (by omega)
 obtain⟨u,hu,ru⟩:=r.get e1
 rw[List.getElem?_eq_getElem h]at hu
 exact⟨xs[j],e1,by rw[Option.some.inj hu];exact ru⟩
theorem lI(I:Inv X pins σ H s):∀(n:Nat){A:Around}{x y:V}{u v:Value}{b:Bool},A.units+n<cLine->RelV x u->RelV y v->EqD X.K H n x y b->SeqAt.EqAt A s u v b
 |0,A,x,y,u,v,b,hu,rx,ry,h=>by
  obtain⟨h1,h2,rfl⟩:=h
  exact bw1 rx ry h1 h2
 |n+1,A,x,y,u,v,b,hu,rx,ry,h=>by
  have h0:=h
  rcases h with⟨h1,h2,rfl⟩|⟨p,q,xs,ys,rfl,rfl,s1,s2,h⟩|⟨p,q,xs,ys,rfl,rfl,s1,s2,es,hl,he,rfl⟩
  . exact bw1 rx ry h1 h2
  . cases rx
    cases ry
    by_cases hpq:p=q
    . subst hpq
      rw[EqD.self I (n+1) _ b h0]
      exact SeqAt.EqAt.same _
    . obtain⟨its,r1,p1,_⟩:=I.list s1
      obtain⟨jts,r2,p2,_⟩:=I.list s2
      have l1:=r1.length
      have l2:=r2.length
      refine SeqAt.EqAt.of_refs hpq ?_
      rcases h with⟨hne,rfl⟩|⟨heq,es,hl,he,rfl⟩
      . exact SeqAt.RcAt.lists_lengths p1.isList p2.isList (by simp only[List.size_toArray,bne_iff_ne,ne_eq];omega) (by omega)
      . have:=SeqAt.RcAt.lists (A:=A) (s:=s) (e:=λj=>es.getD j true) p1.isList p2.isList (by simp only[List.size_toArray];omega) (by omega) (λj h1 h2=>by
         simp only[List.size_toArray]at h1 h2
         simp only[List.getElem_toArray]
         obtain⟨x,ex,rx⟩:=fH r1 h1
         obtain⟨y,ey,ry⟩:=fH r2 h2
         have hj:j<es.length:=by omega
         have eg:es.getD j true=es[j]:=by rw[List.getD_eq_getElem?_getD,List.getElem?_eq_getElem hj];rfl
         rw[eg]
         exact lI I n (by show A.units+1+n<cLine;omega) rx ry (he j x y es[j] ex ey (List.getElem?_eq_getElem hj)))
        rw[List.size_toArray,show its.length=es.length by omega,oQ]at this
        exact this
  . cases rx
    cases ry
    by_cases hpq:p=q
    . subst hpq
      rw[EqD.self I (n+1) _ _ h0]
      exact SeqAt.EqAt.same _
    . obtain⟨its,r1,p1,_⟩:=I.tuple s1
      obtain⟨jts,r2,p2,_⟩:=I.tuple s2
      have l1:=r1.length
      have l2:=r2.length
      refine SeqAt.EqAt.of_refs hpq ?_
      have:=SeqAt.RcAt.tuples (A:=A) (s:=s) (e:=λj=>es.getD j true) (show s.heap.IsTuple p its.toArray from p1) (show s.heap.IsTuple q jts.toArray from p2) (by omega) (λj h1 h2=>by
       simp only[List.size_toArray]at h1 h2
       simp only[List.getElem_toArray]
       obtain⟨x,ex,rx⟩:=fH r1 h1
       obtain⟨y,ey,ry⟩:=fH r2 h2
       have hj:j<es.length:=by omega
       have eg:es.getD j true=es[j]:=by rw[List.getD_eq_getElem?_getD,List.getElem?_eq_getElem hj];rfl
       rw[eg]
       exact lI I n (by show A.units+1+n<cLine;omega) rx ry (he j x y es[j] ex ey (List.getElem?_eq_getElem hj)))
      simp only[List.size_toArray]at this
      rw[show min its.length jts.length=es.length by omega,oQ,<-l1,<-l2]at this
      exact this
def bj4(K:PySem.W.Frag)(n:Nat):R2:=λx y H Q=>rEq x y H Q\/(∃p q b,x=.ref p/\y=.ref q/\EqD K H n x y b/\Q (.bl b) H)
theorem cz1{n:Nat}(hu:X.A.units+n<cLine):OpR X (compareOp .Eq) (bj4 X.K n):=by
 intro pins s σ H x y v u Q I rx ry h
 rcases h with h|⟨p,q,b,rfl,rfl,h,hq⟩
 . exact cs4 s σ H x y v u Q I rx ry h
 . cases rx
   cases ry
   have cL:EP X pins σ Q (.bool b) s:=⟨.bl b,H,I,rfl,hq⟩
   cases n with
   |zero=>exact absurd h.1 (λz=>by cases z)
   |succ n=>
    rcases h with⟨h1,_,_⟩|⟨p,q,xs,ys,e1,e2,s1,s2,h⟩|⟨p,q,xs,ys,e1,e2,s1,s2,es,hl,he,rfl⟩
    . exact absurd h1 (λz=>by cases z)
    . cases e1
      cases e2
      obtain⟨its,r1,p1,_⟩:=I.list s1
      obtain⟨jts,r2,p2,_⟩:=I.list s2
      have l1:=r1.length
      have l2:=r2.length
      rcases h with⟨hne,rfl⟩|⟨heq,es,hl,he,rfl⟩
      . exact SeqAt.eq_list_lengthsAt p1.isList p2.isList (by simp only[List.size_toArray,bne_iff_ne,ne_eq];omega) (by omega) cL
      . refine SeqAt.eq_listAt (e:=λj=>es.getD j true) p1.isList p2.isList (by simp only[List.size_toArray];omega) (by omega) (λj h1 h2=>?_) ?_
        . simp only[List.size_toArray]at h1 h2
          simp only[List.getElem_toArray]
          obtain⟨x,ex,rx⟩:=fH r1 h1
          obtain⟨y,ey,ry⟩:=fH r2 h2
          have hj:j<es.length:=by omega
          have eg:es.getD j true=es[j]:=by rw[List.getD_eq_getElem?_getD,List.getElem?_eq_getElem hj];rfl
          rw[eg]
          exact lI I n (by show X.A.units+1+n<cLine;omega) rx ry (he j x y es[j] ex ey (List.getElem?_eq_getElem hj))
        . rw[List.size_toArray,show its.length=es.length by omega,oQ]
          exact cL
    . cases e1
      cases e2
      obtain⟨its,r1,p1,_⟩:=I.tuple s1
      obtain⟨jts,r2,p2,_⟩:=I.tuple s2
      have l1:=r1.length
      have l2:=r2.length
      refine SeqAt.eq_tupleAt (e:=λj=>es.getD j true) (show s.heap.IsTuple p its.toArray from p1) (show s.heap.IsTuple q jts.toArray from p2) (by omega) (λj h1 h2=>?_) ?_
      . simp only[List.size_toArray]at h1 h2
        simp only[List.getElem_toArray]
        obtain⟨x,ex,rx⟩:=fH r1 h1
        obtain⟨y,ey,ry⟩:=fH r2 h2
        have hj:j<es.length:=by omega
        have eg:es.getD j true=es[j]:=by rw[List.getD_eq_getElem?_getD,List.getElem?_eq_getElem hj];rfl
        rw[eg]
        exact lI I n (by show X.A.units+1+n<cLine;omega) rx ry (he j x y es[j] ex ey (List.getElem?_eq_getElem hj))
      . simp only[List.size_toArray]
        rw[show min its.length jts.length=es.length by omega,oQ,<-l1,<-l2]
        exact cL
def aj5(K:PySem.W.Frag)(n:Nat)(neg:Bool):R2:=λx y H Q=>(∃p ys,y=.ref p/\(SqL K H p ys\/SqT K H p ys)/\∃es:List Bool,es.length=ys.length/\(∀(j:Nat) y e,ys[j]?=some y->es[j]?=some e->EqD K H n y x e)/\Q (.bl (if neg then !es.any id else es.any id)) H)\/
 (∃i j,x=.str i/\y=.str j/\Q (.bl (if neg then !(!(Builtin.Str.occurrences j i 0 j.length 1).isEmpty)else(!(Builtin.Str.occurrences j i 0 j.length 1).isEmpty))) H)
theorem EqD.det(I:Inv X pins σ H s):∀(n:Nat)(x y:V)(b c:Bool),EqD X.K H n x y b->EqD X.K H n x y c->b=c:=by
 intro n
 induction n with
 |zero=>intro x y b c h1 h2;rw[h1.2.2,h2.2.2]
 |succ n ih=>
  intro x y b c h1 h2
  have flat_ref:∀{p:Addr},oZ (.ref p)=true->False:=λh=>by cases h
  rcases h1 with⟨a1,a2,rfl⟩|⟨p,q,xs,ys,rfl,rfl,s1,s2,h1⟩|⟨p,q,xs,ys,rfl,rfl,s1,s2,es,hl,he,rfl⟩
  . rcases h2 with⟨b1,b2,rfl⟩|⟨p,q,xs,ys,rfl,rfl,_⟩|⟨p,q,xs,ys,rfl,rfl,_⟩
    . rfl
    . exact(flat_ref a1).elim
    . exact(flat_ref a1).elim
  . rcases h2 with⟨b1,b2,rfl⟩|⟨p',q',xs',ys',e1,e2,t1,t2,h2⟩|⟨p',q',xs',ys',e1,e2,t1,t2,_⟩
    . exact(flat_ref b1).elim
    . cases e1
      cases e2
      have z1:=I.list_inj s1 t1
      have z2:=I.list_inj s2 t2
      subst z1 z2
      rcases h1 with⟨n1,rfl⟩|⟨n1,es,hl,he,rfl⟩
      . rcases h2 with⟨n2,rfl⟩|⟨n2,_⟩
        . rfl
        . exact absurd n2 n1
      . rcases h2 with⟨n2,rfl⟩|⟨n2,es',hl',he',rfl⟩
        . exact absurd n1 n2
        . have:es=es':=by
           apply List.ext_getElem (by omega)
           intro j h1 h2
           exact ih xs[j] ys[j] es[j] es'[j] (he j _ _ _ (List.getElem?_eq_getElem (by omega)) (List.getElem?_eq_getElem (by omega)) (List.getElem?_eq_getElem h1)) (he' j _ _ _ (List.getElem?_eq_getElem (by omega)) (List.getElem?_eq_getElem (by omega)) (List.getElem?_eq_getElem h2))
          rw[this]
    . cases e1
      obtain⟨_,_,⟨o,n',eo,c1,_⟩,_⟩:=I.list s1
      obtain⟨_,_,⟨o',eo',c2,_⟩,_⟩:=I.tuple t1
      rw[eo]at eo'
      cases eo'
      rw[c1]at c2
      exact absurd c2 (by decide)
  . rcases h2 with⟨b1,b2,rfl⟩|⟨p',q',xs',ys',e1,e2,t1,t2,h2⟩|⟨p',q',xs',ys',e1,e2,t1,t2,es',hl',he',rfl⟩
    . exact(flat_ref b1).elim
    . cases e1
      obtain⟨_,_,⟨o,n',eo,c1,_⟩,_⟩:=I.list t1
      obtain⟨_,_,⟨o',eo',c2,_⟩,_⟩:=I.tuple s1
      rw[eo]at eo'
      cases eo'
      rw[c1]at c2
      exact absurd c2 (by decide)
    . cases e1
      cases e2
      have z1:=I.tuple_inj s1 t1
      have z2:=I.tuple_inj s2 t2
      subst z1 z2
      have:es=es':=by
       apply List.ext_getElem (by omega)
       intro j h1 h2
       have hx:j<xs.length:=by omega
       have hy:j<ys.length:=by omega
       exact ih xs[j] ys[j] es[j] es'[j] (he j _ _ _ (List.getElem?_eq_getElem hx) (List.getElem?_eq_getElem hy) (List.getElem?_eq_getElem h1)) (he' j _ _ _ (List.getElem?_eq_getElem hx) (List.getElem?_eq_getElem hy) (List.getElem?_eq_getElem h2))
      rw[this]
theorem ai0(I:Inv X pins σ H s){n:Nat}{x:V}{ys:List V}{us:List Value}{es:List Bool}(r:Vals ys us)(hl:es.length=ys.length)(he:∀(j:Nat) y e,ys[j]?=some y->es[j]?=some e->EqD X.K H n y x e):
 ∃e:Value->Bool,(∀u∈us,∃y,RelV y u/\EqD X.K H n y x (e u))/\us.any e=es.any id:=by
 refine⟨λu=>@decide (∃y,RelV y u/\EqD X.K H n y x true) (Classical.propDecidable _),?_,?_⟩
 . intro u hu
   obtain⟨j,hj,rfl⟩:=List.getElem_of_mem hu
   obtain⟨y,ey,ry⟩:=fH r hj
   have lj:j<es.length:=by rw[hl,r.length];exact hj
   have q:=he j y es[j] ey (List.getElem?_eq_getElem lj)
   refine⟨y,ry,?_⟩
   by_cases c:∃y,RelV y us[j]/\EqD X.K H n y x true
   . obtain⟨y',ry',q'⟩:=c
     have:=ry.inj ry'
     subst this
     simp only[show(∃y,RelV y us[j]/\EqD X.K H n y x true) from⟨y,ry,q'⟩,decide_true]
     exact q'
   . simp only[c,decide_false]
     cases eb:es[j]with
     |false=>rw[eb]at q;exact q
     |true=>rw[eb]at q;exact absurd ⟨y,ry,q⟩ c
 . rw[Bool.eq_iff_iff,List.any_eq_true,List.any_eq_true]
   constructor
   . rintro⟨u,hu,c⟩
     obtain⟨j,hj,rfl⟩:=List.getElem_of_mem hu
     obtain⟨y,ey,ry⟩:=fH r hj
     have lj:j<es.length:=by rw[hl,r.length];exact hj
     obtain⟨y',ry',q'⟩:=@of_decide_eq_true _ (Classical.propDecidable _) c
     have:=ry.inj ry'
     subst this
     have q:=he j y es[j] ey (List.getElem?_eq_getElem lj)
     exact⟨es[j],List.getElem_mem lj,EqD.det I n y x es[j] true q q'⟩
   . rintro⟨e,hm,c⟩
     obtain⟨j,hj,rfl⟩:=List.getElem_of_mem hm
     have c':es[j]=true:=c
     have lj:j<us.length:=by rw[<-r.length,<-hl];exact hj
     obtain⟨y,ey,ry⟩:=fH r lj
     have q:=he j y es[j] ey (List.getElem?_eq_getElem hj)
     rw[c']at q
     exact⟨us[j],List.getElem_mem lj,@decide_eq_true _ (Classical.propDecidable _) ⟨y,ry,q⟩⟩
theorem cw1{n:Nat}(hu:X.A.units+n+1<cLine):OpR X (compareOp .In) (aj5 X.K n false):=by
 intro pins s σ H x y v u Q I rx ry h
 rcases h with⟨p,ys,rfl,hs,es,hl,he,q⟩|⟨i,j,rfl,rfl,q⟩
 . cases ry
   rcases hs with hs|hs
   . obtain⟨its,r,pl,_⟩:=I.list hs
     obtain⟨e,h1,h2⟩:=ai0 I r hl he
     refine SeqAt.in_listAt e pl.isList (λy hy=>?_) ?_
     . obtain⟨y',ry',q'⟩:=h1 y (by simpa using hy)
       exact lI I n (by show X.A.units+1+n<cLine;omega) ry' rx q'
     . exact⟨.bl _,H,I,by rw[List.any_toArray,h2];rfl,q⟩
   . obtain⟨its,r,pl,_⟩:=I.tuple hs
     obtain⟨e,h1,h2⟩:=ai0 I r hl he
     refine SeqAt.in_tupleAt e (show s.heap.IsTuple p its.toArray from pl) (λy hy=>?_) ?_
     . obtain⟨y',ry',q'⟩:=h1 y (by simpa using hy)
       exact lI I n (by show X.A.units+1+n<cLine;omega) ry' rx q'
     . exact⟨.bl _,H,I,by rw[List.any_toArray,h2];rfl,q⟩
 . exact bx2 s σ H _ _ v u Q I rx ry ⟨i,j,rfl,rfl,q⟩
theorem bp1{n:Nat}(hu:X.A.units+n+1<cLine):OpR X (compareOp .NotIn) (aj5 X.K n true):=by
 intro pins s σ H x y v u Q I rx ry h
 rcases h with⟨p,ys,rfl,hs,es,hl,he,q⟩|⟨i,j,rfl,rfl,q⟩
 . cases ry
   rcases hs with hs|hs
   . obtain⟨its,r,pl,_⟩:=I.list hs
     obtain⟨e,h1,h2⟩:=ai0 I r hl he
     refine SeqAt.notIn_listAt e pl.isList (λy hy=>?_) ?_
     . obtain⟨y',ry',q'⟩:=h1 y (by simpa using hy)
       exact lI I n (by show X.A.units+1+n<cLine;omega) ry' rx q'
     . exact⟨.bl _,H,I,by rw[List.any_toArray,h2];rfl,q⟩
   . obtain⟨its,r,pl,_⟩:=I.tuple hs
     obtain⟨e,h1,h2⟩:=ai0 I r hl he
     refine SeqAt.notIn_tupleAt e (show s.heap.IsTuple p its.toArray from pl) (λy hy=>?_) ?_
     . obtain⟨y',ry',q'⟩:=h1 y (by simpa using hy)
       exact lI I n (by show X.A.units+1+n<cLine;omega) ry' rx q'
     . exact⟨.bl _,H,I,by rw[List.any_toArray,h2];rfl,q⟩
 . exact am5 s σ H _ _ v u Q I rx ry ⟨i,j,rfl,rfl,q⟩
def cd2:R2:=λx y H Q=>(y=.non/\Q (.bl (decide (x=.non))) H)\/(∃a b,x=.bl a/\y=.bl b/\Q (.bl (a==b)) H)
theorem cg3:OpR X (compareOp .Is) cd2:=by
 intro pins s σ H x y v u Q I rx ry h
 rcases h with h|⟨a,b,rfl,rfl,q⟩
 . exact co4 s σ H x y v u Q I rx ry h
 . cases rx
   cases ry
   exact is_bool ⟨.bl _,H,I,rfl,q⟩
end
end L2
namespace L2
open PySem PySem.Spec PyProof.Rows
def fN(z:Str)(k:Nat):Str:=⟨((List.replicate k z.cps.toList).flatten).toArray⟩
theorem aq0(z:Str):∀(k:Nat)(acc:List Nat),List.foldl (λx1 x2=>x1++x2) acc.toArray (List.replicate k z.cps)=(acc++(List.replicate k z.cps.toList).flatten).toArray
 |0,acc=>by simp
 |k+1,acc=>by
  rw[List.replicate_succ,List.foldl_cons,List.replicate_succ,List.flatten_cons]
  have e:acc.toArray++z.cps=(acc++z.cps.toList).toArray:=by simp
  rw[e,aq0 z k,List.append_assoc]
section
variable {X : Cx}
def by7(K:PySem.W.Frag):R2:=λx y H Q=>∃l b xs zs,x=.ref l/\y=.ref b/\SqS K H l xs/\SqS K H b zs/\xs.length+zs.length<=sizeLine/\∀p,H p=none->Q (.ref p) (upd H p (.lst (xs++zs)))
theorem op_catS:OpR X (binaryOp .Add) (by7 X.K):=by
 intro pins s σ H x y v u Q I rx ry h
 obtain⟨l,b,xs,zs,rfl,rfl,hH,hB,hz,q⟩:=h
 cases rx
 cases ry
 obtain⟨its,n,r,e,_⟩:=I.listS hH
 obtain⟨its2,n2,r2,e2,_⟩:=I.listS hB
 have hl:=r.length
 have hl2:=r2.length
 refine PySem.P.add_list e e2 ?_ (by rw[List.size_toArray,List.size_toArray];omega)
 have ea:its.toArray++its2.toArray=(its++its2).toArray:=by simp
 rw[ea]
 exact⟨.ref _,_,I.lnew (t':=s.toks) (r.append r2) (by rw[List.length_append];omega),rfl,q _ I.fresh⟩
def bs7(K:PySem.W.Frag):R2:=λx y H Q=>tI (λi j=>.int (i+j)) x y H Q\/cb5 x y H Q\/by7 K x y H Q\/bo7 K x y H Q
theorem bB(K:PySem.W.Frag)(hK:X.K=K:=by rfl):OpR X (binaryOp .Add) (bs7 K):=by
 subst hK
 exact op_add.or (op_add_str.or (op_catS.or cp0))
def br6:R2:=λx y H Q=>∃z k,x=.str z/\y=.int k/\-(2^63)<=k/\k<2^62/\z.length*k.toNat<=sizeLine/\Q (.str (fN z k.toNat)) H
theorem ce0:OpR X (binaryOp .Mult) br6:=by
 intro pins s σ H x y v u Q I rx ry h
 obtain⟨z,k,rfl,rfl,h1,h2,hz,q⟩:=h
 obtain⟨t,rfl⟩:=rx
 obtain⟨t',rfl⟩:=ry
 have hn:=sizeLine_eq
 refine PySem.P.mul_str ?_ ?_ ?_ ?_
 . rw[decide_eq_false (by omega),decide_eq_false (by omega)]
   rfl
 . intro hk _
   have hk1:1<=k:=by omega
   have:((z.length:Int))<=16777216:=by
    have:z.length*1<=z.length*k.toNat:=Nat.mul_le_mul_left _ (by omega)
    omega
   have hq:(2^63-1:Int)/k>=(z.length:Int):=by
    refine(Int.le_ediv_iff_mul_le (by omega)).mpr ?_
    have e:(z.length:Int)*k=((z.length*k.toNat:Nat):Int):=by
     rw[Int.natCast_mul,Int.toNat_of_nonneg (by omega)]
    rw[e]
    omega
   omega
 . intro _ _
   unfold Builtin.Str.tooLong
   exact decide_eq_false (by omega)
 . split
   . next hk=>
     have e:fN z k.toNat=Str.empty:=by
      have:k.toNat=0:=by omega
      rw[this]
      rfl
     rw[e]at q
     exact⟨by decide,.str _,H,I.tok _,⟨_,rfl⟩,q⟩
   . next hk=>
     split
     . next hc=>
       have e:fN z k.toNat=z:=by
        rw[Bool.or_eq_true,beq_iff_eq,beq_iff_eq]at hc
        rcases hc with hc|hc
        . subst hc
          simp[fN]
        . have hz0:z.cps.toList=[]:=by
           have:z.cps.toList.length=0:=by rw[Array.length_toList];exact hc
           exact List.eq_nil_of_length_eq_zero this
          have:(List.replicate k.toNat z.cps.toList).flatten=[]:=by
           rw[hz0]
           simp
          unfold fN
          rw[this]
          obtain⟨⟨l⟩⟩:=z
          simp at hz0
          rw[hz0]
       rw[e]at q
       exact⟨.str _,H,I,⟨_,rfl⟩,q⟩
     . have e:(⟨(List.replicate k.toNat z.cps).foldl (· ++ ·) #[]⟩:Str)=fN z k.toNat:=by
        have:=aq0 z k.toNat []
        rw[List.nil_append]at this
        unfold fN
        rw[<-this]
       rw[e]
       refine⟨?_,.str _,H,I.tok _,⟨_,rfl⟩,q⟩
       show((List.replicate k.toNat z.cps.toList).flatten.toArray).size<=sizeLine
       rw[List.size_toArray,av7,Array.length_toList,Nat.mul_comm]
       exact hz
def bk7:R2:=λx y H Q=>cc3 x y H Q\/br6 x y H Q
theorem fK:OpR X (binaryOp .Mult) bk7:=op_mulB.or ce0
end
end L2
namespace TL
open PySem PySem.Spec PyProof.Rows L2
section
variable {Jn : fM} {K : PySem.W.Frag} {cn : Str → Option Addr} {E : XK} {As : List (List Addr)} {H : Hp} {Z : Addr → Prop} {Q : VK}
theorem WpE.val{t:T}{v:V}(w:WpE K cn E As H Z [] Q (.ok t))(zi:∀a,Z a->H a≠none)(r:Rep K cn H Z t v []):Q v H:=
 w v H Z [] ⟨Same.refl _,λ_ h=>h,λ_ h=>.inl h,zi,r,List.nodup_nil,cU,cU⟩
theorem WpE.newL{ts:List T}{vs:List V}(w:WpE K cn E As H Z [] Q (.ok (.lst true ts)))(zi:∀a,Z a->H a≠none)(r:Reps K cn H Z ts vs [])(p:Addr)(hp:H p=none):Q (.ref p) (L2.upd H p (.lst vs)):=by
 have m:=Mo.new (.lst vs) hp zi
 refine w (.ref p) _ Z [p] ⟨m.same,m.zz,m.zn,m.zi,?_,by simp,λb hb=>?_,λb hb=>?_⟩
 . simp only[Rep]
   exact⟨p,vs,[],rfl,rfl,bZ,r.same m.same m.zz⟩
 . rw[List.mem_singleton.mp hb];exact λz=>zi p z hp
 . rw[List.mem_singleton.mp hb];exact .inl hp
theorem WpE.newT{ts:List T}{vs:List V}(w:WpE K cn E As H Z [] Q (.ok (.tup ts)))(zi:∀a,Z a->H a≠none)(r:Reps K cn H Z ts vs [])(p:Addr)(hp:H p=none):Q (.ref p) (L2.upd H p (.tup vs)):=by
 have m:=Mo.new (.tup vs) hp zi
 refine w (.ref p) _ Z [] ⟨m.same,m.zz,m.zn,m.zi,?_,List.nodup_nil,cU,cU⟩
 simp only[Rep]
 exact⟨p,vs,rfl,SqT.of bZ,r.same m.same m.zz⟩
theorem Rep.int{i:Int}{v:V}{A:List Addr}(h:Rep K cn H Z (.int i) v A):v=.int i:=by simp only[Rep]at h;exact h.1
theorem Rep.str{i:Str}{v:V}{A:List Addr}(h:Rep K cn H Z (.str i) v A):v=.str i:=by simp only[Rep]at h;exact h.1
theorem Rep.bl{i:Bool}{v:V}{A:List Addr}(h:Rep K cn H Z (.bl i) v A):v=.bl i:=by simp only[Rep]at h;exact h.1
theorem Rep.non{v:V}{A:List Addr}(h:Rep K cn H Z .non v A):v=.non:=by simp only[Rep]at h;exact h.1
theorem Rep.tupS{ts:List T}{v:V}{A:List Addr}(h:Rep K cn H Z (.tup ts) v A):∃a vs,v=.ref a/\SqT K H a vs/\Reps K cn H Z ts vs A:=by simp only[Rep]at h;exact h
theorem jF(i:Int):Rep K cn H Z (.int i) (.int i) []:=by simp[Rep]
theorem qA(i:Bool):Rep K cn H Z (.bl i) (.bl i) []:=by simp[Rep]
theorem ab5(i:Str):Rep K cn H Z (.str i) (.str i) []:=by simp[Rep]
noncomputable def bR:T->T->Res T
 |.int i,.int j=>.ok (.int (i+j))
 |.str a,.str b=>gate (a.length+b.length<=sizeLine) (.ok (.str (a++b)))
 |.lst _ xs,.lst _ ys=>gate ((bA xs&&bA ys)=true/\xs.length+ys.length<=sizeLine) (.ok (.lst true (xs++ys)))
 |.tup xs,.tup ys=>gate ((bA xs&&bA ys)=true/\xs.length+ys.length<=sizeLine/\xs.isEmpty=false/\ys.isEmpty=false) (.ok (.tup (xs++ys)))
 |_,_=>.no
theorem bQ:mP K cn (bs7 K) bR:=λE As H Z t u x y A B Q zi rt ru w=>by
 unfold bR at w
 split at w
 . next i j=>rw[rt.int,ru.int];exact .inl ⟨i,j,rfl,rfl,w.val zi (jF _)⟩
 . next a b=>
   obtain⟨h,w⟩:=w.gate
   rw[rt.str,ru.str];exact .inr (.inl ⟨a,b,rfl,rfl,h,w.val zi (ab5 _)⟩)
 . next o xs o' ys=>
   obtain⟨h,w⟩:=w.gate
   rw[Bool.and_eq_true]at h
   obtain⟨a,vs,C,rfl,hs,r1,_⟩:=rt.lstSq
   obtain⟨b,ws,D,rfl,hs',r2,_⟩:=ru.lstSq
   exact .inr (.inr (.inl ⟨a,b,vs,ws,rfl,rfl,hs,hs',by rw[Reps.length xs r1,Reps.length ys r2];exact h.2,λp hp=>w.newL zi (Reps.append xs (r1.bareE h.1.1) (r2.bareE h.1.2)) p hp⟩))
 . next xs ys=>
   obtain⟨h,w⟩:=w.gate
   rw[Bool.and_eq_true]at h
   obtain⟨a,vs,rfl,hs,r1⟩:=rt.tupS
   obtain⟨b,ws,rfl,hs',r2⟩:=ru.tupS
   have e1:=r1.isEmpty
   have e2:=r2.isEmpty
   refine .inr (.inr (.inr ⟨a,b,vs,ws,rfl,rfl,hs,hs',λz=>?_,by rw[Reps.length xs r1,Reps.length ys r2];exact h.2.1,λz=>?_,λ_ p hp=>w.newT zi (Reps.append xs (r1.bareE h.1.1) (r2.bareE h.1.2)) p hp⟩))
   . rw[z,h.2.2.1]at e1;cases e1
   . rw[z,h.2.2.2]at e2;cases e2
 . exact w.elim
def mV(f:Int->Int->Res T):T->T->Res T
 |.int i,.int j=>f i j
 |_,_=>.no
theorem ar9{g:Int->Int->T}{g':Int->Int->V}(hg:∀i j H Z,Rep K cn H Z (g i j) (g' i j) []):mP K cn (tI g') (mV λi j=>.ok (g i j)):=λE As H Z t u x y A B Q zi rt ru w=>by
 unfold mV at w
 split at w
 . next i j=>rw[rt.int,ru.int];exact⟨i,j,rfl,rfl,w.val zi (hg i j _ _)⟩
 . exact w.elim
theorem r_i{C:Int->Int->Prop}{g:Int->Int->T}{g':Int->Int->V}(hg:∀i j H Z,Rep K cn H Z (g i j) (g' i j) []):mP K cn (rI C g') (mV λi j=>gate (C i j) (.ok (g i j))):=λE As H Z t u x y A B Q zi rt ru w=>by
 unfold mV at w
 split at w
 . next i j=>
   obtain⟨h,w⟩:=WpE.gate w
   rw[rt.int,ru.int];exact⟨i,j,rfl,rfl,h,w.val zi (hg i j _ _)⟩
 . exact w.elim
def lP:=mV λi j=>.ok (.int (i-j))
theorem nR:mP K cn (tI λi j=>.int (i-j)) lP:=ar9 λ_ _ _ _=>jF _
def ltT:=mV λi j=>.ok (.bl (decide (i<j)))
def pZ:=mV λi j=>.ok (.bl (decide (i<=j)))
def gtT:=mV λi j=>.ok (.bl (decide (j<i)))
def geT:=mV λi j=>.ok (.bl (decide (j<=i)))
theorem ca8:mP K cn (tI λi j=>.bl (decide (i<j))) ltT:=ar9 λ_ _ _ _=>qA _
theorem pU:mP K cn (tI λi j=>.bl (decide (i<=j))) pZ:=ar9 λ_ _ _ _=>qA _
theorem cd8:mP K cn (tI λi j=>.bl (decide (j<i))) gtT:=ar9 λ_ _ _ _=>qA _
noncomputable def gG:=mV λi j=>gate (gF i j) (.ok (.int (i/j)))
theorem fW:mP K cn (rI gF λi j=>.int (i/j)) gG:=r_i λ_ _ _ _=>jF _
noncomputable def dE:=mV λi j=>gate (0<j) (.ok (.int (i%j)))
theorem cN:mP K cn (rI (λ_ j=>0<j) λi j=>.int (i%j)) dE:=r_i (C:=λ_ j=>0<j) λ_ _ _ _=>jF _
noncomputable def uB:=mV λi j=>gate (xK i j) (.ok (.int (i^j.toNat)))
theorem xU:mP K cn (rI xK λi j=>.int (i^j.toNat)) uB:=r_i λ_ _ _ _=>jF _
def mulOk(i j:Int):Prop:=(-(2^64)<i/\i<2^64)\/(-(2^64)<j/\j<2^64)\/Builtin.Int.intBits i+Builtin.Int.intBits j<=134217728
theorem mulOk.ok{i j:Int}(h:mulOk i j):IntMulOk i j:=by
 rcases h with h|h|h
 . exact bk8 h.1 h.2
 . exact bi8 h.1 h.2
 . exact ax7 h
noncomputable def iD:T->T->Res T
 |.int i,.int j=>gate (mulOk i j) (.ok (.int (i*j)))
 |.str z,.int k=>gate (-(2^63)<=k/\k<2^62/\z.length*k.toNat<=sizeLine) (.ok (.str (fN z k.toNat)))
 |_,_=>.no
theorem iU:mP K cn bk7 iD:=λE As H Z t u x y A B Q zi rt ru w=>by
 unfold iD at w
 split at w
 . next i j=>
   obtain⟨h,w⟩:=w.gate
   rw[rt.int,ru.int];exact .inl ⟨i,j,rfl,rfl,h.ok,w.val zi (jF _)⟩
 . next z k=>
   obtain⟨h,w⟩:=w.gate
   rw[rt.str,ru.int];exact .inr ⟨z,k,rfl,rfl,h.1,h.2.1,h.2.2,w.val zi (ab5 _)⟩
 . exact w.elim
def pP:T->Res T
 |.int i=>.ok (.int (-i))
 |_=>.no
theorem qO:R1R K cn (rU λi=>.int (-i)) pP:=λE As H Z t x A Q zi rt w=>by
 unfold pP at w
 split at w
 . next i=>rw[rt.int];exact⟨i,rfl,w.val zi (jF _)⟩
 . exact w.elim
def isT:T->T->Res T
 |.bl a,.bl b=>.ok (.bl (a==b))
 |.non,.non=>.ok (.bl true)
 |_,.non=>.ok (.bl false)
 |_,_=>.no
theorem Rep.notNon{t:T}{v:V}{A:List Addr}(h:Rep K cn H Z t v A)(n:t≠ .non):v≠ .non:=by
 cases t with
 |non=>exact absurd rfl n
 |bl _=>rw[h.bl];exact λz=>nomatch z
 |int _=>rw[h.int];exact λz=>nomatch z
 |str _=>rw[h.str];exact λz=>nomatch z
 |ty _=>simp only[Rep]at h;rw[h.1];exact λz=>nomatch z
 |err _ _=>simp only[Rep]at h;obtain⟨a,C,dx,rfl,_⟩:=h;exact λz=>nomatch z
 |lst o ts=>obtain⟨a,vs,C,rfl,_⟩:=h.lstSq;exact λz=>nomatch z
 |tup ts=>obtain⟨a,vs,rfl,_⟩:=h.tupS;exact λz=>nomatch z
 |ins o c ns ts=>
  cases o with
  |true=>simp only[Rep]at h;obtain⟨a,C,dx,vs,B,rfl,_⟩:=h;exact λz=>nomatch z
  |false=>simp only[Rep]at h;obtain⟨a,C,dx,vs,rfl,_⟩:=h;exact λz=>nomatch z
theorem cp8:mP K cn cd2 isT:=λE As H Z t u x y A B Q zi rt ru w=>by
 unfold isT at w
 split at w
 . next a b=>rw[rt.bl,ru.bl];exact .inr ⟨a,b,rfl,rfl,w.val zi (qA _)⟩
 . rw[rt.non,ru.non];exact .inl ⟨rfl,w.val zi (qA _)⟩
 . next h1 h2=>rw[ru.non];exact .inl ⟨rfl,by rw[decide_eq_false (rt.notNon (by rintro rfl;exact h2 rfl))];exact w.val zi (qA _)⟩
 . exact w.elim
def pD:T->T->Res T
 |.non,.non=>.ok (.bl false)
 |_,.non=>.ok (.bl true)
 |_,_=>.no
theorem bs8:mP K cn (λx y H Q=>y=.non/\Q (.bl (!decide (x=.non))) H) pD:=λE As H Z t u x y A B Q zi rt ru w=>by
 unfold pD at w
 split at w
 . rw[rt.non,ru.non];exact⟨rfl,w.val zi (qA _)⟩
 . next h2=>rw[ru.non];exact⟨rfl,by rw[decide_eq_false (rt.notNon (by rintro rfl;exact h2 rfl))];exact w.val zi (qA _)⟩
 . exact w.elim
def kK:T->T->Option Bool
 |.non,.non=>some true
 |.non,.bl _=>some false
 |.non,.int _=>some false
 |.non,.str _=>some false
 |.bl _,.non=>some false
 |.bl a,.bl b=>some (a==b)
 |.bl a,.int b=>some ((if a then 1 else 0)==b)
 |.bl _,.str _=>some false
 |.int _,.non=>some false
 |.int a,.bl b=>some (a==(if b then 1 else 0))
 |.int a,.int b=>some (a==b)
 |.int _,.str _=>some false
 |.str _,.non=>some false
 |.str _,.bl _=>some false
 |.str _,.int _=>some false
 |.str a,.str b=>some (a==b)
 |_,_=>none
mutual
def jW:Nat->T->T->Option Bool
 |n+1,.lst _ xs,.lst _ ys=>if xs.length=ys.length then(uO n xs ys).map λes=>es.all id else some false
 |n+1,.tup xs,.tup ys=>(uO n xs ys).map λes=>es.all id&&xs.length==ys.length
 |_,t,u=>kK t u
def uO:Nat->List T->List T->Option (List Bool)
 |n,x::xs,y::ys=>(jW n x y).bind λb=>(uO n xs ys).map λes=>b::es
 |_,_,_=>some []
end
theorem bg3{t u:T}{x y:V}{A B:List Addr}{b:Bool}(rt:Rep K cn H Z t x A)(ru:Rep K cn H Z u y B)(h:kK t u=some b):oZ x=true/\oZ y=true/\b=eqV x y:=by
 unfold kK at h
 split at h
 all_goals first
  |(simp only[Rep]at rt ru;obtain⟨rfl,_⟩:=rt;obtain⟨rfl,_⟩:=ru;cases h;exact⟨rfl,rfl,rfl⟩)
  |cases h
theorem ac4{n:Nat}{t u:T}{x y:V}{A B:List Addr}{b:Bool}(rt:Rep K cn H Z t x A)(ru:Rep K cn H Z u y B)(h:kK t u=some b):EqD K H n x y b:=by
 have q:=bg3 rt ru h
 cases n with
 |zero=>exact q
 |succ n=>exact .inl q
theorem ak1{n:Nat}(ih:∀(t u:T){x y:V}{A B:List Addr}{b:Bool},Rep K cn H Z t x A->Rep K cn H Z u y B->jW n t u=some b->EqD K H n x y b):∀(ts us:List T){vs ws:List V}{A B:List Addr}{es:List Bool},Reps K cn H Z ts vs A->Reps K cn H Z us ws B->uO n ts us=some es->
 es.length=min ts.length us.length/\∀(j:Nat) x y e,vs[j]?=some x->ws[j]?=some y->es[j]?=some e->EqD K H n x y e
 |x::xs,y::ys,vs,ws,A,B,es,r1,r2,h=>by
  simp only[Reps]at r1 r2
  obtain⟨v,vs',B1,C1,rfl,rfl,a1,a2⟩:=r1
  obtain⟨w,ws',B2,C2,rfl,rfl,b1,b2⟩:=r2
  rw[uO,Option.bind_eq_some_iff]at h
  obtain⟨b,h1,h⟩:=h
  rw[Option.map_eq_some_iff]at h
  obtain⟨es',h2,rfl⟩:=h
  obtain⟨q1,q2⟩:=ak1 ih xs ys a2 b2 h2
  refine⟨by simp only[List.length_cons];omega,λj x' y' e e1 e2 e3=>?_⟩
  cases j with
  |zero=>
   simp at e1 e2 e3
   subst e1 e2 e3
   exact ih x y a1 b1 h1
  |succ j=>exact q2 j x' y' e (by simpa using e1) (by simpa using e2) (by simpa using e3)
 |[],us,vs,ws,A,B,es,r1,r2,h=>by
  have e:uO n [] us=some []:=by cases us<;>rfl
  rw[e]at h
  cases h
  exact⟨by simp,λj x y e _ _ e3=>by simp at e3⟩
 |t::ts,[],vs,ws,A,B,es,r1,r2,h=>by
  have e:uO n (t::ts) []=some []:=rfl
  rw[e]at h
  cases h
  exact⟨by simp,λj x y e _ _ e3=>by simp at e3⟩
theorem ap4(n:Nat):∀(t u:T){x y:V}{A B:List Addr}{b:Bool},Rep K cn H Z t x A->Rep K cn H Z u y B->jW n t u=some b->EqD K H n x y b:=by
 induction n with
 |zero=>
  intro t u x y A B b rt ru h
  have e:jW 0 t u=kK t u:=by cases t<;>cases u<;>rfl
  rw[e]at h
  exact ac4 rt ru h
 |succ n ih=>
  intro t u x y A B b rt ru h
  by_cases h1:∃o o' xs ys,t=.lst o xs/\u=.lst o' ys
  . obtain⟨o,o',xs,ys,rfl,rfl⟩:=h1
    obtain⟨a,vs,C,rfl,hs,r1,_⟩:=rt.lstSq
    obtain⟨b',ws,D,rfl,hs',r2,_⟩:=ru.lstSq
    rw[jW]at h
    have l1:=Reps.length xs r1
    have l2:=Reps.length ys r2
    split at h
    . next hl=>
      rw[Option.map_eq_some_iff]at h
      obtain⟨es,h1,rfl⟩:=h
      obtain⟨q1,q2⟩:=ak1 ih xs ys r1 r2 h1
      exact .inr (.inl ⟨a,b',vs,ws,rfl,rfl,hs.sq,hs'.sq,.inr ⟨by omega,es,by rw[q1];omega,q2,rfl⟩⟩)
    . next hl=>
      cases h
      exact .inr (.inl ⟨a,b',vs,ws,rfl,rfl,hs.sq,hs'.sq,.inl ⟨by omega,rfl⟩⟩)
  . by_cases h2:∃xs ys,t=.tup xs/\u=.tup ys
    . obtain⟨xs,ys,rfl,rfl⟩:=h2
      obtain⟨a,vs,rfl,hs,r1⟩:=rt.tupS
      obtain⟨b',ws,rfl,hs',r2⟩:=ru.tupS
      rw[jW]at h
      have l1:=Reps.length xs r1
      have l2:=Reps.length ys r2
      rw[Option.map_eq_some_iff]at h
      obtain⟨es,h1,rfl⟩:=h
      obtain⟨q1,q2⟩:=ak1 ih xs ys r1 r2 h1
      exact .inr (.inr ⟨a,b',vs,ws,rfl,rfl,hs,hs',es,by rw[q1];omega,q2,by rw[l1,l2]⟩)
    . have e:jW (n+1) t u=kK t u:=by
       cases t<;>cases u<;>first|rfl|exact absurd ⟨_,_,_,_,rfl,rfl⟩ h1|exact absurd ⟨_,_,rfl,rfl⟩ h2
      rw[e]at h
      exact ac4 rt ru h
def bV:Nat:=6
def qI:T->Bool
 |.lst _ _=>true
 |.tup _=>true
 |_=>false
def aj8:T->T->Bool
 |.bl _,.int _=>false
 |.int _,.bl _=>false
 |t,u=>!qI t&&!qI u
def eqB(t u:T):Option Bool:=if qI t=true/\qI u=true then jW bV t u else if aj8 t u=true then kK t u else none
def jH(t u:T):Res T:=match eqB t u with
 |some b=>.ok (.bl b)
 |none=>.no
theorem Rep.seqRef{t:T}{v:V}{A:List Addr}(h:Rep K cn H Z t v A)(i:qI t=true):∃a,v=.ref a:=by
 cases t with
 |lst o ts=>obtain⟨a,vs,C,rfl,_⟩:=h.lstSq;exact⟨a,rfl⟩
 |tup ts=>obtain⟨a,vs,rfl,_⟩:=h.tupS;exact⟨a,rfl⟩
 |_=>cases i
theorem au7{t u:T}{x y:V}{A B:List Addr}{b:Bool}(rt:Rep K cn H Z t x A)(ru:Rep K cn H Z u y B)(hs:aj8 t u=true)(h:kK t u=some b):bt4 x y=true/\b=decide (x=y):=by
 unfold kK at h
 split at h
 all_goals first
  |(cases hs;done)
  |(simp only[Rep]at rt ru;obtain⟨rfl,_⟩:=rt;obtain⟨rfl,_⟩:=ru;cases h;exact⟨rfl,by first|rfl|(rw[aj1])|(rw[az5])|(rw[aw1])|(symm;exact decide_eq_false (λz=>nomatch z))⟩)
  |(cases h;done)
theorem kU:mP K cn (bj4 K bV) jH:=λE As H Z t u x y A B Q zi rt ru w=>by
 unfold jH at w
 split at w
 . next b h=>
   unfold eqB at h
   split at h
   . next hs=>
     obtain⟨p,rfl⟩:=rt.seqRef hs.1
     obtain⟨q,rfl⟩:=ru.seqRef hs.2
     exact .inr ⟨p,q,b,rfl,rfl,ap4 bV t u rt ru h,w.val zi (qA _)⟩
   . split at h
     . next hs=>
       obtain⟨q1,rfl⟩:=au7 rt ru hs h
       exact .inl ⟨q1,w.val zi (qA _)⟩
     . cases h
 . exact w.elim
def neT(t u:T):Res T:=if aj8 t u=true then match kK t u with
 |some b=>.ok (.bl (!b))
 |none=>.no else .no
theorem cy7:mP K cn rNe neT:=λE As H Z t u x y A B Q zi rt ru w=>by
 unfold neT at w
 split at w
 . next hs=>
   split at w
   . next b h=>
     obtain⟨q1,rfl⟩:=au7 rt ru hs h
     exact⟨q1,w.val zi (qA _)⟩
   . exact w.elim
 . exact w.elim
def yR(j i:Str):Bool:=!(Builtin.Str.occurrences j i 0 j.length 1).isEmpty
def wP(t:T):List T->Option (List Bool)
 |[]=>some []
 |u::us=>(jW bV u t).bind λb=>(wP t us).map λes=>b::es
theorem xS{t:T}{x:V}{A:List Addr}(rt:Rep K cn H Z t x A):∀(us:List T){ws:List V}{B:List Addr}{es:List Bool},Reps K cn H Z us ws B->wP t us=some es->es.length=ws.length/\∀(j:Nat) y e,ws[j]?=some y->es[j]?=some e->EqD K H bV y x e
 |[],ws,B,es,r,h=>by
  simp only[Reps]at r
  obtain⟨rfl,_⟩:=r
  cases h
  exact⟨rfl,λj y e e1=>by simp at e1⟩
 |u::us,ws,B,es,r,h=>by
  simp only[Reps]at r
  obtain⟨w,ws',B1,C1,rfl,rfl,a1,a2⟩:=r
  rw[wP,Option.bind_eq_some_iff]at h
  obtain⟨b,h1,h⟩:=h
  rw[Option.map_eq_some_iff]at h
  obtain⟨es',h2,rfl⟩:=h
  obtain⟨q1,q2⟩:=xS rt us a2 h2
  refine⟨by simp[q1],λj y e e1 e2=>?_⟩
  cases j with
  |zero=>
   simp at e1 e2
   subst e1 e2
   exact ap4 bV u t a1 rt h1
  |succ j=>exact q2 j y e (by simpa using e1) (by simpa using e2)
def inT(neg:Bool):T->T->Res T
 |t,.lst _ us=>match wP t us with
  |some es=>.ok (.bl (if neg=true then !es.any id else es.any id))
  |none=>.no
 |t,.tup us=>match wP t us with
  |some es=>.ok (.bl (if neg=true then !es.any id else es.any id))
  |none=>.no
 |.str i,.str j=>.ok (.bl (if neg=true then !yR j i else yR j i))
 |_,_=>.no
theorem cq1{neg:Bool}:mP K cn (aj5 K bV neg) (inT neg):=λE As H Z t u x y A B Q zi rt ru w=>by
 unfold inT at w
 split at w
 . next t o us=>
   split at w
   . next es h=>
     obtain⟨a,vs,C,rfl,hs,r1,_⟩:=ru.lstSq
     obtain⟨q1,q2⟩:=xS rt us r1 h
     exact .inl ⟨a,vs,rfl,.inl hs.sq,es,q1,q2,w.val zi (qA _)⟩
   . exact w.elim
 . next t us=>
   split at w
   . next es h=>
     obtain⟨a,vs,rfl,hs,r1⟩:=ru.tupS
     obtain⟨q1,q2⟩:=xS rt us r1 h
     exact .inl ⟨a,vs,rfl,.inr hs,es,q1,q2,w.val zi (qA _)⟩
   . exact w.elim
 . next i j=>rw[rt.str,ru.str];exact .inr ⟨i,j,rfl,rfl,w.val zi (qA _)⟩
 . exact w.elim
end
end TL
namespace L2
open PySem PySem.Spec PyProof.Rows
section
variable {X : Cx} (K : PySem.W.Frag)
theorem gH{n:Nat}{k:Nat}(hr:Room k X.A)(hn:n<=60:=by decide)(hK:X.K=K:=by rfl):OpR X (compareOp .Eq) (bj4 K n):=by
 subst hK
 exact cz1 (by have:=hr.units;omega)
theorem co2{n:Nat}{k:Nat}(hr:Room k X.A)(hn:n<=60:=by decide)(hK:X.K=K:=by rfl):OpR X (compareOp .In) (aj5 K n false):=by
 subst hK
 exact cw1 (by have:=hr.units;omega)
theorem be3{n:Nat}{k:Nat}(hr:Room k X.A)(hn:n<=60:=by decide)(hK:X.K=K:=by rfl):OpR X (compareOp .NotIn) (aj5 K n true):=by
 subst hK
 exact bp1 (by have:=hr.units;omega)
theorem bT(hK:X.K=K:=by rfl):IxR X (rIx K):=by
 subst hK
 exact cb1
def cm1:V->Option Int->Option Int->Hp->VK->Prop:=λx lo hi H Q=>co1 K x lo hi H Q\/cn4 K x lo hi H Q\/cx1 x lo hi H Q
theorem mD(hK:X.K=K:=by rfl):SlR X (cm1 K):=by
 subst hK
 exact SlR.or br8 (SlR.or cf4 cc2)
theorem gE{a:Expr}{ta:TE}(ha:PE X a ta)(he:∀whole,isTrue a X.env whole=(do let v<-whole;standAt a.pos;holding [v] (truthy v)))(hK:X.K=K:=by rfl):
 PT X a (λσ H Q=>ta σ H λx H'=>∃k,ai4 K x H' k/\Q k H'):=by
 subst hK
 exact bj6 ha he
theorem jP{tg l:Expr}{tl:TE}(hl:PE X l tl)(hK:X.K=K:=by rfl):PI X tg l (TL.iV K tl):=by
 subst hK
 intro pins s σ H R I h
 refine cE (hl s σ H _ I h) λv s1 ⟨x,H1,I1,r1,q1⟩=>?_
 rcases q1 with⟨a,e,q⟩|⟨z,e,q⟩
 . subst e
   cases r1
   rcases q with⟨⟨xs,hq⟩,q⟩|⟨⟨xs,hq⟩,q⟩
   . obtain⟨its,rv,p,hz⟩:=I1.list hq
     refine wpAny_pyIter_list p.isList ?_
     refine⟨s1.heap.objs.size,[s1.heap.objs.size],_,_,H1,rfl,I1.kept (t':=s1.toks) λb o e=>Heap.get?_push_of_some _ e,bn2 a _,⟨_,Heap.get?_push_size _ rfl,rfl,rfl⟩,λb hb=>?_,q⟩
     have e:b=s1.heap.objs.size:=by simpa using hb
     subst e
     exact I1.fpOk (Nat.le_refl _) (I1.hok.fresh (Nat.le_refl _))
   . obtain⟨its,rv,p,hz⟩:=I1.tuple hq
     refine wpAny_pyIter_tuple (show s1.heap.IsTuple a its.toArray from p) ?_
     refine⟨s1.heap.objs.size,[s1.heap.objs.size],_,_,H1,rfl,I1.kept (t':=s1.toks) λb o e=>Heap.get?_push_of_some _ e,ay7 a _,⟨_,Heap.get?_push_size _ rfl,rfl,rfl⟩,λb hb=>?_,q⟩
     have e:b=s1.heap.objs.size:=by simpa using hb
     subst e
     exact I1.fpOk (Nat.le_refl _) (I1.hok.fresh (Nat.le_refl _))
 . subst e
   obtain⟨t,rfl⟩:=r1
   have fp:∀b∈[s1.heap.objs.size],rR X pins H1 b:=λb hb=>by
    have e:b=s1.heap.objs.size:=by simpa using hb
    subst e
    exact I1.fpOk (Nat.le_refl _) (I1.hok.fresh (Nat.le_refl _))
   cases ha:z.cps.all (· <128)
   . exact wpAny_pyIter_wide ha ⟨s1.heap.objs.size,[s1.heap.objs.size],_,_,H1,rfl,I1.kept (t':=s1.toks) λb o e=>Heap.get?_push_of_some _ e,br0 _ z t,⟨_,Heap.get?_push_size _ rfl,rfl,rfl⟩,fp,q⟩
   . exact wpAny_pyIter_ascii ha ⟨s1.heap.objs.size,[s1.heap.objs.size],_,_,H1,rfl,I1.kept (t':=s1.toks) λb o e=>Heap.get?_push_of_some _ e,aq9 _ z t,⟨_,Heap.get?_push_size _ rfl,rfl,rfl⟩,fp,q⟩
theorem iR{es:List Expr}{k:Nat}{t:wR}{pos:Pos}(n:Nat)(hc:X.calm=true)(h:PGs X es t)
 (hn:(assignEach es X.env).length=n:=by rfl)(hst:(assignEach es X.env).findIdx? (·.1)=none:=by rfl)(hK:X.K=K:=by rfl):PG X (.Tuple es k pos) (au9 K n t):=by
 subst hK
 exact cy0 hc h hn hst
theorem lF{o e:Expr}{es:List Expr}{to:TE}{t:TA}{name:Str}{apos cpos:Pos}{T id:String}{r:V->List V->Hp->VK->Prop}(pa:PlainAttrs T)(slot:Slot T name id)(hty:typeOf (.builtin id)=pure (.type "method_descriptor"))(hm:MtR X id r)(ho:PE X o to)(ha:PA X (e::es) t)
 (hbase:attributeBase o name X.env (eval o X.env)=eval o X.env:=by rfl)
 (hfew:((backTo cpos (starEach (e::es) X.env)).all (λx=>!x.1)&&(backToKw cpos (keywordEach [] X.env)).all (λx=>x.1.isSome)
  &&decide ((e::es).length+([]:List Keyword).length+(if([]:List Keyword).isEmpty then 0 else 1)<30))=true:=by rfl)
 (hline:(apos.endLine==cpos.line)=true:=by rfl)(hs:starEach (e::es) X.env=(false,eval e X.env)::starEach es X.env:=by rfl)(hplain:(backTo cpos (starEach es X.env)).any (·.1)=false:=by rfl)(hK:X.K=K:=by rfl):
 PE X (.Call (.Attribute o name apos) (e::es) [] cpos) (tBM K T r to t):=by
 subst hK
 exact cl5 pa slot hty hm ho ha hbase hfew hline hs hplain
theorem eZ(hK:X.K=K:=by rfl):CallR X (.builtin "len") (cf1 K):=by subst hK;exact bs4
theorem ag2(hK:X.K=K:=by rfl):CallR X (.builtin "abs") cn2:=bq4
theorem sC(hK:X.K=K:=by rfl):CallR X (.builtin "divmod") an7:=ak6
theorem nE(hc:X.calm=true:=by rfl)(hK:X.K=K:=by rfl):CallR X (.builtin "all") (cl3 K):=by subst hK;exact bf4 hc
theorem bs1(hc:X.calm=true:=by rfl)(hK:X.K=K:=by rfl):CallR X (.builtin "max") (be6 K):=by subst hK;exact bp2 hc
theorem al2(hc:X.calm=true:=by rfl)(hK:X.K=K:=by rfl):CallR X (.builtin "min") (bu3 K):=by subst hK;exact by0 hc
def bx0:List V->Hp->VK->Prop:=λxs H Q=>∃p ys,xs=[.ref p]/\(SqL K H p ys\/SqT K H p ys)/\∀l,H l=none->Q (.ref l) (upd H l (.lst ys))
theorem iW(hK:X.K=K:=by rfl):CallR X (.type "list") (bx0 K):=by subst hK;exact ah5
end
end L2
namespace TL
open PySem PySem.Spec PyProof.Rows L2
section
variable {Jn : fM} {K : PySem.W.Frag} {cn : Str → Option Addr} {E : XK} {As : List (List Addr)} {H : Hp} {Z : Addr → Prop} {Q : VK}
def bW:T->T->Res T
 |.lst _ ts,.int n=>match atI ts n with
  |some t=>.ok t
  |none=>.no
 |.tup ts,.int n=>match atI ts n with
  |some t=>.ok t
  |none=>.no
 |.str z,.int n=>if z.length<=sizeLine then match atI z.cps.toList n with
  |some c=>.ok (.str ⟨#[c]⟩)
  |none=>.no else .no
 |_,_=>.no
theorem Reps.atI{ts:List T}{vs:List V}{A:List Addr}{n:Int}{t:T}(r:Reps K cn H Z ts vs A)(h:L2.atI ts n=some t):∃v B,L2.atI vs n=some v/\Rep K cn H Z t v B:=by
 unfold L2.atI at h⊢
 rw[Option.bind_eq_some_iff]at h
 obtain⟨j,h1,h2⟩:=h
 obtain⟨v,B,e,rv,_⟩:=Reps.get ts r h2
 exact⟨v,B,by rw[Reps.length ts r,h1];exact e,rv⟩
theorem bI{ta tb:TE}{a b:Fr->Res T}(ha:RB Jn K cn E ta a)(hb:RB Jn K cn E tb b):RB Jn K cn E (tOp (rIx K) ta tb) (aJ bW a b):=λAs H Z ρ σ F Q w=>by
 unfold aJ at w
 refine ha As H Z ρ σ F _ ?_
 cases e:a ρ with
 |ok t=>
  rw[e]at w
  intro v H1 Z1 B p
  refine hb As H1 Z1 ρ σ (F.mo p.mo) _ ?_
  simp only[Res.bind]at w
  cases e2:b ρ with
  |ok u=>
   rw[e2]at w
   intro v2 H2 Z2 B2 p2
   have rt:=p.rep.same p2.same p2.zz
   have m:=p.mo.trans p2.mo
   have cL:∀{t:T}{v:V}{C:List Addr},WpB K cn E As H Z Q (.ok t)->Rep K cn H2 Z2 t v C->Q v H2:=λw r=>w _ H2 Z2 _ ⟨m.same,m.zz,m.zn,m.zi,r⟩
   simp only at w
   unfold bW at w
   split at w
   . next o ts n=>
     split at w
     . next t' h=>
       obtain⟨q,vs,C,rfl,hs,r,_⟩:=rt.lstSq
       obtain⟨v',D,e3,rv⟩:=r.atI h
       exact .inl ⟨q,vs,n,v',rfl,p2.rep.int,hs.sq,e3,cL w rv⟩
     . exact w.elim
   . next ts n=>
     split at w
     . next t' h=>
       obtain⟨q,vs,rfl,hs,r⟩:=rt.tupS
       obtain⟨v',D,e3,rv⟩:=r.atI h
       exact .inr (.inl ⟨q,vs,n,v',rfl,p2.rep.int,hs,e3,cL w rv⟩)
     . exact w.elim
   . next z n=>
     split at w
     . next hz=>
       split at w
       . next c h=>exact .inr (.inr ⟨z,n,c,rt.str,p2.rep.int,hz,h,cL w (ab5 _)⟩)
       . exact w.elim
     . exact w.elim
   . exact w.elim
  |ex x=>rw[e2]at w;exact WpX.ev w p.mo.ev
  |no=>rw[e2]at w;exact w
 |ex x=>rw[e]at w;exact w
 |no=>rw[e]at w;exact w
def gL{α:Type}(xs:List α)(lo hi:Option Int):List α:=(xs.drop (HT.sIx xs.length 0 lo)).take (HT.sIx xs.length xs.length hi-HT.sIx xs.length 0 lo)
def kO:T->Option Int->Option Int->Res T
 |.lst _ ts,lo,hi=>if bA ts=true then .ok (.lst true (gL ts lo hi))else .no
 |.tup ts,lo,hi=>if bA ts=true/\¬(HT.sIx ts.length 0 lo=0/\HT.sIx ts.length ts.length hi=ts.length)then .ok (.tup (gL ts lo hi))else .no
 |.str z,lo,hi=>if z.length<=sizeLine then .ok (.str (Txt.slice z lo hi))else .no
 |_,_,_=>.no
theorem Reps.cut{ts:List T}{vs:List V}(r:Reps K cn H Z ts vs [])(lo hi:Option Int):Reps K cn H Z (gL ts lo hi) (vZ vs lo hi) []:=by
 unfold gL vZ
 rw[Reps.length ts r]
 exact Reps.take _ _ (Reps.drop _ _ r)
theorem mC:RSR K cn (cm1 K) kO:=λE As H Z t x A lo hi Q zi rt w=>by
 cases t with
 |lst o ts=>
  simp only[kO]at w
  split at w
  . next h=>
    obtain⟨q,vs,C,rfl,hs,r,_⟩:=rt.lstSq
    exact .inl ⟨q,vs,rfl,hs.sq,λp hp=>w.newL zi ((r.bareE h).cut lo hi) p hp⟩
  . exact w.elim
 |tup ts=>
  simp only[kO]at w
  split at w
  . next h=>
    obtain⟨q,vs,rfl,hs,r⟩:=rt.tupS
    exact .inr (.inl ⟨q,vs,rfl,hs,by rw[Reps.length ts r];exact h.2,λp hp=>w.newT zi ((r.bareE h.1).cut lo hi) p hp⟩)
  . exact w.elim
 |str z=>
  simp only[kO]at w
  split at w
  . next h=>rw[rt.str];exact .inr (.inr ⟨z,rfl,h,w.val zi (ab5 _)⟩)
  . exact w.elim
 |_=>exact w.elim
def bz3(k:Option Int):T->Res T
 |.lst _ ts=>if bA ts=true/\k=some (-1)then .ok (.lst true ts.reverse)else .no
 |_=>.no
def ci8(a:Fr->Res T)(s:Fr->Res (Option Int)):Fr->Res T:=λρ=>(a ρ).bind λt=>(s ρ).bind λk=>bz3 k t
theorem Reps.one1{t:T}{vs:List V}{A:List Addr}(r:Reps K cn H Z [t] vs A):∃v,vs=[v]/\Rep K cn H Z t v A:=by
 simp only[Reps]at r
 obtain⟨v,w,B,C,rfl,rfl,r,rfl,rfl⟩:=r
 exact⟨v,rfl,by simpa using r⟩
theorem Reps.two2{t u:T}{vs:List V}{A:List Addr}(r:Reps K cn H Z [t,u] vs A):∃v w B C,vs=[v,w]/\A=B++C/\Rep K cn H Z t v B/\Rep K cn H Z u w C:=by
 simp only[Reps]at r
 obtain⟨v,w,B,C,rfl,rfl,r,v2,w2,B2,C2,rfl,rfl,r2,rfl,rfl⟩:=r
 exact⟨v,v2,B,B2,rfl,by simp,r,r2⟩
def kA:List T->Res T
 |[.str z]=>if z.length<=sizeLine then .ok (.int z.length)else .no
 |[.lst _ ts]=>.ok (.int ts.length)
 |[.tup ts]=>.ok (.int ts.length)
 |_=>.no
theorem lV:vO K cn (cf1 K) kA:=λE As H Z ts xs A Q zi r w=>by
 unfold kA at w
 split at w
 . next z=>
   split at w
   . next h=>obtain⟨v,rfl,rv⟩:=r.one1;rw[rv.str];exact⟨_,_,rfl,⟨h,rfl⟩,w.val zi (jF _)⟩
   . exact w.elim
 . next o ts=>
   obtain⟨v,rfl,rv⟩:=r.one1
   obtain⟨q,vs,C,rfl,hs,r',_⟩:=rv.lstSq
   exact⟨_,_,rfl,.inl ⟨vs,hs.sq,rfl⟩,by rw[Reps.length ts r'];exact w.val zi (jF _)⟩
 . next ts=>
   obtain⟨v,rfl,rv⟩:=r.one1
   obtain⟨q,vs,rfl,hs,r'⟩:=rv.tupS
   exact⟨_,_,rfl,.inr ⟨vs,hs,rfl⟩,by rw[Reps.length ts r'];exact w.val zi (jF _)⟩
 . exact w.elim
def ax3:List T->Res T
 |[.int i]=>.ok (.int (if i<0 then -i else i))
 |_=>.no
theorem bh7:vO K cn cn2 ax3:=λE As H Z ts xs A Q zi r w=>by
 unfold ax3 at w
 split at w
 . next i=>rw[r.ints1];exact⟨i,rfl,w.val zi (jF _)⟩
 . exact w.elim
noncomputable def qU:List T->Res T
 |[.int i,.int j]=>gate (gF i j) (.ok (.tup [.int (i/j),.int (i%j)]))
 |_=>.no
theorem cw7(i j:Int):Reps K cn H Z [.int i,.int j] [.int i,.int j] []:=by
 simp only[Reps]
 exact⟨_,_,[],[],rfl,rfl,jF _,_,_,[],[],rfl,rfl,jF _,rfl,rfl⟩
theorem yT:vO K cn an7 qU:=λE As H Z ts xs A Q zi r w=>by
 unfold qU at w
 split at w
 . next i j=>
   obtain⟨h,w⟩:=w.gate
   rw[r.ints2];exact⟨i,j,rfl,h,λp hp=>w.newT zi (cw7 _ _) p hp⟩
 . exact w.elim
def aq3:T->Option String
 |.int _=>some "int"
 |.bl _=>some "bool"
 |.str _=>some "str"
 |.lst _ _=>some "list"
 |.tup _=>some "tuple"
 |_=>none
def bb4(tx ty:String):Option Bool:=
 if(ty="int"\/ty="bool"\/ty="str"\/ty="list"\/ty="tuple")then some (tx=ty\/(tx="bool"/\ty="int"))else none
theorem bu9{tx ty:String}{b:Bool}{t:T}(h0:aq3 t=some tx)(h:bb4 tx ty=some b):fY tx ty b:=by
 have hx:tx="int"\/tx="bool"\/tx="str"\/tx="list"\/tx="tuple":=by
  cases t<;>simp[aq3]at h0<;>subst h0<;>simp
 unfold bb4 at h
 split at h
 . next hy=>
   cases h
   rcases hx with rfl|rfl|rfl|rfl|rfl<;>rcases hy with rfl|rfl|rfl|rfl|rfl<;>constructor
 . cases h
theorem bm3{t:T}{v:V}{A:List Addr}{tx:String}(r:Rep K cn H Z t v A)(h:aq3 t=some tx):TyN K H v tx:=by
 cases t with
 |int i=>rw[r.int];cases h;rfl
 |bl i=>rw[r.bl];cases h;rfl
 |str i=>rw[r.str];cases h;rfl
 |lst o ts=>obtain⟨q,vs,C,rfl,hs,_⟩:=r.lstSq;cases h;exact .inl ⟨rfl,vs,hs.sq⟩
 |tup ts=>obtain⟨q,vs,rfl,hs,_⟩:=r.tupS;cases h;exact .inr ⟨rfl,vs,hs⟩
 |_=>cases h
def qV:List T->Res T
 |[t,.ty n]=>match aq3 t with
  |some tx=>match bb4 tx n with
   |some b=>.ok (.bl b)
   |none=>.no
  |none=>.no
 |_=>.no
theorem cv4:vO K cn (cf8 K) qV:=λE As H Z ts xs A Q zi r w=>by
 unfold qV at w
 split at w
 . next t n=>
   split at w
   . next tx h1=>
     split at w
     . next b h2=>
       obtain⟨v,u,B,C,rfl,_,r1,r2⟩:=r.two2
       simp only[Rep]at r2
       rw[r2.1]
       exact⟨v,n,tx,b,rfl,bm3 r1 h1,bu9 h1 h2,w.val zi (qA _)⟩
     . exact w.elim
   . exact w.elim
 . exact w.elim
def yC:List T->Option (List Bool)
 |[]=>some []
 |.bl b::ts=>(yC ts).map (b:: ·)
 |_::_=>none
theorem as4:∀(ts:List T){vs:List V}{A:List Addr}{bs:List Bool},Reps K cn H Z ts vs A->yC ts=some bs->vs=bs.map V.bl
 |[],vs,A,bs,r,h=>by
  simp only[Reps]at r
  cases h
  exact r.1
 |t::ts,vs,A,bs,r,h=>by
  simp only[Reps]at r
  obtain⟨v,vs',B,C,rfl,rfl,r1,r2⟩:=r
  cases t with
  |bl b=>
   simp only[yC]at h
   rw[Option.map_eq_some_iff]at h
   obtain⟨bs',h1,rfl⟩:=h
   rw[as4 ts r2 h1,r1.bl]
   rfl
  |_=>cases h
def pM(any:Bool):List T->Res T
 |[.lst _ ts]=>match yC ts with
  |some bs=>.ok (.bl (if any=true then bs.any id else bs.all id))
  |none=>.no
 |_=>.no
theorem xX:vO K cn (cl3 K) (pM false):=λE As H Z ts xs A Q zi r w=>by
 unfold pM at w
 split at w
 . next o ts=>
   split at w
   . next bs h=>
     obtain⟨v,rfl,rv⟩:=r.one1
     obtain⟨q,vs,C,rfl,hs,r',_⟩:=rv.lstSq
     have:=as4 ts r' h
     subst this
     exact⟨q,bs,rfl,hs.sq,w.val zi (qA _)⟩
   . exact w.elim
 . exact w.elim
def wB:List T->Option (List Int)
 |[]=>some []
 |.int b::ts=>(wB ts).map (b:: ·)
 |_::_=>none
theorem ag1:∀(ts:List T){vs:List V}{A:List Addr}{bs:List Int},Reps K cn H Z ts vs A->wB ts=some bs->vs=bs.map V.int
 |[],vs,A,bs,r,h=>by
  simp only[Reps]at r
  cases h
  exact r.1
 |t::ts,vs,A,bs,r,h=>by
  simp only[Reps]at r
  obtain⟨v,vs',B,C,rfl,rfl,r1,r2⟩:=r
  cases t with
  |int b=>
   simp only[wB]at h
   rw[Option.map_eq_some_iff]at h
   obtain⟨bs',h1,rfl⟩:=h
   rw[ag1 ts r2 h1,r1.int]
   rfl
  |_=>cases h
theorem uC:∀ns:List Int,wB (ns.map T.int)=some ns
 |[]=>rfl
 |n::ns=>by simp[wB,uC ns]
theorem ab2:∀ns:List Bool,yC (ns.map T.bl)=some ns
 |[]=>rfl
 |n::ns=>by simp[yC,ab2 ns]
def bx5:List Int->Int
 |[]=>0
 |n::ns=>ns.foldl (λa b=>if b>a then b else a) n
def ar4:List Int->Int
 |[]=>0
 |n::ns=>ns.foldl (λa b=>if b<a then b else a) n
theorem aw2:∀(n:Int)(ns:List Int),(ns.foldl (λa b=>if b>a then b else a) n∈n::ns)/\∀a∈n::ns,a<=ns.foldl (λa b=>if b>a then b else a) n
 |n,[]=>by simp
 |n,m::ns=>by
  simp only[List.foldl_cons]
  have ih:=aw2 (if m>n then m else n) ns
  refine⟨?_,λa ha=>?_⟩
  . rcases List.mem_cons.mp ih.1 with h|h
    . rw[h];split<;>simp
    . exact List.mem_cons_of_mem _ (List.mem_cons_of_mem _ h)
  . have h1:=ih.2 (if m>n then m else n) List.mem_cons_self
    rcases List.mem_cons.mp ha with rfl|ha
    . split at h1<;>rename_i hc
      . simp only[hc,if_true];omega
      . simp only[hc,if_false];exact h1
    . rcases List.mem_cons.mp ha with rfl|ha
      . split at h1<;>rename_i hc
        . simp only[hc,if_true];exact h1
        . simp only[hc,if_false];omega
      . exact ih.2 a (List.mem_cons_of_mem _ ha)
theorem ah2:∀(n:Int)(ns:List Int),(ns.foldl (λa b=>if b<a then b else a) n∈n::ns)/\∀a∈n::ns,ns.foldl (λa b=>if b<a then b else a) n<=a
 |n,[]=>by simp
 |n,m::ns=>by
  simp only[List.foldl_cons]
  have ih:=ah2 (if m<n then m else n) ns
  refine⟨?_,λa ha=>?_⟩
  . rcases List.mem_cons.mp ih.1 with h|h
    . rw[h];split<;>simp
    . exact List.mem_cons_of_mem _ (List.mem_cons_of_mem _ h)
  . have h1:=ih.2 (if m<n then m else n) List.mem_cons_self
    rcases List.mem_cons.mp ha with rfl|ha
    . split at h1<;>rename_i hc
      . simp only[hc,if_true];omega
      . simp only[hc,if_false];exact h1
    . rcases List.mem_cons.mp ha with rfl|ha
      . split at h1<;>rename_i hc
        . simp only[hc,if_true];exact h1
        . simp only[hc,if_false];omega
      . exact ih.2 a (List.mem_cons_of_mem _ ha)
def an1:List T->Res T
 |[.int i,.int j]=>.ok (.int (if j>i then j else i))
 |[.lst _ ts]=>match wB ts with
  |some (n::ns)=>.ok (.int (bx5 (n::ns)))
  |_=>.no
 |_=>.no
def sR:List T->Res T
 |[.int i,.int j]=>.ok (.int (if j<i then j else i))
 |[.lst _ ts]=>match wB ts with
  |some (n::ns)=>.ok (.int (ar4 (n::ns)))
  |_=>.no
 |_=>.no
theorem cn6:vO K cn (be6 K) an1:=λE As H Z ts xs A Q zi r w=>by
 unfold an1 at w
 split at w
 . next i j=>rw[r.ints2];exact .inl ⟨i,j,rfl,w.val zi (jF _)⟩
 . next o ts=>
   split at w
   . next n ns h=>
     obtain⟨v,rfl,rv⟩:=r.one1
     obtain⟨q,vs,C,rfl,hs,r',_⟩:=rv.lstSq
     have:=ag1 ts r' h
     subst this
     refine .inr ⟨q,n::ns,rfl,hs.sq,List.cons_ne_nil _ _,λM h1 h2=>?_⟩
     obtain⟨g1,g2⟩:=aw2 n ns
     have:M=bx5 (n::ns):=Int.le_antisymm (g2 M h1) (h2 _ g1)
     rw[this]
     exact w.val zi (jF _)
   . exact w.elim
 . exact w.elim
theorem bv6:vO K cn (bu3 K) sR:=λE As H Z ts xs A Q zi r w=>by
 unfold sR at w
 split at w
 . next i j=>rw[r.ints2];exact .inl ⟨i,j,rfl,w.val zi (jF _)⟩
 . next o ts=>
   split at w
   . next n ns h=>
     obtain⟨v,rfl,rv⟩:=r.one1
     obtain⟨q,vs,C,rfl,hs,r',_⟩:=rv.lstSq
     have:=ag1 ts r' h
     subst this
     refine .inr ⟨q,n::ns,rfl,hs.sq,List.cons_ne_nil _ _,λM h1 h2=>?_⟩
     obtain⟨g1,g2⟩:=ah2 n ns
     have:M=ar4 (n::ns):=Int.le_antisymm (h2 _ g1) (g2 M h1)
     rw[this]
     exact w.val zi (jF _)
   . exact w.elim
 . exact w.elim
def cg4(n:Int):List Int->List Int
 |[]=>[n]
 |m::ms=>if n<=m then n::m::ms else m::cg4 n ms
def ai9:List Int->List Int
 |[]=>[]
 |n::ns=>cg4 n (ai9 ns)
def ai7:List T->Res T
 |[.lst _ ts]=>match wB ts with
  |some ns=>if ns.length<64 then .ok (.lst true ((ai9 ns).map .int))else .no
  |none=>.no
 |_=>.no
def iP:List T->Res T
 |[.lst _ ts]=>if bA ts=true then .ok (.lst true ts)else .no
 |[.tup ts]=>if bA ts=true then .ok (.lst true ts)else .no
 |_=>.no
theorem pG:vO K cn (bx0 K) iP:=λE As H Z ts xs A Q zi r w=>by
 unfold iP at w
 split at w
 . next o ts=>
   split at w
   . next h=>
     obtain⟨v,rfl,rv⟩:=r.one1
     obtain⟨q,vs,C,rfl,hs,r',_⟩:=rv.lstSq
     exact⟨q,vs,rfl,.inl hs.sq,λl hl=>w.newL zi (r'.bareE h) l hl⟩
   . exact w.elim
 . next ts=>
   split at w
   . next h=>
     obtain⟨v,rfl,rv⟩:=r.one1
     obtain⟨q,vs,rfl,hs,r'⟩:=rv.tupS
     exact⟨q,vs,rfl,.inr hs,λl hl=>w.newL zi (r'.bareE h) l hl⟩
   . exact w.elim
 . exact w.elim
def bw9:T->List T->Res T
 |.str z,[.str y]=>.ok (.bl (Txt.startswith z y))
 |_,_=>.no
def uE:List T->Option (List Str)
 |[]=>some []
 |.str b::ts=>(uE ts).map (b:: ·)
 |_::_=>none
theorem at7:∀(ts:List T){vs:List V}{A:List Addr}{bs:List Str},Reps K cn H Z ts vs A->uE ts=some bs->vs=bs.map V.str
 |[],vs,A,bs,r,h=>by
  simp only[Reps]at r
  cases h
  exact r.1
 |t::ts,vs,A,bs,r,h=>by
  simp only[Reps]at r
  obtain⟨v,vs',B,C,rfl,rfl,r1,r2⟩:=r
  cases t with
  |str b=>
   simp only[uE]at h
   rw[Option.map_eq_some_iff]at h
   obtain⟨bs',h1,rfl⟩:=h
   rw[at7 ts r2 h1,r1.str]
   rfl
  |_=>cases h
theorem sH:∀ns:List Str,uE (ns.map T.str)=some ns
 |[]=>rfl
 |n::ns=>by simp[uE,sH ns]
def bj7:T->List T->Res T
 |.str z,[.lst _ ts]=>match uE ts with
  |some ys=>if(ys.map (·.length)).sum+ys.length*z.length<=16777216 then .ok (.str (Txt.join z ys))else .no
  |none=>.no
 |_,_=>.no
end
end TL
namespace TL
open PySem PySem.Spec PyProof.Rows L2
theorem xP{α β:Type}(a:α)(f:α->Res β):(Res.ok a).bind f=f a:=rfl
theorem ab4{b:T->Fr->Option Fr}{body:Fr->bP}(P:Nat->Fr->Prop):∀(ts:List T)(k:Nat){ρ:Fr},P k ρ->(∀i t ρ,ts[i]?=some t->P (k+i) ρ->∃ρ1 ρ2,b t ρ=some ρ1/\(body ρ1=.nx ρ2\/body ρ1=.ct ρ2)/\P (k+i+1) ρ2)->∃ρ',jG b body ts ρ=.nx ρ'/\P (k+ts.length) ρ'
 |[],k,ρ,h0,_=>⟨ρ,rfl,h0⟩
 |t::ts,k,ρ,h0,hs=>by
  obtain⟨ρ1,ρ2,h1,h2,h3⟩:=hs 0 t ρ rfl h0
  obtain⟨ρ',h4,h5⟩:=ab4 (b:=b) (body:=body) P ts (k+1) h3 (λi u ρ e p=>by
   have:=hs (i+1) u ρ (by simpa using e) (by rw[show k+(i+1)=k+1+i by omega];exact p)
   rw[show k+(i+1)+1=k+1+i+1 by omega]at this
   exact this)
  refine⟨ρ',?_,by rw[List.length_cons,show k+(ts.length+1)=k+1+ts.length by omega];exact h5⟩
  rcases h2 with h2|h2<;>simp only[jG,h1,h2,h4]
theorem zU{c:Fr->Res Bool}{body:Fr->bP}(P:Nat->Fr->Prop)(hs:∀m ρ,P m ρ->(c ρ=.ok false)\/(c ρ=.ok true/\∃ρ2 m',(body ρ=.nx ρ2\/body ρ=.ct ρ2)/\m'<m/\P m' ρ2)):∀(n m:Nat){ρ:Fr},P m ρ->m<n->∃ρ' m',nT c body n ρ=.nx ρ'/\P m' ρ'/\c ρ'=.ok false
 |0,m,ρ,_,hm=>by omega
 |n+1,m,ρ,h0,hm=>by
  rcases hs m ρ h0 with h|⟨h,ρ2,m',h2,hl,hp⟩
  . exact⟨ρ,m,by simp only[nT,h,Bool.false_eq_true,if_false],h0,h⟩
  . obtain⟨ρ',m'',h4,h5,h6⟩:=zU P hs n m' hp (by omega)
    refine⟨ρ',m'',?_,h5,h6⟩
    rcases h2 with h2|h2<;>simp only[nT,h,h2,if_true,h4]
def Go(P:Fr->Prop):bP->Prop
 |.nx ρ=>P ρ
 |.ct ρ=>P ρ
 |_=>False
def GoB(P:Fr->Prop)(body:Fr->bP):Option Fr->Prop
 |some ρ=>Go P (body ρ)
 |none=>False
theorem cs5{P:Fr->Prop}{ρ:Fr}:Go P (.nx ρ)=P ρ:=rfl
theorem cy6{P:Fr->Prop}{ρ:Fr}:Go P (.ct ρ)=P ρ:=rfl
theorem bw3{P:Fr->Prop}{body:Fr->bP}{ρ:Fr}:GoB P body (some ρ)=Go P (body ρ):=rfl
theorem mY{b:T->Fr->Option Fr}{body:Fr->bP}{ts:List T}{ρ:Fr}{o:bP}(P:Nat->Fr->Prop)(h:jG b body ts ρ=o)(h0:P 0 ρ)(hs:∀i t ρ,ts[i]?=some t->P i ρ->GoB (P (i+1)) body (b t ρ)):∃ρ',o=.nx ρ'/\P ts.length ρ':=by
 obtain⟨ρ',h1,h2⟩:=ab4 (b:=b) (body:=body) P ts 0 h0 (λi t ρ e p=>by
  have:=hs i t ρ e (by rw[Nat.zero_add]at p;exact p)
  rw[Nat.zero_add]
  cases e1:b t ρ with
  |none=>rw[e1]at this;exact this.elim
  |some ρ1=>
   rw[e1]at this
   have g:Go (P (i+1)) (body ρ1):=this
   cases e2:body ρ1 with
   |nx ρ2=>rw[e2]at g;exact⟨ρ1,ρ2,rfl,.inl e2,g⟩
   |ct ρ2=>rw[e2]at g;exact⟨ρ1,ρ2,rfl,.inr e2,g⟩
   |_=>rw[e2]at g;exact g.elim)
 rw[Nat.zero_add]at h2
 exact⟨ρ',by rw[<-h,h1],h2⟩
def bn7(P B:Fr->Prop)(R:T->Prop):bP->Prop
 |.nx ρ=>P ρ
 |.ct ρ=>P ρ
 |.bk ρ=>B ρ
 |.rt t=>R t
 |_=>False
def cu3(P B:Fr->Prop)(R:T->Prop)(body:Fr->bP):Option Fr->Prop
 |some ρ=>bn7 P B R (body ρ)
 |none=>False
def GoW(P:Fr->Prop)(body:Fr->bP)(ρ:Fr):Res Bool->Prop
 |.ok true=>Go P (body ρ)
 |.ok false=>True
 |_=>False
theorem af2{c:Fr->Res Bool}{body:Fr->bP}{ρ:Fr}{o:bP}{m:Nat}(P:Nat->Fr->Prop)(h:rF c body ρ=o)(h0:P m ρ)(hm:m<10^12)(hs:∀m ρ,P m ρ->GoW (λρ2=>∃m',m'<m/\P m' ρ2) body ρ (c ρ)):∃ρ' m',o=.nx ρ'/\P m' ρ'/\c ρ'=.ok false:=by
 obtain⟨ρ',m',h1,h2,h3⟩:=zU (c:=c) (body:=body) P (λm ρ p=>by
  have g:=hs m ρ p
  cases e:c ρ with
  |ok k=>
   rw[e]at g
   cases k with
   |false=>exact .inl rfl
   |true=>
    have g':Go (λρ2=>∃m',m'<m/\P m' ρ2) (body ρ):=g
    refine .inr ⟨rfl,?_⟩
    cases e2:body ρ with
    |nx ρ2=>rw[e2]at g';obtain⟨m',q1,q2⟩:=g';exact⟨ρ2,m',.inl rfl,q1,q2⟩
    |ct ρ2=>rw[e2]at g';obtain⟨m',q1,q2⟩:=g';exact⟨ρ2,m',.inr rfl,q1,q2⟩
    |_=>rw[e2]at g';exact g'.elim
  |_=>rw[e]at g;exact g.elim) sN m h0 (Nat.lt_of_lt_of_le hm ck0)
 exact⟨ρ',m',by rw[<-h];exact h1,h2,h3⟩
theorem ch1(i j:Int):bR (.int i) (.int j)=.ok (.int (i+j)):=rfl
theorem ch2(a b:Str):bR (.str a) (.str b)=gate (a.length+b.length<=sizeLine) (.ok (.str (a++b))):=rfl
theorem ce1(o o':Bool)(xs ys:List T):bR (.lst o xs) (.lst o' ys)=gate ((bA xs&&bA ys)=true/\xs.length+ys.length<=sizeLine) (.ok (.lst true (xs++ys))):=rfl
theorem cd1(xs ys:List T):bR (.tup xs) (.tup ys)=gate ((bA xs&&bA ys)=true/\xs.length+ys.length<=sizeLine/\xs.isEmpty=false/\ys.isEmpty=false) (.ok (.tup (xs++ys))):=rfl
theorem cx3(i j:Int):lP (.int i) (.int j)=.ok (.int (i-j)):=rfl
theorem ch4(i j:Int):iD (.int i) (.int j)=gate (mulOk i j) (.ok (.int (i*j))):=rfl
theorem cc1(z:Str)(k:Int):iD (.str z) (.int k)=gate (-(2^63)<=k/\k<2^62/\z.length*k.toNat<=sizeLine) (.ok (.str (fN z k.toNat))):=rfl
theorem br9(i j:Int):gG (.int i) (.int j)=gate (gF i j) (.ok (.int (i/j))):=rfl
theorem cs1(i j:Int):dE (.int i) (.int j)=gate (0<j) (.ok (.int (i%j))):=rfl
theorem be2(i j:Int):uB (.int i) (.int j)=gate (xK i j) (.ok (.int (i^j.toNat))):=rfl
theorem ci5(i:Int):pP (.int i)=.ok (.int (-i)):=rfl
theorem cg5(i j:Int):ltT (.int i) (.int j)=.ok (.bl (decide (i<j))):=rfl
theorem cm7(i j:Int):pZ (.int i) (.int j)=.ok (.bl (decide (i<=j))):=rfl
theorem cr5(i j:Int):gtT (.int i) (.int j)=.ok (.bl (decide (j<i))):=rfl
theorem cq5(i j:Int):geT (.int i) (.int j)=.ok (.bl (decide (j<=i))):=rfl
theorem ci6(a b:Bool):isT (.bl a) (.bl b)=.ok (.bl (a==b)):=rfl
theorem co5:isT .non .non=.ok (.bl true):=rfl
theorem cj5(i:Int):isT (.int i) .non=.ok (.bl false):=rfl
theorem cu5(i:Str):isT (.str i) .non=.ok (.bl false):=rfl
theorem cb6(o:Bool)(i:List T):isT (.lst o i) .non=.ok (.bl false):=rfl
theorem cp6(i:List T):isT (.tup i) .non=.ok (.bl false):=rfl
theorem bp3:pD .non .non=.ok (.bl false):=rfl
theorem bb5(i:Int):pD (.int i) .non=.ok (.bl true):=rfl
theorem bo5(i:Str):pD (.str i) .non=.ok (.bl true):=rfl
theorem bv5(o:Bool)(i:List T):pD (.lst o i) .non=.ok (.bl true):=rfl
theorem bl4(i:List T):pD (.tup i) .non=.ok (.bl true):=rfl
theorem ck7(i j:Int):jH (.int i) (.int j)=.ok (.bl (i==j)):=rfl
theorem ct5(i j:Str):jH (.str i) (.str j)=.ok (.bl (i==j)):=rfl
theorem cq6(i j:Bool):jH (.bl i) (.bl j)=.ok (.bl (i==j)):=rfl
theorem cg7(i j:Int):neT (.int i) (.int j)=.ok (.bl (!(i==j))):=rfl
theorem cd7(i j:Str):neT (.str i) (.str j)=.ok (.bl (!(i==j))):=rfl
theorem cr6(i j:Bool):neT (.bl i) (.bl j)=.ok (.bl (!(i==j))):=rfl
theorem cc5(n:Bool)(i j:Str):inT n (.str i) (.str j)=.ok (.bl (if n=true then !yR j i else yR j i)):=rfl
theorem ch6(o:Bool)(ts:List T)(n:Int):bW (.lst o ts) (.int n)=match atI ts n with|some t=>.ok t|none=>.no:=rfl
theorem cc7(ts:List T)(n:Int):bW (.tup ts) (.int n)=match atI ts n with|some t=>.ok t|none=>.no:=rfl
theorem cu6(z:Str)(n:Int):bW (.str z) (.int n)=if z.length<=sizeLine then match atI z.cps.toList n with|some c=>.ok (.str ⟨#[c]⟩)|none=>.no else .no:=rfl
theorem cy8(o:Bool)(ts:List T)(lo hi:Option Int):kO (.lst o ts) lo hi=if bA ts=true then .ok (.lst true (gL ts lo hi))else .no:=rfl
theorem cu8(ts:List T)(lo hi:Option Int):kO (.tup ts) lo hi=if bA ts=true/\¬(HT.sIx ts.length 0 lo=0/\HT.sIx ts.length ts.length hi=ts.length)then .ok (.tup (gL ts lo hi))else .no:=rfl
theorem cz7(z:Str)(lo hi:Option Int):kO (.str z) lo hi=if z.length<=sizeLine then .ok (.str (Txt.slice z lo hi))else .no:=rfl
theorem cb7(z:Str):kA [.str z]=if z.length<=sizeLine then .ok (.int z.length)else .no:=rfl
theorem cp7(o:Bool)(ts:List T):kA [.lst o ts]=.ok (.int ts.length):=rfl
theorem cl6(ts:List T):kA [.tup ts]=.ok (.int ts.length):=rfl
theorem cf7(i:Int):ax3 [.int i]=.ok (.int (if i<0 then -i else i)):=rfl
theorem bj2(i j:Int):qU [.int i,.int j]=gate (gF i j) (.ok (.tup [.int (i/j),.int (i%j)])):=rfl
theorem by6(i:Int):qV [.int i,.ty "int"]=.ok (.bl true):=by with_unfolding_all rfl
theorem bi2(i:Int):qV [.int i,.ty "bool"]=.ok (.bl false):=by with_unfolding_all rfl
theorem bp7(i:Bool):qV [.bl i,.ty "bool"]=.ok (.bl true):=by with_unfolding_all rfl
theorem bw0(i:Bool):qV [.bl i,.ty "int"]=.ok (.bl true):=by with_unfolding_all rfl
theorem bx7(i:List T):qV [.tup i,.ty "tuple"]=.ok (.bl true):=by with_unfolding_all rfl
theorem bt7(o:Bool)(i:List T):qV [.lst o i,.ty "list"]=.ok (.bl true):=by with_unfolding_all rfl
theorem cf6(i:Str):qV [.str i,.ty "str"]=.ok (.bl true):=by with_unfolding_all rfl
theorem cj2(i:Str):qV [.str i,.ty "int"]=.ok (.bl false):=by with_unfolding_all rfl
theorem ac9(a o:Bool)(bs:List Bool):pM a [.lst o (bs.map .bl)]=.ok (.bl (if a=true then bs.any id else bs.all id)):=by
 simp only[pM,ab2]
theorem cj1(i j:Int):an1 [.int i,.int j]=.ok (.int (if j>i then j else i)):=rfl
theorem cf2(i j:Int):sR [.int i,.int j]=.ok (.int (if j<i then j else i)):=rfl
theorem cw6(o:Bool)(n:Int)(ns:List Int):an1 [.lst o ((n::ns).map .int)]=.ok (.int (bx5 (n::ns))):=by
 simp only[an1,uC]
theorem ae9(o:Bool)(n:Int)(ns:List Int):sR [.lst o ((n::ns).map .int)]=.ok (.int (ar4 (n::ns))):=by
 simp only[sR,uC]
theorem bk4(o:Bool)(ns:List Int):ai7 [.lst o (ns.map .int)]=if ns.length<64 then .ok (.lst true ((ai9 ns).map .int))else .no:=by
 simp only[ai7,uC]
theorem cz2(o:Bool)(ts:List T):iP [.lst o ts]=if bA ts=true then .ok (.lst true ts)else .no:=rfl
theorem cd4(ts:List T):iP [.tup ts]=if bA ts=true then .ok (.lst true ts)else .no:=rfl
theorem bn0(z y:Str):bw9 (.str z) [.str y]=.ok (.bl (Txt.startswith z y)):=rfl
theorem bn8(z:Str)(o:Bool)(ys:List Str):bj7 (.str z) [.lst o (ys.map .str)]=if(ys.map (·.length)).sum+ys.length*z.length<=16777216 then .ok (.str (Txt.join z ys))else .no:=by
 simp only[bj7,sH]
theorem cn5(o:Bool)(ts:List T):mL (.lst o ts)=if bA ts=true then .ok ts else .no:=rfl
theorem cj7(ts:List T):mL (.tup ts)=if bA ts=true then .ok ts else .no:=rfl
theorem cm5(z:Str):mL (.str z)=.ok (z.cps.toList.map λc=>T.str ⟨#[c]⟩):=rfl
theorem cy5(ts:List T):vX (.lst false ts)=if bA ts=true then .ok ts else .no:=by simp only[vX,Bool.not_false,Bool.true_and]
theorem ce6(ts:List T):vX (.tup ts)=if bA ts=true then .ok ts else .no:=rfl
theorem ck6(z:Str):vX (.str z)=.ok (z.cps.toList.map λc=>T.str ⟨#[c]⟩):=rfl
theorem ce5(j:Int):oV [.int j]=gate (-(2^62)<=j/\j<2^62) (.ok (eV 0 j.toNat)):=rfl
theorem cz5(i j:Int):af8 [.int i,.int j]=gate (-(2^62)<=i/\i<2^62/\-(2^62)<=j/\j<2^62) (.ok (eV i (j-i).toNat)):=rfl
theorem co6(b:Bool):sQ (.bl b)=.ok b:=rfl
theorem ch5(b:Int):sQ (.int b)=.ok (b !=0):=rfl
theorem cu4:sQ .non=.ok false:=rfl
theorem ct4(o:Bool)(b:List T):sQ (.lst o b)=.ok (!b.isEmpty):=rfl
theorem cz4(b:Bool):toB (.bl b)=.ok b:=rfl
theorem cx6(i:Int):toI (.int i)=.ok (some i):=rfl
theorem cj6(o:Bool)(ts:List T):bz3 (some (-1)) (.lst o ts)=if bA ts=true then .ok (.lst true ts.reverse)else .no:=by
 simp only[bz3,and_true]
theorem eU{α:Type}{k:Nat}{d:Fr->Res T}{ρ:Fr}{g f:α->T}:∀{l:List α},(∀a∈l,d (ρ.set k (some (g a)))=.ok (f a))->dF (aQ k) cY d ρ (l.map g)=.ok (l.map f)
 |[],_=>rfl
 |a::l,h=>by
  simp only[List.map_cons,dF,aQ,cY,xP,if_true,h a List.mem_cons_self,eU (λu hu=>h u (List.mem_cons_of_mem _ hu))]
theorem nF{lo:Int}{n i:Nat}{t:T}(h:(eV lo n)[i]?=some t):i<n/\t=.int (lo+i):=by
 unfold eV at h
 rw[List.getElem?_map]at h
 cases q:(List.range n)[i]? with
 |none=>rw[q]at h;cases h
 |some j=>
  rw[q]at h
  obtain⟨h1,h2⟩:=List.getElem?_eq_some_iff.mp q
  simp at h1 h2
  subst h2
  cases h
  exact⟨h1,rfl⟩
theorem iK(lo:Int)(n:Nat):(eV lo n).length=n:=by simp[eV]
theorem iG{α:Type}{g:α->T}(h:∀a,dG (g a)=true):∀l:List α,bA (l.map g)=true
 |[]=>rfl
 |a::l=>by simp only[List.map_cons,bA,h a,iG h l,Bool.and_self]
theorem vI{α:Type}{g:α->T}(h:∀a,frz (g a)=g a):∀l:List α,frzs (l.map g)=l.map g
 |[]=>rfl
 |a::l=>by simp only[List.map_cons,frzs,h a,vI h l]
theorem kD{α:Type}{g:α->T}(h:∀a,gP (g a)=true):∀l:List α,fR (l.map g)=true
 |[]=>rfl
 |a::l=>by simp only[List.map_cons,fR,h a,kD h l,Bool.and_self]
theorem mM(l:List Int):bA (l.map T.int)=true:=iG (λ_=>rfl) l
theorem sL(l:List Int):frzs (l.map T.int)=l.map T.int:=vI (λ_=>rfl) l
theorem tE(l:List Int):fR (l.map T.int)=true:=kD (λ_=>rfl) l
theorem eS(l:List Str):bA (l.map T.str)=true:=iG (λ_=>rfl) l
theorem nC(l:List Str):frzs (l.map T.str)=l.map T.str:=vI (λ_=>rfl) l
theorem yN(l:List Str):fR (l.map T.str)=true:=kD (λ_=>rfl) l
theorem oJ(z:Str):z.length=z.cps.toList.length:=Array.length_toList.symm
theorem nQ(a b:Str):(a++b).cps.toList=a.cps.toList++b.cps.toList:=by
 show(a.cps++b.cps).toList=_
 simp
theorem ar8(a b:Str):(a++b).length=a.length+b.length:=by
 rw[oJ,oJ,oJ,nQ,List.length_append]
theorem tT(z:Str)(k:Nat):(fN z k).length=k*z.length:=by
 show((List.replicate k z.cps.toList).flatten.toArray).size=_
 rw[List.size_toArray,av7,Array.length_toList]
 rfl
end TL
namespace TL
open PySem PySem.Spec PyProof.Rows L2
section
variable {Jn : fM} {K : PySem.W.Frag} {cn : Str → Option Addr} {E : XK}
def oW(cs:List Str)(f:Str):T->Res T
 |.ins _ c ns ts=>if cs.contains c=true then match(ns.zip ts).lookup f with
  |some t=>.ok t
  |none=>.no else .no
 |_=>.no
def mH(K:PySem.W.Frag)(cn:Str->Option Addr)(cs:List Str)(f:Str):Prop:=∀c∈cs,∀C,cn c=some C->Cls K C/\NoAttr K C f
theorem Reps.lookup{H:Hp}{Z:Addr->Prop}{f:Str}{t:T}:∀(ns:List Str)(ts:List T){vs:List V}{A:List Addr},Reps K cn H Z ts vs A->(ns.zip ts).lookup f=some t->∃v B,(ns.zip vs).lookup f=some v/\Rep K cn H Z t v B
 |[],ts,_,_,_,e=>by simp at e
 |n::ns,[],_,_,_,e=>by simp at e
 |n::ns,u::ts,vs,A,r,e=>by
  simp only[Reps]at r
  obtain⟨v,r',B,C,rfl,rfl,h1,h2⟩:=r
  rw[List.zip_cons_cons,List.lookup_cons]at e⊢
  cases q:f==n with
  |true=>
   rw[q]at e
   cases e
   exact⟨v,B,rfl,h1⟩
  |false=>
   rw[q]at e
   exact Reps.lookup ns ts h2 e
theorem Rep.insS{H:Hp}{Z:Addr->Prop}{o:Bool}{c:Str}{ns:List Str}{ts:List T}{v:V}{B:List Addr}(r:Rep K cn H Z (.ins o c ns ts) v B):∃a C dx vs D,v=.ref a/\cn c=some C/\H a=some (.ins C dx (ns.zip vs))/\ns.length=vs.length/\Reps K cn H Z ts vs D:=by
 cases o with
 |true=>
  simp only[Rep]at r
  obtain⟨a,C,dx,vs,D,rfl,_,hc,e,l,r⟩:=r
  exact⟨a,C,dx,vs,D,rfl,hc,e,l,r⟩
 |false=>
  simp only[Rep]at r
  obtain⟨a,C,dx,vs,rfl,_,hc,e,_,l,r⟩:=r
  exact⟨a,C,dx,vs,[],rfl,hc,e,l,r⟩
theorem tP{cs:List Str}{f:Str}{ta:TE}{a:Fr->Res T}(hf:mH K cn cs f)(ha:RB Jn K cn E ta a):RB Jn K cn E (bn3 K ta f) (eX (oW cs f) a):=λAs H Z ρ σ F Q w=>by
 unfold eX at w
 refine ha As H Z ρ σ F _ ?_
 cases e:a ρ with
 |ok t=>
  rw[e]at w
  intro v H1 Z1 B p
  simp only[Res.bind]at w
  unfold oW at w
  split at w
  . next o c ns ts=>
    split at w
    . next hc=>
      split at w
      . next t' h=>
        obtain⟨q,C,dx,vs,D,rfl,hC,eq,_,r⟩:=p.rep.insS
        obtain⟨v',B',e3,rv⟩:=Reps.lookup ns ts r h
        obtain⟨k1,k2⟩:=hf c (by simpa using hc) C hC
        exact⟨q,C,dx,_,v',rfl,eq,k1,k2,e3,w v' H1 Z1 B' ⟨p.same,p.zz,p.zn,p.zi,rv⟩⟩
      . exact w.elim
    . exact w.elim
  . exact w.elim
 |ex x=>rw[e]at w;exact w
 |no=>rw[e]at w;exact w
def iO(f:Str):List Str->Option Nat
 |[]=>none
 |n::ns=>if n=f then some 0 else(iO f ns).map (· +1)
theorem ae7{f:Str}{y:V}:∀(ns:List Str)(vs:List V){k:Nat},ns.length=vs.length->iO f ns=some k->jT f y (ns.zip vs)=ns.zip (vs.set k y)
 |[],_,_,_,h=>by simp[iO]at h
 |n::ns,[],_,l,_=>by simp at l
 |n::ns,w::vs,k,l,h=>by
  unfold iO at h
  rw[List.zip_cons_cons,jT]
  by_cases q:n=f
  . rw[if_pos q]at h;cases h
    rw[if_pos q];rfl
  . rw[if_neg q,Option.map_eq_some_iff]at h
    obtain⟨k',h1,rfl⟩:=h
    rw[if_neg q,ae7 ns vs (by simpa using l) h1];rfl
theorem av3{f:Str}{y:V}:∀(ns:List Str)(vs:List V),ns.length=vs.length->iO f ns=none->jT f y (ns.zip vs)=(ns++[f]).zip (vs++[y])
 |[],[],_,_=>rfl
 |[],w::vs,l,_=>by simp at l
 |n::ns,[],l,_=>by simp at l
 |n::ns,w::vs,l,h=>by
  unfold iO at h
  rw[List.zip_cons_cons,jT]
  by_cases q:n=f
  . rw[if_pos q]at h;cases h
  . rw[if_neg q,Option.map_eq_none_iff]at h
    rw[if_neg q,av3 ns vs (by simpa using l) h];rfl
def cp9(j:Nat)(cs:List Str)(f:Str)(d:Fr->Res (List Nat)):Fr->Res (List Nat):=λρ=>(d ρ).bind λp=>match ρ[j]? with
 |some (some t0)=>match gT p t0 with
  |some (.ins o c ns ts)=>if(o&&cs.contains c)=true then match iO f ns with
   |some k=>if k<ts.length then .ok (p++[k])else .no
   |none=>.no else .no
  |_=>.no
 |_=>.no
def wZ(j:Nat)(mv:List Nat)(cs:List Str)(f:Str)(e:Fr->Res T)(d:Fr->Res (List Nat)):Fr->bP:=λρ=>match e ρ with
 |.ok t=>match(kills mv ρ)[j]? with
  |some (some t0)=>match d (kills mv ρ)with
   |.ok p=>match gT p t0 with
    |some (.ins o c ns us)=>if(o&&cs.contains c&&decide (ns.length<1000))=true then match iO f ns with
     |some k=>if k<us.length then aj4 j p (.ins true c ns (us.set k t)) (kills mv ρ)else .no
     |none=>aj4 j p (.ins true c (ns++[f]) (us++[t])) (kills mv ρ)
     else .no
    |_=>.no
   |.ex x=>.ex x
   |.no=>.no
  |_=>.no
 |.ex x=>.ex x
 |.no=>.no
theorem wA{j:Nat}{mv:List Nat}{cs:List Str}{f:Str}{te to:TE}{e:Fr->Res T}{d:Fr->Res (List Nat)}(hf:mH K cn cs f)(he:RE Jn K cn E mv te e)(hd:RP Jn K cn E j to d):RS Jn K cn E (ba6 K to te f) (wZ j mv cs f e d):=λAs H Z ρ σ F D w=>by
 unfold wZ at w
 refine he As H Z ρ σ F _ ?_
 cases ee:e ρ with
 |ok t=>
  rw[ee]at w
  intro y H1 Z1 C p1
  simp only at w
  have F1:=(F.mo p1.mo).kills mv
  cases e1:(kills mv ρ)[j]? with
  |none=>rw[e1]at w;exact w.elim
  |some o=>
   rw[e1]at w
   cases o with
   |none=>exact w.elim
   |some t0=>
    obtain⟨v0,e2,r0⟩:=F1.sl.get e1
    simp only at w
    have ev1:Ev As H Z (eJ mv As) H1 Z1:=⟨λb o q _=>p1.same b o q,λb hb=>.inl (dZ hb),p1.zz,λb h=>(p1.zn b h).imp_right .inr,λb h=>p1.same.free h⟩
    refine hd (eJ mv As) H1 Z1 (kills mv ρ) σ F1 t0 v0 e1 e2 r0 _ ?_
    cases ed:d (kills mv ρ)with
    |ok p=>
     rw[ed]at w
     intro u v B H2 Z2 m2 hn pl
     simp only[hn]at w
     split at w
     . next o c ns us hq=>
       cases hq
       split at w
       . next hc=>
         rw[Bool.and_eq_true,Bool.and_eq_true]at hc
         obtain⟨⟨rfl,hc⟩,hl⟩:=hc
         have hl:=of_decide_eq_true hl
         have q:=pl.rep
         simp only[Rep]at q
         obtain⟨a,C',dx,ws,C0,rfl,rfl,hC,ea,l,rs⟩:=q
         have rt:Rep K cn H2 Z2 t y C:=p1.rep.same m2.same m2.zz
         have F2:=F1.mo m2
         have lw:=Reps.length us rs
         obtain⟨k1,k2⟩:=hf c (by simpa using hc) C' hC
         refine⟨a,C',dx,_,rfl,ea,k1,k2,by rw[List.length_zip];omega,?_⟩
         have ndB:(a::C0).Nodup:=(kS F1.nd j).sublist pl.sub
         have cA:∀x∈C0,x∈(eJ mv As).getD j []:=λx hx=>pl.sub.mem (List.mem_cons_of_mem _ hx)
         have cOut:=p1.out F
         have cz:∀x∈C,¬Z2 x:=λx hx z=>by
          rcases m2.zn x z with z|z
          . exact p1.bz x hx z
          . obtain⟨o,ho,_⟩:=p1.rep.dom t x hx
            rw[ho]at z;cases z
         cases ek:iO f ns with
         |none=>
          rw[ek]at w
          rw[av3 ns ws l ek]
          refine at1 (As:=As) (H:=H) (Z:=Z) (E:=E) F2 e1 e2 pl rfl rfl ea rfl (u':=.ins true c (ns++[f]) (us++[t])) (C:=C0++C) (λaC aZ=>?_) ?_ ?_ ?_ (ev1.trans m2.ev) ?_ w
          . simp only[Rep]
            exact⟨a,C',dx,ws++[y],C0++C,rfl,rfl,hC,bZ,by simp[l],(Reps.append us rs (Reps.one rt)).upd ea rfl aC aZ⟩
          . rw[List.nodup_append]
            exact⟨(List.nodup_cons.mp ndB).2,p1.nd,λx hx z hz e=>by subst e;exact cOut x hz (aV (cA x hx))⟩
          . intro x hx
            rcases List.mem_append.mp hx with hx|hx
            . exact F2.nz x (aV (cA x hx))
            . exact cz x hx
          . intro x hx hA
            rcases List.mem_append.mp hx with hx|hx
            . exact hx
            . exact absurd hA (cOut x hx)
          . intro x hx
            rcases List.mem_append.mp hx with hx|hx
            . exact .inl (dZ (aV (cA x hx)))
            . exact p1.inA x hx
         |some k=>
          rw[ek]at w
          simp only at w
          split at w
          . next hk=>
            rw[ae7 ns ws l ek]
            obtain⟨B1,Bo,B2,rfl,rs'⟩:=Reps.put rt us rs hk
            have i1:∀x∈B1,x∈B1++Bo++B2:=λx hx=>List.mem_append_left _ (List.mem_append_left _ hx)
            have i2:∀x∈B2,x∈B1++Bo++B2:=λx hx=>List.mem_append_right _ hx
            have nd1:=(List.nodup_cons.mp ndB).2
            rw[List.append_assoc,List.nodup_append]at nd1
            obtain⟨n1,n2,n3⟩:=nd1
            rw[List.nodup_append]at n2
            refine at1 (As:=As) (H:=H) (Z:=Z) (E:=E) F2 e1 e2 pl rfl rfl ea rfl (u':=.ins true c ns (us.set k t)) (C:=B1++C++B2) (λaC aZ=>?_) ?_ ?_ ?_ (ev1.trans m2.ev) ?_ w
            . simp only[Rep]
              exact⟨a,C',dx,ws.set k y,B1++C++B2,rfl,rfl,hC,bZ,by simp[l],rs'.upd ea rfl aC aZ⟩
            . rw[List.append_assoc,List.nodup_append]
              refine⟨n1,?_,λx hx z hz e=>?_⟩
              . rw[List.nodup_append]
                exact⟨p1.nd,n2.2.1,λx hx z hz e=>by subst e;exact cOut x hx (aV (cA x (i2 x hz)))⟩
              . subst e
                rcases List.mem_append.mp hz with hz|hz
                . exact cOut x hz (aV (cA x (i1 x hx)))
                . exact n3 x hx x (List.mem_append_right _ hz) rfl
            . intro x hx
              rcases List.mem_append.mp hx with hx|hx
              . rcases List.mem_append.mp hx with hx|hx
                . exact F2.nz x (aV (cA x (i1 x hx)))
                . exact cz x hx
              . exact F2.nz x (aV (cA x (i2 x hx)))
            . intro x hx hA
              rcases List.mem_append.mp hx with hx|hx
              . rcases List.mem_append.mp hx with hx|hx
                . exact i1 x hx
                . exact absurd hA (cOut x hx)
              . exact i2 x hx
            . intro x hx
              rcases List.mem_append.mp hx with hx|hx
              . rcases List.mem_append.mp hx with hx|hx
                . exact .inl (dZ (aV (cA x (i1 x hx))))
                . exact p1.inA x hx
              . exact .inl (dZ (aV (cA x (i2 x hx))))
          . exact w.elim
       . exact w.elim
     . exact w.elim
    |ex x=>rw[ed]at w;exact WpX.ev w ev1
    |no=>rw[ed]at w;exact w
 |ex x=>rw[ee]at w;exact w
 |no=>rw[ee]at w;exact w
def spI(K:PySem.W.Frag)(cn:Str->Option Addr)(c:Str)(n:Nat)(G:List T->Res T):Sp:=λvs H Q E=>vs.length=n+1/\∃x C dx us ts Z,vs=.ref x::us/\cn c=some C/\H x=some (.ins C dx [])/\¬Z x/\(∀a,Z a->H a≠none)/\Reps K cn H Z ts us []/\
 match G ts with
 |.ok t=>∀H' Z' B,Ev [[x]] H Z [B] H' Z'->Rep K cn H' Z' t (.ref x) B->B.Nodup->(∀b∈B,¬Z' b)->(∀a,Z' a->H' a≠none)->Q .non H'
 |.ex e=>WpX K cn E [[x]] H Z e
 |.no=>False
theorem ag7{c:Str}{C:Addr}{n:Nat}{G:List T->Res T}{ta:TA}{a:Fr->Res (List T)}{E':XK}(hc:cn c=some C)(ha:tO Jn K cn E ta a):RE Jn K cn E [] (al3 C (spI K cn c n G) [] E' ta) (cP n G a):=λAs H Z ρ σ F Q w=>by
 unfold cP at w
 refine ha As H Z ρ σ F _ ?_
 cases e:a ρ with
 |ok ts=>
  rw[e]at w
  intro vs H1 Z1 B m r1 x dx hx hdx hne
  simp only[Res.bind]at w
  split at w
  . next hn=>
    have hs:Same H1 (L2.upd (L2.upd H1 dx (.own x)) x (.ins C dx [])):=λb u q=>by
     rw[aY (cR q hx),aY (cR q hdx)];exact q
    refine⟨by simp[Reps.length ts r1,hn],x,C,dx,vs,frzs ts,(λa=>Z1 a\/a∈B),by simp,hc,by rw[bZ],λh=>?_,λa h=>?_,(Reps.frz ts r1 (λa h=>.inl h) (λa h=>.inr h)).same hs (λ_ h=>h),?_⟩
    . rcases h with h|h
      . exact m.zi x h hx
      . obtain⟨o,q,_⟩:=Reps.dom ts r1 x h
        rw[hx]at q
        cases q
    . intro q
      have q':=hs.free q
      rcases h with h|h
      . exact m.zi a h q'
      . obtain⟨o,q2,_⟩:=Reps.dom ts r1 a h
        rw[q2]at q'
        cases q'
    cases e2:G (frzs ts)with
    |ok t=>
     rw[e2]at w
     intro H2 Z2 C2 ev r2 nd bz zi2
     refine⟨rfl,?_⟩
     simp only at w
     have sm:Same H1 H2:=λb u q=>ev.keep b u (hs b u q) (by simpa using cR q hx)
     have bn:∀b∈C2,H1 b=none:=λb hb=>by
      rcases ev.own b (by simpa using hb)with q|q
      . have:b=x:=by simpa using q
        rw[this];exact hx
      . exact hs.free q
     split at w
     . next hcl=>
       rw[Bool.or_eq_true]at hcl
       by_cases hcl':gP t=true
       . refine w _ H2 Z1 C2 ⟨m.same.trans sm,m.zz,λa h=>m.zn a h,λa h q=>m.zi a h (sm.free q),Rep.any t hcl' r2,nd,λb hb z=>m.zi b z (bn b hb),λb hb=>.inl (m.same.free (bn b hb))⟩
       . have hno:=hcl.resolve_left hcl'
         have hB:=Reps.bare ts hno r1
         subst hB
         refine w _ H2 Z2 C2 ⟨m.same.trans sm,λa h=>ev.zz a (.inl (m.zz a h)),λa h=>?_,zi2,r2,nd,bz,λb hb=>.inl (m.same.free (bn b hb))⟩
         rcases ev.zn a h with(h|h)|h|h
         . exact m.zn a h
         . cases h
         . have:a=x:=by simpa using h
           rw[this];exact .inr (m.same.free hx)
         . exact .inr (m.same.free (hs.free h))
     . exact w.elim
    |ex x=>rw[e2]at w;exact w.elim
    |no=>rw[e2]at w;exact w.elim
  . exact w.elim
 |ex x=>rw[e]at w;exact w
 |no=>rw[e]at w;exact w
def oS:bP->Res T
 |.nx ρ=>match ρ[0]? with
  |some (some t)=>.ok t
  |_=>.no
 |.ex x=>.ex x
 |_=>.no
theorem bx4 {CX : qY} {Y : Value → Around → List Env → Shared → Hp → XK → Cx} {c : Str} {P : Program} {w : World} {mg : Str → Option Value} {base : Heap} {qual : Str} {st : Stmt} {f : Addr} {fd : FuncData} {N ps : List Str} {k : Nat} {d : Fr → bP} (ok : ∀ sp : Sp, (∀ vs H Q E, sp vs H Q E → vs.length = ps.length) → (∀ (cdv : Value) (A : Around) (outer : List Env) (s : Shared) (H : Hp) (vs : List V) (Q : VK) (E : XK), Room k (A.deeper (envOfC qual (aS st) s.heap.objs.size f cdv)) → sp vs H Q E →
      ∃ t, PSs (Y cdv A outer s H E) (cF st) t ∧ t { nx := fun _ H' => Q .non H', rt := Q } (fV N vs) H) → FnOk P w K mg base CX (k + 1) f fd ps sp)
    (hbody : ∀ (y : Addr) (cdv : Value) (A : Around) (outer : List Env) (s : Shared) (H : Hp) (E : XK), Room k (A.deeper (envOfC qual (aS st) s.heap.objs.size f cdv)) →
      ∃ t, PSs (Y cdv A outer s H E) (cF st) t ∧ RS [(0, .ref y)] K cn E t d) {n : Nat} {G : List T → Res T} (hn : ps.length = n + 1) (hG : ∀ ts, G ts = oS (d (dY N.length (.ins true c [] [] :: ts)))) : FnOk P w K mg base CX (k + 1) f fd ps (spI K cn c n G) := by
  have eG : G = fun ts => oS (d (dY N.length (.ins true c [] [] :: ts))) := funext hG
  subst eG
  refine ok _ (fun vs H Q E h => by rw [hn]; exact h.1) fun cdv A outer s H vs Q E hr h => ?_
  obtain ⟨hl, y, C, dx, us, ts, Z, rfl, hC, hy, hZ, zi, r, w⟩ := h
  obtain ⟨t, hp, ht⟩ := hbody y cdv A outer s H E hr
  refine ⟨t, hp, ?_⟩
  have lt := Reps.length ts r
  have ry : Rep K cn H Z (.ins true c [] []) (.ref y) [y] := by
    simp only [Rep, Reps]
    exact ⟨y, C, dx, [], [], rfl, rfl, hC, hy, rfl, rfl, rfl⟩
  let m := N.length - (ts.length + 1)
  have sl : Slots K cn H Z (dY N.length (.ins true c [] [] :: ts)) (L2.fV N (.ref y :: us)) ([y] :: List.replicate (ts.length + m) []) := by
    unfold dY L2.fV
    refine ⟨some (.ref y), us.map some ++ List.replicate m none, [y], _, ?_, rfl, ⟨_, rfl, ry⟩, ?_⟩
    · simp only [List.map_cons, List.length_cons, lt, List.cons_append]; rfl
    · exact wW ts r
  have fl : ([y] :: List.replicate (ts.length + m) []).flatten = [y] := by rw [List.flatten_cons, kI]; rfl
  have F0 : Frm [(0, .ref y)] K cn H Z (dY N.length (.ins true c [] [] :: ts)) (L2.fV N (.ref y :: us)) ([y] :: List.replicate (ts.length + m) []) :=
    ⟨sl, by rw [fl]; simp, by rw [fl]; intro a ha; have : a = y := by simpa using ha
                              rw [this]; exact hZ, zi, fun p hp => by
      rw [List.mem_singleton] at hp
      subst hp
      rfl⟩
  refine ht _ H Z _ _ F0 _ ?_
  cases ed : d (dY N.length (.ins true c [] [] :: ts)) with
  | nx ρ =>
    simp only [ed, oS] at w
    intro σ' As' H' Z' F' ev
    cases e0 : ρ[0]? with
    | none => rw [e0] at w; exact w.elim
    | some o =>
      rw [e0] at w
      cases o with
      | none => exact w.elim
      | some t0 =>
        simp only at w
        obtain ⟨v, e1, r1⟩ := F'.sl.get e0
        have e2 := F'.pn (0, .ref y) (List.mem_singleton.mpr rfl)
        simp only at e2
        rw [e1] at e2
        cases e2
        refine w H' Z' (As'.getD 0 []) ⟨fun a o h q => ev.keep a o h (by rw [fl]; simpa using q), fun a ha => ?_, ev.zz, fun a h => ?_, ev.dom⟩ r1 (kS F'.nd 0) (fun b hb => F'.nz b (aV hb)) F'.zi
        · have q := ev.own a (aV (i := 0) (by simpa using ha))
          rw [fl] at q
          simpa using q
        · have q := ev.zn a h
          rw [fl] at q
          simpa using q
  | ex e =>
    simp only [ed, oS] at w
    exact WpX.ev w ⟨fun _ _ q _ => q, fun a ha => (by rw [fl] at ha; exact .inl (by simpa using ha)), fun _ h => h, fun _ h => .inl h, fun _ h => h⟩
  | rt t => simp only [ed, oS] at w
  | bk ρ => simp only [ed, oS] at w
  | rm ρ t => simp only [ed, oS] at w
  | ct ρ => simp only [ed, oS] at w
  | no => simp only [ed, oS] at w
theorem bp4{c:Str}{P:Program}{w:World}{mg:Str->Option Value}{base:Heap}{x qual:Str}{st:Stmt}{f:Addr}{fd:FuncData}{N ps:List Str}{k:Nat}{d:Fr->bP}(F:Fun K x qual st f fd)(S:bL N ps (aS st))
 (hbody:∀(y:Addr)(cdv:Value)(A:Around)(outer:List Env)(s:Shared)(H:Hp)(E:XK),Room k (A.deeper (envOfC qual (aS st) s.heap.objs.size f cdv))->
  ∃t,PSs (kB (pY P w) P w K mg base N qual (aS st) f cdv A outer s H E) (cF st) t/\RS [(0,.ref y)] K cn E t d){n:Nat}{G:List T->Res T}(hn:ps.length=n+1)(hG:∀ts,G ts=oS (d (dY N.length (.ins true c [] []::ts)))):FnOk P w K mg base (pY P w) (k+1) f fd ps (spI K cn c n G):=bx4 (λsp len hb=>F.okX S len hb) hbody hn hG
end
end TL
namespace L2
open PySem PySem.Spec PyProof.Rows
structure Mth (P:Program) (w:World) (K:PySem.W.Frag) (mg:Str->Option Value) (base:Heap) (k:Nat) (C:Addr) (m:Str) (sp:Sp):Prop where
 ex:∃f fd ps,Cls K C/\bq3 K C m f/\FnOk P w K mg base mZ k f fd ps sp/\Binds K fd ps []
def bz1(tab:List (Addr×Sp))(m:Str)(ta:TE)(t:TA):TE:=λσ H Q=>ta σ H λx H1=>∃a C dx fs sp,x=.ref a/\H1 a=some (.ins C dx fs)/\(C,sp)∈tab/\fs.lookup m=none/\t σ H1 λvs H2=>sp (x::vs) H2 Q E0
section
variable {X : Cx}
theorem vL{k:Nat}{m:Str}{o e:Expr}{es:List Expr}{apos pos:Pos}{ta:TE}{t:TA}{tab:List (Addr×Sp)}{pl:Sem Bool}(he:PE X o ta)(hT:∀q∈tab,Mth X.prog X.w X.K X.mg X.base k q.1 m q.2)(hr:Room k X.A)(ha:PA X (e::es) t)
 (hst:starEach (e::es) X.env=(false,eval e X.env)::starEach es X.env:=by rfl)(hpl:(backTo pos (starEach es X.env)).any (·.1)=false:=by rfl)
 (ht:eval (.Call (.Attribute o m apos) (e::es) [] pos) X.env=(do
  let ov<-eval o X.env
  standAt apos.atName
  let(f,first)<-holding [ov] (getMethod ov m pl)
  callWith pos f first (backTo pos (starEach (e::es) X.env)) (backToKw pos (keywordEach [] X.env))):=by rfl):
 PE X (.Call (.Attribute o m apos) (e::es) [] pos) (bz1 tab m ta t):=by
 intro pins s σ H Q I h
 refine PySem.W.methodCall_KW (pl:=pl) (cE (he s σ H _ I h) λu s1 ⟨x,H1,I1,rx,a,C,dx,fs,sp,ex,ea,hq,l,q⟩=>?_) ht
 subst ex
 obtain rfl:u=Value.ref a:=rx
 obtain⟨f,fd,ps,c,hm,F,hb⟩:=(hT _ hq).ex
 refine aa9 I1 ea c hm l ?_
 refine PySem.W.callWith_K (first:=[.ref a]) (h₀:=X.base) I.ok.mod.kin hm.kp (cE (ha pins s1 σ H1 _ I1 q) λus s2 ⟨vs,H2,I2,r,q2⟩=>⟨I2.kIn,?_⟩) hst hpl
 exact bi0 (us:=.ref a::us) (vs:=.ref a::vs) F hr hb .nil bd7 I2 (.cons rfl r) (by rw[List.append_nil];exact q2)
end
end L2
namespace TL
open PySem PySem.Spec PyProof.Rows L2
section
variable {Jn : fM} {K : PySem.W.Frag} {cn : Str → Option Addr} {E : XK}
def sK(n:Nat)(G:List T->Res T)(ts:List T):Res T:=if ts.length=n then match G (frzs ts)with
 |.ok t=>if(gP t||bA ts)=true then .ok t else .no
 |_=>.no else .no
theorem ak5{n:Nat}{G:List T->Res T}{As:List (List Addr)}{H H1:Hp}{Z Z1:Addr->Prop}{ts:List T}{vs:List V}{B:List Addr}{Q:VK}{E':XK}(m:Mo H Z H1 Z1)(r1:Reps K cn H1 Z1 ts vs B)(w:WpE K cn E As H Z [] Q (sK n G ts)):cJ K cn n G vs H1 Q E':=by
 unfold sK at w
 split at w
 . next hn=>
   refine⟨by rw[Reps.length ts r1,hn],frzs ts,(λa=>Z1 a\/a∈B),λa h=>?_,Reps.frz ts r1 (λa h=>.inl h) (λa h=>.inr h),?_⟩
   . rcases h with h|h
     . exact m.zi a h
     . obtain⟨o,q,_⟩:=Reps.dom ts r1 a h
       rw[q]
       exact(λz=>nomatch z)
   cases e2:G (frzs ts)with
   |ok t=>
    rw[e2]at w
    intro v H2 Z2 C p
    simp only at w
    split at w
    . next hc=>
      rw[Bool.or_eq_true]at hc
      have bn:∀b∈C,H1 b=none:=λb hb=>(p.bn b hb).resolve_right (λ⟨i,hi,_⟩=>by cases hi)
      by_cases hcl:gP t=true
      . refine w v H2 Z1 C ⟨m.same.trans p.same,m.zz,λa h=>m.zn a h,λa h=>?_,Rep.any t hcl p.rep,p.nd,λb hb z=>?_,λb hb=>.inl (m.same.free (bn b hb))⟩
        . intro q
          exact m.zi a h (p.same.free q)
        . exact m.zi b z (bn b hb)
      . have hno:=hc.resolve_left hcl
        have hB:=Reps.bare ts hno r1
        subst hB
        refine w v H2 Z2 C ⟨m.same.trans p.same,λa h=>p.zz a (.inl (m.zz a h)),λa h=>?_,p.zi,p.rep,p.nd,p.bz,λb hb=>.inl (m.same.free (bn b hb))⟩
        rcases p.zn a h with(h|h)|h
        . exact m.zn a h
        . cases h
        . exact .inr (m.same.free h)
    . exact w.elim
   |ex x=>rw[e2]at w;exact w.elim
   |no=>rw[e2]at w;exact w.elim
 . exact w.elim
theorem yP{f:Str}:∀(ns:List Str)(vs:List V),iO f ns=none->(ns.zip vs).lookup f=none
 |[],_,_=>by simp
 |n::ns,[],_=>by simp
 |n::ns,w::vs,h=>by
  unfold iO at h
  rw[List.zip_cons_cons,List.lookup_cons]
  by_cases q:n=f
  . rw[if_pos q]at h;cases h
  . rw[if_neg q,Option.map_eq_none_iff]at h
    rw[show(f==n)=false from by rw[beq_eq_false_iff_ne];exact λz=>q z.symm]
    exact yP ns vs h
def mT(n:Nat)(m:Str)(tabs:List (Str×(List T->Res T)))(o:Fr->Res T)(r:Fr->Res (List T)):Fr->Res T:=λρ=>(o ρ).bind λt=>match t with
 |.ins _ c ns _=>match iO m ns with
  |none=>match tabs.lookup c with
   |some G=>(r ρ).bind λts=>sK n G (t::ts)
   |none=>.no
  |some _=>.no
 |_=>.no
def at3(K:PySem.W.Frag)(cn:Str->Option Addr)(n:Nat)(tabs:List (Str×(List T->Res T)))(tab:List (Addr×Sp)):Prop:=∀c G C,tabs.lookup c=some G->cn c=some C->(C,cJ K cn n G)∈tab
theorem vE{n:Nat}{m:Str}{tabs:List (Str×(List T->Res T))}{tab:List (Addr×Sp)}{to:TE}{ta:TA}{o:Fr->Res T}{a:Fr->Res (List T)}(hT:at3 K cn n tabs tab)(ho:RB Jn K cn E to o)(ha:tO Jn K cn E ta a):RE Jn K cn E [] (bz1 tab m to ta) (mT n m tabs o a):=λAs H Z ρ σ F Q w=>by
 unfold mT at w
 refine ho As H Z ρ σ F _ ?_
 cases e:o ρ with
 |ok t=>
  rw[e]at w
  intro v H1 Z1 B p
  simp only[Res.bind]at w
  split at w
  . next ow c ns us=>
    split at w
    . next hm=>
      split at w
      . next G hG=>
        obtain⟨q,C,dx,vs,D,rfl,hC,eq,_,r⟩:=p.rep.insS
        refine⟨q,C,dx,_,cJ K cn n G,rfl,eq,hT c G C hG hC,yP ns vs hm,ha As H1 Z1 ρ σ (F.mo p.mo) _ ?_⟩
        cases e2:a ρ with
        |ok ts=>
         rw[e2]at w
         intro ws H2 Z2 D2 m2 r2
         refine ak5 (As:=As) (E:=E) (p.mo.trans m2) (ts:=.ins ow c ns us::ts) (B:=B++D2) ?_ w
         simp only[Reps]
         exact⟨_,ws,B,D2,rfl,rfl,p.rep.same m2.same m2.zz,r2⟩
        |ex x=>rw[e2]at w;exact WpX.ev w p.mo.ev
        |no=>rw[e2]at w;exact w
      . exact w.elim
    . exact w.elim
  . exact w.elim
 |ex x=>rw[e]at w;exact w
 |no=>rw[e]at w;exact w
end
end TL
namespace L2
open PySem PySem.Spec PyProof.Rows
section
variable {X : Cx} (K : PySem.W.Frag)
def bq6:List V->Hp->VK->Prop:=λxs H Q=>∃p ys,xs=[.ref p]/\((SqL K H p ys/\∀l,H l=none->Q (.ref l) (upd H l (.tup ys)))\/(SqT K H p ys/\Q (.ref p) H))
theorem sW(hK:X.K=K:=by rfl):CallR X (.type "tuple") (bq6 K):=by subst hK;exact ac3
end
end L2
namespace TL
open PySem PySem.Spec PyProof.Rows L2
section
variable {Jn : fM} {K : PySem.W.Frag} {cn : Str → Option Addr} {E : XK} {As : List (List Addr)} {H : Hp} {Z : Addr → Prop} {Q : VK}
def nJ:List T->Res T
 |[.lst _ ts]=>if bA ts=true then .ok (.tup ts)else .no
 |[.tup ts]=>if bA ts=true then .ok (.tup ts)else .no
 |_=>.no
theorem ar1:vO K cn (bq6 K) nJ:=λE As H Z ts xs A Q zi r w=>by
 unfold nJ at w
 split at w
 . next o ts=>
   split at w
   . next h=>
     obtain⟨v,rfl,rv⟩:=r.one1
     obtain⟨q,vs,C,rfl,hs,r',_⟩:=rv.lstSq
     exact⟨q,vs,rfl,.inl ⟨hs.sq,λl hl=>w.newT zi (r'.bareE h) l hl⟩⟩
   . exact w.elim
 . next ts=>
   split at w
   . next h=>
     obtain⟨v,rfl,rv⟩:=r.one1
     obtain⟨q,vs,rfl,hs,r'⟩:=rv.tupS
     refine⟨q,vs,rfl,.inr ⟨hs,w _ H Z [] ⟨Same.refl _,λ_ h=>h,λ_ h=>.inl h,zi,?_,List.nodup_nil,cU,cU⟩⟩⟩
     simp only[Rep]
     exact⟨q,vs,rfl,hs,r'.bareE h⟩
   . exact w.elim
 . exact w.elim
end
end TL
namespace L2
open PySem PySem.Spec PyProof.Rows
section
variable {X : Cx}
def by3(K:PySem.W.Frag)(n:Nat):R2:=λx y H Q=>rNe x y H Q\/(∃p q b,x=.ref p/\y=.ref q/\EqD K H n x y b/\Q (.bl (!b)) H)
theorem cq2{n:Nat}(hu:X.A.units+n<cLine):OpR X (compareOp .NotEq) (by3 X.K n):=by
 intro pins s σ H x y v u Q I rx ry h
 rcases h with h|⟨p,q,b,rfl,rfl,h,hq⟩
 . exact cd5 s σ H x y v u Q I rx ry h
 . cases rx
   cases ry
   have cL:EP X pins σ Q (.bool (!b)) s:=⟨.bl (!b),H,I,rfl,hq⟩
   cases n with
   |zero=>exact absurd h.1 (λz=>by cases z)
   |succ n=>
    rcases h with⟨h1,_,_⟩|⟨p,q,xs,ys,e1,e2,s1,s2,h⟩|⟨p,q,xs,ys,e1,e2,s1,s2,es,hl,he,rfl⟩
    . exact absurd h1 (λz=>by cases z)
    . cases e1
      cases e2
      obtain⟨its,r1,p1,_⟩:=I.list s1
      obtain⟨jts,r2,p2,_⟩:=I.list s2
      have l1:=r1.length
      have l2:=r2.length
      rcases h with⟨hne,rfl⟩|⟨heq,es,hl,he,rfl⟩
      . exact SeqAt.RcNeAt.lists_lengths p1.isList p2.isList (by simp only[List.size_toArray,bne_iff_ne,ne_eq];omega) (by omega) _ _ _ _ cL
      . refine SeqAt.RcNeAt.lists (e:=λj=>es.getD j true) p1.isList p2.isList (by simp only[List.size_toArray];omega) (by omega) (λj h1 h2=>?_) _ _ _ _ ?_
        . simp only[List.size_toArray]at h1 h2
          simp only[List.getElem_toArray]
          obtain⟨x,ex,rx⟩:=fH r1 h1
          obtain⟨y,ey,ry⟩:=fH r2 h2
          have hj:j<es.length:=by omega
          have eg:es.getD j true=es[j]:=by rw[List.getD_eq_getElem?_getD,List.getElem?_eq_getElem hj];rfl
          rw[eg]
          exact lI I n (by show X.A.units+1+n<cLine;omega) rx ry (he j x y es[j] ex ey (List.getElem?_eq_getElem hj))
        . rw[List.size_toArray,show its.length=es.length by omega,oQ]
          exact cL
    . cases e1
      cases e2
      obtain⟨its,r1,p1,_⟩:=I.tuple s1
      obtain⟨jts,r2,p2,_⟩:=I.tuple s2
      have l1:=r1.length
      have l2:=r2.length
      refine SeqAt.RcNeAt.tuples (e:=λj=>es.getD j true) (show s.heap.IsTuple _ its.toArray from p1) (show s.heap.IsTuple _ jts.toArray from p2) (by omega) (λj h1 h2=>?_) _ _ _ _ ?_
      . simp only[List.size_toArray]at h1 h2
        simp only[List.getElem_toArray]
        obtain⟨x,ex,rx⟩:=fH r1 h1
        obtain⟨y,ey,ry⟩:=fH r2 h2
        have hj:j<es.length:=by omega
        have eg:es.getD j true=es[j]:=by rw[List.getD_eq_getElem?_getD,List.getElem?_eq_getElem hj];rfl
        rw[eg]
        exact lI I n (by show X.A.units+1+n<cLine;omega) rx ry (he j x y es[j] ex ey (List.getElem?_eq_getElem hj))
      . simp only[List.size_toArray]
        rw[show min its.length jts.length=es.length by omega,oQ,<-l1,<-l2]
        exact cL
theorem rN(K:PySem.W.Frag){n:Nat}{k:Nat}(hr:Room k X.A)(hn:n<=60:=by decide)(hK:X.K=K:=by rfl):OpR X (compareOp .NotEq) (by3 K n):=by
 subst hK
 exact cq2 (Nat.lt_of_le_of_lt (Nat.add_le_add_left (Nat.le_trans hn (by decide)) _) hr.units)
end
end L2
namespace TL
open PySem PySem.Spec PyProof.Rows L2
section
variable {Jn : fM} {K : PySem.W.Frag} {cn : Str → Option Addr} {E : XK}
def cc6:Fr->bP:=λ_=>.no
def cp3(K:PySem.W.Frag)(cn:Str->Option Addr)(r:V->List V->Hp->VK->Prop)(f:List T->List T->Option (List T)):Prop:=
 ∀(H:Hp)(Z:Addr->Prop)(a:Addr)(us ts us':List T)(ws vs:List V)(C0 C:List Addr),H a=some (.lst ws)->Reps K cn H Z us ws C0->Reps K cn H Z ts vs C->(C0++C).Nodup->f us ts=some us'->
  ∃ws' D,Reps K cn H Z us' ws' D/\D.Nodup/\(∀x∈D,x∈C0\/x∈C)/\∀Q:VK,(∀y,Q y (L2.upd H a (.lst ws')))->r (.ref a) vs H Q
def ax5(j:Nat)(mv:List Nat)(f:List T->List T->Option (List T))(d:Fr->Res (List Nat))(e:Fr->Res (List T)):Fr->bP:=λρ=>match ρ[j]? with
 |some (some t0)=>match d ρ with
  |.ok p=>match gT p t0 with
   |some (.lst true us)=>match e ρ with
    |.ok ts=>match f us ts with
     |some us'=>uL j p us' (kills mv ρ)
     |none=>.no
    |.ex x=>.ex x
    |.no=>.no
   |_=>.no
  |.ex x=>.ex x
  |.no=>.no
 |_=>.no
theorem bu2{j:Nat}{mv:List Nat}{r:V->List V->Hp->VK->Prop}{f:List T->List T->Option (List T)}{to:TE}{ta:TA}{d:Fr->Res (List Nat)}{e:Fr->Res (List T)}(hr:cp3 K cn r f)(hd:RP Jn K cn E j to d)(he:RA Jn K cn E mv ta e)(hj:mv.contains j=false:=by rfl):RS Jn K cn E (ao0 (tBM K "list" r to ta)) (ax5 j mv f d e):=λAs H Z ρ σ F D w=>by
 unfold ax5 at w
 cases e1:ρ[j]? with
 |none=>rw[e1]at w;exact w.elim
 |some o=>
  rw[e1]at w
  cases o with
  |none=>exact w.elim
  |some t0=>
   obtain⟨v0,e2,r0⟩:=F.sl.get e1
   refine hd As H Z ρ σ F t0 v0 e1 e2 r0 _ ?_
   simp only at w
   cases ed:d ρ with
   |ok p=>
    rw[ed]at w
    intro u v B H1 Z1 m1 hn pl
    simp only[hn]at w
    split at w
    . next us hq=>
      cases hq
      have q:=pl.rep
      simp only[Rep]at q
      obtain⟨a,ws,C0,rfl,rfl,ea,rs⟩:=q
      refine⟨.inl ⟨rfl,ws,SqL.of ea⟩,he As H1 Z1 ρ σ (F.mo m1) _ ?_⟩
      cases ee:e ρ with
      |ok ts=>
       rw[ee]at w
       intro vs H2 Z2 C p2
       simp only at w
       cases ef:f us ts with
       |none=>rw[ef]at w;exact w.elim
       |some us'=>
        rw[ef]at w
        simp only at w
        have pl2:=pl.mo p2.mo.same p2.mo.zz
        have ea2:=p2.mo.same _ _ ea
        have rs2:=rs.same p2.mo.same p2.mo.zz
        have m2:=m1.trans p2.mo
        have F2:=(F.mo m2).kills mv
        have gD:(eJ mv As).getD j []=As.getD j []:=uV mv hj As
        have pl3:Plug K cn H2 Z2 t0 v0 ((eJ mv As).getD j []) p (.lst true us) (.ref a) (a::C0):=by rw[gD];exact pl2
        have ndB:(a::C0).Nodup:=(kS F.nd j).sublist pl.sub
        have c0A:∀x∈C0,x∈As.getD j []:=λx hx=>pl.sub.mem (List.mem_cons_of_mem _ hx)
        have cOut:∀x∈C,x∉(eJ mv As).flatten:=λx hx hA=>by
         rcases p2.bn x hx with z|⟨i,hi,z⟩
         . obtain⟨o,ho,_⟩:=(F.mo m1).sl.dom x (dZ hA)
           rw[ho]at z;cases z
         . exact pH F.nd hi z hA
        have c0In:∀x∈C0,x∈(eJ mv As).flatten:=λx hx=>aV (i:=j) (by rw[gD];exact c0A x hx)
        have ndC:(C0++C).Nodup:=by
         rw[List.nodup_append]
         exact⟨(List.nodup_cons.mp ndB).2,p2.nd,λx hx y hy e=>by subst e;exact cOut x hy (c0In x hx)⟩
        obtain⟨ws',D',r',nd',in',hQ⟩:=hr H2 Z2 a us ts us' ws vs C0 C ea2 rs2 p2.rep ndC ef
        refine hQ _ λ_=>?_
        refine wG (As:=As) (H:=H) (Z:=Z) (E:=E) F2 (by rw[wJ mv hj];exact e1) e2 pl3 rfl rfl ea2 (us':=us') (ws':=ws') (C:=D') r' nd' ?_ ?_ ?_ ?_ w
        . intro x hx
          rcases in' x hx with hx|hx
          . exact F2.nz x (c0In x hx)
          . exact p2.bz x hx
        . intro x hx hA
          rcases in' x hx with hx|hx
          . exact hx
          . exact absurd hA (cOut x hx)
        . exact⟨λb o q _=>m2.same b o q,λb hb=>.inl (dZ hb),m2.zz,λb h=>(m2.zn b h).imp_right .inr,λb h=>m2.same.free h⟩
        . intro x hx
          rcases in' x hx with hx|hx
          . exact .inl (aV (c0A x hx))
          . rcases p2.bn x hx with z|⟨i,hi,z⟩
            . exact .inr (m1.same.free z)
            . exact .inl (aV z)
      |ex x=>rw[ee]at w;exact WpX.ev w m1.ev
      |no=>rw[ee]at w;exact w.elim
    . exact w.elim
   |ex x=>rw[ed]at w;exact w
   |no=>rw[ed]at w;exact w
def cc9(us:List T):List T->Option (List T)
 |[.lst true zs]=>if us.length+zs.length<=sizeLine then some (us++zs)else none
 |_=>none
def cv7(us:List T):List T->Option (List T)
 |[.int i,t]=>if 0<=i/\i.toNat<=us.length/\us.length<sizeLine then some (us.take i.toNat++t::us.drop i.toNat)else none
 |_=>none
def az4(_:List T):List T->Option (List T)
 |[]=>some []
 |_=>none
theorem bf7:cp3 K cn bh1 az4:=λH Z a us ts us' ws vs C0 C ha r0 r1 nd h=>by
 unfold az4 at h
 split at h
 . cases h
   simp only[Reps]at r1
   obtain⟨rfl,rfl⟩:=r1
   exact⟨[],[],Reps.nil,List.nodup_nil,cU,λQ hQ=>⟨a,ws,rfl,rfl,ha,hQ _⟩⟩
 . cases h
def frz1:T->T
 |.lst o xs=>.lst o (frzs xs)
 |t=>t
def ak3(d:Fr->Res T):Fr->Res T:=λρ=>(d ρ).bind λt=>.ok (frz1 t)
theorem RE.frz1{te:TE}{d:Fr->Res T}(h:RE Jn K cn E [] te d):RE Jn K cn E [] te (ak3 d):=λAs H Z ρ σ F Q w=>h As H Z ρ σ F Q (by
 unfold ak3 at w
 cases e:d ρ with
 |ok t=>
  rw[e]at w
  intro v H' Z' B p
  simp only[Res.bind]at w
  cases t with
  |lst o xs=>
   cases o with
   |true=>
    have q:=p.rep
    simp only[Rep]at q
    obtain⟨a,vs,C,rfl,rfl,ea,rs⟩:=q
    have hC:∀x∈C,H x=none:=λx hx=>(p.bn x (List.mem_cons_of_mem _ hx)).resolve_right (λ⟨i,hi,_⟩=>by cases hi)
    refine w (.ref a) H' (λx=>Z' x\/x∈C) [a] ⟨p.same,λx z=>.inl (p.zz x z),λx z=>?_,λx z=>?_,?_,by simp,λb hb=>?_,λb hb=>?_⟩
    . rcases z with z|z
      . exact p.zn x z
      . exact .inr (hC x z)
    . rcases z with z|z
      . exact p.zi x z
      . obtain⟨o,q,_⟩:=Reps.dom xs rs x z
        rw[q]
        exact(λz=>nomatch z)
    . simp only[TL.frz1,Rep]
      exact⟨a,vs,[],rfl,rfl,ea,Reps.frz xs rs (λ_ z=>.inl z) (λ_ z=>.inr z)⟩
    . have hb:b=a:=by simpa using hb
      subst hb
      rintro(z|z)
      . exact p.bz b List.mem_cons_self z
      . exact(List.nodup_cons.mp p.nd).1 z
    . have hb:b=a:=by simpa using hb
      subst hb
      exact p.bn b List.mem_cons_self
   |false=>
    have q:=p.rep
    simp only[Rep]at q
    obtain⟨a,vs,rfl,rfl,ea,rs⟩:=q
    refine w (.ref a) H' Z' [] ⟨p.same,p.zz,p.zn,p.zi,?_,List.nodup_nil,cU,cU⟩
    simp only[TL.frz1,Rep]
    exact⟨a,vs,rfl,trivial,ea,Reps.frz xs rs (λ_ z=>z) cU⟩
  |_=>exact w v H' Z' B p
 |ex x=>rw[e]at w;exact w
 |no=>rw[e]at w;exact w)
def oA(t u:T):Res T:=if qI t=true/\qI u=true then match jW bV t u with
 |some b=>.ok (.bl (!b))
 |none=>.no
 else neT t u
theorem uZ:mP K cn (by3 K bV) oA:=λE As H Z t u x y A B Q zi rt ru w=>by
 unfold oA at w
 split at w
 . next hs=>
   obtain⟨a,rfl⟩:=rt.seqRef hs.1
   obtain⟨b,rfl⟩:=ru.seqRef hs.2
   cases e:jW bV t u with
   |none=>rw[e]at w;exact w.elim
   |some k=>
    rw[e]at w
    exact .inr ⟨a,b,k,rfl,rfl,ap4 bV t u rt ru e,WpE.bl w zi⟩
 . exact .inl (cy7 E As H Z t u x y A B Q zi rt ru w)
end
end TL
namespace L2
open PySem PySem.Spec PyProof.Rows
inductive zS (w:World):List DictEntry->List (Str×Value)->Prop
 |nil:zS w [] []
 |cons {x:Str} {t:Tok} {v:Value} {es:List DictEntry} {kvs:List (Str×Value)}:zS w es kvs->zS w (⟨hashStr w x,.str x t,v⟩::es) ((x,v)::kvs)
structure ct8 (w:World) (K:PySem.W.Frag) (a:Addr) (kvs:List (Str×Value)):Prop where
 ex:∃o es ep,K.lookup a=some o/\o.ExactDict/\o.data=.dict es ep/\zS w es.toList kvs
 nd:(kvs.map (·.1)).Nodup
 sm:(a==sysModules)=false
structure ch8 (w:World) (K:PySem.W.Frag) (mg:Str->Option Value) (d:Str) (kvs:List (Str×Value)):Prop where
 ex:∃a,mg d=some (.ref a)/\ct8 w K a kvs
section
variable {X : Cx}
def bg7(K:PySem.W.Frag):List V->Hp->VK->Prop:=λxs H Q=>(∃x T tx b,xs=[x,.ty T]/\TyN K H x tx/\fY tx T b/\Q (.bl b) H)\/∃T,xs=[.non,.ty T]/\(T="int"\/T="bool"\/T="str"\/T="list"\/T="tuple")/\Q (.bl false) H
theorem wM(K:PySem.W.Frag)(hK:X.K=K:=by rfl):CallR X (.builtin "isinstance") (bg7 K):=by
 subst hK
 intro pins s σ H xs us Q I r h
 rcases h with h|⟨T,rfl,hT,q⟩
 . exact bc5 s σ H xs us Q I r h
 . obtain⟨u,v,rfl,rx,rT⟩:=r.two
   obtain rfl:v=Value.type T:=rT
   obtain rfl:u=Value.none:=rx
   have fin2:EP X pins σ Q (.bool false) {s with toks:=s.toks+1}:=⟨.bl false,H,I.tok _,rfl,q⟩
   rcases hT with rfl|rfl|rfl|rfl|rfl
   . exact IsiPair.NoneType_int fin2
   . exact IsiPair.NoneType_bool fin2
   . exact IsiPair.NoneType_str fin2
   . exact IsiPair.NoneType_list fin2
   . exact IsiPair.NoneType_tuple fin2
theorem qR(K:PySem.W.Frag){e:Expr}{f:Str}{ta:TE}{pos:Pos}(he:PE X e ta)(hb:attributeBase e f X.env (eval e X.env)=eval e X.env:=by rfl)(hK:X.K=K:=by rfl):PE X (.Attribute e f pos) (bn3 K ta f):=by
 subst hK
 exact cx2 he hb
theorem tN(K:PySem.W.Frag){o value:Expr}{f:Str}{ta tv:TE}{pos pos':Pos}(ha:PE X o ta)(hv:PE X value tv)(hs:swapsWith value (some (.Attribute o f pos')) pos.line X.env=pure false:=by rfl)(hK:X.K=K:=by rfl):PS X (.Assign [.Attribute o f pos'] value pos) (ba6 K ta tv f):=by
 subst hK
 exact cz3 ha hv hs
theorem ap7(K:PySem.W.Frag){o:Expr}{to:TE}{name:Str}{apos cpos:Pos}{T id:String}{r:V->List V->Hp->VK->Prop}(pa:PlainAttrs T)(slot:Slot T name id)(hty:typeOf (.builtin id)=pure (.type "method_descriptor"))(hm:MtR X id r)(ho:PE X o to)
 (hbase:attributeBase o name X.env (eval o X.env)=eval o X.env:=by rfl)(hline:(apos.endLine==cpos.line)=true:=by rfl)(hK:X.K=K:=by rfl):PE X (.Call (.Attribute o name apos) [] [] cpos) (tBM K T r to pN):=by
 subst hK
 exact cp4 pa slot hty hm ho hbase hline
end
structure an8 (K:PySem.W.Frag) (C:Addr) (m qual:Str) (st:Stmt):Prop where
 ex:∃f fd,bq3 K C m f/\Fun K m qual st f fd
structure ah8 (K:PySem.W.Frag) (mg:Str->Option Value) (x:Str) (C:Addr) (qual:Str) (st:Stmt):Prop where
 ex:∃f fd,Mk K C f/\Fun K "__init__" qual st f fd
 mg:mg x=some (.ref C)
theorem bd9{K:PySem.W.Frag}{C f:Addr}{m qual:Str}{st:Stmt}{oc:Value}{od an:Option Addr}{osl:Array (Option Value)}{kV doc pm cdv ct:Value}(a:PySem.W.findIn K (.ref C) m=some (some (.ref f)))(b:PySem.W.isFn K (.ref f)=true)
 (l:K.lookup f=some ⟨oc,od,.func (PySem.W.fnOf m qual (fZ st) (cF st) (aS st) .none kV doc pm an cdv ct),osl⟩)(c:PySem.W.codeIn K cdv qual=true)(k:PySem.W.keepIn K (.ref f)=true):an8 K C m qual st:=
 ⟨f,_,⟨a,b,k⟩,wV l c k⟩
theorem bi9{K:PySem.W.Frag}{h:Heap}{mg:Str->Option Value}(X:K.In h)(G:h.Ns mainGlobals mg){x:Str}{C f:Addr}{qual:Str}{st:Stmt}{oc:Value}{od an:Option Addr}{osl:Array (Option Value)}{kV doc pm cdv ct:Value}(g:PySem.W.nsIn K mainGlobals x=some (some (.ref C)))
 (mk:PySem.W.makesIn K C=true)(a:PySem.W.findIn K (.ref C) "__init__"=some (some (.ref f)))(b:PySem.W.isFn K (.ref f)=true)(kc:PySem.W.keepIn K (.ref C)=true)
 (l:K.lookup f=some ⟨oc,od,.func (PySem.W.fnOf "__init__" qual (fZ st) (cF st) (aS st) .none kV doc pm an cdv ct),osl⟩)(c:PySem.W.codeIn K cdv qual=true)(k:PySem.W.keepIn K (.ref f)=true):ah8 K mg x C qual st:=
 ⟨⟨f,_,⟨mk,a,b,kc⟩,wV l c k⟩,PySem.W.mg_of X G g⟩
theorem ck1{K:PySem.W.Frag}{C:Addr}(a:PySem.W.plainGet K C Str.empty=true)(b:PySem.W.hasDictIn K C=true)(c:PySem.W.plainOver K C=true)(d:PySem.W.findIn K (.ref C) "__setattr__"=some (some (.builtin "object.__setattr__"))):Cls K C:=⟨a,b,c,d⟩
theorem ck9{w:World}{K:PySem.W.Frag}{h:Heap}{mg:Str->Option Value}(X:K.In h)(G:h.Ns mainGlobals mg){d:Str}{a:Addr}{es:Array DictEntry}{ep:Nat}{kvs:List (Str×Value)}(g:PySem.W.nsIn K mainGlobals d=some (some (.ref a)))
 (l:K.lookup a=some ⟨.type "dict",none,.dict es ep,#[]⟩)(r:zS w es.toList kvs)(nd:(kvs.map (·.1)).Nodup)(sm:(a==sysModules)=false):ch8 w K mg d kvs:=
 ⟨a,PySem.W.mg_of X G g,⟨_,es,ep,l,⟨rfl,rfl,rfl⟩,rfl,r⟩,nd,sm⟩
end L2
namespace TL
open PySem PySem.Spec PyProof.Rows L2
section
variable {Jn : fM} {K : PySem.W.Frag} {cn : Str → Option Addr} {E : XK}
def cx7(kts:List (Str×T)):T->Res T
 |.str z=>match kts.lookup z with
  |some t=>.ok t
  |none=>.no
 |_=>.no
def cl8(neg:Bool)(kts:List (Str×T)):T->Res T
 |.str z=>.ok (.bl (if neg=true then !(kts.lookup z).isSome else(kts.lookup z).isSome))
 |_=>.no
def ct3(n:Nat)(tabs:List (Str×(List T->Res T)))(i:Fr->Res T)(r:Fr->Res (List T)):Fr->Res T:=λρ=>(i ρ).bind λt=>match t with
 |.str z=>match tabs.lookup z with
  |some G=>(r ρ).bind λts=>sK n G ts
  |none=>.no
 |_=>.no
noncomputable def bl7:List T->Res T
 |[.int i]=>gate (i.natAbs.log2<1920) (.ok (.str (toString i)))
 |[.str x]=>.ok (.str x)
 |_=>.no
def lW:List T->Res T
 |[.non,.ty n]=>if(n="int"\/n="bool"\/n="str"\/n="list"\/n="tuple")then .ok (.bl false)else .no
 |ts=>qV ts
theorem aw3:vO K cn (bg7 K) lW:=λE As H Z ts xs A Q zi r w=>by
 unfold lW at w
 split at w
 . next n=>
   obtain⟨v,u,B,C,rfl,rfl,rv,ru⟩:=r.two2
   have:=rv.non
   subst this
   simp only[Rep]at ru
   obtain⟨rfl,rfl⟩:=ru
   split at w
   . next hn=>exact .inr ⟨n,rfl,hn,WpE.bl w zi⟩
   . exact w.elim
 . exact .inl (cv4 E As H Z _ xs A Q zi r w)
inductive TupR:List T->List Value->Prop
 |nil:TupR [] []
 |str {x:Str} {t:Tok} {ts:List T} {us:List Value}:TupR ts us->TupR (.str x::ts) (.str x t::us)
 |int {x:Int} {t:Tok} {ts:List T} {us:List Value}:TupR ts us->TupR (.int x::ts) (.int x t::us)
theorem TupR.vals{ts:List T}{us:List Value}(h:TupR ts us):∃vs,Vals vs us/\∀H Z,Reps K cn H Z ts vs []:=by
 induction h with
 |nil=>exact⟨[],.nil,λ_ _=>Reps.nil⟩
 |@str x t ts us _ ih=>
  obtain⟨vs,h1,h2⟩:=ih
  refine⟨.str x::vs,.cons ⟨t,rfl⟩ h1,λH Z=>?_⟩
  simp only[Reps]
  exact⟨_,_,[],[],rfl,rfl,ab5 x,h2 H Z⟩
 |@int x t ts us _ ih=>
  obtain⟨vs,h1,h2⟩:=ih
  refine⟨.int x::vs,.cons ⟨t,rfl⟩ h1,λH Z=>?_⟩
  simp only[Reps]
  exact⟨_,_,[],[],rfl,rfl,jF x,h2 H Z⟩
theorem cn9{x:Str}{a:Addr}{oc:Option Addr}{sl:Array (Option Value)}{us:List Value}{n:Nat}{ts:List T}(l:K.lookup a=some ⟨.type "tuple",oc,.seq us.toArray n,sl⟩)(r:TupR ts us)(hz:us.length<=sizeLine):
 (x,T.tup ts).1=(x,Value.ref a).1/\∃v,RelV v (x,Value.ref a).2/\∀H Z,Rep K cn H Z (x,T.tup ts).2 v []:=by
 obtain⟨vs,h1,h2⟩:=r.vals (K:=K) (cn:=cn)
 refine⟨rfl,.ref a,rfl,λH Z=>?_⟩
 simp only[Rep]
 exact⟨a,vs,rfl,.inr ⟨_,us.toArray,n,l,rfl,rfl,by simpa using hz,by simpa using h1⟩,h2 H Z⟩
theorem bj1{P:Program}{w:World}{mg:Str->Option Value}{base:Heap}{C:Addr}{m qual:Str}{st:Stmt}{N ps:List Str}{k:Nat}{d:Fr->bP}(F:an8 K C m qual st)(c:Cls K C)(S:bL N ps (aS st))
 (hb:∀(kV doc pm:Value)(an:Option Addr)(cdv ct:Value)(us:List Value),us.length=ps.length->bindArgs (PySem.W.fnOf m qual (fZ st) (cF st) (aS st) .none kV doc pm an cdv ct) ⟨us,[]⟩=pure (ps.zip us))
 (hbody:∀(f:Addr)(cdv:Value)(A:Around)(outer:List Env)(s:Shared)(H:Hp)(E:XK),Room k (A.deeper (envOfC qual (aS st) s.heap.objs.size f cdv))->
  ∃t,PSs (kB mZ P w K mg base N qual (aS st) f cdv A outer s H E).nox (cF st) t/\RS [] K cn E t d){n:Nat}{G:List T->Res T}(hn:ps.length=n)(hG:∀ts,G ts=cL (d (dY N.length ts))){k':Nat}(hk:k+1<=k'):Mth P w K mg base k' C m (cJ K cn n G):=by
 obtain⟨f,fd,M,F⟩:=F.ex
 exact⟨f,fd,ps,c,M,(ax1 F S (λcdv A outer s H E hr=>hbody f cdv A outer s H E hr) hn hG).mono hk,F.binds hb⟩
end
end TL
namespace L2
open PySem PySem.Spec PyProof.Rows
theorem bl3:bootBuiltins "set"=some (.type "set"):=by decide+kernel
def oX(ss:List Str):Nat:=(jU (λi=>ss.getD i Str.empty) ss.length).length
def aw7(K:PySem.W.Frag):List V->Hp->VK->Prop:=λxs H Q=>∃p ss,xs=[.ref p]/\SqL K H p (ss.map V.str)/\ss.length<=1000/\Q (.int (oX ss)) H
section
variable {X : Cx}
theorem ba3(K:PySem.W.Frag){e:Expr}{t:TA}{p p2 pos pos2:Pos}(hm:X.mg "len"=none)(hm2:X.mg "set"=none)(ha:PA X [e] t)(hc:X.calm=true:=by rfl)(hg:Gl X "len":=by rfl)(hg2:Gl X "set":=by rfl)(he:starEach [e] X.env=[(false,eval e X.env)]:=by rfl)(hK:X.K=K:=by rfl):
 PE X (.Call (.Name "len" p) [.Call (.Name "set" p2) [e] [] pos2] [] pos) (tCB (aw7 K) t):=by
 subst hK
 intro pins s σ H Q I h
 refine wpAny_Call_Name_kw (rL I hg hm boot_len ?_)
 refine PyProof.Rows.callWith_builtin1 (PyProof.Rows.args_cons ?_) rfl rfl
 refine wpAny_Call_Name_kw (rL I hg2 hm2 bl3 ?_)
 refine PyProof.Rows.callWith_type1 (cE (ha pins s σ H _ I h) λus s1 ⟨vs,H1,I1,r1,q1⟩=>?_) he rfl
 obtain⟨l,ss,rfl,hq,hl,q⟩:=q1
 cases r1 with
 |cons r rr=>
  cases rr
  cases r
  obtain⟨its,rv,pl,_⟩:=I1.list hq
  have e1:its.length=ss.length:=by have:=rv.length;simpa using this.symm
  refine ad3 (val:=λi=>ss.getD i Str.empty) (I.ok.hd hc) pl.isList (λi v hv=>?_) (by rw[List.size_toArray,e1];unfold scanBound;omega) λh' tk hS kk=>PyProof.Rows.args_nil ?_
  . have hi:i<its.length:=by
     have:=(Array.getElem?_eq_some_iff.mp hv).1
     simpa using this
    obtain⟨x,ex,rx⟩:=fH rv hi
    have ev:v=its[i]:=by
     have:=(Array.getElem?_eq_some_iff.mp hv).2
     simpa using this.symm
    rw[List.getElem?_map]at ex
    cases eg:ss[i]? with
    |none=>rw[eg]at ex;cases ex
    |some z=>
     rw[eg]at ex
     cases ex
     obtain⟨t,et⟩:=rx
     refine⟨t,?_⟩
     rw[ev,et,List.getD_eq_getElem?_getD,eg]
     rfl
  . have I2:Inv X pins σ H1 {s1 with heap:=h',toks:=tk}:=I1.kept λb u eb=>kk b u (Heap.lt_size eb) eb
    obtain⟨o,es,ep,tb,ho,hx,hd,_,_,hs,hf,hn⟩:=hS
    refine call_len_set ho hx hd hf (by have:es.size<4096:=hs;omega) ?_
    refine⟨.int (oX ss),H1,I2.tok _,⟨tk+1,?_⟩,q⟩
    rw[hn,List.size_toArray,e1]
    rfl
end
end L2
namespace TL
open PySem PySem.Spec PyProof.Rows L2
section
variable {Jn : fM} {K : PySem.W.Frag} {cn : Str → Option Addr} {E : XK}
def oO:List T->Res T
 |[.lst _ ts]=>match uE ts with
  |some ss=>if ss.length<=1000 then .ok (.int (oX ss))else .no
  |none=>.no
 |_=>.no
theorem br4:vO K cn (aw7 K) oO:=λE As H Z ts xs A Q zi r w=>by
 unfold oO at w
 split at w
 . next o ts=>
   obtain⟨v,rfl,rv⟩:=r.one1
   obtain⟨a,vs,C,rfl,s,rs,_⟩:=rv.lstSq
   split at w
   . next ss hs=>
     split at w
     . next hl=>
       have:=at7 ts rs hs
       subst this
       exact⟨a,ss,rfl,s.sq,hl,w.val zi (jF _)⟩
     . exact w.elim
   . exact w.elim
 . exact w.elim
theorem ab0:∀(l acc:List Str),(acc++l).Nodup->l.foldl jK acc=acc++l
 |[],acc,_=>by simp
 |x::l,acc,h=>by
  have hx:x∉acc:=λhx=>by
   rw[List.nodup_append]at h
   exact h.2.2 x hx x List.mem_cons_self rfl
  have hs:jK acc x=acc++[x]:=by
   unfold jK
   rw[if_neg]
   intro q
   rw[List.any_eq_true]at q
   obtain⟨y,hy,e⟩:=q
   have:y=x:=by simpa using e
   subst this
   exact hx hy
  rw[List.foldl_cons,hs,ab0 l (acc++[x]) (by simpa using h)]
  simp
theorem am0(l:List Str):(List.range l.length).map (λi=>l.getD i Str.empty)=l:=by
 apply List.ext_getElem?
 intro i
 by_cases h:i<l.length
 . rw[List.getElem?_map,List.getElem?_range h,List.getElem?_eq_getElem h]
   simp[List.getD_eq_getElem?_getD,List.getElem?_eq_getElem h]
 . rw[List.getElem?_eq_none (by simpa using h),List.getElem?_eq_none (by omega)]
theorem yM{ss:List Str}(h:ss.Nodup):oX ss=ss.length:=by
 unfold oX jU
 rw[am0,ab0 ss [] (by simpa using h)]
 simp
theorem bw4{ss:List Str}(o:Bool)(h:ss.Nodup)(hl:ss.length<=1000):oO [.lst o (ss.map .str)]=.ok (.int ss.length):=by
 simp only[oO,sH,if_pos hl,yM h]
end
end TL
namespace TL
open PySem PySem.Spec PyProof.Rows L2
section
variable {P : Program} {w : World} {K : PySem.W.Frag} {cn : Str → Option Addr} {mg : Str → Option Value} {base : Heap} {k n : Nat}
theorem nM{f:Str}:mH K cn [] f:=λ_ h=>nomatch h
theorem mJ{c f:Str}{C:Addr}{cs:List Str}(h:cn c=some C)(k:Cls K C)(n:NoAttr K C f)(r:mH K cn cs f):mH K cn (c::cs) f:=λd hd D hD=>by
 rcases List.mem_cons.mp hd with rfl|hd
 . rw[h]at hD
   cases hD
   exact⟨k,n⟩
 . exact r d hd D hD
theorem bg4:at3 K cn n [] []:=λc G C h=>by cases h
theorem bq1{c:Str}{C:Addr}{G:List T->Res T}{tabs:List (Str×(List T->Res T))}{tab:List (Addr×Sp)}(h:cn c=some C)(r:at3 K cn n tabs tab):at3 K cn n ((c,G)::tabs) ((C,cJ K cn n G)::tab):=λd G' D hl hD=>by
 rw[List.lookup_cons]at hl
 by_cases e:(d==c)=true
 . rw[e]at hl
   cases hl
   have:d=c:=by simpa using e
   subst this
   rw[h]at hD
   cases hD
   exact List.mem_cons_self
 . rw[Bool.not_eq_true]at e
   rw[e]at hl
   exact List.mem_cons_of_mem _ (r d G' D hl hD)
theorem bl6{m:Str}:∀q∈([]:List (Addr×Sp)),Mth P w K mg base k q.1 m q.2:=cU
theorem bl0{m:Str}{C:Addr}{sp:Sp}{tab:List (Addr×Sp)}(h:Mth P w K mg base k C m sp)(r:∀q∈tab,Mth P w K mg base k q.1 m q.2):∀q∈(C,sp)::tab,Mth P w K mg base k q.1 m q.2:=λq hq=>by
 rcases List.mem_cons.mp hq with rfl|hq
 . exact h
 . exact r q hq
end
end TL
namespace L2
open PySem PySem.Spec PyProof.Rows
theorem co9{K:PySem.W.Frag}{h:Heap}{mg:Str->Option Value}{kvs:List (Str×Value)}{z x:Str}{u:Value}(X:K.In h)(G:h.Ns mainGlobals mg)(a:PySem.W.nsIn K mainGlobals x=some (some u))(e:kvs.lookup z=some u):kvs.lookup z=mg x:=e.trans (PySem.W.mg_of X G a).symm
end L2
namespace TL
open PySem PySem.Spec PyProof.Rows L2
theorem ce8{i j:Int}(h1:-(2^64)<i)(h2:i<2^64):mulOk i j:=.inl ⟨h1,h2⟩
theorem cn8{i j:Int}(h1:-(2^64)<j)(h2:j<2^64):mulOk i j:=.inr (.inl ⟨h1,h2⟩)
theorem bh8(i:Int):lW [.int i,.ty "int"]=.ok (.bl true):=by6 i
theorem bj9(i:Int):lW [.int i,.ty "bool"]=.ok (.bl false):=bi2 i
theorem bw8(i:Bool):lW [.bl i,.ty "bool"]=.ok (.bl true):=bp7 i
theorem bj8(i:Bool):lW [.bl i,.ty "int"]=.ok (.bl true):=bw0 i
theorem by8(i:List T):lW [.tup i,.ty "tuple"]=.ok (.bl true):=bx7 i
theorem bq9(o:Bool)(i:List T):lW [.lst o i,.ty "list"]=.ok (.bl true):=bt7 o i
theorem bd8:lW [.non,.ty "bool"]=.ok (.bl false):=by with_unfolding_all rfl
theorem cf0:lW [.non,.ty "int"]=.ok (.bl false):=by with_unfolding_all rfl
theorem cs3(i:Int):bl7 [.int i]=gate (i.natAbs.log2<1920) (.ok (.str (toString i))):=rfl
theorem cw3(x:Str):bl7 [.str x]=.ok (.str x):=rfl
theorem ce3(i j:Int):oA (.int i) (.int j)=.ok (.bl (!(i==j))):=rfl
theorem ce4(i j:Str):oA (.str i) (.str j)=.ok (.bl (!(i==j))):=rfl
theorem cl4(i j:Bool):oA (.bl i) (.bl j)=.ok (.bl (!(i==j))):=rfl
theorem bl8(o:Bool)(ts:List T):nJ [.lst o ts]=if bA ts=true then .ok (.tup ts)else .no:=rfl
end TL
namespace TL
open PySem L2
theorem bh4{n:Nat}(h:n<=100000):(n<=sizeLine)=True:=eq_true (Nat.le_trans h (by decide))
theorem bz4{n:Nat}(h:n<=100000):(n<sizeLine)=True:=eq_true (Nat.lt_of_le_of_lt h (by decide))
theorem gB{m:Int}(h:0<=m):∃k:Nat,m=k:=⟨m.toNat,by omega⟩
end TL
namespace TL
open PySem L2
theorem cg6{i j:Int}(h1:0<j)(h2:j<1073741824):gF i j:=⟨h1,h2⟩
theorem co7{i j:Int}(h1:0<=j)(h2:j<=1000000)(h3:i.natAbs<2^64):xK i j:=⟨h1,h2,h3⟩
end TL
namespace L2
open PySem
theorem cd6{K:PySem.W.Frag}{C:Addr}{f:Str}(h:PySem.W.findIn K (.ref C) f=some none):NoAttr K C f:=h
end L2
namespace L2
open PySem PySem.Spec PyProof.Rows
section
variable {X : Cx}
theorem aj2{xs:List V}{its:List Value}(r:Vals xs its):∀k:Nat,Vals (List.replicate k xs).flatten (List.replicate k its).flatten
 |0=>Paired.nil
 |k+1=>by
  rw[List.replicate_succ,List.replicate_succ,List.flatten_cons,List.flatten_cons]
  exact r.append (aj2 r k)
theorem av4(its:List Value):∀(k:Nat)(acc:List Value),List.foldl (λx1 x2=>x1++x2) acc.toArray (List.replicate k its.toArray)=(acc++(List.replicate k its).flatten).toArray
 |0,acc=>by simp
 |k+1,acc=>by
  rw[List.replicate_succ,List.foldl_cons,List.replicate_succ,List.flatten_cons]
  have e:acc.toArray++its.toArray=(acc++its).toArray:=by simp
  rw[e,av4 its k,List.append_assoc]
theorem bt0(its:List Value)(k:Nat):List.foldl (λx1 x2=>x1++x2) #[] (List.replicate (if its.toArray.isEmpty=true then 0 else k) its.toArray)=((List.replicate k its).flatten).toArray:=by
 cases its with
 |nil=>
  have e:(List.replicate k ([]:List Value)).flatten=[]:=by
   induction k with
   |zero=>rfl
   |succ k ih=>rw[List.replicate_succ,List.flatten_cons,ih];rfl
  rw[e]
  simp
 |cons v its=>
  have e:=av4 (v::its) k []
  simp only[List.nil_append]at e
  simpa using e
def bw7(K:PySem.W.Frag):R2:=λx y H Q=>∃l xs k,x=.ref l/\y=.int k/\SqS K H l xs/\-(2^63)<=k/\k<2^63/\xs.length*k.toNat<=2^24/\∀p,H p=none->Q (.ref p) (upd H p (.lst (List.replicate k.toNat xs).flatten))
theorem bc8(K:PySem.W.Frag)(hK:X.K=K:=by rfl):OpR X (binaryOp .Mult) (bw7 K):=by
 subst hK
 intro pins s σ H x y v u Q I rx ry h
 obtain⟨l,xs,k,rfl,rfl,hH,h1,h2,hz,q⟩:=h
 cases rx
 obtain⟨t,rfl⟩:=ry
 obtain⟨its,n,r,e,_⟩:=I.listS hH
 have hl:=r.length
 have hs:its.toArray.size*k.toNat<=2^24:=by rw[List.size_toArray,<-hl];exact hz
 refine wpAny_binaryOp_repeat_ref (T:="list") (U:="int") (by decide) ⟨_,e,rfl⟩ (λs'=>typeIs_int s' k t) noFill_list_mul F.fills_int_mul F.slot_int_rmul repeat_list F.slot_int_index.lookup
  (call_meets F.slot_int_rmul (typeIs_int s k t) F.entry_int_rmul (F.args_int_rmul_2 _ _) (int___rmul___int_list k t l its.toArray n) ⟨e,rfl,⟨_,e,rfl⟩,call_meets F.slot_list_mul ⟨_,e,rfl⟩ F.entry_list_mul (F.args_list_mul_2 _ _)
   (AutoListH.list___mul___list_int_3 l its.toArray n k t (by simp[Builtin.List.listFitsIndex];omega) (by omega) (by simp[Builtin.List.listTooLong,sizeLine];simpa using hs)) ⟨e,?_⟩⟩)
 rw[bt0]
 refine⟨.ref _,_,I.lnew (t':=s.toks) (aj2 r k.toNat) ?_,rfl,q _ I.fresh⟩
 have hm:∀(m:Nat),(List.replicate m xs).flatten.length=m*xs.length:=by intro m;simp
 have hn:=sizeLine_eq
 rw[hm,Nat.mul_comm]
 omega
end
end L2
namespace TL
open PySem L2
section
variable {K : PySem.W.Frag} {cn : Str → Option Addr}
noncomputable def ax0:T->T->Res T
 |.lst _ xs,.int k=>gate (bA xs=true/\-(2^63)<=k/\k<2^63/\xs.length*k.toNat<=2^24) (.ok (.lst true (List.replicate k.toNat xs).flatten))
 |_,_=>.no
theorem ap2{H:Hp}{Z:Addr->Prop}{xs:List T}{vs:List V}(r:Reps K cn H Z xs vs []):∀k:Nat,Reps K cn H Z (List.replicate k xs).flatten (List.replicate k vs).flatten []
 |0=>Reps.nil
 |k+1=>by
  rw[List.replicate_succ,List.replicate_succ,List.flatten_cons,List.flatten_cons]
  exact Reps.append xs r (ap2 r k)
theorem ca2:mP K cn (bw7 K) ax0:=λE As H Z t u x y A B Q zi rt ru w=>by
 unfold ax0 at w
 split at w
 . next o xs k=>
   obtain⟨h,w⟩:=w.gate
   obtain⟨a,vs,C,rfl,hs,r1,_⟩:=rt.lstSq
   rw[ru.int]
   exact⟨a,vs,k,rfl,rfl,hs,h.2.1,h.2.2.1,by rw[Reps.length xs r1];exact h.2.2.2,λp hp=>w.newL zi (ap2 (r1.bareE h.1) k.toNat) p hp⟩
 . exact w.elim
def cx8(us:List T):List T->Option (List T)
 |[.int i]=>if 0<=i/\i.toNat<us.length/\us.length<=sizeLine then some (us.eraseIdx i.toNat)else none
 |_=>none
end
end TL
namespace TL
open PySem PySem.Spec PyProof.Rows L2
section
variable {Jn : fM} {K : PySem.W.Frag} {cn : Str → Option Addr} {E : XK}
end
end TL
namespace TL
open PySem PySem.Spec PyProof.Rows L2
section
variable {Jn : fM} {K : PySem.W.Frag} {cn : Str → Option Addr} {E : XK}
theorem Slots.keep{H H':Hp}{Z Z':Addr->Prop}(hz:∀a,Z a->Z' a):∀{ρ:Fr}{σ:St}{As:List (List Addr)},Slots K cn H Z ρ σ As->(∀a o,H a=some o->(a∈As.flatten\/Z a\/nO o=true)->H' a=some o)->Slots K cn H' Z' ρ σ As
 |[],_,_,h,_=>h
 |o::ρ,_,_,h,k=>by
  obtain⟨w,σ',A,As',rfl,rfl,h1,h2⟩:=h
  refine⟨w,σ',A,As',rfl,rfl,?_,Slots.keep hz h2 λa o q c=>k a o q (c.imp_left λc=>by rw[List.flatten_cons,List.mem_append];exact .inr c)⟩
  cases o with
  |none=>exact h1
  |some t=>
   obtain⟨v,e,r⟩:=h1
   exact⟨v,e,Rep.keep t r (λa o q c=>k a o q (c.imp_left λc=>by rw[List.flatten_cons,List.mem_append];exact .inl c)) hz⟩
def aj3(d:Fr->Res T):Fr->bP:=λρ=>match d ρ with
 |.ok t=>if dG t=true then .rm ρ t else .no
 |.ex x=>.ex x
 |.no=>.no
theorem bo8{te:TE}{d:Fr->Res T}(he:RB Jn K cn E te d):RS Jn K cn E (bq5 te) (aj3 d):=λAs H Z ρ σ F D w=>by
 unfold aj3 at w
 refine he As H Z ρ σ F _ ?_
 cases e:d ρ with
 |ok t=>
  rw[e]at w
  intro v H1 Z1 B p
  simp only at w
  split at w
  . next hn=>
    have hB:=Rep.bare t hn p.rep
    subst hB
    exact w v σ As H1 Z1 (F.mo p.mo) p.mo.ev p.rep
  . exact w.elim
 |ex x=>rw[e]at w;exact w
 |no=>rw[e]at w;exact w
theorem at2{α:Type}{l:List α}{i:Nat}{x:α}(h:l[i]?=some x):l.set i x=l:=by
 apply List.ext_getElem?
 intro j
 by_cases e:i=j
 . subst e
   rw[List.getElem?_set_self',h]
   rfl
 . rw[List.getElem?_set_ne e]
end
end TL
namespace L2
open PySem PySem.Spec PyProof.Rows
section
variable {X : Cx}
end
end L2
namespace TL
open PySem L2
section
variable {K : PySem.W.Frag} {cn : Str → Option Addr}
end
end TL
namespace L2
open PySem PySem.Spec PyProof.Rows
def an4(K:PySem.W.Frag)(n:Nat):V->List V->Hp->VK->Prop:=λx vs H Q=>∃p ys y,x=.ref p/\vs=[y]/\SqL K H p ys/\∃(es:List Bool),es.length=ys.length/\(∀(j:Nat) z e,ys[j]?=some z->es[j]?=some e->EqD K H n z y e)/\Q (.int (es.countP id:Nat)) H
section
variable {X : Cx}
theorem br3{n:Nat}(hu:X.A.units+n+1<cLine):MtR X "list.count" (an4 X.K n):=by
 intro pins s σ H x vs v us Q I rx rv h
 obtain⟨p,ys,y,rfl,rfl,hq,es,hl,he,q⟩:=h
 cases rx
 obtain⟨u,rfl,ru⟩:=rv.one
 obtain⟨its,r,pl,hz⟩:=I.list hq
 have l1:=r.length
 obtain⟨f,hf,_⟩:=ai0 I r hl he
 have em:its.map f=es:=by
  apply List.ext_getElem (by rw[List.length_map];omega)
  intro m h1 h2
  rw[List.getElem_map]
  have hm:m<its.length:=by simpa using h1
  obtain⟨z,ez,rz⟩:=fH r hm
  obtain⟨z',rz',d⟩:=hf its[m] (List.getElem_mem hm)
  cases rz.inj rz'
  exact EqD.det I n _ _ _ _ d (he m z _ ez (List.getElem?_eq_getElem h2))
 have ec:es.countP id=its.countP f:=by
  rw[<-em,List.countP_map]
  rfl
 rw[ec]at q
 obtain⟨⟨oc,od,odt,osl⟩,n0,ho,hc,hd,hdt⟩:=pl
 simp only at hc hd hdt
 subst hc hd hdt
 refine call_meets F.slot_list_count ⟨_,ho,rfl⟩ F.entry_list_count (F.args_list_count_2 _ _) (SeqAt.list_countAt p its.toArray n0 none osl u f) ⟨ho,λy hy=>?_,⟨.int (its.countP f:Nat),H,I.tok _,⟨_,rfl⟩,q⟩⟩
 obtain⟨z,rz,d⟩:=hf y (by simpa using hy)
 exact lI I n (by show X.A.units+1+n<cLine;omega) rz ru d
theorem bg1(K:PySem.W.Frag){n:Nat}{k:Nat}(hr:Room k X.A)(hn:n<=60:=by decide)(hK:X.K=K:=by rfl):MtR X "list.count" (an4 K n):=by
 subst hK
 exact br3 (Nat.lt_of_le_of_lt (by omega) hr.units)
structure IsC (K:PySem.W.Frag) (C:Addr):Prop where
 ha:PySem.W.findIn K (.ref C) "__class__"=some (some (.builtin "object.__class__"))
 hn:PySem.W.specialIn K (.builtin "object.__class__") "__get__"=some (some (.builtin "getset_descriptor.__get__"))
 htk:PySem.W.takesIn K (.builtin "object.__class__")=some true
 hm:PySem.W.mroIn K C (.type "object")=some true
theorem cm9{K:PySem.W.Frag}{C:Addr}(a:PySem.W.findIn K (.ref C) "__class__"=some (some (.builtin "object.__class__")))(b:PySem.W.specialIn K (.builtin "object.__class__") "__get__"=some (some (.builtin "getset_descriptor.__get__")))(c:PySem.W.takesIn K (.builtin "object.__class__")=some true)
 (d:PySem.W.mroIn K C (.type "object")=some true):IsC K C:=⟨a,b,c,d⟩
def ca7(K:PySem.W.Frag)(C D:Addr)(b:Bool):Prop:=PySem.W.kitOne K (.ref C) (.ref D)=some b
theorem cg9{K:PySem.W.Frag}{C D:Addr}{b:Bool}(h:PySem.W.kitOne K (.ref C) (.ref D)=some b):ca7 K C D b:=h
theorem cy1{K:PySem.W.Frag}{h:Heap}{mg:Str->Option Value}(X:K.In h)(G:h.Ns mainGlobals mg){x:Str}{C:Addr}(a:PySem.W.nsIn K mainGlobals x=some (some (.ref C))):jL mg x (.ref C):=⟨_,PySem.W.mg_of X G a,rfl⟩
end
end L2
namespace TL
open PySem PySem.Spec PyProof.Rows L2
section
variable {Jn : fM} {K : PySem.W.Frag} {cn : Str → Option Addr} {E : XK}
def ag0:T->List T->Res T
 |.lst _ us,[t]=>match wP t us with
  |some es=>.ok (.int (es.countP id:Nat))
  |none=>.no
 |_,_=>.no
theorem bz8:RMR K cn "list" (an4 K bV) ag0:=λE As H Z t ts x xs A B Q zi rt r w=>by
 unfold ag0 at w
 split at w
 . next o us t=>
   obtain⟨a,vs,C,rfl,s,rs,_⟩:=rt.lstSq
   simp only[Reps]at r
   obtain⟨v,r',B1,C1,rfl,rfl,ra,rfl,rfl⟩:=r
   cases e:wP t us with
   |none=>rw[e]at w;exact w.elim
   |some es=>
    rw[e]at w
    obtain⟨g1,g2⟩:=xS ra us rs e
    exact⟨a,vs,v,rfl,rfl,s.sq,es,g1,g2,w.val zi (jF _)⟩
 . exact w.elim
def kT(cn:Str->Option Addr)(tabs:List (Str×Bool))(tab:List (Addr×Bool)):Prop:=∀c b C,tabs.lookup c=some b->cn c=some C->(C,b)∈tab
theorem fP:kT cn [] []:=λ_ _ _ h=>by cases h
theorem eM{c:Str}{C:Addr}{b:Bool}{tabs:List (Str×Bool)}{tab:List (Addr×Bool)}(h:cn c=some C)(r:kT cn tabs tab):kT cn ((c,b)::tabs) ((C,b)::tab):=λc' b' C' hl hc=>by
 rw[List.lookup_cons]at hl
 by_cases e:c'=c
 . subst e
   rw[h]at hc
   cases hc
   simp at hl
   subst hl
   exact List.mem_cons_self
 . rw[show(c'==c)=false from by rw[beq_eq_false_iff_ne];exact e]at hl
   exact List.mem_cons_of_mem _ (r c' b' C' hl hc)
end
end TL
namespace TL
open PySem PySem.Spec PyProof.Rows L2
section
variable {Jn : fM} {K : PySem.W.Frag} {cn : Str → Option Addr} {E : XK}
def zY:T->Option V
 |.non=>some .non
 |.bl b=>some (.bl b)
 |.int i=>some (.int i)
 |.str x=>some (.str x)
 |_=>none
theorem bi5{H:Hp}{Z:Addr->Prop}{t:T}{v u:V}{A:List Addr}(r:Rep K cn H Z t v A)(h:zY t=some u):v=u:=by
 cases t<;>simp only[zY]at h<;>cases h<;>simp only[Rep]at r<;>exact r.1
def cj8(c f:Str)(a:Fr->Res (List T)):Fr->Res T:=λρ=>(a ρ).bind λts=>match ts with
 |[t]=>match zY t with
  |some v=>.ok (.err c [(f,v)])
  |none=>.no
 |_=>.no
def rH(c f:Str)(a:Fr->Res (List T)):Fr->bP:=λρ=>match a ρ with
 |.ok [t]=>match zY t with
  |some v=>.ex ⟨c,[(f,v)]⟩
  |none=>.no
 |.ex x=>.ex x
 |_=>.no
theorem sO{c f:Str}{C:Addr}{ta:TA}{a:Fr->Res (List T)}(hc:cn c=some C)(ha:tO Jn K cn E ta a):RS Jn K cn E (aa7 C f E ta) (rH c f a):=λAs H Z ρ σ F D w=>by
 unfold rH at w
 refine ha As H Z ρ σ F _ ?_
 cases e:a ρ with
 |ok ts=>
  rw[e]at w
  intro vs H1 Z1 B m r1
  split at w
  . next t et=>
    cases et
    split at w
    . next v hv=>
      simp only[Reps]at r1
      obtain⟨v',r',B1,C1,rfl,rfl,ra,rfl,rfl⟩:=r1
      have ev:=bi5 ra hv
      subst ev
      refine⟨_,rfl,λdx h2=>?_⟩
      have sm:Same H1 (upd H1 dx (.xd [(f,v')])):=λb u q=>by rw[aY (cR q h2)];exact q
      exact w C (some dx) _ Z1 ⟨⟨λa o q _=>sm _ _ (m.same _ _ q),λa h=>by simp at h,m.zz,λa z=>(m.zn a z).imp_right .inr,λa q=>m.same.free (sm.free q)⟩,hc,λa z q=>m.zi a z (sm.free q),.inr ⟨dx,rfl,bZ⟩⟩
    . exact w.elim
  . next et=>cases et
  . exact w.elim
 |ex x=>rw[e]at w;exact w
 |no=>rw[e]at w;exact w
def bl9(c:Str):Fr->bP:=λ_=>.ex ⟨c,[]⟩
def iZ(n:Nat)(G:List T->Res T)(ts:List T):Res T:=if ts.length=n then match G (frzs ts)with
 |.ok t=>if(gP t||bA ts)=true then .ok t else .no
 |.ex x=>.ex x
 |.no=>.no else .no
theorem bk1{n:Nat}{G:List T->Res T}{As:List (List Addr)}{H H1:Hp}{Z Z1:Addr->Prop}{ts:List T}{vs:List V}{B:List Addr}{Q:VK}{EX:XK}(m:Mo H Z H1 Z1)(r1:Reps K cn H1 Z1 ts vs B)(hl:ts.length=n)
 (w:∀t,iZ n G ts=.ok t->WpE K cn E As H Z [] Q (.ok t))(hno:iZ n G ts≠ .no)(hx:∀x,iZ n G ts=.ex x->∀C a H' Z',XPost K cn [] H1 (λa=>Z1 a\/a∈B) x C a H' Z'->EX (.ref C) a H'):cJ K cn n G vs H1 Q EX:=by
 cases e:G (frzs ts)with
 |ok t=>
  by_cases hc:(gP t||bA ts)=true
  . refine ak5 (E:=E) (As:=As) m r1 ?_
    have e1:sK n G ts=.ok t:=by unfold sK;rw[if_pos hl,e];simp only;rw[if_pos hc]
    rw[e1]
    exact w t (by unfold iZ;rw[if_pos hl,e];simp only;rw[if_pos hc])
  . exact absurd (by unfold iZ;rw[if_pos hl,e];simp only;rw[if_neg hc]) hno
 |ex x=>
  refine⟨by rw[Reps.length ts r1,hl],frzs ts,(λa=>Z1 a\/a∈B),λa h=>?_,Reps.frz ts r1 (λa h=>.inl h) (λa h=>.inr h),?_⟩
  . rcases h with h|h
    . exact m.zi a h
    . obtain⟨o,q,_⟩:=Reps.dom ts r1 a h
      rw[q]
      exact(λz=>nomatch z)
  rw[e]
  exact hx x (by unfold iZ;rw[if_pos hl,e])
 |no=>exact absurd (by unfold iZ;rw[if_pos hl,e]) hno
theorem XPost.up{As As1:List (List Addr)}{H H1 H2 H':Hp}{Z Z1 Z2 Z':Addr->Prop}{x:Exc}{C:Addr}{a:Option Addr}(m:Mo H Z H1 Z1)(sm:∀b o,H1 b=some o->H2 b=some o/\b∉As1.flatten)(p:XPost K cn As1 H2 Z2 x C a H' Z'):XPost K cn As H Z x C a H' Z1:=by
 have s2:Same H1 H':=λb o q=>p.ev.keep b o (sm b o q).1 (sm b o q).2
 exact⟨⟨λb o q _=>s2 b o (m.same b o q),λa h=>by simp at h,m.zz,λa z=>(m.zn a z).imp_right .inr,λa q=>m.same.free (s2.free q)⟩,p.cls,λa z q=>m.zi a z (s2.free q),p.flds⟩
def zZ(n:Nat)(G:List T->Res T)(r:Fr->Res (List T)):Fr->Res T:=λρ=>(r ρ).bind λts=>iZ n G ts
theorem cq0{c:Str}{C:Addr}{n:Nat}{G:List T->Res T}{ta:TA}{a:Fr->Res (List T)}(hc:cn c=some C)(ha:tO Jn K cn E ta a):RE Jn K cn E [] (al3 C (spI K cn c n G) [] E ta) (zZ n G a):=λAs H Z ρ σ F Q w=>by
 by_cases hx:∃ts x,a ρ=.ok ts/\ts.length=n/\G (frzs ts)=.ex x
 . obtain⟨ts,x,e,hn,e2⟩:=hx
   refine ha As H Z ρ σ F _ ?_
   unfold zZ iZ at w
   rw[e]at w⊢
   simp only[Res.bind]at w
   rw[if_pos hn,e2]at w
   intro vs H1 Z1 B m r1 y dx hy hdx hne
   have hs:Same H1 (L2.upd (L2.upd H1 dx (.own y)) y (.ins C dx [])):=λb u q=>by
    rw[aY (cR q hy),aY (cR q hdx)];exact q
   refine⟨by simp[Reps.length ts r1,hn],y,C,dx,vs,frzs ts,(λa=>Z1 a\/a∈B),by simp,hc,by rw[bZ],λh=>?_,λa h=>?_,(Reps.frz ts r1 (λa h=>.inl h) (λa h=>.inr h)).same hs (λ_ h=>h),?_⟩
   . rcases h with h|h
     . exact m.zi y h hy
     . obtain⟨o,q,_⟩:=Reps.dom ts r1 y h
       rw[hy]at q
       cases q
   . intro q
     have q':=hs.free q
     rcases h with h|h
     . exact m.zi a h q'
     . obtain⟨o,q2,_⟩:=Reps.dom ts r1 a h
       rw[q2]at q'
       cases q'
   rw[e2]
   exact λC' a' H' Z' p=>w C' a' H' Z1 (p.up m λb o q=>⟨hs b o q,by simpa using cR q hy⟩)
 . refine ag7 hc ha As H Z ρ σ F Q ?_
   unfold zZ iZ at w
   unfold cP
   cases e:a ρ with
   |ok ts=>
    rw[e]at w
    simp only[Res.bind]at w⊢
    by_cases hn:ts.length=n
    . rw[if_pos hn]at w⊢
      cases e2:G (frzs ts)with
      |ok t=>rw[e2]at w;exact w
      |ex x=>exact absurd ⟨ts,x,e,hn,e2⟩ hx
      |no=>rw[e2]at w;exact w
    . rw[if_neg hn]at w;exact w.elim
   |ex x=>rw[e]at w;exact w
   |no=>rw[e]at w;exact w
def av9(n:Nat)(G:List T->Res T)(cs:List Str)(k:Nat)(a:Fr->Res (List T))(ds:Fr->bP)(g:T->Fr->Fr):Fr->bP:=λρ=>match a ρ with
 |.ok ts=>(match iZ n G ts with
  |.ok t=>.nx (g t ρ)
  |.ex x=>if cs.contains x.c=true then(match ds (ρ.set k (some (.err x.c x.fs)))with
   |.nx ρ'=>.nx (kills [k] ρ')
   |_=>.no)else .no
  |.no=>.no)
 |.ex x=>.ex x
 |.no=>.no
theorem cn1{n:Nat}{G:List T->Res T}{cs:List Str}{CE:Addr}{k:Nat}{ta:TA}{ts:TS}{a:Fr->Res (List T)}{ds:Fr->bP}{g:T->Fr->Fr}{gv:V->St->St}
 (hg:∀As H Z ρ σ t v B,Frm Jn K cn H Z ρ σ As->Rep K cn H Z t v B->B.Nodup->(∀b∈B,¬Z b)->(∀b∈B,b∉As.flatten)->∃As',Frm Jn K cn H Z (g t ρ) (gv v σ) As'/\∀a∈As'.flatten,a∈As.flatten\/a∈B)
 (hcs:∀c C,cs.contains c=true->cn c=some C->PySem.W.mroIn K C (.ref CE)=some true)(hJ:kW Jn k=true)(ha:tO Jn K cn E ta a)(hs:RS Jn K cn E ts ds):RS Jn K cn E (cy3 (cJ K cn n G) K CE k ta ts gv) (av9 n G cs k a ds g):=λAs H Z ρ σ F D w=>by
 unfold av9 at w
 refine ha As H Z ρ σ F _ ?_
 cases e:a ρ with
 |ok us=>
  rw[e]at w
  intro vs H1 Z1 B m r1
  simp only at w
  have hl:us.length=n:=by
   by_cases h:us.length=n
   . exact h
   . have:iZ n G us=.no:=by unfold iZ;rw[if_neg h]
     rw[this]at w;exact w.elim
  refine bk1 (E:=E) (As:=As) m r1 hl (λt q=>?_) (λq=>by rw[q]at w;exact w) (λx q C a H' Z' p=>?_)
  . rw[q]at w
    intro v H2 Z2 C p
    obtain⟨As',F',h'⟩:=hg As H2 Z2 ρ σ t v C (F.mo p.mo) p.rep p.nd p.bz (λb hb hA=>by
     obtain⟨o,e1,_⟩:=F.sl.dom b hA
     rcases p.bn b hb with q|⟨i,hi,_⟩
     . rw[e1]at q;cases q
     . cases hi)
    refine w _ As' H2 Z2 F' ⟨λa o h n=>p.same a o h,λa ha=>?_,p.zz,λa h=>(p.zn a h).imp_right .inr,λa h=>p.same.free h⟩
    rcases h' a ha with q|q
    . exact .inl q
    . rcases p.bn a q with q|⟨i,hi,_⟩
      . exact .inr q
      . cases hi
  . rw[q]at w
    simp only at w
    split at w
    . next hc=>
      have s1:Same H1 H':=λb o q=>p.ev.keep b o q (by simp)
      have m2:Mo H1 Z1 H' Z1:=⟨s1,λ_ h=>h,λ_ h=>.inl h,λa z q=>m.zi a z (s1.free q)⟩
      refine⟨C,rfl,hcs _ _ hc p.cls,λea hea=>?_⟩
      have s2:Same H' (upd H' ea (nN ea C a)):=λb u q=>by rw[aY (cR q hea)];exact q
      have m3:Mo H Z (upd H' ea (nN ea C a)) Z1:=(m.trans m2).trans ⟨s2,λ_ h=>h,λ_ h=>.inl h,λa z q=>m2.zi a z (s2.free q)⟩
      have re:Rep K cn (upd H' ea (nN ea C a)) Z1 (.err x.c x.fs) (.ref ea) []:=by
       simp only[Rep]
       exact⟨ea,C,a,rfl,trivial,p.cls,bZ,p.flds.imp_right λ⟨d,q1,q2⟩=>⟨d,q1,s2 _ _ q2⟩⟩
      have F2:=(F.mo m3).set re List.nodup_nil cU k (λb hb=>by cases hb) hJ
      refine hs _ _ _ _ _ F2 (dS D k) ?_
      have ev0:Ev As H Z (As.set k []) (upd H' ea (nN ea C a)) Z1:=⟨λb o q _=>m3.same b o q,λb hb=>.inl ((dO hb).elim (λz=>nomatch z) id),m3.zz,λb z=>(m3.zn b z).imp_right .inr,λb q=>m3.same.free q⟩
      split at w
      . next ρ' ed=>
        rw[ed]
        intro σ' As' H3 Z3 F3 ev3
        refine w _ _ H3 Z3 (F3.clr [k] (by unfold sA;simp[hJ])) ?_
        refine(ev0.trans ev3).trans ⟨λ_ _ q _=>q,λb hb=>.inl (dZ hb),λ_ h=>h,λ_ h=>.inl h,λ_ h=>h⟩
      . exact w.elim
    . exact w.elim
 |ex x=>rw[e]at w;exact w
 |no=>rw[e]at w;exact w
theorem cn0:∀As H Z ρ σ t v B,Frm Jn K cn H Z ρ σ As->Rep K cn H Z t v B->B.Nodup->(∀b∈B,¬Z b)->(∀b∈B,b∉As.flatten)->∃As',Frm Jn K cn H Z ((λ_ ρ=>ρ:T->Fr->Fr) t ρ) ((λ_ σ=>σ:V->St->St) v σ) As'/\∀a∈As'.flatten,a∈As.flatten\/a∈B:=
 λAs _ _ _ _ _ _ _ F _ _ _ _=>⟨As,F,λ_ h=>.inl h⟩
def dQ(tabs:List (Str×Bool)):T->Res T
 |.err c _=>match tabs.lookup c with
  |some b=>.ok (.bl b)
  |none=>.no
 |.non=>.ok (.bl false)
 |_=>.no
theorem gK{tabs:List (Str×Bool)}{tab:List (Addr×Bool)}{D:V}{ta:TE}{d:Fr->Res T}(hT:kT cn tabs tab)(ha:RB Jn K cn E ta d):RE Jn K cn E [] (tCB (bz6 tab D) (jZ ta (jZ (tC D) pN))) (eX (dQ tabs) d):=λAs H Z ρ σ F Q w=>by
 unfold eX at w
 refine ha As H Z ρ σ F _ ?_
 cases e:d ρ with
 |ok t=>
  rw[e]at w
  intro v H1 Z1 B p
  simp only[Res.bind,dQ]at w
  split at w
  . next c fs=>
    split at w
    . next b hb=>
      obtain⟨q,C,dx,rfl,_,hC,h1,h2⟩:=(by have:=p.rep;simpa only[Rep]using this:∃a C dx,v=.ref a/\B=[]/\cn c=some C/\H1 a=some (nN a C dx)/\am1 H1 dx fs)
      exact⟨.ref q,rfl,.inr ⟨q,C,dx,fs,b,rfl,h1,h2,hT c b C hb hC,w (.bl b) H1 Z1 [] ⟨p.same,p.zz,p.zn,p.zi,⟨rfl,rfl⟩,List.nodup_nil,cU,cU⟩⟩⟩
    . exact w.elim
  . have:v=.non:=by have:=p.rep;simp only[Rep]at this;exact this.1
    subst this
    exact⟨.non,rfl,.inl ⟨rfl,w (.bl false) H1 Z1 [] ⟨p.same,p.zz,p.zn,p.zi,⟨rfl,rfl⟩,List.nodup_nil,cU,cU⟩⟩⟩
  . exact w.elim
 |ex x=>rw[e]at w;exact w
 |no=>rw[e]at w;exact w
def vT:V->Res T
 |.non=>.ok .non
 |.bl b=>.ok (.bl b)
 |.int i=>.ok (.int i)
 |.str x=>.ok (.str x)
 |_=>.no
def aw0(cs:List Str)(f:Str):T->Res T
 |.err c fs=>if cs.contains c=true then match fs.lookup f with
  |some v=>vT v
  |none=>.no else .no
 |_=>.no
theorem bt8{cs:List Str}{f:Str}{ta:TE}{d:Fr->Res T}(hF:∀c C,cs.contains c=true->cn c=some C->ErrF K C f)(ha:RB Jn K cn E ta d):RE Jn K cn E [] (bu7 K f ta) (eX (aw0 cs f) d):=λAs H Z ρ σ F Q w=>by
 unfold eX at w
 refine ha As H Z ρ σ F _ ?_
 cases e:d ρ with
 |ok t=>
  rw[e]at w
  intro v H1 Z1 B p
  simp only[Res.bind,aw0]at w
  split at w
  . next c fs=>
    split at w
    . next hc=>
      split at w
      . next u hu=>
        obtain⟨q,C,dx,rfl,_,hC,h1,h2⟩:=(by have:=p.rep;simpa only[Rep]using this:∃a C dx,v=.ref a/\B=[]/\cn c=some C/\H1 a=some (nN a C dx)/\am1 H1 dx fs)
        rcases h2 with⟨_,h2⟩|⟨d',h2,h3⟩
        . subst h2;cases hu
        . subst h2
          refine⟨q,C,d',fs,u,rfl,h1,h3,hF c C hc hC,hu,?_⟩
          cases u<;>first|exact w.elim|exact w _ H1 Z1 [] ⟨p.same,p.zz,p.zn,p.zi,⟨rfl,rfl⟩,List.nodup_nil,cU,cU⟩
      . exact w.elim
    . exact w.elim
  . exact w.elim
 |ex x=>rw[e]at w;exact w
 |no=>rw[e]at w;exact w
end
end TL
namespace L2
open PySem PySem.Spec PyProof.Rows PySem.W
structure bw5 (K:PySem.W.Frag) (mg:Str->Option Value) (x:Str) (C:Addr) (f qual:Str) (st:Stmt):Prop where
 flds:ErrF K C f
 glob:mg x=some (.ref C)
 kp:keepIn K (.ref C)=true
 ex:∃g fd,findIn K (.ref C) "__init__"=some (some (.ref g))/\isFn K (.ref g)=true/\Fun K "__init__" qual st g fd
theorem bp9{P:Program}{w:World}{K:PySem.W.Frag}{mg:Str->Option Value}{base:Heap}{x:Str}{C:Addr}{f qual b:Str}{st:Stmt}{p1 p2 p3 p4:Pos}(M:bw5 K mg x C f qual st)(S:bL [("self":Str),b] [("self":Str),b] (aS st))
 (hbd:∀(kV doc pm:Value)(an:Option Addr)(cdv ct:Value)(us:List Value),us.length=[("self":Str),b].length->bindArgs (PySem.W.fnOf "__init__" qual (fZ st) (cF st) (aS st) .none kV doc pm an cdv ct) ⟨us,[]⟩=pure ([("self":Str),b].zip us))
 (hb:cF st=[.Assign [.Attribute (.Name "self" p1) f p2] (.Name b p3) p4]:=by rfl)(hsw:∀env,swapsWith (.Name b p3) (some (.Attribute (.Name "self" p1) f p2)) p4.line env=pure false:=by intro _;rfl)(hd:(b==("__debug__":Str))=false:=by decide)(hc:(b==("__classdict__":Str))=false:=by decide):ap1 P w K mg base x C f:=by
 obtain⟨g,fd,h1,h2,F⟩:=M.ex
 exact⟨M.flds,M.glob,M.kp,g,fd,b,h1,h2,bm5 F M.flds S hb hd hc hsw,F.binds hbd⟩
def ah7(K:PySem.W.Frag)(C:Addr):Bool:=match clsIn K C with
 |some cd=>ap0 cd.mro&&cd.mro.contains (.type "object")&&cd.mro.contains (.type "BaseException")
 |none=>false
theorem aj7{K:PySem.W.Frag}{C:Addr}(a:uY K C=true)(b:ah7 K C=true)(c:findIn K (.ref C) "__getattribute__"=some (some (.builtin "BaseException.__getattribute__")))(d:findIn K (.ref C) "__getattr__"=some none)(e:findIn K (.ref C) "__class__"=some (some (.builtin "object.__class__")))
 (f:specialIn K (.builtin "object.__class__") "__get__"=some (some (.builtin "getset_descriptor.__get__")))(g:takesIn K (.builtin "object.__class__")=some true)(h:mroIn K C (.type "object")=some true):ErrG K C:=by
 refine⟨a,?_,c,d,e,f,g,h⟩
 unfold ah7 at b
 split at b
 . rename_i cd q
   simp only[Bool.and_eq_true]at b
   exact⟨cd,q,b.1.1,b.1.2,b.2⟩
 . cases b
theorem bb9{K:PySem.W.Frag}{h:Heap}{mg:Str->Option Value}(X:K.In h)(G:h.Ns mainGlobals mg){x:Str}{C g:Addr}{f qual:Str}{st:Stmt}{oc:Value}{od an:Option Addr}{osl:Array (Option Value)}{kV doc pm cdv ct:Value}(gl:nsIn K mainGlobals x=some (some (.ref C)))(eg:ErrG K C)
 (sa:findIn K (.ref C) "__setattr__"=some (some (.builtin "object.__setattr__")))(no:findIn K (.ref C) f=some none)(kc:keepIn K (.ref C)=true)(a:findIn K (.ref C) "__init__"=some (some (.ref g)))(b:isFn K (.ref g)=true)
 (l:K.lookup g=some ⟨oc,od,.func (PySem.W.fnOf "__init__" qual (fZ st) (cF st) (aS st) .none kV doc pm an cdv ct),osl⟩)(c:codeIn K cdv qual=true)(k:keepIn K (.ref g)=true):bw5 K mg x C f qual st:=
 ⟨⟨eg,sa,no⟩,mg_of X G gl,kc,g,_,a,b,wV l c k⟩
theorem bt9{K:PySem.W.Frag}{h:Heap}{mg:Str->Option Value}(X:K.In h)(G:h.Ns mainGlobals mg){x:Str}{C:Addr}(gl:nsIn K mainGlobals x=some (some (.ref C)))(b:mroIn K C (.type "BaseException")=some true)(t:typeIn K (.ref C)=some (.type "type")):ai8 K mg x C:=⟨mg_of X G gl,b,t⟩
def mE(K:PySem.W.Frag)(C:Addr)(D:V)(b:Bool):Prop:=kitOne K (.ref C) (wN D)=some b
def lC(K:PySem.W.Frag)(D:V):Prop:=kitOne K (.type "NoneType") (wN D)=some false
def ba7(K:PySem.W.Frag)(C D:Addr):Prop:=mroIn K C (.ref D)=some true
theorem bm8{K:PySem.W.Frag}{C:Addr}{D:V}{b:Bool}(h:kitOne K (.ref C) (wN D)=some b):mE K C D b:=h
theorem bb8{K:PySem.W.Frag}{D:V}(h:kitOne K (.type "NoneType") (wN D)=some false):lC K D:=h
theorem bk3{K:PySem.W.Frag}{C D:Addr}(h:mroIn K C (.ref D)=some true):ba7 K C D:=h
theorem fQ{K:PySem.W.Frag}{D:V}:∀q∈([]:List (Addr×Bool)),oB K q.1 D q.2:=λ_ h=>nomatch h
theorem eN{K:PySem.W.Frag}{C:Addr}{D:V}{b:Bool}{tab:List (Addr×Bool)}(g:ErrG K C)(k:mE K C D b)(h:∀q∈tab,oB K q.1 D q.2):∀q∈(C,b)::tab,oB K q.1 D q.2:=λq hq=>by
 rcases List.mem_cons.mp hq with rfl|hq
 . exact⟨g,k⟩
 . exact h q hq
theorem iN{K:PySem.W.Frag}{C:Addr}(k:lC K (.ref C)):pL K (.ref C):=⟨rfl,k⟩
theorem cv3{K:PySem.W.Frag}{n:String}(k:lC K (.ty n)):pL K (.ty n):=⟨rfl,k⟩
theorem ab3:bootBuiltins "ValueError"=some (.type "ValueError"):=by decide+kernel
end L2
namespace TL
open PySem PySem.Spec PyProof.Rows L2
section
variable {K : PySem.W.Frag} {cn : Str → Option Addr}
theorem ar7{P:Addr->Prop}:∀(c:Str)(C:Addr),([]:List Str).contains c=true->cn c=some C->P C:=λ_ _ h=>nomatch h
theorem au3{P:Addr->Prop}{c₀:Str}{C₀:Addr}{cs:List Str}(hc:cn c₀=some C₀)(p:P C₀)(r:∀(c:Str)(C:Addr),cs.contains c=true->cn c=some C->P C):∀(c:Str)(C:Addr),(c₀::cs).contains c=true->cn c=some C->P C:=λc C h e=>by
 rw[List.contains_cons,Bool.or_eq_true]at h
 rcases h with h|h
 . have:c=c₀:=by simpa using h
   subst this
   rw[hc]at e
   cases e
   exact p
 . exact r c C h e
theorem be1{P:Program}{w:World}{mg:Str->Option Value}{base:Heap}{x:Str}{st:Stmt}{N ps:List Str}{k:Nat}{d:Fr->bP}(F:dR K mg x st)(S:bL N ps (aS st))
 (hb:∀(kV doc pm:Value)(an:Option Addr)(cdv ct:Value)(us:List Value),us.length=ps.length->bindArgs (PySem.W.fnOf x x (fZ st) (cF st) (aS st) .none kV doc pm an cdv ct) ⟨us,[]⟩=pure (ps.zip us))
 (hbody:∀(f:Addr)(cdv:Value)(A:Around)(outer:List Env)(s:Shared)(H:Hp)(E:XK),Room k (A.deeper (envOfC x (aS st) s.heap.objs.size f cdv))->
  ∃t,PSs (kB (pY P w) P w K mg base N x (aS st) f cdv A outer s H E) (cF st) t/\RS [] K cn E t d){n:Nat}{G:List T->Res T}(hn:ps.length=n)(hG:∀ts,G ts=cL (d (dY N.length ts))):ad5 P w K mg base (k+1) x ps (cJ K cn n G):=by
 obtain⟨f,fd,F,hm⟩:=F.ex
 exact⟨f,fd,bo3 F S (λcdv A outer s H E hr=>hbody f cdv A outer s H E hr) hn hG,hm,F.kp,F.binds hb⟩
theorem an9{P:Program}{w:World}{mg:Str->Option Value}{base:Heap}{x c:Str}{C:Addr}{qual:Str}{st:Stmt}{N ps:List Str}{k:Nat}{d:Fr->bP}(F:ah8 K mg x C qual st)(S:bL N ps (aS st))
 (hb:∀(kV doc pm:Value)(an:Option Addr)(cdv ct:Value)(us:List Value),us.length=ps.length->bindArgs (PySem.W.fnOf "__init__" qual (fZ st) (cF st) (aS st) .none kV doc pm an cdv ct) ⟨us,[]⟩=pure (ps.zip us))
 (hbody:∀(f y:Addr)(cdv:Value)(A:Around)(outer:List Env)(s:Shared)(H:Hp)(E:XK),Room k (A.deeper (envOfC qual (aS st) s.heap.objs.size f cdv))->
  ∃t,PSs (kB (pY P w) P w K mg base N qual (aS st) f cdv A outer s H E) (cF st) t/\RS [(0,.ref y)] K cn E t d){n:Nat}{G:List T->Res T}(hn:ps.length=n+1)(hG:∀ts,G ts=oS (d (dY N.length (.ins true c [] []::ts)))):af4 P w K mg base (k+1) x C (spI K cn c n G):=by
 obtain⟨f,fd,M,F'⟩:=F.ex
 exact⟨f,fd,ps,M,bp4 F' S (λy cdv A outer s H E hr=>hbody f y cdv A outer s H E hr) hn hG,F.mg,F'.binds hb⟩
end
end TL
namespace TL
open PySem PySem.Spec PyProof.Rows L2
section
variable {Jn : fM} {K : PySem.W.Frag} {cn : Str → Option Addr} {E : XK}
def ao1(K:PySem.W.Frag)(cn:Str->Option Addr)(G:T->T->Res (T×T)):Sp:=λvs H Q _=>∃v0 v1,vs=[v0,v1]/\∃t0 t1 Z B,(∀a,Z a->H a≠none)/\Rep K cn H Z t0 v0 B/\Rep K cn H Z t1 v1 []/\B.Nodup/\(∀a∈B,¬Z a)/\
 ∃t u,G t0 t1=.ok (t,u)/\∀v H' Z' C,Ev [B] H Z [C] H' Z'->Rep K cn H' Z' t v []->Rep K cn H' Z' u v0 C->C.Nodup->(∀a∈C,¬Z' a)->(∀a,Z' a->H' a≠none)->Q v H'
def at0:bP->Res (T×T)
 |.nx ρ=>match ρ[0]? with
  |some (some a)=>.ok (.non,a)
  |_=>.no
 |.rm ρ t=>match ρ[0]? with
  |some (some a)=>.ok (t,a)
  |_=>.no
 |_=>.no
theorem ak8 {P : Program} {w : World} {mg : Str → Option Value} {base : Heap} {x : Str} {st : Stmt} {N ps : List Str} {k : Nat} {d : Fr → bP} (F : dR K mg x st) (S : bL N ps (aS st))
    (hb : ∀ (kV doc pm : Value) (an : Option Addr) (cdv ct : Value) (us : List Value), us.length = ps.length → bindArgs (PySem.W.fnOf x x (fZ st) (cF st) (aS st) .none kV doc pm an cdv ct) ⟨us, []⟩ = pure (ps.zip us))
    (hbody : ∀ (v0 : V) (f : Addr) (cdv : Value) (A : Around) (outer : List Env) (s : Shared) (H : Hp) (E : XK), Room k (A.deeper (envOfC x (aS st) s.heap.objs.size f cdv)) →
      ∃ t, PSs (kB mZ P w K mg base N x (aS st) f cdv A outer s H E).nox (cF st) t ∧ RS [(0, v0)] K cn E t d) {G : T → T → Res (T × T)} (hn : ps.length = 2) (hG : ∀ t0 t1, G t0 t1 = at0 (d (dY N.length [t0, t1]))) : dL P w K mg base (k + 1) x ps (ao1 K cn G) := by
  obtain ⟨f, fd, F, hm⟩ := F.ex
  refine ⟨f, fd, ?_, hm, F.kp, F.binds hb⟩
  refine F.ok S (fun vs H Q E h => by obtain ⟨_, _, rfl, _⟩ := h; rw [hn]; rfl) fun cdv A outer s H vs Q E hr h => ?_
  obtain ⟨v0, v1, rfl, t0, t1, Z, B, zi, r0, r1, nd, nz, t, u, eg, w⟩ := h
  obtain ⟨tt, hp, ht⟩ := hbody v0 f cdv A outer s H E hr
  refine ⟨tt, hp, ?_⟩
  let m := N.length - 2
  have sl : Slots K cn H Z (dY N.length [t0, t1]) (L2.fV N [v0, v1]) (B :: [] :: List.replicate m []) := by
    unfold dY L2.fV
    exact ⟨some v0, _, B, _, rfl, rfl, ⟨_, rfl, r0⟩, some v1, _, [], _, rfl, rfl, ⟨_, rfl, r1⟩, wF m⟩
  have fl : (B :: [] :: List.replicate m []).flatten = B := by rw [List.flatten_cons, List.flatten_cons, kI]; simp
  have fl1 : ∀ C : List Addr, [C].flatten = C := fun C => by simp
  have F0 : Frm [(0, v0)] K cn H Z (dY N.length [t0, t1]) (L2.fV N [v0, v1]) (B :: [] :: List.replicate m []) :=
    ⟨sl, by rw [fl]; exact nd, by rw [fl]; exact nz, zi, fun p hp => by rw [List.mem_singleton] at hp; subst hp; rfl⟩
  refine ht _ H Z _ _ F0 _ ?_
  rw [hG] at eg
  have done : ∀ {ρ : Fr} {σ' : St} {As' : List (List Addr)} {H' : Hp} {Z' : Addr → Prop} {v : V}, Frm [(0, v0)] K cn H' Z' ρ σ' As' → Ev (B :: [] :: List.replicate m []) H Z As' H' Z' → Rep K cn H' Z' t v [] → ρ[0]? = some (some u) → Q v H' := by
    intro ρ σ' As' H' Z' v F' ev rv e1
    obtain ⟨x1, s1, q1⟩ := F'.sl.get e1
    have p1 := F'.pn (0, v0) (List.mem_singleton.mpr rfl)
    simp only at p1
    rw [s1] at p1
    cases p1
    refine w v H' Z' _ ⟨fun a o h q => ev.keep a o h (by rw [fl]; rw [fl1] at q; exact q), fun a ha => ?_, ev.zz, fun a h => ?_, ev.dom⟩ rv q1 (kS F'.nd 0) (fun b hb => F'.nz b (aV hb)) F'.zi
    · rw [fl1] at ha
      have q := ev.own a (aV ha)
      rw [fl] at q
      rw [fl1]
      exact q
    · have q := ev.zn a h
      rw [fl] at q
      rw [fl1]
      exact q
  cases ed : d (dY N.length [t0, t1]) with
  | nx ρ =>
    rw [ed] at eg
    intro σ' As' H' Z' F' ev
    simp only [at0] at eg
    split at eg
    · next a e1 => cases eg; exact done F' ev (by simp [Rep]) e1
    · cases eg
  | rm ρ t' =>
    rw [ed] at eg
    intro v σ' As' H' Z' F' ev rv
    simp only [at0] at eg
    split at eg
    · next a e1 => cases eg; exact done F' ev rv e1
    · cases eg
  | rt t => rw [ed] at eg; cases eg
  | ex x => rw [ed] at eg; cases eg
  | bk ρ => rw [ed] at eg; cases eg
  | ct ρ => rw [ed] at eg; cases eg
  | no => rw [ed] at eg; cases eg
def vC(G:T->T->Res (T×T))(j:Nat)(d:Fr->Res T)(ρ:Fr):Option (T×T):=match ρ[j]?,d ρ with
 |some (some t0),.ok t1=>match G t0 t1 with
  |.ok (t,u)=>if(dG t1&&dG t)=true then some (t,u)else none
  |_=>none
 |_,_=>none
theorem cu0{j:Nat}{G:T->T->Res (T×T)}{te:TE}{d:Fr->Res T}(hJ:kW Jn j=true)(he:RB Jn K cn E te d){As:List (List Addr)}{H:Hp}{Z:Addr->Prop}{ρ:Fr}{σ:St}{t u:T}{Q:VK}(F:Frm Jn K cn H Z ρ σ As)(ec:vC G j d ρ=some (t,u))
 (h:∀v H' Z' C,Frm Jn K cn H' Z' (ρ.set j (some u)) σ (As.set j C)->Ev As H Z (As.set j C) H' Z'->Rep K cn H' Z' t v []->Q v H'):au5 (ao1 K cn G) (jZ (oF j) (jZ te pN)) σ H Q:=by
 unfold vC at ec
 split at ec
 . next t0 t1 e0 e1=>
   split at ec
   . next t' u' eG=>
     split at ec
     . next hc=>
       cases ec
       simp only[Bool.and_eq_true]at hc
       obtain⟨v0,s0,r0⟩:=F.sl.get e0
       refine⟨v0,s0,he As H Z ρ σ F _ ?_⟩
       rw[e1]
       intro v1 H1 Z1 B1 p
       have hB:=Rep.bare t1 hc.1 p.rep
       subst hB
       have F1:=F.mo p.mo
       have inF:∀{a:Addr},a∈As.getD j []->a∈As.flatten:=λh=>aV h
       have dA:∀a∈As.flatten,H1 a≠none:=λa ha=>by obtain⟨o,q,_⟩:=F1.sl.dom a ha;rw[q];exact λz=>nomatch z
       refine⟨v0,v1,rfl,t0,t1,Z1,As.getD j [],p.zi,r0.same p.same p.zz,p.rep,kS F.nd j,λa ha=>F1.nz a (inF ha),t,u,eG,?_⟩
       intro v H' Z' C ev rt ru ndC cz zi
       have fl1:∀C:List Addr,[C].flatten=C:=λC=>by simp
       have Fk:=F1.kill j
       have out:∀a∈(As.set j []).flatten,a∈As.flatten/\a∉As.getD j []:=λa ha=>
        ⟨(dO ha).elim (λq=>nomatch q) id,λh=>pH (mv:=[j]) F.nd (List.mem_singleton.mpr rfl) h ha⟩
       have kp:∀a o,H1 a=some o->(a∈(As.set j []).flatten\/Z1 a\/nO o=true)->H' a=some o:=λa o q c=>ev.keep a o q λhx=>by
        rw[fl1]at hx
        rcases c with c|c|c
        . exact(out a c).2 hx
        . exact F1.nz a (inF hx) c
        . obtain⟨o',q',c'⟩:=F1.sl.dom a (inF hx)
          rw[q]at q'
          cases q'
          rw[c]at c'
          cases c'
       have zz:∀a,Z' a->Z1 a\/a∈As.getD j []\/H1 a=none:=λa z=>by have:=ev.zn a z;rw[fl1]at this;exact this
       have F2:Frm Jn K cn H' Z' (ρ.set j none) σ (As.set j []):=⟨Fk.sl.keep ev.zz kp,Fk.nd,λa ha z=>by
        rcases zz a z with q|q|q
        . exact Fk.nz a ha q
        . exact(out a ha).2 q
        . exact dA a (out a ha).1 q,zi,Fk.pn⟩
       have own:∀a∈C,a∈As.getD j []\/H1 a=none:=λa ha=>by have:=ev.own a (by rw[fl1];exact ha);rw[fl1]at this;exact this
       have F3:=F2.set ru ndC cz j (λb hb hm=>by
        rcases own b hb with q|q
        . exact absurd q (out b hm).2
        . exact absurd q (dA b (out b hm).1)) hJ
       rw[at2 s0,List.set_set,List.set_set]at F3
       refine h v H' Z' C F3 ⟨λa o q n=>?_,λa ha=>?_,λa z=>ev.zz a (p.zz a z),λa z=>?_,λa q=>p.same.free (ev.dom a q)⟩ rt
       . exact ev.keep a o (p.same a o q) (by rw[fl1];exact λhx=>n (inF hx))
       . rcases dO ha with q|q
         . rcases own a q with q|q
           . exact .inl (inF q)
           . exact .inr (p.same.free q)
         . exact .inl q
       . rcases zz a z with q|q|q
         . exact(p.zn a q).imp_right .inr
         . exact .inr (.inl (inF q))
         . exact .inr (.inr (p.same.free q))
     . cases ec
   . cases ec
 . cases ec
def an3(i j:Nat)(G:T->T->Res (T×T))(d:Fr->Res T):Fr->bP:=λρ=>match vC G j d ρ with
 |some (t,u)=>.nx ((ρ.set j (some u)).set i (some (.lst true [t])))
 |none=>.no
theorem ca0{i j:Nat}{G:T->T->Res (T×T)}{te:TE}{d:Fr->Res T}(hJ:kW Jn j=true)(hI:kW Jn i=true)(he:RB Jn K cn E te d):RS Jn K cn E (az3 (by4 (jZ (au5 (ao1 K cn G) (jZ (oF j) (jZ te pN))) pN)) (yE i)) (an3 i j G d):=λAs H Z ρ σ F D w=>by
 unfold an3 at w
 cases ec:vC G j d ρ with
 |none=>rw[ec]at w;exact w.elim
 |some q=>
  obtain⟨t,u⟩:=q
  rw[ec]at w
  refine cu0 hJ he F ec λv H' Z' C F' ev rt=>⟨by show 1<=sizeLine;decide,λp hp=>?_⟩
  have s:=zE hp (.lst [v])
  have m:Mo H' Z' (upd H' p (.lst [v])) Z':=⟨s,λ_ h=>h,λ_ h=>.inl h,λa z q=>F'.zi a z (s.free q)⟩
  have np:p∉(As.set j C).flatten:=λh=>by obtain⟨o,q,_⟩:=F'.sl.dom p h;rw[hp]at q;cases q
  have re:Rep K cn (upd H' p (.lst [v])) Z' (.lst true [t]) (.ref p) [p]:=by
   simp only[Rep]
   exact⟨p,[v],[],rfl,rfl,bZ,Reps.one (rt.same s λ_ h=>h)⟩
  have F2:=(F'.mo m).set re (by simp) (λb hb z=>by rw[List.mem_singleton]at hb;subst hb;exact F'.zi b z hp) i (λb hb hm=>by rw[List.mem_singleton]at hb;subst hb;exact absurd hm np) hI
  refine w _ _ _ Z' F2 ⟨λa o q n=>s a o (ev.keep a o q n),λa ha=>?_,ev.zz,ev.zn,λa q=>ev.dom a (s.free q)⟩
  rcases dO ha with q|q
  . rw[List.mem_singleton]at q
    subst q
    exact .inr (ev.dom a hp)
  . exact ev.own a q
def am3(i j:Nat)(G:T->T->Res (T×T))(d:Fr->Res T):Fr->bP:=λρ=>match ρ[i]? with
 |some (some (.lst true us))=>if us.length<sizeLine then(match vC G j d ρ with
  |some (t,u)=>.nx ((ρ.set j (some u)).set i (some (.lst true (us++[t]))))
  |none=>.no)else .no
 |_=>.no
theorem bv9{i j:Nat}{G:T->T->Res (T×T)}{te:TE}{d:Fr->Res T}(hij:j≠i)(hJ:kW Jn j=true)(he:RB Jn K cn E te d):RS Jn K cn E (ao0 (tBM K "list" yA (oF i) (jZ (au5 (ao1 K cn G) (jZ (oF j) (jZ te pN))) pN))) (am3 i j G d):=λAs H Z ρ σ F D w=>by
 unfold am3 at w
 split at w
 . next us ei=>
   split at w
   . next hl=>
     cases ec:vC G j d ρ with
     |none=>rw[ec]at w;exact w.elim
     |some q=>
      obtain⟨t,u⟩:=q
      rw[ec]at w
      obtain⟨vi,si,ri⟩:=F.sl.get ei
      obtain⟨a0,ws0,B0,rfl,_,ea0,_⟩:=(by simpa only[Rep]using ri:∃a vs B,vi=.ref a/\As.getD i []=a::B/\H a=some (.lst vs)/\Reps K cn H Z us vs B)
      refine⟨.ref a0,si,.inl ⟨rfl,ws0,SqL.of ea0⟩,cu0 hJ he F ec λv H' Z' C F' ev rt=>?_⟩
      have ei':(ρ.set j (some u))[i]?=some (some (.lst true us)):=by rw[List.getElem?_set_ne hij];exact ei
      obtain⟨vi',si',ri'⟩:=F'.sl.get ei'
      rw[si]at si'
      cases si'
      obtain⟨a1,ws,B,e1,e2,ea,rs⟩:=(by simpa only[Rep]using ri':∃a vs B,V.ref a0=.ref a/\(As.set j C).getD i []=a::B/\H' a=some (.lst vs)/\Reps K cn H' Z' us vs B)
      cases e1
      have ndi:=kS F'.nd i
      refine⟨a0,ws,v,rfl,rfl,ea,by rw[Reps.length us rs];exact hl,?_⟩
      refine wG (As:=As) (H:=H) (Z:=Z) (E:=E) F' ei' si (Plug.root ri') rfl e2 ea (us':=us++[t]) (ws':=ws++[v]) (C:=B++[]) (Reps.append us rs (Reps.one rt)) ?_ ?_ ?_ ev ?_ ?_
      . rw[e2]at ndi
        rw[List.append_nil]
        exact(List.nodup_cons.mp ndi).2
      . intro x hx
        rw[List.append_nil]at hx
        exact F'.nz x (aV (i:=i) (by rw[e2];exact List.mem_cons_of_mem _ hx))
      . intro x hx _
        rw[List.append_nil]at hx
        exact hx
      . intro x hx
        rw[List.append_nil]at hx
        exact ev.own x (aV (i:=i) (by rw[e2];exact List.mem_cons_of_mem _ hx))
      . unfold uL
        rw[ei']
        exact w
   . exact w.elim
 . exact w.elim
def oE(c:T):List T->Option (List T)
 |[]=>some []
 |.tup [s,.lst true us]::ts=>if us.length<sizeLine then(oE c ts).map λr=>.tup [s,.lst true (us++[c])]::r else none
 |_=>none
def tX(j i1 i2:Nat)(c:T):Fr->bP:=λρ=>match ρ[j]? with
 |some (some (.lst true ts))=>if(decide (i1<ρ.length)&&decide (i2<ρ.length))=true then(match oE c ts with
  |some ts'=>.nx ((kills [i1,i2] ρ).set j (some (.lst true ts')))
  |none=>.no)else .no
 |_=>.no
theorem Slots.anyS{H:Hp}{Z:Addr->Prop}(x:Option V):∀{ρ:Fr}{σ:St}{As:List (List Addr)}{i:Nat},Slots K cn H Z ρ σ As->ρ[i]?=some none->Slots K cn H Z ρ (σ.set i x) As
 |[],_,_,_,h,e=>by simp at e
 |o::ρ,_,_,0,h,e=>by
  obtain⟨w,σ',A,As',rfl,rfl,h1,h2⟩:=h
  simp at e
  subst e
  exact⟨x,σ',A,As',rfl,rfl,h1,h2⟩
 |o::ρ,_,_,i+1,h,e=>by
  obtain⟨w,σ',A,As',rfl,rfl,h1,h2⟩:=h
  exact⟨w,_,A,As',rfl,rfl,h1,Slots.anyS x h2 (by simpa using e)⟩
theorem Slots.lenS{H:Hp}{Z:Addr->Prop}:∀{ρ:Fr}{σ:St}{As:List (List Addr)},Slots K cn H Z ρ σ As->ρ.length=σ.length
 |[],_,_,h=>by obtain⟨rfl,rfl⟩:=h;rfl
 |o::ρ,_,_,h=>by
  obtain⟨w,σ',A,As',rfl,rfl,h1,h2⟩:=h
  simp[Slots.lenS h2]
theorem Frm.anyS{H:Hp}{Z:Addr->Prop}{ρ:Fr}{σ:St}{As:List (List Addr)}{i:Nat}(x:Option V)(F:Frm Jn K cn H Z ρ σ As)(e:ρ[i]?=some none)(hJ:kW Jn i=true):Frm Jn K cn H Z ρ (σ.set i x) As:=⟨F.sl.anyS x e,F.nd,F.nz,F.zi,vV hJ _ F.pn⟩
theorem bs0{j i1 i2:Nat}{c:Int}(h1:i1≠j)(h2:i2≠j)(h12:i1≠i2)(hJ1:kW Jn i1=true)(hJ2:kW Jn i2=true):
 RS Jn K cn E (bg5 (iV K (oF j)) (au9 K 2 (ah3 (yE i1) (ah3 (yE i2) bb6))) (ao0 (tBM K "list" yA (oF i2) (jZ (tC (.int c)) pN)))) (tX j i1 i2 (.int c)):=λAs H Z ρ σ F D w=>by
 unfold tX at w
 split at w
 . next ts ej=>
   split at w
   rotate_left
   . exact w.elim
   rename_i hlen
   rw[Bool.and_eq_true,decide_eq_true_eq,decide_eq_true_eq]at hlen
   cases ea:oE (.int c) ts with
   |none=>rw[ea]at w;exact w.elim
   |some ts'=>
    rw[ea]at w
    obtain⟨vj,sj,rj⟩:=F.sl.get ej
    obtain⟨a,vs0,B0,rfl,_,ea0,rs0⟩:=(by simpa only[Rep]using rj:∃a vs B,vj=.ref a/\As.getD j []=a::B/\H a=some (.lst vs)/\Reps K cn H Z ts vs B)
    refine⟨.ref a,sj,.inl ⟨a,rfl,.inl ⟨⟨vs0,SqL.of ea0⟩,?_⟩⟩⟩
    have lj:j<ρ.length:=(List.getElem?_eq_some_iff.mp ej).1
    have k1:∀us:List T,((kills [i1,i2] ρ).set j (some (.lst true us)))[j]?=some (some (.lst true us)):=λus=>by
     rw[List.getElem?_set_self (by simpa[kills]using lj)]
    have kk:(kills [i1,i2] ρ)[j]?=some (some (.lst true ts)):=by
     simp only[kills]
     rw[List.getElem?_set_ne h2,List.getElem?_set_ne h1]
     exact ej
    let W:Nat->Nat->St->Hp->Prop:=λi m σ' H'=>m=ts.length-i/\i<=ts.length/\∃pre As' Z',pre.length=i/\(oE (.int c) ts=(oE (.int c) (ts.drop i)).map (pre++ ·))/\Frm Jn K cn H' Z' ((kills [i1,i2] ρ).set j (some (.lst true (pre++ts.drop i)))) σ' As'/\Ev As H Z As' H' Z'/\σ'[j]?=some (some (.ref a))
    refine⟨W,⟨ts.length,by simp,Nat.zero_le _,[],eJ [i1,i2] As,Z,rfl,by simp,?_,⟨λ_ _ q _=>q,λx hx=>.inl (dZ hx),λ_ h=>h,λ_ h=>.inl h,λ_ h=>h⟩,sj⟩,?_⟩
    . rw[List.nil_append,List.drop_zero,at2 kk]
      exact F.kills [i1,i2]
    rintro i m σ1 H1 ⟨rfl,hle,pre,As1,Z1,hpre,hap,F1,ev1,s1⟩
    obtain⟨v1,sj1,rj1⟩:=F1.sl.get (k1 _)
    rw[s1]at sj1
    cases sj1
    obtain⟨a1,vs,B,e1,eB,ea1,rs⟩:=(by simpa only[Rep]using rj1:∃a1 vs B,V.ref a=.ref a1/\As1.getD j []=a1::B/\H1 a1=some (.lst vs)/\Reps K cn H1 Z1 (pre++ts.drop i) vs B)
    cases e1
    have lvs:vs.length=ts.length:=by rw[Reps.length _ rs,List.length_append,List.length_drop,hpre];omega
    by_cases hlt:i<ts.length
    . have ed:ts.drop i=ts[i]::ts.drop (i+1):=List.drop_eq_getElem_cons hlt
      have hne:oE (.int c) (ts.drop i)≠none:=λz=>by rw[z]at hap;rw[ea]at hap;cases hap
      rw[ed]at hne
      unfold oE at hne
      split at hne
      . next q=>cases q
      . next s us tl q=>
        obtain⟨et,etl⟩:=List.cons.inj q
        have hz:us.length<sizeLine:=by
         by_cases z:us.length<sizeLine
         . exact z
         . rw[if_neg z]at hne;exact absurd rfl hne
        rw[et]at ed
        have e_i:(pre++ts.drop i)[i]?=some (.tup [s,.lst true us]):=by
         rw[ed,List.getElem?_append_right (by omega),hpre]
         simp
        have ndB:(a::B).Nodup:=by have:=kS F1.nd j;rw[eB]at this;exact this
        have pl0:Plug K cn H1 Z1 (.lst true (pre++ts.drop i)) (.ref a) (a::B) [] (.lst true (pre++ts.drop i)) (.ref a) (a::B):=Plug.root (by rw[eB]at rj1;exact rj1)
        obtain⟨wv,D1,ew,pl1⟩:=pl0.step ndB rfl rs (List.sublist_cons_self _ _) e_i (λt'=>by simp[iQ,e_i,xZ]) (λH' Z' t' C' z kk rr ndC hC=>by
         refine⟨a::C',?_,List.nodup_cons.mpr ⟨λha=>(List.nodup_cons.mp ndB).1 (hC a ha List.mem_cons_self),ndC⟩,λx hx=>?_⟩
         . simp only[xZ,Rep]
           exact⟨a,vs,C',rfl,rfl,kk a _ ea1 (.inl ⟨List.mem_cons_self,(List.nodup_cons.mp ndB).1⟩),rr⟩
         . rcases List.mem_cons.mp hx with rfl|hx
           . exact .inl ⟨List.mem_cons_self,(List.nodup_cons.mp ndB).1⟩
           . exact .inr hx)
        obtain⟨q',ws2,rfl,sq,rs2⟩:=(by have:=pl1.rep;simpa only[Rep]using this:∃a vs,wv=.ref a/\SqT K H1 a vs/\Reps K cn H1 Z1 [s,.lst true us] vs D1)
        obtain⟨w2,D2,ew2,pl2⟩:=pl1.step ndB (by simp[gT,e_i]) rs2 (List.Sublist.refl _) (k:=1) (u2:=.lst true us) rfl (λt'=>by simp[iQ,xZ]) (λH' Z' t' C' z kk rr ndC hC=>by
         refine⟨C',?_,ndC,λx hx=>.inr hx⟩
         simp only[xZ,Rep]
         exact⟨q',ws2,rfl,SqT.keep sq (λb o q i=>kk b o q (.inr (.inr i))),rr⟩)
        obtain⟨b,dv,C,rfl,rfl,hb,rsu⟩:=(by have:=pl2.rep;simpa only[Rep]using this:∃a vs B,w2=.ref a/\D2=a::B/\H1 a=some (.lst vs)/\Reps K cn H1 Z1 us vs B)
        simp only[Reps]at rs2
        obtain⟨x1,r1,B1,C1,rfl,_,rA,x2,r2,B2,C2,rfl,_,rB,rfl,_⟩:=rs2
        have ex2:x2=.ref b:=by simpa using ew2
        subst ex2
        have lρ:ρ.length=σ1.length:=by
         have:=F1.sl.lenS
         simpa[kills]using this
        have n1:((kills [i1,i2] ρ).set j (some (.lst true (pre++ts.drop i))))[i1]?=some none:=by
         simp only[kills]
         rw[List.getElem?_set_ne (Ne.symm h1),List.getElem?_set_ne (Ne.symm h12),List.getElem?_set_self hlen.1]
        have n2:((kills [i1,i2] ρ).set j (some (.lst true (pre++ts.drop i))))[i2]?=some none:=by
         simp only[kills]
         rw[List.getElem?_set_ne (Ne.symm h2),List.getElem?_set_self (by simpa using hlen.2)]
        have F2:=(F1.anyS (some x1) n1 hJ1).anyS (some (.ref b)) n2 hJ2
        have s2:((σ1.set i1 (some x1)).set i2 (some (V.ref b)))[j]?=some (some (.ref a)):=by rw[List.getElem?_set_ne h2,List.getElem?_set_ne h1];exact s1
        refine .inr ⟨⟨vs,_,SqL.of ea1,ew⟩,λσ' H'=>W (i+1) (ts.length-(i+1)) σ' H',λσ' H' hN=>⟨_,by omega,hN⟩,λx H2 ⟨eH,hx⟩=>?_⟩
        subst eH
        have ex:x=.ref q':=by have:=hx vs (SqL.of ea1);rw[ew]at this;exact(Option.some.inj this).symm
        subst ex
        refine⟨q',[x1,.ref b],rfl,sq,rfl,x1,[.ref b],rfl,.ref b,[],rfl,rfl,.ref b,?_,.inl ⟨rfl,dv,SqL.of hb⟩,b,dv,.int c,rfl,rfl,hb,by rw[Reps.length us rsu];exact hz,?_⟩
        . rw[List.getElem?_set_self (by rw[List.length_set,<-lρ];exact hlen.2)]
        have cA:∀x∈C,x∈As1.getD j []:=λx hx=>by rw[eB];exact pl2.sub.mem (List.mem_cons_of_mem _ hx)
        have ndD:(b::C).Nodup:=ndB.sublist pl2.sub
        refine wG (As:=As) (H:=H) (Z:=Z) (E:=E) (D:={nx:=λσ' H'=>σ'=(σ1.set i1 (some x1)).set i2 (some (V.ref b))->W (i+1) (ts.length-(i+1)) σ' H',rt:=λ_ _=>False}) F2 (k1 _) s2 (p:=[i,1]) (by rw[eB];exact pl2) rfl rfl hb (us':=us++[.int c]) (ws':=dv++[.int c]) (C:=C++[]) (Reps.append us rsu (Reps.one (jF c))) ?_ ?_ ?_ ev1 ?_ ?_ rfl
        . rw[List.append_nil];exact(List.nodup_cons.mp ndD).2
        . intro x hx
          rw[List.append_nil]at hx
          exact F1.nz x (aV (cA x hx))
        . intro x hx _
          rw[List.append_nil]at hx
          exact hx
        . intro x hx
          rw[List.append_nil]at hx
          exact ev1.own x (aV (cA x hx))
        . unfold uL
          rw[k1]
          have es:iQ (.lst true (us++[.int c])) [i,1] (.lst true (pre++ts.drop i))=some (.lst true (pre++[.tup [s,.lst true (us++[.int c])]]++ts.drop (i+1))):=by
           simp only[iQ,e_i]
           simp only[List.getElem?_cons_succ,List.getElem?_cons_zero,Option.map_some,List.set_cons_succ,List.set_cons_zero,Option.some.injEq,T.lst.injEq,true_and]
           rw[ed,List.set_append_right _ _ (by omega),hpre]
           simp
          simp only[es]
          intro σ' As' H' Z' F' ev' hσ
          subst hσ
          rw[List.set_set]at F'
          refine⟨rfl,hlt,_,As',Z',by simp[hpre],?_,F',ev',s2⟩
          rw[hap,ed,show oE (.int c) (.tup [s,.lst true us]::ts.drop (i+1))=(oE (.int c) (ts.drop (i+1))).map λr=>T.tup [s,.lst true (us++[.int c])]::r from by rw[oE,if_pos hz]]
          rw[show∀(o:Option (List T)),(o.map λr=>T.tup [s,.lst true (us++[.int c])]::r).map (pre++ ·)=o.map ((pre++[T.tup [s,.lst true (us++[.int c])]])++ ·) from λo=>by cases o<;>simp]
      . exact absurd rfl hne
    . have ei:i=ts.length:=by omega
      subst ei
      rw[List.drop_length]at hap F1
      refine .inl ⟨⟨vs,SqL.of ea1,by omega⟩,?_⟩
      rw[ea]at hap
      simp only[oE,Option.map_some,Option.some.injEq]at hap
      rw[hap]at w
      exact w _ _ _ _ F1 ev1
 . exact w.elim
end
end TL

set_option maxHeartbeats 4000000
open TL
local macro_rules | `(tactic| walk_at "gt") => `(tactic| first | assumption | exact ce8 (by decide) (by decide) | exact cn8 (by decide) (by decide) | exact cg6 (by decide) (by decide) | exact co7 (by decide) (by decide) (by decide) | decide | omega | (refine And.intro ?_ ?_; omega; omega))
local macro_rules | `(tactic| walk_at "ev") => `(tactic| simp (disch := walk_at "gt") only [yW,bh4,bz4,aX,bY,cS,gJ,cw4,oT,dM,ca4,ch7,aF,dC,dJ,aJ,eX,pI,pA,cd9,ar3,dIf,dN,mW,lD,cb8,yK,cG,oC,aE,aO,dX,cP,dBM,nS,iB,fG,kX,mF,fL,cY,pW,ci8,af0,kills,aQ,gZ,bO,iC,cL,dY,xP,gQ,frz,frzs,dG,bA,gP,fR,cr3,at5,mM,sL,tE,eS,nC,yN,qZ,yZ,gT,iQ,uL,GoW,bn7,cu3,ch1,ch2,ce1,cd1,cx3,ch4,cc1,br9,cs1,be2,ci5,cg5,cm7,cr5,cq5,ci6,co5,cj5,cu5,cb6,cp6,bp3,bb5,bo5,bv5,bl4,ck7,ct5,cq6,cg7,cd7,cr6,cc5,ch6,cc7,cu6,cy8,cu8,cz7,cb7,cp7,cl6,cf7,bj2,by6,bi2,bp7,bw0,bx7,bt7,cf6,cj2,ac9,cj1,cf2,cw6,ae9,bk4,cz2,cd4,bn0,bn8,cn5,cj7,cm5,cy5,ce6,ck6,ce5,cz5,co6,ch5,cu4,ct4,cz4,cx6,cj6,bu1,cs5,cy6,bw3,
 bh8,bj9,bw8,bj8,by8,bq9,bd8,cf0,cs3,cw3,ce3,ce4,cl4,eX,cx7,cl8,cm8,co8,bf6,ak3,frz1,oS,cc6,ax5,rH,bl9,cj8,av9,zZ,iZ,zY,an3,am3,vC,at0,cc9,cv7,az4,cx8,aj3,wZ,aj4,sK,ct3,bl8,List.length_map,Option.map_some,Option.isSome_some,List.isEmpty_cons,List.isEmpty_nil,Option.isSome_none,List.map_cons,List.map_nil,List.length_cons,List.length_nil,List.replicate_succ,List.replicate_zero,List.cons_append,List.nil_append,List.set_cons_zero,List.set_cons_succ,List.getElem?_cons_zero,List.getElem?_cons_succ,Nat.reduceAdd,Nat.reduceSub,Bool.not_true,Bool.not_false,Bool.and_true,Bool.true_and,Bool.and_false,Bool.false_and,Bool.or_true,Bool.true_or,Bool.or_false,Bool.false_or,if_true,if_false,Bool.false_eq_true,reduceIte,reduceCtorEq,decide_true,decide_false,and_self,and_true,true_and,Bool.and_self, *])
namespace Nk11
open PySem L2 TL
def iX(i:Nat):Stmt:=PySem.Challenge.pw_inkyears_k11_archives_made.main.body.getD i (.Pass ⟨0,0,0,0⟩)
abbrev kM:List (Str×Bool):=[("BadArchive",true)]
abbrev zK:List (Str×Bool):=[("BadArchive",false)]
abbrev zA:List (Str×Bool):=[("BadArchive",false)]
abbrev kZ:List (Str×Bool):=[("BadArchive",false)]
abbrev sZ:List (Str×Bool):=[("BadArchive",false)]
abbrev vD:List (Str×Bool):=[("BadArchive",false)]
abbrev yV:List (Str×Bool):=[("BadArchive",false)]
abbrev wD:List (Str×Bool):=[("BadArchive",false)]
abbrev vY:List (Str×Bool):=[("BadArchive",false)]
abbrev zC:List (Str×Bool):=[("BadArchive",false)]
abbrev xH:List (Str×Bool):=[("BadArchive",false)]
abbrev sU:List (Str×Bool):=[("BadArchive",false)]
abbrev pO:List (Str×Bool):=[("BadArchive",true)]
abbrev nY:List (Str×Bool):=[("BadArchive",true)]
noncomputable def pT:Fr->bP:=
 (aX (bY [] (dC (.int 0)) (aQ 2))
 (aX (bY [] (aJ bR (aJ dE (aJ bR (aJ dE (aF 0) (dC (.int 998244341))) (aJ iD (dC (.int 7919)) (aF 1))) (dC (.int 998244353))) (dC (.int 3))) (aQ 3))
 (aX (oT (mF oV (aE (dC (.int 4)) aO)) (aQ 4) (aX (bY [] (dX qU (aE (aF 3) (aE (dC (.int 4099)) aO))) (gZ (bO (aQ 5) (bO (aQ 6) iC))))
 (aX (bY [] (aJ dE (aJ bR (aJ bR (aJ bR (aJ iD (aF 6) (dC (.int 240007))) (aJ iD (aF 5) (dC (.int 89)))) (aJ iD (dC (.int 1201)) (aF 4))) (dC (.int 11))) (dC (.int 998244353))) (aQ 3))
 (bY [] (aJ bR (aJ iD (aF 2) (dC (.int 998244353))) (aF 3)) (aQ 2)))))
 (cS [] (dJ (aF 2))))))
noncomputable def kL:List T->Res T:=λts=>cL (pT (dY 7 ts))
noncomputable def kF:Fr->bP:=
 (aX (bY [] (cG aO) (aQ 1))
 (aX (oT (mF oV (aE (dX sR (aE (dX kA (aE (aF 0) aO)) (aE (dC (.int 64)) aO))) aO)) (aQ 2) (aX (bY [] (dX ax3 (aE (aJ bW (aF 0) (aF 2)) aO)) (aQ 3))
 (aX (bY [] (dC (.int 1)) (aQ 4))
 (aX (rF (dN (aJ pZ (aF 4) (aF 3))) (bY [] (aJ iD (aF 4) (aJ uB (dC (.int 10)) (dC (.int 6)))) (aQ 4)))
 (qZ 1 [] gQ (aJ bR (aF 3) (aJ iD (aF 4) (cP 2 kL (aE (aF 3) (aE (aF 2) aO))))))))))
 (cS [1] (aF 1))))
noncomputable def fU:List T->Res T:=λts=>cL (kF (dY 5 ts))
noncomputable def wY:Fr->bP:=
 (aX (oT (kX vX (pW (nS kO (aF 0) (iB (aF 1)) (iB (aJ bR (aF 1) (dC (.int 1))))))) (aQ 2) (cS [] (dX ax3 (aE (aF 2) aO))))
 (cS [] (dC (.int 0))))
noncomputable def eO:List T->Res T:=λts=>cL (wY (dY 3 ts))
noncomputable def sY:Fr->bP:=
 (aX (bY [] (dC (.str "qwertyuiopasdfghjklzxcvbnm")) (aQ 2))
 (aX (bY [] (aJ gG (aF 0) (dC (.int 3))) (aQ 3))
 (aX (gJ (dN (aJ jH (aJ dE (aF 0) (dC (.int 3))) (dC (.int 0)))) (cS [] (fL [7] (mF oV (aE (aF 1) aO)) (aQ 7) cY (aJ iD (aJ bW (aF 2) (aJ dE (aF 3) (dC (.int 26)))) (aJ bR (aF 7) (dC (.int 1)))))) dM)
 (aX (gJ (dN (aJ jH (aJ dE (aF 0) (dC (.int 3))) (dC (.int 1)))) (aX (bY [] (cG (aE (dC (.str "letter")) (aE (dC (.str "years")) (aE (dC (.str "fades")) (aE (dC (.str "rules")) (aE (dC (.str "ink")) (aE (dC (.str "put")) (aE (dC (.str "after")) (aE (dC (.str "same")) aO))))))))) (aQ 4))
 (cS [] (nS kO (aJ bR (nS kO (aF 4) (iB (aJ dE (aF 3) (dC (.int 8)))) fG) (nS kO (aF 4) fG (iB (aJ dE (aF 3) (dC (.int 8)))))) fG (iB (aF 1))))) dM)
 (aX (bY [] (aJ bR (dC (.int 1)) (aJ dE (aF 3) (dC (.int 8)))) (aQ 5))
 (aX (bY [] (aJ dE (aJ gG (aF 3) (dC (.int 8))) (aF 5)) (aQ 6))
 (cS [] (fL [7] (mF oV (aE (aF 1) aO)) (aQ 7) cY (aJ bR (aJ bR (aJ iD (dC (.str "a")) (aF 6)) (aJ bW (aF 2) (aJ dE (aJ bR (aJ gG (aF 3) (dC (.int 64))) (aF 7)) (dC (.int 26))))) (aJ iD (dC (.str "b")) (aJ lP (aJ lP (aF 5) (dC (.int 1))) (aF 6))))))))))))
noncomputable def mN:List T->Res T:=λts=>cL (sY (dY 8 ts))
noncomputable def sD:Fr->bP:=
 (aX (bY [] (cG aO) (aQ 2))
 (aX (bY [] (aJ gG (aF 0) (dC (.int 2))) (aQ 3))
 (aX (oT (mF oV (aE (aJ iD (aF 1) (aJ lP (dC (.int 1)) (aJ dE (aF 0) (dC (.int 2))))) aO)) (aQ 4) (aX (bY [] (dX qU (aE (aF 3) (aE (aJ uB (dC (.int 10)) (dC (.int 9))) aO))) (gZ (bO (aQ 3) (bO (aQ 5) iC))))
 (qZ 2 [] gQ (dJ (aF 5)))))
 (aX (bY [] (aJ bR (aJ dE (aF 3) (dC (.int 998244341))) (dC (.int 5))) (aQ 3))
 (aX (rF (dN (aJ ltT (dX kA (aE (aF 2) aO)) (aF 1))) (aX (oT (mF oV (aE (dC (.int 2)) aO)) (aQ 6) (aX (bY [] (dX qU (aE (aF 3) (aE (dC (.int 4099)) aO))) (gZ (bO (aQ 7) (bO (aQ 8) iC))))
 (bY [] (aJ dE (aJ bR (aJ bR (aJ bR (aJ iD (aF 8) (dC (.int 240007))) (aJ iD (aF 7) (dC (.int 89)))) (aJ iD (dC (.int 1201)) (dX kA (aE (aF 2) aO)))) (dC (.int 11))) (dC (.int 998244353))) (aQ 3))))
 (qZ 2 [] gQ (aJ gG (aF 3) (dC (.int 5))))))
 (cS [2] (aF 2)))))))
noncomputable def eT:List T->Res T:=λts=>cL (sD (dY 9 ts))
noncomputable def sP:Fr->bP:=
 (aX (bY [] (cP 2 eT (aE (aF 0) (aE (dC (.int 4)) aO))) (aQ 2))
 (aX (bY [] (dJ (aJ bW (cG (aE (aJ uB (dC (.int 10)) (dC (.int 6))) (aE (dC (.int 100)) (aE (aJ dE (aJ bW (aF 2) (dC (.int 0))) (aJ bR (aJ uB (dC (.int 10)) (dC (.int 6))) (dC (.int 1)))) aO)))) (aJ dE (aJ bW (aF 2) (dC (.int 1))) (dC (.int 3))))) (aQ 3))
 (aX (bY [] (cG aO) (aQ 4))
 (aX (oT (kX vX (pW (cP 2 eT (aE (aJ gG (aF 0) (dC (.int 7))) (aE (aJ bR (dC (.int 1)) (aJ dE (aJ bW (aF 2) (dC (.int 2))) (aF 1))) aO))))) (aQ 5) (aX (qZ 4 [] gQ (dJ (aF 3)))
 (bY [] (dX an1 (aE (dC (.int 0)) (aE (aJ lP (aF 3) (aJ dE (aF 5) (aJ bW (cG (aE (dC (.int 2)) (aE (dC (.int 9)) (aE (dC (.int 40)) (aE (dC (.int 30011)) (aE (aJ bR (aJ uB (dC (.int 10)) (dC (.int 6))) (dC (.int 1))) aO)))))) (aJ dE (aJ bW (aF 2) (dC (.int 3))) (dC (.int 5)))))) aO))) (aQ 3))))
 (cS [4] (aF 4))))))
noncomputable def kR:List T->Res T:=λts=>cL (sP (dY 6 ts))
noncomputable def uS:Fr->bP:=
 (aX (bY [] (cP 2 eO (aE (aF 0) (aE (dC (.int 0)) aO))) (aQ 1))
 (aX (bY [] (dJ (aJ bW (cG (aE (aJ dE (aJ gG (aF 1) (dC (.int 3))) (dC (.int 301))) (aE (dC (.int 300)) (aE (dC (.int 0)) aO)))) (aJ dE (aF 1) (dC (.int 3))))) (aQ 2))
 (aX (bY [] (dJ (aJ bW (cG (aE (aJ lP (aJ dE (aJ gG (aF 1) (dC (.int 903))) (dC (.int 5701))) (dC (.int 3000))) (aE (eX pP (dC (.int 3000))) (aE (aJ lP (dC (.int 3000)) (aF 2)) aO)))) (aJ dE (aJ gG (aF 1) (dC (.int 9))) (dC (.int 3))))) (aQ 3))
 (aX (bY [] (cP 2 mN (aE (cP 2 eO (aE (aF 0) (aE (dC (.int 1)) aO))) (aE (aJ bR (dC (.int 1)) (aJ dE (aJ gG (cP 2 eO (aE (aF 0) (aE (dC (.int 1)) aO))) (dC (.int 7))) (dC (.int 8)))) aO))) (aQ 4))
 (aX (bY [] (cG aO) (aQ 5))
 (aX (oT (mF oV (aE (aJ dE (cP 2 eO (aE (aF 0) (aE (dC (.int 2)) aO))) (dC (.int 7))) aO)) (aQ 6) (qZ 5 [] gQ (cG (aE (aJ bR (dC (.str "gall")) (aJ bW (dC (.str "abcdef")) (aF 6))) (aE (cP 2 kR (aE (aJ bR (cP 2 eO (aE (aF 0) (aE (aJ bR (dC (.int 3)) (aF 6)) aO))) (aJ iD (dC (.int 31)) (aF 6))) (aE (dC (.int 60)) aO))) aO)))))
 (aX (bY [] (cG aO) (aQ 7))
 (aX (oT (mF oV (aE (aJ dE (cP 2 eO (aE (aF 0) (aE (dC (.int 9)) aO))) (dC (.int 9))) aO)) (aQ 6) (aX (bY [] (cP 2 eT (aE (aJ bR (cP 2 eO (aE (aF 0) (aE (aJ bR (dC (.int 10)) (aF 6)) aO))) (aJ iD (dC (.int 17)) (aF 6))) (aE (dC (.int 2)) aO))) (aQ 8))
 (aX (bY [] (dJ (aJ bW (cG (aE (eX pP (dC (.int 4000))) (aE (dC (.int 4000)) (aE (aJ lP (aJ dE (aJ bW (aF 8) (dC (.int 0))) (dC (.int 8001))) (dC (.int 4000))) aO)))) (aJ dE (aJ bW (aF 8) (dC (.int 1))) (dC (.int 3))))) (aQ 9))
 (qZ 7 [] gQ (cG (aE (aJ bR (dC (.str "r")) (aJ bW (dC (.str "abcdefgh")) (aF 6))) (aE (dJ (aF 9)) (aE (dJ (aJ bW (cG (aE (dC (.int 1)) (aE (dC (.int 100)) (aE (aJ bR (dC (.int 1)) (aJ dE (aJ bW (aF 8) (dC (.int 1))) (dC (.int 100)))) aO)))) (aJ dE (aJ bW (aF 8) (dC (.int 0))) (dC (.int 3))))) aO))))))))
 (cS [4,5,7] (cG (aE (cG (aE (dJ (aF 3)) (aE (aJ bR (aF 3) (aF 2)) aO))) (aE (aF 4) (aE (aF 5) (aE (aF 7) aO))))))))))))))
noncomputable def nL:List T->Res T:=λts=>cL (uS (dY 10 ts))
noncomputable def lG:Fr->bP:=
 (cS [] (dJ (aJ bW (pW (cG (aE (cG (aE (dJ (aJ bW (aF 0) (dC (.int 0)))) (aE (aJ lP (aJ bW (aF 0) (dC (.int 0))) (dC (.int 1))) aO))) (aE (cG (aE (dJ (aJ bW (aF 0) (dC (.int 0)))) (aE (aJ bR (aJ bW (aF 0) (dC (.int 0))) (dC (.int 301))) aO))) (aE (cG (aE (eX pP (dC (.int 3001))) (aE (eX pP (dC (.int 3000))) aO))) (aE (cG (aE (dC (.int 2999)) (aE (dC (.int 3001)) aO))) aO)))))) (aJ dE (aF 1) (dC (.int 4))))))
noncomputable def hU:List T->Res T:=λts=>cL (lG (dY 2 ts))
noncomputable def kH:Fr->bP:=
 (aX (bY [] (aJ dE (aF 1) (dC (.int 4))) (aQ 2))
 (aX (bY [] (aJ dE (aJ gG (aF 1) (dC (.int 4))) (dX kA (aE (aF 0) aO))) (aQ 3))
 (aX (gJ (dN (aJ jH (aF 2) (dC (.int 0)))) (cS [] (cG aO)) dM)
 (aX (gJ (dN (aJ jH (aF 2) (dC (.int 1)))) (cS [] (aJ bR (fL [4] (mF oV (aE (dC (.int 8)) aO)) (aQ 4) cY (aJ iD (dC (.str "z")) (aJ bR (aF 4) (dC (.int 1))))) (cG (aE (dC (.str "y")) aO)))) dM)
 (aX (gJ (dN (aJ jH (aF 2) (dC (.int 2)))) (cS [] (aJ bR (aJ bR (nS kO (aF 0) fG (iB (aF 3))) (cG (aE (dJ (aJ bW (aF 0) (aJ dE (aJ gG (aF 1) (dC (.int 40))) (dX kA (aE (aF 0) aO))))) aO))) (nS kO (aF 0) (iB (aF 3)) fG))) dM)
 (cS [] (aJ bR (aJ bR (nS kO (aF 0) fG (iB (aF 3))) (cG (aE (dJ (aJ bW (cG (aE (dC (.str "")) (aE (dC (.str "ninesigns")) (aE (dC (.str "A")) (aE (dC (.str "a1")) (aE (dC (.str "a b")) aO)))))) (aJ dE (aJ gG (aF 1) (dC (.int 40))) (dC (.int 5))))) aO))) (nS kO (aF 0) (iB (aJ bR (aF 3) (dC (.int 1)))) fG))))))))
noncomputable def fX:List T->Res T:=λts=>cL (kH (dY 5 ts))
noncomputable def mB:Fr->bP:=
 (aX (bY [] (aJ dE (aF 2) (dC (.int 4))) (aQ 4))
 (aX (gJ (yK (dN (aJ jH (aF 4) (dC (.int 0)))) (dN (aJ jH (aF 0) (cG aO)))) (cS [] (fL [8] (mF oV (aE (aJ bR (aF 1) (dC (.int 1))) aO)) (aQ 8) cY (aJ bR (cG (aE (aJ bR (dC (.str "n")) (aJ bW (dC (.str "abcdefghij")) (aF 8))) aO)) (aJ bW (aF 3) (dC (.int 0)))))) dM)
 (aX (bY [] (aJ dE (aJ gG (aF 2) (dC (.int 4))) (dX kA (aE (aF 0) aO))) (aQ 5))
 (aX (gJ (dN (aJ jH (aF 4) (dC (.int 1)))) (cS [] (aJ bR (aJ bR (nS kO (aF 0) fG (iB (aF 5))) (pW (cG (aE (dX iP (aE (aJ bW (aF 0) (aJ dE (aJ gG (aF 2) (dC (.int 40))) (dX kA (aE (aF 0) aO)))) aO)) aO)))) (nS kO (aF 0) (iB (aF 5)) fG))) dM)
 (aX (gJ (dN (aJ jH (aF 4) (dC (.int 2)))) (aX (bY [] (dJ (aJ bW (pW (cG (aE (dC (.str "")) (aE (dC (.str "ninesigns")) (aE (dC (.str "Z")) (aE (dC (.str "q1")) aO)))))) (aJ dE (aJ gG (aF 2) (dC (.int 40))) (dC (.int 4))))) (aQ 6))
 (cS [] (aJ bR (aJ bR (nS kO (aF 0) fG (iB (aF 5))) (pW (cG (aE (aJ bR (cG (aE (dJ (aF 6)) aO)) (nS kO (aJ bW (aF 0) (aF 5)) (iB (dC (.int 1))) fG)) aO)))) (nS kO (aF 0) (iB (aJ bR (aF 5) (dC (.int 1)))) fG)))) dM)
 (aX (bY [] (dJ (aJ bW (aF 3) (aJ bR (dC (.int 1)) (aJ dE (aJ gG (aF 2) (dC (.int 40))) (aJ lP (dX kA (aE (aF 3) aO)) (dC (.int 1))))))) (aQ 7))
 (cS [] (aJ bR (aJ bR (nS kO (aF 0) fG (iB (aF 5))) (pW (cG (aE (aJ bR (nS kO (aJ bW (aF 0) (aF 5)) fG (iB (dC (.int 1)))) (aF 7)) aO)))) (nS kO (aF 0) (iB (aJ bR (aF 5) (dC (.int 1)))) fG)))))))))
noncomputable def eA:List T->Res T:=λts=>cL (mB (dY 9 ts))
noncomputable def rJ:Fr->bP:=
 (aX (bY [] (aJ dE (aF 1) (dC (.int 4))) (aQ 2))
 (aX (bY [] (aJ gG (aF 1) (dC (.int 4))) (aQ 3))
 (aX (gJ (dN (aJ jH (aF 2) (dC (.int 0)))) (yZ 0 [] (cP 2 hU (aE (aJ bW (aF 0) (dC (.int 0))) (aE (aF 3) aO))) gQ (dC (.int 0))) dM)
 (aX (gJ (dN (aJ jH (aF 2) (dC (.int 1)))) (yZ 0 [] (cP 2 fX (aE (aJ bW (aF 0) (dC (.int 1))) (aE (aF 3) aO))) gQ (dC (.int 1))) dM)
 (aX (gJ (dN (aJ jH (aF 2) (dC (.int 2)))) (aX (bY [] (pW (cG (aE (cG (aE (cG (aE (dC (.int 5)) aO)) aO)) (aE (cG (aE (cG aO) aO)) (aE (cG (aE (cG (aE (dC (.int 1)) (aE (dC (.int 2)) aO))) aO)) (aE (cG (aE (cG (aE (aJ bR (aJ uB (dC (.int 10)) (dC (.int 6))) (dC (.int 1))) aO)) aO)) (aE (cG (aE (cG (aE (dC (.int 0)) (aE (eX pP (dC (.int 1))) aO))) aO)) (aE (cG (aE (aJ ax0 (cG (aE (dC (.int 3)) aO)) (dC (.int 61))) aO)) aO)))))))) (aQ 4))
 (yZ 0 [] (cP 4 eA (aE (aJ bW (aF 0) (dC (.int 2))) (aE (dC (.int 6)) (aE (aF 3) (aE (aF 4) aO))))) gQ (dC (.int 2)))) dM)
 (aX (gJ (dN (aJ jH (aF 2) (dC (.int 3)))) (aX (bY [] (pW (cG (aE (cG (aE (dC (.int 0)) (aE (dC (.int 1)) aO))) (aE (cG (aE (eX pP (dC (.int 4001))) (aE (dC (.int 1)) aO))) (aE (cG (aE (dC (.int 4001)) (aE (dC (.int 1)) aO))) (aE (cG (aE (dC (.int 5)) (aE (dC (.int 0)) aO))) (aE (cG (aE (dC (.int 5)) (aE (dC (.int 101)) aO))) aO))))))) (aQ 4))
 (yZ 0 [] (cP 4 eA (aE (aJ bW (aF 0) (dC (.int 3))) (aE (dC (.int 8)) (aE (aF 3) (aE (aF 4) aO))))) gQ (dC (.int 3)))) dM)
 (aj3 (aF 2))))))))
noncomputable def jR:T->T->Res (T×T):=λa b=>at0 (rJ (dY 5 [a,b]))
noncomputable def vK:Fr->bP:=
 (cS [] (pA (dX lW (aE (aF 0) (aE (dC (.ty "int")) aO))) (ar3 (dX lW (aE (aF 0) (aE (dC (.ty "bool")) aO))))))
noncomputable def nW:List T->Res T:=λts=>cL (vK (dY 1 ts))
noncomputable def nU:Fr->bP:=
 (cS [] (pA (cP 1 nW (aE (aF 0) aO)) (pI pZ pZ (aF 1) (aF 0) (aF 2))))
noncomputable def cO:List T->Res T:=λts=>cL (nU (dY 3 ts))
noncomputable def pB:Fr->bP:=
 (aX (gJ (lD (mW (cP 3 cO (aE (aF 0) (aE (eX pP (dC (.int 3000))) (aE (dC (.int 3000)) aO)))))) (cS [] (dC (.bl false))) dM)
 (aX (gJ (lD (mW (cP 3 cO (aE (aF 1) (aE (eX pP (dC (.int 3000))) (aE (dC (.int 3000)) aO)))))) (cS [] (dC (.bl false))) dM)
 (cS [] (pI pZ pZ (dC (.int 0)) (aJ lP (aF 1) (aF 0)) (dC (.int 300))))))
noncomputable def iL:List T->Res T:=λts=>cL (pB (dY 2 ts))
noncomputable def qX:Fr->bP:=
 (cS [] (pA (pI pZ pZ (dC (.int 1)) (dX kA (aE (aF 0) aO)) (aF 2)) (dX (pM false) (aE (fL [3] (kX mL (aF 0)) (aQ 3) cY (aJ (inT false) (aF 3) (aF 1))) aO))))
noncomputable def lK:List T->Res T:=λts=>cL (qX (dY 4 ts))
noncomputable def sI:Fr->bP:=
 (cS [] (cP 3 lK (aE (aF 0) (aE (dC (.str "abcdefghijklmnopqrstuvwxyz")) (aE (dC (.int 8)) aO)))))
noncomputable def jC:List T->Res T:=λts=>cL (sI (dY 1 ts))
noncomputable def oY:Fr->bP:=
 (aX (gJ (lD (dN (pI pZ pZ (aF 1) (dX kA (aE (aF 0) aO)) (aF 2)))) (cS [] (dC (.bl false))) dM)
 (cS [] (pA (dX (pM false) (aE (fL [3] (kX mL (aF 0)) (aQ 3) cY (cP 1 jC (aE (aF 3) aO))) aO)) (aJ jH (dX oO (aE (aF 0) aO)) (dX kA (aE (aF 0) aO))))))
noncomputable def eI:List T->Res T:=λts=>cL (oY (dY 4 ts))
noncomputable def qF:Fr->bP:=
 (aX (gJ (lD (dN (pI pZ pZ (dC (.int 1)) (dX kA (aE (aF 0) aO)) (dC (.int 60))))) (cS [] (dC (.bl false))) dM)
 (aX (gJ (lD (mW (dX (pM false) (aE (fL [1] (kX mL (aF 0)) (aQ 1) cY (cP 3 cO (aE (aF 1) (aE (dC (.int 0)) (aE (dC (.int 1000000)) aO))))) aO)))) (cS [] (dC (.bl false))) dM)
 (cS [] (dX (pM false) (aE (fL [2] (mF af8 (aE (dC (.int 1)) (aE (dX kA (aE (aF 0) aO)) aO))) (aQ 2) cY (aJ pZ (aJ bW (aF 0) (aF 2)) (aJ bW (aF 0) (aJ lP (aF 2) (dC (.int 1)))))) aO)))))
noncomputable def iE:List T->Res T:=λts=>cL (qF (dY 3 ts))
noncomputable def qN:Fr->bP:=
 (aX (gJ (lD (mW (cP 3 eI (aE (fL [1,2] (kX mL (aF 0)) (gZ (bO (aQ 1) (bO (aQ 2) iC))) cY (dJ (aF 1))) (aE (dC (.int 0)) (aE (dC (.int 6)) aO)))))) (cS [] (dC (.bl false))) dM)
 (cS [] (dX (pM false) (aE (fL [1,2] (kX mL (aF 0)) (gZ (bO (aQ 1) (bO (aQ 2) iC))) cY (cP 1 iE (aE (aF 2) aO))) aO))))
noncomputable def jB:List T->Res T:=λts=>cL (qN (dY 3 ts))
noncomputable def qJ:Fr->bP:=
 (cS [] (pA (cP 3 cO (aE (aF 0) (aE (eX pP (dC (.int 4000))) (aE (dC (.int 4000)) aO)))) (cP 3 cO (aE (aF 1) (aE (dC (.int 1)) (aE (dC (.int 100)) aO))))))
noncomputable def iF:List T->Res T:=λts=>cL (qJ (dY 2 ts))
noncomputable def nI:Fr->bP:=
 (aX (gJ (lD (mW (cP 3 eI (aE (fL [1,2,3] (kX mL (aF 0)) (gZ (bO (aQ 1) (bO (aQ 2) (bO (aQ 3) iC)))) cY (dJ (aF 1))) (aE (dC (.int 0)) (aE (dC (.int 8)) aO)))))) (cS [] (dC (.bl false))) dM)
 (cS [] (dX (pM false) (aE (fL [1,2,3] (kX mL (aF 0)) (gZ (bO (aQ 1) (bO (aQ 2) (bO (aQ 3) iC)))) cY (cP 2 iF (aE (aF 2) (aE (aF 3) aO)))) aO))))
noncomputable def gY:List T->Res T:=λts=>cL (nI (dY 4 ts))
noncomputable def jM:Fr->bP:=
 (aX (gJ (lD (mW (cP 2 iL (aE (aF 1) (aE (aF 2) aO))))) (rH "BadArchive" "part" (aE (dC (.str "years")) aO)) dM)
 (aX (gJ (lD (mW (cP 3 eI (aE (aF 3) (aE (dC (.int 1)) (aE (dC (.int 8)) aO)))))) (rH "BadArchive" "part" (aE (dC (.str "letters")) aO)) dM)
 (aX (gJ (lD (mW (cP 1 jB (aE (aF 4) aO)))) (rH "BadArchive" "part" (aE (dC (.str "inks")) aO)) dM)
 (aX (gJ (lD (mW (cP 1 gY (aE (aF 5) aO)))) (rH "BadArchive" "part" (aE (dC (.str "reigns")) aO)) dM)
 (aX (wZ 0 [] ["Archive"] "first" (dJ (aF 1)) gQ)
 (aX (wZ 0 [] ["Archive"] "present" (dJ (aF 2)) gQ)
 (aX (wZ 0 [] ["Archive"] "letters" (dX iP (aE (aF 3) aO)) gQ)
 (aX (wZ 0 [] ["Archive"] "inks" (fL [6,7] (kX mL (aF 4)) (gZ (bO (aQ 6) (bO (aQ 7) iC))) cY (oC (aE (dJ (aF 6)) (aE (dX iP (aE (aF 7) aO)) aO)))) gQ)
 (wZ 0 [] ["Archive"] "reigns" (fL [6,8,9] (kX mL (aF 5)) (gZ (bO (aQ 6) (bO (aQ 8) (bO (aQ 9) iC)))) cY (oC (aE (dJ (aF 6)) (aE (dJ (aF 8)) (aE (dJ (aF 9)) aO))))) gQ)))))))))
noncomputable def fS:List T->Res T:=λts=>oS (jM (dY 10 (.ins true "Archive" [] []::ts)))
noncomputable def zF:Fr->bP:=
 (aX (bY [] (fL [2] (kX mL (aJ bW (aF 0) (dC (.int 2)))) (aQ 2) cY (oC (aE (dJ (aJ bW (aF 2) (dC (.int 0)))) (aE (dX iP (aE (aJ bW (aF 2) (dC (.int 1))) aO)) aO)))) (aQ 1))
 (cS [] (zZ 5 fS (aE (aJ bW (aJ bW (aF 0) (dC (.int 0))) (dC (.int 0))) (aE (aJ bW (aJ bW (aF 0) (dC (.int 0))) (dC (.int 1))) (aE (dX iP (aE (aJ bW (aF 0) (dC (.int 1))) aO)) (aE (aF 1) (aE (fL [3] (kX mL (aJ bW (aF 0) (dC (.int 3)))) (aQ 3) cY (dX nJ (aE (aF 3) aO))) aO))))))))
noncomputable def rM:List T->Res T:=λts=>cL (zF (dY 4 ts))
noncomputable def oP:Fr->bP:=
 (aX (bY [] (cG (aE (eX (dQ kM) (aF 0)) (aE (eX (dQ kZ) (aF 0)) (aE (eX (dQ zA) (aF 0)) (aE (eX (dQ zK) (aF 0)) aO))))) (aQ 1))
 (aX (bY [] (aJ bR (aF 1) (cG (aE (eX (dQ wD) (aF 0)) (aE (eX (dQ yV) (aF 0)) (aE (eX (dQ vD) (aF 0)) (aE (eX (dQ sZ) (aF 0)) aO)))))) (aQ 1))
 (aX (bY [] (aJ bR (aF 1) (cG (aE (eX (dQ sU) (aF 0)) (aE (eX (dQ xH) (aF 0)) (aE (eX (dQ zC) (aF 0)) (aE (eX (dQ vY) (aF 0)) aO)))))) (aQ 1))
 (cS [] (pA (aJ jH (dBM at5 ag0 (aF 1) (aE (dC (.bl true)) aO)) (dC (.int 1))) (pA (eX (dQ nY) (aF 0)) (eX (dQ pO) (aF 0))))))))
noncomputable def jN:List T->Res T:=λts=>cL (oP (dY 2 ts))
noncomputable def pS:Fr->bP:=
 (aX (bY [] (dC .non) (aQ 1))
 (aX (av9 1 rM ["BadArchive"] 2 (aE (aF 0) aO) (bY [] (dJ (aF 2)) (aQ 1)) (λ_ ρ=>ρ))
 (aX (gJ (yK (lD (mW (eX (dQ kM) (aF 1)))) (lD (mW (cP 1 jN (aE (aF 1) aO))))) (cS [] (dC .non)) dM)
 (cS [] (eX (aw0 ["BadArchive"] "part") (aF 1))))))
noncomputable def kJ:List T->Res T:=λts=>cL (pS (dY 3 ts))
noncomputable def jD:Fr->bP:=
 (aX (oT (kX vX (eX (oW ["Archive"] "inks") (aF 0))) (gZ (bO (aQ 2) (bO (aQ 3) iC))) (gJ (dN (aJ jH (aF 2) (aF 1))) (cS [] (dX iP (aE (aF 3) aO))) dM))
 (cS [] (dC .non)))
noncomputable def cV:List T->Res T:=λts=>cL (jD (dY 4 ts))
noncomputable abbrev tm_table:List (Str×(List T->Res T)):=[("Archive",cV)]
noncomputable def uQ:Fr->bP:=
 (aX (bY [] (fL [6] (kX mL (aJ bW (aF 1) (dC (.int 2)))) (aQ 6) cY (oC (aE (dJ (aJ bW (aF 6) (dC (.int 0)))) (aE (dJ (aJ bW (aF 6) (dC (.int 1)))) aO)))) (aQ 2))
 (aX (gJ (yK (dN (aJ oA (eX (oW ["Archive"] "first") (aF 0)) (aJ bW (aJ bW (aF 1) (dC (.int 0))) (dC (.int 0))))) (yK (dN (aJ oA (eX (oW ["Archive"] "present") (aF 0)) (aJ bW (aJ bW (aF 1) (dC (.int 0))) (dC (.int 1))))) (dN (aJ oA (eX (oW ["Archive"] "letters") (aF 0)) (aJ bW (aF 1) (dC (.int 1))))))) (cS [] (dC (.bl false))) dM)
 (aX (gJ (yK (dN (aJ oA (eX (oW ["Archive"] "inks") (aF 0)) (aF 2))) (dN (aJ oA (eX (oW ["Archive"] "reigns") (aF 0)) (fL [7] (kX mL (aJ bW (aF 1) (dC (.int 3)))) (aQ 7) cY (dX nJ (aE (aF 7) aO)))))) (cS [] (dC (.bl false))) dM)
 (aX (λρ=>(oT (kX vX (aF 2)) (gZ (bO (aQ 3) (bO (aQ 4) iC))) (aX (bY [] (mT 2 "table" tm_table (aF 0) (aE (aF 3) aO)) (aQ 5))
 (aX (gJ (yK (lD (mW (dX lW (aE (aF 5) (aE (dC (.ty "list")) aO))))) (dN (aJ oA (aF 5) (aF 4)))) (cS [] (dC (.bl false))) dM)
 (aX (qZ 5 [] gQ (dC (.int 0)))
 (gJ (yK (dN (aJ oA (mT 2 "table" tm_table (aF 0) (aE (aF 3) aO)) (aF 4))) (dN (aJ pD (mT 2 "table" tm_table (aF 0) (aE (aJ bR (aF 3) (dC (.str "q"))) aO)) (dC .non)))) (cS [] (dC (.bl false))) dM))))) (af0 2 ρ))
 (cS [] (aJ isT (mT 2 "table" tm_table (aF 0) (aE (dC (.str "none")) aO)) (dC .non)))))))
noncomputable def nK:List T->Res T:=λts=>cL (uQ (dY 8 ts))
noncomputable def al8:Fr->bP:=
 (aX (bY [] (cP 1 fU (aE (aF 0) aO)) (aQ 0))
 (aX (bY [] (ak3 (cP 1 nL (aE (aF 0) aO))) (aQ 1))
 (aX (bY [] (cP 2 eO (aE (aF 0) (aE (dC (.int 20)) aO))) (aQ 2))
 (aX (gJ (dN (aJ gtT (aJ dE (aF 2) (dC (.int 3))) (dC (.int 0)))) (aX (an3 3 1 jR (aJ gG (aF 2) (dC (.int 3))))
 (aX (gJ (dN (aJ jH (aJ dE (aF 2) (dC (.int 3))) (dC (.int 2)))) (aX (bY [] (cP 2 eO (aE (aF 0) (aE (dC (.int 21)) aO))) (aQ 4))
 (gJ (dN (aJ (inT true) (aJ dE (aF 4) (dC (.int 4))) (aF 3))) (am3 3 1 jR (aF 4)) dM)) dM)
 (cS [] (aJ jH (cP 1 kJ (aE (aF 1) aO)) (aJ bW (cG (aE (dC (.str "years")) (aE (dC (.str "letters")) (aE (dC (.str "inks")) (aE (dC (.str "reigns")) aO))))) (dX sR (aE (aF 3) aO))))))) dM)
 (aX (bY [] (dX iP (aE (aJ bW (aF 1) (dC (.int 1))) aO)) (aQ 5))
 (aX (bY [] (fL [11] (kX mL (aJ bW (aF 1) (dC (.int 2)))) (aQ 11) cY (oC (aE (dJ (aJ bW (aF 11) (dC (.int 0)))) (aE (dX iP (aE (aJ bW (aF 11) (dC (.int 1))) aO)) aO)))) (aQ 6))
 (aX (bY [] (fL [12] (kX mL (aJ bW (aF 1) (dC (.int 3)))) (aQ 12) cY (dX nJ (aE (aF 12) aO))) (aQ 7))
 (aX (bY [] (cP 5 fS (aE (aJ bW (aJ bW (aF 1) (dC (.int 0))) (dC (.int 0))) (aE (aJ bW (aJ bW (aF 1) (dC (.int 0))) (dC (.int 1))) (aE (aF 5) (aE (aF 6) (aE (aF 7) aO)))))) (aQ 8))
 (aX (qZ 5 [] gQ (dC (.str "late")))
 (aX (ax5 7 [] az4 gQ aO)
 (aX (tX 6 9 10 (.int 0))
 (aX (ax5 6 [] az4 gQ aO)
 (cS [] (cP 2 nK (aE (aF 8) (aE (aF 1) aO))))))))))))))))
noncomputable def ai3:List T->Res T:=λts=>cL (al8 (dY 13 ts))
abbrev pV:Stmt:=iX 53
abbrev kC:Stmt:=iX 54
abbrev wO:Stmt:=iX 40
abbrev tF:Stmt:=iX 42
abbrev rV:Stmt:=iX 41
abbrev sT:Stmt:=iX 43
abbrev uW:Stmt:=iX 45
abbrev lE:Stmt:=iX 46
abbrev jX:Stmt:=iX 47
abbrev lZ:Stmt:=iX 48
abbrev rX:Stmt:=iX 49
abbrev uU:Stmt:=iX 17
abbrev nH:Stmt:=iX 18
abbrev tD:Stmt:=iX 34
abbrev rZ:Stmt:=iX 19
abbrev wH:Stmt:=iX 20
abbrev sV:Stmt:=iX 35
abbrev uA:Stmt:=iX 26
abbrev uI:Stmt:=iX 36
abbrev vG:Stmt:=iX 27
abbrev sB:Stmt:=iX 37
abbrev iM:Stmt:=ah1 (iX 38) 0
abbrev zM:Stmt:=iX 51
abbrev oU:Stmt:=iX 44
abbrev pX:Stmt:=iX 50
abbrev hV:Stmt:=ah1 (iX 38) 1
abbrev uP:Stmt:=iX 52
abbrev qL:Stmt:=iX 55
abbrev qC:Stmt:=ah1 (iX 2) 0
structure Txt (w:World) (K:PySem.W.Frag) (cn:Str->Option Addr) (mg:Str->Option Value) (c_Archive c_BadArchive c_ArchiveError c_BadSaying c_NoAge c_Stuck c_NoYear c_NoGap c_TooMany c_NoNumber c_NoDating c_BadRow c_NoRow c_NoName:Addr):Prop where
 af6:mg "ValueError"=none
 bz7:mg "abs"=none
 yF:mg "all"=none
 cq4:mg "bool"=none
 zO:mg "divmod"=none
 cs7:mg "int"=none
 cM:mg "isinstance"=none
 kY:mg "len"=none
 nZ:mg "list"=none
 cq7:mg "max"=none
 ba8:mg "min"=none
 jV:mg "range"=none
 cr7:mg "set"=none
 az1:mg "tuple"=none
 g_DARKEST:jL mg "DARKEST" (.int 1000000)
 g_FARTHEST_END:jL mg "FARTHEST_END" (.int 3000)
 g_FARTHEST_YEAR:jL mg "FARTHEST_YEAR" (.int 4000)
 g_LETTERS:jL mg "LETTERS" (.str "abcdefghijklmnopqrstuvwxyz")
 g_LONGEST_REIGN:jL mg "LONGEST_REIGN" (.int 100)
 g_LONGEST_SPAN:jL mg "LONGEST_SPAN" (.int 300)
 g_MOST_AGES:jL mg "MOST_AGES" (.int 60)
 g_MOST_INKS:jL mg "MOST_INKS" (.int 6)
 g_MOST_LETTERS_archives:jL mg "MOST_LETTERS_archives" (.int 8)
 g_MOST_LETTERS_words:jL mg "MOST_LETTERS_words" (.int 8)
 g_MOST_REIGNS:jL mg "MOST_REIGNS" (.int 8)
 jE:cn "Archive"=some c_Archive
 lX:Cls K c_Archive
 zQ:NoAttr K c_Archive "first"
 ay0:NoAttr K c_Archive "inks"
 xM:NoAttr K c_Archive "letters"
 xO:NoAttr K c_Archive "present"
 yG:NoAttr K c_Archive "reigns"
 bS:cn "BadArchive"=some c_BadArchive
 eg_BadArchive:ErrG K c_BadArchive
 te_BadArchive:bw5 K mg "BadArchive" c_BadArchive "part" "BadArchive.__init__" qC
 ct_ArchiveError:ai8 K mg "ArchiveError" c_ArchiveError
 ab_BadArchive_ArchiveError:ba7 K c_BadArchive c_ArchiveError
 gc_BadArchive:jL mg "BadArchive" (.ref c_BadArchive)
 kn_BadArchive:lC K (.ref c_BadArchive)
 kv_BadArchive_BadArchive:mE K c_BadArchive (.ref c_BadArchive) true
 gc_Stuck:jL mg "Stuck" (.ref c_Stuck)
 kn_Stuck:lC K (.ref c_Stuck)
 kv_BadArchive_Stuck:mE K c_BadArchive (.ref c_Stuck) false
 gc_NoAge:jL mg "NoAge" (.ref c_NoAge)
 kn_NoAge:lC K (.ref c_NoAge)
 kv_BadArchive_NoAge:mE K c_BadArchive (.ref c_NoAge) false
 gc_BadSaying:jL mg "BadSaying" (.ref c_BadSaying)
 kn_BadSaying:lC K (.ref c_BadSaying)
 kv_BadArchive_BadSaying:mE K c_BadArchive (.ref c_BadSaying) false
 gc_NoNumber:jL mg "NoNumber" (.ref c_NoNumber)
 kn_NoNumber:lC K (.ref c_NoNumber)
 kv_BadArchive_NoNumber:mE K c_BadArchive (.ref c_NoNumber) false
 gc_TooMany:jL mg "TooMany" (.ref c_TooMany)
 kn_TooMany:lC K (.ref c_TooMany)
 kv_BadArchive_TooMany:mE K c_BadArchive (.ref c_TooMany) false
 gc_NoGap:jL mg "NoGap" (.ref c_NoGap)
 kn_NoGap:lC K (.ref c_NoGap)
 kv_BadArchive_NoGap:mE K c_BadArchive (.ref c_NoGap) false
 gc_NoYear:jL mg "NoYear" (.ref c_NoYear)
 kn_NoYear:lC K (.ref c_NoYear)
 kv_BadArchive_NoYear:mE K c_BadArchive (.ref c_NoYear) false
 gc_NoName:jL mg "NoName" (.ref c_NoName)
 kn_NoName:lC K (.ref c_NoName)
 kv_BadArchive_NoName:mE K c_BadArchive (.ref c_NoName) false
 gc_NoRow:jL mg "NoRow" (.ref c_NoRow)
 kn_NoRow:lC K (.ref c_NoRow)
 kv_BadArchive_NoRow:mE K c_BadArchive (.ref c_NoRow) false
 gc_BadRow:jL mg "BadRow" (.ref c_BadRow)
 kn_BadRow:lC K (.ref c_BadRow)
 kv_BadArchive_BadRow:mE K c_BadArchive (.ref c_BadRow) false
 gc_NoDating:jL mg "NoDating" (.ref c_NoDating)
 kn_NoDating:lC K (.ref c_NoDating)
 kv_BadArchive_NoDating:mE K c_BadArchive (.ref c_NoDating) false
 kn_ValueError:lC K (.ty "ValueError")
 kv_BadArchive_ValueError:mE K c_BadArchive (.ty "ValueError") true
 gc_ArchiveError:jL mg "ArchiveError" (.ref c_ArchiveError)
 kn_ArchiveError:lC K (.ref c_ArchiveError)
 kv_BadArchive_ArchiveError:mE K c_BadArchive (.ref c_ArchiveError) true
section
variable {P : Program} {w : World} {K : PySem.W.Frag} {cn : Str → Option Addr} {mg : Str → Option Value} {base : Heap} {c_Archive c_BadArchive c_ArchiveError c_BadSaying c_NoAge c_Stuck c_NoYear c_NoGap c_TooMany c_NoNumber c_NoDating c_BadRow c_NoRow c_NoName : Addr}
theorem aa5(T:Txt w K cn mg c_Archive c_BadArchive c_ArchiveError c_BadSaying c_NoAge c_Stuck c_NoYear c_NoGap c_TooMany c_NoNumber c_NoDating c_BadRow c_NoRow c_NoName):mH K cn ["Archive"] "first":=mJ T.jE T.lX T.zQ (nM)
theorem as1(T:Txt w K cn mg c_Archive c_BadArchive c_ArchiveError c_BadSaying c_NoAge c_Stuck c_NoYear c_NoGap c_TooMany c_NoNumber c_NoDating c_BadRow c_NoRow c_NoName):mH K cn ["Archive"] "inks":=mJ T.jE T.lX T.ay0 (nM)
theorem aa0(T:Txt w K cn mg c_Archive c_BadArchive c_ArchiveError c_BadSaying c_NoAge c_Stuck c_NoYear c_NoGap c_TooMany c_NoNumber c_NoDating c_BadRow c_NoRow c_NoName):mH K cn ["Archive"] "letters":=mJ T.jE T.lX T.xM (nM)
theorem au0(T:Txt w K cn mg c_Archive c_BadArchive c_ArchiveError c_BadSaying c_NoAge c_Stuck c_NoYear c_NoGap c_TooMany c_NoNumber c_NoDating c_BadRow c_NoRow c_NoName):mH K cn ["Archive"] "present":=mJ T.jE T.lX T.xO (nM)
theorem ae2(T:Txt w K cn mg c_Archive c_BadArchive c_ArchiveError c_BadSaying c_NoAge c_Stuck c_NoYear c_NoGap c_TooMany c_NoNumber c_NoDating c_BadRow c_NoRow c_NoName):mH K cn ["Archive"] "reigns":=mJ T.jE T.lX T.yG (nM)
theorem zX(T:Txt w K cn mg c_Archive c_BadArchive c_ArchiveError c_BadSaying c_NoAge c_Stuck c_NoYear c_NoGap c_TooMany c_NoNumber c_NoDating c_BadRow c_NoRow c_NoName):∀(c:Str)(C:Addr),(["BadArchive"]:List Str).contains c=true->cn c=some C->PySem.W.mroIn K C (.ref c_ArchiveError)=some true:=au3 (P:=λC=>PySem.W.mroIn K C (.ref c_ArchiveError)=some true) T.bS T.ab_BadArchive_ArchiveError (ar7)
theorem ba9(T:Txt w K cn mg c_Archive c_BadArchive c_ArchiveError c_BadSaying c_NoAge c_Stuck c_NoYear c_NoGap c_TooMany c_NoNumber c_NoDating c_BadRow c_NoRow c_NoName):∀(c:Str)(C:Addr),(["BadArchive"]:List Str).contains c=true->cn c=some C->ErrF K C "part":=au3 (P:=λC=>ErrF K C "part") T.bS T.te_BadArchive.flds (ar7)
theorem vR(T:Txt w K cn mg c_Archive c_BadArchive c_ArchiveError c_BadSaying c_NoAge c_Stuck c_NoYear c_NoGap c_TooMany c_NoNumber c_NoDating c_BadRow c_NoRow c_NoName):pL K (.ref c_BadArchive):=iN T.kn_BadArchive
theorem vQ(T:Txt w K cn mg c_Archive c_BadArchive c_ArchiveError c_BadSaying c_NoAge c_Stuck c_NoYear c_NoGap c_TooMany c_NoNumber c_NoDating c_BadRow c_NoRow c_NoName):∀q∈[(c_BadArchive,true)],oB K q.1 (.ref c_BadArchive) q.2:=eN T.eg_BadArchive T.kv_BadArchive_BadArchive (fQ)
theorem vP(T:Txt w K cn mg c_Archive c_BadArchive c_ArchiveError c_BadSaying c_NoAge c_Stuck c_NoYear c_NoGap c_TooMany c_NoNumber c_NoDating c_BadRow c_NoRow c_NoName):kT cn kM [(c_BadArchive,true)]:=eM T.bS (fP)
theorem bn4(T:Txt w K cn mg c_Archive c_BadArchive c_ArchiveError c_BadSaying c_NoAge c_Stuck c_NoYear c_NoGap c_TooMany c_NoNumber c_NoDating c_BadRow c_NoRow c_NoName):pL K (.ref c_Stuck):=iN T.kn_Stuck
theorem bs5(T:Txt w K cn mg c_Archive c_BadArchive c_ArchiveError c_BadSaying c_NoAge c_Stuck c_NoYear c_NoGap c_TooMany c_NoNumber c_NoDating c_BadRow c_NoRow c_NoName):∀q∈[(c_BadArchive,false)],oB K q.1 (.ref c_Stuck) q.2:=eN T.eg_BadArchive T.kv_BadArchive_Stuck (fQ)
theorem bd6(T:Txt w K cn mg c_Archive c_BadArchive c_ArchiveError c_BadSaying c_NoAge c_Stuck c_NoYear c_NoGap c_TooMany c_NoNumber c_NoDating c_BadRow c_NoRow c_NoName):kT cn zK [(c_BadArchive,false)]:=eM T.bS (fP)
theorem be4(T:Txt w K cn mg c_Archive c_BadArchive c_ArchiveError c_BadSaying c_NoAge c_Stuck c_NoYear c_NoGap c_TooMany c_NoNumber c_NoDating c_BadRow c_NoRow c_NoName):pL K (.ref c_NoAge):=iN T.kn_NoAge
theorem ba4(T:Txt w K cn mg c_Archive c_BadArchive c_ArchiveError c_BadSaying c_NoAge c_Stuck c_NoYear c_NoGap c_TooMany c_NoNumber c_NoDating c_BadRow c_NoRow c_NoName):∀q∈[(c_BadArchive,false)],oB K q.1 (.ref c_NoAge) q.2:=eN T.eg_BadArchive T.kv_BadArchive_NoAge (fQ)
theorem bl5(T:Txt w K cn mg c_Archive c_BadArchive c_ArchiveError c_BadSaying c_NoAge c_Stuck c_NoYear c_NoGap c_TooMany c_NoNumber c_NoDating c_BadRow c_NoRow c_NoName):kT cn zA [(c_BadArchive,false)]:=eM T.bS (fP)
theorem ac5(T:Txt w K cn mg c_Archive c_BadArchive c_ArchiveError c_BadSaying c_NoAge c_Stuck c_NoYear c_NoGap c_TooMany c_NoNumber c_NoDating c_BadRow c_NoRow c_NoName):pL K (.ref c_BadSaying):=iN T.kn_BadSaying
theorem ah4(T:Txt w K cn mg c_Archive c_BadArchive c_ArchiveError c_BadSaying c_NoAge c_Stuck c_NoYear c_NoGap c_TooMany c_NoNumber c_NoDating c_BadRow c_NoRow c_NoName):∀q∈[(c_BadArchive,false)],oB K q.1 (.ref c_BadSaying) q.2:=eN T.eg_BadArchive T.kv_BadArchive_BadSaying (fQ)
theorem ao5(T:Txt w K cn mg c_Archive c_BadArchive c_ArchiveError c_BadSaying c_NoAge c_Stuck c_NoYear c_NoGap c_TooMany c_NoNumber c_NoDating c_BadRow c_NoRow c_NoName):kT cn kZ [(c_BadArchive,false)]:=eM T.bS (fP)
theorem as6(T:Txt w K cn mg c_Archive c_BadArchive c_ArchiveError c_BadSaying c_NoAge c_Stuck c_NoYear c_NoGap c_TooMany c_NoNumber c_NoDating c_BadRow c_NoRow c_NoName):pL K (.ref c_NoNumber):=iN T.kn_NoNumber
theorem aq6(T:Txt w K cn mg c_Archive c_BadArchive c_ArchiveError c_BadSaying c_NoAge c_Stuck c_NoYear c_NoGap c_TooMany c_NoNumber c_NoDating c_BadRow c_NoRow c_NoName):∀q∈[(c_BadArchive,false)],oB K q.1 (.ref c_NoNumber) q.2:=eN T.eg_BadArchive T.kv_BadArchive_NoNumber (fQ)
theorem an6(T:Txt w K cn mg c_Archive c_BadArchive c_ArchiveError c_BadSaying c_NoAge c_Stuck c_NoYear c_NoGap c_TooMany c_NoNumber c_NoDating c_BadRow c_NoRow c_NoName):kT cn sZ [(c_BadArchive,false)]:=eM T.bS (fP)
theorem ag9(T:Txt w K cn mg c_Archive c_BadArchive c_ArchiveError c_BadSaying c_NoAge c_Stuck c_NoYear c_NoGap c_TooMany c_NoNumber c_NoDating c_BadRow c_NoRow c_NoName):pL K (.ref c_TooMany):=iN T.kn_TooMany
theorem ak9(T:Txt w K cn mg c_Archive c_BadArchive c_ArchiveError c_BadSaying c_NoAge c_Stuck c_NoYear c_NoGap c_TooMany c_NoNumber c_NoDating c_BadRow c_NoRow c_NoName):∀q∈[(c_BadArchive,false)],oB K q.1 (.ref c_TooMany) q.2:=eN T.eg_BadArchive T.kv_BadArchive_TooMany (fQ)
theorem ac8(T:Txt w K cn mg c_Archive c_BadArchive c_ArchiveError c_BadSaying c_NoAge c_Stuck c_NoYear c_NoGap c_TooMany c_NoNumber c_NoDating c_BadRow c_NoRow c_NoName):kT cn vD [(c_BadArchive,false)]:=eM T.bS (fP)
theorem ba5(T:Txt w K cn mg c_Archive c_BadArchive c_ArchiveError c_BadSaying c_NoAge c_Stuck c_NoYear c_NoGap c_TooMany c_NoNumber c_NoDating c_BadRow c_NoRow c_NoName):pL K (.ref c_NoGap):=iN T.kn_NoGap
theorem bh6(T:Txt w K cn mg c_Archive c_BadArchive c_ArchiveError c_BadSaying c_NoAge c_Stuck c_NoYear c_NoGap c_TooMany c_NoNumber c_NoDating c_BadRow c_NoRow c_NoName):∀q∈[(c_BadArchive,false)],oB K q.1 (.ref c_NoGap) q.2:=eN T.eg_BadArchive T.kv_BadArchive_NoGap (fQ)
theorem bj5(T:Txt w K cn mg c_Archive c_BadArchive c_ArchiveError c_BadSaying c_NoAge c_Stuck c_NoYear c_NoGap c_TooMany c_NoNumber c_NoDating c_BadRow c_NoRow c_NoName):kT cn yV [(c_BadArchive,false)]:=eM T.bS (fP)
theorem bl2(T:Txt w K cn mg c_Archive c_BadArchive c_ArchiveError c_BadSaying c_NoAge c_Stuck c_NoYear c_NoGap c_TooMany c_NoNumber c_NoDating c_BadRow c_NoRow c_NoName):pL K (.ref c_NoYear):=iN T.kn_NoYear
theorem bu0(T:Txt w K cn mg c_Archive c_BadArchive c_ArchiveError c_BadSaying c_NoAge c_Stuck c_NoYear c_NoGap c_TooMany c_NoNumber c_NoDating c_BadRow c_NoRow c_NoName):∀q∈[(c_BadArchive,false)],oB K q.1 (.ref c_NoYear) q.2:=eN T.eg_BadArchive T.kv_BadArchive_NoYear (fQ)
theorem bj0(T:Txt w K cn mg c_Archive c_BadArchive c_ArchiveError c_BadSaying c_NoAge c_Stuck c_NoYear c_NoGap c_TooMany c_NoNumber c_NoDating c_BadRow c_NoRow c_NoName):kT cn wD [(c_BadArchive,false)]:=eM T.bS (fP)
theorem bn1(T:Txt w K cn mg c_Archive c_BadArchive c_ArchiveError c_BadSaying c_NoAge c_Stuck c_NoYear c_NoGap c_TooMany c_NoNumber c_NoDating c_BadRow c_NoRow c_NoName):pL K (.ref c_NoName):=iN T.kn_NoName
theorem bc3(T:Txt w K cn mg c_Archive c_BadArchive c_ArchiveError c_BadSaying c_NoAge c_Stuck c_NoYear c_NoGap c_TooMany c_NoNumber c_NoDating c_BadRow c_NoRow c_NoName):∀q∈[(c_BadArchive,false)],oB K q.1 (.ref c_NoName) q.2:=eN T.eg_BadArchive T.kv_BadArchive_NoName (fQ)
theorem bf2(T:Txt w K cn mg c_Archive c_BadArchive c_ArchiveError c_BadSaying c_NoAge c_Stuck c_NoYear c_NoGap c_TooMany c_NoNumber c_NoDating c_BadRow c_NoRow c_NoName):kT cn vY [(c_BadArchive,false)]:=eM T.bS (fP)
theorem bm4(T:Txt w K cn mg c_Archive c_BadArchive c_ArchiveError c_BadSaying c_NoAge c_Stuck c_NoYear c_NoGap c_TooMany c_NoNumber c_NoDating c_BadRow c_NoRow c_NoName):pL K (.ref c_NoRow):=iN T.kn_NoRow
theorem bn5(T:Txt w K cn mg c_Archive c_BadArchive c_ArchiveError c_BadSaying c_NoAge c_Stuck c_NoYear c_NoGap c_TooMany c_NoNumber c_NoDating c_BadRow c_NoRow c_NoName):∀q∈[(c_BadArchive,false)],oB K q.1 (.ref c_NoRow) q.2:=eN T.eg_BadArchive T.kv_BadArchive_NoRow (fQ)
theorem bu5(T:Txt w K cn mg c_Archive c_BadArchive c_ArchiveError c_BadSaying c_NoAge c_Stuck c_NoYear c_NoGap c_TooMany c_NoNumber c_NoDating c_BadRow c_NoRow c_NoName):kT cn zC [(c_BadArchive,false)]:=eM T.bS (fP)
theorem by1(T:Txt w K cn mg c_Archive c_BadArchive c_ArchiveError c_BadSaying c_NoAge c_Stuck c_NoYear c_NoGap c_TooMany c_NoNumber c_NoDating c_BadRow c_NoRow c_NoName):pL K (.ref c_BadRow):=iN T.kn_BadRow
theorem bm1(T:Txt w K cn mg c_Archive c_BadArchive c_ArchiveError c_BadSaying c_NoAge c_Stuck c_NoYear c_NoGap c_TooMany c_NoNumber c_NoDating c_BadRow c_NoRow c_NoName):∀q∈[(c_BadArchive,false)],oB K q.1 (.ref c_BadRow) q.2:=eN T.eg_BadArchive T.kv_BadArchive_BadRow (fQ)
theorem bh3(T:Txt w K cn mg c_Archive c_BadArchive c_ArchiveError c_BadSaying c_NoAge c_Stuck c_NoYear c_NoGap c_TooMany c_NoNumber c_NoDating c_BadRow c_NoRow c_NoName):kT cn xH [(c_BadArchive,false)]:=eM T.bS (fP)
theorem aj6(T:Txt w K cn mg c_Archive c_BadArchive c_ArchiveError c_BadSaying c_NoAge c_Stuck c_NoYear c_NoGap c_TooMany c_NoNumber c_NoDating c_BadRow c_NoRow c_NoName):pL K (.ref c_NoDating):=iN T.kn_NoDating
theorem ap6(T:Txt w K cn mg c_Archive c_BadArchive c_ArchiveError c_BadSaying c_NoAge c_Stuck c_NoYear c_NoGap c_TooMany c_NoNumber c_NoDating c_BadRow c_NoRow c_NoName):∀q∈[(c_BadArchive,false)],oB K q.1 (.ref c_NoDating) q.2:=eN T.eg_BadArchive T.kv_BadArchive_NoDating (fQ)
theorem am6(T:Txt w K cn mg c_Archive c_BadArchive c_ArchiveError c_BadSaying c_NoAge c_Stuck c_NoYear c_NoGap c_TooMany c_NoNumber c_NoDating c_BadRow c_NoRow c_NoName):kT cn sU [(c_BadArchive,false)]:=eM T.bS (fP)
theorem aa3(T:Txt w K cn mg c_Archive c_BadArchive c_ArchiveError c_BadSaying c_NoAge c_Stuck c_NoYear c_NoGap c_TooMany c_NoNumber c_NoDating c_BadRow c_NoRow c_NoName):pL K (.ty "ValueError"):=cv3 T.kn_ValueError
theorem ax2(T:Txt w K cn mg c_Archive c_BadArchive c_ArchiveError c_BadSaying c_NoAge c_Stuck c_NoYear c_NoGap c_TooMany c_NoNumber c_NoDating c_BadRow c_NoRow c_NoName):∀q∈[(c_BadArchive,true)],oB K q.1 (.ty "ValueError") q.2:=eN T.eg_BadArchive T.kv_BadArchive_ValueError (fQ)
theorem ae3(T:Txt w K cn mg c_Archive c_BadArchive c_ArchiveError c_BadSaying c_NoAge c_Stuck c_NoYear c_NoGap c_TooMany c_NoNumber c_NoDating c_BadRow c_NoRow c_NoName):kT cn pO [(c_BadArchive,true)]:=eM T.bS (fP)
theorem zW(T:Txt w K cn mg c_Archive c_BadArchive c_ArchiveError c_BadSaying c_NoAge c_Stuck c_NoYear c_NoGap c_TooMany c_NoNumber c_NoDating c_BadRow c_NoRow c_NoName):pL K (.ref c_ArchiveError):=iN T.kn_ArchiveError
theorem zT(T:Txt w K cn mg c_Archive c_BadArchive c_ArchiveError c_BadSaying c_NoAge c_Stuck c_NoYear c_NoGap c_TooMany c_NoNumber c_NoDating c_BadRow c_NoRow c_NoName):∀q∈[(c_BadArchive,true)],oB K q.1 (.ref c_ArchiveError) q.2:=eN T.eg_BadArchive T.kv_BadArchive_ArchiveError (fQ)
theorem as0(T:Txt w K cn mg c_Archive c_BadArchive c_ArchiveError c_BadSaying c_NoAge c_Stuck c_NoYear c_NoGap c_TooMany c_NoNumber c_NoDating c_BadRow c_NoRow c_NoName):kT cn nY [(c_BadArchive,true)]:=eM T.bS (fP)
theorem xC:bL ["self","part"] ["self","part"] (aS qC):=⟨rfl,rfl,rfl,by decide+kernel,rfl,by decide+kernel,by decide+kernel⟩
theorem uF(T:Txt w K cn mg c_Archive c_BadArchive c_ArchiveError c_BadSaying c_NoAge c_Stuck c_NoYear c_NoGap c_TooMany c_NoNumber c_NoDating c_BadRow c_NoRow c_NoName):at3 K cn 2 tm_table [(c_Archive,cJ K cn 2 cV)]:=bq1 T.jE (bg4)
theorem sc_law_stirred:bL ["_law_cell","_law_place","_law_found","_law_rest","_law_turn","_law_upper","_law_lower"] ["_law_cell","_law_place"] (aS pV):=⟨rfl,rfl,rfl,by decide+kernel,rfl,by decide+kernel,by decide+kernel⟩
theorem pQ(F:dR K mg "_law_stirred" pV)(T:Txt w K cn mg c_Archive c_BadArchive c_ArchiveError c_BadSaying c_NoAge c_Stuck c_NoYear c_NoGap c_TooMany c_NoNumber c_NoDating c_BadRow c_NoRow c_NoName):dL P w K mg base 1 "_law_stirred" ["_law_cell","_law_place"] (cJ K cn 2 kL):=by
 refine dI (d:=pT) F sc_law_stirred (λ_ _ _ _ _ _ us hl=>match us,hl with|[_,_],_=>rfl) (λf cdv A outer s H E hr=>⟨_,(aN (bK (i:=2) sc_law_stirred.nd rfl (by first|exact .inl rfl|exact .inr rfl) aH)
  (aN (bK (i:=3) sc_law_stirred.nd rfl (by first|exact .inl rfl|exact .inr rfl) (aP (bB K) (aP bU (aP (bB K) (aP bU (pv 0) aH) (aP fK aH (pv 1))) aH) aH))
  (aN (lM PassesOwn.never rfl (iH rfl T.jV (aB aH aK)) (bE (i:=4) sc_law_stirred.nd rfl (by first|exact .inl rfl|exact .inr rfl)) (aN (rO (bD (sC K) rfl T.zO wQ (aB (pv 3) (aB aH aK))) (iR K 2 rfl (cQ (bE (i:=5) sc_law_stirred.nd rfl (by first|exact .inl rfl|exact .inr rfl)) (cQ (bE (i:=6) sc_law_stirred.nd rfl (by first|exact .inl rfl|exact .inr rfl)) iS))))
  (aN (bK (i:=3) sc_law_stirred.nd rfl (by first|exact .inl rfl|exact .inr rfl) (aP bU (aP (bB K) (aP (bB K) (aP (bB K) (aP fK (pv 6) aH) (aP fK (pv 5) aH)) (aP fK aH (pv 4))) aH) aH))
  (aW (bK (i:=2) sc_law_stirred.nd rfl (by first|exact .inl rfl|exact .inr rfl) (aP (bB K) (aP fK (pv 2) aH) (pv 3)))))))
  (aW (bM (pv 2)))))),
  (aU (bJ aG (aT 2))
   (aU (bJ (aL bQ (RE.rb (aL cN (RE.rb (aL bQ (RE.rb (aL cN (aD 0) (RE.rb aG))) (RE.rb (aL iU (RE.rb aG) (aD 1))))) (RE.rb aG))) (RE.rb aG)) (aT 3))
   (aU (mK (kP (aI (RE.rb aG) aR)) (aT 4) (aU (bJ (cT yT (aI (aD 3) (aI (RE.rb aG) aR))) (lJ (cX (aT 5) (cX (aT 6) jO))))
   (aU (bJ (aL cN (RE.rb (aL bQ (RE.rb (aL bQ (RE.rb (aL bQ (RE.rb (aL iU (aD 6) (RE.rb aG))) (RE.rb (aL iU (aD 5) (RE.rb aG))))) (RE.rb (aL iU (RE.rb aG) (aD 4))))) (RE.rb aG))) (RE.rb aG)) (aT 3))
   (bJ (aL bQ (RE.rb (aL iU (aD 2) (RE.rb aG))) (aD 3)) (aT 2)))))
   (bN (RB.chk (aD 2))))))⟩) rfl (λ_=>rfl)
theorem sc_law_stirred_script:bL ["_law_script","_law_found","_law_k","_law_cell","_law_power"] ["_law_script"] (aS kC):=⟨rfl,rfl,rfl,by decide+kernel,rfl,by decide+kernel,by decide+kernel⟩
theorem jY(F:dR K mg "_law_stirred_script" kC)(T:Txt w K cn mg c_Archive c_BadArchive c_ArchiveError c_BadSaying c_NoAge c_Stuck c_NoYear c_NoGap c_TooMany c_NoNumber c_NoDating c_BadRow c_NoRow c_NoName)(pQ:dL P w K mg base 1 "_law_stirred" ["_law_cell","_law_place"] (cJ K cn 2 kL)):dL P w K mg base 2 "_law_stirred_script" ["_law_script"] (cJ K cn 1 fU):=by
 refine dI (d:=kF) F sc_law_stirred_script (λ_ _ _ _ _ _ us hl=>match us,hl with|[_],_=>rfl) (λf cdv A outer s H E hr=>⟨_,(aN (bK (i:=1) sc_law_stirred_script.nd rfl (by first|exact .inl rfl|exact .inr rfl) (bF aK))
  (aN (lM PassesOwn.never rfl (iH rfl T.jV (aB (bD (al2 K) rfl T.ba8 br1 (aB (bD (eZ K) rfl T.kY jS (aB (pv 0) aK)) (aB aH aK))) aK)) (bE (i:=2) sc_law_stirred_script.nd rfl (by first|exact .inl rfl|exact .inr rfl)) (aN (bK (i:=3) sc_law_stirred_script.nd rfl (by first|exact .inl rfl|exact .inr rfl) (bD (ag2 K) rfl T.bz7 bt1 (aB (bH (bT K) (pv 0) (pv 2) (λ_ _=>rfl)) aK)))
  (aN (bK (i:=4) sc_law_stirred_script.nd rfl (by first|exact .inl rfl|exact .inr rfl) aH)
  (aN (aa6 PassesOwn.never (dB mU (pv 4) (pv 3) (dH _)) (aW (bK (i:=4) sc_law_stirred_script.nd rfl (by first|exact .inl rfl|exact .inr rfl) (aP fK (pv 4) (aP tM aH aH)))))
  (aW (iT (lF K PySem.F.plainAttrs_list PySem.F.slot_list_append PySem.F.type_list_append iJ (pv 1) (aB (aP (bB K) (pv 3) (aP fK (pv 4) (bX pQ (hr.mono (by decide)) (aB (pv 3) (aB (pv 2) aK))))) aK))))))))
  (aW (bM (pv 1))))),
  (aU (bJ (bG bC) (aT 1))
   (aU (mK (kP (aI (RE.rb (cT bv6 (aI (RE.rb (cT lV (aI (aD 0) aR))) (aI (RE.rb aG) aR)))) aR)) (aT 2) (aU (bJ (cT bh7 (aI (bI (aD 0) (aD 2)) aR)) (aT 3))
   (aU (bJ aG (aT 4))
   (aU (al4 (cW (RE.rb (aL pU (aD 4) (aD 3)))) (bJ (aL iU (aD 4) (RE.rb (aL xU (RE.rb aG) (RE.rb aG)))) (aT 4)))
   (pJ (j:=1) (fT 1) (aL bQ (aD 3) (RE.rb (aL iU (aD 4) (RE.rb (cD (aI (aD 3) (aI (aD 2) aR))))))))))))
   (bN (yD 1))))⟩) rfl (λ_=>rfl)
theorem sc_law_got:bL ["_law_script","_law_place","_law_cell"] ["_law_script","_law_place"] (aS wO):=⟨rfl,rfl,rfl,by decide+kernel,rfl,by decide+kernel,by decide+kernel⟩
theorem gC(F:dR K mg "_law_got" wO)(T:Txt w K cn mg c_Archive c_BadArchive c_ArchiveError c_BadSaying c_NoAge c_Stuck c_NoYear c_NoGap c_TooMany c_NoNumber c_NoDating c_BadRow c_NoRow c_NoName):dL P w K mg base 1 "_law_got" ["_law_script","_law_place"] (cJ K cn 2 eO):=by
 refine dI (d:=wY) F sc_law_got (λ_ _ _ _ _ _ us hl=>match us,hl with|[_,_],_=>rfl) (λf cdv A outer s H E hr=>⟨_,(aN (lM PassesOwn.never rfl (jP K (eL (mD K) (pv 0) (eY (pv 1)) (eY (aP (bB K) (pv 1) aH)))) (bE (i:=2) sc_law_got.nd rfl (by first|exact .inl rfl|exact .inr rfl)) (aW (bM (bD (ag2 K) rfl T.bz7 bt1 (aB (pv 2) aK)))))
  (aW (bM aH))),
  (aU (mK (ad9 (RE.rb (RE.frz (jI mC (aD 0) (eW (aD 1)) (eW (RE.rb (aL bQ (aD 1) (RE.rb aG)))))))) (aT 2) (bN (cT bh7 (aI (aD 2) aR))))
   (bN aG))⟩) rfl (λ_=>rfl)
theorem sc_law_names:bL ["_law_number","_law_many","_law_signs","_law_rest","_law_some","_law_size","_law_at","_law_k"] ["_law_number","_law_many"] (aS tF):=⟨rfl,rfl,rfl,by decide+kernel,rfl,by decide+kernel,by decide+kernel⟩
theorem tB(F:dR K mg "_law_names" tF)(T:Txt w K cn mg c_Archive c_BadArchive c_ArchiveError c_BadSaying c_NoAge c_Stuck c_NoYear c_NoGap c_TooMany c_NoNumber c_NoDating c_BadRow c_NoRow c_NoName):dL P w K mg base 1 "_law_names" ["_law_number","_law_many"] (cJ K cn 2 mN):=by
 refine dI (d:=sY) F sc_law_names (λ_ _ _ _ _ _ us hl=>match us,hl with|[_,_],_=>rfl) (λf cdv A outer s H E hr=>⟨_,(aN (bK (i:=2) sc_law_names.nd rfl (by first|exact .inl rfl|exact .inr rfl) cH)
  (aN (bK (i:=3) sc_law_names.nd rfl (by first|exact .inl rfl|exact .inr rfl) (aP eK (pv 0) aH))
  (aN (dW (dB (gH K (n:=bV) hr) (aP bU (pv 0) aH) aH (dH _)) (aW (bM (gA (ks:=[7]) ⟨rfl,by decide+kernel,by decide+kernel,by rfl,by rfl⟩ rfl (iH rfl T.jV (aB (pv 1) aK)) (λ_ _ _ _ _=>(bE (i:=7) sc_law_names.nd rfl (by first|exact .inl rfl|exact .inr rfl))) (λ_ _ _ _ _=>eE) (λ_ _ _ _ _=>(aP fK (bH (bT K) (pv 2) (aP bU (pv 3) aH) (λ_ _=>rfl)) (aP (bB K) (pv 7) aH)))))) cK)
  (aN (dW (dB (gH K (n:=bV) hr) (aP bU (pv 0) aH) aH (dH _)) (aN (bK (i:=4) sc_law_names.nd rfl (by first|exact .inl rfl|exact .inr rfl) (bF (aB cH (aB cH (aB cH (aB cH (aB cH (aB cH (aB cH (aB cH aK))))))))))
  (aW (bM (eL (mD K) (aP (bB K) (eL (mD K) (pv 4) (eY (aP bU (pv 3) aH)) gM) (eL (mD K) (pv 4) gM (eY (aP bU (pv 3) aH)))) gM (eY (pv 1)))))) cK)
  (aN (bK (i:=5) sc_law_names.nd rfl (by first|exact .inl rfl|exact .inr rfl) (aP (bB K) aH (aP bU (pv 3) aH)))
  (aN (bK (i:=6) sc_law_names.nd rfl (by first|exact .inl rfl|exact .inr rfl) (aP bU (aP eK (pv 3) aH) (pv 5)))
  (aW (bM (gA (ks:=[7]) ⟨rfl,by decide+kernel,by decide+kernel,by rfl,by rfl⟩ rfl (iH rfl T.jV (aB (pv 1) aK)) (λ_ _ _ _ _=>(bE (i:=7) sc_law_names.nd rfl (by first|exact .inl rfl|exact .inr rfl))) (λ_ _ _ _ _=>eE) (λ_ _ _ _ _=>(aP (bB K) (aP (bB K) (aP fK cH (pv 6)) (bH (bT K) (pv 2) (aP bU (aP (bB K) (aP eK (pv 3) aH) (pv 7)) aH) (λ_ _=>rfl))) (aP fK cH (aP lH (aP lH (pv 5) aH) (pv 6)))))))))))))),
  (aU (bJ cC (aT 2))
   (aU (bJ (aL fW (aD 0) (RE.rb aG)) (aT 3))
   (aU (dU (cW (RE.rb (aL kU (RE.rb (aL cN (aD 0) (RE.rb aG))) (RE.rb aG)))) (bN (fE (kP (aI (aD 1) aR)) (aT 7) fB (aL iU (bI (aD 2) (RE.rb (aL cN (aD 3) (RE.rb aG)))) (RE.rb (aL bQ (aD 7) (RE.rb aG)))))) cI)
   (aU (dU (cW (RE.rb (aL kU (RE.rb (aL cN (aD 0) (RE.rb aG))) (RE.rb aG)))) (aU (bJ (bG (aM cC (aM cC (aM cC (aM cC (aM cC (aM cC (aM cC (aM cC bC))))))))) (aT 4))
   (bN (jI mC (RE.rb (aL bQ (RE.rb (jI mC (aD 4) (eW (RE.rb (aL cN (aD 3) (RE.rb aG)))) gN)) (RE.rb (jI mC (aD 4) gN (eW (RE.rb (aL cN (aD 3) (RE.rb aG)))))))) gN (eW (aD 1))))) cI)
   (aU (bJ (aL bQ (RE.rb aG) (RE.rb (aL cN (aD 3) (RE.rb aG)))) (aT 5))
   (aU (bJ (aL cN (RE.rb (aL fW (aD 3) (RE.rb aG))) (aD 5)) (aT 6))
   (bN (fE (kP (aI (aD 1) aR)) (aT 7) fB (aL bQ (RE.rb (aL bQ (RE.rb (aL iU (RE.rb cC) (aD 6))) (bI (aD 2) (RE.rb (aL cN (RE.rb (aL bQ (RE.rb (aL fW (aD 3) (RE.rb aG))) (aD 7))) (RE.rb aG)))))) (RE.rb (aL iU (RE.rb cC) (RE.rb (aL nR (RE.rb (aL nR (aD 5) (RE.rb aG))) (aD 6))))))))))))))⟩) rfl (λ_=>rfl)
theorem sc_law_spread:bL ["_law_number","_law_many","_law_found","_law_rest","_law_k","_law_digits","_law_turn","_law_upper","_law_lower"] ["_law_number","_law_many"] (aS rV):=⟨rfl,rfl,rfl,by decide+kernel,rfl,by decide+kernel,by decide+kernel⟩
theorem jQ(F:dR K mg "_law_spread" rV)(T:Txt w K cn mg c_Archive c_BadArchive c_ArchiveError c_BadSaying c_NoAge c_Stuck c_NoYear c_NoGap c_TooMany c_NoNumber c_NoDating c_BadRow c_NoRow c_NoName):dL P w K mg base 1 "_law_spread" ["_law_number","_law_many"] (cJ K cn 2 eT):=by
 refine dI (d:=sD) F sc_law_spread (λ_ _ _ _ _ _ us hl=>match us,hl with|[_,_],_=>rfl) (λf cdv A outer s H E hr=>⟨_,(aN (bK (i:=2) sc_law_spread.nd rfl (by first|exact .inl rfl|exact .inr rfl) (bF aK))
  (aN (bK (i:=3) sc_law_spread.nd rfl (by first|exact .inl rfl|exact .inr rfl) (aP eK (pv 0) aH))
  (aN (lM PassesOwn.never rfl (iH rfl T.jV (aB (aP fK (pv 1) (aP lH aH (aP bU (pv 0) aH))) aK)) (bE (i:=4) sc_law_spread.nd rfl (by first|exact .inl rfl|exact .inr rfl)) (aN (rO (bD (sC K) rfl T.zO wQ (aB (pv 3) (aB (aP tM aH aH) aK))) (iR K 2 rfl (cQ (bE (i:=3) sc_law_spread.nd rfl (by first|exact .inl rfl|exact .inr rfl)) (cQ (bE (i:=5) sc_law_spread.nd rfl (by first|exact .inl rfl|exact .inr rfl)) iS))))
  (aW (iT (lF K PySem.F.plainAttrs_list PySem.F.slot_list_append PySem.F.type_list_append iJ (pv 2) (aB (pv 5) aK))))))
  (aN (bK (i:=3) sc_law_spread.nd rfl (by first|exact .inl rfl|exact .inr rfl) (aP (bB K) (aP bU (pv 3) aH) aH))
  (aN (aa6 PassesOwn.never (dB cl7 (bD (eZ K) rfl T.kY jS (aB (pv 2) aK)) (pv 1) (dH _)) (aN (lM PassesOwn.never rfl (iH rfl T.jV (aB aH aK)) (bE (i:=6) sc_law_spread.nd rfl (by first|exact .inl rfl|exact .inr rfl)) (aN (rO (bD (sC K) rfl T.zO wQ (aB (pv 3) (aB aH aK))) (iR K 2 rfl (cQ (bE (i:=7) sc_law_spread.nd rfl (by first|exact .inl rfl|exact .inr rfl)) (cQ (bE (i:=8) sc_law_spread.nd rfl (by first|exact .inl rfl|exact .inr rfl)) iS))))
  (aW (bK (i:=3) sc_law_spread.nd rfl (by first|exact .inl rfl|exact .inr rfl) (aP bU (aP (bB K) (aP (bB K) (aP (bB K) (aP fK (pv 8) aH) (aP fK (pv 7) aH)) (aP fK aH (bD (eZ K) rfl T.kY jS (aB (pv 2) aK)))) aH) aH)))))
  (aW (iT (lF K PySem.F.plainAttrs_list PySem.F.slot_list_append PySem.F.type_list_append iJ (pv 2) (aB (aP eK (pv 3) aH) aK))))))
  (aW (bM (pv 2)))))))),
  (aU (bJ (bG bC) (aT 2))
   (aU (bJ (aL fW (aD 0) (RE.rb aG)) (aT 3))
   (aU (mK (kP (aI (RE.rb (aL iU (aD 1) (RE.rb (aL nR (RE.rb aG) (RE.rb (aL cN (aD 0) (RE.rb aG))))))) aR)) (aT 4) (aU (bJ (cT yT (aI (aD 3) (aI (RE.rb (aL xU (RE.rb aG) (RE.rb aG))) aR))) (lJ (cX (aT 3) (cX (aT 5) jO))))
   (pJ (j:=2) (fT 2) (RB.chk (aD 5)))))
   (aU (bJ (aL bQ (RE.rb (aL cN (aD 3) (RE.rb aG))) (RE.rb aG)) (aT 3))
   (aU (al4 (cW (RE.rb (aL ca8 (RE.rb (cT lV (aI (aD 2) aR))) (aD 1)))) (aU (mK (kP (aI (RE.rb aG) aR)) (aT 6) (aU (bJ (cT yT (aI (aD 3) (aI (RE.rb aG) aR))) (lJ (cX (aT 7) (cX (aT 8) jO))))
   (bJ (aL cN (RE.rb (aL bQ (RE.rb (aL bQ (RE.rb (aL bQ (RE.rb (aL iU (aD 8) (RE.rb aG))) (RE.rb (aL iU (aD 7) (RE.rb aG))))) (RE.rb (aL iU (RE.rb aG) (RE.rb (cT lV (aI (aD 2) aR))))))) (RE.rb aG))) (RE.rb aG)) (aT 3))))
   (pJ (j:=2) (fT 2) (aL fW (aD 3) (RE.rb aG)))))
   (bN (yD 2)))))))⟩) rfl (λ_=>rfl)
theorem sc_law_table:bL ["_law_number","_law_most","_law_xs","_law_dark","_law_found","_law_fall"] ["_law_number","_law_most"] (aS sT):=⟨rfl,rfl,rfl,by decide+kernel,rfl,by decide+kernel,by decide+kernel⟩
theorem sS(F:dR K mg "_law_table" sT)(T:Txt w K cn mg c_Archive c_BadArchive c_ArchiveError c_BadSaying c_NoAge c_Stuck c_NoYear c_NoGap c_TooMany c_NoNumber c_NoDating c_BadRow c_NoRow c_NoName)(jQ:dL P w K mg base 1 "_law_spread" ["_law_number","_law_many"] (cJ K cn 2 eT)):dL P w K mg base 2 "_law_table" ["_law_number","_law_most"] (cJ K cn 2 kR):=by
 refine dI (d:=sP) F sc_law_table (λ_ _ _ _ _ _ us hl=>match us,hl with|[_,_],_=>rfl) (λf cdv A outer s H E hr=>⟨_,(aN (bK (i:=2) sc_law_table.nd rfl (by first|exact .inl rfl|exact .inr rfl) (bX jQ (hr.mono (by decide)) (aB (pv 0) (aB aH aK))))
  (aN (bK (i:=3) sc_law_table.nd rfl (by first|exact .inl rfl|exact .inr rfl) (bH (bT K) (bF (aB (aP tM aH aH) (aB aH (aB (aP bU (bH (bT K) (pv 2) aH (λ_ _=>rfl)) (aP (bB K) (aP tM aH aH) aH)) aK)))) (aP bU (bH (bT K) (pv 2) aH (λ_ _=>rfl)) aH) (λ_ _=>rfl)))
  (aN (bK (i:=4) sc_law_table.nd rfl (by first|exact .inl rfl|exact .inr rfl) (bF aK))
  (aN (lM PassesOwn.never rfl (jP K (bX jQ (hr.mono (by decide)) (aB (aP eK (pv 0) aH) (aB (aP (bB K) aH (aP bU (bH (bT K) (pv 2) aH (λ_ _=>rfl)) (pv 1))) aK)))) (bE (i:=5) sc_law_table.nd rfl (by first|exact .inl rfl|exact .inr rfl)) (aN (iT (lF K PySem.F.plainAttrs_list PySem.F.slot_list_append PySem.F.type_list_append iJ (pv 4) (aB (pv 3) aK)))
  (aW (bK (i:=3) sc_law_table.nd rfl (by first|exact .inl rfl|exact .inr rfl) (bD (bs1 K) rfl T.cq7 ci3 (aB aH (aB (aP lH (pv 3) (aP bU (pv 5) (bH (bT K) (bF (aB aH (aB aH (aB aH (aB aH (aB (aP (bB K) (aP tM aH aH) aH) aK)))))) (aP bU (bH (bT K) (pv 2) aH (λ_ _=>rfl)) aH) (λ_ _=>rfl)))) aK)))))))
  (aW (bM (pv 4))))))),
  (aU (bJ (cD (aI (aD 0) (aI (RE.rb aG) aR))) (aT 2))
   (aU (bJ (RB.chk (bI (RE.rb (bG (aM (aL xU (RE.rb aG) (RE.rb aG)) (aM aG (aM (aL cN (bI (aD 2) (RE.rb aG)) (RE.rb (aL bQ (RE.rb (aL xU (RE.rb aG) (RE.rb aG))) (RE.rb aG)))) bC))))) (RE.rb (aL cN (bI (aD 2) (RE.rb aG)) (RE.rb aG))))) (aT 3))
   (aU (bJ (bG bC) (aT 4))
   (aU (mK (ad9 (RE.rb (RE.frz (cD (aI (RE.rb (aL fW (aD 0) (RE.rb aG))) (aI (RE.rb (aL bQ (RE.rb aG) (RE.rb (aL cN (bI (aD 2) (RE.rb aG)) (aD 1))))) aR)))))) (aT 5) (aU (pJ (j:=4) (fT 4) (RB.chk (aD 3)))
   (bJ (cT cn6 (aI (RE.rb aG) (aI (RE.rb (aL nR (aD 3) (RE.rb (aL cN (aD 5) (bI (RE.rb (bG (aM aG (aM aG (aM aG (aM aG (aM (aL bQ (RE.rb (aL xU (RE.rb aG) (RE.rb aG))) (RE.rb aG)) bC))))))) (RE.rb (aL cN (bI (aD 2) (RE.rb aG)) (RE.rb aG)))))))) aR))) (aT 3))))
   (bN (yD 4))))))⟩) rfl (λ_=>rfl)
theorem sc_law_made:bL ["_law_script","_law_number","_law_span","_law_first","_law_letters","_law_inks","_law_k","_law_reigns","_law_xs","_law_begin"] ["_law_script"] (aS uW):=⟨rfl,rfl,rfl,by decide+kernel,rfl,by decide+kernel,by decide+kernel⟩
theorem vH(F:dR K mg "_law_made" uW)(T:Txt w K cn mg c_Archive c_BadArchive c_ArchiveError c_BadSaying c_NoAge c_Stuck c_NoYear c_NoGap c_TooMany c_NoNumber c_NoDating c_BadRow c_NoRow c_NoName)(gC:dL P w K mg base 1 "_law_got" ["_law_script","_law_place"] (cJ K cn 2 eO))(tB:dL P w K mg base 1 "_law_names" ["_law_number","_law_many"] (cJ K cn 2 mN))(sS:dL P w K mg base 2 "_law_table" ["_law_number","_law_most"] (cJ K cn 2 kR))(jQ:dL P w K mg base 1 "_law_spread" ["_law_number","_law_many"] (cJ K cn 2 eT)):dL P w K mg base 3 "_law_made" ["_law_script"] (cJ K cn 1 nL):=by
 refine dI (d:=uS) F sc_law_made (λ_ _ _ _ _ _ us hl=>match us,hl with|[_],_=>rfl) (λf cdv A outer s H E hr=>⟨_,(aN (bK (i:=1) sc_law_made.nd rfl (by first|exact .inl rfl|exact .inr rfl) (bX gC (hr.mono (by decide)) (aB (pv 0) (aB aH aK))))
  (aN (bK (i:=2) sc_law_made.nd rfl (by first|exact .inl rfl|exact .inr rfl) (bH (bT K) (bF (aB (aP bU (aP eK (pv 1) aH) aH) (aB aH (aB aH aK)))) (aP bU (pv 1) aH) (λ_ _=>rfl)))
  (aN (bK (i:=3) sc_law_made.nd rfl (by first|exact .inl rfl|exact .inr rfl) (bH (bT K) (bF (aB (aP lH (aP bU (aP eK (pv 1) aH) aH) aH) (aB (qG nP aH) (aB (aP lH aH (pv 2)) aK)))) (aP bU (aP eK (pv 1) aH) aH) (λ_ _=>rfl)))
  (aN (bK (i:=4) sc_law_made.nd rfl (by first|exact .inl rfl|exact .inr rfl) (bX tB (hr.mono (by decide)) (aB (bX gC (hr.mono (by decide)) (aB (pv 0) (aB aH aK))) (aB (aP (bB K) aH (aP bU (aP eK (bX gC (hr.mono (by decide)) (aB (pv 0) (aB aH aK))) aH) aH)) aK))))
  (aN (bK (i:=5) sc_law_made.nd rfl (by first|exact .inl rfl|exact .inr rfl) (bF aK))
  (aN (lM PassesOwn.never rfl (iH rfl T.jV (aB (aP bU (bX gC (hr.mono (by decide)) (aB (pv 0) (aB aH aK))) aH) aK)) (bE (i:=6) sc_law_made.nd rfl (by first|exact .inl rfl|exact .inr rfl)) (aW (iT (lF K PySem.F.plainAttrs_list PySem.F.slot_list_append PySem.F.type_list_append iJ (pv 5) (aB (bF (aB (aP (bB K) cH (bH (bT K) cH (pv 6) (λ_ _=>rfl))) (aB (bX sS (hr.mono (by decide)) (aB (aP (bB K) (bX gC (hr.mono (by decide)) (aB (pv 0) (aB (aP (bB K) aH (pv 6)) aK))) (aP fK aH (pv 6))) (aB aH aK))) aK))) aK)))))
  (aN (bK (i:=7) sc_law_made.nd rfl (by first|exact .inl rfl|exact .inr rfl) (bF aK))
  (aN (lM PassesOwn.never rfl (iH rfl T.jV (aB (aP bU (bX gC (hr.mono (by decide)) (aB (pv 0) (aB aH aK))) aH) aK)) (bE (i:=6) sc_law_made.nd rfl (by first|exact .inl rfl|exact .inr rfl)) (aN (bK (i:=8) sc_law_made.nd rfl (by first|exact .inl rfl|exact .inr rfl) (bX jQ (hr.mono (by decide)) (aB (aP (bB K) (bX gC (hr.mono (by decide)) (aB (pv 0) (aB (aP (bB K) aH (pv 6)) aK))) (aP fK aH (pv 6))) (aB aH aK))))
  (aN (bK (i:=9) sc_law_made.nd rfl (by first|exact .inl rfl|exact .inr rfl) (bH (bT K) (bF (aB (qG nP aH) (aB aH (aB (aP lH (aP bU (bH (bT K) (pv 8) aH (λ_ _=>rfl)) aH) aH) aK)))) (aP bU (bH (bT K) (pv 8) aH (λ_ _=>rfl)) aH) (λ_ _=>rfl)))
  (aW (iT (lF K PySem.F.plainAttrs_list PySem.F.slot_list_append PySem.F.type_list_append iJ (pv 7) (aB (bF (aB (aP (bB K) cH (bH (bT K) cH (pv 6) (λ_ _=>rfl))) (aB (pv 9) (aB (bH (bT K) (bF (aB aH (aB aH (aB (aP (bB K) aH (aP bU (bH (bT K) (pv 8) aH (λ_ _=>rfl)) aH)) aK)))) (aP bU (bH (bT K) (pv 8) aH (λ_ _=>rfl)) aH) (λ_ _=>rfl)) aK)))) aK)))))))
  (aW (bM (bF (aB (bF (aB (pv 3) (aB (aP (bB K) (pv 3) (pv 2)) aK))) (aB (pv 4) (aB (pv 5) (aB (pv 7) aK))))))))))))))),
  (aU (bJ (cD (aI (aD 0) (aI (RE.rb aG) aR))) (aT 1))
   (aU (bJ (RB.chk (bI (RE.rb (bG (aM (aL cN (RE.rb (aL fW (aD 1) (RE.rb aG))) (RE.rb aG)) (aM aG (aM aG bC))))) (RE.rb (aL cN (aD 1) (RE.rb aG))))) (aT 2))
   (aU (bJ (RB.chk (bI (RE.rb (bG (aM (aL nR (RE.rb (aL cN (RE.rb (aL fW (aD 1) (RE.rb aG))) (RE.rb aG))) (RE.rb aG)) (aM (qM qO (RE.rb aG)) (aM (aL nR (RE.rb aG) (aD 2)) bC))))) (RE.rb (aL cN (RE.rb (aL fW (aD 1) (RE.rb aG))) (RE.rb aG))))) (aT 3))
   (aU (bJ (cD (aI (RE.rb (cD (aI (aD 0) (aI (RE.rb aG) aR)))) (aI (RE.rb (aL bQ (RE.rb aG) (RE.rb (aL cN (RE.rb (aL fW (RE.rb (cD (aI (aD 0) (aI (RE.rb aG) aR)))) (RE.rb aG))) (RE.rb aG))))) aR))) (aT 4))
   (aU (bJ (bG bC) (aT 5))
   (aU (mK (kP (aI (RE.rb (aL cN (RE.rb (cD (aI (aD 0) (aI (RE.rb aG) aR)))) (RE.rb aG))) aR)) (aT 6) (pJ (j:=5) (fT 5) (bG (aM (aL bQ (RE.rb cC) (bI (RE.rb cC) (aD 6))) (aM (cD (aI (RE.rb (aL bQ (RE.rb (cD (aI (aD 0) (aI (RE.rb (aL bQ (RE.rb aG) (aD 6))) aR)))) (RE.rb (aL iU (RE.rb aG) (aD 6))))) (aI (RE.rb aG) aR))) bC)))))
   (aU (bJ (bG bC) (aT 7))
   (aU (mK (kP (aI (RE.rb (aL cN (RE.rb (cD (aI (aD 0) (aI (RE.rb aG) aR)))) (RE.rb aG))) aR)) (aT 6) (aU (bJ (cD (aI (RE.rb (aL bQ (RE.rb (cD (aI (aD 0) (aI (RE.rb (aL bQ (RE.rb aG) (aD 6))) aR)))) (RE.rb (aL iU (RE.rb aG) (aD 6))))) (aI (RE.rb aG) aR))) (aT 8))
   (aU (bJ (RB.chk (bI (RE.rb (bG (aM (qM qO (RE.rb aG)) (aM aG (aM (aL nR (RE.rb (aL cN (bI (aD 8) (RE.rb aG)) (RE.rb aG))) (RE.rb aG)) bC))))) (RE.rb (aL cN (bI (aD 8) (RE.rb aG)) (RE.rb aG))))) (aT 9))
   (pJ (j:=7) (fT 7) (bG (aM (aL bQ (RE.rb cC) (bI (RE.rb cC) (aD 6))) (aM (RB.chk (aD 9)) (aM (RB.chk (bI (RE.rb (bG (aM aG (aM aG (aM (aL bQ (RE.rb aG) (RE.rb (aL cN (bI (aD 8) (RE.rb aG)) (RE.rb aG)))) bC))))) (RE.rb (aL cN (bI (aD 8) (RE.rb aG)) (RE.rb aG))))) bC))))))))
   (bN (bG (aM (bG (aM (RB.chk (aD 3)) (aM (aL bQ (aD 3) (aD 2)) bC))) (aM (yD 4) (aM (yD 5) (aM (yD 7) bC))))))))))))))⟩) rfl (λ_=>rfl)
theorem vS:bL ["_law_years","_law_number"] ["_law_years","_law_number"] (aS lE):=⟨rfl,rfl,rfl,by decide+kernel,rfl,by decide+kernel,by decide+kernel⟩
theorem lO(F:dR K mg "_law_spoilt_years" lE)(T:Txt w K cn mg c_Archive c_BadArchive c_ArchiveError c_BadSaying c_NoAge c_Stuck c_NoYear c_NoGap c_TooMany c_NoNumber c_NoDating c_BadRow c_NoRow c_NoName):dL P w K mg base 1 "_law_spoilt_years" ["_law_years","_law_number"] (cJ K cn 2 hU):=by
 refine dI (d:=lG) F vS (λ_ _ _ _ _ _ us hl=>match us,hl with|[_,_],_=>rfl) (λf cdv A outer s H E hr=>⟨_,(aW (bM (bH (bT K) (bF (aB (bF (aB (bH (bT K) (pv 0) aH (λ_ _=>rfl)) (aB (aP lH (bH (bT K) (pv 0) aH (λ_ _=>rfl)) aH) aK))) (aB (bF (aB (bH (bT K) (pv 0) aH (λ_ _=>rfl)) (aB (aP (bB K) (bH (bT K) (pv 0) aH (λ_ _=>rfl)) aH) aK))) (aB (bF (aB (qG nP aH) (aB (qG nP aH) aK))) (aB (bF (aB aH (aB aH aK))) aK))))) (aP bU (pv 1) aH) (λ_ _=>rfl)))),
  (bN (RB.chk (bI (RE.rb (RE.frz (bG (aM (bG (aM (RB.chk (bI (aD 0) (RE.rb aG))) (aM (aL nR (bI (aD 0) (RE.rb aG)) (RE.rb aG)) bC))) (aM (bG (aM (RB.chk (bI (aD 0) (RE.rb aG))) (aM (aL bQ (bI (aD 0) (RE.rb aG)) (RE.rb aG)) bC))) (aM (bG (aM (qM qO (RE.rb aG)) (aM (qM qO (RE.rb aG)) bC))) (aM (bG (aM aG (aM aG bC))) bC))))))) (RE.rb (aL cN (aD 1) (RE.rb aG))))))⟩) rfl (λ_=>rfl)
theorem sc_law_spoilt_letters:bL ["_law_letters","_law_number","_law_way","_law_at","_law_k"] ["_law_letters","_law_number"] (aS jX):=⟨rfl,rfl,rfl,by decide+kernel,rfl,by decide+kernel,by decide+kernel⟩
theorem kG(F:dR K mg "_law_spoilt_letters" jX)(T:Txt w K cn mg c_Archive c_BadArchive c_ArchiveError c_BadSaying c_NoAge c_Stuck c_NoYear c_NoGap c_TooMany c_NoNumber c_NoDating c_BadRow c_NoRow c_NoName):dL P w K mg base 1 "_law_spoilt_letters" ["_law_letters","_law_number"] (cJ K cn 2 fX):=by
 refine dI (d:=kH) F sc_law_spoilt_letters (λ_ _ _ _ _ _ us hl=>match us,hl with|[_,_],_=>rfl) (λf cdv A outer s H E hr=>⟨_,(aN (bK (i:=2) sc_law_spoilt_letters.nd rfl (by first|exact .inl rfl|exact .inr rfl) (aP bU (pv 1) aH))
  (aN (bK (i:=3) sc_law_spoilt_letters.nd rfl (by first|exact .inl rfl|exact .inr rfl) (aP bU (aP eK (pv 1) aH) (bD (eZ K) rfl T.kY jS (aB (pv 0) aK))))
  (aN (dW (dB (gH K (n:=bV) hr) (pv 2) aH (dH _)) (aW (bM (bF aK))) cK)
  (aN (dW (dB (gH K (n:=bV) hr) (pv 2) aH (dH _)) (aW (bM (aP (bB K) (gA (ks:=[4]) ⟨rfl,by decide+kernel,by decide+kernel,by rfl,by rfl⟩ rfl (iH rfl T.jV (aB aH aK)) (λ_ _ _ _ _=>(bE (i:=4) sc_law_spoilt_letters.nd rfl (by first|exact .inl rfl|exact .inr rfl))) (λ_ _ _ _ _=>eE) (λ_ _ _ _ _=>(aP fK cH (aP (bB K) (pv 4) aH)))) (bF (aB cH aK))))) cK)
  (aN (dW (dB (gH K (n:=bV) hr) (pv 2) aH (dH _)) (aW (bM (aP (bB K) (aP (bB K) (eL (mD K) (pv 0) gM (eY (pv 3))) (bF (aB (bH (bT K) (pv 0) (aP bU (aP eK (pv 1) aH) (bD (eZ K) rfl T.kY jS (aB (pv 0) aK))) (λ_ _=>rfl)) aK))) (eL (mD K) (pv 0) (eY (pv 3)) gM)))) cK)
  (aW (bM (aP (bB K) (aP (bB K) (eL (mD K) (pv 0) gM (eY (pv 3))) (bF (aB (bH (bT K) (bF (aB cH (aB cH (aB cH (aB cH (aB cH aK)))))) (aP bU (aP eK (pv 1) aH) aH) (λ_ _=>rfl)) aK))) (eL (mD K) (pv 0) (eY (aP (bB K) (pv 3) aH)) gM))))))))),
  (aU (bJ (aL cN (aD 1) (RE.rb aG)) (aT 2))
   (aU (bJ (aL cN (RE.rb (aL fW (aD 1) (RE.rb aG))) (RE.rb (cT lV (aI (aD 0) aR)))) (aT 3))
   (aU (dU (cW (RE.rb (aL kU (aD 2) (RE.rb aG)))) (bN (bG bC)) cI)
   (aU (dU (cW (RE.rb (aL kU (aD 2) (RE.rb aG)))) (bN (aL bQ (RE.rb (fE (kP (aI (RE.rb aG) aR)) (aT 4) fB (aL iU (RE.rb cC) (RE.rb (aL bQ (aD 4) (RE.rb aG)))))) (RE.rb (bG (aM cC bC))))) cI)
   (aU (dU (cW (RE.rb (aL kU (aD 2) (RE.rb aG)))) (bN (aL bQ (RE.rb (aL bQ (RE.rb (jI mC (aD 0) gN (eW (aD 3)))) (RE.rb (bG (aM (RB.chk (bI (aD 0) (RE.rb (aL cN (RE.rb (aL fW (aD 1) (RE.rb aG))) (RE.rb (cT lV (aI (aD 0) aR))))))) bC))))) (RE.rb (jI mC (aD 0) (eW (aD 3)) gN)))) cI)
   (bN (aL bQ (RE.rb (aL bQ (RE.rb (jI mC (aD 0) gN (eW (aD 3)))) (RE.rb (bG (aM (RB.chk (bI (RE.rb (bG (aM cC (aM cC (aM cC (aM cC (aM cC bC))))))) (RE.rb (aL cN (RE.rb (aL fW (aD 1) (RE.rb aG))) (RE.rb aG))))) bC))))) (RE.rb (jI mC (aD 0) (eW (RE.rb (aL bQ (aD 3) (RE.rb aG)))) gN)))))))))⟩) rfl (λ_=>rfl)
theorem sc_law_spoilt_list:bL ["_law_some","_law_most","_law_number","_law_odd","_law_way","_law_at","_law_name","_law_worse","_law_k"] ["_law_some","_law_most","_law_number","_law_odd"] (aS lZ):=⟨rfl,rfl,rfl,by decide+kernel,rfl,by decide+kernel,by decide+kernel⟩
theorem jJ(F:dR K mg "_law_spoilt_list" lZ)(T:Txt w K cn mg c_Archive c_BadArchive c_ArchiveError c_BadSaying c_NoAge c_Stuck c_NoYear c_NoGap c_TooMany c_NoNumber c_NoDating c_BadRow c_NoRow c_NoName):dL P w K mg base 1 "_law_spoilt_list" ["_law_some","_law_most","_law_number","_law_odd"] (cJ K cn 4 eA):=by
 refine dI (d:=mB) F sc_law_spoilt_list (λ_ _ _ _ _ _ us hl=>match us,hl with|[_,_,_,_],_=>rfl) (λf cdv A outer s H E hr=>⟨_,(aN (bK (i:=4) sc_law_spoilt_list.nd rfl (by first|exact .inl rfl|exact .inr rfl) (aP bU (pv 2) aH))
  (aN (dW (PW.pt (uN (dB (gH K (n:=bV) hr) (pv 4) aH (dH _)) (tG (dB (gH K (n:=bV) hr) (pv 0) (bF aK) (dH _))))) (aW (bM (gA (ks:=[8]) ⟨rfl,by decide+kernel,by decide+kernel,by rfl,by rfl⟩ rfl (iH rfl T.jV (aB (aP (bB K) (pv 1) aH) aK)) (λ_ _ _ _ _=>(bE (i:=8) sc_law_spoilt_list.nd rfl (by first|exact .inl rfl|exact .inr rfl))) (λ_ _ _ _ _=>eE) (λ_ _ _ _ _=>(aP (bB K) (bF (aB (aP (bB K) cH (bH (bT K) cH (pv 8) (λ_ _=>rfl))) aK)) (bH (bT K) (pv 3) aH (λ_ _=>rfl))))))) cK)
  (aN (bK (i:=5) sc_law_spoilt_list.nd rfl (by first|exact .inl rfl|exact .inr rfl) (aP bU (aP eK (pv 2) aH) (bD (eZ K) rfl T.kY jS (aB (pv 0) aK))))
  (aN (dW (dB (gH K (n:=bV) hr) (pv 4) aH (dH _)) (aW (bM (aP (bB K) (aP (bB K) (eL (mD K) (pv 0) gM (eY (pv 5))) (bF (aB (gX (iW K) rfl T.nZ lT (aB (bH (bT K) (pv 0) (aP bU (aP eK (pv 2) aH) (bD (eZ K) rfl T.kY jS (aB (pv 0) aK))) (λ_ _=>rfl)) aK)) aK))) (eL (mD K) (pv 0) (eY (pv 5)) gM)))) cK)
  (aN (dW (dB (gH K (n:=bV) hr) (pv 4) aH (dH _)) (aN (bK (i:=6) sc_law_spoilt_list.nd rfl (by first|exact .inl rfl|exact .inr rfl) (bH (bT K) (bF (aB cH (aB cH (aB cH (aB cH aK))))) (aP bU (aP eK (pv 2) aH) aH) (λ_ _=>rfl)))
  (aW (bM (aP (bB K) (aP (bB K) (eL (mD K) (pv 0) gM (eY (pv 5))) (bF (aB (aP (bB K) (bF (aB (pv 6) aK)) (eL (mD K) (bH (bT K) (pv 0) (pv 5) (λ_ _=>rfl)) (eY aH) gM)) aK))) (eL (mD K) (pv 0) (eY (aP (bB K) (pv 5) aH)) gM))))) cK)
  (aN (bK (i:=7) sc_law_spoilt_list.nd rfl (by first|exact .inl rfl|exact .inr rfl) (bH (bT K) (pv 3) (aP (bB K) aH (aP bU (aP eK (pv 2) aH) (aP lH (bD (eZ K) rfl T.kY jS (aB (pv 3) aK)) aH))) (λ_ _=>rfl)))
  (aW (bM (aP (bB K) (aP (bB K) (eL (mD K) (pv 0) gM (eY (pv 5))) (bF (aB (aP (bB K) (eL (mD K) (bH (bT K) (pv 0) (pv 5) (λ_ _=>rfl)) gM (eY aH)) (pv 7)) aK))) (eL (mD K) (pv 0) (eY (aP (bB K) (pv 5) aH)) gM)))))))))),
  (aU (bJ (aL cN (aD 2) (RE.rb aG)) (aT 4))
   (aU (dU (uH (cW (RE.rb (aL kU (aD 4) (RE.rb aG)))) (cW (RE.rb (aL kU (aD 0) (RE.rb (bG bC)))))) (bN (fE (kP (aI (RE.rb (aL bQ (aD 1) (RE.rb aG))) aR)) (aT 8) fB (aL bQ (RE.rb (bG (aM (aL bQ (RE.rb cC) (bI (RE.rb cC) (aD 8))) bC))) (bI (aD 3) (RE.rb aG))))) cI)
   (aU (bJ (aL cN (RE.rb (aL fW (aD 2) (RE.rb aG))) (RE.rb (cT lV (aI (aD 0) aR)))) (aT 5))
   (aU (dU (cW (RE.rb (aL kU (aD 4) (RE.rb aG)))) (bN (aL bQ (RE.rb (aL bQ (RE.rb (jI mC (aD 0) gN (eW (aD 5)))) (RE.rb (RE.frz (bG (aM (cT pG (aI (bI (aD 0) (RE.rb (aL cN (RE.rb (aL fW (aD 2) (RE.rb aG))) (RE.rb (cT lV (aI (aD 0) aR)))))) aR)) bC)))))) (RE.rb (jI mC (aD 0) (eW (aD 5)) gN)))) cI)
   (aU (dU (cW (RE.rb (aL kU (aD 4) (RE.rb aG)))) (aU (bJ (RB.chk (bI (RE.rb (RE.frz (bG (aM cC (aM cC (aM cC (aM cC bC))))))) (RE.rb (aL cN (RE.rb (aL fW (aD 2) (RE.rb aG))) (RE.rb aG))))) (aT 6))
   (bN (aL bQ (RE.rb (aL bQ (RE.rb (jI mC (aD 0) gN (eW (aD 5)))) (RE.rb (RE.frz (bG (aM (aL bQ (RE.rb (bG (aM (RB.chk (aD 6)) bC))) (RE.rb (jI mC (bI (aD 0) (aD 5)) (eW (RE.rb aG)) gN))) bC)))))) (RE.rb (jI mC (aD 0) (eW (RE.rb (aL bQ (aD 5) (RE.rb aG)))) gN))))) cI)
   (aU (bJ (RB.chk (bI (aD 3) (RE.rb (aL bQ (RE.rb aG) (RE.rb (aL cN (RE.rb (aL fW (aD 2) (RE.rb aG))) (RE.rb (aL nR (RE.rb (cT lV (aI (aD 3) aR))) (RE.rb aG))))))))) (aT 7))
   (bN (aL bQ (RE.rb (aL bQ (RE.rb (jI mC (aD 0) gN (eW (aD 5)))) (RE.rb (RE.frz (bG (aM (aL bQ (RE.rb (jI mC (bI (aD 0) (aD 5)) gN (eW (RE.rb aG)))) (aD 7)) bC)))))) (RE.rb (jI mC (aD 0) (eW (RE.rb (aL bQ (aD 5) (RE.rb aG)))) gN))))))))))⟩) rfl (λ_=>rfl)
theorem sc_law_spoilt:bL ["_law_parts","_law_number","_law_way","_law_rest","_law_odd"] ["_law_parts","_law_number"] (aS rX):=⟨rfl,rfl,rfl,by decide+kernel,rfl,by decide+kernel,by decide+kernel⟩
theorem nX(F:dR K mg "_law_spoilt" rX)(T:Txt w K cn mg c_Archive c_BadArchive c_ArchiveError c_BadSaying c_NoAge c_Stuck c_NoYear c_NoGap c_TooMany c_NoNumber c_NoDating c_BadRow c_NoRow c_NoName)(lO:dL P w K mg base 1 "_law_spoilt_years" ["_law_years","_law_number"] (cJ K cn 2 hU))(kG:dL P w K mg base 1 "_law_spoilt_letters" ["_law_letters","_law_number"] (cJ K cn 2 fX))(jJ:dL P w K mg base 1 "_law_spoilt_list" ["_law_some","_law_most","_law_number","_law_odd"] (cJ K cn 4 eA)):dL P w K mg base 2 "_law_spoilt" ["_law_parts","_law_number"] (ao1 K cn jR):=by
 refine ak8 (d:=rJ) F sc_law_spoilt (λ_ _ _ _ _ _ us hl=>match us,hl with|[_,_],_=>rfl) (λv0 f cdv A outer s H E hr=>⟨_,(aN (bK (i:=2) sc_law_spoilt.nd rfl (by first|exact .inl rfl|exact .inr rfl) (aP bU (pv 1) aH))
  (aN (bK (i:=3) sc_law_spoilt.nd rfl (by first|exact .inl rfl|exact .inr rfl) (aP eK (pv 1) aH))
  (aN (dW (dB (gH K (n:=bV) hr) (pv 2) aH (dH _)) (aW (rO (bX lO (hr.mono (by decide)) (aB (bH (bT K) (pv 0) aH (λ_ _=>rfl)) (aB (pv 3) aK))) (ad0 (pv 0) aH vB))) cK)
  (aN (dW (dB (gH K (n:=bV) hr) (pv 2) aH (dH _)) (aW (rO (bX kG (hr.mono (by decide)) (aB (bH (bT K) (pv 0) aH (λ_ _=>rfl)) (aB (pv 3) aK))) (ad0 (pv 0) aH vB))) cK)
  (aN (dW (dB (gH K (n:=bV) hr) (pv 2) aH (dH _)) (aN (bK (i:=4) sc_law_spoilt.nd rfl (by first|exact .inl rfl|exact .inr rfl) (bF (aB (bF (aB (bF (aB aH aK)) aK)) (aB (bF (aB (bF aK) aK)) (aB (bF (aB (bF (aB aH (aB aH aK))) aK)) (aB (bF (aB (bF (aB (aP (bB K) (aP tM aH aH) aH) aK)) aK)) (aB (bF (aB (bF (aB aH (aB (qG nP aH) aK))) aK)) (aB (bF (aB (aP (bc8 K) (bF (aB aH aK)) aH) aK)) aK))))))))
  (aW (rO (bX jJ (hr.mono (by decide)) (aB (bH (bT K) (pv 0) aH (λ_ _=>rfl)) (aB aH (aB (pv 3) (aB (pv 4) aK))))) (ad0 (pv 0) aH vB)))) cK)
  (aN (dW (dB (gH K (n:=bV) hr) (pv 2) aH (dH _)) (aN (bK (i:=4) sc_law_spoilt.nd rfl (by first|exact .inl rfl|exact .inr rfl) (bF (aB (bF (aB aH (aB aH aK))) (aB (bF (aB (qG nP aH) (aB aH aK))) (aB (bF (aB aH (aB aH aK))) (aB (bF (aB aH (aB aH aK))) (aB (bF (aB aH (aB aH aK))) aK)))))))
  (aW (rO (bX jJ (hr.mono (by decide)) (aB (bH (bT K) (pv 0) aH (λ_ _=>rfl)) (aB aH (aB (pv 3) (aB (pv 4) aK))))) (ad0 (pv 0) aH vB)))) cK)
  (aW (bM (pv 2))))))))),
  (aU (bJ (aL cN (aD 1) (RE.rb aG)) (aT 2))
   (aU (bJ (aL fW (aD 1) (RE.rb aG)) (aT 3))
   (aU (dU (cW (RE.rb (aL kU (aD 2) (RE.rb aG)))) (zV (j:=0) (cD (aI (bI (aD 0) (RE.rb aG)) (aI (aD 3) aR))) (fT 0) (RE.rb aG)) cI)
   (aU (dU (cW (RE.rb (aL kU (aD 2) (RE.rb aG)))) (zV (j:=0) (cD (aI (bI (aD 0) (RE.rb aG)) (aI (aD 3) aR))) (fT 0) (RE.rb aG)) cI)
   (aU (dU (cW (RE.rb (aL kU (aD 2) (RE.rb aG)))) (aU (bJ (RE.frz (bG (aM (bG (aM (bG (aM aG bC)) bC)) (aM (bG (aM (bG bC) bC)) (aM (bG (aM (bG (aM aG (aM aG bC))) bC)) (aM (bG (aM (bG (aM (aL bQ (RE.rb (aL xU (RE.rb aG) (RE.rb aG))) (RE.rb aG)) bC)) bC)) (aM (bG (aM (bG (aM aG (aM (qM qO (RE.rb aG)) bC))) bC)) (aM (bG (aM (aL ca2 (RE.rb (bG (aM aG bC))) (RE.rb aG)) bC)) bC)))))))) (aT 4))
   (zV (j:=0) (cD (aI (bI (aD 0) (RE.rb aG)) (aI (RE.rb aG) (aI (aD 3) (aI (aD 4) aR))))) (fT 0) (RE.rb aG))) cI)
   (aU (dU (cW (RE.rb (aL kU (aD 2) (RE.rb aG)))) (aU (bJ (RE.frz (bG (aM (bG (aM aG (aM aG bC))) (aM (bG (aM (qM qO (RE.rb aG)) (aM aG bC))) (aM (bG (aM aG (aM aG bC))) (aM (bG (aM aG (aM aG bC))) (aM (bG (aM aG (aM aG bC))) bC))))))) (aT 4))
   (zV (j:=0) (cD (aI (bI (aD 0) (RE.rb aG)) (aI (RE.rb aG) (aI (aD 3) (aI (aD 4) aR))))) (fT 0) (RE.rb aG))) cI)
   (bo8 (aD 2))))))))⟩) rfl (λ_ _=>rfl)
theorem ao6:bL ["some"] ["some"] (aS uU):=⟨rfl,rfl,rfl,by decide+kernel,rfl,by decide+kernel,by decide+kernel⟩
theorem uJ(F:dR K mg "is_whole" uU)(T:Txt w K cn mg c_Archive c_BadArchive c_ArchiveError c_BadSaying c_NoAge c_Stuck c_NoYear c_NoGap c_TooMany c_NoNumber c_NoDating c_BadRow c_NoRow c_NoName):dL P w K mg base 1 "is_whole" ["some"] (cJ K cn 1 nW):=by
 refine dI (d:=vK) F ao6 (λ_ _ _ _ _ _ us hl=>match us,hl with|[_],_=>rfl) (λf cdv A outer s H E hr=>⟨_,(aW (bM (rW (bD (wM K) rfl T.cM cB (aB (pv 0) (aB (ap3 T.cs7 cb2) aK))) (tY (ci1 (bD (wM K) rfl T.cM cB (aB (pv 0) (aB (ap3 T.cq4 bq8) aK)))))))),
  (bN (oH (RE.rb (cT aw3 (aI (aD 0) (aI (RE.rb as8) aR)))) (bh9 (RE.rb (cT aw3 (aI (aD 0) (aI (RE.rb as8) aR)))))))⟩) rfl (λ_=>rfl)
theorem yX:bL ["some","low","high"] ["some","low","high"] (aS nH):=⟨rfl,rfl,rfl,by decide+kernel,rfl,by decide+kernel,by decide+kernel⟩
theorem eC(F:dR K mg "is_whole_from" nH)(T:Txt w K cn mg c_Archive c_BadArchive c_ArchiveError c_BadSaying c_NoAge c_Stuck c_NoYear c_NoGap c_TooMany c_NoNumber c_NoDating c_BadRow c_NoRow c_NoName)(uJ:dL P w K mg base 1 "is_whole" ["some"] (cJ K cn 1 nW)):dL P w K mg base 2 "is_whole_from" ["some","low","high"] (cJ K cn 3 cO):=by
 refine dI (d:=nU) F yX (λ_ _ _ _ _ _ us hl=>match us,hl with|[_,_,_],_=>rfl) (λf cdv A outer s H E hr=>⟨_,(aW (bM (rW (bX uJ (hr.mono (by decide)) (aB (pv 0) aK)) (tY (yY mU mU (pv 1) (pv 0) (pv 2)))))),
  (bN (oH (RE.rb (cD (aI (aD 0) aR))) (rP pU pU (aD 1) (aD 0) (aD 2))))⟩) rfl (λ_=>rfl)
theorem af5:bL ["first","present"] ["first","present"] (aS tD):=⟨rfl,rfl,rfl,by decide+kernel,rfl,by decide+kernel,by decide+kernel⟩
theorem mO(F:dR K mg "are_years" tD)(T:Txt w K cn mg c_Archive c_BadArchive c_ArchiveError c_BadSaying c_NoAge c_Stuck c_NoYear c_NoGap c_TooMany c_NoNumber c_NoDating c_BadRow c_NoRow c_NoName)(eC:dL P w K mg base 2 "is_whole_from" ["some","low","high"] (cJ K cn 3 cO)):dL P w K mg base 3 "are_years" ["first","present"] (cJ K cn 2 iL):=by
 refine dI (d:=pB) F af5 (λ_ _ _ _ _ _ us hl=>match us,hl with|[_,_],_=>rfl) (λf cdv A outer s H E hr=>⟨_,(aN (dW (iY (gE K (bX eC (hr.mono (by decide)) (aB (pv 0) (aB (qG nP (dP T.g_FARTHEST_END)) (aB (dP T.g_FARTHEST_END) aK)))) (λ_=>rfl))) (aW (bM mQ)) cK)
  (aN (dW (iY (gE K (bX eC (hr.mono (by decide)) (aB (pv 1) (aB (qG nP (dP T.g_FARTHEST_END)) (aB (dP T.g_FARTHEST_END) aK)))) (λ_=>rfl))) (aW (bM mQ)) cK)
  (aW (bM (yY mU mU aH (aP lH (pv 1) (pv 0)) (dP T.g_LONGEST_SPAN)))))),
  (aU (dU (jA (kN (RE.rb (cD (aI (aD 0) (aI (RE.rb (qM qO (RE.rb aG))) (aI (RE.rb aG) aR))))))) (bN mS) cI)
   (aU (dU (jA (kN (RE.rb (cD (aI (aD 1) (aI (RE.rb (qM qO (RE.rb aG))) (aI (RE.rb aG) aR))))))) (bN mS) cI)
   (bN (rP pU pU (RE.rb aG) (RE.rb (aL nR (aD 1) (aD 0))) (RE.rb aG)))))⟩) rfl (λ_=>rfl)
theorem sc_is_made_of:bL ["word","signs","most","sign"] ["word","signs","most"] (aS rZ):=⟨rfl,rfl,rfl,by decide+kernel,rfl,by decide+kernel,by decide+kernel⟩
theorem rG(F:dR K mg "is_made_of" rZ)(T:Txt w K cn mg c_Archive c_BadArchive c_ArchiveError c_BadSaying c_NoAge c_Stuck c_NoYear c_NoGap c_TooMany c_NoNumber c_NoDating c_BadRow c_NoRow c_NoName):dL P w K mg base 1 "is_made_of" ["word","signs","most"] (cJ K cn 3 lK):=by
 refine dI (d:=qX) F sc_is_made_of (λ_ _ _ _ _ _ us hl=>match us,hl with|[_,_,_],_=>rfl) (λf cdv A outer s H E hr=>⟨_,(aW (bM (rW (yY mU mU aH (bD (eZ K) rfl T.kY jS (aB (pv 0) aK)) (pv 2)) (tY (bD (nE K) rfl T.yF tL (aB (gA (ks:=[3]) ⟨rfl,by decide+kernel,by decide+kernel,by rfl,by rfl⟩ rfl (jP K (pv 0)) (λ_ _ _ _ _=>(bE (i:=3) sc_is_made_of.nd rfl (by first|exact .inl rfl|exact .inr rfl))) (λ_ _ _ _ _=>eE) (λ_ _ _ _ _=>(qT (co2 K (n:=bV) hr) (pv 3) (pv 1) (by with_unfolding_all rfl)))) aK)))))),
  (bN (oH (RE.rb (rP pU pU (RE.rb aG) (RE.rb (cT lV (aI (aD 0) aR))) (aD 2))) (cT xX (aI (RE.rb (fE (mX (aD 0)) (aT 3) fB (aL cq1 (aD 3) (aD 1)))) aR))))⟩) rfl (λ_=>rfl)
theorem ao8:bL ["word"] ["word"] (aS wH):=⟨rfl,rfl,rfl,by decide+kernel,rfl,by decide+kernel,by decide+kernel⟩
theorem wU(F:dR K mg "is_name" wH)(T:Txt w K cn mg c_Archive c_BadArchive c_ArchiveError c_BadSaying c_NoAge c_Stuck c_NoYear c_NoGap c_TooMany c_NoNumber c_NoDating c_BadRow c_NoRow c_NoName)(rG:dL P w K mg base 1 "is_made_of" ["word","signs","most"] (cJ K cn 3 lK)):dL P w K mg base 2 "is_name" ["word"] (cJ K cn 1 jC):=by
 refine dI (d:=sI) F ao8 (λ_ _ _ _ _ _ us hl=>match us,hl with|[_],_=>rfl) (λf cdv A outer s H E hr=>⟨_,(aW (bM (bX rG (hr.mono (by decide)) (aB (pv 0) (aB (dP T.g_LETTERS) (aB (dP T.g_MOST_LETTERS_words) aK)))))),
  (bN (cD (aI (aD 0) (aI (RE.rb cC) (aI (RE.rb aG) aR)))))⟩) rfl (λ_=>rfl)
theorem sc_are_names:bL ["names","least","most","name"] ["names","least","most"] (aS sV):=⟨rfl,rfl,rfl,by decide+kernel,rfl,by decide+kernel,by decide+kernel⟩
theorem gS(F:dR K mg "are_names" sV)(T:Txt w K cn mg c_Archive c_BadArchive c_ArchiveError c_BadSaying c_NoAge c_Stuck c_NoYear c_NoGap c_TooMany c_NoNumber c_NoDating c_BadRow c_NoRow c_NoName)(wU:dL P w K mg base 2 "is_name" ["word"] (cJ K cn 1 jC)):dL P w K mg base 3 "are_names" ["names","least","most"] (cJ K cn 3 eI):=by
 refine dI (d:=oY) F sc_are_names (λ_ _ _ _ _ _ us hl=>match us,hl with|[_,_,_],_=>rfl) (λf cdv A outer s H E hr=>⟨_,(aN (dW (iY (ay3 mU mU (pv 1) (bD (eZ K) rfl T.kY jS (aB (pv 0) aK)) (pv 2))) (aW (bM mQ)) cK)
  (aW (bM (rW (bD (nE K) rfl T.yF tL (aB (gA (ks:=[3]) ⟨rfl,by decide+kernel,by decide+kernel,by rfl,by rfl⟩ rfl (jP K (pv 0)) (λ_ _ _ _ _=>(bE (i:=3) sc_are_names.nd rfl (by first|exact .inl rfl|exact .inr rfl))) (λ_ _ _ _ _=>eE) (λ_ _ _ _ _=>(bX wU (hr.mono (by decide)) (aB (pv 3) aK)))) aK)) (tY (qT (gH K (n:=bV) hr) (ba3 K T.kY T.cr7 (aB (pv 0) aK)) (bD (eZ K) rfl T.kY jS (aB (pv 0) aK)) (dH _))))))),
  (aU (dU (jA (cW (RE.rb (rP pU pU (aD 1) (RE.rb (cT lV (aI (aD 0) aR))) (aD 2))))) (bN mS) cI)
   (bN (oH (RE.rb (cT xX (aI (RE.rb (fE (mX (aD 0)) (aT 3) fB (cD (aI (aD 3) aR)))) aR))) (aL kU (RE.rb (cT br4 (aI (aD 0) aR))) (RE.rb (cT lV (aI (aD 0) aR)))))))⟩) rfl (λ_=>rfl)
theorem sc_is_table:bL ["some","dark","age"] ["some"] (aS uA):=⟨rfl,rfl,rfl,by decide+kernel,rfl,by decide+kernel,by decide+kernel⟩
theorem vJ(F:dR K mg "is_table" uA)(T:Txt w K cn mg c_Archive c_BadArchive c_ArchiveError c_BadSaying c_NoAge c_Stuck c_NoYear c_NoGap c_TooMany c_NoNumber c_NoDating c_BadRow c_NoRow c_NoName)(eC:dL P w K mg base 2 "is_whole_from" ["some","low","high"] (cJ K cn 3 cO)):dL P w K mg base 3 "is_table" ["some"] (cJ K cn 1 iE):=by
 refine dI (d:=qF) F sc_is_table (λ_ _ _ _ _ _ us hl=>match us,hl with|[_],_=>rfl) (λf cdv A outer s H E hr=>⟨_,(aN (dW (iY (ay3 mU mU aH (bD (eZ K) rfl T.kY jS (aB (pv 0) aK)) (dP T.g_MOST_AGES))) (aW (bM mQ)) cK)
  (aN (dW (iY (gE K (bD (nE K) rfl T.yF tL (aB (gA (ks:=[1]) ⟨rfl,by decide+kernel,by decide+kernel,by rfl,by rfl⟩ rfl (jP K (pv 0)) (λ_ _ _ _ _=>(bE (i:=1) sc_is_table.nd rfl (by first|exact .inl rfl|exact .inr rfl))) (λ_ _ _ _ _=>eE) (λ_ _ _ _ _=>(bX eC (hr.mono (by decide)) (aB (pv 1) (aB aH (aB (dP T.g_DARKEST) aK)))))) aK)) (λ_=>rfl))) (aW (bM mQ)) cK)
  (aW (bM (bD (nE K) rfl T.yF tL (aB (gA (ks:=[2]) ⟨rfl,by decide+kernel,by decide+kernel,by rfl,by rfl⟩ rfl (bq0 rfl T.jV (aB aH (aB (bD (eZ K) rfl T.kY jS (aB (pv 0) aK)) aK))) (λ_ _ _ _ _=>(bE (i:=2) sc_is_table.nd rfl (by first|exact .inl rfl|exact .inr rfl))) (λ_ _ _ _ _=>eE) (λ_ _ _ _ _=>(qT mU (bH (bT K) (pv 0) (pv 2) (λ_ _=>rfl)) (bH (bT K) (pv 0) (aP lH (pv 2) aH) (λ_ _=>rfl)) (dH _)))) aK)))))),
  (aU (dU (jA (cW (RE.rb (rP pU pU (RE.rb aG) (RE.rb (cT lV (aI (aD 0) aR))) (RE.rb aG))))) (bN mS) cI)
   (aU (dU (jA (kN (RE.rb (cT xX (aI (RE.rb (fE (mX (aD 0)) (aT 1) fB (cD (aI (aD 1) (aI (RE.rb aG) (aI (RE.rb aG) aR)))))) aR))))) (bN mS) cI)
   (bN (cT xX (aI (RE.rb (fE (cb0 (aI (RE.rb aG) (aI (RE.rb (cT lV (aI (aD 0) aR))) aR))) (aT 2) fB (aL pU (bI (aD 0) (aD 2)) (bI (aD 0) (RE.rb (aL nR (aD 2) (RE.rb aG))))))) aR)))))⟩) rfl (λ_=>rfl)
theorem sc_are_inks:bL ["inks","name","table"] ["inks"] (aS uI):=⟨rfl,rfl,rfl,by decide+kernel,rfl,by decide+kernel,by decide+kernel⟩
theorem nG(F:dR K mg "are_inks" uI)(T:Txt w K cn mg c_Archive c_BadArchive c_ArchiveError c_BadSaying c_NoAge c_Stuck c_NoYear c_NoGap c_TooMany c_NoNumber c_NoDating c_BadRow c_NoRow c_NoName)(gS:dL P w K mg base 3 "are_names" ["names","least","most"] (cJ K cn 3 eI))(vJ:dL P w K mg base 3 "is_table" ["some"] (cJ K cn 1 iE)):dL P w K mg base 4 "are_inks" ["inks"] (cJ K cn 1 jB):=by
 refine dI (d:=qN) F sc_are_inks (λ_ _ _ _ _ _ us hl=>match us,hl with|[_],_=>rfl) (λf cdv A outer s H E hr=>⟨_,(aN (dW (iY (gE K (bX gS (hr.mono (by decide)) (aB (gA (ks:=[1,2]) ⟨rfl,by decide+kernel,by decide+kernel,by rfl,by rfl⟩ rfl (jP K (pv 0)) (λ_ _ _ _ _=>(iR K 2 rfl (cQ (bE (i:=1) sc_are_inks.nd rfl (by first|exact .inl rfl|exact .inr rfl)) (cQ (bE (i:=2) sc_are_inks.nd rfl (by first|exact .inl rfl|exact .inr rfl)) iS)))) (λ_ _ _ _ _=>eE) (λ_ _ _ _ _=>(pv 1))) (aB aH (aB (dP T.g_MOST_INKS) aK)))) (λ_=>rfl))) (aW (bM mQ)) cK)
  (aW (bM (bD (nE K) rfl T.yF tL (aB (gA (ks:=[1,2]) ⟨rfl,by decide+kernel,by decide+kernel,by rfl,by rfl⟩ rfl (jP K (pv 0)) (λ_ _ _ _ _=>(iR K 2 rfl (cQ (bE (i:=1) sc_are_inks.nd rfl (by first|exact .inl rfl|exact .inr rfl)) (cQ (bE (i:=2) sc_are_inks.nd rfl (by first|exact .inl rfl|exact .inr rfl)) iS)))) (λ_ _ _ _ _=>eE) (λ_ _ _ _ _=>(bX vJ (hr.mono (by decide)) (aB (pv 2) aK)))) aK))))),
  (aU (dU (jA (kN (RE.rb (cD (aI (RE.rb (fE (mX (aD 0)) (lJ (cX (aT 1) (cX (aT 2) jO))) fB (RB.chk (aD 1)))) (aI (RE.rb aG) (aI (RE.rb aG) aR))))))) (bN mS) cI)
   (bN (cT xX (aI (RE.rb (fE (mX (aD 0)) (lJ (cX (aT 1) (cX (aT 2) jO))) fB (cD (aI (aD 2) aR)))) aR))))⟩) rfl (λ_=>rfl)
theorem ai6:bL ["begin","length"] ["begin","length"] (aS vG):=⟨rfl,rfl,rfl,by decide+kernel,rfl,by decide+kernel,by decide+kernel⟩
theorem uX(F:dR K mg "is_reign" vG)(T:Txt w K cn mg c_Archive c_BadArchive c_ArchiveError c_BadSaying c_NoAge c_Stuck c_NoYear c_NoGap c_TooMany c_NoNumber c_NoDating c_BadRow c_NoRow c_NoName)(eC:dL P w K mg base 2 "is_whole_from" ["some","low","high"] (cJ K cn 3 cO)):dL P w K mg base 3 "is_reign" ["begin","length"] (cJ K cn 2 iF):=by
 refine dI (d:=qJ) F ai6 (λ_ _ _ _ _ _ us hl=>match us,hl with|[_,_],_=>rfl) (λf cdv A outer s H E hr=>⟨_,(aW (bM (rW (bX eC (hr.mono (by decide)) (aB (pv 0) (aB (qG nP (dP T.g_FARTHEST_YEAR)) (aB (dP T.g_FARTHEST_YEAR) aK)))) (tY (bX eC (hr.mono (by decide)) (aB (pv 1) (aB aH (aB (dP T.g_LONGEST_REIGN) aK)))))))),
  (bN (oH (RE.rb (cD (aI (aD 0) (aI (RE.rb (qM qO (RE.rb aG))) (aI (RE.rb aG) aR))))) (cD (aI (aD 1) (aI (RE.rb aG) (aI (RE.rb aG) aR))))))⟩) rfl (λ_=>rfl)
theorem sc_are_reigns:bL ["reigns","name","begin","length"] ["reigns"] (aS sB):=⟨rfl,rfl,rfl,by decide+kernel,rfl,by decide+kernel,by decide+kernel⟩
theorem lN(F:dR K mg "are_reigns" sB)(T:Txt w K cn mg c_Archive c_BadArchive c_ArchiveError c_BadSaying c_NoAge c_Stuck c_NoYear c_NoGap c_TooMany c_NoNumber c_NoDating c_BadRow c_NoRow c_NoName)(gS:dL P w K mg base 3 "are_names" ["names","least","most"] (cJ K cn 3 eI))(uX:dL P w K mg base 3 "is_reign" ["begin","length"] (cJ K cn 2 iF)):dL P w K mg base 4 "are_reigns" ["reigns"] (cJ K cn 1 gY):=by
 refine dI (d:=nI) F sc_are_reigns (λ_ _ _ _ _ _ us hl=>match us,hl with|[_],_=>rfl) (λf cdv A outer s H E hr=>⟨_,(aN (dW (iY (gE K (bX gS (hr.mono (by decide)) (aB (gA (ks:=[1,2,3]) ⟨rfl,by decide+kernel,by decide+kernel,by rfl,by rfl⟩ rfl (jP K (pv 0)) (λ_ _ _ _ _=>(iR K 3 rfl (cQ (bE (i:=1) sc_are_reigns.nd rfl (by first|exact .inl rfl|exact .inr rfl)) (cQ (bE (i:=2) sc_are_reigns.nd rfl (by first|exact .inl rfl|exact .inr rfl)) (cQ (bE (i:=3) sc_are_reigns.nd rfl (by first|exact .inl rfl|exact .inr rfl)) iS))))) (λ_ _ _ _ _=>eE) (λ_ _ _ _ _=>(pv 1))) (aB aH (aB (dP T.g_MOST_REIGNS) aK)))) (λ_=>rfl))) (aW (bM mQ)) cK)
  (aW (bM (bD (nE K) rfl T.yF tL (aB (gA (ks:=[1,2,3]) ⟨rfl,by decide+kernel,by decide+kernel,by rfl,by rfl⟩ rfl (jP K (pv 0)) (λ_ _ _ _ _=>(iR K 3 rfl (cQ (bE (i:=1) sc_are_reigns.nd rfl (by first|exact .inl rfl|exact .inr rfl)) (cQ (bE (i:=2) sc_are_reigns.nd rfl (by first|exact .inl rfl|exact .inr rfl)) (cQ (bE (i:=3) sc_are_reigns.nd rfl (by first|exact .inl rfl|exact .inr rfl)) iS))))) (λ_ _ _ _ _=>eE) (λ_ _ _ _ _=>(bX uX (hr.mono (by decide)) (aB (pv 2) (aB (pv 3) aK))))) aK))))),
  (aU (dU (jA (kN (RE.rb (cD (aI (RE.rb (fE (mX (aD 0)) (lJ (cX (aT 1) (cX (aT 2) (cX (aT 3) jO)))) fB (RB.chk (aD 1)))) (aI (RE.rb aG) (aI (RE.rb aG) aR))))))) (bN mS) cI)
   (bN (cT xX (aI (RE.rb (fE (mX (aD 0)) (lJ (cX (aT 1) (cX (aT 2) (cX (aT 3) jO)))) fB (cD (aI (aD 2) (aI (aD 3) aR))))) aR))))⟩) rfl (λ_=>rfl)
theorem sc_Archive_init:bL ["self","first","present","letters","inks","reigns","name","table","begin","length"] ["self","first","present","letters","inks","reigns"] (aS iM):=⟨rfl,rfl,rfl,by decide+kernel,rfl,by decide+kernel,by decide+kernel⟩
theorem aa1(T:Txt w K cn mg c_Archive c_BadArchive c_ArchiveError c_BadSaying c_NoAge c_Stuck c_NoYear c_NoGap c_TooMany c_NoNumber c_NoDating c_BadRow c_NoRow c_NoName)(mO:dL P w K mg base 3 "are_years" ["first","present"] (cJ K cn 2 iL))(e_BadArchive:ap1 P w K mg base "BadArchive" c_BadArchive "part")(gS:dL P w K mg base 3 "are_names" ["names","least","most"] (cJ K cn 3 eI))(nG:dL P w K mg base 4 "are_inks" ["inks"] (cJ K cn 1 jB))(lN:dL P w K mg base 4 "are_reigns" ["reigns"] (cJ K cn 1 gY))(f y:Addr)(cdv:Value)(A:Around)(outer:List Env)(s:Shared)(H:Hp)(E:XK)(hr:Room 4 (A.deeper (PyProof.Rows.envOfC "Archive.__init__" (aS iM) s.heap.objs.size f cdv))):
 ∃t,PSs (kB (pY P w) P w K mg base ["self","first","present","letters","inks","reigns","name","table","begin","length"] "Archive.__init__" (aS iM) f cdv A outer s H E) (cF iM) t/\RS [(0,.ref y)] K cn E t jM:=
 ⟨_,(aN (dW (iY (gE K (bX mO (hr.mono (by decide)) (aB (pv 1) (aB (pv 2) aK))) (λ_=>rfl))) (aW (sM e_BadArchive xe_of (hr.mono (by decide)) (aB cH aK))) cK)
  (aN (dW (iY (gE K (bX gS (hr.mono (by decide)) (aB (pv 3) (aB aH (aB (dP T.g_MOST_LETTERS_archives) aK)))) (λ_=>rfl))) (aW (sM e_BadArchive xe_of (hr.mono (by decide)) (aB cH aK))) cK)
  (aN (dW (iY (gE K (bX nG (hr.mono (by decide)) (aB (pv 4) aK)) (λ_=>rfl))) (aW (sM e_BadArchive xe_of (hr.mono (by decide)) (aB cH aK))) cK)
  (aN (dW (iY (gE K (bX lN (hr.mono (by decide)) (aB (pv 5) aK)) (λ_=>rfl))) (aW (sM e_BadArchive xe_of (hr.mono (by decide)) (aB cH aK))) cK)
  (aN (tN K (pv 0) (pv 1))
  (aN (tN K (pv 0) (pv 2))
  (aN (tN K (pv 0) (gX (iW K) rfl T.nZ lT (aB (pv 3) aK)))
  (aN (tN K (pv 0) (gA (ks:=[6,7]) ⟨rfl,by decide+kernel,by decide+kernel,by rfl,by rfl⟩ rfl (jP K (pv 4)) (λ_ _ _ _ _=>(iR K 2 rfl (cQ (bE (i:=6) sc_Archive_init.nd rfl (by first|exact .inl rfl|exact .inr rfl)) (cQ (bE (i:=7) sc_Archive_init.nd rfl (by first|exact .inl rfl|exact .inr rfl)) iS)))) (λ_ _ _ _ _=>eE) (λ_ _ _ _ _=>(wC (aB (pv 6) (aB (gX (iW K) rfl T.nZ lT (aB (pv 7) aK)) aK))))))
  (aW (tN K (pv 0) (gA (ks:=[6,8,9]) ⟨rfl,by decide+kernel,by decide+kernel,by rfl,by rfl⟩ rfl (jP K (pv 5)) (λ_ _ _ _ _=>(iR K 3 rfl (cQ (bE (i:=6) sc_Archive_init.nd rfl (by first|exact .inl rfl|exact .inr rfl)) (cQ (bE (i:=8) sc_Archive_init.nd rfl (by first|exact .inl rfl|exact .inr rfl)) (cQ (bE (i:=9) sc_Archive_init.nd rfl (by first|exact .inl rfl|exact .inr rfl)) iS))))) (λ_ _ _ _ _=>eE) (λ_ _ _ _ _=>(wC (aB (pv 6) (aB (pv 8) (aB (pv 9) aK)))))))))))))))),
  (aU (dU (jA (kN (RE.rb (cD (aI (aD 1) (aI (aD 2) aR)))))) (sO T.bS (aI (RE.rb cC) aR)) cI)
   (aU (dU (jA (kN (RE.rb (cD (aI (aD 3) (aI (RE.rb aG) (aI (RE.rb aG) aR))))))) (sO T.bS (aI (RE.rb cC) aR)) cI)
   (aU (dU (jA (kN (RE.rb (cD (aI (aD 4) aR))))) (sO T.bS (aI (RE.rb cC) aR)) cI)
   (aU (dU (jA (kN (RE.rb (cD (aI (aD 5) aR))))) (sO T.bS (aI (RE.rb cC) aR)) cI)
   (aU (wA (j:=0) (aa5 T) (RB.chk (aD 1)) (fT 0))
   (aU (wA (j:=0) (au0 T) (RB.chk (aD 2)) (fT 0))
   (aU (wA (j:=0) (aa0 T) (cT pG (aI (aD 3) aR)) (fT 0))
   (aU (wA (j:=0) (as1 T) (fE (mX (aD 4)) (lJ (cX (aT 6) (cX (aT 7) jO))) fB (wE (aM (RB.chk (aD 6)) (aM (cT pG (aI (aD 7) aR)) bC)))) (fT 0))
   (wA (j:=0) (ae2 T) (fE (mX (aD 5)) (lJ (cX (aT 6) (cX (aT 8) (cX (aT 9) jO)))) fB (wE (aM (RB.chk (aD 6)) (aM (RB.chk (aD 8)) (aM (RB.chk (aD 9)) bC))))) (fT 0))))))))))⟩
theorem sc_law_of:bL ["_law_parts","_law_inks","_law_ink","_law_reign"] ["_law_parts"] (aS zM):=⟨rfl,rfl,rfl,by decide+kernel,rfl,by decide+kernel,by decide+kernel⟩
theorem zD(F:dR K mg "_law_of" zM)(T:Txt w K cn mg c_Archive c_BadArchive c_ArchiveError c_BadSaying c_NoAge c_Stuck c_NoYear c_NoGap c_TooMany c_NoNumber c_NoDating c_BadRow c_NoRow c_NoName)(pE:af4 P w K mg base 5 "Archive" c_Archive (spI K cn "Archive" 5 fS)):ad5 P w K mg base 7 "_law_of" ["_law_parts"] (cJ K cn 1 rM):=by
 refine be1 (d:=zF) F sc_law_of (λ_ _ _ _ _ _ us hl=>match us,hl with|[_],_=>rfl) (λf cdv A outer s H E hr=>⟨_,(aN (qK (i:=1) sc_law_of.nd rfl (by first|exact .inl rfl|exact .inr rfl) (ks:=[2]) ⟨rfl,by decide+kernel,by decide+kernel,by rfl,by rfl⟩ rfl (jP K (bH (bT K) (pv 0) aH (λ_ _=>rfl))) (λ_ _ _ _ _=>(bE (i:=2) sc_law_of.nd rfl (by first|exact .inl rfl|exact .inr rfl))) (λ_ _ _ _ _=>eE) (λ_ _ _ _ _=>(wC (aB (bH (bT K) (pv 2) aH (λ_ _=>rfl)) (aB (gX (iW K) rfl T.nZ lT (aB (bH (bT K) (pv 2) aH (λ_ _=>rfl)) aK)) aK)))))
  (aW (bM (ay6 pE xe_of.passes (hr.mono (by decide)) (aB (bH (bT K) (bH (bT K) (pv 0) aH (λ_ _=>rfl)) aH (λ_ _=>rfl)) (aB (bH (bT K) (bH (bT K) (pv 0) aH (λ_ _=>rfl)) aH (λ_ _=>rfl)) (aB (gX (iW K) rfl T.nZ lT (aB (bH (bT K) (pv 0) aH (λ_ _=>rfl)) aK)) (aB (pv 1) (aB (gA (ks:=[3]) ⟨rfl,by decide+kernel,by decide+kernel,by rfl,by rfl⟩ rfl (jP K (bH (bT K) (pv 0) aH (λ_ _=>rfl))) (λ_ _ _ _ _=>(bE (i:=3) sc_law_of.nd rfl (by first|exact .inl rfl|exact .inr rfl))) (λ_ _ _ _ _=>eE) (λ_ _ _ _ _=>(gX (sW K) rfl T.az1 yS (aB (pv 3) aK)))) aK))))))))),
  (aU (qP (mX (bI (aD 0) (RE.rb aG))) (aT 2) fB (wE (aM (RB.chk (bI (aD 2) (RE.rb aG))) (aM (cT pG (aI (bI (aD 2) (RE.rb aG)) aR)) bC))))
   (bN (cq0 T.jE (aI (bI (bI (aD 0) (RE.rb aG)) (RE.rb aG)) (aI (bI (bI (aD 0) (RE.rb aG)) (RE.rb aG)) (aI (RE.rb (cT pG (aI (bI (aD 0) (RE.rb aG)) aR))) (aI (aD 1) (aI (RE.rb (fE (mX (bI (aD 0) (RE.rb aG))) (aT 3) fB (cT ar1 (aI (aD 3) aR)))) aR))))))))⟩) rfl (λ_=>rfl)
theorem sc_law_one_kind:bL ["_law_e","_law_found"] ["_law_e"] (aS oU):=⟨rfl,rfl,rfl,by decide+kernel,rfl,by decide+kernel,by decide+kernel⟩
theorem oN(F:dR K mg "_law_one_kind" oU)(T:Txt w K cn mg c_Archive c_BadArchive c_ArchiveError c_BadSaying c_NoAge c_Stuck c_NoYear c_NoGap c_TooMany c_NoNumber c_NoDating c_BadRow c_NoRow c_NoName):dL P w K mg base 1 "_law_one_kind" ["_law_e"] (cJ K cn 1 jN):=by
 refine dI (d:=oP) F sc_law_one_kind (λ_ _ _ _ _ _ us hl=>match us,hl with|[_],_=>rfl) (λf cdv A outer s H E hr=>⟨_,(aN (bK (i:=1) sc_law_one_kind.nd rfl (by first|exact .inl rfl|exact .inr rfl) (bF (aB (bD (eF (vR T) (vQ T)) rfl T.cM cB (aB (pv 0) (aB (dP T.gc_BadArchive) aK))) (aB (bD (eF (ac5 T) (ah4 T)) rfl T.cM cB (aB (pv 0) (aB (dP T.gc_BadSaying) aK))) (aB (bD (eF (be4 T) (ba4 T)) rfl T.cM cB (aB (pv 0) (aB (dP T.gc_NoAge) aK))) (aB (bD (eF (bn4 T) (bs5 T)) rfl T.cM cB (aB (pv 0) (aB (dP T.gc_Stuck) aK))) aK))))))
  (aN (bK (i:=1) sc_law_one_kind.nd rfl (by first|exact .inl rfl|exact .inr rfl) (aP (bB K) (pv 1) (bF (aB (bD (eF (bl2 T) (bu0 T)) rfl T.cM cB (aB (pv 0) (aB (dP T.gc_NoYear) aK))) (aB (bD (eF (ba5 T) (bh6 T)) rfl T.cM cB (aB (pv 0) (aB (dP T.gc_NoGap) aK))) (aB (bD (eF (ag9 T) (ak9 T)) rfl T.cM cB (aB (pv 0) (aB (dP T.gc_TooMany) aK))) (aB (bD (eF (as6 T) (aq6 T)) rfl T.cM cB (aB (pv 0) (aB (dP T.gc_NoNumber) aK))) aK)))))))
  (aN (bK (i:=1) sc_law_one_kind.nd rfl (by first|exact .inl rfl|exact .inr rfl) (aP (bB K) (pv 1) (bF (aB (bD (eF (aj6 T) (ap6 T)) rfl T.cM cB (aB (pv 0) (aB (dP T.gc_NoDating) aK))) (aB (bD (eF (by1 T) (bm1 T)) rfl T.cM cB (aB (pv 0) (aB (dP T.gc_BadRow) aK))) (aB (bD (eF (bm4 T) (bn5 T)) rfl T.cM cB (aB (pv 0) (aB (dP T.gc_NoRow) aK))) (aB (bD (eF (bn1 T) (bc3 T)) rfl T.cM cB (aB (pv 0) (aB (dP T.gc_NoName) aK))) aK)))))))
  (aW (bM (rW (qT (gH K (n:=bV) hr) (lF K PySem.F.plainAttrs_list PySem.F.slot_list_count PySem.F.type_list_count (bg1 K (n:=bV) hr) (pv 1) (aB mQ aK)) aH (dH _)) (rW (bD (eF (zW T) (zT T)) rfl T.cM cB (aB (pv 0) (aB (dP T.gc_ArchiveError) aK))) (tY (bD (eF (aa3 T) (ax2 T)) rfl T.cM cB (aB (pv 0) (aB (ap3 T.af6 ab3) aK))))))))))),
  (aU (bJ (bG (aM (gK (vP T) (aD 0)) (aM (gK (ao5 T) (aD 0)) (aM (gK (bl5 T) (aD 0)) (aM (gK (bd6 T) (aD 0)) bC))))) (aT 1))
   (aU (bJ (aL bQ (aD 1) (RE.rb (bG (aM (gK (bj0 T) (aD 0)) (aM (gK (bj5 T) (aD 0)) (aM (gK (ac8 T) (aD 0)) (aM (gK (an6 T) (aD 0)) bC))))))) (aT 1))
   (aU (bJ (aL bQ (aD 1) (RE.rb (bG (aM (gK (am6 T) (aD 0)) (aM (gK (bh3 T) (aD 0)) (aM (gK (bu5 T) (aD 0)) (aM (gK (bf2 T) (aD 0)) bC))))))) (aT 1))
   (bN (oH (RE.rb (aL kU (RE.rb (cs6 bd1 bz8 (aD 1) (aI (RE.rb mS) aR))) (RE.rb aG))) (oH (RE.rb (gK (as0 T) (aD 0))) (gK (ae3 T) (aD 0))))))))⟩) rfl (λ_=>rfl)
theorem sc_law_refused:bL ["_law_parts","_law_caught","_law_e"] ["_law_parts"] (aS pX):=⟨rfl,rfl,rfl,by decide+kernel,rfl,by decide+kernel,by decide+kernel⟩
theorem pR(F:dR K mg "_law_refused" pX)(T:Txt w K cn mg c_Archive c_BadArchive c_ArchiveError c_BadSaying c_NoAge c_Stuck c_NoYear c_NoGap c_TooMany c_NoNumber c_NoDating c_BadRow c_NoRow c_NoName)(zD:ad5 P w K mg base 7 "_law_of" ["_law_parts"] (cJ K cn 1 rM))(oN:dL P w K mg base 1 "_law_one_kind" ["_law_e"] (cJ K cn 1 jN)):dL P w K mg base 8 "_law_refused" ["_law_parts"] (cJ K cn 1 kJ):=by
 refine dI (d:=pS) F sc_law_refused (λ_ _ _ _ _ _ us hl=>match us,hl with|[_],_=>rfl) (λf cdv A outer s H E hr=>⟨_,(aN (bK (i:=1) sc_law_refused.nd rfl (by first|exact .inl rfl|exact .inr rfl) xB)
  (aN (bx9 (j:=2) sc_law_refused zD T.ct_ArchiveError hr (aB (pv 0) aK) (λ_=>(aW (bK (i:=1) sc_law_refused.nd rfl (by first|exact .inl rfl|exact .inr rfl) (pv 2)))))
  (aN (dW (PW.pt (uN (iY (gE K (bD (eF (vR T) (vQ T)) rfl T.cM cB (aB (pv 1) (aB (dP T.gc_BadArchive) aK))) (λ_=>rfl))) (tG (iY (gE K (bX oN (hr.mono (by decide)) (aB (pv 1) aK)) (λ_=>rfl)))))) (aW (bM xB)) cK)
  (aW (bM (be9 K (pv 1))))))),
  (aU (bJ xJ (aT 1))
   (aU (cn1 cn0 (zX T) rfl (aI (aD 0) aR) (bJ (RB.chk (aD 2)) (aT 1)))
   (aU (dU (uH (jA (kN (RE.rb (gK (vP T) (aD 1))))) (jA (kN (RE.rb (cD (aI (aD 1) aR)))))) (bN xJ) cI)
   (bN (bt8 (ba9 T) (aD 1))))))⟩) rfl (λ_=>rfl)
theorem sc_Archive_table:bL ["self","name","other","table"] ["self","name"] (aS hV):=⟨rfl,rfl,rfl,by decide+kernel,rfl,by decide+kernel,by decide+kernel⟩
theorem aj0(T:Txt w K cn mg c_Archive c_BadArchive c_ArchiveError c_BadSaying c_NoAge c_Stuck c_NoYear c_NoGap c_TooMany c_NoNumber c_NoDating c_BadRow c_NoRow c_NoName)(f:Addr)(cdv:Value)(A:Around)(outer:List Env)(s:Shared)(H:Hp)(E:XK)(hr:Room 0 (A.deeper (PyProof.Rows.envOfC "Archive.table" (aS hV) s.heap.objs.size f cdv))):
 ∃t,PSs (kB mZ P w K mg base ["self","name","other","table"] "Archive.table" (aS hV) f cdv A outer s H E).nox (cF hV) t/\RS [] K cn E t jD:=
 ⟨_,(aN (lM PassesOwn.never rfl (jP K (qR K (pv 0))) (iR K 2 rfl (cQ (bE (i:=2) sc_Archive_table.nd rfl (by first|exact .inl rfl|exact .inr rfl)) (cQ (bE (i:=3) sc_Archive_table.nd rfl (by first|exact .inl rfl|exact .inr rfl)) iS))) (aW (dW (dB (gH K (n:=bV) hr) (pv 2) (pv 1) (dH _)) (aW (bM (gX (iW K) rfl T.nZ lT (aB (pv 3) aK)))) cK)))
  (aW (bM xB))),
  (aU (mK (ad9 (tP (as1 T) (aD 0))) (lJ (cX (aT 2) (cX (aT 3) jO))) (dU (cW (RE.rb (aL kU (aD 2) (aD 1)))) (bN (cT pG (aI (aD 3) aR))) cI))
   (bN xJ))⟩
theorem sc_law_same:bL ["_law_archive","_law_parts","_law_inks","_law_name","_law_table_here","_law_told","_law_ink","_law_reign"] ["_law_archive","_law_parts"] (aS uP):=⟨rfl,rfl,rfl,by decide+kernel,rfl,by decide+kernel,by decide+kernel⟩
theorem uD(F:dR K mg "_law_same" uP)(T:Txt w K cn mg c_Archive c_BadArchive c_ArchiveError c_BadSaying c_NoAge c_Stuck c_NoYear c_NoGap c_TooMany c_NoNumber c_NoDating c_BadRow c_NoRow c_NoName)(h_table:∀q∈[(c_Archive,cJ K cn 2 cV)],Mth P w K mg base 1 q.1 "table" q.2):dL P w K mg base 2 "_law_same" ["_law_archive","_law_parts"] (cJ K cn 2 nK):=by
 refine dI (d:=uQ) F sc_law_same (λ_ _ _ _ _ _ us hl=>match us,hl with|[_,_],_=>rfl) (λf cdv A outer s H E hr=>⟨_,(aN (qK (i:=2) sc_law_same.nd rfl (by first|exact .inl rfl|exact .inr rfl) (ks:=[6]) ⟨rfl,by decide+kernel,by decide+kernel,by rfl,by rfl⟩ rfl (jP K (bH (bT K) (pv 1) aH (λ_ _=>rfl))) (λ_ _ _ _ _=>(bE (i:=6) sc_law_same.nd rfl (by first|exact .inl rfl|exact .inr rfl))) (λ_ _ _ _ _=>eE) (λ_ _ _ _ _=>(wC (aB (bH (bT K) (pv 6) aH (λ_ _=>rfl)) (aB (bH (bT K) (pv 6) aH (λ_ _=>rfl)) aK)))))
  (aN (dW (PW.pt (uN (dB (rN K (n:=bV) hr) (qR K (pv 0)) (bH (bT K) (bH (bT K) (pv 1) aH (λ_ _=>rfl)) aH (λ_ _=>rfl)) (dH _)) (uN (dB (rN K (n:=bV) hr) (qR K (pv 0)) (bH (bT K) (bH (bT K) (pv 1) aH (λ_ _=>rfl)) aH (λ_ _=>rfl)) (dH _)) (tG (dB (rN K (n:=bV) hr) (qR K (pv 0)) (bH (bT K) (pv 1) aH (λ_ _=>rfl)) (dH _)))))) (aW (bM mQ)) cK)
  (aN (dW (PW.pt (uN (dB (rN K (n:=bV) hr) (qR K (pv 0)) (pv 2) (dH _)) (tG (dB (rN K (n:=bV) hr) (qR K (pv 0)) (gA (ks:=[7]) ⟨rfl,by decide+kernel,by decide+kernel,by rfl,by rfl⟩ rfl (jP K (bH (bT K) (pv 1) aH (λ_ _=>rfl))) (λ_ _ _ _ _=>(bE (i:=7) sc_law_same.nd rfl (by first|exact .inl rfl|exact .inr rfl))) (λ_ _ _ _ _=>eE) (λ_ _ _ _ _=>(gX (sW K) rfl T.az1 yS (aB (pv 7) aK)))) (dH _))))) (aW (bM mQ)) cK)
  (aN (lM PassesOwn.never rfl (jP K (pv 2)) (iR K 2 rfl (cQ (bE (i:=3) sc_law_same.nd rfl (by first|exact .inl rfl|exact .inr rfl)) (cQ (bE (i:=4) sc_law_same.nd rfl (by first|exact .inl rfl|exact .inr rfl)) iS))) (aN (bK (i:=5) sc_law_same.nd rfl (by first|exact .inl rfl|exact .inr rfl) (vL (pv 0) h_table (hr.mono (by decide)) (aB (pv 3) aK)))
  (aN (dW (PW.pt (uN (iY (gE K (bD (wM K) rfl T.cM cB (aB (pv 5) (aB (ap3 T.nZ lT) aK))) (λ_=>rfl))) (tG (dB (rN K (n:=bV) hr) (pv 5) (pv 4) (dH _))))) (aW (bM mQ)) cK)
  (aN (iT (lF K PySem.F.plainAttrs_list PySem.F.slot_list_append PySem.F.type_list_append iJ (pv 5) (aB aH aK)))
  (aW (dW (PW.pt (uN (dB (rN K (n:=bV) hr) (vL (pv 0) h_table (hr.mono (by decide)) (aB (pv 3) aK)) (pv 4) (dH _)) (tG (dB cj0 (vL (pv 0) h_table (hr.mono (by decide)) (aB (aP (bB K) (pv 3) cH) aK)) xB (dH _))))) (aW (bM mQ)) cK))))))
  (aW (bM (qT cg3 (vL (pv 0) h_table (hr.mono (by decide)) (aB cH aK)) xB (dH _)))))))),
  (aU (qP (mX (bI (aD 1) (RE.rb aG))) (aT 6) fB (wE (aM (RB.chk (bI (aD 6) (RE.rb aG))) (aM (RB.chk (bI (aD 6) (RE.rb aG))) bC))))
   (aU (dU (uH (cW (RE.rb (aL uZ (tP (aa5 T) (aD 0)) (bI (bI (aD 1) (RE.rb aG)) (RE.rb aG))))) (uH (cW (RE.rb (aL uZ (tP (au0 T) (aD 0)) (bI (bI (aD 1) (RE.rb aG)) (RE.rb aG))))) (cW (RE.rb (aL uZ (tP (aa0 T) (aD 0)) (bI (aD 1) (RE.rb aG))))))) (bN mS) cI)
   (aU (dU (uH (cW (RE.rb (aL uZ (tP (as1 T) (aD 0)) (aD 2)))) (cW (RE.rb (aL uZ (tP (ae2 T) (aD 0)) (RE.rb (fE (mX (bI (aD 1) (RE.rb aG))) (aT 7) fB (cT ar1 (aI (aD 7) aR)))))))) (bN mS) cI)
   (aU (RS.frz 2 (mK (ad9 (aD 2)) (lJ (cX (aT 3) (cX (aT 4) jO))) (aU (bJ (vE (uF T) (aD 0) (aI (aD 3) aR)) (aT 5))
   (aU (dU (uH (jA (kN (RE.rb (cT aw3 (aI (aD 5) (aI (RE.rb as8) aR)))))) (cW (RE.rb (aL uZ (aD 5) (aD 4))))) (bN mS) cI)
   (aU (pJ (j:=5) (fT 5) aG)
   (dU (uH (cW (RE.rb (aL uZ (RE.rb (vE (uF T) (aD 0) (aI (aD 3) aR))) (aD 4)))) (cW (RE.rb (aL bs8 (RE.rb (vE (uF T) (aD 0) (aI (RE.rb (aL bQ (aD 3) (RE.rb cC))) aR))) (RE.rb xJ))))) (bN mS) cI))))))
   (bN (aL cp8 (RE.rb (vE (uF T) (aD 0) (aI (RE.rb cC) aR))) (RE.rb xJ)))))))⟩) rfl (λ_=>rfl)
theorem sc_law:bL ["_law_script","_law_parts","_law_number","_law_ways","_law_other","_law_letters","_law_inks","_law_reigns","_law_archive","_law_name","_law_table_here","_law_ink","_law_reign"] ["_law_script"] (aS qL):=⟨rfl,rfl,rfl,by decide+kernel,rfl,by decide+kernel,by decide+kernel⟩
theorem cu1{f:Addr}{fd:FuncData}(F:Fun K "law" "law" qL f fd)(T:Txt w K cn mg c_Archive c_BadArchive c_ArchiveError c_BadSaying c_NoAge c_Stuck c_NoYear c_NoGap c_TooMany c_NoNumber c_NoDating c_BadRow c_NoRow c_NoName)(jY:dL P w K mg base 2 "_law_stirred_script" ["_law_script"] (cJ K cn 1 fU))(vH:dL P w K mg base 3 "_law_made" ["_law_script"] (cJ K cn 1 nL))(gC:dL P w K mg base 1 "_law_got" ["_law_script","_law_place"] (cJ K cn 2 eO))(nX:dL P w K mg base 2 "_law_spoilt" ["_law_parts","_law_number"] (ao1 K cn jR))(pR:dL P w K mg base 8 "_law_refused" ["_law_parts"] (cJ K cn 1 kJ))(pE:af4 P w K mg base 5 "Archive" c_Archive (spI K cn "Archive" 5 fS))(uD:dL P w K mg base 2 "_law_same" ["_law_archive","_law_parts"] (cJ K cn 2 nK)):FnOk P w K mg base mZ 9 f fd ["_law_script"] (cJ K cn 1 ai3):=by
 refine ax1 (d:=al8) F sc_law (λcdv A outer s H E hr=>⟨_,(aN (bK (i:=0) sc_law.nd rfl (by first|exact .inl rfl|exact .inr rfl) (bX jY (hr.mono (by decide)) (aB (pv 0) aK)))
  (aN (bK (i:=1) sc_law.nd rfl (by first|exact .inl rfl|exact .inr rfl) (bX vH (hr.mono (by decide)) (aB (pv 0) aK)))
  (aN (bK (i:=2) sc_law.nd rfl (by first|exact .inl rfl|exact .inr rfl) (bX gC (hr.mono (by decide)) (aB (pv 0) (aB aH aK))))
  (aN (dW (dB cw5 (aP bU (pv 2) aH) aH (dH _)) (aN (bK (i:=3) sc_law.nd rfl (by first|exact .inl rfl|exact .inr rfl) (bF (aB (bX nX (hr.mono (by decide)) (aB (pv 1) (aB (aP eK (pv 2) aH) aK))) aK)))
  (aN (dW (dB (gH K (n:=bV) hr) (aP bU (pv 2) aH) aH (dH _)) (aN (bK (i:=4) sc_law.nd rfl (by first|exact .inl rfl|exact .inr rfl) (bX gC (hr.mono (by decide)) (aB (pv 0) (aB aH aK))))
  (aW (dW (dB (be3 K (n:=bV) hr) (aP bU (pv 4) aH) (pv 3) (by with_unfolding_all rfl)) (aW (iT (lF K PySem.F.plainAttrs_list PySem.F.slot_list_append PySem.F.type_list_append iJ (pv 3) (aB (bX nX (hr.mono (by decide)) (aB (pv 1) (aB (pv 4) aK))) aK)))) cK))) cK)
  (aW (bM (qT (gH K (n:=bV) hr) (bX pR (hr.mono (by decide)) (aB (pv 1) aK)) (bH (bT K) (bF (aB cH (aB cH (aB cH (aB cH aK))))) (bD (al2 K) rfl T.ba8 br1 (aB (pv 3) aK)) (λ_ _=>rfl)) (dH _)))))) cK)
  (aN (bK (i:=5) sc_law.nd rfl (by first|exact .inl rfl|exact .inr rfl) (gX (iW K) rfl T.nZ lT (aB (bH (bT K) (pv 1) aH (λ_ _=>rfl)) aK)))
  (aN (qK (i:=6) sc_law.nd rfl (by first|exact .inl rfl|exact .inr rfl) (ks:=[11]) ⟨rfl,by decide+kernel,by decide+kernel,by rfl,by rfl⟩ rfl (jP K (bH (bT K) (pv 1) aH (λ_ _=>rfl))) (λ_ _ _ _ _=>(bE (i:=11) sc_law.nd rfl (by first|exact .inl rfl|exact .inr rfl))) (λ_ _ _ _ _=>eE) (λ_ _ _ _ _=>(wC (aB (bH (bT K) (pv 11) aH (λ_ _=>rfl)) (aB (gX (iW K) rfl T.nZ lT (aB (bH (bT K) (pv 11) aH (λ_ _=>rfl)) aK)) aK)))))
  (aN (qK (i:=7) sc_law.nd rfl (by first|exact .inl rfl|exact .inr rfl) (ks:=[12]) ⟨rfl,by decide+kernel,by decide+kernel,by rfl,by rfl⟩ rfl (jP K (bH (bT K) (pv 1) aH (λ_ _=>rfl))) (λ_ _ _ _ _=>(bE (i:=12) sc_law.nd rfl (by first|exact .inl rfl|exact .inr rfl))) (λ_ _ _ _ _=>eE) (λ_ _ _ _ _=>(gX (sW K) rfl T.az1 yS (aB (pv 12) aK))))
  (aN (bK (i:=8) sc_law.nd rfl (by first|exact .inl rfl|exact .inr rfl) (ay6 pE ca6 (hr.mono (by decide)) (aB (bH (bT K) (bH (bT K) (pv 1) aH (λ_ _=>rfl)) aH (λ_ _=>rfl)) (aB (bH (bT K) (bH (bT K) (pv 1) aH (λ_ _=>rfl)) aH (λ_ _=>rfl)) (aB (pv 5) (aB (pv 6) (aB (pv 7) aK)))))))
  (aN (iT (lF K PySem.F.plainAttrs_list PySem.F.slot_list_append PySem.F.type_list_append iJ (pv 5) (aB cH aK)))
  (aN (iT (ap7 K PySem.F.plainAttrs_list PySem.F.slot_list_clear PySem.F.type_list_clear ad4 (pv 7)))
  (aN (lM PassesOwn.never rfl (jP K (pv 6)) (iR K 2 rfl (cQ (bE (i:=9) sc_law.nd rfl (by first|exact .inl rfl|exact .inr rfl)) (cQ (bE (i:=10) sc_law.nd rfl (by first|exact .inl rfl|exact .inr rfl)) iS))) (aW (iT (lF K PySem.F.plainAttrs_list PySem.F.slot_list_append PySem.F.type_list_append iJ (pv 10) (aB aH aK)))))
  (aN (iT (ap7 K PySem.F.plainAttrs_list PySem.F.slot_list_clear PySem.F.type_list_clear ad4 (pv 6)))
  (aW (bM (bX uD (hr.mono (by decide)) (aB (pv 8) (aB (pv 1) aK))))))))))))))))),
  (aU (bJ (cD (aI (aD 0) aR)) (aT 0))
   (aU (bJ (RE.frz1 (cD (aI (aD 0) aR))) (aT 1))
   (aU (bJ (cD (aI (aD 0) (aI (RE.rb aG) aR))) (aT 2))
   (aU (dU (cW (RE.rb (aL cd8 (RE.rb (aL cN (aD 2) (RE.rb aG))) (RE.rb aG)))) (aU (ca0 rfl rfl (RE.rb (aL fW (aD 2) (RE.rb aG))))
   (aU (dU (cW (RE.rb (aL kU (RE.rb (aL cN (aD 2) (RE.rb aG))) (RE.rb aG)))) (aU (bJ (cD (aI (aD 0) (aI (RE.rb aG) aR))) (aT 4))
   (dU (cW (RE.rb (aL cq1 (RE.rb (aL cN (aD 4) (RE.rb aG))) (aD 3)))) (bv9 (by decide) rfl (aD 4)) cI)) cI)
   (bN (aL kU (RE.rb (cD (aI (aD 1) aR))) (bI (RE.rb (bG (aM cC (aM cC (aM cC (aM cC bC)))))) (RE.rb (cT bv6 (aI (aD 3) aR)))))))) cI)
   (aU (bJ (cT pG (aI (bI (aD 1) (RE.rb aG)) aR)) (aT 5))
   (aU (qP (mX (bI (aD 1) (RE.rb aG))) (aT 11) fB (wE (aM (RB.chk (bI (aD 11) (RE.rb aG))) (aM (cT pG (aI (bI (aD 11) (RE.rb aG)) aR)) bC))))
   (aU (qP (mX (bI (aD 1) (RE.rb aG))) (aT 12) fB (cT ar1 (aI (aD 12) aR)))
   (aU (bJ (ag7 T.jE (aI (bI (bI (aD 1) (RE.rb aG)) (RE.rb aG)) (aI (bI (bI (aD 1) (RE.rb aG)) (RE.rb aG)) (aI (aD 5) (aI (aD 6) (aI (aD 7) aR)))))) (aT 8))
   (aU (pJ (j:=5) (fT 5) cC)
   (aU (bu2 (j:=7) bf7 (fT 7) bC)
   (aU (bs0 (by decide) (by decide) (by decide) rfl rfl)
   (aU (bu2 (j:=6) bf7 (fT 6) bC)
   (bN (cD (aI (aD 8) (aI (aD 1) aR))))))))))))))))⟩) rfl (λ_=>rfl)
theorem pE(F:ah8 K mg "Archive" c_Archive "Archive.__init__" iM)(T:Txt w K cn mg c_Archive c_BadArchive c_ArchiveError c_BadSaying c_NoAge c_Stuck c_NoYear c_NoGap c_TooMany c_NoNumber c_NoDating c_BadRow c_NoRow c_NoName)(mO:dL P w K mg base 3 "are_years" ["first","present"] (cJ K cn 2 iL))(e_BadArchive:ap1 P w K mg base "BadArchive" c_BadArchive "part")(gS:dL P w K mg base 3 "are_names" ["names","least","most"] (cJ K cn 3 eI))(nG:dL P w K mg base 4 "are_inks" ["inks"] (cJ K cn 1 jB))(lN:dL P w K mg base 4 "are_reigns" ["reigns"] (cJ K cn 1 gY)):af4 P w K mg base 5 "Archive" c_Archive (spI K cn "Archive" 5 fS):=
 an9 (d:=jM) F sc_Archive_init (λ_ _ _ _ _ _ us hl=>match us,hl with|[_,_,_,_,_,_],_=>rfl) (aa1 T mO e_BadArchive gS nG lN) rfl (λ_=>rfl)
theorem ac0(F:an8 K c_Archive "table" "Archive.table" hV)(T:Txt w K cn mg c_Archive c_BadArchive c_ArchiveError c_BadSaying c_NoAge c_Stuck c_NoYear c_NoGap c_TooMany c_NoNumber c_NoDating c_BadRow c_NoRow c_NoName):Mth P w K mg base 1 c_Archive "table" (cJ K cn 2 cV):=
 bj1 (d:=jD) F T.lX sc_Archive_table (λ_ _ _ _ _ _ us hl=>match us,hl with|[_,_],_=>rfl) (aj0 T) rfl (λ_=>rfl) (by decide)
end
theorem cb4{l:PySem.W.OpenLaw}{w:World}{K:PySem.W.Frag}{h:Heap}{mg:Str->Option Value}{fa f0:Addr}(X:K.In h)(G:h.Ns mainGlobals mg)(hfa:mg "law"=some (.ref fa))
 {od0 an0:Option Addr}{sl0:Array (Option Value)}{oc0 kV0 dc0 pm0 cd0 ct0:Value}
 (a0:PySem.W.nsIn K mainGlobals "law"=some (some (.ref f0)))(l0:K.lookup f0=some ⟨oc0,od0,.func (PySem.W.fnOf "law" "law" (fZ qL) (cF qL) (aS qL) .none kV0 dc0 pm0 an0 cd0 ct0),sl0⟩)(c0:PySem.W.codeIn K cd0 "law"=true)(k0:PySem.W.keepIn K (.ref f0)=true)
 {cn:Str->Option Addr}{c_Archive c_BadArchive c_ArchiveError c_BadSaying c_NoAge c_Stuck c_NoYear c_NoGap c_TooMany c_NoNumber c_NoDating c_BadRow c_NoRow c_NoName:Addr}
 (T:Txt w K cn mg c_Archive c_BadArchive c_ArchiveError c_BadSaying c_NoAge c_Stuck c_NoYear c_NoGap c_TooMany c_NoNumber c_NoDating c_BadRow c_NoRow c_NoName)(ag3:dR K mg "_law_stirred" pV)(vM:dR K mg "_law_stirred_script" kC)(bj3:dR K mg "_law_got" wO)(aw6:dR K mg "_law_names" tF)(ad6:dR K mg "_law_spread" rV)(au6:dR K mg "_law_table" sT)(ax9:dR K mg "_law_made" uW)(xN:dR K mg "_law_spoilt_years" lE)(vN:dR K mg "_law_spoilt_letters" jX)(yH:dR K mg "_law_spoilt_list" lZ)(ah6:dR K mg "_law_spoilt" rX)(bb0:dR K mg "is_whole" uU)(az0:dR K mg "is_whole_from" nH)(av6:dR K mg "are_years" tD)(ae6:dR K mg "is_made_of" rZ)(bi3:dR K mg "is_name" wH)(ax6:dR K mg "are_names" sV)(az9:dR K mg "is_table" uA)(ay9:dR K mg "are_inks" uI)(ba0:dR K mg "is_reign" vG)(ag6:dR K mg "are_reigns" sB)(bp6:dR K mg "_law_of" zM)(ay1:dR K mg "_law_one_kind" oU)(af3:dR K mg "_law_refused" pX)(bc0:dR K mg "_law_same" uP)(bd0:ah8 K mg "Archive" c_Archive "Archive.__init__" iM)(zP:an8 K c_Archive "table" "Archive.table" hV)
 (main:∀ns:List Int,ns.length<=63->(∀n∈ns,Builtin.Int.intBits n<=1048576)->ai3 [.lst false (ns.map .int)]=.ok (.bl true)):
 ∃fd:FuncData,(∀(s:Shared)(v:Value),BindsTo s fd ⟨[v],[]⟩ [("_law_script",v)])/\∀base:Heap,K.In base->base.Ns mainGlobals mg->FnOk l.prog w K mg base mZ 9 fa fd ["_law_script"] (as3 K):=by
 have e:=hfa.symm.trans (PySem.W.mg_of X G a0)
 cases e
 have F0:=wV (st:=qL) l0 c0 k0
 have key:∀base:Heap,FnOk l.prog w K mg base mZ 9 fa (PySem.W.fnOf "law" "law" (fZ qL) (cF qL) (aS qL) .none kV0 dc0 pm0 an0 cd0 ct0) ["_law_script"] (as3 K):=by
  intro base
  have x_d_law_stirred:=pQ (P:=l.prog) (base:=base) ag3 T
  have x_d_law_stirred_script:=jY (P:=l.prog) (base:=base) vM T x_d_law_stirred
  have x_d_law_got:=gC (P:=l.prog) (base:=base) bj3 T
  have x_d_law_names:=tB (P:=l.prog) (base:=base) aw6 T
  have x_d_law_spread:=jQ (P:=l.prog) (base:=base) ad6 T
  have x_d_law_table:=sS (P:=l.prog) (base:=base) au6 T x_d_law_spread
  have x_d_law_made:=vH (P:=l.prog) (base:=base) ax9 T x_d_law_got x_d_law_names x_d_law_table x_d_law_spread
  have x_d_law_spoilt_years:=lO (P:=l.prog) (base:=base) xN T
  have x_d_law_spoilt_letters:=kG (P:=l.prog) (base:=base) vN T
  have x_d_law_spoilt_list:=jJ (P:=l.prog) (base:=base) yH T
  have x_d_law_spoilt:=nX (P:=l.prog) (base:=base) ah6 T x_d_law_spoilt_years x_d_law_spoilt_letters x_d_law_spoilt_list
  have x_d_is_whole:=uJ (P:=l.prog) (base:=base) bb0 T
  have x_d_is_whole_from:=eC (P:=l.prog) (base:=base) az0 T x_d_is_whole
  have x_d_are_years:=mO (P:=l.prog) (base:=base) av6 T x_d_is_whole_from
  have x_e_BadArchive:=bp9 (w:=w) (P:=l.prog) (base:=base) T.te_BadArchive xC (λ_ _ _ _ _ _ us hl=>match us,hl with|[_,_],_=>rfl)
  have x_d_is_made_of:=rG (P:=l.prog) (base:=base) ae6 T
  have x_d_is_name:=wU (P:=l.prog) (base:=base) bi3 T x_d_is_made_of
  have x_d_are_names:=gS (P:=l.prog) (base:=base) ax6 T x_d_is_name
  have x_d_is_table:=vJ (P:=l.prog) (base:=base) az9 T x_d_is_whole_from
  have x_d_are_inks:=nG (P:=l.prog) (base:=base) ay9 T x_d_are_names x_d_is_table
  have x_d_is_reign:=uX (P:=l.prog) (base:=base) ba0 T x_d_is_whole_from
  have x_d_are_reigns:=lN (P:=l.prog) (base:=base) ag6 T x_d_are_names x_d_is_reign
  have x_k_Archive:=pE (P:=l.prog) (base:=base) bd0 T x_d_are_years x_e_BadArchive x_d_are_names x_d_are_inks x_d_are_reigns
  have x_d_law_of:=zD (P:=l.prog) (base:=base) bp6 T x_k_Archive
  have x_d_law_one_kind:=oN (P:=l.prog) (base:=base) ay1 T
  have x_d_law_refused:=pR (P:=l.prog) (base:=base) af3 T x_d_law_of x_d_law_one_kind
  have x_h_table:=bl0 (ac0 (P:=l.prog) (base:=base) zP T) (bl6)
  have x_d_law_same:=uD (P:=l.prog) (base:=base) bc0 T x_h_table
  exact law_fn (cu1 F0 T x_d_law_stirred_script x_d_law_made x_d_law_got x_d_law_spoilt x_d_law_refused x_k_Archive x_d_law_same) main
 exact⟨_,λs v=>.of_eq rfl,λbase _ _=>key base⟩
theorem oK{α:Type}(xs:List α)(k:Nat)(h:k<=xs.length):gL xs (some (k:Int)) none=xs.drop k:=by
 unfold gL
 have e1:HT.sIx xs.length 0 (some (k:Int))=k:=by
  simp only[HT.sIx]
  rw[if_neg (by omega)]
  omega
 have e2:HT.sIx xs.length xs.length none=xs.length:=rfl
 rw[e1,e2,List.take_of_length_le (by simp)]
theorem xF{α:Type}(xs:List α)(k:Nat):gL xs none (some (k:Int))=xs.take k:=by
 unfold gL
 have e1:HT.sIx xs.length 0 none=0:=rfl
 have e2:HT.sIx xs.length xs.length (some (k:Int))=min k xs.length:=by
  simp only[HT.sIx]
  rw[if_neg (by omega)]
  omega
 rw[e1,e2,List.drop_zero,Nat.sub_zero]
 rw[List.take_eq_take_iff]
 omega
structure Fm where
 first:Int
 span:Int
 names:List Str
 inks:List (Str×List Int)
 reigns:List (Str×Int×Int)
def dD(o:Bool)(p:Str×List Int):T:=.tup [.str p.1,.lst o (p.2.map .int)]
def gW(p:Str×Int×Int):T:=.tup [.str p.1,.int p.2.1,.int p.2.2]
def fmT(o:Bool)(f:Fm):T:=.tup [.int f.first,.int (f.first+f.span),.lst o (f.names.map .str),.lst o (f.inks.map (dD o)),.lst o (f.reigns.map gW)]
def eD(w:Str):Bool:=decide (1<=(w.length:Int))&&(decide ((w.length:Int)<=8)&&w.cps.toList.all λc=>yR "abcdefghijklmnopqrstuvwxyz" ⟨#[c]⟩)
structure TabOk (xs:List Int):Prop where
 l1:1<=xs.length
 l60:xs.length<=60
 b:∀x∈xs,0<=x/\x<=1000000
 f:xs.Pairwise (λa b=>b<=a)
structure Gd (f:Fm):Prop where
 s0:0<=f.span
 s1:f.span<=300
 f0:-3000<=f.first
 f1:f.first+f.span<=3000
 n1:1<=f.names.length
 n8:f.names.length<=8
 nn:∀x∈f.names,eD x=true
 nd:f.names.Nodup
 i6:f.inks.length<=6
 ind:(f.inks.map (·.1)).Nodup
 inn:∀p∈f.inks,eD p.1=true/\TabOk p.2
 r8:f.reigns.length<=8
 rnd:(f.reigns.map (·.1)).Nodup
 rn:∀p∈f.reigns,eD p.1=true/\-4000<=p.2.1/\p.2.1<=4000/\1<=p.2.2/\p.2.2<=100
theorem pK(l:List Int){i:Int}(h0:0<=i)(h1:i<l.length):∃v,atI (l.map T.int) i=some (.int v)/\v∈l:=by
 obtain⟨k,rfl⟩:=gB h0
 have hk:k<l.length:=by omega
 exact⟨l[k],eP (by simp[hk]),List.getElem_mem hk⟩
theorem bf1(l:List Str){i:Nat}(h1:i<l.length):∃v,atI (l.map T.str) (0+(i:Int))=some (.str v)/\l[i]?=some v:=by
 rw[Int.zero_add]
 exact⟨l[i],eP (by simp[h1]),List.getElem?_eq_getElem h1⟩
theorem iI(l:List (Str×List Int)):bA (l.map (dD false))=true:=iG (λa=>by simp only[dD,dG,bA,mM,Bool.not_false,Bool.and_self]) l
theorem ar6(l:List (Str×List Int)):fR (l.map (dD true))=true:=kD (λa=>by simp only[dD,gP,fR,tE,Bool.and_self]) l
theorem lL(o:Bool):∀l:List (Str×List Int),frzs (l.map (dD o))=l.map (dD false)
 |[]=>rfl
 |p::l=>by simp only[List.map_cons,frzs,lL o l,dD,frz,sL]
theorem lQ(l:List (Str×Int×Int)):bA (l.map gW)=true:=iG (λa=>rfl) l
theorem av8(l:List (Str×Int×Int)):fR (l.map gW)=true:=kD (λa=>rfl) l
theorem rS(l:List (Str×Int×Int)):frzs (l.map gW)=l.map gW:=vI (λa=>rfl) l
theorem fJ{n:Nat}(h:n<=100000):n<=sizeLine:=Nat.le_trans h (by decide)
theorem cj4{α:Type}(l:List α)(p:α->Bool):(l.map λc=>p c).all id=l.all p:=by
 induction l with
 |nil=>rfl
 |cons a l ih=>simp only[List.map_cons,List.all_cons,ih,id]
theorem fA{α:Type}{b:T->Fr->Option Fr}{c:Fr->Res Bool}{d:Fr->Res T}{ρ:Fr}{g f:α->T}:∀{l:List α},(∀a∈l,(match b (g a) ρ with|some ρ1=>(c ρ1).bind λk=>if k=true then d ρ1 else .no|none=>.no)=.ok (f a))->dF b c d ρ (l.map g)=.ok (l.map f)
 |[],_=>rfl
 |a::l,h=>by
  have h0:=h a List.mem_cons_self
  have ih:=fA (l:=l) λu hu=>h u (List.mem_cons_of_mem _ hu)
  simp only[List.map_cons,dF]
  cases e:b (g a) ρ with
  |none=>rw[e]at h0;cases h0
  |some ρ1=>
   rw[e]at h0
   simp only at h0⊢
   cases e2:c ρ1 with
   |ok k=>
    rw[e2]at h0
    simp only[xP]at h0⊢
    cases k with
    |true=>rw[if_pos rfl]at h0⊢;rw[h0,ih];rfl
    |false=>rw[if_neg (by decide)]at h0;cases h0
   |ex x=>rw[e2]at h0;cases h0
   |no=>rw[e2]at h0;cases h0
theorem vW(w s:Str)(m:Int)(hw:w.length<=100000):lK [.str w,.str s,.int m]=.ok (.bl (decide (1<=(w.length:Int))&&(decide ((w.length:Int)<=m)&&w.cps.toList.all λc=>yR s ⟨#[c]⟩))):=by
 unfold lK qX
 have h2:w.cps.toList.length<=sizeLine:=by rw[<-oJ];exact fJ hw
 have hc:dF (aQ 3) cY (aJ (inT false) (aF 3) (aF 1)) [some (.str w),some (.str s),some (.int m),none] (w.cps.toList.map λc=>T.str ⟨#[c]⟩)=.ok ((w.cps.toList.map λc=>yR s ⟨#[c]⟩).map .bl):=by
  rw[List.map_map]
  exact eU λc _=>by walk_at "ev";rfl
 walk_at "ev"
 cases hA:decide (1<=(w.length:Int))with
 |false=>walk_at "ev"
 |true=>
  cases hB:decide ((w.length:Int)<=m)with
  |false=>walk_at "ev"
  |true=>
   walk_at "ev"
   rw[cj4]
theorem ad2{w:Str}(h:eD w=true):w.length<=8:=by
 unfold eD at h
 simp only[Bool.and_eq_true,decide_eq_true_iff]at h
 omega
theorem bw2{w:Str}(h:eD w=true):jC [.str w]=.ok (.bl true):=by
 unfold jC sI
 have h1:=vW w "abcdefghijklmnopqrstuvwxyz" 8 (by have:=ad2 h;omega)
 rw[show(decide (1<=(w.length:Int))&&(decide ((w.length:Int)<=8)&&w.cps.toList.all λc=>yR "abcdefghijklmnopqrstuvwxyz" ⟨#[c]⟩))=true from h]at h1
 walk_at "ev"
theorem iA(x l u:Int):cO [.int x,.int l,.int u]=.ok (.bl (decide (l<=x)&&decide (x<=u))):=by
 have h:nW [.int x]=.ok (.bl true):=by
  unfold nW vK
  walk_at "ev"
 unfold cO nU
 cases hA:decide (l<=x)with
 |true=>walk_at "ev"
 |false=>walk_at "ev"
theorem rY{x l u:Int}(h1:l<=x)(h2:x<=u):cO [.int x,.int l,.int u]=.ok (.bl true):=by
 rw[iA,decide_eq_true h1,decide_eq_true h2]
 rfl
theorem cp1{α:Type}(l:List α):l.map (λ_=>T.bl true)=(l.map λ_=>true).map T.bl:=by rw[List.map_map];rfl
theorem tR{α:Type}(o:Bool)(l:List α):pM false [.lst o (l.map λ_=>T.bl true)]=.ok (.bl true):=by
 rw[cp1,ac9]
 simp
theorem uG{xs:List Int}{i:Nat}(h:i<xs.length):atI (xs.map T.int) (i:Int)=some (.int (xs.getD i 0)):=
 eP (by rw[List.getElem?_map,List.getElem?_eq_getElem h,List.getD_eq_getElem?_getD,List.getElem?_eq_getElem h];rfl)
theorem bz2{xs:List Int}(h:xs.Pairwise (λa b=>b<=a)){i:Nat}(hi:i+1<xs.length):xs.getD (i+1) 0<=xs.getD i 0:=by
 rw[List.pairwise_iff_getElem]at h
 have:=h i (i+1) (by omega) hi (by omega)
 simpa[List.getD_eq_getElem?_getD,List.getElem?_eq_getElem hi,List.getElem?_eq_getElem (show i<xs.length by omega)]using this
theorem al9(o:Bool){xs:List Int}(h:TabOk xs):iE [.lst o (xs.map .int)]=.ok (.bl true):=by
 unfold iE qF
 obtain⟨h1,h60,hb,hf⟩:=h
 have hc1:dF (aQ 1) cY (cP 3 cO (aE (aF 1) (aE (dC (.int 0)) (aE (dC (.int 1000000)) aO)))) [some (.lst o (xs.map .int)),none,none] (xs.map .int)=.ok (xs.map λ_=>.bl true):=by
  refine eU λc hc=>?_
  have:=rY (hb c hc).1 (hb c hc).2
  walk_at "ev"
 have hc2:dF (aQ 2) cY (aJ pZ (aJ bW (aF 0) (aF 2)) (aJ bW (aF 0) (aJ lP (aF 2) (dC (.int 1))))) [some (.lst o (xs.map .int)),none,none] (eV 1 ((xs.length:Int)-1).toNat)=.ok ((List.range (xs.length-1)).map λ_=>.bl true):=by
  unfold eV
  rw[show((xs.length:Int)-1).toNat=xs.length-1 by omega]
  refine eU λi hi=>?_
  have hi:=List.mem_range.mp hi
  have a1:atI (xs.map T.int) (1+(i:Int))=some (.int (xs.getD (i+1) 0)):=by
   rw[show(1:Int)+(i:Int)=((i+1:Nat):Int) by omega]
   exact uG (by omega)
  have a2:atI (xs.map T.int) (1+(i:Int)-1)=some (.int (xs.getD i 0)):=by
   rw[show(1:Int)+(i:Int)-1=(i:Int) by omega]
   exact uG (by omega)
  have a3:=decide_eq_true (bz2 hf (i:=i) (by omega))
  walk_at "ev"
 have hl2:(eV 1 ((xs.length:Int)-1).toNat).length<=sizeLine:=by rw[iK];exact fJ (by omega)
 have k1:decide (1<=(xs.length:Int))=true:=decide_eq_true (by omega)
 have k2:decide ((xs.length:Int)<=60)=true:=decide_eq_true (by omega)
 have y1:=λo=>tR o xs
 have y2:=λo=>tR o (List.range (xs.length-1))
 clear hb hf
 walk_at "ev"
theorem ae8{b l:Int}(h1:-4000<=b)(h2:b<=4000)(h3:1<=l)(h4:l<=100):iF [.int b,.int l]=.ok (.bl true):=by
 unfold iF qJ
 have k1:=rY h1 h2
 have k2:=rY h3 h4
 walk_at "ev"
theorem al6{a b:Int}(h1:-3000<=a)(h2:a<=b)(h3:b<=3000)(h4:b-a<=300):iL [.int a,.int b]=.ok (.bl true):=by
 unfold iL pB
 have k1:=rY h1 (show a<=3000 by omega)
 have k2:=rY (show -3000<=b by omega) h3
 have k3:decide (0<=b-a)=true:=decide_eq_true (by omega)
 have k4:decide (b-a<=300)=true:=decide_eq_true (by omega)
 walk_at "ev"
theorem sX{o:Bool}{ss:List Str}{l u:Int}(h1:l<=ss.length)(h2:(ss.length:Int)<=u)(h3:ss.length<=1000)(hn:∀x∈ss,eD x=true)(nd:ss.Nodup):eI [.lst o (ss.map .str),.int l,.int u]=.ok (.bl true):=by
 unfold eI oY
 have hc:dF (aQ 3) cY (cP 1 jC (aE (aF 3) aO)) [some (.lst o (ss.map .str)),some (.int l),some (.int u),none] (ss.map .str)=.ok (ss.map λ_=>.bl true):=by
  refine eU λc hc=>?_
  have:=bw2 (hn c hc)
  walk_at "ev"
 have k1:decide (l<=(ss.length:Int))=true:=decide_eq_true h1
 have k2:decide ((ss.length:Int)<=u)=true:=decide_eq_true h2
 have y1:=λo=>tR o ss
 have ls:=bw4 o nd h3
 have l4:ss.length<=100000:=by omega
 clear hn nd
 walk_at "ev"
 simp
theorem aq8{is:List (Str×List Int)}(h6:is.length<=6)(nd:(is.map (·.1)).Nodup)(ok:∀p∈is,eD p.1=true/\TabOk p.2):jB [.lst false (is.map (dD false))]=.ok (.bl true):=by
 unfold jB qN
 have hc1:dF (gZ (bO (aQ 1) (bO (aQ 2) iC))) cY (dJ (aF 1)) [some (.lst false (is.map (dD false))),none,none] (is.map (dD false))=.ok ((is.map (·.1)).map .str):=by
  rw[List.map_map]
  exact fA λp _=>by simp only[dD];walk_at "ev";rfl
 have hc2:dF (gZ (bO (aQ 1) (bO (aQ 2) iC))) cY (cP 1 iE (aE (aF 2) aO)) [some (.lst false (is.map (dD false))),none,none] (is.map (dD false))=.ok (is.map λ_=>.bl true):=by
  refine fA λp hp=>?_
  simp only[dD]
  have:=al9 false (ok p hp).2
  walk_at "ev"
 have nm:=sX (o:=false) (ss:=is.map (·.1)) (l:=0) (u:=6) (by omega) (by simp;omega) (by simp;omega) (λx hx=>by
  obtain⟨p,hp,rfl⟩:=List.mem_map.mp hx
  exact(ok p hp).1) nd
 have y1:=λo=>tR o is
 have n1:=iI is
 have l4:is.length<=100000:=by omega
 clear ok nd
 walk_at "ev"
theorem aa4{rs:List (Str×Int×Int)}(h8:rs.length<=8)(nd:(rs.map (·.1)).Nodup)(ok:∀p∈rs,eD p.1=true/\-4000<=p.2.1/\p.2.1<=4000/\1<=p.2.2/\p.2.2<=100):gY [.lst false (rs.map gW)]=.ok (.bl true):=by
 unfold gY nI
 have hc1:dF (gZ (bO (aQ 1) (bO (aQ 2) (bO (aQ 3) iC)))) cY (dJ (aF 1)) [some (.lst false (rs.map gW)),none,none,none] (rs.map gW)=.ok ((rs.map (·.1)).map .str):=by
  rw[List.map_map]
  exact fA λp _=>by simp only[gW];walk_at "ev";rfl
 have hc2:dF (gZ (bO (aQ 1) (bO (aQ 2) (bO (aQ 3) iC)))) cY (cP 2 iF (aE (aF 2) (aE (aF 3) aO))) [some (.lst false (rs.map gW)),none,none,none] (rs.map gW)=.ok (rs.map λ_=>.bl true):=by
  refine fA λp hp=>?_
  simp only[gW]
  obtain⟨_,k1,k2,k3,k4⟩:=ok p hp
  have:=ae8 k1 k2 k3 k4
  walk_at "ev"
 have nm:=sX (o:=false) (ss:=rs.map (·.1)) (l:=0) (u:=8) (by omega) (by simp;omega) (by simp;omega) (λx hx=>by
  obtain⟨p,hp,rfl⟩:=List.mem_map.mp hx
  exact(ok p hp).1) nd
 have y1:=λo=>tR o rs
 have n1:=lQ rs
 have l4:rs.length<=100000:=by omega
 clear ok nd
 walk_at "ev"
def gU(o:Bool)(f:Fm):T:=.ins o "Archive" ["first","present","letters","inks","reigns"] [.int f.first,.int (f.first+f.span),.lst o (f.names.map .str),.lst o (f.inks.map (dD o)),.lst o (f.reigns.map gW)]
theorem fi1:iO "first" []=none:=rfl
theorem fi2:iO "present" ["first"]=none:=by decide+kernel
theorem fi3:iO "letters" ["first","present"]=none:=by decide+kernel
theorem fi4:iO "inks" ["first","present","letters"]=none:=by decide+kernel
theorem fi5:iO "reigns" ["first","present","letters","inks"]=none:=by decide+kernel
theorem ct1:(["Archive"]:List Str).contains "Archive"=true:=by decide+kernel
theorem ay4{f:Fm}(g:Gd f):fS [.int f.first,.int (f.first+f.span),.lst false (f.names.map .str),.lst false (f.inks.map (dD false)),.lst false (f.reigns.map gW)]=.ok (gU true f):=by
 unfold fS jM gU
 have k1:=al6 g.f0 (show f.first<=f.first+f.span by have:=g.s0;omega) g.f1 (by have:=g.s1;omega)
 have k2:=sX (o:=false) (l:=1) (u:=8) (ss:=f.names) (by have:=g.n1;omega) (by have:=g.n8;omega) (by have:=g.n8;omega) g.nn g.nd
 have k3:=aq8 g.i6 g.ind g.inn
 have k4:=aa4 g.r8 g.rnd g.rn
 have n1:=iI f.inks
 have n2:=lQ f.reigns
 have z1:=lL false f.inks
 have z2:=rS f.reigns
 have i1:=fi1
 have i2:=fi2
 have i3:=fi3
 have i4:=fi4
 have i5:=fi5
 have c1:=ct1
 have d0:∀x y z:T,dF (gZ (bO (aQ 6) (bO (aQ 7) iC))) cY (oC (aE (dJ (aF 6)) (aE (dX iP (aE (aF 7) aO)) aO))) [some x,some (.int f.first),some (.int (f.first+f.span)),some y,some (.lst false (f.inks.map (dD false))),some z,none,none,none,none] (f.inks.map (dD false))=.ok (f.inks.map (dD true)):=λx y z=>
  fA λp _=>by simp only[dD];walk_at "ev"
 have d1:∀x y z:T,dF (gZ (bO (aQ 6) (bO (aQ 8) (bO (aQ 9) iC)))) cY (oC (aE (dJ (aF 6)) (aE (dJ (aF 8)) (aE (dJ (aF 9)) aO)))) [some x,some (.int f.first),some (.int (f.first+f.span)),some y,some z,some (.lst false (f.reigns.map gW)),none,none,none,none] (f.reigns.map gW)=.ok (f.reigns.map gW):=λx y z=>
  fA λp _=>by simp only[gW];walk_at "ev"
 have l5:f.reigns.length<=100000:=by have:=g.r8;omega
 have l4:f.inks.length<=100000:=by have:=g.i6;omega
 clear g
 have q1:decide (0<1000)=true:=rfl
 have q2:decide (1<1000)=true:=rfl
 have q3:decide (2<1000)=true:=rfl
 have q4:decide (3<1000)=true:=rfl
 have q5:decide (4<1000)=true:=rfl
 walk_at "ev"
theorem bo0(o:Bool)(f:Fm):frz (gU o f)=gU false f:=by simp only[gU,frz,frzs,nC,lL,rS]
theorem aq5(f:Fm):dG (gU false f)=true:=by simp only[gU,dG,bA,eS,iI,lQ,Bool.not_false,Bool.and_self]
theorem bv4(f:Fm):gP (gU true f)=true:=by simp only[gU,gP,fR,yN,ar6,av8,Bool.and_self]
theorem bo6(o:Bool)(f:Fm):oW ["Archive"] "first" (gU o f)=.ok (.int f.first):=by with_unfolding_all rfl
theorem af9(o:Bool)(f:Fm):oW ["Archive"] "present" (gU o f)=.ok (.int (f.first+f.span)):=by with_unfolding_all rfl
theorem ay8(o:Bool)(f:Fm):oW ["Archive"] "letters" (gU o f)=.ok (.lst o (f.names.map .str)):=by with_unfolding_all rfl
theorem av1(o:Bool)(f:Fm):oW ["Archive"] "inks" (gU o f)=.ok (.lst o (f.inks.map (dD o))):=by with_unfolding_all rfl
theorem bb3(o:Bool)(f:Fm):oW ["Archive"] "reigns" (gU o f)=.ok (.lst o (f.reigns.map gW)):=by with_unfolding_all rfl
theorem tJ{α:Type}(a:α)(l:List α):atI (a::l) 0=some a:=eP (j:=0) rfl
theorem wK{α:Type}(a b:α)(l:List α):atI (a::b::l) 1=some b:=eP (j:=1) rfl
theorem ix2{α:Type}(a b c:α)(l:List α):atI (a::b::c::l) 2=some c:=eP (j:=2) rfl
theorem ix3{α:Type}(a b c d:α)(l:List α):atI (a::b::c::d::l) 3=some d:=eP (j:=3) rfl
theorem ix4{α:Type}(a b c d e:α)(l:List α):atI (a::b::c::d::e::l) 4=some e:=eP (j:=4) rfl
theorem cx4(i:Nat):(2:Int)^(30*(i+1))=2^(30*i)*1073741824:=by
 rw[Nat.mul_add,Int.pow_add]
 rfl
theorem tW{i j:Int}(h1:-(2^64)<i)(h2:i<2^64):mulOk i j:=.inl ⟨h1,h2⟩
theorem tH{i j:Int}(h1:-(2^64)<j)(h2:j<2^64):mulOk i j:=.inr (.inl ⟨h1,h2⟩)
theorem az2(c p:Int)(h0:0<=p)(h1:p<=1000):∃z,kL [.int c,.int p]=.ok (.int z)/\0<=z/\z<2^120:=by
 unfold kL pT
 have k1:(0:Int)<998244341:=by decide
 have k2:(0:Int)<998244353:=by decide
 have k3:mulOk 7919 p:=tW (by decide) (by decide)
 have k4:-(2^62)<=(4:Int)/\(4:Int)<2^62:=by decide
 walk_at "ev"
 generalize hL:jG _ _ _ _=o
 obtain⟨ρ',rfl,z,r,o4,o5,o6,rfl,hz0,hz1⟩:=mY (λi ρ=>∃(z r:Int)(o4 o5 o6:Option T),ρ=[some (.int c),some (.int p),some (.int z),some (.int r),o4,o5,o6]/\0<=z/\z<2^(30*i)) hL ⟨_,_,_,_,_,rfl,by decide,by decide⟩ (by
  rintro i t ρ et ⟨z,r,o4,o5,o6,rfl,hz0,hz1⟩
  obtain⟨hi,rfl⟩:=nF et
  have hi':i<4:=hi
  have q1:gF r 4099:=⟨by decide,by decide⟩
  have q2:mulOk (r%4099) 240007:=tH (by decide) (by decide)
  have q3:mulOk (r/4099) 89:=tH (by decide) (by decide)
  have q4:mulOk 1201 (0+(i:Int)):=tW (by decide) (by decide)
  have q5:mulOk z 998244353:=tH (by decide) (by decide)
  walk_at "ev"
  refine⟨_,_,_,_,_,rfl,?_,?_⟩
  . have h1:=Int.emod_nonneg (r%4099*240007+r/4099*89+1201*(0+(i:Int))+11) (show(998244353:Int)≠0 by decide)
    omega
  . have h2:=Int.emod_lt_of_pos (r%4099*240007+r/4099*89+1201*(0+(i:Int))+11) (show(0:Int)<998244353 by decide)
    rw[cx4]
    omega)
 refine⟨z,by walk_at "ev",hz0,?_⟩
 rw[iK]at hz1
 exact hz1
theorem xV{n:Nat}(h:n<=100000):n<sizeLine:=Nat.lt_of_le_of_lt h (by decide)
theorem uR(ns:List Int)(h63:ns.length<=63)(hb:∀n∈ns,Builtin.Int.intBits n<=1048576):∃ms:List Int,fU [.lst false (ns.map .int)]=.ok (.lst true (ms.map .int))/\ms.length=ns.length/\∀x∈ms,0<=x:=by
 unfold fU kF
 have k0:(0:Nat)<=sizeLine:=Nat.zero_le _
 have k1:¬(64:Int)<(ns.length:Int):=by omega
 have k2:-(2^62)<=(ns.length:Int)/\(ns.length:Int)<2^62:=by omega
 walk_at "ev"
 generalize hL:jG _ _ _ _=o
 obtain⟨ρ',rfl,ms,o2,o3,o4,rfl,hl,hm⟩:=mY (λi ρ=>∃(ms:List Int)(o2 o3 o4:Option T),ρ=[some (.lst false (ns.map .int)),some (.lst true (ms.map .int)),o2,o3,o4]/\ms.length=i/\∀x∈ms,0<=x) hL ⟨[],_,_,_,rfl,rfl,cU⟩ (by
  rintro i t ρ et ⟨ms,o2,o3,o4,rfl,hl,hm⟩
  obtain⟨hi,rfl⟩:=nF et
  rw[Int.toNat_natCast]at hi
  have hat:atI (ns.map T.int) (0+(i:Int))=some (.int ns[i]):=by
   rw[Int.zero_add]
   exact eP (by rw[List.getElem?_map,List.getElem?_eq_getElem hi];rfl)
  have hbi:=hb ns[i] (List.getElem_mem hi)
  generalize ns[i]=c at hat hbi
  obtain⟨c',ec⟩:∃c',(if c<0 then -c else c)=c':=⟨_,rfl⟩
  have hc0:0<=c':=by split at ec<;>omega
  obtain⟨nb,hnb1,hnb2⟩:∃nb:Nat,nb<=1048576/\1048576<=nb:=⟨1048576,Nat.le_refl _,Nat.le_refl _⟩
  have hcb:c'.natAbs<2^nb:=by
   have:c'.natAbs=c.natAbs:=by split at ec<;>omega
   rw[this]
   exact co0 (Nat.le_trans hbi hnb2)
  obtain⟨z,hz,hz0,hz1⟩:=az2 c' (0+(i:Int)) (by omega) (by omega)
  have hml:i<sizeLine:=xV (by omega)
  walk_at "ev"
  generalize hW:rF _ _ _=o
  obtain⟨ρ',m',rfl,⟨q,j,hq1,hj,hjm,hqb,rfl⟩,_⟩:=af2 (m:=nb+1) (λm ρ=>∃(q:Int)(j:Nat),1<=q/\2^j<=q.natAbs/\j+m=nb+1/\q.natAbs<2^(nb+20)/\ρ=[some (.lst false (ns.map .int)),some (.lst true (ms.map .int)),some (.int (0+(i:Int))),some (.int c'),some (.int q)]) hW ⟨1,0,by decide,by decide,by omega,Nat.one_lt_two_pow (by omega),rfl⟩ (by omega) (by
   rintro m ρ ⟨q,j,hq1,hj,hjm,hqb,rfl⟩
   by_cases hle:q<=c'
   . have q1:xK 10 6:=⟨by decide,by decide,by decide⟩
     have q2:mulOk q 1000000:=tH (by decide) (by decide)
     have e6:(10:Int)^(6:Int).toNat=1000000:=rfl
     have hjn:j<nb:=by
      rcases Nat.lt_or_ge j nb with h|h
      . exact h
      . have h1:2^nb<=2^j:=Nat.pow_le_pow_right (by decide) h
        omega
     walk_at "ev"
     refine⟨m-1,by omega,q*1000000,j+1,by omega,?_,by omega,?_,rfl⟩
     . rw[Nat.pow_succ]
       omega
     . have h1:q.natAbs<2^nb:=by omega
       rw[Nat.pow_add]
       have h2:(q*1000000).natAbs=q.natAbs*1000000:=by omega
       rw[h2]
       have h3:(1000000:Nat)<=2^20:=by decide
       exact Nat.lt_of_lt_of_le (Nat.mul_lt_mul_of_pos_right h1 (by decide)) (Nat.mul_le_mul_left _ h3)
   . walk_at "ev")
  have hmul:mulOk q z:=by
   refine .inr (.inr ?_)
   have b1:=az6 hqb
   have b2:Builtin.Int.intBits z<=120:=az6 (by omega)
   omega
  walk_at "ev"
  refine⟨ms++[c'+q*z],_,_,_,by rw[List.map_append];rfl,by rw[List.length_append,hl];rfl,?_⟩
  intro x hx
  rcases List.mem_append.mp hx with hx|hx
  . exact hm x hx
  . rw[List.mem_singleton.mp hx]
    have:=Int.mul_nonneg (show 0<=q by omega) hz0
    omega)
 refine⟨ms,by walk_at "ev",?_,hm⟩
 rw[hl,iK,Int.toNat_natCast]
theorem ag8(a:Int):0<=a%998244353/\a%998244353<998244353:=⟨Int.emod_nonneg _ (by decide),Int.emod_lt_of_pos _ (by decide)⟩
theorem sG(n:Int)(m:Nat)(hm:m<=1000):∃xs:List Int,eT [.int n,.int m]=.ok (.lst true (xs.map .int))/\xs.length=m/\∀x∈xs,0<=x/\x<1000000000:=by
 unfold eT sD
 have k0:(0:Nat)<=sizeLine:=Nat.zero_le _
 have k1:gF n 2:=⟨by decide,by decide⟩
 have k2:(0:Int)<2:=by decide
 have k3:mulOk (m:Int) (1-n%2):=tW (by omega) (by omega)
 have k5:(0:Int)<998244341:=by decide
 obtain⟨q,hq,hqm⟩:∃q:Nat,(m:Int)*(1-n%2)=q/\q<=m:=by
  have:n%2=0\/n%2=1:=by omega
  rcases this with e|e
  . exact⟨m,by rw[e];omega,Nat.le_refl _⟩
  . exact⟨0,by rw[e];omega,Nat.zero_le _⟩
 have k4:-(2^62)<=(q:Int)/\(q:Int)<2^62:=by omega
 walk_at "ev"
 generalize hL:jG _ _ _ _=o
 obtain⟨ρ',rfl,xs,r,o4,o5,rfl,hl,hb⟩:=mY (λi ρ=>∃(xs:List Int)(r:Int)(o4 o5:Option T),ρ=[some (.int n),some (.int m),some (.lst true (xs.map .int)),some (.int r),o4,o5,none,none,none]/\xs.length=i/\∀x∈xs,0<=x/\x<1000000000) hL ⟨[],_,_,_,rfl,rfl,cU⟩ (by
  rintro i t ρ et ⟨xs,r,o4,o5,rfl,hl,hb⟩
  obtain⟨hi,rfl⟩:=nF et
  have hi':i<q:=by rwa[Int.toNat_natCast]at hi
  have e9:(10:Int)^(9:Int).toNat=1000000000:=rfl
  have q1:xK 10 9:=⟨by decide,by decide,by decide⟩
  have q2:gF r 1000000000:=⟨by decide,by decide⟩
  have q3:i<sizeLine:=xV (by omega)
  have hb2:=hb
  clear et hL hi hb
  walk_at "ev"
  refine⟨xs++[r%1000000000],_,_,_,by rw[List.map_append];rfl,by rw[List.length_append,hl];rfl,λx hx=>?_⟩
  rcases List.mem_append.mp hx with hx|hx
  . exact hb2 x hx
  . rw[List.mem_singleton.mp hx];omega)
 have hl':xs.length<=m:=by rw[hl,iK,Int.toNat_natCast];exact hqm
 clear hl hL
 walk_at "ev"
 generalize hr0:r%998244341+5=r0
 generalize hW:rF _ _ _=o
 obtain⟨ρ',m',rfl,⟨ys,r1,p4,p5,p6,p7,p8,rfl,hyl,hyb⟩,hend⟩:=af2 (m:=m-xs.length) (λk ρ=>∃(ys:List Int)(r1:Int)(p4 p5 p6 p7 p8:Option T),ρ=[some (.int n),some (.int m),some (.lst true (ys.map .int)),some (.int r1),p4,p5,p6,p7,p8]/\ys.length+k=m/\∀x∈ys,0<=x/\x<1000000000) hW ⟨xs,r0,_,_,_,_,_,rfl,by omega,hb⟩ (by omega) (by
  rintro k ρ ⟨ys,r1,p4,p5,p6,p7,p8,rfl,hyl,hyb⟩
  cases hc:decide ((ys.length:Int)<(m:Int))with
  |false=>
   clear hW hb hyb
   walk_at "ev"
  |true=>
   have hlt:ys.length<m:=by have:=of_decide_eq_true hc;omega
   have t2:-(2^62)<=(2:Int)/\(2:Int)<2^62:=by decide
   have hb2:=hb
   clear hW hb hr0
   have hyb2:=hyb
   clear hyb
   walk_at "ev"
   generalize hL:jG _ _ _ _=o
   obtain⟨ρ',rfl,r2,a6,a7,a8,rfl,hr2⟩:=mY (λi ρ=>∃(r2:Int)(a6 a7 a8:Option T),ρ=[some (.int n),some (.int m),some (.lst true (ys.map .int)),some (.int r2),p4,p5,a6,a7,a8]/\(0<i->0<=r2/\r2<998244353)) hL ⟨r1,_,_,_,rfl,λh=>absurd h (Nat.lt_irrefl 0)⟩ (by
    rintro i t ρ et ⟨r2,a6,a7,a8,rfl,_⟩
    obtain⟨hi,rfl⟩:=nF et
    have q1:gF r2 4099:=⟨by decide,by decide⟩
    have q2:mulOk (r2%4099) 240007:=tH (by decide) (by decide)
    have q3:mulOk (r2/4099) 89:=tH (by decide) (by decide)
    have q4:mulOk 1201 (ys.length:Int):=tW (by decide) (by decide)
    have q5:(0:Int)<998244353:=by decide
    clear et hL hi hyb2
    walk_at "ev"
    exact⟨_,_,_,_,rfl,λ_=>ag8 _⟩)
   have hr2':=hr2 (by rw[iK];decide)
   have q6:gF r2 5:=⟨by decide,by decide⟩
   have q7:ys.length<sizeLine:=xV (by omega)
   clear hL hr2
   walk_at "ev"
   refine⟨k-1,by omega,ys++[r2/5],_,_,_,_,_,_,by rw[List.map_append];rfl,by rw[List.length_append,List.length_singleton];omega,λx hx=>?_⟩
   rcases List.mem_append.mp hx with hx|hx
   . exact hyb2 x hx
   . rw[List.mem_singleton.mp hx];omega)
 have hlen:ys.length=m:=by
  have:¬(ys.length:Int)<(m:Int):=by
   intro h
   have hd:decide ((ys.length:Int)<(m:Int))=true:=decide_eq_true h
   clear hW hb hyb
   have:dN (aJ ltT (dX kA (aE (aF 2) aO)) (aF 1)) [some (.int n),some (.int m),some (.lst true (ys.map .int)),some (.int r1),p4,p5,p6,p7,p8]=.ok true:=by walk_at "ev"
   rw[this]at hend
   cases hend
  omega
 refine⟨ys,?_,hlen,hyb⟩
 clear hW hb hyb hend hlen
 walk_at "ev"
theorem bf8{α β:Type}(f:α->β)(xs:List α)(a b:Option Int):gL (xs.map f) a b=(gL xs a b).map f:=by
 unfold gL
 rw[List.length_map,List.map_take,List.map_drop]
theorem cj9{α:Type}{xs:List α}{a b:Option Int}{x:α}(h:x∈gL xs a b):x∈xs:=by
 unfold gL at h
 exact List.mem_of_mem_drop (List.mem_of_mem_take h)
theorem sJ(ns:List Int)(k:Int):∃z,eO [.lst false (ns.map .int),.int k]=.ok (.int z)/\0<=z:=by
 unfold eO wY
 have hc:=bf8 T.int ns (some k) (some (k+1))
 walk_at "ev"
 cases gL ns (some k) (some (k+1))with
 |nil=>exact⟨0,rfl,by decide⟩
 |cons a l=>exact⟨if a<0 then -a else a,rfl,by split<;>omega⟩
theorem cv2:∀c,c<123->97<=c->yR "abcdefghijklmnopqrstuvwxyz" ⟨#[c]⟩=true:=by decide+kernel
theorem ag4{w:Str}(h1:1<=w.cps.toList.length)(h8:w.cps.toList.length<=8)(hl:∀c∈w.cps.toList,97<=c/\c<123):eD w=true:=by
 unfold eD
 rw[oJ,decide_eq_true (by omega),decide_eq_true (by omega),Bool.true_and,Bool.true_and,List.all_eq_true]
 exact λc hc=>cv2 c (hl c hc).2 (hl c hc).1
def sg:Str:="qwertyuiopasdfghjklzxcvbnm"
theorem sg_ok:sg.cps.toList.length=26/\sg.cps.toList.Nodup/\∀c∈sg.cps.toList,97<=c/\c<123:=by decide+kernel
theorem zH(c k:Nat):(fN ⟨#[c]⟩ k).cps.toList=List.replicate k c:=by
 unfold fN
 simp only
 induction k with
 |zero=>rfl
 |succ k ih=>rw[List.replicate_succ,List.flatten_cons,List.replicate_succ,<-ih];rfl
theorem ak4{α:Type}{g:Nat->α}{m:Nat}(h:∀a b,a<m->b<m->g a=g b->a=b):((List.range m).map g).Nodup:=by
 rw[List.Nodup,List.pairwise_map]
 exact List.Pairwise.imp_of_mem (λha hb hne e=>hne (h _ _ (List.mem_range.mp ha) (List.mem_range.mp hb) e)) List.nodup_range
theorem bm7{i:Int}:∃k:Nat,k<26/\(k:Int)=i%26/\atI sg.cps.toList (i%26)=some (sg.cps.toList.getD k 0):=by
 have h0:=Int.emod_nonneg i (show(26:Int)≠0 by decide)
 have h1:=Int.emod_lt_of_pos i (show(0:Int)<26 by decide)
 obtain⟨k,hk⟩:=gB h0
 have hk2:k<sg.cps.toList.length:=by rw[sg_ok.1];omega
 exact⟨k,by omega,hk.symm,by rw[hk];exact eP (by rw[List.getElem?_eq_getElem hk2,List.getD_eq_getElem?_getD,List.getElem?_eq_getElem hk2];rfl)⟩
theorem bb7{k:Nat}(h:k<26):97<=sg.cps.toList.getD k 0/\sg.cps.toList.getD k 0<123:=by
 have hk2:k<sg.cps.toList.length:=by rw[sg_ok.1];omega
 rw[List.getD_eq_getElem?_getD,List.getElem?_eq_getElem hk2]
 exact sg_ok.2.2 _ (List.getElem_mem hk2)
theorem cc4{i j:Nat}(h:i<26)(h':j<26)(e:sg.cps.toList.getD i 0=sg.cps.toList.getD j 0):i=j:=by
 have hi:i<sg.cps.toList.length:=by rw[sg_ok.1];omega
 have hj:j<sg.cps.toList.length:=by rw[sg_ok.1];omega
 rw[List.getD_eq_getElem?_getD,List.getElem?_eq_getElem hi,List.getD_eq_getElem?_getD,List.getElem?_eq_getElem hj]at e
 exact(List.getElem_inj sg_ok.2.1).mp e
theorem ct7{α:Type}{g:Nat->α}{m:Nat}(o:Fr):True:=trivial
def eightN:List Str:=["letter","years","fades","rules","ink","put","after","same"]
def tQ(k:Nat):List Str:=eightN.drop k++eightN.take k
theorem bc4:∀k,k<8->(tQ k).length=8/\(tQ k).Nodup/\∀x∈tQ k,eD x=true:=by decide+kernel
theorem cy2:("qwertyuiopasdfghjklzxcvbnm":Str).length<=sizeLine:=by decide+kernel
theorem e_names (n : Int) (m : Nat) (hn : 0 ≤ n) (h1 : 1 ≤ m) (h8 : m ≤ 8) : ∃ ss : List Str, mN [.int n, .int m] = .ok (.lst true (ss.map .str)) ∧ ss.length = m ∧ (∀ x ∈ ss, eD x = true) ∧ ss.Nodup := by
  unfold mN sY
  have z1 := cy2
  have d3 : gF n 3 := ⟨by decide, by decide⟩
  have hr0 : 0 ≤ n / 3 := by omega
  generalize hr : n / 3 = r at hr0
  have k2 : (eV 0 (m : Int).toNat).length ≤ sizeLine := by rw [iK]; exact fJ (by omega)
  have km : -(2 ^ 62) ≤ (m : Int) ∧ (m : Int) < 2 ^ 62 := by omega
  cases c0 : (n % 3 == 0) with
  | true =>
    obtain ⟨k, hk, _, hat⟩ := bm7 (i := r)
    have hb := bb7 hk
    generalize sg.cps.toList.getD k 0 = c at hat hb
    have hc : dF (aQ 7) cY (aJ iD (aJ bW (aF 2) (aJ dE (aF 3) (dC (.int 26)))) (aJ bR (aF 7) (dC (.int 1)))) [some (.int n), some (.int m), some (.str "qwertyuiopasdfghjklzxcvbnm"), some (.int r), none, none, none, none] (eV 0 (m : Int).toNat) = .ok (((List.range m).map fun k => fN ⟨#[c]⟩ (k + 1)).map .str) := by
      unfold eV
      rw [Int.toNat_natCast, List.map_map]
      refine eU fun i hi => ?_
      have hi := List.mem_range.mp hi
      have q1 : -(2 ^ 63) ≤ (0 + (i : Int) + 1) ∧ (0 + (i : Int) + 1) < 2 ^ 62 ∧ (⟨#[c]⟩ : Str).length * (0 + (i : Int) + 1).toNat ≤ sizeLine := ⟨by omega, by omega, fJ (by show 1 * _ ≤ _; omega)⟩
      have hat : atI ("qwertyuiopasdfghjklzxcvbnm" : Str).cps.toList (r % 26) = some c := hat
      clear hr
      walk_at "ev"
      have e1 : (0 + (i : Int) + 1).toNat = i + 1 := by omega
      simp only [Function.comp, e1]
    clear hat
    refine ⟨(List.range m).map fun k => fN ⟨#[c]⟩ (k + 1), by walk_at "ev", by simp, ?_, ?_⟩
    · intro x hx
      obtain ⟨k, hk, rfl⟩ := List.mem_map.mp hx
      have hk := List.mem_range.mp hk
      refine ag4 (by rw [zH]; simp) (by rw [zH]; simp; omega) fun c' hc' => ?_
      rw [zH] at hc'
      rw [(List.mem_replicate.mp hc').2]
      exact hb
    · refine ak4 fun a b _ _ e => ?_
      have := congrArg (fun z : Str => z.cps.toList.length) e
      simp only [zH, List.length_replicate] at this
      omega
  | false =>
    cases c1 : (n % 3 == 1) with
    | true =>
      have h0 := Int.emod_nonneg r (show (8 : Int) ≠ 0 by decide)
      have hl := Int.emod_lt_of_pos r (show (0 : Int) < 8 by decide)
      obtain ⟨k, hk⟩ := gB h0
      have hk8 : k < 8 := by omega
      have e1 : gL [T.str "letter", .str "years", .str "fades", .str "rules", .str "ink", .str "put", .str "after", .str "same"] (some (r % 8)) none = (eightN.drop k).map .str := by
        rw [hk]
        exact (oK (eightN.map T.str) k (by show k ≤ 8; omega)).trans List.map_drop.symm
      have e2 : gL [T.str "letter", .str "years", .str "fades", .str "rules", .str "ink", .str "put", .str "after", .str "same"] none (some (r % 8)) = (eightN.take k).map .str := by
        rw [hk]
        exact (xF (eightN.map T.str) k).trans List.map_take.symm
      have l1 : (eightN.drop k).length + (eightN.take k).length ≤ 100000 := by simp [eightN]; omega
      obtain ⟨u1, u2, u3⟩ := bc4 k hk8
      have e3 : gL ((eightN.drop k).map T.str ++ (eightN.take k).map T.str) none (some (m : Int)) = ((tQ k).take m).map .str := by
        rw [xF, ← List.map_append, ← List.map_take]
        rfl
      have n1 : bA ((eightN.drop k).map T.str ++ (eightN.take k).map T.str) = true := by rw [← List.map_append]; exact eS _
      refine ⟨(tQ k).take m, by clear hk; walk_at "ev", by simp [u1]; omega, fun x hx => u3 x (List.mem_of_mem_take hx), u2.sublist (List.take_sublist _ _)⟩
    | false =>
      have h0 := Int.emod_nonneg r (show (8 : Int) ≠ 0 by decide)
      have hl := Int.emod_lt_of_pos r (show (0 : Int) < 8 by decide)
      obtain ⟨sz, hsz⟩ := gB (show 0 ≤ 1 + r % 8 by omega)
      have hs8 : 1 ≤ sz ∧ sz ≤ 8 := by omega
      have hpos : (0 : Int) < (sz : Int) := by omega
      have a0 := Int.emod_nonneg (r / 8) (show (sz : Int) ≠ 0 by omega)
      have a1 := Int.emod_lt_of_pos (r / 8) hpos
      obtain ⟨at', hat'⟩ := gB a0
      have hal : at' < sz := by omega
      have hq0 : 0 ≤ r / 64 := by omega
      generalize hq : r / 64 = q at hq0
      let ix : Nat → Nat := fun k => ((q + (k : Int)) % 26).toNat
      have ixb : ∀ k, ix k < 26 := fun k => by
        have h0 := Int.emod_nonneg (q + (k : Int)) (show (26 : Int) ≠ 0 by decide)
        have h1 := Int.emod_lt_of_pos (q + (k : Int)) (show (0 : Int) < 26 by decide)
        show (_ : Int).toNat < 26
        omega
      let nm : Nat → Str := fun k => fN "a" at' ++ ⟨#[sg.cps.toList.getD (ix k) 0]⟩ ++ fN "b" (sz - 1 - at')
      have codes : ∀ k, (nm k).cps.toList = List.replicate at' 97 ++ [sg.cps.toList.getD (ix k) 0] ++ List.replicate (sz - 1 - at') 98 := fun k => by
        show (fN ⟨#[97]⟩ at' ++ ⟨#[sg.cps.toList.getD (ix k) 0]⟩ ++ fN ⟨#[98]⟩ (sz - 1 - at') : Str).cps.toList = _
        rw [nQ, nQ, zH, zH]
      have hc : dF (aQ 7) cY (aJ bR (aJ bR (aJ iD (dC (.str "a")) (aF 6)) (aJ bW (aF 2) (aJ dE (aJ bR (aJ gG (aF 3) (dC (.int 64))) (aF 7)) (dC (.int 26))))) (aJ iD (dC (.str "b")) (aJ lP (aJ lP (aF 5) (dC (.int 1))) (aF 6)))) [some (.int n), some (.int m), some (.str "qwertyuiopasdfghjklzxcvbnm"), some (.int r), none, some (.int sz), some (.int at'), none] (eV 0 (m : Int).toNat) = .ok (((List.range m).map nm).map .str) := by
        unfold eV
        rw [Int.toNat_natCast, List.map_map]
        refine eU fun i hi => ?_
        have hi := List.mem_range.mp hi
        have la : ("a" : Str).length = 1 := by decide +kernel
        have lb : ("b" : Str).length = 1 := by decide +kernel
        have q1 : -(2 ^ 63) ≤ (at' : Int) ∧ (at' : Int) < 2 ^ 62 ∧ ("a" : Str).length * (at' : Int).toNat ≤ sizeLine := ⟨by omega, by omega, fJ (by rw [la]; omega)⟩
        have e2 : ((sz : Int) - 1 - (at' : Int)).toNat = sz - 1 - at' := by omega
        have q5 : (at' : Int).toNat = at' := Int.toNat_natCast _
        have q2 : -(2 ^ 63) ≤ ((sz : Int) - 1 - (at' : Int)) ∧ ((sz : Int) - 1 - (at' : Int)) < 2 ^ 62 ∧ ("b" : Str).length * ((sz : Int) - 1 - (at' : Int)).toNat ≤ sizeLine := ⟨by omega, by omega, fJ (by rw [lb]; omega)⟩
        have d64 : gF r 64 := ⟨by decide, by decide⟩
        have hat : atI ("qwertyuiopasdfghjklzxcvbnm" : Str).cps.toList ((q + (0 + (i : Int))) % 26) = some (sg.cps.toList.getD (ix i) 0) := by
          obtain ⟨k, hk, hk2, h⟩ := bm7 (i := q + (0 + (i : Int)))
          have : ix i = k := by
            show ((q + (i : Int)) % 26).toNat = k
            rw [Int.zero_add] at hk2
            omega
          rw [this]
          exact h
        have q3 : (fN "a" at').length + (⟨#[sg.cps.toList.getD (ix i) 0]⟩ : Str).length ≤ sizeLine := fJ (by rw [tT, la]; show at' * 1 + 1 ≤ _; omega)
        have q4 : (fN "a" at' ++ (⟨#[sg.cps.toList.getD (ix i) 0]⟩ : Str)).length + (fN "b" (sz - 1 - at')).length ≤ sizeLine := fJ (by rw [ar8, tT, tT, la, lb]; show at' * 1 + 1 + (sz - 1 - at') * 1 ≤ _; omega)
        have w1 : (fN "a" (at' : Int).toNat).length + (⟨#[sg.cps.toList.getD (ix i) 0]⟩ : Str).length ≤ sizeLine := by rw [q5]; exact q3
        have w2 : (fN "a" (at' : Int).toNat ++ (⟨#[sg.cps.toList.getD (ix i) 0]⟩ : Str)).length + (fN "b" ((sz : Int) - 1 - (at' : Int)).toNat).length ≤ sizeLine := by rw [q5, e2]; exact q4
        clear codes ixb hr hat' e2 q5 q3 q4 hsz
        walk_at "ev"
        simp only [Function.comp, nm]
        congr 3 <;> first | (congr 1; omega) | omega
      refine ⟨(List.range m).map nm, ?_, by simp, ?_, ?_⟩
      · clear codes ixb
        have d8 : gF r 8 := ⟨by decide, by decide⟩
        walk_at "ev"
      · intro x hx
        obtain ⟨k, hk, rfl⟩ := List.mem_map.mp hx
        refine ag4 (by rw [codes]; simp; omega) (by rw [codes]; simp; omega) fun c' hc' => ?_
        rw [codes, List.mem_append, List.mem_append] at hc'
        rcases hc' with (h | h) | h
        · rw [(List.mem_replicate.mp h).2]; decide
        · rw [List.mem_singleton.mp h]; exact bb7 (ixb k)
        · rw [(List.mem_replicate.mp h).2]; decide
      · refine ak4 fun a b ha hb e => ?_
        have e2 := congrArg (fun z : Str => z.cps.toList[at']?) e
        simp only [codes, List.append_assoc, List.getElem?_append_right (show (List.replicate at' 97).length ≤ at' by simp), List.length_replicate, Nat.sub_self, List.cons_append, List.getElem?_cons_zero, Option.some.injEq] at e2
        have e3 := cc4 (ixb a) (ixb b) e2
        have e4 : ((q + (a : Int)) % 26).toNat = ((q + (b : Int)) % 26).toNat := e3
        omega
theorem hp6:uB (.int 10) (.int 6)=.ok (.int 1000000):=by
 rw[be2,yW (show xK 10 6 from⟨by decide,by decide,by decide⟩)]
 rfl
theorem li4{xs:List Int}(h:xs.length=4):∃a b c d,xs=[a,b,c,d]:=by
 match xs,h with
 |[a,b,c,d],_=>exact⟨a,b,c,d,rfl⟩
theorem ck5{zs:List Int}{i:Nat}{t:T}(h:(zs.map T.int)[i]?=some t):∃z,t=.int z/\z∈zs:=by
 rw[List.getElem?_map]at h
 cases e:zs[i]? with
 |none=>rw[e]at h;cases h
 |some z=>rw[e]at h;cases h;exact⟨z,rfl,List.mem_of_getElem? e⟩
theorem at6(n:Int)(most:Nat)(h1:1<=most)(h60:most<=60):∃ys:List Int,kR [.int n,.int most]=.ok (.lst true (ys.map .int))/\TabOk ys:=by
 unfold kR sP
 obtain⟨xs,hx,hl,hb⟩:=sG n 4 (by decide)
 obtain⟨a,b,c,d,rfl⟩:=li4 hl
 have hb2:=List.forall_mem_cons.mp hb
 have hb3:=List.forall_mem_cons.mp hb2.2
 have hb4:=List.forall_mem_cons.mp hb3.2
 have hb5:=List.forall_mem_cons.mp hb4.2
 clear hb hl
 obtain⟨v,hv,mv⟩:=pK [1000000,100,a%(1000000+1)] (i:=b%3) (by omega) (by simp;omega)
 have vb:0<=v/\v<=1000000:=by simp at mv;omega
 obtain⟨w,hw,mw⟩:=pK [2,9,40,30011,1000000+1] (i:=d%5) (by omega) (by simp;omega)
 have wb:0<w:=by simp at mw;omega
 have m0:=Int.emod_nonneg c (show(most:Int)≠0 by omega)
 have m1:=Int.emod_lt_of_pos c (show(0:Int)<(most:Int) by omega)
 obtain⟨k,hk⟩:=gB (show 0<=1+c%(most:Int) by omega)
 obtain⟨zs,hz,zl,zb⟩:=sG (n/7) k (by omega)
 have hp:=hp6
 have d7:gF n 7:=⟨by decide,by decide⟩
 have mp:(0:Int)<(most:Int):=by omega
 simp only[List.map_cons,List.map_nil]at hx hv hw
 have b0:=@tJ T
 have b1:=@wK T
 have b2:=@ix2 T
 have b3:=@ix3 T
 clear mv mw hb2 hb3 hb4 hb5
 have zb2:=zb
 clear zb
 have hx':eT [.int n,.int 4]=.ok (.lst true [.int a,.int b,.int c,.int d]):=hx
 clear hx
 walk_at "ev"
 generalize hL:jG _ _ _ _=o
 obtain⟨ρ',rfl,ys,e,o5,rfl,yl,yb,yf,he0,he1⟩:=mY (λi ρ=>∃(ys:List Int)(e:Int)(o5:Option T),ρ=[some (.int n),some (.int most),some (.lst true [.int a,.int b,.int c,.int d]),some (.int e),some (.lst true (ys.map .int)),o5]/\
  ys.length=i/\(∀y∈ys,e<=y/\y<=1000000)/\ys.Pairwise (λa b=>b<=a)/\0<=e/\e<=1000000) hL ⟨[],v,none,rfl,rfl,cU,List.Pairwise.nil,vb.1,vb.2⟩ (by
  rintro i t ρ et ⟨ys,e,o5,rfl,yl,yb,yf,he0,he1⟩
  obtain⟨hi,et2⟩:=List.getElem?_eq_some_iff.mp et
  rw[List.length_map]at hi
  obtain⟨z,rfl,mz⟩:=ck5 et
  have z0:=Int.emod_nonneg z (show w≠0 by omega)
  have hl:ys.length<=100000:=by omega
  clear hL et et2 zb2 mz hk hi zl
  have yb2:=yb
  clear yb
  walk_at "ev"
  refine⟨ys++[e],_,_,by rw[List.map_append];rfl,by simp[yl],?_,?_,?_,?_⟩
  . intro x hx
    rcases List.mem_append.mp hx with hx|hx
    . have:=yb2 x hx
      split<;>omega
    . have hx:=List.mem_singleton.mp hx
      subst hx
      split<;>omega
  . rw[List.pairwise_append]
    refine⟨yf,by simp,λa ha b hb=>?_⟩
    have hb:=List.mem_singleton.mp hb
    subst hb
    exact(yb2 a ha).1
  . split<;>omega
  . split<;>omega)
 rw[List.length_map]at yl
 refine⟨ys,by clear hL yb;walk_at "ev",by omega,by omega,λx hx=>⟨Int.le_trans he0 (yb x hx).1,(yb x hx).2⟩,yf⟩
theorem aw9{w:Str}(h:w.length<=100000):jC [.str w]=.ok (.bl (eD w)):=by
 unfold jC sI
 have h1:=vW w "abcdefghijklmnopqrstuvwxyz" 8 h
 rw[show(decide (1<=(w.length:Int))&&(decide ((w.length:Int)<=8)&&w.cps.toList.all λc=>yR "abcdefghijklmnopqrstuvwxyz" ⟨#[c]⟩))=eD w from rfl]at h1
 walk_at "ev"
def eQ(ss:List Str)(l u:Int):Bool:=decide (l<=(ss.length:Int))&&(decide ((ss.length:Int)<=u)&&(ss.all eD&&((oX ss:Int)==(ss.length:Int))))
theorem wL{α:Type}(o:Bool)(l:List α)(p:α->Bool):pM false [.lst o (l.map λx=>T.bl (p x))]=.ok (.bl (l.all p)):=by
 rw[show(l.map λx=>T.bl (p x))=(l.map p).map T.bl by rw[List.map_map];rfl,ac9]
 show Res.ok (T.bl ((l.map λc=>p c).all id))=_
 rw[cj4]
theorem zG{o:Bool}{ss:List Str}{l u:Int}(h3:ss.length<=1000)(hx:∀x∈ss,x.length<=100000):eI [.lst o (ss.map .str),.int l,.int u]=.ok (.bl (eQ ss l u)):=by
 unfold eI oY eQ
 have hc:dF (aQ 3) cY (cP 1 jC (aE (aF 3) aO)) [some (.lst o (ss.map .str)),some (.int l),some (.int u),none] (ss.map .str)=.ok (ss.map λx=>.bl (eD x)):=by
  refine eU λc hc=>?_
  have:=aw9 (hx c hc)
  walk_at "ev"
 have y1:=λo=>wL o ss eD
 have ls:oO [.lst o (ss.map .str)]=.ok (.int (oX ss)):=by simp only[oO,sH,if_pos h3]
 have l4:ss.length<=100000:=by omega
 clear hx
 cases k1:decide (l<=(ss.length:Int))with
 |false=>walk_at "ev"
 |true=>
  cases k2:decide ((ss.length:Int)<=u)with
  |false=>walk_at "ev"
  |true=>
   cases k3:ss.all eD with
   |false=>walk_at "ev"
   |true=>walk_at "ev"
def xL(xs:List Int):Bool:=decide (1<=(xs.length:Int))&&(decide ((xs.length:Int)<=60)&&((xs.all λx=>decide (0<=x)&&decide (x<=1000000))&&(List.range (xs.length-1)).all λi=>decide (xs.getD (i+1) 0<=xs.getD i 0)))
theorem ca3(o:Bool){xs:List Int}(hl:xs.length<=1000):iE [.lst o (xs.map .int)]=.ok (.bl (xL xs)):=by
 unfold iE qF xL
 have hc1:dF (aQ 1) cY (cP 3 cO (aE (aF 1) (aE (dC (.int 0)) (aE (dC (.int 1000000)) aO)))) [some (.lst o (xs.map .int)),none,none] (xs.map .int)=.ok (xs.map λx=>.bl (decide (0<=x)&&decide (x<=1000000))):=by
  refine eU λc hc=>?_
  have:=iA c 0 1000000
  walk_at "ev"
 have hc2:dF (aQ 2) cY (aJ pZ (aJ bW (aF 0) (aF 2)) (aJ bW (aF 0) (aJ lP (aF 2) (dC (.int 1))))) [some (.lst o (xs.map .int)),none,none] (eV 1 ((xs.length:Int)-1).toNat)=.ok ((List.range (xs.length-1)).map λi=>.bl (decide (xs.getD (i+1) 0<=xs.getD i 0))):=by
  unfold eV
  rw[show((xs.length:Int)-1).toNat=xs.length-1 by omega]
  refine eU λi hi=>?_
  have hi:=List.mem_range.mp hi
  have a1:atI (xs.map T.int) (1+(i:Int))=some (.int (xs.getD (i+1) 0)):=by
   rw[show(1:Int)+(i:Int)=((i+1:Nat):Int) by omega]
   exact uG (by omega)
  have a2:atI (xs.map T.int) (1+(i:Int)-1)=some (.int (xs.getD i 0)):=by
   rw[show(1:Int)+(i:Int)-1=(i:Int) by omega]
   exact uG (by omega)
  walk_at "ev"
 have hl2:(eV 1 ((xs.length:Int)-1).toNat).length<=sizeLine:=by rw[iK];exact fJ (by omega)
 have y1:=λo=>wL o xs λx=>decide (0<=x)&&decide (x<=1000000)
 have y2:=λo=>wL o (List.range (xs.length-1)) λi=>decide (xs.getD (i+1) 0<=xs.getD i 0)
 have l4:xs.length<=100000:=by omega
 cases k1:decide (1<=(xs.length:Int))with
 |false=>walk_at "ev"
 |true=>
  cases k2:decide ((xs.length:Int)<=60)with
  |false=>walk_at "ev"
  |true=>
   cases k3:xs.all λx=>decide (0<=x)&&decide (x<=1000000)with
   |false=>walk_at "ev"
   |true=>walk_at "ev"
def rgB(p:Str×Int×Int):Bool:=(decide (-4000<=p.2.1)&&decide (p.2.1<=4000))&&(decide (1<=p.2.2)&&decide (p.2.2<=100))
theorem ca5(p:Str×Int×Int):iF [.int p.2.1,.int p.2.2]=.ok (.bl (rgB p)):=by
 unfold iF qJ rgB
 have k1:=iA p.2.1 (-4000) 4000
 have k2:=iA p.2.2 1 100
 cases h:decide (-4000<=p.2.1)&&decide (p.2.1<=4000)with
 |false=>rw[h]at k1;walk_at "ev"
 |true=>rw[h]at k1;walk_at "ev"
def mG(a b:Int):Bool:=(decide (-3000<=a)&&decide (a<=3000))&&((decide (-3000<=b)&&decide (b<=3000))&&(decide (0<=b-a)&&decide (b-a<=300)))
theorem bx3(a b:Int):iL [.int a,.int b]=.ok (.bl (mG a b)):=by
 unfold iL pB mG
 have k1:=iA a (-3000) 3000
 have k2:=iA b (-3000) 3000
 cases h:decide (-3000<=a)&&decide (a<=3000)with
 |false=>rw[h]at k1;walk_at "ev"
 |true=>
  rw[h]at k1
  cases h2:decide (-3000<=b)&&decide (b<=3000)with
  |false=>rw[h2]at k2;walk_at "ev"
  |true=>
   rw[h2]at k2
   cases h3:decide (0<=b-a)with
   |false=>walk_at "ev"
   |true=>walk_at "ev"
structure SzI (is:List (Str×List Int)):Prop where
 l:is.length<=1000
 x:∀p∈is,p.1.length<=100000/\p.2.length<=1000
structure SzR (rs:List (Str×Int×Int)):Prop where
 l:rs.length<=1000
 x:∀p∈rs,p.1.length<=100000
def qH(is:List (Str×List Int)):Bool:=eQ (is.map (·.1)) 0 6&&is.all λp=>xL p.2
def lR(rs:List (Str×Int×Int)):Bool:=eQ (rs.map (·.1)) 0 8&&rs.all rgB
theorem cr0{is:List (Str×List Int)}(z:SzI is):jB [.lst false (is.map (dD false))]=.ok (.bl (qH is)):=by
 unfold jB qN qH
 have hc1:dF (gZ (bO (aQ 1) (bO (aQ 2) iC))) cY (dJ (aF 1)) [some (.lst false (is.map (dD false))),none,none] (is.map (dD false))=.ok ((is.map (·.1)).map .str):=by
  rw[List.map_map]
  exact fA λp _=>by simp only[dD];walk_at "ev";rfl
 have hc2:dF (gZ (bO (aQ 1) (bO (aQ 2) iC))) cY (cP 1 iE (aE (aF 2) aO)) [some (.lst false (is.map (dD false))),none,none] (is.map (dD false))=.ok (is.map λp=>.bl (xL p.2)):=by
  refine fA λp hp=>?_
  simp only[dD]
  have:=ca3 false (z.x p hp).2
  walk_at "ev"
 have nm:=zG (o:=false) (ss:=is.map (·.1)) (l:=0) (u:=6) (by rw[List.length_map];exact z.l) (λx hx=>by
  obtain⟨p,hp,rfl⟩:=List.mem_map.mp hx
  exact(z.x p hp).1)
 have y1:=λo=>wL o is λp=>xL p.2
 have n1:=iI is
 have l4:is.length<=100000:=by have:=z.l;omega
 clear z
 cases h:eQ (is.map (·.1)) 0 6 with
 |false=>rw[h]at nm;walk_at "ev"
 |true=>rw[h]at nm;walk_at "ev"
theorem bm2{rs:List (Str×Int×Int)}(z:SzR rs):gY [.lst false (rs.map gW)]=.ok (.bl (lR rs)):=by
 unfold gY nI lR
 have hc1:dF (gZ (bO (aQ 1) (bO (aQ 2) (bO (aQ 3) iC)))) cY (dJ (aF 1)) [some (.lst false (rs.map gW)),none,none,none] (rs.map gW)=.ok ((rs.map (·.1)).map .str):=by
  rw[List.map_map]
  exact fA λp _=>by simp only[gW];walk_at "ev";rfl
 have hc2:dF (gZ (bO (aQ 1) (bO (aQ 2) (bO (aQ 3) iC)))) cY (cP 2 iF (aE (aF 2) (aE (aF 3) aO))) [some (.lst false (rs.map gW)),none,none,none] (rs.map gW)=.ok (rs.map λp=>.bl (rgB p)):=by
  refine fA λp hp=>?_
  simp only[gW]
  have:=ca5 p
  walk_at "ev"
 have nm:=zG (o:=false) (ss:=rs.map (·.1)) (l:=0) (u:=8) (by rw[List.length_map];exact z.l) (λx hx=>by
  obtain⟨p,hp,rfl⟩:=List.mem_map.mp hx
  exact z.x p hp)
 have y1:=λo=>wL o rs rgB
 have n1:=lQ rs
 have l4:rs.length<=100000:=by have:=z.l;omega
 clear z
 cases h:eQ (rs.map (·.1)) 0 8 with
 |false=>rw[h]at nm;walk_at "ev"
 |true=>rw[h]at nm;walk_at "ev"
theorem bz5(l:List Str):∀acc:List Str,(l.foldl jK acc).length<=acc.length+l.length:=by
 induction l with
 |nil=>intro acc;simp
 |cons x l ih=>
  intro acc
  rw[List.foldl_cons]
  refine Nat.le_trans (ih _) ?_
  unfold jK
  split
  . simp only[List.length_cons];omega
  . simp only[List.length_append,List.length_cons,List.length_nil];omega
theorem at9(l:List Str):∀acc:List Str,(l.foldl jK acc).length=acc.length+l.length->l.Nodup/\∀x∈l,x∉acc:=by
 induction l with
 |nil=>intro acc _;exact⟨List.nodup_nil,λ_ h=>nomatch h⟩
 |cons x l ih=>
  intro acc h
  rw[List.foldl_cons]at h
  have hs:jK acc x=acc++[x]/\x∉acc:=by
   by_cases q:acc.any (λy=>y==x)=true
   . have e:jK acc x=acc:=if_pos q
     rw[e]at h
     have:=bz5 l acc
     simp only[List.length_cons]at h
     omega
   . refine⟨if_neg q,λhx=>q ?_⟩
     rw[List.any_eq_true]
     exact⟨x,hx,by simp⟩
  rw[hs.1]at h
  obtain⟨h1,h2⟩:=ih (acc++[x]) (by rw[h];simp only[List.length_append,List.length_cons,List.length_nil];omega)
  refine⟨List.nodup_cons.mpr ⟨λhx=>h2 x hx (by simp),h1⟩,λy hy=>?_⟩
  rcases List.mem_cons.mp hy with rfl|hy
  . exact hs.2
  . exact λhz=>h2 y hy (List.mem_append_left _ hz)
theorem xG{ss:List Str}{l u:Int}(h:¬ss.Nodup):eQ ss l u=false:=by
 unfold eQ
 have:((oX ss:Int)==(ss.length:Int))=false:=by
  rw[beq_eq_false_iff_ne]
  intro e
  apply h
  have e':(ss.foldl jK []).length=([]:List Str).length+ss.length:=by
   have:oX ss=ss.length:=by exact_mod_cast e
   unfold oX jU at this
   rw[am0]at this
   simpa using this
  exact(at9 ss [] e').1
 rw[this]
 simp
theorem wX{ss:List Str}{l u:Int}{x:Str}(hx:x∈ss)(h:eD x=false):eQ ss l u=false:=by
 unfold eQ
 have:ss.all eD=false:=by
  rw[List.all_eq_false]
  exact⟨x,hx,by rw[h];exact Bool.false_ne_true⟩
 rw[this]
 simp
theorem vF{ss:List Str}{l u:Int}(h:u<(ss.length:Int)):eQ ss l u=false:=by
 unfold eQ
 rw[decide_eq_false (show¬(ss.length:Int)<=u by omega)]
 simp
theorem bd2{ss:List Str}{l u:Int}(h:(ss.length:Int)<l):eQ ss l u=false:=by
 unfold eQ
 rw[decide_eq_false (show¬l<=(ss.length:Int) by omega)]
 simp
theorem yU{ss:List Str}{l u:Int}(h1:l<=ss.length)(h2:(ss.length:Int)<=u)(hn:∀x∈ss,eD x=true)(nd:ss.Nodup):eQ ss l u=true:=by
 unfold eQ
 rw[decide_eq_true h1,decide_eq_true h2,List.all_eq_true.mpr hn,yM nd]
 simp
def rK(p:Str×List Int):T:=.lst false [.str p.1,.lst false (p.2.map .int)]
def sF(p:Str×Int×Int):T:=.lst false [.str p.1,.int p.2.1,.int p.2.2]
structure Dt where
 a:Int
 b:Int
 ls:List Str
 is:List (Str×List Int)
 rs:List (Str×Int×Int)
def tU(d:Dt):T:=.lst false [.lst false [.int d.a,.int d.b],.lst false (d.ls.map .str),.lst false (d.is.map rK),.lst false (d.rs.map sF)]
structure Sz (d:Dt):Prop where
 ll:d.ls.length<=1000
 lx:∀x∈d.ls,x.length<=100000
 i:SzI d.is
 r:SzR d.rs
theorem lS(l:List (Str×List Int)):bA (l.map rK)=true:=iG (λa=>by simp only[rK,dG,bA,mM,Bool.not_false,Bool.and_self]) l
theorem lU(l:List (Str×Int×Int)):bA (l.map sF)=true:=iG (λa=>by simp only[sF,dG,bA,Bool.not_false,Bool.and_self]) l
theorem aq4(d:Dt):dG (tU d)=true:=by simp only[tU,dG,bA,eS,lS,lU,Bool.not_false,Bool.and_self]
theorem cz0(d:Dt):frz (tU d)=tU d:=wI _ (aq4 d)
def ckS(d:Dt):Option Str:=if mG d.a d.b=false then some "years" else if eQ d.ls 1 8=false then some "letters" else if qH d.is=false then some "inks" else if lR d.rs=false then some "reigns" else none
abbrev exB(s:Str):Exc:=⟨"BadArchive",[("part",.str s)]⟩
theorem cs8{d:Dt}(z:Sz d){s:Str}(h:ckS d=some s):fS [.int d.a,.int d.b,.lst false (d.ls.map .str),.lst false (d.is.map (dD false)),.lst false (d.rs.map gW)]=.ex (exB s):=by
 unfold fS jM
 have k1:=bx3 d.a d.b
 have k2:=zG (o:=false) (ss:=d.ls) (l:=1) (u:=8) z.ll z.lx
 have k3:=cr0 z.i
 have k4:=bm2 z.r
 have n1:=iI d.is
 have n2:=lQ d.rs
 have z1:=lL false d.is
 have z2:=rS d.rs
 clear z
 unfold ckS at h
 cases h1:mG d.a d.b with
 |false=>
  rw[h1]at h k1
  cases h
  walk_at "ev"
 |true=>
  rw[h1]at h k1
  cases h2:eQ d.ls 1 8 with
  |false=>
   rw[h2]at h k2
   cases h
   walk_at "ev"
  |true=>
   rw[h2]at h k2
   cases h3:qH d.is with
   |false=>
    rw[h3]at h k3
    cases h
    walk_at "ev"
   |true=>
    rw[h3]at h k3
    cases h4:lR d.rs with
    |false=>
     rw[h4]at h k4
     cases h
     walk_at "ev"
    |true=>rw[h4]at h;cases h
theorem ci9{d:Dt}(z:Sz d){s:Str}(h:ckS d=some s):rM [tU d]=.ex (exB s):=by
 unfold rM zF tU
 have hm:=cs8 z h
 have l1:d.is.length<=100000:=by have:=z.i.l;omega
 have l2:d.rs.length<=100000:=by have:=z.r.l;omega
 have l3:d.ls.length<=100000:=by have:=z.ll;omega
 have l4:∀p∈d.is,p.2.length<=100000:=λp hp=>by have:=(z.i.x p hp).2;omega
 clear z h
 have n1:=lS d.is
 have n2:=lU d.rs
 have z1:=lL true d.is
 have z2:=rS d.rs
 have q0:=λa b c e=>tJ (α:=T) a [b,c,e]
 have q1:=λa b c e=>wK (α:=T) a b [c,e]
 have q2:=λa b c e=>ix2 (α:=T) a b c [e]
 have q3:=λa b c e=>ix3 (α:=T) a b c e []
 have p0:=λa b=>tJ (α:=T) a [b]
 have p1:=λa b=>wK (α:=T) a b []
 have d0:∀x:T,dF (aQ 2) cY (oC (aE (dJ (aJ bW (aF 2) (dC (.int 0)))) (aE (dX iP (aE (aJ bW (aF 2) (dC (.int 1))) aO)) aO))) [some x,none,none,none] (d.is.map rK)=.ok (d.is.map (dD true)):=λx=>
  fA λp hp=>by have:=l4 p hp;simp only[rK,dD];walk_at "ev"
 have d1:∀x y:T,dF (aQ 3) cY (dX nJ (aE (aF 3) aO)) [some x,some y,none,none] (d.rs.map sF)=.ok (d.rs.map gW):=λx y=>
  fA λp hp=>by simp only[sF,gW];walk_at "ev"
 clear l4
 walk_at "ev"
theorem cw8:List.lookup ("BadArchive":Str) kM=some true:=by decide+kernel
theorem cv8:List.lookup ("BadArchive":Str) kZ=some false:=by decide+kernel
theorem ax8(fs:List (Str×V)):dQ kM (.err "BadArchive" fs)=.ok (.bl true):=by simp only[dQ,cw8]
theorem rE(fs:List (Str×V)):dQ kZ (.err "BadArchive" fs)=.ok (.bl false):=by simp only[dQ,cv8]
theorem e_kind(fs:List (Str×V)):jN [.err "BadArchive" fs]=.ok (.bl true):=by
 unfold jN oP
 have h1:=ax8 fs
 have hBadSaying:dQ kZ (.err "BadArchive" fs)=.ok (.bl false):=rE fs
 have hNoAge:dQ zA (.err "BadArchive" fs)=.ok (.bl false):=rE fs
 have hStuck:dQ zK (.err "BadArchive" fs)=.ok (.bl false):=rE fs
 have hNoYear:dQ wD (.err "BadArchive" fs)=.ok (.bl false):=rE fs
 have hNoGap:dQ yV (.err "BadArchive" fs)=.ok (.bl false):=rE fs
 have hTooMany:dQ vD (.err "BadArchive" fs)=.ok (.bl false):=rE fs
 have hNoNumber:dQ sZ (.err "BadArchive" fs)=.ok (.bl false):=rE fs
 have hNoDating:dQ sU (.err "BadArchive" fs)=.ok (.bl false):=rE fs
 have hBadRow:dQ xH (.err "BadArchive" fs)=.ok (.bl false):=rE fs
 have hNoRow:dQ zC (.err "BadArchive" fs)=.ok (.bl false):=rE fs
 have hNoName:dQ vY (.err "BadArchive" fs)=.ok (.bl false):=rE fs
 have h2:dQ nY (.err "BadArchive" fs)=.ok (.bl true):=ax8 fs
 have h3:dQ pO (.err "BadArchive" fs)=.ok (.bl true):=ax8 fs
 have h4:∀o,ag0 (.lst o [.bl true,.bl false,.bl false,.bl false,.bl false,.bl false,.bl false,.bl false,.bl false,.bl false,.bl false,.bl false]) [.bl true]=.ok (.int 1):=λo=>by with_unfolding_all rfl
 walk_at "ev"
 rfl
theorem ctB:(["BadArchive"]:List Str).contains "BadArchive"=true:=by decide+kernel
theorem ca9(s:Str):aw0 ["BadArchive"] "part" (.err "BadArchive" [("part",.str s)])=.ok (.str s):=by
 simp only[aw0,ctB,if_true]
 rw[show List.lookup ("part":Str) [(("part":Str),V.str s)]=some (V.str s) by simp[List.lookup]]
 rfl
theorem xA{d:Dt}(z:Sz d){s:Str}(h:ckS d=some s):kJ [tU d]=.ok (.str s):=by
 unfold kJ pS
 have h1:=ci9 z h
 have h2:=cz0 d
 have h3:=e_kind [("part",.str s)]
 have h4:=ax8 [("part",.str s)]
 have h5:=ctB
 have h6:=ca9 s
 clear z h
 walk_at "ev"
section
variable {α : Type} (g : α → List T)
def fi(p:Str×α):T:=.lst false (.str p.1::g p.2)
structure SB (its:List (Str×α)) (o0:α) (ot:List α) (most:Nat) (its':List (Str×α)):Prop where
 len:its'.length<=its.length+20
 nm:∀p∈its',p.1∈its.map (·.1)\/p.1.length<=100
 pl:∀p∈its',p.2∈its.map (·.2)\/p.2∈o0::ot
 bad:most<its'.length\/¬(its'.map (·.1)).Nodup\/(∃x∈its'.map (·.1),eD x=false)\/∃p∈its',p.2∈ot
def tenC:List Nat:=("abcdefghij":Str).cps.toList
theorem bd4:tenC.length=10:=by decide+kernel
def nkS(k:Nat):Str:="n"++⟨#[tenC.getD k 0]⟩
theorem bx8(k:Nat):(nkS k).length<=100:=by
 rw[oJ]
 unfold nkS
 rw[nQ]
 rw[List.length_append,show("n":Str).cps.toList.length=1 by decide+kernel]
 show 1+1<=100
 omega
theorem bm9:jH (.lst false []) (.lst true [])=.ok (.bl true):=by with_unfolding_all rfl
theorem bu8(t:T)(ts:List T):jH (.lst false (t::ts)) (.lst true [])=.ok (.bl false):=by simp[jH,eqB,qI,bV,jW]
theorem af1{β:Type}{l:List β}{i:Nat}{x y:β}(h:y∈l.take i++[x]++l.drop (i+1)):y∈l\/y=x:=by
 rw[List.mem_append,List.mem_append,List.mem_singleton]at h
 rcases h with(h|h)|h
 . exact .inl (List.mem_of_mem_take h)
 . exact .inr h
 . exact .inl (List.mem_of_mem_drop h)
def ci4:List Str:=["","ninesigns","Z","q1"]
theorem bf9:∀x∈ci4,eD x=false/\x.length<=100:=by decide+kernel
variable {g}
theorem cm4{its:List (Str×α)}{o0:α}{ot:List α}{most:Nat}{n:Int}(hg:∀x,bA (g x)=true)(gl:∀x,(g x).length<=100)(hi:its.length<=100)(ho:1<=ot.length)(ho':ot.length<=100)(hm:most<=9)(hn:0<=n):
 ∃ts' its',eA [.lst false (its.map (fi g)),.int most,.int n,.lst false ((o0::ot).map λx=>.lst false (g x))]=.ok (.lst true ts')/\frzs ts'=its'.map (fi g)/\SB its o0 ot most its':=by
 have no:∀l:List (Str×α),bA (l.map (fi g))=true:=λl=>iG (λa=>by simp only[fi,dG,bA,hg,Bool.not_false,Bool.and_self]) l
 have noo:∀l:List α,bA (l.map λx=>T.lst false (g x))=true:=λl=>iG (λa=>by simp only[dG,hg,Bool.not_false,Bool.and_self]) l
 have fz:∀x,frzs (g x)=g x:=λx=>fO _ (hg x)
 have ffi:∀p:Str×α,frz (fi g p)=fi g p:=λp=>wI _ (by simp only[fi,dG,bA,hg,Bool.not_false,Bool.and_self])
 have fzl:∀l:List (Str×α),frzs (l.map (fi g))=l.map (fi g):=λl=>fO _ (no l)
 have d4:gF n 4:=⟨by decide,by decide⟩
 have d40:gF n 40:=⟨by decide,by decide⟩
 have way0:∀x4 x0:T,dF (aQ 8) cY (aJ bR (cG (aE (aJ bR (dC (.str "n")) (aJ bW (dC (.str "abcdefghij")) (aF 8))) aO)) (aJ bW (aF 3) (dC (.int 0)))) [some x0,some (.int most),some (.int n),some (.lst false (.lst false (g o0)::ot.map λx=>.lst false (g x))),some x4,none,none,none,none] (eV 0 ((most:Int)+1).toNat)=.ok ((List.range (most+1)).map λk=>.lst true (.str (nkS k)::g o0)):=λx4 x0=>by
  unfold eV
  rw[show((most:Int)+1).toNat=most+1 by omega]
  refine eU λi hi=>?_
  have hi:=List.mem_range.mp hi
  have a1:atI ("abcdefghij":Str).cps.toList (0+(i:Int))=some (tenC.getD i 0):=by
   rw[show(0:Int)+(i:Int)=(i:Int) by omega]
   have:i<tenC.length:=by rw[bd4];omega
   exact eP (show tenC[i]?=some (tenC.getD i 0) by rw[List.getD_eq_getElem?_getD,List.getElem?_eq_getElem this];rfl)
  have a2:("abcdefghij":Str).length<=sizeLine:=by decide+kernel
  have a3:("n":Str).length+(⟨#[tenC.getD i 0]⟩:Str).length<=sizeLine:=by
   rw[show("n":Str).length=1 by decide+kernel]
   exact fJ (by show 1+1<=100000;omega)
  have a4:=tJ (T.lst false (g o0)) (ot.map λx=>T.lst false (g x))
  have a5:=hg o0
  have a6:1+(g o0).length<=sizeLine:=fJ (by have:=gl o0;omega)
  clear no noo fz ffi fzl hg gl
  walk_at "ev"
  rfl
 have z0:frzs ((List.range (most+1)).map λk=>T.lst true (.str (nkS k)::g o0))=((List.range (most+1)).map λk=>(nkS k,o0)).map (fi g):=by
  rw[List.map_map,ac7,List.map_map]
  refine List.map_congr_left λk _=>?_
  simp only[Function.comp,frz,frzs,fz,fi]
 have s0:SB its o0 ot most ((List.range (most+1)).map λk=>(nkS k,o0)):=by
  refine⟨by simp;omega,λp hp=>?_,λp hp=>?_,.inl (by simp)⟩
  . obtain⟨k,_,rfl⟩:=List.mem_map.mp hp
    exact .inr (bx8 k)
  . obtain⟨k,_,rfl⟩:=List.mem_map.mp hp
    exact .inr List.mem_cons_self
 have l1:(eV 0 ((most:Int)+1).toNat).length<=sizeLine:=by rw[iK];exact fJ (by omega)
 have km:-(2^62)<=((most:Int)+1)/\((most:Int)+1)<2^62:=by omega
 unfold eA mB
 cases its with
 |nil=>
  refine⟨_,_,?_,z0,s0⟩
  have e0:=bm9
  clear no noo fz ffi fzl hg gl z0 s0
  cases c0:(n%4==0)with
  |true=>walk_at "ev"
  |false=>walk_at "ev"
 |cons p0 its0=>
  have e1:=bu8 (fi g p0) (its0.map (fi g))
  cases c0:(n%4==0)with
  |true=>
   refine⟨_,_,?_,z0,s0⟩
   clear no noo fz ffi fzl hg gl z0 s0
   walk_at "ev"
  |false=>
   clear way0 z0 s0 l1 km
   have nz:((its0.length+1:Nat):Int)≠0:=by omega
   have pz:(0:Int)<((its0.length+1:Nat):Int):=by omega
   obtain⟨a,ha⟩:=gB (Int.emod_nonneg (n/4) nz)
   obtain⟨k,hk⟩:=gB (Int.emod_nonneg (n/40) nz)
   have al:a<(p0::its0).length:=by have:=Int.emod_lt_of_pos (n/4) pz;simp only[List.length_cons];omega
   have kl:k<(p0::its0).length:=by have:=Int.emod_lt_of_pos (n/40) pz;simp only[List.length_cons];omega
   have t1:gL (fi g p0::its0.map (fi g)) none (some (a:Int))=((p0::its0).take a).map (fi g):=(xF ((p0::its0).map (fi g)) a).trans List.map_take.symm
   have t2:gL (fi g p0::its0.map (fi g)) (some (a:Int)) none=((p0::its0).drop a).map (fi g):=(oK ((p0::its0).map (fi g)) a (by rw[List.length_map];omega)).trans List.map_drop.symm
   have t3:gL (fi g p0::its0.map (fi g)) (some ((a:Int)+1)) none=((p0::its0).drop (a+1)).map (fi g):=(oK ((p0::its0).map (fi g)) (a+1) (by rw[List.length_map];omega)).trans List.map_drop.symm
   have xa:atI (fi g p0::its0.map (fi g)) (a:Int)=some (fi g (p0::its0)[a]):=eP (show((p0::its0).map (fi g))[a]?=_ by rw[List.getElem?_map,List.getElem?_eq_getElem al];rfl)
   have xk:atI (fi g p0::its0.map (fi g)) (k:Int)=some (fi g (p0::its0)[k]):=eP (show((p0::its0).map (fi g))[k]?=_ by rw[List.getElem?_map,List.getElem?_eq_getElem kl];rfl)
   have lt:((p0::its0).take a).length<=200:=by rw[List.length_take];omega
   have ld:((p0::its0).drop a).length<=200:=by rw[List.length_drop];omega
   have ld':((p0::its0).drop (a+1)).length<=200:=by rw[List.length_drop];omega
   have le0:its0.length<=99:=by simp only[List.length_cons]at hi;omega
   have nn1:=no ((p0::its0).take a)
   have nn2:=no ((p0::its0).drop a)
   have nn3:=no ((p0::its0).drop (a+1))
   have nn0:=no its0
   have ma:(p0::its0)[a]∈p0::its0:=List.getElem_mem al
   have mk:(p0::its0)[k]∈p0::its0:=List.getElem_mem kl
   have drp:(p0::its0).drop a=(p0::its0)[a]::(p0::its0).drop (a+1):=List.drop_eq_getElem_cons al
   have app:∀(A B:List (Str×α))(x:Str×α),bA (A.map (fi g)++[.lst false (.str x.1::g x.2)])=true:=λA B x=>by
    have:=no (A++[x])
    rw[List.map_append]at this
    exact this
   cases c1:(n%4==1)with
   |true=>
    generalize(p0::its0)[k]=pk at xk mk
    refine⟨(((p0::its0).take a)++[pk]++((p0::its0).drop a)).map (fi g),((p0::its0).take a)++[pk]++((p0::its0).drop a),?_,fzl _,?_⟩
    . have lk:iP [fi g pk]=.ok (.lst true (.str pk.1::g pk.2)):=by
       have h1:=hg pk.2
       simp only[fi]
       walk_at "ev"
      have f1:=fz pk.2
      have g1:=hg pk.2
      have ap:=app ((p0::its0).take a) [] pk
      have fp:dG (fi g p0)=true:=by simp only[fi,dG,bA,hg,Bool.not_false,Bool.and_self]
      have lz:((((p0::its0).take a).map (fi g))++[T.lst false (.str pk.1::g pk.2)]).length<=300:=by simp only[List.length_append,List.length_map,List.length_cons,List.length_nil];omega
      have gz:=gl pk.2
      have lA:(((p0::its0).take a).map (fi g)).length<=200:=by rw[List.length_map];exact lt
      have lB:(((p0::its0).drop a).map (fi g)).length<=200:=by rw[List.length_map];exact ld
      have eR:(((p0::its0).take a)++[pk]++((p0::its0).drop a)).map (fi g)=((p0::its0).take a).map (fi g)++[T.lst false (.str pk.1::g pk.2)]++((p0::its0).drop a).map (fi g):=by rw[List.map_append,List.map_append];rfl
      rw[eR]
      clear eR
      clear no noo fz ffi fzl hg gl app mk ma drp al kl nz pz xa t3
      generalize hA:((p0::its0).take a).map (fi g)=A at*
      generalize hB:((p0::its0).drop a).map (fi g)=B at*
      walk_at "ev"
    . refine⟨by simp only[List.length_append,List.length_take,List.length_drop,List.length_cons,List.length_nil];omega,λp hp=>.inl ?_,λp hp=>.inl ?_,.inr (.inl λnd=>?_)⟩
      . have:p∈p0::its0:=by
         rw[List.mem_append,List.mem_append,List.mem_singleton]at hp
         rcases hp with(hp|hp)|hp
         . exact List.mem_of_mem_take hp
         . rw[hp];exact mk
         . exact List.mem_of_mem_drop hp
        exact List.mem_map_of_mem this
      . have:p∈p0::its0:=by
         rw[List.mem_append,List.mem_append,List.mem_singleton]at hp
         rcases hp with(hp|hp)|hp
         . exact List.mem_of_mem_take hp
         . rw[hp];exact mk
         . exact List.mem_of_mem_drop hp
        exact List.mem_map_of_mem this
      . rw[List.map_append,List.map_append,List.nodup_append]at nd
        obtain⟨n1,n2,n3⟩:=nd
        rw[List.nodup_append]at n1
        rw[<-List.take_append_drop a (p0::its0),List.mem_append]at mk
        rcases mk with mk|mk
        . exact n1.2.2 pk.1 (List.mem_map_of_mem mk) pk.1 (by simp) rfl
        . exact n3 pk.1 (by simp) pk.1 (List.mem_map_of_mem mk) rfl
   |false=>
    have four:n%4=2\/n%4=3:=by
     have h0:=Int.emod_nonneg n (show(4:Int)≠0 by decide)
     have h1:=Int.emod_lt_of_pos n (show(0:Int)<4 by decide)
     rw[beq_eq_false_iff_ne]at c0 c1
     omega
    generalize(p0::its0)[a]=pa at xa ma drp
    have rest:∀q:Str×α,(q.1∈(p0::its0).map (·.1)\/q.1.length<=100)->(q.2∈(p0::its0).map (·.2)\/q.2∈o0::ot)->((∃x∈[q.1],eD x=false)\/q.2∈ot)->SB (p0::its0) o0 ot most ((p0::its0).take a++[q]++(p0::its0).drop (a+1)):=λq h1 h2 h3=>by
     refine⟨by simp only[List.length_append,List.length_take,List.length_drop,List.length_cons,List.length_nil];omega,λp hp=>?_,λp hp=>?_,.inr (.inr ?_)⟩
     . rcases af1 hp with hp|rfl
       . exact .inl (List.mem_map_of_mem hp)
       . exact h1
     . rcases af1 hp with hp|rfl
       . exact .inl (List.mem_map_of_mem hp)
       . exact h2
     . rcases h3 with⟨x,hx,h3⟩|h3
       . rw[List.mem_singleton]at hx
         subst hx
         exact .inl ⟨q.1,List.mem_map_of_mem (by simp),h3⟩
       . exact .inr ⟨q,by simp,h3⟩
    have eR:∀q:Str×α,((p0::its0).take a++[q]++(p0::its0).drop (a+1)).map (fi g)=((p0::its0).take a).map (fi g)++[T.lst false (.str q.1::g q.2)]++((p0::its0).drop (a+1)).map (fi g):=λq=>by rw[List.map_append,List.map_append];rfl
    have lA:(((p0::its0).take a).map (fi g)).length<=200:=by rw[List.length_map];exact lt
    have lB:(((p0::its0).drop (a+1)).map (fi g)).length<=200:=by rw[List.length_map];exact ld'
    have fp:dG (fi g p0)=true:=by simp only[fi,dG,bA,hg,Bool.not_false,Bool.and_self]
    have ga:=hg pa.2
    have fa:=fz pa.2
    have la:=gl pa.2
    rcases four with w2|w3
    . have c2:(n%4==2)=true:=by rw[w2];rfl
      have b0:=Int.emod_nonneg (n/40) (show(4:Int)≠0 by decide)
      have b1:=Int.emod_lt_of_pos (n/40) (show(0:Int)<4 by decide)
      obtain⟨b,hb⟩:=gB b0
      obtain⟨z,hz,hzm⟩:=bf1 ci4 (i:=b) (by show b<4;omega)
      have hz:atI [T.str "",.str "ninesigns",.str "Z",.str "q1"] (b:Int)=some (.str z):=by rw[show(0:Int)+(b:Int)=(b:Int) by omega]at hz;exact hz
      have zb:=bf9 z (List.mem_of_getElem? hzm)
      refine⟨_,_,?_,fzl _,rest (z,pa.2) (.inr zb.2) (.inl (show pa.2∈(p0::its0).map (·.2) from List.mem_map_of_mem ma)) (.inl ⟨z,by simp,zb.1⟩)⟩
      rw[eR]
      have sl1:kO (fi g pa) (some 1) none=.ok (.lst true (g pa.2)):=by
       have:gL (.str pa.1::g pa.2) (some 1) none=g pa.2:=oK (.str pa.1::g pa.2) 1 (by simp)
       simp only[fi]
       walk_at "ev"
      have ap:=app ((p0::its0).take a) [] (z,pa.2)
      have lz:((((p0::its0).take a).map (fi g))++[T.lst false (.str z::g pa.2)]).length<=300:=by simp only[List.length_append,List.length_map,List.length_cons,List.length_nil];omega
      simp only at ap
      clear no noo fz ffi fzl hg gl app ma drp al xk mk kl nz pz t2 eR rest zb hzm w2
      generalize hA:((p0::its0).take a).map (fi g)=A at*
      generalize hB:((p0::its0).drop (a+1)).map (fi g)=B at*
      walk_at "ev"
    . have c2:(n%4==2)=false:=by rw[w3];rfl
      have nz2:(((ot.length+1:Nat):Int)-1)≠0:=by omega
      have b0:=Int.emod_nonneg (n/40) nz2
      have b1:=Int.emod_lt_of_pos (n/40) (show(0:Int)<((ot.length+1:Nat):Int)-1 by omega)
      obtain⟨b,hb⟩:=gB b0
      have bl:b<ot.length:=by omega
      have xo:atI (T.lst false (g o0)::ot.map λx=>T.lst false (g x)) (1+(b:Int))=some (.lst false (g ot[b])):=by
       rw[show(1:Int)+(b:Int)=((b+1:Nat):Int) by omega]
       exact eP (by rw[List.getElem?_cons_succ,List.getElem?_map,List.getElem?_eq_getElem bl];rfl)
      have mo:ot[b]∈ot:=List.getElem_mem bl
      generalize ot[b]=oz at xo mo
      refine⟨_,_,?_,fzl _,rest (pa.1,oz) (.inl (show pa.1∈(p0::its0).map (·.1) from List.mem_map_of_mem ma)) (.inr (List.mem_cons_of_mem _ mo)) (.inr mo)⟩
      rw[eR]
      have sl1:kO (fi g pa) none (some 1)=.ok (.lst true [.str pa.1]):=by
       have:gL (.str pa.1::g pa.2) none (some 1)=[.str pa.1]:=xF (.str pa.1::g pa.2) 1
       simp only[fi]
       walk_at "ev"
      have ap:=app ((p0::its0).take a) [] (pa.1,oz)
      have lz:((((p0::its0).take a).map (fi g))++[T.lst false (.str pa.1::g oz)]).length<=300:=by simp only[List.length_append,List.length_map,List.length_cons,List.length_nil];omega
      simp only at ap
      have go:=hg oz
      have fo:=fz oz
      have lo:=gl oz
      have noot:=noo ot
      clear no noo fz ffi fzl hg gl app ma drp al xk mk kl nz pz t2 eR rest w3 mo
      generalize hA:((p0::its0).take a).map (fi g)=A at*
      generalize hB:((p0::its0).drop (a+1)).map (fi g)=B at*
      walk_at "ev"
end
theorem ab9(a b n:Int)(hn:0<=n):∃a' b',hU [.lst false [.int a,.int b],.int n]=.ok (.lst false [.int a',.int b'])/\mG a' b'=false:=by
 unfold hU lG
 have q0:=tJ (T.int a) [T.int b]
 have h0:=Int.emod_nonneg n (show(4:Int)≠0 by decide)
 have h1:=Int.emod_lt_of_pos n (show(0:Int)<4 by decide)
 have four:n%4=0\/n%4=1\/n%4=2\/n%4=3:=by omega
 have x0:=λp q r s=>tJ (α:=T) p [q,r,s]
 have x1:=λp q r s=>wK (α:=T) p q [r,s]
 have x2:=λp q r s=>ix2 (α:=T) p q r [s]
 have x3:=λp q r s=>ix3 (α:=T) p q r s []
 rcases four with hk|hk|hk|hk
 . refine⟨a,a-1,?_,?_⟩
   . walk_at "ev"
   . unfold mG
     rw[decide_eq_false (show¬0<=a-1-a by omega)]
     simp
 . refine⟨a,a+301,?_,?_⟩
   . walk_at "ev"
   . unfold mG
     rw[decide_eq_false (show¬a+301-a<=300 by omega)]
     simp
 . refine⟨-3001,-3000,?_,by decide⟩
   walk_at "ev"
 . refine⟨2999,3001,?_,by decide⟩
   walk_at "ev"
def ce2:List Str:=["","ninesigns","A","a1","a b"]
theorem bg9:∀x∈ce2,eD x=false/\x.length<=100:=by decide+kernel
theorem tT(k:Nat):(fN "z" k).length=k:=by
 rw[oJ,show("z":Str)=⟨#[122]⟩ from by decide+kernel,zH,List.length_replicate]
theorem as5{ls:List Str}{n:Int}(hn:0<=n)(h1:1<=ls.length)(h8:ls.length<=100)(hx:∀x∈ls,x.length<=100000):
 ∃ls':List Str,fX [.lst false (ls.map .str),.int n]=.ok (.lst true (ls'.map .str))/\eQ ls' 1 8=false/\ls'.length<=1000/\∀x∈ls',x.length<=100000:=by
 unfold fX kH
 have d4:gF n 4:=⟨by decide,by decide⟩
 have d40:gF n 40:=⟨by decide,by decide⟩
 have nz:((ls.length:Nat):Int)≠0:=by omega
 have pz:(0:Int)<((ls.length:Nat):Int):=by omega
 obtain⟨a,ha⟩:=gB (Int.emod_nonneg (n/4) nz)
 obtain⟨k,hk⟩:=gB (Int.emod_nonneg (n/40) nz)
 have al:a<ls.length:=by have:=Int.emod_lt_of_pos (n/4) pz;omega
 have kl:k<ls.length:=by have:=Int.emod_lt_of_pos (n/40) pz;omega
 have t1:gL (ls.map T.str) none (some (a:Int))=(ls.take a).map .str:=(xF (ls.map T.str) a).trans List.map_take.symm
 have t2:gL (ls.map T.str) (some (a:Int)) none=(ls.drop a).map .str:=(oK (ls.map T.str) a (by rw[List.length_map];omega)).trans List.map_drop.symm
 have t3:gL (ls.map T.str) (some ((a:Int)+1)) none=(ls.drop (a+1)).map .str:=(oK (ls.map T.str) (a+1) (by rw[List.length_map];omega)).trans List.map_drop.symm
 have xk:atI (ls.map T.str) (k:Int)=some (.str ls[k]):=eP (by rw[List.getElem?_map,List.getElem?_eq_getElem kl];rfl)
 have mk:ls[k]∈ls:=List.getElem_mem kl
 generalize ls[k]=xk' at xk mk
 have lt:(ls.take a).length<=200:=by rw[List.length_take];omega
 have ld:(ls.drop a).length<=200:=by rw[List.length_drop];omega
 have ld':(ls.drop (a+1)).length<=200:=by rw[List.length_drop];omega
 have l4:ls.length<=100000:=by omega
 have app:∀(A:List Str)(x:Str),bA (A.map T.str++[.str x])=true:=λA x=>by
  have:=eS (A++[x])
  rw[List.map_append]at this
  exact this
 cases c0:(n%4==0)with
 |true=>
  refine⟨[],?_,bd2 (by decide),by simp,λ_ h=>nomatch h⟩
  clear app hx mk t1 t2 t3 al kl
  walk_at "ev"
 |false=>
  cases c1:(n%4==1)with
  |true=>
   have hc:∀x0 x1 x2 x3:T,dF (aQ 4) cY (aJ iD (dC (.str "z")) (aJ bR (aF 4) (dC (.int 1)))) [some x0,some x1,some x2,some x3,none] (eV 0 (8:Int).toNat)=.ok (((List.range 8).map λk=>fN "z" (k+1)).map .str):=λx0 x1 x2 x3=>by
    unfold eV
    rw[show(8:Int).toNat=8 from rfl,List.map_map]
    refine eU λi hi=>?_
    have hi:=List.mem_range.mp hi
    have lz:("z":Str).length=1:=by decide+kernel
    have q1:-(2^63)<=(0+(i:Int)+1)/\(0+(i:Int)+1)<2^62/\("z":Str).length*(0+(i:Int)+1).toNat<=sizeLine:=⟨by omega,by omega,fJ (by rw[lz];omega)⟩
    clear app hx mk t1 t2 t3 al kl lz
    walk_at "ev"
    have e1:(0+(i:Int)+1).toNat=i+1:=by omega
    simp only[Function.comp,e1]
   refine⟨((List.range 8).map λk=>fN "z" (k+1))++[("y":Str)],?_,vF (by simp),by simp,λx hx'=>?_⟩
   . have li:(eV 0 (8:Int).toNat).length<=sizeLine:=by rw[iK];exact fJ (by decide)
     have nn:=eS ((List.range 8).map λk=>fN "z" (k+1))
     have ln:(((List.range 8).map λk=>fN "z" (k+1)).map T.str).length<=8:=by simp
     rw[List.map_append]
     generalize hM:(((List.range 8).map λk=>fN "z" (k+1)).map T.str)=M at*
     clear hM app hx mk t1 t2 t3 al kl
     walk_at "ev"
   . rw[List.mem_append]at hx'
     rcases hx' with hx'|hx'
     . obtain⟨j,hj,rfl⟩:=List.mem_map.mp hx'
       have:=List.mem_range.mp hj
       rw[tT]
       omega
     . rw[List.mem_singleton]at hx'
       subst hx'
       decide+kernel
  |false=>
   cases c2:(n%4==2)with
   |true=>
    refine⟨ls.take a++[xk']++ls.drop a,?_,xG λnd=>?_,by simp only[List.length_append,List.length_cons,List.length_nil];omega,λx hx'=>?_⟩
    . have ap:=app (ls.take a) xk'
      rw[List.map_append,List.map_append]
      have lA:((ls.take a).map T.str).length<=200:=by rw[List.length_map];exact lt
      have lB:((ls.drop a).map T.str).length<=200:=by rw[List.length_map];exact ld
      have lz:((ls.take a).map T.str++[T.str xk']).length<=300:=by simp only[List.length_append,List.length_map,List.length_cons,List.length_nil];omega
      have nA:=eS (ls.take a)
      have nB:=eS (ls.drop a)
      clear app hx mk t3 al kl lt ld
      generalize hA:(ls.take a).map T.str=A at*
      generalize hB:(ls.drop a).map T.str=B at*
      walk_at "ev"
    . rw[List.nodup_append]at nd
      obtain⟨n1,n2,n3⟩:=nd
      rw[List.nodup_append]at n1
      rw[<-List.take_append_drop a ls,List.mem_append]at mk
      rcases mk with mk|mk
      . exact n1.2.2 xk' mk xk' (by simp) rfl
      . exact n3 xk' (by simp) xk' mk rfl
    . rw[List.mem_append,List.mem_append,List.mem_singleton]at hx'
      rcases hx' with(hx'|hx')|hx'
      . exact hx x (List.mem_of_mem_take hx')
      . rw[hx'];exact hx _ mk
      . exact hx x (List.mem_of_mem_drop hx')
   |false=>
    have b0:=Int.emod_nonneg (n/40) (show(5:Int)≠0 by decide)
    have b1:=Int.emod_lt_of_pos (n/40) (show(0:Int)<5 by decide)
    obtain⟨b,hb⟩:=gB b0
    obtain⟨z,hz,hzm⟩:=bf1 ce2 (i:=b) (by show b<5;omega)
    have hz:atI [T.str "",.str "ninesigns",.str "A",.str "a1",.str "a b"] (b:Int)=some (.str z):=by rw[show(0:Int)+(b:Int)=(b:Int) by omega]at hz;exact hz
    have zb:=bg9 z (List.mem_of_getElem? hzm)
    refine⟨ls.take a++[z]++ls.drop (a+1),?_,wX (x:=z) (by simp) zb.1,by simp only[List.length_append,List.length_cons,List.length_nil];omega,λx hx'=>?_⟩
    . have ap:=app (ls.take a) z
      rw[List.map_append,List.map_append]
      have lA:((ls.take a).map T.str).length<=200:=by rw[List.length_map];exact lt
      have lB:((ls.drop (a+1)).map T.str).length<=200:=by rw[List.length_map];exact ld'
      have lz:((ls.take a).map T.str++[T.str z]).length<=300:=by simp only[List.length_append,List.length_map,List.length_cons,List.length_nil];omega
      have nA:=eS (ls.take a)
      have nB:=eS (ls.drop (a+1))
      clear app hx mk t2 al kl lt ld ld' xk hk zb hzm
      generalize hA:(ls.take a).map T.str=A at*
      generalize hB:(ls.drop (a+1)).map T.str=B at*
      walk_at "ev"
    . rcases af1 hx' with hx'|rfl
      . exact hx x hx'
      . omega
def gI(xs:List Int):List T:=[.lst false (xs.map .int)]
def gR(p:Int×Int):List T:=[.int p.1,.int p.2]
def m61:List Int:=List.replicate 61 3
def oI:List (List Int):=[[],[1,2],[1000001],[0,-1],m61]
def oR:List (Int×Int):=[(-4001,1),(4001,1),(5,0),(5,101)]
theorem cs0:∀x∈oI,xL x=false:=by decide+kernel
theorem cw0:∀x∈oR,∀s:Str,rgB (s,x)=false:=by
 intro x hx s
 simp only[oR,List.mem_cons,List.not_mem_nil,or_false]at hx
 rcases hx with rfl|rfl|rfl|rfl<;>simp[rgB]
theorem be5{its its':List (Str×List Int)}(z:SzI its)(h:SB its [5] oI 6 its'):qH its'=false/\(its.length<=100->SzI its'):=by
 refine⟨?_,λhl=>⟨by have:=h.len;omega,λp hp=>⟨?_,?_⟩⟩⟩
 . unfold qH
   rcases h.bad with b|b|⟨x,hx,b⟩|⟨p,hp,b⟩
   . rw[vF (by rw[List.length_map];omega)];rfl
   . rw[xG b];rfl
   . rw[wX hx b];rfl
   . rw[show(its'.all λp=>xL p.2)=false from List.all_eq_false.mpr ⟨p,hp,by rw[cs0 _ b];exact Bool.false_ne_true⟩,Bool.and_false]
 . rcases h.nm p hp with q|q
   . obtain⟨p',hp',e⟩:=List.mem_map.mp q
     rw[<-e]
     exact(z.x p' hp').1
   . omega
 . rcases h.pl p hp with q|q
   . obtain⟨p',hp',e⟩:=List.mem_map.mp q
     rw[<-e]
     exact(z.x p' hp').2
   . have:∀x∈([5]::oI:List (List Int)),x.length<=1000:=by decide+kernel
     exact this _ q
theorem ap9{its its':List (Str×Int×Int)}(z:SzR its)(h:SB its (0,1) oR 8 its'):lR its'=false/\(its.length<=100->SzR its'):=by
 refine⟨?_,λhl=>⟨by have:=h.len;omega,λp hp=>?_⟩⟩
 . unfold lR
   rcases h.bad with b|b|⟨x,hx,b⟩|⟨p,hp,b⟩
   . rw[vF (by rw[List.length_map];omega)];rfl
   . rw[xG b];rfl
   . rw[wX hx b];rfl
   . rw[show its'.all rgB=false from List.all_eq_false.mpr ⟨p,hp,by rw[show p=(p.1,p.2) from rfl,cw0 _ b];exact Bool.false_ne_true⟩,Bool.and_false]
 . rcases h.nm p hp with q|q
   . obtain⟨p',hp',e⟩:=List.mem_map.mp q
     rw[<-e]
     exact z.x p' hp'
   . omega
structure Rl (u:T) (d:Dt) (bad:List Nat):Prop where
 ex:∃x0 x1 x2 x3,u=.lst true [x0,x1,x2,x3]/\frz x0=.lst false [.int d.a,.int d.b]/\frz x1=.lst false (d.ls.map .str)/\frz x2=.lst false (d.is.map rK)/\frz x3=.lst false (d.rs.map sF)/\(0∉bad->dG x0=true)/\(1∉bad->dG x1=true)/\(2∉bad->dG x2=true)/\(3∉bad->dG x3=true)
 sz:Sz d
 c0:mG d.a d.b=!bad.contains 0
 c1:eQ d.ls 1 8=!bad.contains 1
 c2:qH d.is=!bad.contains 2
 c3:lR d.rs=!bad.contains 3
 l1:1∉bad->1<=d.ls.length/\d.ls.length<=100
 l2:2∉bad->d.is.length<=100
 l3:3∉bad->d.rs.length<=100
theorem cn7(o:Bool):ax0 (.lst o [.int 3]) (.int 61)=.ok (.lst true (m61.map .int)):=by
 simp only[ax0]
 rw[yW ⟨rfl,by omega,by omega,by decide⟩]
 rfl
theorem bo2{u:T}{d:Dt}{bad:List Nat}(R:Rl u d bad){n:Int}(hn:0<=n){w:Nat}(hw:n%4=w)(hb:w∉bad):∃u' d',jR u (.int n)=.ok (.int (n%4),u')/\Rl u' d' (w::bad):=by
 obtain⟨x0,x1,x2,x3,rfl,f0,f1,f2,f3,n0,n1,n2,n3⟩:=R.ex
 have h0:=Int.emod_nonneg n (show(4:Int)≠0 by decide)
 have h1:=Int.emod_lt_of_pos n (show(0:Int)<4 by decide)
 have hn4:0<=n/4:=by omega
 have d4:gF n 4:=⟨by decide,by decide⟩
 have q0:=tJ x0 [x1,x2,x3]
 have q1:=wK x0 x1 [x2,x3]
 have q2:=ix2 x0 x1 x2 [x3]
 have q3:=ix3 x0 x1 x2 x3 []
 have four:w=0\/w=1\/w=2\/w=3:=by omega
 have nb:∀j,j≠w->(w::bad).contains j=bad.contains j:=λj hj=>by
  rw[List.contains_cons,show(j==w)=false by simpa using hj,Bool.false_or]
 have yb:(w::bad).contains w=true:=by simp
 have nm:∀j,j∉w::bad->j∉bad:=λj h h'=>h (List.mem_cons_of_mem _ h')
 unfold jR rJ
 have i0:rQ 4 0=some 0:=by decide
 have i1:rQ 4 1=some 1:=by decide
 have i2:rQ 4 2=some 2:=by decide
 have i3:rQ 4 3=some 3:=by decide
 rcases four with rfl|rfl|rfl|rfl
 . obtain⟨a',b',hy,hb'⟩:=ab9 d.a d.b (n/4) hn4
   refine⟨.lst true [.lst false [.int a',.int b'],x1,x2,x3],{d with a:=a',b:=b'},?_,⟨⟨_,x1,x2,x3,rfl,rfl,f1,f2,f3,λ_=>rfl,λh=>n1 (nm _ h),λh=>n2 (nm _ h),λh=>n3 (nm _ h)⟩,⟨R.sz.ll,R.sz.lx,R.sz.i,R.sz.r⟩,by rw[yb];exact hb',by rw[nb _ (by decide)];exact R.c1,by rw[nb _ (by decide)];exact R.c2,by rw[nb _ (by decide)];exact R.c3,λh=>R.l1 (nm _ h),λh=>R.l2 (nm _ h),λh=>R.l3 (nm _ h)⟩⟩
   have n0':=n0 hb
   have k0:(n%4==0)=true:=by rw[hw];rfl
   have k1:(n%4==1)=false:=by rw[hw];rfl
   have k2:(n%4==2)=false:=by rw[hw];rfl
   have k3:(n%4==3)=false:=by rw[hw];rfl
   clear hw n0 n1 n2 n3 nb yb nm R f1 f2 f3 q1 q2 q3
   walk_at "ev"
 . obtain⟨g1,g2⟩:=R.l1 hb
   obtain⟨ls',hy,hb',hl,hx⟩:=as5 hn4 g1 g2 R.sz.lx
   refine⟨.lst true [x0,.lst true (ls'.map .str),x2,x3],{d with ls:=ls'},?_,⟨⟨x0,_,x2,x3,rfl,f0,by simp only[frz,nC],f2,f3,λh=>n0 (nm _ h),λh=>absurd List.mem_cons_self h,λh=>n2 (nm _ h),λh=>n3 (nm _ h)⟩,⟨hl,hx,R.sz.i,R.sz.r⟩,by rw[nb _ (by decide)];exact R.c0,by rw[yb];exact hb',by rw[nb _ (by decide)];exact R.c2,by rw[nb _ (by decide)];exact R.c3,λh=>absurd List.mem_cons_self h,λh=>R.l2 (nm _ h),λh=>R.l3 (nm _ h)⟩⟩
   have n1':=n1 hb
   have k0:(n%4==0)=false:=by rw[hw];rfl
   have k1:(n%4==1)=true:=by rw[hw];rfl
   have k2:(n%4==2)=false:=by rw[hw];rfl
   have k3:(n%4==3)=false:=by rw[hw];rfl
   clear hw n0 n1 n2 n3 nb yb nm R f0 f2 f3 q0 q2 q3 hx hl hb'
   walk_at "ev"
 . obtain⟨ts',its',hy,hf,hS⟩:=cm4 (g:=gI) (its:=d.is) (o0:=[5]) (ot:=oI) (most:=6) (λx=>by simp only[gI,bA,dG,mM,Bool.not_false,Bool.and_self]) (λx=>by simp[gI]) (R.l2 hb) (by decide) (by decide) (by decide) hn4
   obtain⟨hb',hz⟩:=be5 R.sz.i hS
   refine⟨.lst true [x0,x1,.lst true ts',x3],{d with is:=its'},?_,⟨⟨x0,x1,_,x3,rfl,f0,f1,by simp only[frz,hf];rfl,f3,λh=>n0 (nm _ h),λh=>n1 (nm _ h),λh=>absurd List.mem_cons_self h,λh=>n3 (nm _ h)⟩,⟨R.sz.ll,R.sz.lx,hz (R.l2 hb),R.sz.r⟩,by rw[nb _ (by decide)];exact R.c0,by rw[nb _ (by decide)];exact R.c1,by rw[yb];exact hb',by rw[nb _ (by decide)];exact R.c3,λh=>R.l1 (nm _ h),λh=>absurd List.mem_cons_self h,λh=>R.l3 (nm _ h)⟩⟩
   have n2':=n2 hb
   have hy:eA [.lst false (d.is.map rK),.int 6,.int (n/4),.lst false [.lst false [.lst false [.int 5]],.lst false [.lst false []],.lst false [.lst false [.int 1,.int 2]],.lst false [.lst false [.int (1000000+1)]],.lst false [.lst false [.int 0,.int (-1)]],.lst false [.lst false (m61.map .int)]]]=.ok (.lst true ts'):=hy
   have p6:=hp6
   have m6:=cn7 true
   have fm:=sL m61
   have nmm:=mM m61
   have k0:(n%4==0)=false:=by rw[hw];rfl
   have k1:(n%4==1)=false:=by rw[hw];rfl
   have k2:(n%4==2)=true:=by rw[hw];rfl
   have k3:(n%4==3)=false:=by rw[hw];rfl
   clear hw n0 n1 n2 n3 nb yb nm R f0 f1 f3 q0 q1 q3 hS hf hz hb'
   walk_at "ev"
 . obtain⟨ts',its',hy,hf,hS⟩:=cm4 (g:=gR) (its:=d.rs) (o0:=(0,1)) (ot:=oR) (most:=8) (λx=>rfl) (λx=>by simp[gR]) (R.l3 hb) (by decide) (by decide) (by decide) hn4
   obtain⟨hb',hz⟩:=ap9 R.sz.r hS
   refine⟨.lst true [x0,x1,x2,.lst true ts'],{d with rs:=its'},?_,⟨⟨x0,x1,x2,_,rfl,f0,f1,f2,by simp only[frz,hf];rfl,λh=>n0 (nm _ h),λh=>n1 (nm _ h),λh=>n2 (nm _ h),λh=>absurd List.mem_cons_self h⟩,⟨R.sz.ll,R.sz.lx,R.sz.i,hz (R.l3 hb)⟩,by rw[nb _ (by decide)];exact R.c0,by rw[nb _ (by decide)];exact R.c1,by rw[nb _ (by decide)];exact R.c2,by rw[yb];exact hb',λh=>R.l1 (nm _ h),λh=>R.l2 (nm _ h),λh=>absurd List.mem_cons_self h⟩⟩
   have n3':=n3 hb
   have hy:eA [.lst false (d.rs.map sF),.int 8,.int (n/4),.lst false [.lst false [.int 0,.int 1],.lst false [.int (-4001),.int 1],.lst false [.int 4001,.int 1],.lst false [.int 5,.int 0],.lst false [.int 5,.int 101]]]=.ok (.lst true ts'):=hy
   have k0:(n%4==0)=false:=by rw[hw];rfl
   have k1:(n%4==1)=false:=by rw[hw];rfl
   have k2:(n%4==2)=false:=by rw[hw];rfl
   have k3:(n%4==3)=true:=by rw[hw];rfl
   clear hw n0 n1 n2 n3 nb yb nm R f0 f1 f2 q0 q1 q2 hS hf hz hb'
   walk_at "ev"
def sixC:List Nat:=("abcdef":Str).cps.toList
def eigC:List Nat:=("abcdefgh":Str).cps.toList
def am8(k:Nat):Str:="gall"++⟨#[sixC.getD k 0]⟩
def bh5(k:Nat):Str:="r"++⟨#[eigC.getD k 0]⟩
def galls:List Str:=(List.range 6).map am8
def rexes:List Str:=(List.range 8).map bh5
theorem galls_ok:galls.Nodup/\(∀x∈galls,eD x=true)/\("none":Str)∉galls/\(∀x∈galls,x++"q"∉galls)/\∀x∈galls,x.length<=8:=by decide+kernel
theorem rexes_ok:rexes.Nodup/\∀x∈rexes,eD x=true:=by decide+kernel
def mI(p:Str×List Int):T:=.lst true [.str p.1,.lst true (p.2.map .int)]
def mR(p:Str×Int×Int):T:=.lst true [.str p.1,.int p.2.1,.int p.2.2]
def mdT(f:Fm):T:=.lst true [.lst true [.int f.first,.int (f.first+f.span)],.lst true (f.names.map .str),.lst true (f.inks.map mI),.lst true (f.reigns.map mR)]
structure Md (f:Fm):Prop where
 g:Gd f
 i:∃k,f.inks.map (·.1)=galls.take k
theorem am2(l:List (Str×List Int)):fR (l.map mI)=true:=kD (λa=>by simp only[mI,gP,fR,tE,Bool.and_self]) l
theorem aa2(l:List (Str×Int×Int)):fR (l.map mR)=true:=kD (λa=>by simp only[mR,gP,fR,Bool.and_self]) l
theorem xY:∀l:List (Str×List Int),frzs (l.map mI)=l.map rK
 |[]=>rfl
 |p::l=>by simp only[List.map_cons,frzs,xY l,mI,rK,frz,sL]
theorem yB:∀l:List (Str×Int×Int),frzs (l.map mR)=l.map sF
 |[]=>rfl
 |p::l=>by simp only[List.map_cons,frzs,yB l,mR,sF,frz]
theorem ab6{α:Type}{l:List α}{i:Nat}{x:α}(h:l[i]?=some x):l.take (i+1)=l.take i++[x]:=by
 rw[List.take_succ,h]
 rfl
theorem cb3(ns:List Int):∃f,nL [.lst false (ns.map .int)]=.ok (mdT f)/\Md f:=by
 unfold nL uS
 obtain⟨z,hz,z0⟩:=sJ ns 0
 obtain⟨y,hy,y0⟩:=sJ ns 1
 obtain⟨mi,hmi,mi0⟩:=sJ ns 2
 obtain⟨mr,hmr,mr0⟩:=sJ ns 9
 have d3:gF z 3:=⟨by decide,by decide⟩
 have d9:gF z 9:=⟨by decide,by decide⟩
 have d903:gF z 903:=⟨by decide,by decide⟩
 have d7:gF y 7:=⟨by decide,by decide⟩
 obtain⟨span,hs,ms⟩:=pK [z/3%301,300,0] (i:=z%3) (by omega) (by simp;omega)
 have sb:0<=span/\span<=300:=by simp at ms;omega
 obtain⟨first,hf,mf⟩:=pK [z/903%5701-3000,-3000,3000-span] (i:=z/9%3) (by omega) (by simp;omega)
 have fb:-3000<=first/\first+span<=3000:=by simp at mf;omega
 obtain⟨kn,hkn⟩:=gB (show 0<=1+y/7%8 by omega)
 obtain⟨ss,en,sl,sn,sd⟩:=e_names y kn y0 (by omega) (by omega)
 have sn2:=sn
 clear ms mf sn
 simp only[List.map_cons,List.map_nil]at hf hs
 walk_at "ev"
 generalize hL:jG _ _ _ _=o
 obtain⟨ρ',rfl,inks,o6,rfl,il,inm,iok⟩:=mY (λi ρ=>∃(inks:List (Str×List Int))(o6:Option T),ρ=[some (.lst false (ns.map .int)),some (.int z),some (.int span),some (.int first),some (.lst true (ss.map .str)),some (.lst true (inks.map mI)),o6,none,none,none]/\
  inks.length=i/\inks.map (·.1)=galls.take i/\∀p∈inks,TabOk p.2) hL ⟨[],none,rfl,rfl,rfl,cU⟩ (by
  rintro i t ρ et ⟨inks,o6,rfl,il,inm,iok⟩
  obtain⟨hi',rfl⟩:=nF et
  have hi6:i<6:=by omega
  obtain⟨v,hv,v0⟩:=sJ ns (3+(0+(i:Int)))
  obtain⟨ys,hy,yok⟩:=at6 (v+31*(0+(i:Int))) 60 (by omega) (by omega)
  have hy':kR [.int (v+31*(0+(i:Int))),.int 60]=.ok (.lst true (ys.map .int)):=hy
  have a1:atI ("abcdef":Str).cps.toList (0+(i:Int))=some (sixC.getD i 0):=by
   rw[show(0:Int)+(i:Int)=(i:Int) by omega]
   have:i<sixC.length:=by rw[show sixC.length=6 by decide+kernel];omega
   exact eP (show sixC[i]?=some (sixC.getD i 0) by rw[List.getD_eq_getElem?_getD,List.getElem?_eq_getElem this];rfl)
  have a2:("abcdef":Str).length<=sizeLine:=by decide+kernel
  have a3:("gall":Str).length+(⟨#[sixC.getD i 0]⟩:Str).length<=sizeLine:=by
   rw[show("gall":Str).length=4 by decide+kernel]
   exact fJ (by show 4+1<=100000;omega)
  have hl2:inks.length<=100000:=by omega
  have iok2:=iok
  have mv:mulOk 31 (0+(i:Int)):=tW (by decide) (by decide)
  clear hL et sn2 iok hy
  walk_at "ev"
  refine⟨inks++[(am8 i,ys)],_,by rw[List.map_append];rfl,by simp[il],?_,?_⟩
  . rw[List.map_append,inm,ab6 (l:=galls) (i:=i) (x:=am8 i) (by simp[galls,hi6])]
    rfl
  . intro p hp
    rcases List.mem_append.mp hp with hp|hp
    . exact iok2 p hp
    . have hp:=List.mem_singleton.mp hp
      subst hp
      exact yok)
 clear hL
 walk_at "ev"
 generalize hL:jG _ _ _ _=o
 obtain⟨ρ',rfl,rs,o6,o8,o9,rfl,rl,rnm,rok⟩:=mY (λi ρ=>∃(rs:List (Str×Int×Int))(o6 o8 o9:Option T),ρ=[some (.lst false (ns.map .int)),some (.int z),some (.int span),some (.int first),some (.lst true (ss.map .str)),some (.lst true (inks.map mI)),o6,some (.lst true (rs.map mR)),o8,o9]/\
  rs.length=i/\rs.map (·.1)=rexes.take i/\∀p∈rs,-4000<=p.2.1/\p.2.1<=4000/\1<=p.2.2/\p.2.2<=100) hL ⟨[],_,_,_,rfl,rfl,rfl,cU⟩ (by
  rintro i t ρ et ⟨rs,o6,o8,o9,rfl,rl,rnm,rok⟩
  obtain⟨hi',rfl⟩:=nF et
  have hi8:i<8:=by omega
  obtain⟨v,hv,v0⟩:=sJ ns (10+(0+(i:Int)))
  obtain⟨xs,hx,xl,xb⟩:=sG (v+17*(0+(i:Int))) 2 (by omega)
  have hx':eT [.int (v+17*(0+(i:Int))),.int 2]=.ok (.lst true (xs.map .int)):=hx
  obtain⟨p,h0,mp⟩:=pK xs (i:=0) (by omega) (by omega)
  obtain⟨q,h1,mq⟩:=pK xs (i:=1) (by omega) (by omega)
  have p0:=(xb p mp).1
  have q0:=(xb q mq).1
  obtain⟨b,hb,mb⟩:=pK [-4000,4000,p%8001-4000] (i:=q%3) (by omega) (by simp;omega)
  have bb:-4000<=b/\b<=4000:=by simp at mb;omega
  obtain⟨e,he,me⟩:=pK [1,100,1+q%100] (i:=p%3) (by omega) (by simp;omega)
  have eb:1<=e/\e<=100:=by simp at me;omega
  have a1:atI ("abcdefgh":Str).cps.toList (0+(i:Int))=some (eigC.getD i 0):=by
   rw[show(0:Int)+(i:Int)=(i:Int) by omega]
   have:i<eigC.length:=by rw[show eigC.length=8 by decide+kernel];omega
   exact eP (show eigC[i]?=some (eigC.getD i 0) by rw[List.getD_eq_getElem?_getD,List.getElem?_eq_getElem this];rfl)
  have a2:("abcdefgh":Str).length<=sizeLine:=by decide+kernel
  have a3:("r":Str).length+(⟨#[eigC.getD i 0]⟩:Str).length<=sizeLine:=by
   rw[show("r":Str).length=1 by decide+kernel]
   exact fJ (by show 1+1<=100000;omega)
  have hl2:rs.length<=100000:=by omega
  have rok2:=rok
  have mv:mulOk 17 (0+(i:Int)):=tW (by decide) (by decide)
  simp only[List.map_cons,List.map_nil]at hb he
  clear hL et sn2 rok hx mp mq mb me xb iok
  walk_at "ev"
  refine⟨rs++[(bh5 i,b,e)],_,_,_,by rw[List.map_append];rfl,by simp[rl],?_,?_⟩
  . rw[List.map_append,rnm,ab6 (l:=rexes) (i:=i) (x:=bh5 i) (by simp[rexes,hi8])]
    rfl
  . intro p hp
    rcases List.mem_append.mp hp with hp|hp
    . exact rok2 p hp
    . have hp:=List.mem_singleton.mp hp
      subst hp
      exact⟨bb.1,bb.2,eb.1,eb.2⟩)
 rw[iK]at il inm rl rnm
 clear hL
 refine⟨⟨first,span,ss,inks,rs⟩,?_,⟨?_,⟨_,inm⟩⟩⟩
 . clear sn2 iok rok inm rnm
   have c1:=am2 inks
   have c2:=aa2 rs
   walk_at "ev"
   simp only[mdT]
 . exact{
    s0:=sb.1
    s1:=sb.2
    f0:=fb.1
    f1:=fb.2
    n1:=by show 1<=ss.length;omega
    n8:=by show ss.length<=8;omega
    nn:=sn2
    nd:=sd
    i6:=by show inks.length<=6;omega
    ind:=by show(inks.map (·.1)).Nodup;rw[inm];exact galls_ok.1.sublist (List.take_sublist _ _)
    inn:=λp hp=>⟨galls_ok.2.1 _ (List.mem_of_mem_take (by rw[<-inm];exact List.mem_map_of_mem hp)),iok p hp⟩
    r8:=by show rs.length<=8;omega
    rnd:=by show(rs.map (·.1)).Nodup;rw[rnm];exact rexes_ok.1.sublist (List.take_sublist _ _)
    rn:=λp hp=>⟨rexes_ok.2 _ (List.mem_of_mem_take (by rw[<-rnm];exact List.mem_map_of_mem hp)),rok p hp⟩}
theorem cf5{f:Fm}(m:Md f):Rl (frz1 (mdT f)) ⟨f.first,f.first+f.span,f.names,f.inks,f.reigns⟩ []:=by
 have g:=m.g
 have nl:∀x:Str,eD x=true->x.length<=100000:=λx hx=>by have:=ad2 hx;omega
 refine⟨⟨.lst false [.int f.first,.int (f.first+f.span)],.lst false (f.names.map .str),.lst false (f.inks.map rK),.lst false (f.reigns.map sF),?_,rfl,?_,?_,?_,λ_=>rfl,λ_=>?_,λ_=>?_,λ_=>?_⟩,⟨?_,?_,⟨?_,?_⟩,⟨?_,?_⟩⟩,?_,?_,?_,?_,λ_=>⟨g.n1,?_⟩,λ_=>?_,λ_=>?_⟩
 . simp only[mdT,frz1,frzs,frz,nC,xY,yB]
 . simp only[frz,nC]
 . simp only[frz,fO _ (lS f.inks)]
 . simp only[frz,fO _ (lU f.reigns)]
 . simp only[dG,eS,Bool.not_false,Bool.and_self]
 . simp only[dG,lS,Bool.not_false,Bool.and_self]
 . simp only[dG,lU,Bool.not_false,Bool.and_self]
 . have:=g.n8;show f.names.length<=1000;omega
 . exact λx hx=>nl x (g.nn x hx)
 . have:=g.i6;show f.inks.length<=1000;omega
 . exact λp hp=>⟨nl _ (g.inn p hp).1,by have:=(g.inn p hp).2.l60;omega⟩
 . have:=g.r8;show f.reigns.length<=1000;omega
 . exact λp hp=>nl _ (g.rn p hp).1
 . have s0:=g.s0
   have s1:=g.s1
   have f0:=g.f0
   have f1:=g.f1
   show mG f.first (f.first+f.span)=true
   simp only[mG,Bool.and_eq_true,decide_eq_true_eq]
   omega
 . show eQ f.names 1 8=true
   exact yU (by have:=g.n1;omega) (by have:=g.n8;omega) g.nn g.nd
 . show qH f.inks=true
   unfold qH
   rw[yU (by omega) (by rw[List.length_map];have:=g.i6;omega) (λx hx=>by
    obtain⟨p,hp,rfl⟩:=List.mem_map.mp hx
    exact(g.inn p hp).1) g.ind,Bool.true_and,List.all_eq_true]
   intro p hp
   obtain⟨l1,l60,b,fd⟩:=(g.inn p hp).2
   simp only[xL,Bool.and_eq_true,decide_eq_true_eq,List.all_eq_true,List.mem_range]
   exact⟨by omega,by omega,λx hx=>b x hx,λi hi=>bz2 fd (by omega)⟩
 . show lR f.reigns=true
   unfold lR
   rw[yU (by omega) (by rw[List.length_map];have:=g.r8;omega) (λx hx=>by
    obtain⟨p,hp,rfl⟩:=List.mem_map.mp hx
    exact(g.rn p hp).1) g.rnd,Bool.true_and,List.all_eq_true]
   intro p hp
   obtain⟨_,b1,b2,b3,b4⟩:=g.rn p hp
   simp only[rgB,Bool.and_eq_true,decide_eq_true_eq]
   exact⟨⟨b1,b2⟩,b3,b4⟩
 . have:=g.n8;show f.names.length<=100;omega
 . have:=g.i6;show f.inks.length<=100;omega
 . have:=g.r8;show f.reigns.length<=100;omega
theorem xD(n:Nat):∀{ts:List T},(∀t∈ts,jW n t t=some true)->∃es,uO n ts ts=some es/\es.all id=true
 |[],_=>⟨[],rfl,rfl⟩
 |t::ts,h=>by
  obtain⟨es,h1,h2⟩:=xD n (ts:=ts) λu hu=>h u (List.mem_cons_of_mem _ hu)
  refine⟨true::es,by simp only[uO,h t List.mem_cons_self,h1,Option.bind_some,Option.map_some],?_⟩
  simp[h2]
theorem ax4{n:Nat}{o o':Bool}{ts:List T}(h:∀t∈ts,jW n t t=some true):jW (n+1) (.lst o ts) (.lst o' ts)=some true:=by
 obtain⟨es,h1,h2⟩:=xD n h
 rw[jW,if_pos rfl,h1,Option.map_some,h2]
theorem ag5{n:Nat}{ts:List T}(h:∀t∈ts,jW n t t=some true):jW (n+1) (.tup ts) (.tup ts)=some true:=by
 obtain⟨es,h1,h2⟩:=xD n h
 rw[jW,h1,Option.map_some,h2]
 simp
theorem eqS(n:Nat)(s:Str):jW n (.str s) (.str s)=some true:=by cases n<;>simp[jW,kK]
theorem eqI(n:Nat)(i:Int):jW n (.int i) (.int i)=some true:=by cases n<;>simp[jW,kK]
theorem xW{o o':Bool}{ts:List T}(h:∀t∈ts,jW 5 t t=some true):oA (.lst o ts) (.lst o' ts)=.ok (.bl false):=by
 have q:jW bV (.lst o ts) (.lst o' ts)=some true:=ax4 h
 simp only[oA,qI,and_self,if_true,q,Bool.not_true]
theorem bc9(o o':Bool)(ys:List Int):oA (.lst o (ys.map .int)) (.lst o' (ys.map .int))=.ok (.bl false):=xW λt ht=>by
 obtain⟨i,_,rfl⟩:=List.mem_map.mp ht
 exact eqI _ _
theorem cl0(o o':Bool)(ys:List Str):oA (.lst o (ys.map .str)) (.lst o' (ys.map .str))=.ok (.bl false):=xW λt ht=>by
 obtain⟨i,_,rfl⟩:=List.mem_map.mp ht
 exact eqS _ _
theorem ch0(o o':Bool)(l:List (Str×List Int)):oA (.lst o (l.map (dD false))) (.lst o' (l.map (dD false)))=.ok (.bl false):=xW λt ht=>by
 obtain⟨p,_,rfl⟩:=List.mem_map.mp ht
 refine ag5 (n:=4) λt ht=>?_
 simp only[List.mem_cons,List.not_mem_nil,or_false]at ht
 rcases ht with rfl|rfl
 . exact eqS _ _
 . refine ax4 (n:=3) λt ht=>?_
   obtain⟨i,_,rfl⟩:=List.mem_map.mp ht
   exact eqI _ _
theorem ch3(o o':Bool)(l:List (Str×Int×Int)):oA (.lst o (l.map gW)) (.lst o' (l.map gW))=.ok (.bl false):=xW λt ht=>by
 obtain⟨p,_,rfl⟩:=List.mem_map.mp ht
 refine ag5 (n:=4) λt ht=>?_
 simp only[List.mem_cons,List.not_mem_nil,or_false]at ht
 rcases ht with rfl|rfl|rfl
 . exact eqS _ _
 . exact eqI _ _
 . exact eqI _ _
theorem as2{α:Type}{b:T->Fr->Option Fr}{body:Fr->bP}{g r:α->T}{key:α->Str}{n:Str}(Iv:Fr->Prop)
 (hs:∀a ρ,Iv ρ->∃ρ1,b (g a) ρ=some ρ1/\(((key a==n)=true/\body ρ1=.rt (r a))\/((key a==n)=false/\∃ρ2,body ρ1=.nx ρ2/\Iv ρ2))):
 ∀{l:List α}{ρ:Fr},Iv ρ->(∀a0,l.find? (λa=>key a==n)=some a0->jG b body (l.map g) ρ=.rt (r a0))/\(l.find? (λa=>key a==n)=none->∃ρ',jG b body (l.map g) ρ=.nx ρ'/\Iv ρ')
 |[],ρ,hi=>⟨λa0 h=>by simp at h,λ_=>⟨ρ,rfl,hi⟩⟩
 |a::l,ρ,hi=>by
  obtain⟨ρ1,h1,h2⟩:=hs a ρ hi
  rw[List.find?_cons]
  simp only[List.map_cons,jG,h1]
  rcases h2 with⟨k,h2⟩|⟨k,ρ2,h2,h3⟩
  . rw[k]
    refine⟨λa0 h=>?_,λh=>by cases h⟩
    cases h
    rw[h2]
  . rw[k,h2]
    exact as2 Iv hs h3
theorem ad7{α:Type}{key:α->Str}:∀{l:List α}{a:α},(l.map key).Nodup->a∈l->l.find? (λx=>key x==key a)=some a
 |[],a,_,h=>by cases h
 |x::l,a,nd,h=>by
  rw[List.map_cons,List.nodup_cons]at nd
  rw[List.find?_cons]
  rcases List.mem_cons.mp h with rfl|h
  . simp
  . have:(key x==key a)=false:=by
     simp
     intro e
     exact nd.1 (by rw[e];exact List.mem_map_of_mem h)
    rw[this]
    exact ad7 nd.2 h
theorem bq2{α:Type}{key:α->Str}{l:List α}{n:Str}(h:n∉l.map key):l.find? (λx=>key x==n)=none:=by
 rw[List.find?_eq_none]
 intro x hx e
 exact h (by rw[<-eq_of_beq e];exact List.mem_map_of_mem hx)
theorem bh0(f:Fm)(n:Str):∀o2 o3:Option T,(∀a0,f.inks.find? (λa=>a.1==n)=some a0->jG (gZ (bO (aQ 2) (bO (aQ 3) iC))) (gJ (dN (aJ jH (aF 2) (aF 1))) (cS [] (dX iP (aE (aF 3) aO))) dM) (f.inks.map (dD false)) [some (gU false f),some (.str n),o2,o3]=.rt (.lst true (a0.2.map .int)))/\
 (f.inks.find? (λa=>a.1==n)=none->∃ρ',jG (gZ (bO (aQ 2) (bO (aQ 3) iC))) (gJ (dN (aJ jH (aF 2) (aF 1))) (cS [] (dX iP (aE (aF 3) aO))) dM) (f.inks.map (dD false)) [some (gU false f),some (.str n),o2,o3]=.nx ρ'/\∃o2 o3,ρ'=[some (gU false f),some (.str n),o2,o3]):=λo2 o3=>by
 refine as2 (key:=λq:Str×List Int=>q.1) (r:=λq:Str×List Int=>.lst true (q.2.map .int)) (λρ=>∃o2 o3,ρ=[some (gU false f),some (.str n),o2,o3]) ?_ ⟨o2,o3,rfl⟩
 rintro a ρ ⟨o2,o3,rfl⟩
 refine⟨[some (gU false f),some (.str n),some (.str a.1),some (.lst false (a.2.map .int))],rfl,?_⟩
 cases e:(a.1==n)with
 |true=>exact .inl ⟨rfl,by walk_at "ev"⟩
 |false=>exact .inr ⟨rfl,[some (gU false f),some (.str n),some (.str a.1),some (.lst false (a.2.map .int))],by walk_at "ev",_,_,rfl⟩
theorem e_table{f:Fm}(g:Gd f){p:Str×List Int}(hp:p∈f.inks):cV [gU false f,.str p.1]=.ok (.lst true (p.2.map .int)):=by
 unfold cV jD
 have fl:=av1 false f
 have n1:=iI f.inks
 have key:=(bh0 f p.1 none none).1 p (ad7 (key:=λq:Str×List Int=>q.1) g.ind hp)
 clear g
 walk_at "ev"
theorem bv0{f:Fm}{n:Str}(h:n∉f.inks.map (·.1)):cV [gU false f,.str n]=.ok .non:=by
 unfold cV jD
 have fl:=av1 false f
 have n1:=iI f.inks
 obtain⟨ρ',key,o2,o3,rfl⟩:=(bh0 f n none none).2 (bq2 (key:=λq:Str×List Int=>q.1) h)
 clear h
 walk_at "ev"
theorem bt5:iO "table" ["first","present","letters","inks","reigns"]=none:=by decide+kernel
theorem bg8:tm_table.lookup ("Archive":Str)=some cV:=by with_unfolding_all rfl
theorem ap5{f:Fm}{o:Fr->Res T}{r:Fr->Res (List T)}{ρ:Fr}{n:Str}{t:T}(ho:o ρ=.ok (gU false f))(hr:r ρ=.ok [.str n])(h:cV [gU false f,.str n]=.ok t):mT 2 "table" tm_table o r ρ=.ok t:=by
 have e:mT 2 "table" tm_table o r ρ=sK 2 cV (gU false f::[.str n]):=by
  simp only[mT,ho,hr,xP,gU,bt5,bg8]
 have na:=aq5 f
 have za:=bo0 false f
 rw[e]
 clear ho hr e
 walk_at "ev"
def dOf(f:Fm):Dt:=⟨f.first,f.first+f.span,f.names,f.inks,f.reigns⟩
theorem ad8{α β:Type}{g:α->β}{l:List α}{i:Nat}{t:β}(h:(l.map g)[i]?=some t):∃a∈l,t=g a:=by
 rw[List.getElem?_map,Option.map_eq_some_iff]at h
 obtain⟨a,h1,rfl⟩:=h
 exact⟨a,List.mem_of_getElem? h1,rfl⟩
theorem cx0{f:Fm}(m:Md f):nK [gU false f,tU (dOf f)]=.ok (.bl true):=by
 have g:=m.g
 obtain⟨k,hk⟩:=m.i
 have hg:∀x∈f.inks.map (·.1),x∈galls:=λx hx=>by rw[hk]at hx;exact List.mem_of_mem_take hx
 have q1:cV [gU false f,.str "none"]=.ok .non:=bv0 λh=>galls_ok.2.2.1 (hg _ h)
 unfold nK uQ
 have na:=aq5 f
 have nd:=aq4 (dOf f)
 have a1:=bo6 false f
 have a2:=af9 false f
 have a3:=ay8 false f
 have a4:=av1 false f
 have a5:=bb3 false f
 have l1:f.inks.length<=100000:=by have:=g.i6;omega
 have l2:f.reigns.length<=100000:=by have:=g.r8;omega
 have n1:=iI f.inks
 have n2:=lS f.inks
 have n3:=lU f.reigns
 have n4:=lQ f.reigns
 have z1:=lL false f.inks
 have e1:=cl0 false false f.names
 have e2:=ch0 false true f.inks
 have e3:=ch3 false true f.reigns
 have c1:∀x1:Option T,dF (aQ 6) cY (oC (aE (dJ (aJ bW (aF 6) (dC (.int 0)))) (aE (dJ (aJ bW (aF 6) (dC (.int 1)))) aO))) [some (gU false f),x1,none,none,none,none,none,none] (f.inks.map rK)=.ok (f.inks.map (dD false)):=λx1=>
  fA λp hp=>by
   have b0:=λa b=>tJ (α:=T) a [b]
   have b1:=λa b=>wK (α:=T) a b []
   simp only[rK,dD]
   clear e1 e2 e3 a1 a2 a3 a4 a5 q1 hg
   walk_at "ev"
 have c2:∀x1 x2:Option T,dF (aQ 7) cY (dX nJ (aE (aF 7) aO)) [some (gU false f),x1,x2,none,none,none,none,none] (f.reigns.map sF)=.ok (f.reigns.map gW):=λx1 x2=>
  fA λp hp=>by
   simp only[sF,gW]
   clear e1 e2 e3 a1 a2 a3 a4 a5 q1 hg c1
   walk_at "ev"
 have b0:=λa b c e=>tJ (α:=T) a [b,c,e]
 have b1:=λa b c e=>wK (α:=T) a b [c,e]
 have b2:=λa b c e=>ix2 (α:=T) a b c [e]
 have b3:=λa b c e=>ix3 (α:=T) a b c e []
 have p0:=λa b=>tJ (α:=T) a [b]
 have p1:=λa b=>wK (α:=T) a b []
 have hM:∀x1 x2 x3 x4 x5:Option T,mT 2 "table" tm_table (aF 0) (aE (dC (.str "none")) aO) [some (gU false f),x1,x2,x3,x4,x5,none,none]=.ok .non:=λx1 x2 x3 x4 x5=>ap5 rfl rfl q1
 have y1:∀i:Int,(i==i)=true:=λi=>beq_self_eq_true i
 simp only[tU,dOf]at nd⊢
 clear q1
 have g2:=g
 have hg2:=hg
 clear g hg hk
 walk_at "ev"
 generalize hL:jG _ _ _ _=o
 obtain⟨ρ',rfl,o3,o4,o5,rfl⟩:=mY (λi ρ=>∃(o3 o4 o5:Option T),ρ=[some (gU false f),some (tU (dOf f)),some (.lst false (f.inks.map (dD false))),o3,o4,o5,none,none]) hL ⟨none,none,none,rfl⟩ (by
  rintro i t ρ et ⟨o3,o4,o5,rfl⟩
  obtain⟨p,hp,rfl⟩:=ad8 et
  have h1:=e_table g2 hp
  have gp:=hg2 p.1 (List.mem_map_of_mem hp)
  have lp:=galls_ok.2.2.2.2 p.1 gp
  have l60:=(g2.inn p hp).2.l60
  have h2:cV [gU false f,.str (p.1++"q")]=.ok .non:=bv0 λh=>galls_ok.2.2.2.1 p.1 gp (hg2 _ h)
  have a6:p.1.length+("q":Str).length<=sizeLine:=by
   rw[show("q":Str).length=1 by decide+kernel]
   exact fJ (by omega)
  have m1:∀x1 x2 x4 x5:Option T,mT 2 "table" tm_table (aF 0) (aE (aF 3) aO) [some (gU false f),x1,x2,some (.str p.1),x4,x5,none,none]=.ok (.lst true (p.2.map .int)):=λx1 x2 x4 x5=>ap5 rfl rfl h1
  have m2:∀x1 x2 x4 x5:Option T,mT 2 "table" tm_table (aF 0) (aE (aJ bR (aF 3) (dC (.str "q"))) aO) [some (gU false f),x1,x2,some (.str p.1),x4,x5,none,none]=.ok .non:=λx1 x2 x4 x5=>ap5 rfl (by clear h1 h2 m1 hL hM c1 c2;walk_at "ev") h2
  have l3:p.2.length<=100000:=by omega
  have r1:=bc9 true false p.2
  simp only[dD]
  clear hL et g2 hg2 hM c1 c2 e1 e2 e3 h1 h2 a1 a2 a3 a4 a5
  walk_at "ev"
  exact⟨_,_,_,rfl⟩)
 clear g2 hg2 hL
 walk_at "ev"
def parts:List Str:=["years","letters","inks","reigns"]
theorem ac1{bad:List Nat}{j:Nat}(h:j∉bad):(!bad.contains j)=true:=by
 rw[show bad.contains j=false by simpa using h]
 rfl
theorem az7{bad:List Nat}{j:Nat}(h:j∈bad):(!bad.contains j)=false:=by
 rw[show bad.contains j=true by simpa using h]
 rfl
theorem au8{u:T}{d:Dt}{bad:List Nat}(R:Rl u d bad){w:Nat}(h4:w<4)(hw:w∈bad)(hm:∀j,j<w->j∉bad):∃s,parts[w]?=some s/\ckS d=some s:=by
 have four:w=0\/w=1\/w=2\/w=3:=by omega
 unfold ckS
 rw[R.c0,R.c1,R.c2,R.c3]
 rcases four with rfl|rfl|rfl|rfl
 . exact⟨"years",rfl,by rw[az7 hw];rfl⟩
 . exact⟨"letters",rfl,by rw[ac1 (hm 0 (by omega)),az7 hw];rfl⟩
 . exact⟨"inks",rfl,by rw[ac1 (hm 0 (by omega)),ac1 (hm 1 (by omega)),az7 hw];rfl⟩
 . exact⟨"reigns",rfl,by rw[ac1 (hm 0 (by omega)),ac1 (hm 1 (by omega)),ac1 (hm 2 (by omega)),az7 hw];rfl⟩
theorem ay5{u:T}{d:Dt}{bad:List Nat}(R:Rl u d bad):frz u=tU d:=by
 obtain⟨x0,x1,x2,x3,rfl,f0,f1,f2,f3,_⟩:=R.ex
 simp only[frz,frzs,f0,f1,f2,f3,tU]
theorem bi6(l:List (Str×List Int))(h:∀p∈l,p.2.length<=1000):oE (.int 0) (l.map (dD true))=some (l.map λp=>dD true (p.1,p.2++[0])):=by
 induction l with
 |nil=>rfl
 |cons p l ih=>
  have h1:(p.2.map T.int).length<sizeLine:=by rw[List.length_map];exact xV (by have:=h p List.mem_cons_self;omega)
  simp only[List.map_cons,dD,oE]
  rw[if_pos h1]
  have ih:=ih λq hq=>h q (List.mem_cons_of_mem _ hq)
  simp only[dD]at ih
  rw[ih]
  simp only[Option.map_some,List.map_append,List.map_cons,List.map_nil]
theorem cg1(w:Int):sR [.lst true [.int w]]=.ok (.int w):=ae9 true w []
theorem cb9(w v:Int):sR [.lst true [.int w,.int v]]=.ok (.int (ar4 [w,v])):=ae9 true w [v]
theorem in1(a b:Int):inT true (.int a) (.lst true [.int b])=.ok (.bl (!(b==a))):=by
 have q:jW bV (.int b) (.int a)=some (b==a):=rfl
 simp only[inT,wP,q,Option.bind_some,Option.map_some,List.any_cons,List.any_nil,id,Bool.or_false,if_true]
theorem zL{w:Nat}{s:Str}(h:parts[w]?=some s):atI [T.str "years",.str "letters",.str "inks",.str "reigns"] (w:Int)=some (.str s):=by
 have:(parts.map T.str)[w]?=some (.str s):=by rw[List.getElem?_map,h];rfl
 exact eP this
theorem main(ns:List Int)(h63:ns.length<=63)(hb:∀n∈ns,Builtin.Int.intBits n<=1048576):ai3 [.lst false (ns.map .int)]=.ok (.bl true):=by
 unfold ai3 al8
 obtain⟨ms,hs,_,_⟩:=uR ns h63 hb
 obtain⟨f,hf,m⟩:=cb3 ms
 obtain⟨z,hz,z0⟩:=sJ ms 20
 obtain⟨v,hv,v0⟩:=sJ ms 21
 have cm:=am2 f.inks
 have cm2:=aa2 f.reigns
 have R:=cf5 m
 have d3:gF z 3:=⟨by decide,by decide⟩
 clear hb
 have hu:frz1 (mdT f)=.lst true [.lst false [.int f.first,.int (f.first+f.span)],.lst false (f.names.map .str),.lst false (f.inks.map rK),.lst false (f.reigns.map sF)]:=by
  simp only[mdT,frz1,frzs,frz,nC,xY,yB]
 rw[hu]at R
 simp only[mdT]at hf
 have zI:=xY f.inks
 have zR:=yB f.reigns
 clear hu
 have h03:0<=z%3:=by omega
 by_cases c0:z%3=0
 . have k0:decide (0<z%3)=false:=by rw[c0];rfl
   have g:=m.g
   have hk:=ay4 g
   have hsm:=cx0 m
   have za:=bo0 true f
   have ca:=bv4 f
   have l1:f.inks.length<=100000:=by have:=g.i6;omega
   have l2:f.reigns.length<=100000:=by have:=g.r8;omega
   have l3:f.names.length<=100000:=by have:=g.n8;omega
   have l4:∀p∈f.inks,p.2.length<=1000:=λp hp=>by have:=(g.inn p hp).2.l60;omega
   have n2:=lS f.inks
   have n3:=lU f.reigns
   have z1:=lL true f.inks
   have z2:=rS f.reigns
   have z3:=fO _ n2
   have z4:=fO _ n3
   have ap:=bi6 f.inks l4
   have c1:∀x0 x1 x2 x5:Option T,dF (aQ 11) cY (oC (aE (dJ (aJ bW (aF 11) (dC (.int 0)))) (aE (dX iP (aE (aJ bW (aF 11) (dC (.int 1))) aO)) aO))) [x0,x1,x2,none,none,x5,none,none,none,none,none,none,none] (f.inks.map rK)=.ok (f.inks.map (dD true)):=λx0 x1 x2 x5=>
    fA λp hp=>by
     have b0:=λa b=>tJ (α:=T) a [b]
     have b1:=λa b=>wK (α:=T) a b []
     have:=l4 p hp
     simp only[rK,dD]
     clear hs hf hz hv cm R hk hsm za ca ap l4 m g
     walk_at "ev"
   have c2:∀x0 x1 x2 x5 x6:Option T,dF (aQ 12) cY (dX nJ (aE (aF 12) aO)) [x0,x1,x2,none,none,x5,x6,none,none,none,none,none,none] (f.reigns.map sF)=.ok (f.reigns.map gW):=λx0 x1 x2 x5 x6=>
    fA λp hp=>by
     simp only[sF,gW]
     clear hs hf hz hv cm R hk hsm za ca ap l4 m g c1
     walk_at "ev"
   have b0:=λa b c e=>tJ (α:=T) a [b,c,e]
   have b1:=λa b c e=>wK (α:=T) a b [c,e]
   have b2:=λa b c e=>ix2 (α:=T) a b c [e]
   have b3:=λa b c e=>ix3 (α:=T) a b c e []
   have p0:=λa b=>tJ (α:=T) a [b]
   have p1:=λa b=>wK (α:=T) a b []
   have sf:∀x0 x1 x2 x3 x4 x5 x7 x8 x9 x10 x11 x12:Option T,tX 6 9 10 (.int 0) [x0,x1,x2,x3,x4,x5,some (.lst true (f.inks.map (dD true))),x7,x8,x9,x10,x11,x12]=.nx [x0,x1,x2,x3,x4,x5,some (.lst true (f.inks.map λp=>dD true (p.1,p.2++[0]))),x7,x8,none,none,x11,x12]:=λx0 x1 x2 x3 x4 x5 x7 x8 x9 x10 x11 x12=>by
    unfold tX
    simp only[List.getElem?_cons_succ,List.getElem?_cons_zero,ap]
    rfl
   clear ap
   simp only[tU,dOf]at hsm
   clear R m g l4 c0 h03 hv
   walk_at "ev"
 . have k0:decide (0<z%3)=true:=decide_eq_true (by omega)
   have z30:0<=z/3:=by omega
   obtain⟨w1,hw1⟩:=gB (show 0<=z/3%4 by omega)
   have w14:w1<4:=by omega
   obtain⟨u1,d1,hS,R1⟩:=bo2 R z30 hw1 (by simp)
   clear R m h03
   rw[hw1]at hS
   by_cases c2:z%3=2
   . have k2:(z%3==2)=true:=by rw[c2];rfl
     obtain⟨w2,hw2⟩:=gB (show 0<=v%4 by omega)
     have w24:w2<4:=by omega
     have hi:=in1 (v%4) (w1:Int)
     by_cases e:w1=w2
     . obtain⟨s,hp,hc⟩:=au8 R1 w14 (by simp) (λj hj=>by simp;omega)
       have hx:=xA R1.sz hc
       have hfz:=ay5 R1
       have ha:=zL hp
       have hm:=cg1 (w1:Int)
       have ee:((w1:Int)==v%4)=true:=by rw[hw2,e];simp
       have es:(s==s)=true:=beq_self_eq_true s
       clear R1 hc hp c0 c2 e hw2 hw1
       walk_at "ev"
     . obtain⟨u2,d2,hS2,R2⟩:=bo2 R1 v0 hw2 (by simp;omega)
       have ee:((w1:Int)==v%4)=false:=by rw[hw2];simp;omega
       have hm:sR [.lst true [.int (w1:Int),.int (v%4)]]=.ok (.int ((if w2<w1 then w2 else w1:Nat):Int)):=by
        rw[hw2,cb9]
        simp only[ar4,List.foldl_cons,List.foldl_nil]
        by_cases q:w2<w1
        . rw[if_pos q,if_pos (by omega)]
        . rw[if_neg q,if_neg (by omega)]
       obtain⟨s,hp,hc⟩:=au8 R2 (w:=if w2<w1 then w2 else w1) (by split<;>omega) (by split<;>simp) (λj hj=>by
        split at hj<;>(simp;omega))
       have hx:=xA R2.sz hc
       have hfz:=ay5 R2
       have ha:=zL hp
       have es:(s==s)=true:=beq_self_eq_true s
       clear R1 R2 hc hp c0 c2 e hw2 hw1
       walk_at "ev"
   . have k2:(z%3==2)=false:=by simpa using c2
     obtain⟨s,hp,hc⟩:=au8 R1 w14 (by simp) (λj hj=>by simp;omega)
     have hx:=xA R1.sz hc
     have hfz:=ay5 R1
     have ha:=zL hp
     have hm:=cg1 (w1:Int)
     have es:(s==s)=true:=beq_self_eq_true s
     clear R1 hc hp c0 c2
     walk_at "ev"
end Nk11
namespace PySem.W.Fast
def tw10002477294980511106:=Nat
def tw10023439765353369217:=Nat
def tw10032711959188809524:=Nat
def tw10069352271574360824:=Nat
def tw10078036641289006285:=Nat
def tw10119430523724261546:=Nat
def tw10132432468305129947:=Nat
def tw1017055464147349511:=Nat
def tw10218762185289440472:=Nat
def tw10295203412866659364:=Nat
def tw10367598854515816805:=Nat
def tw10431748264625823502:=Nat
def tw10447334400677633464:=Nat
def tw10483242137939620789:=Nat
def tw10486058887505414357:=Nat
def tw10487598302358806181:=Nat
def tw10500020391684075486:=Nat
def tw10551214484553535091:=Nat
def tw10559634937926918745:=Nat
def tw10617750634242617962:=Nat
def tw10625830297319499444:=Nat
def tw10638505562072631840:=Nat
def tw10666505733762366580:=Nat
def tw10676240883017794955:=Nat
def tw10676565667102628448:=Nat
def tw10816017685876387269:=Nat
def tw10832257776331915370:=Nat
def tw10878728607360917705:=Nat
def tw10938636449568189894:=Nat
def tw10954396319746397816:=Nat
def tw10987497496366951925:=Nat
def tw11076384841099324896:=Nat
def tw11164741179865626533:=Nat
def tw11291099123133702231:=Nat
def tw11339161425389620027:=Nat
def tw11418242758332628975:=Nat
def tw11478093004004428125:=Nat
def tw11522428378693774265:=Nat
def tw11560513711458881048:=Nat
def tw11571632034226027589:=Nat
def tw11595140098034901330:=Nat
def tw11633479667054454040:=Nat
def tw11663971942042618841:=Nat
def tw1171921033733358995:=Nat
def tw11742545693365866927:=Nat
def tw11749306973166098647:=Nat
def tw11751508913850493430:=Nat
def tw1184542900955470378:=Nat
def tw11846484003429782003:=Nat
def tw11850120553579302021:=Nat
def tw11857740986733054415:=Nat
def tw11879290940279790778:=Nat
def tw11914473651178587621:=Nat
def tw1200340824151936288:=Nat
def tw12091213870142480251:=Nat
def tw12190922854026178034:=Nat
def tw12229122975929479024:=Nat
def tw12276120022188103582:=Nat
def tw12337838537741458576:=Nat
def tw12461594026298743197:=Nat
def tw12511516516668227216:=Nat
def tw12525866882037783701:=Nat
def tw12526142518818588362:=Nat
def tw12636337144813355273:=Nat
def tw12645079154249174547:=Nat
def tw12684029317949357684:=Nat
def tw12774971192834567843:=Nat
def tw12798595773525817625:=Nat
def tw1299231631448361203:=Nat
def tw13031332343603036535:=Nat
def tw13033585257534552066:=Nat
def tw13078984689509224246:=Nat
def tw13100297589449163838:=Nat
def tw13105840314508144910:=Nat
def tw13143638431698608071:=Nat
def tw13157487870128871529:=Nat
def tw13164263715533026704:=Nat
def tw13186381993970432486:=Nat
def tw13224112578054447554:=Nat
def tw13332136271605460862:=Nat
def tw13334385610059573012:=Nat
def tw13334550946091537551:=Nat
def tw13340196970138440980:=Nat
def tw13375118951959244106:=Nat
def tw1339480932403981108:=Nat
def tw13423975117565226495:=Nat
def tw13436995141443247765:=Nat
def tw13478124535379096692:=Nat
def tw13478982119670703630:=Nat
def tw13519238550625494613:=Nat
def tw13560618502890479637:=Nat
def tw13586062034141750149:=Nat
def tw13587659564992589333:=Nat
def tw13601829075190638124:=Nat
def tw13642024366965297713:=Nat
def tw13646804253512741712:=Nat
def tw13673204349013942417:=Nat
def tw13773333725336300350:=Nat
def tw13776177005228718545:=Nat
def tw13846868310242454784:=Nat
def tw13853720451661484444:=Nat
def tw13857268425137204512:=Nat
def tw13871579365364456189:=Nat
def tw13918224757654625129:=Nat
def tw13940538134906929381:=Nat
def tw13961535827195170626:=Nat
def tw13962148257914277802:=Nat
def tw14037006561885644661:=Nat
def tw14051343813332425045:=Nat
def tw14078769619161440677:=Nat
def tw14168152143141674757:=Nat
def tw14224257680213960135:=Nat
def tw14288898038218376919:=Nat
def tw14313332452726381721:=Nat
def tw14486375899122369022:=Nat
def tw14517259116002729995:=Nat
def tw14543717403740254211:=Nat
def tw14559926273576456137:=Nat
def tw14626198667619524448:=Nat
def tw14720607685923862217:=Nat
def tw14757501871244011815:=Nat
def tw14793001846517163392:=Nat
def tw14836287390712499437:=Nat
def tw14851288888965936328:=Nat
def tw14860199824555005235:=Nat
def tw14907923528344301216:=Nat
def tw14943784852700010893:=Nat
def tw15018082015022024812:=Nat
def tw15088587315469511030:=Nat
def tw15150396332216066042:=Nat
def tw1518325394495179004:=Nat
def tw15256381700428311446:=Nat
def tw15313156135736305806:=Nat
def tw1531754173044444624:=Nat
def tw15375324941670188745:=Nat
def tw15495985411041331327:=Nat
def tw15532928900516573632:=Nat
def tw15549510416956185899:=Nat
def tw15570563674369182541:=Nat
def tw15591960374295465884:=Nat
def tw15600850035064711297:=Nat
def tw15616313410618974563:=Nat
def tw15624948117151632535:=Nat
def tw15653450258433936922:=Nat
def tw15670774122982443888:=Nat
def tw1572615831651118632:=Nat
def tw15742799201946136972:=Nat
def tw15762040480754113394:=Nat
def tw15820793635981192114:=Nat
def tw15846148441383542578:=Nat
def tw15867211065127522236:=Nat
def tw15923396509645079426:=Nat
def tw15929575969698987954:=Nat
def tw15968507462641027841:=Nat
def tw16041681780829004750:=Nat
def tw16081961171750083249:=Nat
def tw16149354122566748280:=Nat
def tw16161906440315458656:=Nat
def tw16172581621877236800:=Nat
def tw16226048162749004430:=Nat
def tw16267900393882955720:=Nat
def tw16311915036316390788:=Nat
def tw16335498107160409364:=Nat
def tw16357835037815528610:=Nat
def tw1637457283433711694:=Nat
def tw16377423923006019686:=Nat
def tw1638397633589352929:=Nat
def tw1644250526280387770:=Nat
def tw16511507170842481735:=Nat
def tw16543628432248612295:=Nat
def tw16562835195673215872:=Nat
def tw16573054847310814393:=Nat
def tw1661628161350626944:=Nat
def tw16655393519462335208:=Nat
def tw16680831471194882196:=Nat
def tw16724691718221444211:=Nat
def tw167802828061185896:=Nat
def tw16782040111275175793:=Nat
def tw16789996613079350379:=Nat
def tw16803473458944986708:=Nat
def tw16896301184282291853:=Nat
def tw16941893738809558324:=Nat
def tw1697033605819214229:=Nat
def tw17006543557448773281:=Nat
def tw17010517207093657897:=Nat
def tw17028166850590234588:=Nat
def tw17078439381094477921:=Nat
def tw17088434770809630647:=Nat
def tw17088454188337950673:=Nat
def tw17131875089301933515:=Nat
def tw17133230581733386945:=Nat
def tw17145231164496125238:=Nat
def tw17189088171553588677:=Nat
def tw17190794753352377695:=Nat
def tw173333922081702264:=Nat
def tw17494046427166397342:=Nat
def tw17531230626697216226:=Nat
def tw17609158141625387991:=Nat
def tw17636837015183565068:=Nat
def tw17637395102883021078:=Nat
def tw17689602576396313392:=Nat
def tw1770436391778847566:=Nat
def tw17802677274002967696:=Nat
def tw17818458291029431076:=Nat
def tw17827256018994806905:=Nat
def tw1785049553935328873:=Nat
def tw17879074601028669741:=Nat
def tw17905559707296259042:=Nat
def tw17950922788347024942:=Nat
def tw1796799940815758809:=Nat
def tw18018899615875789312:=Nat
def tw18020558584926662093:=Nat
def tw18059341370506173257:=Nat
def tw18073634964935033065:=Nat
def tw18080320776931924597:=Nat
def tw18118777313161375736:=Nat
def tw1817955491918204212:=Nat
def tw1818546865998384226:=Nat
def tw18316171443344929049:=Nat
def tw18334906173138560450:=Nat
def tw183418861414871604:=Nat
def tw18363983001596589696:=Nat
def tw18382003274231090801:=Nat
def tw1881318846177529324:=Nat
def tw1934957625550734938:=Nat
def tw1956776066866573983:=Nat
def tw1965931262759716104:=Nat
def tw2038281899347399517:=Nat
def tw206243148748304058:=Nat
def tw2168841884606293173:=Nat
def tw2217916946264209793:=Nat
def tw2247634441190927971:=Nat
def tw2312774381308574676:=Nat
def tw2338116123168493410:=Nat
def tw236224627937122368:=Nat
def tw2382416369067365714:=Nat
def tw2384592539096056526:=Nat
def tw2452885411368473593:=Nat
def tw2486381079669625075:=Nat
def tw2511283938680744259:=Nat
def tw2520232862365776248:=Nat
def tw2535764647061287060:=Nat
def tw2559979546995057428:=Nat
def tw257240835019082621:=Nat
def tw2589800678357620808:=Nat
def tw259056777680037502:=Nat
def tw2604836882958858515:=Nat
def tw2623515564338682451:=Nat
def tw2632929577588739120:=Nat
def tw2637738771342152343:=Nat
def tw2639988184532206675:=Nat
def tw2665781302802551023:=Nat
def tw2693156453669822535:=Nat
def tw2703399872560475625:=Nat
def tw2933219103441834885:=Nat
def tw2953627030712360540:=Nat
def tw2976717703419939527:=Nat
def tw3095470816136765029:=Nat
def tw3101456272338483491:=Nat
def tw3166196478651417216:=Nat
def tw3169814649020349118:=Nat
def tw3176538342518190941:=Nat
def tw325718204106201299:=Nat
def tw3261215519325892783:=Nat
def tw3372806671104220725:=Nat
def tw341568104255869134:=Nat
def tw3430955460327011048:=Nat
def tw3440609851275488027:=Nat
def tw3474398449467599044:=Nat
def tw3517901509122874681:=Nat
def tw360562461640905764:=Nat
def tw3641944155020097770:=Nat
def tw3657191104801149598:=Nat
def tw3709502327005353896:=Nat
def tw3817543020601606454:=Nat
def tw3919114814860891014:=Nat
def tw3953450244605742802:=Nat
def tw397736139632357505:=Nat
def tw4014833711103440032:=Nat
def tw4040725392118134083:=Nat
def tw4058809765656812642:=Nat
def tw4239477557460539375:=Nat
def tw4267210057211531719:=Nat
def tw4306448880781060573:=Nat
def tw4306498169354818126:=Nat
def tw4320506744382939605:=Nat
def tw4321085967637973928:=Nat
def tw4348887873314899377:=Nat
def tw4349960160405488333:=Nat
def tw4391520290718051070:=Nat
def tw4516710228167624335:=Nat
def tw4555769593613034620:=Nat
def tw4564954955944437637:=Nat
def tw456687467688814592:=Nat
def tw4756128733277190235:=Nat
def tw4794559551105883992:=Nat
def tw4796927705125788984:=Nat
def tw4855132184707335453:=Nat
def tw4882570457546149072:=Nat
def tw489649883906503280:=Nat
def tw4900373089060083323:=Nat
def tw4936462921653909490:=Nat
def tw4956852964810397862:=Nat
def tw4963902714344469453:=Nat
def tw5031270511590765086:=Nat
def tw5034168224391411480:=Nat
def tw5074243567311982920:=Nat
def tw5097064454625243156:=Nat
def tw5200333824792507393:=Nat
def tw5211058695493093768:=Nat
def tw5277883318611630105:=Nat
def tw5282417635326793252:=Nat
def tw5294560328334959922:=Nat
def tw5379223948729805113:=Nat
def tw5440213434326095456:=Nat
def tw5493149946696458755:=Nat
def tw5603056282831168691:=Nat
def tw5617116107792282237:=Nat
def tw5627187570137148433:=Nat
def tw564671440909847643:=Nat
def tw566908805272469989:=Nat
def tw5684938775131141783:=Nat
def tw5815778579976143286:=Nat
def tw5831224898630158799:=Nat
def tw5832195935880682931:=Nat
def tw5853707300790154242:=Nat
def tw5870378359476295896:=Nat
def tw5972707660960896443:=Nat
def tw6004478813418495112:=Nat
def tw6048175769445711396:=Nat
def tw6098224107005696216:=Nat
def tw6173787256760927570:=Nat
def tw6270316983500493585:=Nat
def tw6285211337390082549:=Nat
def tw6327555076580670754:=Nat
def tw6341290280019141065:=Nat
def tw6342912119450259160:=Nat
def tw6348171376852369172:=Nat
def tw6359057757814367547:=Nat
def tw6361439878515958334:=Nat
def tw6390184688273403387:=Nat
def tw6462322854302872532:=Nat
def tw6495762699069881878:=Nat
def tw6513485780996269905:=Nat
def tw6520505653197713025:=Nat
def tw652919871720828587:=Nat
def tw6580892154727892603:=Nat
def tw6638274491133314185:=Nat
def tw6646806765576319699:=Nat
def tw670766497226547689:=Nat
def tw6719263812936970469:=Nat
def tw67282148223969285:=Nat
def tw6733491848650583354:=Nat
def tw678140865469766374:=Nat
def tw6782628148392989186:=Nat
def tw6824168410092183165:=Nat
def tw6837049476178885689:=Nat
def tw6938617603809608768:=Nat
def tw6942137776156890513:=Nat
def tw7035505820838161875:=Nat
def tw7087302674929678856:=Nat
def tw7095706759252054055:=Nat
def tw7191080762645130753:=Nat
def tw7444007302947516300:=Nat
def tw7459740891103345747:=Nat
def tw7475623491944187726:=Nat
def tw7484421579888440760:=Nat
def tw748924732546867482:=Nat
def tw750288084713911276:=Nat
def tw767865445524485014:=Nat
def tw7717147677904737849:=Nat
def tw7748553324287270092:=Nat
def tw7930749748733243530:=Nat
def tw7970224363572180727:=Nat
def tw7983155835857646959:=Nat
def tw7991906690053387950:=Nat
def tw8054602305132752076:=Nat
def tw8110473074500939623:=Nat
def tw8168934915925858222:=Nat
def tw8180981683429761167:=Nat
def tw8191232574082740736:=Nat
def tw8239623661595902540:=Nat
def tw8243838191259039550:=Nat
def tw8390428457622910254:=Nat
def tw8421197251697224225:=Nat
def tw8455290219432876195:=Nat
def tw8538704996960165878:=Nat
def tw8661719000274020049:=Nat
def tw8736478537314725575:=Nat
def tw8755925708964145042:=Nat
def tw880763351590806061:=Nat
def tw889329356082408657:=Nat
def tw8912261577993369493:=Nat
def tw8927512679541021321:=Nat
def tw8978326015691330638:=Nat
def tw8993504869037539315:=Nat
def tw9028403538915905327:=Nat
def tw9044988250644638667:=Nat
def tw9230669401966060769:=Nat
def tw9240036329078768832:=Nat
def tw9246545049696693637:=Nat
def tw9295242049014776670:=Nat
def tw9358137290432710144:=Nat
def tw9370798872194780292:=Nat
def tw9429848999526734274:=Nat
def tw943030630414870031:=Nat
def tw9473363598786155587:=Nat
def tw9493907020925538127:=Nat
def tw9664156189150128659:=Nat
def tw9765697944952422069:=Nat
def tw9838930581619604675:=Nat
def tw9895003251440795099:=Nat
def tw9947797447920976303:=Nat
def tw9960677625426574806:=Nat
end PySem.W.Fast
open PySem PySem.W PyProof.Rows
set_option maxRecDepth 100000 in
set_option maxHeartbeats 0 in
theorem PySem.Challenge.cw_inkyears_k11_archives_made_holds : PySem.Challenge.rw_inkyears_k11_archives_made.Holds := by
 w_on;o_law;k_head;(case hw=>w_witness2)
 k_fill
 refine L2.bi4 (l:=PySem.Challenge.rw_inkyears_k11_archives_made) (k:=9) (x:="_law_script") rfl rfl ⟨rfl,by decide,by decide⟩ (λw h Y=>PySem.W.kIn_of Y) ?F
 case F=>
  intro w mg fa h KX G hmg
  refine' Nk11.cb4 (cn:=λx=>[(("Archive":Str),?c_Archive),(("BadArchive":Str),?c_BadArchive)].lookup x) (c_Archive:=?c_Archive) (c_BadArchive:=?c_BadArchive) (c_ArchiveError:=?c_ArchiveError) (c_BadSaying:=?c_BadSaying) (c_NoAge:=?c_NoAge) (c_Stuck:=?c_Stuck) (c_NoYear:=?c_NoYear) (c_NoGap:=?c_NoGap) (c_TooMany:=?c_TooMany) (c_NoNumber:=?c_NoNumber) (c_NoDating:=?c_NoDating) (c_BadRow:=?c_BadRow) (c_NoRow:=?c_NoRow) (c_NoName:=?c_NoName) KX G hmg ?a0 ?l0 ?c0 ?k0 ⟨?T0,?T1,?T2,?T3,?T4,?T5,?T6,?T7,?T8,?T9,?T10,?T11,?T12,?T13,?T14,?T15,?T16,?T17,?T18,?T19,?T20,?T21,?T22,?T23,?T24,?T25,?T26,?T27,?T28,?T29,?T30,?T31,?T32,?T33,?T34,?T35,?T36,?T37,?T38,?T39,?T40,?T41,?T42,?T43,?T44,?T45,?T46,?T47,?T48,?T49,?T50,?T51,?T52,?T53,?T54,?T55,?T56,?T57,?T58,?T59,?T60,?T61,?T62,?T63,?T64,?T65,?T66,?T67,?T68,?T69,?T70,?T71,?T72,?T73,?T74,?T75,?T76,?T77⟩ ?t0 ?t1 ?t2 ?t3 ?t4 ?t5 ?t6 ?t7 ?t8 ?t9 ?t10 ?t11 ?t12 ?t13 ?t14 ?t15 ?t16 ?t17 ?t18 ?t19 ?t20 ?t21 ?t22 ?t23 ?t24 ?t25 ?t26 Nk11.main
  (case a0=>k_is);(case l0=>k_is);(case c0=>k_is);(case k0=>k_is)
  all_goals try(refine' L2.cl1 KX G ?a ?l ?c ?k;(case a=>k_is);(case l=>k_is);(case c=>k_is);(case k=>k_is))
  all_goals try(refine' L2.bi9 KX G ?g ?mk ?a ?b ?kc ?l ?c ?k;(case g=>k_is);(case mk=>k_is);(case a=>k_is);(case b=>k_is);(case kc=>k_is);(case l=>k_is);(case c=>k_is);(case k=>k_is))
  all_goals try(refine' L2.bd9 ?a ?b ?l ?c ?k;(case a=>k_is);(case b=>k_is);(case l=>k_is);(case c=>k_is);(case k=>k_is))
  all_goals try exact PySem.W.mg_none_of KX G (by k_is)
  all_goals try(refine' L2.cj3 KX G ?a ?r;(case a=>k_is);(case r=>exact⟨_,rfl⟩))
  all_goals try exact L2.cy1 KX G (by k_is)
  all_goals try(refine' L2.bb9 KX G ?gl ?eg ?sa ?no ?kc ?ia ?ib ?il ?ic ?ik;(case gl=>k_is);(case eg=>(refine' L2.aj7 ?a ?b ?c ?d ?e ?f ?g ?h;(case a=>with_unfolding_all rfl);(case b=>rfl);(case c=>k_is);(case d=>k_is);(case e=>k_is);(case f=>k_is);(case g=>k_is);(case h=>k_is)));(case sa=>k_is);(case no=>k_is);(case kc=>k_is);(case ia=>k_is);(case ib=>k_is);(case il=>k_is);(case ic=>k_is);(case ik=>k_is))
  all_goals try(refine' L2.bt9 KX G ?gl ?b ?t;(case gl=>k_is);(case b=>k_is);(case t=>k_is))
  case T25=>rfl
  case T32=>rfl
  all_goals try(refine' L2.aj7 ?a ?b ?c ?d ?e ?f ?g ?h;(case a=>with_unfolding_all rfl);(case b=>rfl);(case c=>k_is);(case d=>k_is);(case e=>k_is);(case f=>k_is);(case g=>k_is);(case h=>k_is))
  all_goals try(refine' L2.ck1 ?a ?b ?c ?d;(case a=>k_is);(case b=>k_is);(case c=>k_is);(case d=>k_is))
  all_goals try exact L2.bk3 (by k_is)
  all_goals try exact L2.cd6 (by k_is)
  all_goals try exact L2.bb8 (by rfl)
  all_goals try exact L2.bm8 (by rfl)
