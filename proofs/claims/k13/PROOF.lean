import PyProof.Rows.All
import Wide.All
import OpenK.AllK
import Wide.FinOn
import Lean
import PyProof.EqAt
import PyProof.EqKinds
import PyProof.TupleCall
import PyProof.NeKinds
import PyProof.ZipIter
import PyProof.EnumMake
import PyProof.Rows.ZipGen
import PyProof.Rows.SetFrom
import PyProof.IsiNone
import KE.KRevSl
import PyProof.Rows.ListMul
import PyProof.ListRange
import PyProof.Rows.SumAny
import PyProof.InstStoreFacts
import PyProof.ExcBaseAll.ValueError
import PyProof.ExcInit
import PyProof.ExcArgsOwn
import KE.KIsAll
import PySem.Challenge.RW_inkyears_k13_sayings_refused
set_option Elab.async false
set_option compiler.extract_closed false
set_option linter.all false
set_option maxRecDepth 100000
set_option maxHeartbeats 4000000

namespace L2
open PySem PySem.Spec PyProof.Rows
abbrev oU:=Sum Int Str
def bp1:oU->Value->Bool
 |.inl k,v=>Value.isInt k v
 |.inr x,v=>Value.isStrOf x v
def ex4(w:World):oU->Int
 |.inl k=>hashInt k
 |.inr x=>hashStr w x
theorem gW:∀{k:oU}{v:Value},bp1 k v=true->(∃i t,k=Sum.inl i/\v=Value.int i t)\/(∃x t,k=Sum.inr x/\v=Value.str x t)
 |.inl i,v,h=>by obtain⟨t,e⟩:=Value.isInt_shape (k:=i) (v:=v) h;exact .inl ⟨i,t,rfl,e⟩
 |.inr x,v,h=>by obtain⟨t,e⟩:=Value.isStrOf_shape (x:=x) (v:=v) h;exact .inr ⟨x,t,rfl,e⟩
theorem cf3(x:Str)(t:Tok):bp1 (.inr x) (.str x t)=true:=by simp[bp1,Value.isStrOf]
theorem dh8(a b:Int):decide ((Sum.inl a:oU)=Sum.inl b)=(a==b):=by
 by_cases e:a=b
 . subst e;simp
 . have h:¬(Sum.inl a:oU)=Sum.inl b:=λq=>e (Sum.inl.inj q);rw[decide_eq_false h];exact(beq_eq_false_iff_ne.mpr e).symm
theorem do7(a b:Str):decide ((Sum.inr a:oU)=Sum.inr b)=decide (a=b):=by
 by_cases e:a=b
 . subst e;simp
 . have h:¬(Sum.inr a:oU)=Sum.inr b:=λq=>e (Sum.inr.inj q);rw[decide_eq_false h,decide_eq_false e]
theorem dl5(a:Int)(b:Str):decide ((Sum.inl a:oU)=Sum.inr b)=false:=decide_eq_false (λq=>nomatch q)
theorem dr5(a:Str)(b:Int):decide ((Sum.inr a:oU)=Sum.inl b)=false:=decide_eq_false (λq=>nomatch q)
def sD(prog:Program)(w:World):PySem.KeyKind prog w oU where
 is:=bp1
 hash:=ex4 w
 inj:=λv a b ha hb=>by
  rcases gW ha with⟨i,t,rfl,rfl⟩|⟨x,t,rfl,rfl⟩
  . rcases gW hb with⟨j,u,rfl,e⟩|⟨y,u,rfl,e⟩
    . injection e with e1 _;rw[e1]
    . exact nomatch e
  . rcases gW hb with⟨j,u,rfl,e⟩|⟨y,u,rfl,e⟩
    . exact nomatch e
    . injection e with e1 _;rw[e1]
 byValue:=λk v h=>by
  rcases gW h with⟨i,t,rfl,rfl⟩|⟨x,t,rfl,rfl⟩<;>rfl
 pyHash:=λhv h=>by
  rcases gW hv with⟨i,t,rfl,rfl⟩|⟨x,t,rfl,rfl⟩
  . exact wpAny_pyHash_int h
  . exact wpAny_pyHash_str h
 eqBool:=λhu hv h=>by
  rcases gW hu with⟨i,t,rfl,rfl⟩|⟨x,t,rfl,rfl⟩
  . rcases gW hv with⟨j,u,rfl,rfl⟩|⟨y,u,rfl,rfl⟩
    . rw[dh8]at h;exact wpAny_eqBool_int h
    . rw[dl5]at h;exact SeqAt.EqAt.int_str i t y u _ _ _ _ h
  . rcases gW hv with⟨j,u,rfl,rfl⟩|⟨y,u,rfl,rfl⟩
    . rw[dr5]at h;exact SeqAt.EqAt.str_int x t j u _ _ _ _ h
    . rw[do7]at h;exact wpAny_eqBool_str h
 «strs»:=λk x t v h=>by
  rcases gW h with⟨i,u,rfl,e⟩|⟨y,u,rfl,e⟩
  . exact nomatch e
  . injection e with e1 _
    subst e1
    cases v<;>rfl
theorem am3(prog:Program)(w:World)(x:Str)(t:Tok):(sD prog w).is (.inr x) (.str x t)=true:=cf3 x t
end L2
namespace L2
open PySem PySem.Spec PyProof.Rows
inductive V where
 |non|bl (b:Bool)|int (i:Int)|str (x:Str)|byt (b:Array UInt8)|flt (b:UInt64)|ref (a:Addr)|ty (n:String)
 deriving DecidableEq
def RelV:V->Value->Prop
 |.non,u=>u=Value.none
 |.bl b,u=>u=Value.bool b
 |.int i,u=>∃t,u=Value.int i t
 |.str x,u=>∃t,u=Value.str x t
 |.byt b,u=>∃t,u=Value.bytes b t
 |.flt b,u=>∃t,u=Value.float b t
 |.ref a,u=>u=Value.ref a
 |.ty n,u=>u=Value.type n
abbrev Vals:List V->List Value->Prop:=Paired RelV
theorem Vals.length(r:Vals xs us):xs.length=us.length:=Paired.length r
theorem Vals.get:∀{xs:List V}{us:List Value}{i:Nat}{x:V},Vals xs us->xs[i]?=some x->∃u,us[i]?=some u/\RelV x u
 |_,_,_,_,.nil,e=>by simp at e
 |_,_,0,_,.cons r _,e=>by simp at e;subst e;exact⟨_,rfl,r⟩
 |_,_,i+1,x,.cons _ t,e=>by obtain⟨u,h1,h2⟩:=Vals.get (i:=i) (x:=x) t (by simpa using e);exact⟨u,by simpa using h1,h2⟩
theorem Vals.append:∀{xs ys:List V}{us ws:List Value},Vals xs us->Vals ys ws->Vals (xs++ys) (us++ws)
 |_,_,_,_,.nil,s=>s
 |_,_,_,_,.cons r t,s=>.cons r (Vals.append t s)
theorem Vals.take:∀{xs:List V}{us:List Value}(n:Nat),Vals xs us->Vals (xs.take n) (us.take n)
 |_,_,0,_=>.nil
 |_,_,_+1,.nil=>.nil
 |_,_,n+1,.cons r t=>.cons r (Vals.take n t)
theorem Vals.drop:∀{xs:List V}{us:List Value}(n:Nat),Vals xs us->Vals (xs.drop n) (us.drop n)
 |_,_,0,r=>r
 |_,_,_+1,.nil=>.nil
 |_,_,n+1,.cons _ t=>Vals.drop n t
def RelO:Option V->Option Value->Prop
 |some v,some u=>RelV v u
 |none,none=>True
 |_,_=>False
def KV{κ:Type}:List (κ×V)->List (κ×Value)->Prop:=Paired λ(p:κ×V)(q:κ×Value)=>p.1=q.1/\RelV p.2 q.2
def kV:oU->V
 |.inl i=>.int i
 |.inr x=>.str x
inductive HO where
 |lst (xs:List V)
 |tup (xs:List V)
 |dK (kvs:List (oU×V))|dT (kvs:List (List oU×V))
 |set (S:Int->Bool) (n:Nat)
 |ins (C dx:Addr) (fs:List (Str×V))
 |own (x:Addr)
 |xd (fs:List (Str×V))
 |met (f x:Addr)
 |rng (lo hi:Int)
 |frz (o:Obj) (u:HO)
 |tbl (ps:Array Value)
 |ext (φ:Heap->Prop)
abbrev Hp:=Addr->Option HO
def upd(H:Hp)(a:Addr)(o:HO):Hp:=λb=>if b=a then some o else H b
theorem cJ:upd H a o a=some o:=by unfold upd;rw[if_pos rfl]
theorem bA(h:b≠a):upd H a o b=H b:=by unfold upd;rw[if_neg h]
theorem ah5{H:Hp}{a b:Addr}{o u:HO}(h:H a=some o)(h':H b=some u)(d:o≠u):a≠b:=by intro e;subst e;rw[h]at h';exact d (Option.some.inj h')
theorem cU{H:Hp}{a b:Addr}{o:HO}(h:H a=some o)(h':H b=none):a≠b:=by intro e;subst e;rw[h]at h';cases h'
section
variable (P : Program) (w : World)
def ObjOk(H:Hp)(h:Heap)(a:Addr):HO->Prop
 |.lst xs=>xs.length<=sizeLine/\∃(its:List Value)(n:Nat),Vals xs its/\h.get? a=some {cls:=.type "list",data:=.seq its.toArray n}
 |.tup xs=>xs.length<=sizeLine/\∃its:List Value,Vals xs its/\IsTup h a its.toArray
 |.dK kvs=>kvs.length<=sizeLine/\(a==sysModules)=false/\∃vs,KV kvs vs/\h.DictOf (sD P w) a vs
 |.dT kvs=>kvs.length<=sizeLine/\(a==sysModules)=false/\∃xs:List (List oU×Addr×Value),
  Paired (λ(p:List oU×V)(q:List oU×Addr×Value)=>p.1=q.1/\H q.2.1=some (.tup (p.1.map kV))/\RelV p.2 q.2.2) kvs xs/\
  ∃o es ep,h.get? a=some o/\o.ExactDict/\o.data=.dict es ep/\es.toList=xs.map (entryOfKey (tupleKind (sD P w)))/\(xs.map (·.1)).Nodup
 |.set S n=>h.SetOf (intKind P w) a S n
 |.ins C dx fs=>H dx=some (.own a)/\fs.length<=1000/\dx≠a/\h.get? a=some (PySem.W.instObj C dx)/\
  ∃mA,h.Ns1 dx mA/\(∀f,RelO (fs.lookup f) (mA f))/\PySem.Within mA (fs.map (·.1))
 |.own _=>∃o,h.get? a=some o
 |.xd fs=>∃mA,h.Ns1 a mA/\∀f,RelO (fs.lookup f) (mA f)
 |.rng lo hi=>∃t u v,h.get? a=some {cls:=.type "range",data:=.fields #[.int lo t,.int hi u,.int 1 v]}
 |.frz o u=>h.get? a=some o/\ObjOk H h a u
 |.tbl ps=>h.get? a=some {cls:=.none,data:=.fields ps}
 |.met f x=>h.get? a=some (PySem.W.methodObj (.ref f) (.ref x))
 |.ext φ=>φ h/\(∃o,h.get? a=some o)/\∀h1 h2:Heap,φ h1->(∀o,h1.get? a=some o->h2.get? a=some o)->φ h2
def HOk(H:Hp)(h:Heap):Prop:=∀a o,H a=some o->ObjOk P w H h a o
end
section
variable {P : Program} {w : World} {H H' : Hp} {h h' : Heap} {a : Addr} {o : HO}
theorem ObjOk.lt(x:ObjOk P w H h a o):a<h.objs.size:=by
 cases o with
 |lst xs=>obtain⟨_,_,_,_,e⟩:=x;exact Heap.lt_size e
 |tup xs=>obtain⟨_,_,_,p⟩:=x;exact p.lt
 |dK kvs=>obtain⟨_,_,_,_,o,_,_,e,_⟩:=x;exact Heap.lt_size e
 |dT kvs=>obtain⟨_,_,_,_,o,_,_,e,_⟩:=x;exact Heap.lt_size e
 |set S n=>obtain⟨o,_,_,_,e,_⟩:=x;exact Heap.lt_size e
 |ins C dx fs=>obtain⟨_,_,_,e,_⟩:=x;exact Heap.lt_size e
 |own y=>obtain⟨_,e⟩:=x;exact Heap.lt_size e
 |xd fs=>obtain⟨_,⟨_,_,_,e,_⟩,_⟩:=x;exact Heap.lt_size e
 |rng lo hi=>obtain⟨_,_,_,e⟩:=x;exact Heap.lt_size e
 |frz ob u=>obtain⟨e,_⟩:=x;exact Heap.lt_size e
 |tbl ps=>exact Heap.lt_size (show h.get? a=some _ from x)
 |met f y=>exact Heap.lt_size (show h.get? a=some _ from x)
 |ext φ=>obtain⟨_,⟨_,e⟩,_⟩:=x;exact Heap.lt_size e
theorem Paired.mapP:∀{l₁:List α}{l₂:List β},Paired F l₁ l₂->(∀a b,F a b->G a b)->Paired G l₁ l₂
 |_,_,.nil,_=>.nil
 |_,_,.cons r t,f=>.cons (f _ _ r) (Paired.mapP t f)
theorem ObjOk.stay(x:ObjOk P w H h a o)(k:∀b u,(b=a\/H b=some (.own a))->h.get? b=some u->h'.get? b=some u)
 (ho:∀b,H b=some (.own a)->H' b=some (.own a))(ht:∀b xs,H b=some (.tup xs)->H' b=some (.tup xs)):ObjOk P w H' h' a o:=by
 induction o with
 |lst xs=>obtain⟨z,its,n,r,e⟩:=x;exact⟨z,its,n,r,k _ _ (.inl rfl) e⟩
 |tup xs=>obtain⟨z,its,r,ob,e,c⟩:=x;exact⟨z,its,r,ob,k _ _ (.inl rfl) e,c⟩
 |dK kvs=>obtain⟨z,y,vs,r,ob,es,ep,e,c⟩:=x;exact⟨z,y,vs,r,ob,es,ep,k _ _ (.inl rfl) e,c⟩
 |dT kvs=>obtain⟨z,y,xs,r,ob,es,ep,e,c⟩:=x;exact⟨z,y,xs,Paired.mapP r λp q z=>⟨z.1,ht _ _ z.2.1,z.2.2⟩,ob,es,ep,k _ _ (.inl rfl) e,c⟩
 |set S n=>obtain⟨ob,es,ep,t,e,c⟩:=x;exact⟨ob,es,ep,t,k _ _ (.inl rfl) e,c⟩
 |ins C dx fs=>obtain⟨d,z,ne,e,mA,⟨od,es,ep,e2,c⟩,r⟩:=x;exact⟨ho _ d,z,ne,k _ _ (.inl rfl) e,mA,⟨od,es,ep,k _ _ (.inr d) e2,c⟩,r⟩
 |own y=>obtain⟨ob,e⟩:=x;exact⟨ob,k _ _ (.inl rfl) e⟩
 |xd fs=>obtain⟨mA,⟨od,es,ep,e,c⟩,r⟩:=x;exact⟨mA,⟨od,es,ep,k _ _ (.inl rfl) e,c⟩,r⟩
 |rng lo hi=>obtain⟨t,u,v,e⟩:=x;exact⟨t,u,v,k _ _ (.inl rfl) e⟩
 |frz ob u ih=>obtain⟨e,q⟩:=x;exact⟨k _ _ (.inl rfl) e,ih q⟩
 |tbl ps=>have e:h.get? a=some {cls:=.none,data:=.fields ps}:=x;show h'.get? a=some {cls:=.none,data:=.fields ps};exact k a _ (.inl rfl) e
 |met f y=>have e:h.get? a=some (PySem.W.methodObj (.ref f) (.ref y)):=x;show h'.get? a=some (PySem.W.methodObj (.ref f) (.ref y));exact k a _ (.inl rfl) e
 |ext φ=>obtain⟨p,⟨o,e⟩,st⟩:=x;exact⟨st _ _ p λo q=>k _ _ (.inl rfl) q,⟨o,k _ _ (.inl rfl) e⟩,st⟩
theorem HOk.lt(x:HOk P w H h)(e:H a=some o):a<h.objs.size:=(x a o e).lt
theorem HOk.fresh(x:HOk P w H h)(e:h.objs.size<=a):H a=none:=by
 cases q:H a with
 |none=>rfl
 |some u=>exact absurd (Nat.lt_of_lt_of_le (x.lt q) e) (Nat.lt_irrefl _)
theorem HOk.kept(x:HOk P w H h)(k:∀b u,h.get? b=some u->h'.get? b=some u):HOk P w H h':=λa o e=>
 (x a o e).stay (λb u _ q=>k b u q) (λ_ q=>q) λ_ _ q=>q
theorem HOk.laid(x:HOk P w H h)(k:∀b u,h.get? b=some u->h'.get? b=some u)(hp:h.objs.size<=a)(new:ObjOk P w (upd H a o) h' a o):HOk P w (upd H a o) h':=λb u e=>by
 have hn:=x.fresh hp;by_cases hb:b=a
 . subst hb;rw[cJ]at e;cases e;exact new
 . rw[bA hb]at e;exact(x b u e).stay (λc v _ q=>k c v q) (λc q=>by rw[bA (cU q hn)];exact q) λc xs q=>by rw[bA (cU q hn)];exact q
end
def Rd(H:Hp)(a:Addr)(u:HO):Prop:=H a=some u\/∃o,H a=some (.frz o u)
theorem Rd.ok(r:Rd H a u)(x:HOk P w H h):ObjOk P w H h a u:=by
 rcases r with r|⟨o,r⟩
 . exact x a u r
 . obtain⟨_,q⟩:=x a _ r;exact q
def Mut:Option HO->Prop
 |some (.lst _)=>True
 |some (.dK _)=>True
 |some (.dT _)=>True
 |some (.set _ _)=>True
 |some (.ins _ _ _)=>True
 |some (.ext _)=>True
 |_=>False
section
variable {P : Program} {w : World} {H : Hp} {h h' : Heap} {x e : Addr} {o' : HO}
theorem HOk.write(ok:HOk P w H h)(mu:Mut (H x))(he:e=x\/H e=some (.own x))(k:∀b u,b≠e->h.get? b=some u->h'.get? b=some u)(heo:∃u,h'.get? e=some u)
 (new:ObjOk P w (upd H x o') h' x o'):HOk P w (upd H x o') h':=λb u q=>by
 have nown:∀c y,H c=some (.own y)->c≠x:=λc y r z=>by subst z;rw[r]at mu;exact mu
 have ntup:∀c xs,H c=some (.tup xs)->c≠x:=λc xs r z=>by subst z;rw[r]at mu;exact mu
 by_cases hb:b=x
 . subst hb;rw[cJ]at q;cases q;exact new
 . rw[bA hb]at q;by_cases hbe:b=e
   . have q':H b=some (.own x):=by
      rcases he with z|z
      . exact absurd (hbe.trans z) hb
      . rw[hbe];exact z
     rw[q]at q';cases q';obtain⟨v,hv⟩:=heo;exact⟨v,by rw[hbe];exact hv⟩
   . refine(ok b u q).stay (λc v hc r=>k c v ?_ r) (λc r=>by rw[bA (nown c b r)];exact r) λc xs r=>by rw[bA (ntup c xs r)];exact r
     rcases hc with rfl|hc
     . exact hbe
     . rintro rfl;rcases he with z|z
       . exact nown c b hc z
       . rw[hc]at z;cases z;exact hb rfl
end
structure Un (fs ex:List Addr) (H H':Hp) (h h':Heap):Prop where
 keep:∀b o,h.get? b=some o->H b=none->b∉fs->b∉ex->h'.get? b=some o
 slot:∀b o,h.get? b=some o->H b=none->b∈fs->b∉ex->∃sl,h'.get? b=some {o with slots:=sl}
 free:∀b o,h.get? b=some o->H b=none->b∉ex->H' b=none
 there:∀b o,h.get? b=some o->b∉ex->∃o',h'.get? b=some o'
 tups:∀b xs,H b=some (.tup xs)->H' b=some (.tup xs)
 frzs:∀b o u,H b=some (.frz o u)->H' b=some (.frz o u)
 tbls:∀b ps,H b=some (.tbl ps)->∃more,H' b=some (.tbl (ps++more))
section
variable {fs fs' ex ex' : List Addr} {H H1 H2 : Hp} {h h1 h2 h' : Heap} {a x e : Addr} {o : HO}
theorem Un.any(u:Un fs ex H H1 h h1)(q:h.get? b=some ob)(n:H b=none)(hx:b∉ex):∃sl,h1.get? b=some {ob with slots:=sl}:=by
 by_cases hb:b∈fs
 . exact u.slot b ob q n hb hx
 . exact⟨ob.slots,u.keep b ob q n hb hx⟩
theorem Un.kept(k:∀b u,h.get? b=some u->h'.get? b=some u):Un fs ex H H h h':=
 ⟨λb ob q _ _ _=>k b ob q,λb ob q _ _ _=>⟨ob.slots,k b ob q⟩,λ_ _ _ n _=>n,λb ob q _=>⟨ob,k b ob q⟩,λ_ _ q=>q,λ_ _ _ q=>q,λ_ ps q=>⟨#[],by rw[q];simp⟩⟩
theorem Un.refl:Un fs ex H H h h:=Un.kept λ_ _ q=>q
theorem Un.laid(k:∀b u,h.get? b=some u->h'.get? b=some u)(hp:h.objs.size<=a)(hn:H a=none):Un fs ex H (upd H a o) h h' where
 keep:=λb u q _ _ _=>k b u q
 slot:=λb u q _ _ _=>⟨u.slots,k b u q⟩
 free:=λb u q n _=>by rw[bA (Nat.ne_of_lt (Nat.lt_of_lt_of_le (Heap.lt_size q) hp))];exact n
 there:=λb u q _=>⟨u,k b u q⟩
 tups:=λb xs q=>by rw[bA (cU q hn)];exact q
 frzs:=λb u xs q=>by rw[bA (cU q hn)];exact q
 tbls:=λb ps q=>⟨#[],by rw[bA (cU q hn),q];simp⟩
theorem Un.write(mu:Mut (H x))(he:e=x\/H e=some (.own x))(k:∀b u,b≠e->h.get? b=some u->h'.get? b=some u)(heo:∃u,h'.get? e=some u):Un fs ex H (upd H x o) h h':=by
 have hx:∀b,H b=none->b≠x:=λb n z=>by subst z;rw[n]at mu;exact mu
 have hb:∀b,H b=none->b≠e:=λb n z=>by
  subst z;rcases he with r|r
  . exact hx b n r
  . rw[n]at r;cases r
 have hm:∀b u,H b=some u->¬Mut (some u)->b≠x:=λb u q nm z=>by subst z;rw[q]at mu;exact nm mu
 refine⟨λb u q n _ _=>k b u (hb b n) q,λb u q n _ _=>⟨u.slots,k b u (hb b n) q⟩,λb u q n _=>by rw[bA (hx b n)];exact n,λb u q _=>?_,
  λb xs q=>by rw[bA (hm b _ q λz=>z)];exact q,λb u xs q=>by rw[bA (hm b _ q λz=>z)];exact q,λb ps q=>⟨#[],by rw[bA (hm b _ q λz=>z),q];simp⟩⟩
 by_cases hbe:b=e
 . subst hbe;exact heo
 . exact⟨u,k b u hbe q⟩
end
def trk(h:Heap)(H:Hp):List Addr:=(List.range h.objs.size).filter λa=>(H a).isSome
def yL(h:Heap)(H:Hp):Heap:=PySem.W.hideAll h (trk h H)
theorem cu1(h:Heap)(H:Hp):(yL h H).objs.size=h.objs.size:=PySem.W.hideAll_size _ _
theorem cn6(e:h.get? b=some o)(n:H b=none):(yL h H).get? b=some o:=
 PySem.W.hideAll_get _ e λhm=>by have q:(H b).isSome=true:=(List.mem_filter.mp hm).2;rw[n]at q;simp at q
theorem du1(e:(yL h H).get? b=some o):h.get? b=some o/\H b=none:=by
 have e':h.get? b=some o:=PySem.W.of_hideAll (trk h H) e;refine⟨e',?_⟩;cases q:H b with
 |none=>rfl
 |some x=>have hm:b∈trk h H:=List.mem_filter.mpr ⟨List.mem_range.mpr (Heap.lt_size e'),by simp[q]⟩;have z:(yL h H).get? b=none:=PySem.W.hideAll_none (trk h H) hm;rw[z]at e;cases e
end L2
namespace L2
open PySem PySem.Spec PyProof.Rows
structure Mod (K:PySem.W.Frag) (mg:Str->Option Value) (base:Heap):Prop where
 kin:K.In base
 glob:base.Ns mainGlobals mg
 blt:∃mb,base.Ns builtinsNs mb/\∀x:Str,x≠"__name__"->mb x=bootBuiltins x
 nolimit:base.NoLimit
structure Cx where
 prog:Program
 w:World
 K:PySem.W.Frag
 mg:Str->Option Value
 base:Heap
 A:Around
 N:List Str
 s₀:Shared
 H₀:Hp
 env:Env
 outer:List Env
 stack:List Env
 ex:List Addr
 fn:Str->Bool
 calm:Bool
 pn:List (Addr×Obj)
 xe:Value->Shared->Prop
def oR(l:List Env):List Addr:=l.filterMap (·.frame)
abbrev Cx.fs(X:Cx):List Addr:=oR X.outer
def Vis(sc:Scope)(x:Str):Prop:=sc.names.lookup x=some .local\/sc.names.lookup x=some .cell\/sc.names.lookup x=some .free
def Loc(sc:Scope)(x:Str):Prop:=sc.names.lookup x=some .local\/sc.names.lookup x=some .cell
def ew4(env:Env)(h:Heap)(m:Str->Option Value)(x:Str)(u:Value):Prop:=
 (env.kindOf x=some .local/\m x=some u)\/((env.kindOf x=some .cell\/env.kindOf x=some .free)/\∃c,env.cells.lookup x=some c/\h.IsCell c (some u))
structure Cx.Ok (X:Cx):Prop where
 mod:Mod X.K X.mg X.base
 kind:X.env.scope.kind=.function
 glob:X.env.globals=mainGlobals
 blt:X.env.builtins=builtinsNs
 above:X.s₀.heap.objs.size<=X.env.locals
 inj:∀x y c,X.env.cells.lookup x=some c->X.env.cells.lookup y=some c->x=y
 has:∀x,(X.env.kindOf x=some .cell\/X.env.kindOf x=some .free)->∃c,X.env.cells.lookup x=some c
 cab:∀x c,X.fn x=true->X.env.cells.lookup x=some c->X.s₀.heap.objs.size<=c
 hd:X.calm=true->X.A.handled=none
 frames:X.A.frames=some X.stack
 stk:X.stack=X.outer\/(X.stack=X.env::X.outer/\X.env.frame=some X.env.locals)
 exf:∀b∈X.ex,b≠X.env.locals/\∀x c,X.env.cells.lookup x=some c->c≠b
 bs:∀b o,X.base.get? b=some o->X.s₀.heap.get? b=some o/\X.H₀ b=none
 bsz:X.base.objs.size<=X.s₀.heap.objs.size
 noex:∀b o,X.base.get? b=some o->b∉X.ex
 exfs:∀b∈X.ex,b∉X.fs
 funs:X.s₀.heap.FunFrames X.base X.outer
 frf:∀b∈X.fs,X.H₀ b=none
structure Inv (X:Cx) (pins:List (Addr×Obj)) (σ:List (Option V)) (H:Hp) (s:Shared):Prop where
 ok:X.Ok
 os:s.os=X.s₀.os
 bare:AllBare s.gens
 base:Un X.fs X.ex X.H₀ H X.s₀.heap s.heap
 loc:∃m,s.heap.Ns X.env.locals m/\∀(i:Nat)(x:Str)(v:V),X.N[i]?=some x->σ[i]?=some (some v)->Vis X.env.scope x->∃u,RelV v u/\ew4 X.env s.heap m x u
 cell:∀x c,X.env.cells.lookup x=some c->∃v,s.heap.IsCell c v
 free:H X.env.locals=none
 freeC:∀x c,X.env.cells.lookup x=some c->H c=none
 pin:∀p∈X.pn++pins,s.heap.get? p.1=some p.2/\H p.1=none/\p.1≠X.env.locals/\p.1∉X.fs/\∀v,p.2.data≠ .cell v
 hok:HOk X.prog X.w H s.heap
 len:σ.length=X.N.length
section
variable {X : Cx} {pins : List (Addr × Obj)} {σ : List (Option V)} {H H' : Hp} {s : Shared} {h' : Heap}
theorem Cx.Ok.nofr(ok:X.Ok)(e:X.base.get? b=some o):b∉X.fs:=λhb=>by have:=(ok.funs.mem hb).1;rw[e]at this;cases this
theorem Inv.bs(I:Inv X pins σ H s):∀b o,X.base.get? b=some o->s.heap.get? b=some o/\H b=none:=λb o e=>
 ⟨I.base.keep b o (I.ok.bs b o e).1 (I.ok.bs b o e).2 (I.ok.nofr e) (I.ok.noex b o e),I.base.free b o (I.ok.bs b o e).1 (I.ok.bs b o e).2 (I.ok.noex b o e)⟩
theorem Inv.bk(I:Inv X pins σ H s):∀b o,X.base.get? b=some o->s.heap.get? b=some o:=λb o e=>(I.bs b o e).1
theorem Inv.mod(I:Inv X pins σ H s):Mod X.K X.mg X.base:=I.ok.mod
theorem Inv.kIn(I:Inv X pins σ H s):X.K.In s.heap:=I.ok.mod.kin.keeps I.bk
theorem Inv.fr(I:Inv X pins σ H s):∃m,Fr X.base X.env.locals s.heap m:=
 let⟨m,hn,_⟩:=I.loc
 ⟨m,hn,I.bk,Nat.le_trans I.ok.bsz I.ok.above⟩
theorem Inv.lt(I:Inv X pins σ H s):X.env.locals<s.heap.objs.size:=let⟨_,hn,_⟩:=I.loc;hn.lt
theorem Inv.sz(I:Inv X pins σ H s):X.s₀.heap.objs.size<=s.heap.objs.size:=Nat.le_trans I.ok.above (Nat.le_of_lt I.lt)
theorem Inv.nofs(I:Inv X pins σ H s)(h:s.heap.objs.size<=a):a∉X.fs:=λhb=>by obtain⟨_,o,ho,_⟩:=I.ok.funs.mem hb;exact absurd (Nat.lt_of_lt_of_le (Heap.lt_size ho) (Nat.le_trans I.sz h)) (Nat.lt_irrefl _)
theorem Inv.cne(I:Inv X pins σ H s):∀x c,X.env.cells.lookup x=some c->c≠X.env.locals:=λx c e z=>by obtain⟨v,o,ho,hd⟩:=I.cell x c e;obtain⟨m,⟨o',es,ep,ho',hd',_⟩,_⟩:=I.loc;rw[z,ho']at ho;cases ho;rw[hd']at hd;cases hd
theorem Inv.funs(I:Inv X pins σ H s):s.heap.FunFrames X.base X.outer:=by
 have all:∀(l:List Env),(∀b∈oR l,b∈X.fs)->X.s₀.heap.FunFrames X.base l->s.heap.FunFrames X.base l:=by
  intro l;induction l with
  |nil=>intro _ _;trivial
  |cons env r ih=>intro hs hl;obtain⟨hk,⟨L,o,hf,hn,ho,hd⟩,hr⟩:=hl;have hL:L∈X.fs:=hs L (by unfold oR;rw[List.filterMap_cons,hf];exact List.mem_cons_self);obtain⟨sl,e⟩:=I.base.slot L o ho (I.ok.frf L hL) hL λz=>I.ok.exfs L z hL;exact⟨hk,⟨L,_,hf,hn,e,hd⟩,ih (λb hb=>hs b (by unfold oR;rw[List.filterMap_cons,hf];exact List.mem_cons_of_mem _ hb)) hr⟩
 exact all X.outer (λ_ hb=>hb) I.ok.funs
theorem Inv.stack(I:Inv X pins σ H s):s.heap.FunFrames X.base X.stack:=by
 rcases I.ok.stk with e|⟨e,hf⟩
 . rw[e];exact I.funs
 . rw[e];obtain⟨m,hn,_⟩:=I.loc;refine .cons (by rw[I.ok.kind];decide) hf hn ?_ I.funs;exact Heap.get?_none_of_le (Nat.le_trans I.ok.bsz I.ok.above)
theorem Inv.stkSub(I:Inv X pins σ H s):∀b∈oR X.stack,b∈X.env.locals::X.fs:=λb hb=>by
 rcases I.ok.stk with e|⟨e,hf⟩
 . rw[e]at hb;exact List.mem_cons_of_mem _ hb
 . rw[e]at hb;unfold oR at hb;rw[List.filterMap_cons,hf]at hb;exact hb
theorem Inv.stkFree(I:Inv X pins σ H s):∀b∈oR X.stack,H b=none:=λb hb=>by
 rcases List.mem_cons.mp (I.stkSub b hb)with e|hb
 . rw[e];exact I.free
 . obtain⟨_,o,ho,_⟩:=I.ok.funs.mem hb;exact I.base.free b o ho (I.ok.frf b hb) λz=>I.ok.exfs b z hb
theorem Inv.step{g':Array GenState}{t':Nat}{d':Drawn}{ch:List Addr}(I:Inv X pins σ H s)
 (hch:∀b∈ch,(b∈X.ex\/X.s₀.heap.objs.size<=b)/\b≠X.env.locals/\(∀x c,X.env.cells.lookup x=some c->c≠b)/\∀p∈X.pn++pins,p.1≠b)
 (keep:∀b o,b≠X.env.locals->b∉X.fs->b∉ch->s.heap.get? b=some o->H b=none->h'.get? b=some o)
 (slot:∀b o,b≠X.env.locals->b∈X.fs->b∉ch->s.heap.get? b=some o->H b=none->∃sl,h'.get? b=some {o with slots:=sl})(free:∀b o,b∉ch->s.heap.get? b=some o->H b=none->H' b=none)
 (there:∀b o,b∉ch->s.heap.get? b=some o->∃o',h'.get? b=some o')
 (tups:∀b xs,H b=some (.tup xs)->H' b=some (.tup xs))(frzs:∀b o u,H b=some (.frz o u)->H' b=some (.frz o u))(tbls:∀b ps,H b=some (.tbl ps)->∃more,H' b=some (.tbl (ps++more)))
 (ns:∀m,s.heap.Ns X.env.locals m->h'.Ns X.env.locals m)(hok:HOk X.prog X.w H' h')(hg:AllBare g'):
 Inv X pins σ H' {s with heap:=h',gens:=g',drawn:=d',toks:=t'}:=by
 have neL:∀b o,X.s₀.heap.get? b=some o->b≠X.env.locals:=λb o e=>Nat.ne_of_lt (Nat.lt_of_lt_of_le (Heap.lt_size e) I.ok.above);have neC:∀b o,X.s₀.heap.get? b=some o->b∉X.ex->b∉ch:=λb o e hx hb=>by
  rcases(hch b hb).1 with z|z
  . exact hx z
  . exact absurd (Nat.lt_of_lt_of_le (Heap.lt_size e) z) (Nat.lt_irrefl _)
 have cellK:∀x c,X.env.cells.lookup x=some c->∀v,s.heap.IsCell c v->h'.IsCell c v:=λx c e v ⟨o,ho,hd⟩=>by
  have nch:c∉ch:=λz=>(hch c z).2.2.1 x c e rfl;by_cases hc:c∈X.fs
  . obtain⟨sl,q⟩:=slot c o (I.cne x c e) hc nch ho (I.freeC x c e);exact⟨_,q,hd⟩
  . exact⟨o,keep c o (I.cne x c e) hc nch ho (I.freeC x c e),hd⟩
 refine⟨I.ok,I.os,hg,⟨λb o e n hb hx=>?_,λb o e n hb hx=>?_,λb o e n hx=>?_,λb o e hx=>?_,λb xs e=>tups b xs (I.base.tups b xs e),λb o xs e=>frzs b o xs (I.base.frzs b o xs e),λb ps e=>?_⟩,?_,λx c e=>?_,?_,λx c e=>?_,λp hp=>?_,hok,I.len⟩
 . exact keep b o (neL b o e) hb (neC b o e hx) (I.base.keep b o e n hb hx) (I.base.free b o e n hx)
 . obtain⟨sl,e1⟩:=I.base.slot b o e n hb hx;obtain⟨sl',e2⟩:=slot b _ (neL b o e) hb (neC b o e hx) e1 (I.base.free b o e n hx);exact⟨sl',e2⟩
 . obtain⟨o',e1⟩:=I.base.there b o e hx;exact free b o' (neC b o e hx) e1 (I.base.free b o e n hx)
 . obtain⟨o',e1⟩:=I.base.there b o e hx;exact there b o' (neC b o e hx) e1
 . obtain⟨m1,e1⟩:=I.base.tbls b ps e;obtain⟨m2,e2⟩:=tbls b _ e1;exact⟨m1++m2,by rw[e2,Array.append_assoc]⟩
 . obtain⟨m,hn,hl⟩:=I.loc;refine⟨m,ns m hn,λi x v e1 e2 e3=>?_⟩;obtain⟨u,r,l⟩:=hl i x v e1 e2 e3;refine⟨u,r,?_⟩;rcases l with l|⟨k,c,e,z⟩
   . exact .inl l
   . exact .inr ⟨k,c,e,cellK x c e _ z⟩
 . obtain⟨v,z⟩:=I.cell x c e;exact⟨v,cellK x c e v z⟩
 . obtain⟨m,⟨o,_,_,ho,_⟩,_⟩:=I.loc;exact free _ o (λz=>(hch _ z).2.1 rfl) ho I.free
 . obtain⟨v,o,ho,hd⟩:=I.cell x c e;exact free c o (λz=>(hch c z).2.2.1 x c e rfl) ho (I.freeC x c e)
 . obtain⟨e,n,ne,nf,d⟩:=I.pin p hp;have nch:p.1∉ch:=λz=>(hch p.1 z).2.2.2 p hp rfl;exact⟨keep p.1 p.2 ne nf nch e n,free p.1 p.2 nch e n,ne,nf,d⟩
theorem Inv.un{t':Nat}(I:Inv X pins σ H s)(u:Un X.fs [] H H' s.heap h')(hok:HOk X.prog X.w H' h'):Inv X pins σ H' {s with heap:=h',toks:=t'}:=by obtain⟨m,⟨o,es,ep,ho,r⟩,_⟩:=id I.loc;obtain⟨sl,hL⟩:=u.any ho I.free (by simp);exact I.step (g':=s.gens) (d':=s.drawn) (ch:=[]) (λ_ z=>nomatch z) (λb o _ hb _ e n=>u.keep b o e n hb (by simp)) (λb o _ hb _ e n=>u.slot b o e n hb (by simp)) (λb o _ e n=>u.free b o e n (by simp)) (λb o _ e=>u.there b o e (by simp)) u.tups u.frzs u.tbls (λm' hm=>by obtain⟨o',es',ep',ho',r'⟩:=hm;rw[ho]at ho';cases ho';exact⟨_,es',ep',hL,r'⟩) hok I.bare
theorem Inv.call{g':Array GenState}{t':Nat}{d':Drawn}{ch:List Addr}(I:Inv X pins σ H s)(u:Un (oR X.stack) ch H H' s.heap h')(hok:HOk X.prog X.w H' h')(hg:AllBare g')
 (hch:∀b∈ch,(b∈X.ex\/X.s₀.heap.objs.size<=b)/\b≠X.env.locals/\(∀x c,X.env.cells.lookup x=some c->c≠b)/\∀p∈X.pn++pins,p.1≠b):
 Inv X pins σ H' {s with heap:=h',gens:=g',drawn:=d',toks:=t'}:=by
 obtain⟨m,⟨o,es,ep,ho,r⟩,_⟩:=id I.loc;obtain⟨sl,hL⟩:=u.any ho I.free λz=>(hch _ z).2.1 rfl;exact I.step (ch:=ch) hch (λb o hL hb hc e n=>u.keep b o e n (λz=>(List.mem_cons.mp (I.stkSub b z)).elim hL hb) hc) (λb o _ _ hc e n=>u.any e n hc) (λb o hc e n=>u.free b o e n hc) (λb o hc e=>u.there b o e hc) u.tups u.frzs u.tbls (λm' hm=>by obtain⟨o',es',ep',ho',r'⟩:=hm;rw[ho]at ho';cases ho';exact⟨_,es',ep',hL,r'⟩) hok hg
theorem Inv.turned{t':Nat}{it:Addr}(I:Inv X pins σ H s)(k:∀b o,b≠it->s.heap.get? b=some o->h'.get? b=some o)(hn:H it=none)(hL:it≠X.env.locals)
 (h1:it∈X.ex\/X.s₀.heap.objs.size<=it)(h2:∀x c,X.env.cells.lookup x=some c->c≠it)(h3:∀p∈X.pn++pins,p.1≠it):Inv X pins σ H {s with heap:=h',toks:=t'}:=by
 have nit:∀b u,H b=some u->b≠it:=λb u e z=>by rw[z,hn]at e;cases e
 refine I.step (g':=s.gens) (d':=s.drawn) (ch:=[it]) (λb hb=>?_) (λb o _ _ hc e _=>k b o (λz=>hc (by simp[z])) e) (λb o _ _ hc e _=>⟨o.slots,k b o (λz=>hc (by simp[z])) e⟩) (λ_ _ _ _ n=>n)
  (λb o hc e=>⟨o,k b o (λz=>hc (by simp[z])) e⟩) (λ_ _ e=>e) (λ_ _ _ e=>e) (λb ps e=>⟨#[],by rw[e];simp⟩) (λm hm=>?_) (λb u e=>?_) I.bare
 . have e:b=it:=by simpa using hb
   subst e;exact⟨h1,hL,h2,h3⟩
 . obtain⟨o,es,ep,ho,r⟩:=hm;exact⟨o,es,ep,k _ o (Ne.symm hL) ho,r⟩
 . refine(I.hok b u e).stay (λc v hc q=>k c v ?_ q) (λ_ q=>q) λ_ _ q=>q;rcases hc with z|z
   . rw[z];exact nit b u e
   . exact nit c _ z
theorem Inv.tok(I:Inv X pins σ H s)(t:Nat):Inv X pins σ H {s with toks:=t}:=I.un (h':=s.heap) (t':=t) Un.refl I.hok
theorem Inv.kept(I:Inv X pins σ H s)(k:∀b u,s.heap.get? b=some u->h'.get? b=some u):Inv X pins σ H {s with heap:=h',toks:=t'}:=I.un (Un.kept k) (I.hok.kept k)
theorem Inv.laid(I:Inv X pins σ H s)(k:∀b u,s.heap.get? b=some u->h'.get? b=some u)(hp:s.heap.objs.size<=a)(new:ObjOk X.prog X.w (upd H a o) h' a o):
 Inv X pins σ (upd H a o) {s with heap:=h',toks:=t'}:=I.un (Un.laid k hp (I.hok.fresh hp)) (I.hok.laid k hp new)
theorem Inv.write(I:Inv X pins σ H s)(mu:Mut (H x))(he:e=x\/H e=some (.own x))(k:∀b u,b≠e->s.heap.get? b=some u->h'.get? b=some u)(heo:∃u,h'.get? e=some u)
 (new:ObjOk X.prog X.w (upd H x o) h' x o):Inv X pins σ (upd H x o) {s with heap:=h',toks:=t'}:=I.un (Un.write mu he k heo) (I.hok.write mu he k heo new)
theorem Inv.weak(I:Inv X pins σ H s)(hl:σ'.length=σ.length)(w:∀(i:Nat) v,σ'[i]?=some (some v)->σ[i]?=some (some v)):Inv X pins σ' H s:=
 ⟨I.ok,I.os,I.bare,I.base,let⟨m,hn,hl'⟩:=I.loc;⟨m,hn,λi x v e1 e2 e3=>hl' i x v e1 (w i v e2) e3⟩,I.cell,I.free,I.freeC,I.pin,I.hok,hl.trans I.len⟩
theorem Inv.pins_of(I:Inv X pins σ H s)(h:∀p∈pins',s.heap.get? p.1=some p.2/\H p.1=none/\p.1≠X.env.locals/\p.1∉X.fs/\∀v,p.2.data≠ .cell v):Inv X pins' σ H s:=
 ⟨I.ok,I.os,I.bare,I.base,I.loc,I.cell,I.free,I.freeC,λp hp=>(List.mem_append.mp hp).elim (λz=>I.pin p (List.mem_append_left _ z)) (h p),I.hok,I.len⟩
theorem az3{N:List Str}(hN:N.Nodup){i j:Nat}{x:Str}(a:N[i]?=some x)(b:N[j]?=some x):i=j:=by obtain⟨h1,e1⟩:=List.getElem?_eq_some_iff.mp a;obtain⟨h2,e2⟩:=List.getElem?_eq_some_iff.mp b;exact(List.getElem_inj hN).mp (e1.trans e2.symm)
theorem ab9{M:Model}{A:Around}{E:Value->Shared->Prop}{i:Nat}{x:Str}{v:V}{u:Value}{Q:Unit->Shared->Prop}(I:Inv X pins σ H s)(hN:X.N.Nodup)(hi:X.N[i]?=some x)(hx:Loc X.env.scope x)(r:RelV v u)
 (h:∀s',Inv X pins (σ.set i (some v)) H s'->(∃a,Heap.SameBut a s.heap s'.heap/\(a=X.env.locals\/X.env.cells.lookup x=some a))->Q () s')(hf:X.fn x=true\/X.env.scope.names.lookup x=some .local:=by first|exact .inl rfl|exact .inr rfl|assumption):wpAny M A (storeName X.env x u) Q E s:=by
 obtain⟨m,hn,hl⟩:=id I.loc;have hcls:(X.env.scope.kind==.class||(X.env.scope.kind==.module&&X.env.locals !=X.env.globals))=false:=by rw[I.ok.kind];rfl
 have hiσ:i<σ.length:=by rw[I.len];exact(List.getElem?_eq_some_iff.mp hi).1
 have cne:=I.cne;have tracked:∀{a:Addr}{h':Heap},(∃o,s.heap.get? a=some o/\H a=none)->Heap.SameBut a s.heap h'->HOk X.prog X.w H h':=λ{a h'} ha hs b ob e=>by
  obtain⟨_,_,hfree⟩:=ha;refine(I.hok b ob e).stay (λc w' hc q=>(hs.2 c ?_).trans q) (λ_ q=>q) λ_ _ q=>q;rintro rfl;rcases hc with rfl|hc
  . rw[hfree]at e;cases e
  . rw[hfree]at hc;cases hc
 rcases hx with hk|hk
 . refine wpAny_storeName_local hk hn (λh' hn' hs=>?_) hcls;obtain⟨oL,_,_,hoL,_⟩:=id hn;refine h _ ⟨I.ok,I.os,I.bare,⟨λb o e n hb hx=>?_,λb o e n hb hx=>?_,I.base.free,λb o e hx=>?_,I.base.tups,I.base.frzs,I.base.tbls⟩,⟨_,hn',λj y v' e1 e2 e3=>?_⟩,λy c e=>?_,I.free,I.freeC,λp hp=>?_,tracked ⟨oL,hoL,I.free⟩ hs,by simpa using I.len⟩ ⟨_,hs,.inl rfl⟩
   . exact(hs.2 b (Nat.ne_of_lt (Nat.lt_of_lt_of_le (Heap.lt_size e) I.ok.above))).trans (I.base.keep b o e n hb hx)
   . obtain⟨sl,e1⟩:=I.base.slot b o e n hb hx;exact⟨sl,(hs.2 b (Nat.ne_of_lt (Nat.lt_of_lt_of_le (Heap.lt_size e) I.ok.above))).trans e1⟩
   . obtain⟨o',e1⟩:=I.base.there b o e hx;exact⟨o',(hs.2 b (Nat.ne_of_lt (Nat.lt_of_lt_of_le (Heap.lt_size e) I.ok.above))).trans e1⟩
   . by_cases hj:j=i
     . subst hj;rw[hi]at e1;cases e1;rw[List.getElem?_set_self hiσ]at e2;cases e2;exact⟨u,r,.inl ⟨hk,by simp⟩⟩
     . rw[List.getElem?_set_ne (Ne.symm hj)]at e2;obtain⟨u',r',q⟩:=hl j y v' e1 e2 e3;refine⟨u',r',?_⟩;rcases q with⟨k,e⟩|⟨k,c,e,z⟩
       . refine .inl ⟨k,?_⟩;have:y≠x:=λe=>hj (az3 hN e1 (e▸hi));simp[this,e]
       . exact .inr ⟨k,c,e,z.sameBut hs (cne y c e)⟩
   . obtain⟨w',z⟩:=I.cell y c e;exact⟨w',z.sameBut hs (cne y c e)⟩
   . obtain⟨e,n,ne,nf,d⟩:=I.pin p hp;exact⟨(hs.2 p.1 ne).trans e,n,ne,nf,d⟩
 . have hfn:X.fn x=true:=by
    rcases hf with z|z
    . exact z
    . rw[z]at hk;cases hk
   obtain⟨c,hc⟩:=I.ok.has x (.inl hk);obtain⟨w',z⟩:=I.cell x c hc;refine wpAny_storeName_cell I.ok.kind hk hc z (λh' hc' hs=>?_);obtain⟨oc,hoc,hocd⟩:=id z;refine h {s with heap:=h'} ⟨I.ok,I.os,I.bare,⟨λb o e n hb hx=>?_,λb o e n hb hx=>?_,I.base.free,λb o e hx=>?_,I.base.tups,I.base.frzs,I.base.tbls⟩,⟨m,hn.sameBut hs (Ne.symm (cne x c hc)),λj y v' e1 e2 e3=>?_⟩,λy c' e=>?_,I.free,I.freeC,λp hp=>?_,tracked ⟨oc,hoc,I.freeC x c hc⟩ hs,by simpa using I.len⟩ ⟨c,hs,.inr hc⟩
   . exact(hs.2 b (Nat.ne_of_lt (Nat.lt_of_lt_of_le (Heap.lt_size e) (I.ok.cab x c hfn hc)))).trans (I.base.keep b o e n hb hx)
   . obtain⟨sl,e1⟩:=I.base.slot b o e n hb hx;exact⟨sl,(hs.2 b (Nat.ne_of_lt (Nat.lt_of_lt_of_le (Heap.lt_size e) (I.ok.cab x c hfn hc)))).trans e1⟩
   . obtain⟨o',e1⟩:=I.base.there b o e hx;exact⟨o',(hs.2 b (Nat.ne_of_lt (Nat.lt_of_lt_of_le (Heap.lt_size e) (I.ok.cab x c hfn hc)))).trans e1⟩
   . by_cases hj:j=i
     . subst hj;rw[hi]at e1;cases e1;rw[List.getElem?_set_self hiσ]at e2;cases e2;exact⟨u,r,.inr ⟨.inl hk,c,hc,hc'⟩⟩
     . rw[List.getElem?_set_ne (Ne.symm hj)]at e2;obtain⟨u',r',q⟩:=hl j y v' e1 e2 e3;refine⟨u',r',?_⟩;rcases q with q|⟨k,c',e,z'⟩
       . exact .inl q
       . refine .inr ⟨k,c',e,z'.sameBut hs ?_⟩;rintro rfl;exact hj (az3 hN e1 (I.ok.inj _ _ _ e hc▸hi))
   . by_cases hcc:c'=c
     . subst hcc;exact⟨_,hc'⟩
     . obtain⟨w2,z2⟩:=I.cell y c' e;exact⟨w2,z2.sameBut hs hcc⟩
   . obtain⟨e,n,ne,nf,d⟩:=I.pin p hp;refine⟨(hs.2 p.1 ?_).trans e,n,ne,nf,d⟩;intro q;rw[q,hoc]at e;have q':oc=p.2:=Option.some.inj e;exact d w' (by rw[<-q'];exact hocd)
theorem yO(I:Inv X pins σ H s)(hN:X.N.Nodup)(hi:X.N[i]?=some x)(hx:Loc X.env.scope x)(r:RelV v u)
 (h:∀s',Inv X pins (σ.set i (some v)) H s'->Q () s')(hf:X.fn x=true\/X.env.scope.names.lookup x=some .local:=by first|exact .inl rfl|exact .inr rfl|assumption):wpAny M A (storeName X.env x u) Q E s:=
 ab9 I hN hi hx r (λs' I' _=>h s' I') hf
theorem Inv.call'(I:Inv X pins σ H s)(ho:s'.os=s.os)(u:Un (oR X.stack) ch H H' s.heap s'.heap)(hok:HOk X.prog X.w H' s'.heap)(hg:AllBare s'.gens)
 (hch:∀b∈ch,(b∈X.ex\/X.s₀.heap.objs.size<=b)/\b≠X.env.locals/\(∀x c,X.env.cells.lookup x=some c->c≠b)/\∀p∈X.pn++pins,p.1≠b):Inv X pins σ H' s':=by
 obtain⟨h',g',d',t',o'⟩:=s';have e:o'=s.os:=ho;subst e;exact I.call (g':=g') (t':=t') (d':=d') u hok hg hch
end
abbrev XK:=Value->Option Addr->Hp->Prop
abbrev St:=List (Option V)
abbrev VK:=V->Hp->Prop
abbrev TE:=St->Hp->VK->Prop
abbrev TT:=St->Hp->(Bool->Hp->Prop)->Prop
abbrev TA:=St->Hp->(List V->Hp->Prop)->Prop
structure wY where
 nx:St->Hp->Prop
 rt:VK
 bk:St->Hp->Prop:=λ_ _=>False
 ct:St->Hp->Prop:=λ_ _=>False
abbrev TS:=wY->St->Hp->Prop
def EP(X:Cx)(pins:List (Addr×Obj))(σ:St)(Q:VK)(u:Value)(s':Shared):Prop:=∃v H',Inv X pins σ H' s'/\RelV v u/\Q v H'
def TP(X:Cx)(pins:List (Addr×Obj))(σ:St)(Q:Bool->Hp->Prop)(b:Bool)(s':Shared):Prop:=∃H',Inv X pins σ H' s'/\Q b H'
def AP(X:Cx)(pins:List (Addr×Obj))(σ:St)(Q:List V->Hp->Prop)(us:List Value)(s':Shared):Prop:=∃vs H',Inv X pins σ H' s'/\Vals vs us/\Q vs H'
def SP(X:Cx)(pins:List (Addr×Obj))(D:wY)(f:Flow)(s':Shared):Prop:=
 match f with
 |.next=>∃σ' H',Inv X pins σ' H' s'/\D.nx σ' H'
 |.brk=>∃σ' H',Inv X pins σ' H' s'/\D.bk σ' H'
 |.cont=>∃σ' H',Inv X pins σ' H' s'/\D.ct σ' H'
 |.ret u=>∃v σ' H',Inv X pins σ' H' s'/\RelV v u/\D.rt v H'
def PE(X:Cx)(e:Expr)(t:TE):Prop:=
 ∀⦃pins:List (Addr×Obj)⦄ (s:Shared)(σ:St)(H:Hp)(Q:VK),Inv X pins σ H s->t σ H Q->wpAny (model X.prog X.w) X.A (eval e X.env) (EP X pins σ Q) X.xe s
def PT(X:Cx)(e:Expr)(t:TT):Prop:=
 ∀⦃pins:List (Addr×Obj)⦄ (s:Shared)(σ:St)(H:Hp)(Q:Bool->Hp->Prop),Inv X pins σ H s->t σ H Q->wpAny (model X.prog X.w) X.A (isTrue e X.env (eval e X.env)) (TP X pins σ Q) X.xe s
def PW(X:Cx)(e:Expr)(t:TT):Prop:=
 ∀⦃whole:Sem Value⦄ (pins:List (Addr×Obj))(s:Shared)(σ:St)(H:Hp)(Q:Bool->Hp->Prop),Inv X pins σ H s->t σ H Q->wpAny (model X.prog X.w) X.A (isTrue e X.env whole) (TP X pins σ Q) X.xe s
theorem PW.pt(h:PW X e t):PT X e t:=λ_ s σ H Q I q=>h _ s σ H Q I q
def PA(X:Cx)(es:List Expr)(t:TA):Prop:=
 ∀⦃pos:Pos⦄ (pins:List (Addr×Obj))(s:Shared)(σ:St)(H:Hp)(Q:List V->Hp->Prop),Inv X pins σ H s->t σ H Q->wpAny (model X.prog X.w) X.A (spliced (backTo pos (starEach es X.env))) (AP X pins σ Q) X.xe s
def PS(X:Cx)(st:Stmt)(t:TS):Prop:=
 ∀⦃pins:List (Addr×Obj)⦄ (s:Shared)(σ:St)(H:Hp)(D:wY),Inv X pins σ H s->t D σ H->wpAny (model X.prog X.w) X.A (exec st X.env) (SP X pins D) X.xe s
def PSs(X:Cx)(st:List Stmt)(t:TS):Prop:=
 ∀⦃pins:List (Addr×Obj)⦄ (s:Shared)(σ:St)(H:Hp)(D:wY),Inv X pins σ H s->t D σ H->wpAny (model X.prog X.w) X.A (execs st X.env) (SP X pins D) X.xe s
theorem bW(h:wpAny M A t Q E s)(hQ:∀a s,Q a s->Q' a s):wpAny M A t Q' E s:=wpAny_mono h hQ λ_ _ x=>x
end L2
namespace L2
open PySem PySem.Spec PyProof.Rows
section
variable {X : Cx}
theorem bin{a b:Expr}{ta tb:TE}(ha:PE X a ta)(hb:PE X b tb){pins:List (Addr×Obj)}{s:Shared}{σ:St}{H:Hp}{R:V->V->Hp->Prop}(I:Inv X pins σ H s)(h:ta σ H λx H1=>tb σ H1 λy H2=>R x y H2)
 {α:Type}{Q:α->Shared->Prop}{f:Value->Value->Sem α}
 (hf:∀v u s2 x y H2,Inv X pins σ H2 s2->RelV x v->RelV y u->R x y H2->wpAny (model X.prog X.w) X.A (f v u) Q X.xe s2):
 wpAny (model X.prog X.w) X.A (eval a X.env) (λv s₁=>wpAny (model X.prog X.w) X.A (eval b X.env) (λu s₂=>wpAny (model X.prog X.w) X.A (f v u) Q X.xe s₂) X.xe s₁) X.xe s:=by
 refine bW (ha s σ H _ I h) λv s1 ⟨x,H1,I1,r1,q1⟩=>?_;refine bW (hb s1 σ H1 _ I1 q1) λu s2 ⟨y,H2,I2,r2,q2⟩=>?_;exact hf v u s2 x y H2 I2 r1 r2 q2
def xA(i:Nat):TE:=λσ H Q=>∃v,σ[i]?=some (some v)/\Q v H
def tC(v:V):TE:=λ_ H Q=>Q v H
theorem bp4(hN:X.N[i]?=some x)(hv:Vis X.env.scope x)(hd:(x==("__debug__":Str))=false:=by decide)(hcd:(x==("__classdict__":Str))=false:=by decide):PE X (.Name x pos) (xA i):=by
 intro pins s σ H Q I h;obtain⟨v,e,h⟩:=h;obtain⟨m,hn,hl⟩:=I.loc;obtain⟨u,r,l⟩:=hl i x v hN e hv;have bN:EP X pins σ Q u s:=⟨v,H,I,r,h⟩;rcases l with⟨hk,hm⟩|⟨hk,c,hc,hcell⟩
 . exact wpAny_Name (wpAny_loadName_local I.ok.kind hk hn hm bN) hd
 . rcases hk with hk|hk
   . exact wpAny_Name (wpAny_loadName_cell I.ok.kind hk hc hcell bN) hd
   . exact wpAny_Name (wpAny_loadName_free I.ok.kind hk hc hcell bN hcd) hd
theorem aF{i j pos}:PE X (.Constant (.int i) j pos) (tC (.int i)):=λ_ _ _ H _ I h=>wpAny_Constant_int ⟨.int i,H,I.tok _,⟨_,rfl⟩,h⟩
theorem jZ{b j pos}:PE X (.Constant (.bool b) j pos) (tC (.bl b)):=λ_ _ _ H _ I h=>Constant_bool ⟨.bl b,H,I,rfl,h⟩
theorem nS{j pos}:PE X (.Constant .none j pos) (tC .non):=λ_ _ _ H _ I h=>Constant_none ⟨.non,H,I,rfl,h⟩
theorem aS{x j pos}:PE X (.Constant (.str x) j pos) (tC (.str x)):=λ_ _ _ H _ I h=>Calls.Constant_str ⟨.str x,H,I.tok _,⟨_,rfl⟩,h⟩
def Gl(X:Cx)(x:Str):Prop:=X.env.kindOf x=some .globalImplicit
theorem mL(I:Inv X pins σ H s)(hg:Gl X x)(hm:X.mg x=some u)(h:Q u s)
 (hd:(x==("__debug__":Str))=false:=by decide):wpAny (model X.prog X.w) X.A (eval (.Name x pos) X.env) Q E s:=
 Calls.Name_function_global I.ok.kind hg (Calls.loadGlobal_global (by rw[I.ok.glob];exact I.mod.glob.keeps I.bk) hm h) hd
theorem tE(I:Inv X pins σ H s)(hg:Gl X x)(hm:X.mg x=none)(hv:bootBuiltins x=some u)(h:Q u s)
 (hn:x≠"__name__":=by decide)(hd:(x==("__debug__":Str))=false:=by decide):wpAny (model X.prog X.w) X.A (eval (.Name x pos) X.env) Q E s:=by
 obtain⟨mb,h1,h2⟩:=I.mod.blt;exact Calls.Name_function_global I.ok.kind hg (Calls.loadGlobal_builtin (by rw[I.ok.glob];exact I.mod.glob.keeps I.bk) hm (by rw[I.ok.blt];exact h1.keeps I.bk) ((h2 x hn).trans hv) h) hd
theorem dr4(hg:Gl X x)(hm:X.mg x=some u)(r:RelV v u)(hd:(x==("__debug__":Str))=false:=by decide):PE X (.Name x pos) (tC v):=
 λ_ _ _ H _ I h=>mL I hg hm ⟨v,H,I,r,h⟩ hd
theorem ds3(hg:Gl X x)(hm:X.mg x=none)(hv:bootBuiltins x=some u)(r:RelV v u)(hn:x≠"__name__":=by decide)(hd:(x==("__debug__":Str))=false:=by decide):PE X (.Name x pos) (tC v):=
 λ_ _ _ H _ I h=>tE I hg hm hv ⟨v,H,I,r,h⟩ hn hd
variable {a b : Expr} {ta tb : TE} {pos : Pos}
def PC(X:Cx)(op:CmpOp)(a b:Expr)(t:TE):Prop:=
 ∀⦃pins:List (Addr×Obj)⦄ (s:Shared)(σ:St)(H:Hp)(Q:VK),Inv X pins σ H s->t σ H Q->
  wpAny (model X.prog X.w) X.A (eval a X.env) (λv s₁=>wpAny (model X.prog X.w) X.A (eval b X.env) (λu s₂=>wpAny (model X.prog X.w) X.A (compareOp op v u) (EP X pins σ Q) X.xe s₂) X.xe s₁) X.xe s
def tB(t:TE):TT:=λσ H Q=>t σ H λx H1=>∃c,x=.bl c/\Q c H1
theorem dw5(h:PC X op a b t)(h1:behindInMarks op b=false:=by first|exact eu4 _ (by decide) (by decide)|rfl):PT X (.Compare a [op] [b] pos) (tB t):=by intro pins s σ H Q I hw;refine wpAny_isTrue_Compare1 (bW (h s σ H _ I hw) λv s1 h1=>bW h1 λu s2 h2=>bW h2 λc s3 ⟨x,H1,I1,r1,q1⟩=>?_) h1;obtain⟨d,rfl,q⟩:=q1;cases r1;exact wpAny_truthy_bool ⟨H1,I1,q⟩
variable {tA tB' : TT} {rest : List Expr}
def dj8(t u:TT):TT:=λσ H Q=>t σ H λc H1=>if c=true then u σ H1 Q else Q false H1
def tOr(t u:TT):TT:=λσ H Q=>t σ H λc H1=>if c=true then Q true H1 else u σ H1 Q
def df7(t:TT):TT:=λσ H Q=>t σ H λc H1=>Q (!c) H1
theorem bo7(ha:PT X a tA):PW X (.BoolOp .And [a] pos) tA:=by
 intro wh pins s σ H Q I h;refine isTrue_and (bW (ha s σ H Q I h) λc s1 e=>?_);cases c with
 |true=>exact isTrue_and_nil e
 |false=>exact e
theorem tM(ha:PT X a tA):PW X (.BoolOp .Or [a] pos) tA:=by
 intro wh pins s σ H Q I h;refine isTrue_or (bW (ha s σ H Q I h) λc s1 e=>?_);cases c with
 |false=>exact isTrue_or_nil e
 |true=>exact e
theorem cf2(ha:PT X a tA)(hb:PW X (.BoolOp .And (b::rest) pos) tB'):PW X (.BoolOp .And (a::b::rest) pos) (dj8 tA tB'):=by
 intro wh pins s σ H Q I h;refine isTrue_and (bW (ha s σ H _ I h) λc s1 ⟨H1,I1,q1⟩=>?_);cases c with
 |true=>exact hb pins s1 σ H1 Q I1 q1
 |false=>exact⟨H1,I1,q1⟩
theorem pD(ha:PT X a tA)(hb:PW X (.BoolOp .Or (b::rest) pos) tB'):PW X (.BoolOp .Or (a::b::rest) pos) (tOr tA tB'):=by
 intro wh pins s σ H Q I h;refine isTrue_or (bW (ha s σ H _ I h) λc s1 ⟨H1,I1,q1⟩=>?_);cases c with
 |true=>exact⟨H1,I1,q1⟩
 |false=>exact hb pins s1 σ H1 Q I1 q1
theorem iB(ha:PT X a tA):PT X (.UnaryOp .Not a pos) (df7 tA):=by intro pins s σ H Q I h;exact isTrue_not (ha s σ H (λc H1=>Q (!c) H1) I h)
def dy0(ta tb:TE):TE:=λσ H Q=>ta σ H λx H1=>∃c,x=.bl c/\if c=true then tb σ H1 Q else Q (.bl false) H1
def dm0(ta:TE):TE:=λσ H Q=>ta σ H λx H1=>∃c,x=.bl c/\Q (.bl (!c)) H1
theorem mI{op}(h:PE X a t):PE X (.BoolOp op [a] pos) t:=λpins s σ H Q I hw=>BoolOp_one (h s σ H Q I hw)
theorem gM(ha:PE X a ta)(hb:PE X (.BoolOp .And (b::rest) pos) tb):PE X (.BoolOp .And (a::b::rest) pos) (dy0 ta tb):=by
 intro pins s σ H Q I h;refine BoolOp_and (bW (ha s σ H _ I h) λv s1 ⟨x,H1,I1,r1,q1⟩=>?_);obtain⟨c,rfl,q1⟩:=q1;cases r1;refine wpAny_truthy_bool ?_;cases c with
 |true=>exact hb s1 σ H1 Q I1 q1
 |false=>exact⟨.bl false,H1,I1,rfl,q1⟩
theorem dn9(ha:PE X a ta):PE X (.UnaryOp .Not a pos) (dm0 ta):=by intro pins s σ H Q I h;refine UnaryOp_ (bW (ha s σ H _ I h) λv s1 ⟨x,H1,I1,r1,q1⟩=>?_);obtain⟨c,rfl,q1⟩:=q1;cases r1;exact not_of (wpAny_truthy_bool ⟨.bl (!c),H1,I1,rfl,q1⟩)
def tIf(t:TT)(ta tb:TE):TE:=λσ H Q=>t σ H λc H1=>if c=true then ta σ H1 Q else tb σ H1 Q
theorem bm3(hc:PT X c tA)(ha:PE X a ta)(hb:PE X b tb):PE X (.IfExp c a b pos) (tIf tA ta tb):=by
 intro pins s σ H Q I h;refine wpAny_IfExp (bW (hc s σ H _ I h) λd s1 ⟨H1,I1,q1⟩=>?_);cases d with
 |true=>exact ha s1 σ H1 Q I1 q1
 |false=>exact hb s1 σ H1 Q I1 q1
end
end L2
namespace L2
open PySem PySem.Spec PyProof.Rows
def SqL(K:PySem.W.Frag)(H:Hp)(a:Addr)(xs:List V):Prop:=
 Rd H a (.lst xs)\/
  ∃(o:Obj)(its:Array Value)(n:Nat),K.lookup a=some o/\o.cls=.type "list"/\o.dict=none/\o.data=.seq its n/\its.size<=sizeLine/\Vals xs its.toList
def SqT(K:PySem.W.Frag)(H:Hp)(a:Addr)(xs:List V):Prop:=
 Rd H a (.tup xs)\/
  ∃(o:Obj)(its:Array Value)(n:Nat),K.lookup a=some o/\o.cls=.type "tuple"/\o.data=.seq its n/\its.size<=sizeLine/\Vals xs its.toList
def ef4:Value->Option V
 |.none=>some .non
 |.bool b=>some (.bl b)
 |.int i _=>some (.int i)
 |.str x _=>some (.str x)
 |.bytes b _=>some (.byt b)
 |.float b _=>some (.flt b)
 |.ref a=>some (.ref a)
 |.type n=>some (.ty n)
 |_=>none
theorem RelV.abs(r:RelV x u):ef4 u=some x:=by
 cases x with
 |non=>cases r;rfl
 |bl _=>cases r;rfl
 |int _=>obtain⟨t,rfl⟩:=r;rfl
 |str _=>obtain⟨t,rfl⟩:=r;rfl
 |byt _=>obtain⟨t,rfl⟩:=r;rfl
 |flt _=>obtain⟨t,rfl⟩:=r;rfl
 |ref _=>cases r;rfl
 |ty _=>cases r;rfl
theorem RelV.inj(r:RelV x u)(q:RelV y u):x=y:=Option.some.inj (r.abs.symm.trans q.abs)
theorem Vals.inj:∀{xs ys:List V}{us:List Value},Vals xs us->Vals ys us->xs=ys
 |_,_,_,.nil,.nil=>rfl
 |_,_,_,.cons r t,.cons r' t'=>by rw[r.inj r',Vals.inj t t']
section
variable {X : Cx} {pins : List (Addr × Obj)} {σ : St} {H : Hp} {s : Shared} {a : Addr} {xs ys : List V}
theorem SqL.of{K:PySem.W.Frag}(h:H a=some (.lst xs)):SqL K H a xs:=.inl (.inl h)
theorem SqT.of{K:PySem.W.Frag}(h:H a=some (.tup xs)):SqT K H a xs:=.inl (.inl h)
theorem Inv.list(I:Inv X pins σ H s)(h:SqL X.K H a xs):∃its:List Value,Vals xs its/\PlainL s.heap a its.toArray/\xs.length<=sizeLine:=by
 rcases h with h|⟨o,its,n,hk,hc,hd,hs,hz,r⟩
 . obtain⟨z,its,n,r,e⟩:=h.ok I.hok;exact⟨its,r,⟨_,n,e,rfl,rfl,rfl⟩,z⟩
 . refine⟨its.toList,r,⟨o,n,I.kIn a o hk,hc,hd,by simpa using hs⟩,?_⟩;have e:=r.length;simp only[Array.length_toList]at e;omega
theorem Inv.tuple(I:Inv X pins σ H s)(h:SqT X.K H a xs):∃its:List Value,Vals xs its/\IsTup s.heap a its.toArray/\xs.length<=sizeLine:=by
 rcases h with h|⟨o,its,n,hk,hc,hs,hz,r⟩
 . obtain⟨z,its,r,p⟩:=h.ok I.hok;exact⟨its,r,p,z⟩
 . refine⟨its.toList,r,⟨o,I.kIn a o hk,hc,n,by simpa using hs⟩,?_⟩;have e:=r.length;simp only[Array.length_toList]at e;omega
theorem Inv.list_inj(I:Inv X pins σ H s)(h:SqL X.K H a xs)(h':SqL X.K H a ys):xs=ys:=by
 obtain⟨its,r,⟨o,n,e,_,_,d⟩,_⟩:=I.list h;obtain⟨its',r',⟨o',n',e',_,_,d'⟩,_⟩:=I.list h';rw[e]at e';cases e';rw[d]at d';injection d' with d1 _;have:its=its':=by simpa using congrArg Array.toList d1
 subst this;exact r.inj r'
theorem Inv.tuple_inj(I:Inv X pins σ H s)(h:SqT X.K H a xs)(h':SqT X.K H a ys):xs=ys:=by
 obtain⟨its,r,⟨o,e,_,n,d⟩,_⟩:=I.tuple h;obtain⟨its',r',⟨o',e',_,n',d'⟩,_⟩:=I.tuple h';rw[e]at e';cases e';rw[d]at d';injection d' with d1 _;have:its=its':=by simpa using congrArg Array.toList d1
 subst this;exact r.inj r'
end
abbrev Cx.wish(X:Cx)(E:Value->Shared->Prop):Cx:={X with xe:=E}
abbrev Cx.nox(X:Cx):Cx:=X.wish λ_ _=>False
theorem Cx.Ok.wish{X:Cx}(ok:X.Ok)(E:Value->Shared->Prop):(X.wish E).Ok:=
 ⟨ok.mod,ok.kind,ok.glob,ok.blt,ok.above,ok.inj,ok.has,ok.cab,ok.hd,ok.frames,ok.stk,ok.exf,ok.bs,ok.bsz,ok.noex,ok.exfs,ok.funs,ok.frf⟩
theorem Cx.Ok.unwish{X:Cx}{E:Value->Shared->Prop}(ok:(X.wish E).Ok):X.Ok:=
 ⟨ok.mod,ok.kind,ok.glob,ok.blt,ok.above,ok.inj,ok.has,ok.cab,ok.hd,ok.frames,ok.stk,ok.exf,ok.bs,ok.bsz,ok.noex,ok.exfs,ok.funs,ok.frf⟩
section
variable {X : Cx} {pins : List (Addr × Obj)} {σ : St} {H : Hp} {s : Shared} {E : Value → Shared → Prop}
theorem Inv.wish(I:Inv X pins σ H s)(E:Value->Shared->Prop):Inv (X.wish E) pins σ H s:=⟨I.ok.wish E,I.os,I.bare,I.base,I.loc,I.cell,I.free,I.freeC,I.pin,I.hok,I.len⟩
theorem Inv.unwish(I:Inv (X.wish E) pins σ H s):Inv X pins σ H s:=⟨I.ok.unwish,I.os,I.bare,I.base,I.loc,I.cell,I.free,I.freeC,I.pin,I.hok,I.len⟩
theorem SP.unwish(h:SP (X.wish E) pins D f s'):SP X pins D f s':=by
 cases f with
 |next=>obtain⟨σ',H',I,q⟩:=h;exact⟨σ',H',I.unwish,q⟩
 |brk=>obtain⟨σ',H',I,q⟩:=h;exact⟨σ',H',I.unwish,q⟩
 |cont=>obtain⟨σ',H',I,q⟩:=h;exact⟨σ',H',I.unwish,q⟩
 |ret u=>obtain⟨v,σ',H',I,r,q⟩:=h;exact⟨v,σ',H',I.unwish,r,q⟩
theorem PSs.nox{st:List Stmt}{t:TS}(h:PSs X.nox st t):PSs X st t:=λpins s σ H D I hw=>
 wpAny_mono (h s σ H D (I.wish _) hw) (λ_ _ q=>q.unwish) λ_ _ z=>False.elim z
end
section
variable {X : Cx} {st : Stmt} {rest : List Stmt} {t u : TS} {e : Expr} {te : TE} {pos : Pos}
def du0:TS:=λD σ H=>D.nx σ H
def bx8(t u:TS):TS:=λD σ H=>t {D with nx:=u D} σ H
theorem bE:PSs X [] du0:=λ_ _ σ H _ I h=>wpAny_execs_nil ⟨σ,H,I,h⟩
theorem aH(h1:PS X st t)(h2:PSs X rest u):PSs X (st::rest) (bx8 t u):=by
 intro pins s σ H D I h;refine wpAny_execs_cons (bW (h1 s σ H {D with nx:=u D} I h) λf s1 q=>?_);cases f with
 |next=>obtain⟨σ',H',I',q⟩:=q;exact h2 s1 σ' H' D I' q
 |ret v=>exact q
 |brk=>exact q
 |cont=>exact q
theorem aM(h1:PS X st t):PSs X [st] t:=by
 intro pins s σ H D I h;refine wpAny_execs_cons (bW (h1 s σ H D I h) λf s1 q=>?_);cases f with
 |next=>exact wpAny_execs_nil q
 |ret v=>exact q
 |brk=>exact q
 |cont=>exact q
theorem Inv.quiet(I:Inv X pins σ H s):interactive X.env=false:=by simp[interactive,I.ok.kind]
def da0(te:TE):TS:=λD σ H=>te σ H λ_ H1=>D.nx σ H1
theorem rS(he:PE X e te)(hs:swapsWith e none pos.line X.env=pure false:=by rfl):PS X (.Expr e pos) (da0 te):=by intro pins s σ H D I h;exact wpAny_Expr_any (bW (he s σ H _ I h) λv s1 ⟨x,H1,I1,r1,q1⟩=>⟨σ,H1,I1,q1⟩) I.quiet hs
def do8(te:TE):TS:=λD σ H=>te σ H D.rt
theorem aU(he:PE X e te):PS X (.Return (some e) pos) (do8 te):=by intro pins s σ H D I h;exact wpAny_Return_some (bW (he s σ H _ I h) λv s1 ⟨x,H1,I1,r1,q1⟩=>⟨x,σ,H1,I1,r1,q1⟩)
def de8(c:TT)(t u:TS):TS:=λD σ H=>c σ H λb H1=>if b=true then t D σ H1 else u D σ H1
theorem bU(hc:PT X c tc)(ha:PSs X a t)(hb:PSs X b u):PS X (.If c a b pos) (de8 tc t u):=by
 intro pins s σ H D I h;refine wpAny_If (bW (hc s σ H _ I h) λd s1 ⟨H1,I1,q1⟩=>?_);cases d with
 |true=>exact ha s1 σ H1 D I1 q1
 |false=>exact hb s1 σ H1 D I1 q1
end
abbrev TG:=V->St->Hp->(St->Hp->Prop)->Prop
abbrev TGs:=List V->St->Hp->(St->Hp->Prop)->Prop
def PG(X:Cx)(target:Expr)(t:TG):Prop:=
 ∀⦃pins:List (Addr×Obj)⦄ (s:Shared)(σ:St)(H:Hp)(v:V)(u:Value)(Q:St->Hp->Prop),Inv X pins σ H s->RelV v u->t v σ H Q->
  wpAny (model X.prog X.w) X.A (assign target X.env u) (λ_ s'=>∃σ' H',Inv X pins σ' H' s'/\Q σ' H') X.xe s
def PGs(X:Cx)(ts:List Expr)(t:TGs):Prop:=
 ∀⦃pins:List (Addr×Obj)⦄ (s:Shared)(σ:St)(H:Hp)(vs:List V)(us:List Value)(Q:St->Hp->Prop),Inv X pins σ H s->Vals vs us->t vs σ H Q->
  wpAny (model X.prog X.w) X.A (assignInOrder ((assignEach ts X.env).map (·.2)) us) (λ_ s'=>∃σ' H',Inv X pins σ' H' s'/\Q σ' H') X.xe s
section
variable {X : Cx} {pos : Pos}
def wG(i:Nat):TG:=λv σ H Q=>Q (σ.set i (some v)) H
theorem du4(hN:X.N.Nodup)(hi:X.N[i]?=some x)(hx:Loc X.env.scope x)(hf:X.fn x=true\/X.env.scope.names.lookup x=some .local:=by first|exact .inl rfl|exact .inr rfl|assumption):PG X (.Name x pos) (wG i):=by intro pins s σ H v u Q I r h;exact wpAny_assign_Name (yO I hN hi hx r (λs' I'=>⟨_,H,I',h⟩) hf)
def di7:TGs:=λvs σ H Q=>vs=[]/\Q σ H
def ba9(t:TG)(u:TGs):TGs:=λvs σ H Q=>∃v r,vs=v::r/\t v σ H λσ' H'=>u r σ' H' Q
theorem eP:PGs X [] di7:=by intro pins s σ H vs us Q I r h;obtain⟨e,h⟩:=h;subst e;cases r;exact assignInOrder_nil ⟨σ,H,I,h⟩
theorem aX(h1:PG X e t)(h2:PGs X es u)
 (hs:(assignEach (e::es) X.env).map (·.2)=assign e X.env::(assignEach es X.env).map (·.2):=by rfl):PGs X (e::es) (ba9 t u):=by
 intro pins s σ H vs us Q I r h;obtain⟨v,vr,e1,h⟩:=h;subst e1;cases r with
 |cons r rr=>rw[hs];refine assignInOrder_cons (bW (h1 s σ H _ _ _ I r h) λ_ s1 ⟨σ1,H1,I1,q1⟩=>?_);exact h2 s1 σ1 H1 _ _ Q I1 rr q1
def cv6(K:PySem.W.Frag)(n:Nat)(t:TGs):TG:=λv σ H Q=>∃a xs,v=.ref a/\SqT K H a xs/\xs.length=n/\t xs σ H Q
theorem du5(hc:X.calm=true)(h:PGs X es t)
 (hn:(assignEach es X.env).length=n:=by rfl)(hst:(assignEach es X.env).findIdx? (·.1)=none:=by rfl):PG X (.Tuple es k pos) (cv6 X.K n t):=by
 intro pins s σ H v u Q I r hw;obtain⟨a,xs,e1,hq,hl,hw⟩:=hw;subst e1;cases r;obtain⟨its,rv,ht,hz⟩:=I.tuple hq;refine assign_Tuple_tuple (I.ok.hd hc) ht (by simp[hn,<-hl,rv.length]) hst λh' hx=>?_;have I1:Inv X pins σ H {s with heap:=h'}:=I.kept (t':=s.toks) λb o e=>hx b o (Nat.ne_of_lt (Heap.lt_size e)) e;exact h _ σ H xs _ Q I1 (by simpa using rv) hw
def ad7(te:TE)(g:TG):TS:=λD σ H=>te σ H λx H1=>g x σ H1 D.nx
theorem oZ(he:PE X e te)(hg:PG X tg g)(hs:swapsWithSole [tg] e pos.line X.env=pure false:=by rfl)(hw:swappedStores [tg] e X.env=pure none:=by rfl)
 (h1:(assignEach [tg] X.env).map (·.2)=[assign tg X.env]:=by rfl):PS X (.Assign [tg] e pos) (ad7 te g):=by
 intro pins s σ H D I h;refine wpAny_Assign_stores (bW (he s σ H _ I h) λv s1 ⟨x,H1,I1,r1,q1⟩=>?_) hs hw;rw[h1];exact bW (hg s1 σ H1 x v _ I1 r1 q1) λ_ s2 q=>q
theorem dh5(hN:X.N.Nodup)(hi:X.N[i]?=some x)(hx:Loc X.env.scope x)(he:PE X e te)(hs:swapsWith e (some (.Name x pos')) pos.line X.env=pure false:=by rfl)(hf:X.fn x=true\/X.env.scope.names.lookup x=some .local:=by first|exact .inl rfl|exact .inr rfl|assumption):
 PS X (.Assign [.Name x pos'] e pos) (ad7 te (wG i)):=by
 intro pins s σ H D I h;refine wpAny_Assign_Name (bW (he s σ H _ I h) λv s1 ⟨y,H1,I1,r1,q1⟩=>?_) hs;exact yO I1 hN hi hx r1 (λs2 I2=>⟨_,H1,I2,q1⟩) hf
end
section
variable {X : Cx} {pos : Pos}
def cj2(c:TT)(tb:TS):TS:=λD σ H=>∃W:Nat->St->Hp->Prop,(∃m,W m σ H)/\∀m σ H,W m σ H->
 c σ H λb H1=>if b=true then∃N:St->Hp->Prop,(∀σ' H',N σ' H'->∃m',m'<m/\W m' σ' H')/\tb {D with nx:=N,ct:=N,bk:=D.nx} σ H1 else D.nx σ H1
theorem br3(hp:PassesOwn (model X.prog X.w) X.A X.env X.xe)(hc:PT X c tc)(hb:PSs X body tb):PS X (.While c body [] pos) (cj2 tc tb):=by
 intro pins s σ H D I h;obtain⟨W,⟨m0,w0⟩,turn⟩:=h;refine wpAny_While (codeAny_whileLoop (λn s'=>∃σ' H',Inv X pins σ' H' s'/\W n σ' H') ?_ m0 ⟨σ,H,I,w0⟩);rintro n s1 ⟨σ1,H1,I1,w1⟩;refine wpAny_passesOwn hp (bW (hc s1 σ1 H1 _ I1 (turn n σ1 H1 w1)) λb s2 ⟨H2,I2,q2⟩=>?_);cases b with
 |true=>
  obtain⟨N,hN,q2⟩:=q2;rw[if_pos rfl];refine wpAny_passesOwn hp (bW (hb s2 σ1 H2 _ I2 q2) λf s3 q3=>?_);cases f with
  |next=>obtain⟨σ3,H3,I3,n3⟩:=q3;obtain⟨m',hm,w3⟩:=hN σ3 H3 n3;exact⟨m',hm,σ3,H3,I3,w3⟩
  |cont=>obtain⟨σ3,H3,I3,n3⟩:=q3;obtain⟨m',hm,w3⟩:=hN σ3 H3 n3;exact⟨m',hm,σ3,H3,I3,w3⟩
  |brk=>exact q3
  |ret v=>exact q3
 |false=>rw[if_neg Bool.false_ne_true];exact wpAny_execs_nil ⟨σ1,H2,I2,q2⟩
end
structure It where
 go:Nat->Hp->Prop
 yld:Nat->Hp->V->Hp->Prop
 stop:Nat->Hp->Prop
def rV(X:Cx)(pins:List (Addr×Obj))(H:Hp)(b:Addr):Prop:=
 H b=none/\b≠X.env.locals/\b∉X.fs/\(b∈X.ex\/X.s₀.heap.objs.size<=b)/\(∀x c,X.env.cells.lookup x=some c->c≠b)/\∀p∈X.pn++pins,p.1≠b
theorem Inv.fpOk(I:Inv X pins σ H s)(hb:s.heap.objs.size<=b)(hn:H' b=none):rV X pins H' b:=by
 refine⟨hn,Nat.ne_of_gt (Nat.lt_of_lt_of_le I.lt hb),I.nofs hb,.inr (Nat.le_trans I.sz hb),λx c e z=>?_,λp hp z=>?_⟩
 . obtain⟨v,q⟩:=I.cell x c e;exact absurd (Nat.lt_of_lt_of_le q.lt (by rw[z];exact hb)) (Nat.lt_irrefl _)
 . exact absurd (Nat.lt_of_lt_of_le (Heap.lt_size (I.pin p hp).1) (by rw[z];exact hb)) (Nat.lt_irrefl _)
structure ad4 (P:Program) (w:World) (K:PySem.W.Frag) (tg:Expr) (J:It) (fp:List Addr) (it:Addr) (tn:Nat->Heap->Prop):Prop where
 mem:it∈fp
 obj:∀i h,tn i h->∀b∈fp,∃o,h.get? b=some o/\∀v,o.data≠ .cell v
 keep:∀i h h',tn i h->(∀b∈fp,∀o,h.get? b=some o->h'.get? b=some o)->tn i h'
 item:∀(X:Cx),X.prog=P->X.w=w->X.K=K->X.calm=true->∀(i:Nat)(pins:List (Addr×Obj))(s:Shared)(σ:St)(H:Hp)(E:Value->Shared->Prop),Inv X pins σ H s->(∀b∈fp,rV X pins H b)->tn i s.heap->J.go i H->
  wpAny (model P w) X.A (pyNext (.ref it)) (λr s1=>∃u,r=some u/\
   wpAny (model P w) X.A (letOwnedTupleGo tg (.ref it) u) (λ_ s2=>∃x H',Inv X pins σ H' s2/\RelV x u/\J.yld i H x H'/\tn (i+1) s2.heap/\∀b∈fp,H' b=none) E s1) E s
 done:∀(X:Cx),X.prog=P->X.w=w->X.K=K->X.calm=true->∀(i:Nat)(pins:List (Addr×Obj))(s:Shared)(σ:St)(H:Hp)(E:Value->Shared->Prop),Inv X pins σ H s->(∀b∈fp,rV X pins H b)->tn i s.heap->J.stop i H->
  wpAny (model P w) X.A (pyNext (.ref it)) (λr s1=>r=none/\Inv X pins σ H s1) E s
 self:∀(A:Around)(i:Nat)(s:Shared)(Q:Value->Shared->Prop)(E:Value->Shared->Prop),tn i s.heap->Q (.ref it) s->wpAny (model P w) A (pyIter (.ref it)) Q E s
abbrev TI:=St->Hp->(It->Hp->Prop)->Prop
def PIE(X:Cx)(pins:List (Addr×Obj))(σ:St)(tg:Expr)(R:It->Hp->Prop)(itv:Value)(s2:Shared):Prop:=
 ∃(it:Addr)(fp:List Addr)(tn:Nat->Heap->Prop)(J:It)(H':Hp),itv=.ref it/\Inv X pins σ H' s2/\ad4 X.prog X.w X.K tg J fp it tn/\tn 0 s2.heap/\(∀b∈fp,rV X pins H' b)/\R J H'
def PI(X:Cx)(tg iter:Expr)(wi:TI):Prop:=
 ∀⦃pins:List (Addr×Obj)⦄ (s:Shared)(σ:St)(H:Hp)(R:It->Hp->Prop),Inv X pins σ H s->wi σ H R->
  wpAny (model X.prog X.w) X.A (eval iter X.env) (λv s1=>wpAny (model X.prog X.w) X.A (pyIter v) (PIE X pins σ tg R) X.xe s1) X.xe s
theorem bp9 (ho : s.heap.get? it = some o) (hc : o.cls = .type n) (hd : o.data = .fields vs)
    (hn : ["enumerate", "zip", "dict_itemiterator", "dict_reverseitemiterator", "odict_iterator", "itertools.zip_longest", "itertools.pairwise"].contains n = false) (hQ : Q () s) : wpAny M A (letOwnedTupleGo tg (.ref it) u) Q E s := by
  unfold letOwnedTupleGo
  cases tg <;> first
    | exact wpAny_pure hQ
    | (cases u <;> first
        | exact wpAny_pure hQ
        | (refine wpAny_bind (wpAny_load ho ?_)
           rw [hc, hd]
           show wpAny M A (if (["enumerate", "zip", "dict_itemiterator", "dict_reverseitemiterator", "odict_iterator", "itertools.zip_longest", "itertools.pairwise"].contains n && vs[0]? == some (rawInt _)) = true then _ else _) Q E s
           rw [if_neg (by intro h; rw [hn, Bool.false_and] at h; cases h)]
           exact wpAny_pure hQ))
def Itl(K:PySem.W.Frag)(a:Addr):It:=
 ⟨λi H=>∃xs x,SqL K H a xs/\xs[i]?=some x,λi H x H'=>H'=H/\∀xs,SqL K H a xs->xs[i]?=some x,λi H=>∃xs,SqL K H a xs/\xs.length<=i⟩
def Itt(K:PySem.W.Frag)(a:Addr):It:=
 ⟨λi H=>∃xs x,SqT K H a xs/\xs[i]?=some x,λi H x H'=>H'=H/\∀xs,SqT K H a xs->xs[i]?=some x,λi H=>∃xs,SqT K H a xs/\xs.length<=i⟩
def Itr(lo:Int)(n:Nat):It:=⟨λi _=>i<n,λi H x H'=>H'=H/\x=.int (lo+i),λi _=>n<=i⟩
theorem cj3{P:Program}{w:World}{K:PySem.W.Frag}{tg:Expr}(a it:Addr):ad4 P w K tg (Itl K a) [it] it (λi h=>h.IsListIter it a i) where
 mem:=by simp
 obj:=λi h st b hb=>by
  have e:b=it:=by simpa using hb
  subst e;obtain⟨o,e,c,d⟩:=st;exact⟨o,e,λv z=>by rw[d]at z;cases z⟩
 keep:=λi h h' st k=>st.at λo e=>k it (by simp) o e
 item:=by intro X hP hw hK hc i pins s σ H E I hf st hg;subst hP hw hK;obtain⟨xs,x,hq,hx⟩:=hg;obtain⟨its,rv,p,hz⟩:=I.list hq;obtain⟨u,hu,ru⟩:=rv.get hx;obtain⟨f0,f1,f2,f3,f4,f5⟩:=hf it (by simp);refine wpAny_pyNext_list_item st p.isList (x:=u) (by simpa using hu) λh' st' sb=>?_;have I1:Inv X pins σ H {s with heap:=h'}:=I.turned (t':=s.toks) (λb o hb e=>(sb.2 b hb).trans e) f0 f1 f3 f4 f5;obtain⟨o,e,c,d⟩:=id st';exact⟨u,rfl,bp9 (s:={s with heap:=h'}) e c d (by decide) ⟨x,H,I1,ru,⟨rfl,λys hy=>by rw[I.list_inj hy hq];exact hx⟩,st',λb hb=>(hf b hb).1⟩⟩
 done:=by intro X hP hw hK hc i pins s σ H E I hf st hg;subst hP hw hK;obtain⟨xs,hq,hx⟩:=hg;obtain⟨its,rv,p,hz⟩:=I.list hq;obtain⟨f0,f1,f2,f3,f4,f5⟩:=hf it (by simp);have hl:=rv.length;exact wpAny_pyNext_list_end (I.ok.hd hc) st p.isList (by simp;omega) λh' eb=>⟨rfl,I.turned (t':=s.toks) (λb o hb e=>eb b o hb e) f0 f1 f3 f4 f5⟩
 self:=λ_ _ _ _ _ st h=>wpAny_pyIter_listiter st h
theorem ch0{P:Program}{w:World}{K:PySem.W.Frag}{tg:Expr}(a it:Addr):ad4 P w K tg (Itt K a) [it] it (λi h=>h.IsTupleIter it a i) where
 mem:=by simp
 obj:=λi h st b hb=>by
  have e:b=it:=by simpa using hb
  subst e;obtain⟨o,e,c,d⟩:=st;exact⟨o,e,λv z=>by rw[d]at z;cases z⟩
 keep:=λi h h' st k=>st.at λo e=>k it (by simp) o e
 item:=by intro X hP hw hK hc i pins s σ H E I hf st hg;subst hP hw hK;obtain⟨xs,x,hq,hx⟩:=hg;obtain⟨its,rv,p,hz⟩:=I.tuple hq;obtain⟨u,hu,ru⟩:=rv.get hx;obtain⟨f0,f1,f2,f3,f4,f5⟩:=hf it (by simp);refine wpAny_pyNext_tuple_item st (show s.heap.IsTuple a its.toArray from p) (x:=u) (by simpa using hu) λh' st' sb=>?_;have I1:Inv X pins σ H {s with heap:=h'}:=I.turned (t':=s.toks) (λb o hb e=>(sb.2 b hb).trans e) f0 f1 f3 f4 f5;obtain⟨o,e,c,d⟩:=id st';exact⟨u,rfl,bp9 (s:={s with heap:=h'}) e c d (by decide) ⟨x,H,I1,ru,⟨rfl,λys hy=>by rw[I.tuple_inj hy hq];exact hx⟩,st',λb hb=>(hf b hb).1⟩⟩
 done:=by intro X hP hw hK hc i pins s σ H E I hf st hg;subst hP hw hK;obtain⟨xs,hq,hx⟩:=hg;obtain⟨its,rv,p,hz⟩:=I.tuple hq;obtain⟨f0,f1,f2,f3,f4,f5⟩:=hf it (by simp);have hl:=rv.length;exact wpAny_pyNext_tuple_end (I.ok.hd hc) st (show s.heap.IsTuple a its.toArray from p) (by simp;omega) λh' eb=>⟨rfl,I.turned (t':=s.toks) (λb o hb e=>eb b o hb e) f0 f1 f3 f4 f5⟩
 self:=λ_ _ _ _ _ st h=>wpAny_pyIter_tupleiter st h
theorem bk9{P:Program}{w:World}{K:PySem.W.Frag}{tg:Expr}(it:Addr)(lo:Int)(n:Nat):ad4 P w K tg (Itr lo n) [it] it (λi h=>IsRangeIter h it (lo+(i:Nat)*1) ((n:Int)-(i:Nat)) 1) where
 mem:=by simp
 obj:=λi h st b hb=>by
  have e:b=it:=by simpa using hb
  subst e;exact⟨_,st,λv z=>by have z':Data.fields _=Data.cell v:=z;cases z'⟩
 keep:=λi h h' st k=>k it (by simp) _ st
 item:=by intro X hP hw hK hc i pins s σ H E I hf st hg;subst hP hw hK;obtain⟨f0,f1,f2,f3,f4,f5⟩:=hf it (by simp);have W:=Walks.range (prog:=X.prog) (w:=X.w) (I.ok.hd hc) it lo 1 n;refine W.item i s _ _ hg st λv h' tk hv st' kk=>?_;obtain⟨t,rfl⟩:=hv;have I1:Inv X pins σ H {s with heap:=h',toks:=tk}:=I.turned (λb o hb e=>kk b o (by simpa using hb) e) f0 f1 f3 f4 f5;refine⟨_,rfl,bp9 (s:={s with heap:=h',toks:=tk}) (n:="range_iterator") st' rfl rfl (by decide) ⟨.int (lo+i),H,I1,⟨t,?_⟩,⟨rfl,rfl⟩,st',λb hb=>(hf b hb).1⟩⟩;rw[Int.mul_one]
 done:=by intro X hP hw hK hc i pins s σ H E I hf st hg;subst hP hw hK;obtain⟨f0,f1,f2,f3,f4,f5⟩:=hf it (by simp);exact wpAny_pyNext_range_end (I.ok.hd hc) st (by have:n<=i:=hg;omega) λh' eb=>⟨rfl,I.turned (t':=s.toks) (λb o hb e=>eb b o hb e) f0 f1 f3 f4 f5⟩
 self:=λ_ _ _ _ _ st h=>wpAny_pyIter_rangeiter st h
end L2
namespace L2
open PySem PySem.Spec PyProof.Rows
section
variable {X : Cx} {tg : Expr}
theorem ba5{pins:List (Addr×Obj)}{σ:St}{H:Hp}{s:Shared}{R:It->Hp->Prop}{E:Value->Shared->Prop}{lo hi:Int}{t u v:Tok}{tk:Nat}(I:Inv X pins σ H s)(h1:-(2^62)<=lo)(h2:lo<2^62)(h3:-(2^62)<=hi)(h4:hi<2^62)
 (q:R (Itr lo (hi-lo).toNat) H):wpAny (model X.prog X.w) X.A (pyIter (.ref s.heap.objs.size)) (PIE X pins σ tg R) E {s with heap:=s.heap.push {cls:=.type "range",data:=.fields #[.int lo t,.int hi u,.int 1 v]},toks:=tk}:=by
 refine wpAny_pyIter_range (IsRange.new ..) (small_one h1 h2 h3 h4) ?_;have I1:Inv X pins σ H {s with heap:=s.heap.push {cls:=.type "range",data:=.fields #[.int lo t,.int hi u,.int 1 v]},toks:=tk}:=I.kept λb o e=>Heap.get?_push_of_some _ e;refine⟨(s.heap.push {cls:=.type "range",data:=.fields #[.int lo t,.int hi u,.int 1 v]}).objs.size,[(s.heap.push {cls:=.type "range",data:=.fields #[.int lo t,.int hi u,.int 1 v]}).objs.size],_,_,H,rfl,
  I1.kept (t':=tk) λb o e=>Heap.get?_push_of_some _ e,bk9 _ lo (hi-lo).toNat,?_,λb hb=>?_,q⟩
 . have e1:lo+((0:Nat):Int)*1=lo:=by simp
   have e2:(((hi-lo).toNat:Nat):Int)-((0:Nat):Int)=Builtin.Range.rangeSize lo hi 1:=by rw[rangeSize_one];split<;>omega
   show IsRangeIter _ _ (lo+((0:Nat):Int)*1) ((((hi-lo).toNat:Nat):Int)-((0:Nat):Int)) 1;rw[e1,e2];exact Heap.get?_push_size _ rfl
 . have e:b=(s.heap.push {cls:=.type "range",data:=.fields #[.int lo t,.int hi u,.int 1 v]}).objs.size:=by simpa using hb
   subst e;exact I1.fpOk (Nat.le_refl _) (I1.hok.fresh (Nat.le_refl _))
def dq0(ta:TA):TI:=λσ H R=>ta σ H λvs H1=>∃j:Int,vs=[.int j]/\-(2^62)<=j/\j<2^62/\R (Itr 0 j.toNat) H1
def cv9(ta:TA):TI:=λσ H R=>ta σ H λvs H1=>∃i j:Int,vs=[.int i,.int j]/\(-(2^62)<=i/\i<2^62/\-(2^62)<=j/\j<2^62)/\R (Itr i (j-i).toNat) H1
theorem iD{a:Expr}{ta:TA}{p pos:Pos}(hg:Gl X "range")(hm:X.mg "range"=none)(ha:PA X [a] ta)(hs:starEach [a] X.env=[(false,eval a X.env)]:=by rfl):PI X tg (.Call (.Name "range" p) [a] [] pos) (dq0 ta):=by
 intro pins s σ H R I h;refine Call_ (tE I hg hm boot_range (PyProof.Rows.callWith_type1 (bW (ha pins s σ H _ I h) λus s1 ⟨vs,H1,I1,r1,q1⟩=>?_) hs rfl));obtain⟨j,e,q1,q2,q⟩:=q1;subst e;cases r1 with
 |cons r rr=>cases rr;obtain⟨t,rfl⟩:=r;exact call_range_1 (ba5 I1 (by omega) (by omega) q1 q2 (by simpa using q))
theorem cr2(hg:Gl X "range")(hm:X.mg "range"=none)(ha:PA X [a,b] ta)(hs:starEach [a,b] X.env=[(false,eval a X.env),(false,eval b X.env)]:=by rfl)(hs2:starEach [b] X.env=[(false,eval b X.env)]:=by rfl):
 PI X tg (.Call (.Name "range" p) [a,b] [] pos) (cv9 ta):=by
 intro pins s σ H R I h;refine Call_ (tE I hg hm boot_range (PyProof.Rows.callWith_type1 (bW (ha pins s σ H _ I h) λus s1 ⟨vs,H1,I1,r1,q1⟩=>?_) (by rw[hs,hs2]) (by rw[hs2];rfl)));obtain⟨i,j,e,⟨q1,q2,q3,q4⟩,q⟩:=q1;subst e;cases r1 with
 |cons r rr=>
  cases rr with
  |cons r' rr=>cases rr;obtain⟨t,rfl⟩:=r;obtain⟨t',rfl⟩:=r';exact call_range_2 (ba5 I1 q1 q2 q3 q4 q)
def da7(wi:TI)(g:TG)(tb:TS):TS:=λD σ H=>wi σ H λJ H1=>∃W:Nat->Nat->St->Hp->Prop,(∃m,W 0 m σ H1)/\∀i m σ H,W i m σ H->
 (J.stop i H/\D.nx σ H)\/(J.go i H/\∃N:St->Hp->Prop,(∀σ' H',N σ' H'->∃m',m'<m/\W (i+1) m' σ' H')/\∀x H',J.yld i H x H'->g x σ H' λσ2 H2=>tb {D with nx:=N,ct:=N,bk:=D.nx} σ2 H2)
def xG(fp:List Addr)(h:Heap):List (Addr×Obj):=fp.filterMap λb=>(h.get? b).map λo=>(b,o)
theorem uC(hb:b∈fp)(e:h.get? b=some o):(b,o)∈xG fp h:=List.mem_filterMap.mpr ⟨b,hb,by rw[e];rfl⟩
theorem ck3(hp:p∈xG fp h):p.1∈fp/\h.get? p.1=some p.2:=by
 obtain⟨b,hb,e⟩:=List.mem_filterMap.mp hp;cases q:h.get? b with
 |none=>rw[q]at e;cases e
 |some o=>rw[q]at e;have e':(b,o)=p:=Option.some.inj e;subst e';exact⟨hb,q⟩
theorem Inv.pinned(I:Inv X pins σ H s)(hf:∀b∈fp,rV X pins H b)(ho:∀b∈fp,∃o,s.heap.get? b=some o/\∀v,o.data≠ .cell v):Inv X (pins++xG fp s.heap) σ H s:=
 I.pins_of λp hp=>(List.mem_append.mp hp).elim (λz=>I.pin p (List.mem_append_right _ z)) λz=>by obtain⟨hb,e⟩:=ck3 z;obtain⟨f0,f1,f2,_⟩:=hf p.1 hb;obtain⟨o,e',d⟩:=ho p.1 hb;rw[e]at e';cases e';exact⟨e,f0,f1,f2,d⟩
theorem Inv.unpinned(I:Inv X (pins++pl) σ H s):Inv X pins σ H s:=I.pins_of λp hp=>I.pin p (List.mem_append_right _ (List.mem_append_left _ hp))
theorem mG(hp:PassesOwn (model X.prog X.w) X.A X.env X.xe)(hc:X.calm=true)(hi:PI X tg iter wi)(hg:PG X tg g)(hb:PSs X body tb)
 (hs:∀x,foldedSetIterable iter X.env x=pure x:=by intro _;rfl):PS X (.For tg iter body [] pos) (da7 wi g tb):=by
 intro pins s σ H D I h;refine wpAny_For (bW (hi s σ H _ I h) λv s1 h1=>bW h1 λitv s2 h2=>?_) hs;obtain⟨it,fp,tn,J,H2,e,I2,T,st2,f2,W,⟨m0,w0⟩,turn⟩:=h2;subst e;have stat:∀{H':Hp},(∀b∈fp,H' b=none)->∀b∈fp,rV X pins H' b:=λhn b hb=>⟨hn b hb,(f2 b hb).2⟩;refine codeAny_forLoop_any (λn s'=>∃i σ' H',Inv X pins σ' H' s'/\tn i s'.heap/\(∀b∈fp,H' b=none)/\W i n σ' H') ?_ m0 ⟨0,σ,H2,I2,st2,λb hb=>(f2 b hb).1,w0⟩;rintro n s3 ⟨i,σ3,H3,I3,st3,fr3,w3⟩;rcases turn i n σ3 H3 w3 with⟨stop,qn⟩|⟨go,N,hN,step⟩
 . refine wpAny_passesOwn hp (bW (T.done X rfl rfl rfl hc i pins s3 σ3 H3 X.xe I3 (stat fr3) st3 stop) λr s4 ⟨hr,I4⟩=>?_);subst hr;exact wpAny_execs_nil ⟨σ3,H3,I4,qn⟩
 . refine wpAny_passesOwn hp (bW (T.item X rfl rfl rfl hc i pins s3 σ3 H3 X.xe I3 (stat fr3) st3 go) λr s4 ⟨u,hr,h4⟩=>?_);subst hr;refine wpAny_passesOwn hp (bW h4 λ_ s5 ⟨x,H5,I5,r5,y5,st5,fr5⟩=>?_);have I5':=I5.pinned (stat fr5) (T.obj _ _ st5);refine wpAny_passesOwn hp (bW (hg s5 σ3 H5 x u _ I5' r5 (step x H5 y5)) λ_ s6 ⟨σ6,H6,I6,q6⟩=>?_);refine wpAny_passesOwn hp (bW (hb s6 σ6 H6 _ I6 q6) λf s7 q7=>?_);have again:∀{σ7:St}{H7:Hp},Inv X (pins++xG fp s5.heap) σ7 H7 s7->N σ7 H7->∃m,m<n/\∃i σ' H',Inv X pins σ' H' s7/\tn i s7.heap/\(∀b∈fp,H' b=none)/\W i m σ' H':=λ{σ7 H7} I7 n7=>by obtain⟨m',hm,w7⟩:=hN σ7 H7 n7;refine⟨m',hm,i+1,σ7,H7,I7.unpinned,T.keep _ _ _ st5 λb hb o e=>(I7.pin (b,o) (List.mem_append_right _ (List.mem_append_right _ (uC hb e)))).1,λb hb=>?_,w7⟩;obtain⟨o,e,d⟩:=T.obj _ _ st5 b hb;exact(I7.pin (b,o) (List.mem_append_right _ (List.mem_append_right _ (uC hb e)))).2.1
   cases f with
   |next=>obtain⟨σ7,H7,I7,n7⟩:=q7;exact again I7 n7
   |cont=>obtain⟨σ7,H7,I7,n7⟩:=q7;exact again I7 n7
   |brk=>obtain⟨σ7,H7,I7,q7⟩:=q7;exact⟨σ7,H7,I7.unpinned,q7⟩
   |ret v=>obtain⟨x7,σ7,H7,I7,r7,q7⟩:=q7;exact⟨x7,σ7,H7,I7.unpinned,r7,q7⟩
end
end L2
namespace L2
open PySem PySem.Spec PyProof.Rows
abbrev R2:=V->V->Hp->VK->Prop
def OpR(X:Cx)(f:Value->Value->Sem Value)(r:R2):Prop:=
 ∀⦃pins:List (Addr×Obj)⦄ (s:Shared)(σ:St)(H:Hp)(x y:V)(v u:Value)(Q:VK),Inv X pins σ H s->RelV x v->RelV y u->r x y H Q->
  wpAny (model X.prog X.w) X.A (f v u) (EP X pins σ Q) X.xe s
def UnR(X:Cx)(f:Value->Sem Value)(r:V->Hp->VK->Prop):Prop:=
 ∀⦃pins:List (Addr×Obj)⦄ (s:Shared)(σ:St)(H:Hp)(x:V)(v:Value)(Q:VK),Inv X pins σ H s->RelV x v->r x H Q->
  wpAny (model X.prog X.w) X.A (f v) (EP X pins σ Q) X.xe s
def CallR(X:Cx)(f:Value)(r:List V->Hp->VK->Prop):Prop:=
 ∀⦃pins:List (Addr×Obj)⦄ (s:Shared)(σ:St)(H:Hp)(xs:List V)(us:List Value)(Q:VK),Inv X pins σ H s->Vals xs us->r xs H Q->
  wpAny (model X.prog X.w) X.A (call f us) (EP X pins σ Q) X.xe s
def eq5(X:Cx)(r:V->Hp->(Bool->Hp->Prop)->Prop):Prop:=
 ∀⦃pins:List (Addr×Obj)⦄ (s:Shared)(σ:St)(H:Hp)(x:V)(v:Value)(Q:Bool->Hp->Prop),Inv X pins σ H s->RelV x v->r x H Q->
  wpAny (model X.prog X.w) X.A (truthy v) (TP X pins σ Q) X.xe s
def tOp(r:R2)(ta tb:TE):TE:=λσ H Q=>ta σ H λx H1=>tb σ H1 λy H2=>r x y H2 Q
def tUn(r:V->Hp->VK->Prop)(ta:TE):TE:=λσ H Q=>ta σ H λx H1=>r x H1 Q
def rI(C:Int->Int->Prop)(g:Int->Int->V):R2:=λx y H Q=>∃i j,x=.int i/\y=.int j/\C i j/\Q (g i j) H
def yA(g:Int->Int->V):R2:=λx y H Q=>∃i j,x=.int i/\y=.int j/\Q (g i j) H
def rU(g:Int->V):V->Hp->VK->Prop:=λx H Q=>∃i,x=.int i/\Q (g i) H
section
variable {X : Cx} {a b c : Expr} {ta tb tc : TE} {pos : Pos}
theorem cg9(ha:PE X a ta)(hb:PE X b tb){pins:List (Addr×Obj)}{s:Shared}{σ:St}{H:Hp}{R:V->V->Hp->Prop}(I:Inv X pins σ H s)
 (h:ta σ H λx H1=>tb σ H1 λy H2=>R x y H2){Q:Value->Shared->Prop}{f:Value->Value->Sem Value}
 (hf:∀v u s2 x y H2,Inv X pins σ H2 s2->RelV x v->RelV y u->R x y H2->wpAny (model X.prog X.w) X.A (f v u) Q X.xe s2):
 wpAny (model X.prog X.w) X.A (eval a X.env) (λv s₁=>wpAny (model X.prog X.w) X.A (eval b X.env) (λu s₂=>wpAny (model X.prog X.w) X.A (f v u) Q X.xe s₂) X.xe s₁) X.xe s:=by
 refine bW (ha s σ H _ I h) λv s1 ⟨x,H1,I1,r1,q1⟩=>?_;refine bW (hb s1 σ H1 _ I1 q1) λu s2 ⟨y,H2,I2,r2,q2⟩=>?_;exact hf v u s2 x y H2 I2 r1 r2 q2
theorem aI{op:Operator}{r:R2}(ho:OpR X (binaryOp op) r)(ha:PE X a ta)(hb:PE X b tb):PE X (.BinOp a op b pos) (tOp r ta tb):=by intro pins s σ H Q I h;exact wpAny_BinOp (cg9 ha hb I h λv u s2 x y H2 I2 rx ry q=>ho s2 σ H2 x y v u Q I2 rx ry q)
theorem lU(ho:UnR X (unaryOp op) r)(ha:PE X a ta):PE X (.UnaryOp op a pos) (tUn r ta):=by intro pins s σ H Q I h;exact UnaryOp_ (bW (ha s σ H _ I h) λv s1 ⟨x,H1,I1,r1,q1⟩=>ho s1 σ H1 x v Q I1 r1 q1)
theorem opI{f:Value->Value->Sem Value}{C:Int->Int->Prop}{g:Int->Int->Int}
 (rule:∀(i j:Int)(t u:Tok)(s:Shared)(Q:Value->Shared->Prop)(E:Value->Shared->Prop),C i j->Q (.int (g i j) s.toks) {s with toks:=s.toks+1}->wpAny (model X.prog X.w) X.A (f (.int i t) (.int j u)) Q E s):
 OpR X f (rI C λi j=>.int (g i j)):=by
 intro pins s σ H x y v u Q I rx ry h;obtain⟨i,j,rfl,rfl,hc,q⟩:=h;obtain⟨t,rfl⟩:=rx;obtain⟨t',rfl⟩:=ry;exact rule i j t t' s _ _ hc ⟨.int (g i j),H,I.tok _,⟨_,rfl⟩,q⟩
theorem dl8{f:Value->Value->Sem Value}{g:Int->Int->Int}
 (rule:∀(i j:Int)(t u:Tok)(s:Shared)(Q:Value->Shared->Prop)(E:Value->Shared->Prop),Q (.int (g i j) s.toks) {s with toks:=s.toks+1}->wpAny (model X.prog X.w) X.A (f (.int i t) (.int j u)) Q E s):
 OpR X f (yA λi j=>.int (g i j)):=by
 intro pins s σ H x y v u Q I rx ry h;obtain⟨i,j,rfl,rfl,q⟩:=h;obtain⟨t,rfl⟩:=rx;obtain⟨t',rfl⟩:=ry;exact rule i j t t' s _ _ ⟨.int (g i j),H,I.tok _,⟨_,rfl⟩,q⟩
theorem cm8{f:Value->Value->Sem Value}{g:Int->Int->Bool}
 (rule:∀(i j:Int)(t u:Tok)(s:Shared)(Q:Value->Shared->Prop)(E:Value->Shared->Prop),Q (.bool (g i j)) s->wpAny (model X.prog X.w) X.A (f (.int i t) (.int j u)) Q E s):
 OpR X f (yA λi j=>.bl (g i j)):=by
 intro pins s σ H x y v u Q I rx ry h;obtain⟨i,j,rfl,rfl,q⟩:=h;obtain⟨t,rfl⟩:=rx;obtain⟨t',rfl⟩:=ry;exact rule i j t t' s _ _ ⟨.bl (g i j),H,I,rfl,q⟩
def gQ(i j:Int):Prop:=0<j/\j<1073741824
def av1(i j:Int):Prop:=0<=j/\j<=1000000/\i.natAbs<2^64
theorem op_add:OpR X (binaryOp .Add) (yA λi j=>.int (i+j)):=dl8 λ_ _ _ _ _ _ _ q=>add_int q
theorem cX:OpR X (binaryOp .Sub) (yA λi j=>.int (i-j)):=dl8 λ_ _ _ _ _ _ _ q=>sub_int q
theorem fK:OpR X (binaryOp .FloorDiv) (rI gQ λi j=>.int (i/j)):=opI λi j _ _ _ _ _ hc q=>by have h1:(0:Int)<j:=hc.1;have h2:j<1073741824:=hc.2;exact floordiv_int (by omega) (by rw[Int.fdiv_eq_ediv_of_nonneg i (by omega)];exact q) (.inl (PyProof.noPylong_small (by omega)))
theorem bB:OpR X (binaryOp .Mod) (rI (λ_ j=>0<j) λi j=>.int (i%j)):=opI λi j _ _ _ _ _ hc q=>by have h1:(0:Int)<j:=hc;exact mod_int' (by omega) (by rw[Int.fmod_eq_emod_of_nonneg i (by omega)];exact q)
theorem oT:OpR X (binaryOp .Pow) (rI av1 λi j=>.int (i^j.toNat)):=opI λ_ _ _ _ _ _ _ hc q=>pow_int_small hc.1 hc.2.1 hc.2.2 q
theorem unI{f:Value->Sem Value}{g:Int->Int}
 (rule:∀(i:Int)(t:Tok)(s:Shared)(Q:Value->Shared->Prop)(E:Value->Shared->Prop),Q (.int (g i) s.toks) {s with toks:=s.toks+1}->wpAny (model X.prog X.w) X.A (f (.int i t)) Q E s):
 UnR X f (rU λi=>.int (g i)):=by
 intro pins s σ H x v Q I rx h;obtain⟨i,rfl,q⟩:=h;obtain⟨t,rfl⟩:=rx;exact rule i t s _ _ ⟨.int (g i),H,I.tok _,⟨_,rfl⟩,q⟩
theorem iT:UnR X (unaryOp .USub) (rU λi=>.int (-i)):=unI λ_ _ _ _ _ q=>neg_int q
end
def cq6:V->V->Bool
 |.non,.non=>true|.non,.int _=>true|.int _,.non=>true|.non,.bl _=>true|.bl _,.non=>true|.non,.str _=>true|.str _,.non=>true
 |.int _,.int _=>true|.bl _,.bl _=>true|.str _,.str _=>true|.byt _,.byt _=>true
 |.int _,.str _=>true|.str _,.int _=>true|.bl _,.str _=>true|.str _,.bl _=>true
 |_,_=>false
def rEq:R2:=λx y H Q=>cq6 x y=true/\Q (.bl (decide (x=y))) H
def rNe:R2:=λx y H Q=>cq6 x y=true/\Q (.bl (!decide (x=y))) H
theorem as7:decide (V.int i=V.int j)=(i==j):=by rw[Bool.eq_iff_iff];simp
theorem bf4:decide (V.bl i=V.bl j)=(i==j):=by rw[Bool.eq_iff_iff];simp
theorem an7:decide (V.str i=V.str j)=(i==j):=by rw[Bool.eq_iff_iff];simp
theorem bi7:decide (V.byt i=V.byt j)=(i.toList==j.toList):=by rw[Bool.eq_iff_iff];cases i;cases j;simp
section
variable {X : Cx} {a b c : Expr} {ta tb tc : TE} {pos : Pos}
theorem cZ(I:Inv X pins σ H s)(q:Q (.bl k) H)(e:k=k'):EP X pins σ Q (.bool k') s:=by subst e;exact⟨.bl k,H,I,rfl,q⟩
theorem ed2:OpR X (compareOp .Eq) rEq:=by
 intro pins s σ H x y v u Q I rx ry h;obtain⟨hs,q⟩:=h;cases x with
 |non=>
  cases rx;cases y with
  |non=>cases ry;exact PySem.EqNone.eq_none_none (cZ I q (by simp))
  |bl j=>cases ry;exact PySem.EqNone.eq_none_bool (cZ I q (by simp))
  |int j=>obtain⟨t',rfl⟩:=ry;exact PySem.EqNone.eq_none_int (cZ I q (by simp))
  |str j=>obtain⟨t',rfl⟩:=ry;exact PySem.EqNone.eq_none_str (cZ I q (by simp))
  |_=>exact absurd (show false=true from hs) Bool.false_ne_true
 |bl i=>
  cases rx;cases y with
  |non=>cases ry;exact PySem.EqNone.eq_bool_none (cZ I q (by simp))
  |bl j=>cases ry;exact eq_bool (cZ I q bf4)
  |str j=>obtain⟨t',rfl⟩:=ry;exact PySem.EqMixed.eq_bool_str (cZ I q (by simp))
  |_=>exact absurd (show false=true from hs) Bool.false_ne_true
 |int i=>
  obtain⟨t,rfl⟩:=rx;cases y with
  |non=>cases ry;exact PySem.EqNone.eq_int_none (cZ I q (by simp))
  |int j=>obtain⟨t',rfl⟩:=ry;exact eq_int (cZ I q as7)
  |str j=>obtain⟨t',rfl⟩:=ry;exact PySem.EqMixed.eq_int_str (cZ I q (by simp))
  |_=>exact absurd (show false=true from hs) Bool.false_ne_true
 |str i=>
  obtain⟨t,rfl⟩:=rx;cases y with
  |non=>cases ry;exact PySem.EqNone.eq_str_none (cZ I q (by simp))
  |bl j=>cases ry;exact PySem.EqMixed.eq_str_bool (cZ I q (by simp))
  |int j=>obtain⟨t',rfl⟩:=ry;exact PySem.EqMixed.eq_str_int (cZ I q (by simp))
  |str j=>obtain⟨t',rfl⟩:=ry;exact eq_str (cZ I q an7)
  |_=>exact absurd (show false=true from hs) Bool.false_ne_true
 |byt i=>
  obtain⟨t,rfl⟩:=rx;cases y with
  |byt j=>obtain⟨t',rfl⟩:=ry;exact PySem.W.eq_bytes (cZ I q bi7)
  |_=>exact absurd (show false=true from hs) Bool.false_ne_true
 |_=>cases y<;>exact absurd (show false=true from hs) Bool.false_ne_true
theorem eu0:OpR X (compareOp .NotEq) rNe:=by
 intro pins s σ H x y v u Q I rx ry h;obtain⟨hs,q⟩:=h;cases x with
 |non=>
  cases rx;cases y with
  |non=>cases ry;exact PySem.EqNone.ne_none_none (cZ I q (by simp))
  |bl j=>cases ry;exact PySem.EqNone.ne_none_bool (cZ I q (by simp))
  |int j=>obtain⟨t',rfl⟩:=ry;exact PySem.EqNone.ne_none_int (cZ I q (by simp))
  |str j=>obtain⟨t',rfl⟩:=ry;exact PySem.EqNone.ne_none_str (cZ I q (by simp))
  |_=>exact absurd (show false=true from hs) Bool.false_ne_true
 |bl i=>
  cases rx;cases y with
  |non=>cases ry;exact PySem.EqNone.ne_bool_none (cZ I q (by simp))
  |bl j=>cases ry;exact ne_bool (cZ I q (congrArg not bf4))
  |str j=>obtain⟨t',rfl⟩:=ry;exact PySem.EqMixed.ne_bool_str (cZ I q (by simp))
  |_=>exact absurd (show false=true from hs) Bool.false_ne_true
 |int i=>
  obtain⟨t,rfl⟩:=rx;cases y with
  |non=>cases ry;exact PySem.EqNone.ne_int_none (cZ I q (by simp))
  |int j=>obtain⟨t',rfl⟩:=ry;exact ne_int (cZ I q (congrArg not as7))
  |str j=>obtain⟨t',rfl⟩:=ry;exact PySem.EqMixed.ne_int_str (cZ I q (by simp))
  |_=>exact absurd (show false=true from hs) Bool.false_ne_true
 |str i=>
  obtain⟨t,rfl⟩:=rx;cases y with
  |non=>cases ry;exact PySem.EqNone.ne_str_none (cZ I q (by simp))
  |bl j=>cases ry;exact PySem.EqMixed.ne_str_bool (cZ I q (by simp))
  |int j=>obtain⟨t',rfl⟩:=ry;exact PySem.EqMixed.ne_str_int (cZ I q (by simp))
  |str j=>obtain⟨t',rfl⟩:=ry;exact ne_str (cZ I q (congrArg not an7))
  |_=>exact absurd (show false=true from hs) Bool.false_ne_true
 |byt i=>
  obtain⟨t,rfl⟩:=rx;cases y with
  |byt j=>obtain⟨t',rfl⟩:=ry;exact PySem.W.ne_bytes (cZ I q (congrArg not bi7))
  |_=>exact absurd (show false=true from hs) Bool.false_ne_true
 |_=>cases y<;>exact absurd (show false=true from hs) Bool.false_ne_true
theorem bs9:OpR X (compareOp .Lt) (yA λi j=>.bl (decide (i<j))):=cm8 λ_ _ _ _ _ _ _ q=>lt_int q
theorem gA:OpR X (compareOp .LtE) (yA λi j=>.bl (decide (i<=j))):=cm8 λ_ _ _ _ _ _ _ q=>le_int q
theorem bq1:OpR X (compareOp .Gt) (yA λi j=>.bl (decide (j<i))):=cm8 λ_ _ _ _ _ _ _ q=>gt_int q
theorem cg4:OpR X (compareOp .In) (λx y H Q=>∃i j,x=.str i/\y=.str j/\Q (.bl (!(Builtin.Str.occurrences j i 0 j.length 1).isEmpty)) H):=by intro pins s σ H x y v u Q I rx ry h;obtain⟨i,j,rfl,rfl,q⟩:=h;obtain⟨t,rfl⟩:=rx;obtain⟨t',rfl⟩:=ry;exact in_str (cZ I q rfl)
theorem dd8:OpR X (compareOp .Is) (λx y H Q=>y=.non/\Q (.bl (decide (x=.non))) H):=by
 intro pins s σ H x y v u Q I rx ry h;obtain⟨rfl,q⟩:=h;cases ry;refine is_none_gen (cZ I q ?_);cases x<;>first
  |(cases rx;rfl)
  |(obtain⟨t,rfl⟩:=rx;rfl)
theorem OpR.or(h:OpR X f r)(h':OpR X f r'):OpR X f (λx y H Q=>r x y H Q\/r' x y H Q):=by
 intro pins s σ H x y v u Q I rx ry q;rcases q with q|q
 . exact h s σ H x y v u Q I rx ry q
 . exact h' s σ H x y v u Q I rx ry q
theorem fT(b:Expr)(h:op≠ .In:=by decide)(h2:op≠ .NotIn:=by decide):behindInMarks op b=false:=by
 have e1:(op==CmpOp.In)=false:=by cases op<;>first|rfl|exact absurd rfl h
 have e2:(op==CmpOp.NotIn)=false:=by cases op<;>first|rfl|exact absurd rfl h2
 cases b<;>simp[behindInMarks,e1,e2]
theorem dH{op:CmpOp}{r:R2}(ho:OpR X (compareOp op) r)(ha:PE X a ta)(hb:PE X b tb)(hm:behindInMarks op b=false):PE X (.Compare a [op] [b] pos) (tOp r ta tb):=by intro pins s σ H Q I h;exact wpAny_Compare1 (cg9 ha hb I h λv u s2 x y H2 I2 rx ry q=>ho s2 σ H2 x y v u Q I2 rx ry q) hm
def bn1(t:TE):TT:=λσ H Q=>t σ H λx H'=>∃k,x=.bl k/\Q k H'
theorem bj7(ho:OpR X (compareOp op) r)(ha:PE X a ta)(hb:PE X b tb)(hm:behindInMarks op b=false):PT X (.Compare a [op] [b] pos) (bn1 (tOp r ta tb)):=by
 intro pins s σ H Q I h;refine wpAny_isTrue_Compare1 (bW (ha s σ H _ I h) λv s1 ⟨x,H1,I1,r1,q1⟩=>bW (hb s1 σ H1 _ I1 q1) λu s2 ⟨y,H2,I2,r2,q2⟩=>
  bW (ho s2 σ H2 x y v u _ I2 r1 r2 q2) λc s3 ⟨z,H3,I3,r3,k,e,q3⟩=>?_) hm
 subst e;cases r3;exact wpAny_truthy_bool ⟨H3,I3,q3⟩
def bj4(r r':R2)(ta tb tc:TE):TE:=λσ H Q=>ta σ H λx H1=>tb σ H1 λy H2=>r x y H2 λz H3=>∃k,z=.bl k/\
 (if k=true then tc σ H3 λw' H4=>r' y w' H4 Q else Q (.bl false) H3)
theorem aa4(ho:OpR X (compareOp op) r)(ho':OpR X (compareOp op') r')(ha:PE X a ta)(hb:PE X b tb)(hc:PE X c tc)
 (hm:lastMarks [op,op'] [b,c]=false:=by with_unfolding_all rfl):PE X (.Compare a [op,op'] [b,c] pos) (bj4 r r' ta tb tc):=by
 intro pins s σ H Q I h;refine Compare_chain (bW (ha s σ H _ I h) λv s1 ⟨x,H1,I1,r1,q1⟩=>chain_link (bW (hb s1 σ H1 _ I1 q1) λu s2 ⟨y,H2,I2,r2,q2⟩=>
  bW (ho s2 σ H2 x y v u _ I2 r1 r2 q2) λd s3 ⟨z,H3,I3,r3,k,e,q3⟩=>?_)) hm
 subst e;cases r3;refine wpAny_truthy_bool ?_;cases k with
 |false=>exact ite_ff ⟨.bl false,H3,I3,rfl,q3⟩
 |true=>exact ite_tt (chain_last (bW (hc s3 σ H3 _ I3 q3) λw' s4 ⟨z',H4,I4,r4,q4⟩=>ho' s4 σ H4 y z' u w' Q I4 r2 r4 q4))
theorem br4(ho:OpR X (compareOp op) r)(ho':OpR X (compareOp op') r')(ha:PE X a ta)(hb:PE X b tb)(hc:PE X c tc)
 (hm:lastMarks [op,op'] [b,c]=false:=by with_unfolding_all rfl):PT X (.Compare a [op,op'] [b,c] pos) (bn1 (bj4 r r' ta tb tc)):=by
 intro pins s σ H Q I h;refine isTrue_chain (bW (ha s σ H _ I h) λv s1 ⟨x,H1,I1,r1,q1⟩=>test_link (bW (hb s1 σ H1 _ I1 q1) λu s2 ⟨y,H2,I2,r2,q2⟩=>
  bW (ho s2 σ H2 x y v u _ I2 r1 r2 q2) λd s3 ⟨z,H3,I3,r3,k,e,q3⟩=>?_)) hm
 subst e;cases r3;refine wpAny_truthy_bool ?_;cases k with
 |false=>obtain⟨k',e',q'⟩:=q3;cases e';exact ite_ff ⟨H3,I3,q'⟩
 |true=>refine ite_tt (test_last (bW (hc s3 σ H3 _ I3 q3) λw' s4 ⟨z',H4,I4,r4,q4⟩=>bW (ho' s4 σ H4 y z' u w' _ I4 r2 r4 q4) λd' s5 ⟨z2,H5,I5,r5,k2,e2,q5⟩=>?_));subst e2;cases r5;exact wpAny_truthy_bool ⟨H5,I5,q5⟩
def bq2(K:PySem.W.Frag)(x:V)(H:Hp)(k:Bool):Prop:=
 match x with
 |.non=>k=false
 |.bl b=>k=b
 |.int i=>k=(i !=0)
 |.str y=>y.length<=sizeLine/\k=((y.length:Int) !=0)
 |.byt y=>y.size<=sizeLine/\k=((y.size:Int) !=0)
 |.ref p=>(∃xs,SqL K H p xs/\k=!xs.isEmpty)\/(∃xs,SqT K H p xs/\k=!xs.isEmpty)\/∃kvs,H p=some (.dK kvs)/\k=!kvs.isEmpty
 |_=>False
theorem cl0(r:KV kvs vs):(!vs.isEmpty)=!kvs.isEmpty:=by cases r<;>rfl
theorem ak6(r:Vals xs its):(!its.toArray.isEmpty)=!xs.isEmpty:=by cases r<;>simp
theorem ae2:(sizeLine:Nat)<2^63:=by rw[sizeLine_eq];decide
theorem dt8:eq5 X (λx H Q=>∃k,bq2 X.K x H k/\Q k H):=by
 intro pins s σ H x v Q I rx h;obtain⟨k,e,q⟩:=h;have hl:=ae2;have hs:sizeLine=16777216:=sizeLine_eq;cases x with
 |non=>cases rx;have e':k=false:=e;subst e';exact truthy_none ⟨H,I,q⟩
 |bl b=>cases rx;have e':k=b:=e;subst e';exact wpAny_truthy_bool ⟨H,I,q⟩
 |int i=>obtain⟨t,rfl⟩:=rx;have e':k=(i !=0):=e;subst e';exact PySem.P.truthy_int ⟨H,I,q⟩
 |str y=>obtain⟨t,rfl⟩:=rx;obtain⟨hy,e'⟩:y.length<=sizeLine/\k=((y.length:Int) !=0):=e;subst e';exact PySem.P.truthy_str (by omega) ⟨H,I.tok _,q⟩
 |byt y=>obtain⟨t,rfl⟩:=rx;obtain⟨hy,e'⟩:y.size<=sizeLine/\k=((y.size:Int) !=0):=e;subst e';exact PySem.W.truthy_bytes (by omega) ⟨H,I.tok _,q⟩
 |ref p=>
  cases rx;have e':(∃xs,SqL X.K H p xs/\k=!xs.isEmpty)\/(∃xs,SqT X.K H p xs/\k=!xs.isEmpty)\/∃kvs,H p=some (.dK kvs)/\k=!kvs.isEmpty:=e;rcases e' with⟨xs,hx,e'⟩|⟨xs,hx,e'⟩|⟨kvs,hx,e'⟩
  . subst e';obtain⟨its,r,pl,hz⟩:=I.list hx;have hlen:=r.length;exact wpAny_truthy_list pl.isList (by simp only[List.size_toArray];omega) ⟨H,I.tok _,by rw[ak6 r];exact q⟩
  . subst e';obtain⟨its,r,pl,hz⟩:=I.tuple hx;have hlen:=r.length;exact truthy_tuple pl (by simp only[List.size_toArray];omega) ⟨H,I.tok _,by rw[ak6 r];exact q⟩
  . subst e';obtain⟨hz,hS,vs,r,m⟩:kvs.length<=sizeLine/\(p==sysModules)=false/\∃vs,KV kvs vs/\s.heap.DictOf (sD X.prog X.w) p vs:=I.hok p _ hx;have hlen:kvs.length=vs.length:=Paired.length r;exact wpAny_truthy_dict hS m (by omega) ⟨H,I.tok _,by rw[cl0 r];exact q⟩
 |_=>exact(show False from e).elim
theorem cc6(ha:PE X a ta)(he:∀whole,isTrue a X.env whole=(do let v<-whole;standAt a.pos;holding [v] (truthy v))):
 PT X a (λσ H Q=>ta σ H λx H'=>∃k,bq2 X.K x H' k/\Q k H'):=by
 intro pins s σ H Q I h;exact isTrue_plain (bW (ha s σ H _ I h) λv s1 ⟨x,H1,I1,r1,q1⟩=>dt8 s1 σ H1 x v Q I1 r1 q1) (he _)
theorem op_add_str:OpR X (binaryOp .Add) (λx y H Q=>∃i j,x=.str i/\y=.str j/\i.length+j.length<=sizeLine/\Q (.str (i++j)) H):=by intro pins s σ H x y v u Q I rx ry h;obtain⟨i,j,rfl,rfl,hz,q⟩:=h;obtain⟨t,rfl⟩:=rx;obtain⟨t',rfl⟩:=ry;exact add_str (λt' tk=>⟨.str (i++j),H,I.tok _,⟨_,rfl⟩,q⟩) hz
theorem yW(r:Vals [x] us):∃u,us=[u]/\RelV x u:=by
 cases r with
 |cons r1 r2=>cases r2;exact⟨_,rfl,r1⟩
theorem bw8(r:Vals [x,y] us):∃u w',us=[u,w']/\RelV x u/\RelV y w':=by
 cases r with
 |cons r1 r2=>
  cases r2 with
  |cons r3 r4=>cases r4;exact⟨_,_,rfl,r1,r3⟩
theorem cf9:CallR X (.builtin "abs") (λxs H Q=>∃i,xs=[.int i]/\Q (.int (if i<0 then -i else i)) H):=by intro pins s σ H xs us Q I r h;obtain⟨i,rfl,q⟩:=h;obtain⟨u,rfl,t,rfl⟩:=yW r;exact call_abs_int λu tk=>⟨.int (if i<0 then -i else i),H,I.tok _,⟨_,rfl⟩,q⟩
theorem cz1(hc:X.calm=true):CallR X (.builtin "max") (λxs H Q=>∃i j,xs=[.int i,.int j]/\Q (.int (if j>i then j else i)) H):=by
 intro pins s σ H xs us Q I r h;obtain⟨i,j,rfl,q⟩:=h;obtain⟨u,w',rfl,⟨t,rfl⟩,⟨t',rfl⟩⟩:=bw8 r;refine max_two_ints (I.ok.hd hc) λh' tk k=>⟨_,H,I.kept k,?_,q⟩;by_cases hj:j>i
 . rw[if_pos hj,if_pos hj];exact⟨_,rfl⟩
 . rw[if_neg hj,if_neg hj];exact⟨_,rfl⟩
theorem cw4(hc:X.calm=true):CallR X (.builtin "min") (λxs H Q=>∃i j,xs=[.int i,.int j]/\Q (.int (if j<i then j else i)) H):=by
 intro pins s σ H xs us Q I r h;obtain⟨i,j,rfl,q⟩:=h;obtain⟨u,w',rfl,⟨t,rfl⟩,⟨t',rfl⟩⟩:=bw8 r;refine min_two_ints (I.ok.hd hc) λh' tk k=>⟨_,H,I.kept k,?_,q⟩;by_cases hj:j<i
 . rw[if_pos hj,if_pos hj];exact⟨_,rfl⟩
 . rw[if_neg hj,if_neg hj];exact⟨_,rfl⟩
theorem cm2:CallR X (.type "int") (λxs H Q=>(∃i,xs=[.int i]/\Q (.int i) H)\/∃k,xs=[.bl k]/\Q (.int (if k then 1 else 0)) H):=by
 intro pins s σ H xs us Q I r h;rcases h with⟨i,rfl,q⟩|⟨k,rfl,q⟩
 . obtain⟨u,rfl,t,rfl⟩:=yW r;exact call_int_int ⟨.int i,H,I,⟨_,rfl⟩,q⟩
 . obtain⟨u,rfl,r1⟩:=yW r;cases r1;exact call_int_bool ⟨.int (if k then 1 else 0),H,I.tok _,⟨_,rfl⟩,q⟩
theorem bw2:CallR X (.type "str") (λxs H Q=>∃i,xs=[.int i]/\i.natAbs.log2<1920/\Q (.str (toString i)) H):=by intro pins s σ H xs us Q I r h;obtain⟨i,rfl,hz,q⟩:=h;obtain⟨u,rfl,t,rfl⟩:=yW r;exact PySem.P.str_of_int hz ⟨.str _,H,I.tok _,⟨_,rfl⟩,q⟩
def dx8(K:PySem.W.Frag)(x:V)(H:Hp)(n:Nat):Prop:=
 match x with
 |.str y=>y.length<=sizeLine/\n=y.length
 |.byt y=>y.size<=sizeLine/\n=y.size
 |.ref p=>(∃xs,SqL K H p xs/\n=xs.length)\/∃xs,SqT K H p xs/\n=xs.length
 |_=>False
theorem cw8:CallR X (.builtin "len") (λxs H Q=>∃x n,xs=[x]/\dx8 X.K x H n/\Q (.int n) H):=by
 intro pins s σ H xs us Q I r h;obtain⟨x,n,rfl,e,q⟩:=h;obtain⟨u,rfl,rx⟩:=yW r;have hl:=ae2;have hs:sizeLine=16777216:=sizeLine_eq;cases x with
 |str y=>obtain⟨t,rfl⟩:=rx;obtain⟨hy,e'⟩:y.length<=sizeLine/\n=y.length:=e;subst e';exact len_str (by omega) ⟨.int _,H,I.tok _,⟨_,rfl⟩,q⟩
 |byt y=>obtain⟨t,rfl⟩:=rx;obtain⟨hy,e'⟩:y.size<=sizeLine/\n=y.size:=e;subst e';exact PySem.W.len_bytes (by omega) ⟨.int _,H,I.tok _,⟨_,rfl⟩,q⟩
 |ref p=>
  cases rx;have e':(∃xs,SqL X.K H p xs/\n=xs.length)\/∃xs,SqT X.K H p xs/\n=xs.length:=e;rcases e' with⟨xs,hx,e'⟩|⟨xs,hx,e'⟩
  . subst e';obtain⟨its,r',pl,hz⟩:=I.list hx;have hlen:=r'.length;exact Calls.call_len_list pl.isList (by simp only[List.size_toArray];omega) ⟨.int xs.length,H,I.tok _,⟨_,by simp only[List.size_toArray];rw[hlen]⟩,q⟩
  . subst e';obtain⟨its,r',pl,hz⟩:=I.tuple hx;have hlen:=r'.length;exact len_tuple pl (by simp only[List.size_toArray];omega) ⟨.int xs.length,H,I.tok _,⟨_,by simp only[List.size_toArray];rw[hlen]⟩,q⟩
 |_=>exact(show False from e).elim
theorem br6:CallR X (.builtin "divmod") (λxs H Q=>∃i j,xs=[.int i,.int j]/\gQ i j/\∀p,H p=none->Q (.ref p) (upd H p (.tup [.int (i/j),.int (i%j)]))):=by intro pins s σ H xs us Q I r h;obtain⟨i,j,rfl,⟨h1,h2⟩,q⟩:=h;obtain⟨u,w',rfl,⟨t,rfl⟩,⟨t',rfl⟩⟩:=bw8 r;refine divmod_int (by omega) ?_ (.inl (PyProof.noPylong_small (by omega)));rw[Int.fdiv_eq_ediv_of_nonneg i (by omega),Int.fmod_eq_emod_of_nonneg i (by omega)];have hn:H s.heap.objs.size=none:=I.hok.fresh (Nat.le_refl _);refine⟨.ref s.heap.objs.size,_,?_,rfl,q _ hn⟩;refine I.laid (λb o e=>Heap.get?_push_of_some _ e) (Nat.le_refl _) ⟨by simp only[List.length_cons,List.length_nil];rw[sizeLine_eq];decide,[.int (i/j) s.toks,.int (i%j) (s.toks+1)],.cons ⟨_,rfl⟩ (.cons ⟨_,rfl⟩ .nil),?_⟩;exact⟨_,Heap.get?_push_size s.heap rfl,rfl,0,rfl⟩
end
end L2
namespace L2
open PySem PySem.Spec PyProof.Rows
structure ObjM (h:Heap) (x dx C:Addr) (mA:Str->Option Value):Prop where
 obj:h.get? x=some (PySem.W.instObj C dx)
 ns:h.Ns1 dx mA
 ne:dx≠x
theorem av9{h:Heap}{dx:Addr}{mA:Str->Option Value}(n:h.Ns1 dx mA):∃od,h.get? dx=some od/\∀name,PySem.W.lookIn name od=some (mA name):=by
 obtain⟨o,es,ep,ho,hd,hk,_,hm⟩:=n;refine⟨o,ho,λname=>?_⟩;have e:=hm name;unfold nsFind findBy at e;rw[<-Array.find?_toList]at e;unfold PySem.W.lookIn;rw[hd];dsimp only;split
 . rename_i y q;rw[q]at e;exact congrArg some e
 . rename_i q;rw[q]at e;have a:es.toList.any (·.refKey)=false:=by rw[List.any_eq_false];intro y hy;obtain⟨z,t,hkey⟩:=hk y (Array.mem_toList_iff.mp hy);simp[DictEntry.refKey,hkey]
   have a':¬es.toList.any (·.refKey)=true:=by rw[a];exact Bool.false_ne_true
   rw[if_neg a'];exact congrArg some e
theorem ObjM.look(I:ObjM h x dx C mA):∃od,PySem.W.InstAt h x (PySem.W.instObj C dx) C (some od)/\∀name,PySem.W.lookIn name od=some (mA name):=
 let⟨od,ho,hl⟩:=av9 I.ns
 ⟨od,⟨I.obj,rfl,rfl,ho⟩,hl⟩
section
variable {prog : Program} {w : World} {A : Around} {E : Value → Shared → Prop} {s : Shared} {K : PySem.W.Frag} {x dx C f : Addr} {mA : Str → Option Value} {name : Str} {v : Value}
theorem da4(X:K.In s.heap)(I:ObjM s.heap x dx C mA)(hg:PySem.W.plainGet K C name=true)(hh:PySem.W.hasDictIn K C=true)
 (ha:PySem.W.findIn K (.ref C) name=some none)(hv:mA name=some v)(hv':PySem.W.handedIn v=true)(h:Q v {s with toks:=s.toks+1}):
 wpAny (model prog w) A (getAttr (.ref x) name expr) Q E s:=by
 obtain⟨od,J,hl⟩:=I.look;exact PySem.W.get_value X J (PySem.W.plainGet_of hg).1 (PySem.W.findObj_own hh ha rfl (by rw[hl,hv])) hv' h
theorem cv5(X:K.In s.heap)(I:ObjM s.heap x dx C mA)(hg:PySem.W.plainGet K C name=true)
 (hf:PySem.W.findIn K (.ref C) name=some (some (.ref f)))(ht:PySem.W.isFn K (.ref f)=true)(hv:mA name=none)(h:Q (.ref f,[.ref x]) s):
 wpAny (model prog w) A (getMethod (.ref x) name pl) Q E s:=by
 obtain⟨od,J,hl⟩:=I.look;exact PySem.W.method_fn X J (PySem.W.plainGet_of hg).1 (PySem.W.plainGet_of hg).2 hf (beq_iff_eq.mp ht) (by show(PySem.W.lookIn name od).map (·.isSome)=some false;rw[hl,hv];rfl) h
theorem dn4(X:K.In s.heap)(I:ObjM s.heap x dx C mA)
 (hs:PySem.W.findIn K (.ref C) "__setattr__"=some (some (.builtin "object.__setattr__")))(hp:PySem.W.plainOver K C=true)(ht:PySem.W.takerIn K C name=some none)(hh:PySem.W.hasDictIn K C=true)
 (hw:PySem.Within mA ns)(hsz:ns.length<=sizeLine)
 (h:∀h',ObjM h' x dx C (λy=>if y=name then some v else mA y)->Heap.SameBut dx s.heap h'->Q () {s with heap:=h',toks:=s.toks+2}):
 wpAny (model prog w) A (setAttr (.ref x) name v) Q E s:=by
 obtain⟨od,J,hl⟩:=I.look;refine PySem.W.set_plain X J hs (PySem.W.osa_open (s:={s with toks:=s.toks+1}) (r:=none) X J hp ht λb=>?_);obtain⟨cd,hc,hd'⟩:=PySem.W.any_some hh;have hx:s.heap.get? x=some ⟨.ref C,some dx,.plain,#[]⟩:=I.obj;refine wpAny_bind (wpAny_pure (wpAny_bind (wpAny_bind (wpAny_loadPart hx (wpAny_bind (PySem.W.Looks.here (s:={s with toks:=s.toks+1}) (PySem.W.looks_clsIn X hc) ?_))))));rw[hd'];refine wpAny_pure (a:=some dx) (wpAny_bind (wpAny_pure (wpAny_bind ?_)));refine wpAny_nsSet1 (s:={s with toks:=s.toks+1}) I.ns λh' hn2 hs2=>?_;obtain⟨oD,esD,epD,hoD,hdD,hcD⟩:=hn2.count (PySem.Within.cons name v hw);refine wpAny_bind (wpAny_lookBehind hoD (by rw[hdD];exact pastItsLine_dict (Nat.le_trans hcD (by rw[List.length_cons];omega))) ?_);exact wpAny_pure (h _ ⟨(hs2.2 _ (Ne.symm I.ne)).trans I.obj,hn2,I.ne⟩ hs2)
theorem cd8(X:K.In s.heap)(hm:PySem.W.makesIn K C=true)
 (hi:PySem.W.findIn K (.ref C) "__init__"=some (some (.ref f)))(hf:PySem.W.typeIn K (.ref f)=some (.type "function"))
 (h:codeAny (model prog w) (A.under (.builtin "type.__call__" ⟨.ref C::vs,kw⟩)) (.call (.ref f) ⟨.ref (s.heap.objs.size+1)::vs,kw⟩) (PySem.W.InitBack (s.heap.objs.size+1) R)
  {s with heap:=(s.heap.push PySem.W.emptyDict).push (PySem.W.instObj C s.heap.objs.size)}):
 codeAny (model prog w) A (.call (.ref C) ⟨vs,kw⟩) R s:=by
 obtain⟨hh,g,d,t,os⟩:=s;exact PySem.W.make_core (PySem.W.makes_of X hm) (PySem.W.looks_findIn X hi) (λself=>PySem.W.bind_fn X self hf) (.inl rfl) h
end
def lK(f:Str)(v:V):List (Str×V)->List (Str×V)
 |[]=>[(f,v)]
 |(g,x)::r=>if g=f then(g,v)::r else(g,x)::lK f v r
theorem ae3(f g:Str)(v:V):∀fs:List (Str×V),(lK f v fs).lookup g=if g=f then some v else fs.lookup g
 |[]=>by
  show List.lookup g [(f,v)]=_;by_cases h:g=f
  . have hb:(g==f)=true:=beq_iff_eq.mpr h;simp only[List.lookup,hb,if_pos h]
  . have hb:(g==f)=false:=beq_eq_false_iff_ne.mpr h;simp only[List.lookup,hb,if_neg h]
 |(k,x)::r=>by
  have ih:=ae3 f g v r;rw[show lK f v ((k,x)::r)=(if k=f then(k,v)::r else(k,x)::lK f v r) from rfl];by_cases hk:k=f
  . rw[if_pos hk];by_cases h:g=k
    . have hb:(g==k)=true:=beq_iff_eq.mpr h;simp only[List.lookup,hb,if_pos (h.trans hk)]
    . have hb:(g==k)=false:=beq_eq_false_iff_ne.mpr h;simp only[List.lookup,hb,if_neg (λe:g=f=>h (e.trans hk.symm))]
  . rw[if_neg hk];by_cases h:g=k
    . have hb:(g==k)=true:=beq_iff_eq.mpr h;simp only[List.lookup,hb,if_neg (λe:g=f=>hk (h.symm.trans e))]
    . have hb:(g==k)=false:=beq_eq_false_iff_ne.mpr h;simp only[List.lookup,hb];exact ih
theorem ad2(f:Str)(v:V):∀fs:List (Str×V),f∈(lK f v fs).map (·.1)/\∀g,g∈fs.map (·.1)->g∈(lK f v fs).map (·.1)
 |[]=>⟨by simp[lK],λg h=>by simp at h⟩
 |(k,x)::r=>by
  obtain⟨i1,i2⟩:=ad2 f v r;rw[show lK f v ((k,x)::r)=(if k=f then(k,v)::r else(k,x)::lK f v r) from rfl];by_cases hk:k=f
  . rw[if_pos hk];subst hk;exact⟨by simp,λg h=>by simpa using h⟩
  . rw[if_neg hk];refine⟨?_,λg h=>?_⟩
    . rw[List.map_cons];exact List.mem_cons_of_mem _ i1
    . rw[List.map_cons]at h⊢;rcases List.mem_cons.mp h with e|e
      . exact List.mem_cons.mpr (.inl e)
      . exact List.mem_cons_of_mem _ (i2 g e)
theorem ap3(f:Str)(v:V):∀fs:List (Str×V),(lK f v fs).length<=fs.length+1
 |[]=>by simp[lK]
 |(k,x)::r=>by
  have ih:=ap3 f v r;rw[show lK f v ((k,x)::r)=(if k=f then(k,v)::r else(k,x)::lK f v r) from rfl];by_cases hk:k=f
  . rw[if_pos hk,List.length_cons,List.length_cons];omega
  . rw[if_neg hk,List.length_cons,List.length_cons];omega
theorem RelO.some_of(r:RelO (some v) o):∃u,o=some u/\RelV v u:=by
 cases o with
 |none=>exact(show False from r).elim
 |some u=>exact⟨u,rfl,r⟩
theorem RelO.none_of(r:RelO none o):o=none:=by
 cases o with
 |none=>rfl
 |some u=>exact(show False from r).elim
theorem at9(r:RelV v u):PySem.W.handedIn u=true:=by
 cases v with
 |non=>cases(show u=Value.none from r);rfl
 |bl b=>cases(show u=Value.bool b from r);rfl
 |int i=>obtain⟨t,e⟩:=(show∃t,u=Value.int i t from r);cases e;rfl
 |str x=>obtain⟨t,e⟩:=(show∃t,u=Value.str x t from r);cases e;rfl
 |byt b=>obtain⟨t,e⟩:=(show∃t,u=Value.bytes b t from r);cases e;rfl
 |flt b=>obtain⟨t,e⟩:=(show∃t,u=Value.float b t from r);cases e;rfl
 |ref a=>cases(show u=Value.ref a from r);rfl
 |ty n=>cases(show u=Value.type n from r);rfl
section
variable {P : Program} {w : World} {H H' : Hp} {h h' : Heap} {a C dx : Addr} {fs fs' : List (Str × V)}
theorem ap7(hok:HOk P w H h)(e:H a=some (.ins C dx fs)):∃mA,ObjM h a dx C mA/\(∀f,RelO (fs.lookup f) (mA f))/\PySem.Within mA (fs.map (·.1))/\fs.length<=1000/\H dx=some (.own a):=by obtain⟨d,z,ne,ob,mA,n,r,q⟩:=(show ObjOk P w H h a (.ins C dx fs) from hok a _ e);exact⟨mA,⟨ob,n,ne⟩,r,q,z,d⟩
end
structure Cls (K:PySem.W.Frag) (C:Addr):Prop where
 pg:PySem.W.plainGet K C Str.empty=true
 hd:PySem.W.hasDictIn K C=true
 po:PySem.W.plainOver K C=true
 sa:PySem.W.findIn K (.ref C) "__setattr__"=some (some (.builtin "object.__setattr__"))
theorem Cls.get{K:PySem.W.Frag}{C:Addr}(c:Cls K C)(f:Str):PySem.W.plainGet K C f=true:=c.pg
def NoAttr(K:PySem.W.Frag)(C:Addr)(f:Str):Prop:=PySem.W.findIn K (.ref C) f=some none
theorem NoAttr.taker{K:PySem.W.Frag}{C:Addr}{f:Str}(n:NoAttr K C f):PySem.W.takerIn K C f=some none:=by unfold PySem.W.takerIn;rw[show PySem.W.findIn K (.ref C) f=some none from n];rfl
structure cd7 (K:PySem.W.Frag) (C:Addr) (m:Str) (f:Addr):Prop where
 at_:PySem.W.findIn K (.ref C) m=some (some (.ref f))
 fn:PySem.W.isFn K (.ref f)=true
 kp:PySem.W.keepIn K (.ref f)=true
section
variable {X : Cx} {pins : List (Addr × Obj)} {σ : St} {H : Hp} {s : Shared} {a C dx : Addr} {fs : List (Str × V)} {f : Str} {v : V} {A : Around} {E : Value → Shared → Prop}
theorem bu9(I:Inv X pins σ H s)(e:H a=some (.ins C dx fs))(c:Cls X.K C)(n:NoAttr X.K C f)(l:fs.lookup f=some v)
 (h:∀u s',Inv X pins σ H s'->RelV v u->Q u s'):wpAny (model X.prog X.w) A (getAttr (.ref a) f b) Q E s:=by
 obtain⟨mA,O,r,_,_,_⟩:=ap7 I.hok e;obtain⟨u,hu,ru⟩:=RelO.some_of (v:=v) (o:=mA f) (by rw[<-l];exact r f);exact da4 I.kIn O (c.get f) c.hd n hu (at9 ru) (h u _ (I.tok _) ru)
theorem aq5(I:Inv X pins σ H s)(e:H a=some (.ins C dx fs))(c:Cls X.K C)(k:cd7 X.K C m g)(l:fs.lookup m=none)
 (h:Q (.ref g,[.ref a]) s):wpAny (model X.prog X.w) A (getMethod (.ref a) m pl) Q E s:=by
 obtain⟨mA,O,r,_,_,_⟩:=ap7 I.hok e;have hn:mA m=none:=RelO.none_of (by rw[<-l];exact r m);exact cv5 I.kIn O (c.get m) k.at_ k.fn hn h
theorem cb0(I:Inv X pins σ H s)(e:H a=some (.ins C dx fs))(c:Cls X.K C)(n:NoAttr X.K C f)(hl:fs.length<1000)(ry:RelV y u)
 (h:∀s',Inv X pins σ (upd H a (.ins C dx (lK f y fs))) s'->Q () s'):wpAny (model X.prog X.w) A (setAttr (.ref a) f u) Q E s:=by
 obtain⟨mA,O,r,wi,_,ho⟩:=ap7 I.hok e;have hz:(fs.map (·.1)).length<=sizeLine:=by rw[List.length_map,sizeLine_eq];omega
 refine dn4 I.kIn O c.sa c.po n.taker c.hd wi hz λh' O' sb=>h _ ?_;have hd:∃o,h'.get? dx=some o:=let⟨o,_,_,e',_⟩:=O'.ns;⟨o,e'⟩
 refine I.write (x:=a) (e:=dx) (by rw[e];exact True.intro) (.inr ho) (λb q hb z=>(sb.2 b hb).trans z) hd ?_;refine⟨by rw[bA O.ne];exact ho,?_,O.ne,O'.obj,_,O'.ns,λg=>?_,λg hg=>?_⟩
 . have:=ap3 f y fs;omega
 . show RelO ((lK f y fs).lookup g) (if g=f then some u else mA g);rw[ae3];by_cases q:g=f
   . rw[if_pos q,if_pos q];exact ry
   . rw[if_neg q,if_neg q];exact r g
 . by_cases q:g=f
   . rw[q];exact(ad2 f y fs).1
   . refine(ad2 f y fs).2 g (wi g λz=>hg ?_);show(if g=f then some u else mA g)=none;rw[if_neg q];exact z
theorem Inv.made(I:Inv X pins σ H s):Inv X pins σ (upd (upd H s.heap.objs.size (.own (s.heap.objs.size+1))) (s.heap.objs.size+1) (.ins C s.heap.objs.size []))
 {s with heap:=(s.heap.push PySem.W.emptyDict).push (PySem.W.instObj C s.heap.objs.size)}:=by
 have e1:(s.heap.push PySem.W.emptyDict).get? s.heap.objs.size=some PySem.W.emptyDict:=Heap.get?_push_size s.heap rfl;have e2:((s.heap.push PySem.W.emptyDict).push (PySem.W.instObj C s.heap.objs.size)).get? (s.heap.objs.size+1)=some (PySem.W.instObj C s.heap.objs.size):=by have:=Heap.get?_push_size (s.heap.push PySem.W.emptyDict) (o:=PySem.W.instObj C s.heap.objs.size) rfl;rwa[Heap.size_push]at this
 have e3:(s.heap.push PySem.W.emptyDict).Ns s.heap.objs.size (λ_=>none):=⟨PySem.W.emptyDict,#[],_,e1,rfl,(λe he=>absurd he (by simp)),λ_=>rfl⟩;have I1:=I.laid (a:=s.heap.objs.size) (o:=.own (s.heap.objs.size+1)) (h':=s.heap.push PySem.W.emptyDict) (t':=s.toks) (λb u q=>Heap.get?_push_of_some _ q) (Nat.le_refl _) ⟨_,e1⟩;refine I1.laid (a:=s.heap.objs.size+1) (o:=.ins C s.heap.objs.size []) (t':=s.toks) (λb u q=>Heap.get?_push_of_some _ q) (Nat.le_of_eq (Heap.size_push _ _)) ?_;have ne:s.heap.objs.size≠s.heap.objs.size+1:=Nat.ne_of_lt (Nat.lt_succ_self _);refine⟨by rw[bA ne,cJ],Nat.zero_le _,ne,e2,λ_=>none,(Heap.Ns1.of_empty e3).at λo q=>Heap.get?_push_of_some _ q,λ_=>True.intro,λy hy=>absurd rfl hy⟩
theorem be8(hb:attributeBase e f env (eval e env)=eval e env)
 (h:wpAny (model prog w) A (eval e env) (λo s₁=>wpAny (model prog w) A (getAttr o f true) Q E s₁) E s):wpAny (model prog w) A (eval (.Attribute e f pos) env) Q E s:=
 Attribute_any_ h (by rw[arm_eval_Attribute,hb])
end
def cg8(K:PySem.W.Frag)(ta:TE)(f:Str):TE:=λσ H Q=>ta σ H λx H1=>∃a C dx fs v,x=.ref a/\H1 a=some (.ins C dx fs)/\Cls K C/\NoAttr K C f/\fs.lookup f=some v/\Q v H1
def cy5(K:PySem.W.Frag)(ta tv:TE)(f:Str):TS:=λD σ H=>tv σ H λy H1=>ta σ H1 λx H2=>∃a C dx fs,x=.ref a/\H2 a=some (.ins C dx fs)/\Cls K C/\NoAttr K C f/\fs.length<1000/\
 D.nx σ (upd H2 a (.ins C dx (lK f y fs)))
section
variable {X : Cx} {o e value : Expr} {f : Str} {pos pos' tpos : Pos} {ta tv : TE}
theorem dn5(he:PE X e ta)(hb:attributeBase e f X.env (eval e X.env)=eval e X.env):PE X (.Attribute e f pos) (cg8 X.K ta f):=by intro pins s σ H Q I h;refine be8 hb (bW (he s σ H _ I h) λu s1 ⟨x,H1,I1,rx,a,C,dx,fs,v,ex,ea,c,n,l,q⟩=>?_);subst ex;obtain rfl:u=Value.ref a:=rx;exact bu9 I1 ea c n l λu' s2 I2 ru=>⟨v,H1,I2,ru,q⟩
theorem de9(ha:PE X o ta)(hv:PE X value tv)(hs:swapsWith value (some (.Attribute o f pos')) pos.line X.env=pure false):PS X (.Assign [.Attribute o f pos'] value pos) (cy5 X.K ta tv f):=by intro pins s σ H D I h;refine plainObj_wpAny_Assign_Attribute (bW (hv s σ H _ I h) λu s1 ⟨y,H1,I1,ry,q⟩=>bW (ha s1 σ H1 _ I1 q) λov s2 ⟨x,H2,I2,rx,a,C,dx,fs,ex,ea,c,n,l,q2⟩=>?_) hs;subst ex;obtain rfl:ov=Value.ref a:=rx;exact cb0 I2 ea c n l ry λs3 I3=>⟨σ,_,I3,q2⟩
end
section
variable {X : Cx} {pins : List (Addr × Obj)} {σ : St} {H : Hp} {s : Shared} {A : Around} {E : Value → Shared → Prop} {Q : Value → Shared → Prop} {c : Value} {b : Bool}
end
end L2
namespace L2
open PySem PySem.Spec PyProof.Rows
structure Room (k:Nat) (A:Around):Prop where
 hd:A.handled=none
 dp:A.depth+3*k+5<recursionLimit
 un:A.units+16*k+200<cLine
theorem Room.mono(r:Room k A)(h:j<=k):Room j A:=⟨r.hd,by have:=r.dp;omega,by have:=r.un;omega⟩
theorem Room.deeper(r:Room (k+1) A)(env:Env):Room k (A.deeper env):=
 ⟨r.hd,by have:=r.dp;show A.depth+1+3*k+5<_;omega,by have:=r.un;show A.units+3+16*k+200<_;omega⟩
theorem cu0{A:Around}{C:Addr}{us:List Value}{kw:List (Str×Value)}:(A.under (.builtin "type.__call__" ⟨.ref C::us,kw⟩)).depth=A.depth+1:=by first|rfl|simp[Around.under,Code.weight,Code.isCreation,Code.isGuard,Code.isCaller,Code.frames,Code.isFrame,guardIds]
theorem bc9{A:Around}{C:Addr}{us:List Value}{kw:List (Str×Value)}:(A.under (.builtin "type.__call__" ⟨.ref C::us,kw⟩)).units=A.units+1:=by first|rfl|simp[Around.under,Code.cUnits,Code.frames,Code.isFrame]
theorem Room.make(r:Room (k+1) A)(C:Addr)(us:List Value)(kw:List (Str×Value)):Room k (A.under (.builtin "type.__call__" ⟨.ref C::us,kw⟩)):=
 ⟨r.hd,by have:=r.dp;rw[cu0];omega,by have:=r.un;rw[bc9];omega⟩
theorem Room.depth(r:Room k A):A.depth<recursionLimit:=by have:=r.dp;omega
theorem Room.units(r:Room k A):A.units+64<cLine:=by have:=r.un;omega
def ac4:TA:=λ_ H Q=>Q [] H
def wI(ta:TE)(tr:TA):TA:=λσ H Q=>ta σ H λx H1=>tr σ H1 λxs H2=>Q (x::xs) H2
section
variable {X : Cx} {e : Expr} {es : List Expr} {te : TE} {t : TA} {pos : Pos}
theorem qS:PA X [] ac4:=λ_ _ _ _ H Q I h=>Calls.spliced_nil ⟨[],H,I,.nil,h⟩
theorem aG(ha:PE X e te)(hr:PA X es t)(hs:starEach (e::es) X.env=(false,eval e X.env)::starEach es X.env:=by rfl):PA X (e::es) (wI te t):=by intro pos pins s σ H Q I h;rw[hs];show wpAny _ _ (spliced ((false,eval e X.env)::backTo pos (starEach es X.env))) _ _ s;refine Calls.spliced_cons (bW (ha s σ H _ I h) λu s1 ⟨x,H1,I1,r1,q1⟩=>?_);exact bW (hr pins s1 σ H1 _ I1 q1) λus s2 ⟨xs,H2,I2,r2,q2⟩=>⟨x::xs,H2,I2,.cons r1 r2,q2⟩
def dm6(t:TA):TE:=λσ H Q=>t σ H λxs H1=>xs.length<=sizeLine/\∀p,H1 p=none->Q (.ref p) (upd H1 p (.tup xs))
def dg6(t:TA):TE:=λσ H Q=>t σ H λxs H1=>xs.length<=sizeLine/\∀p,H1 p=none->Q (.ref p) (upd H1 p (.lst xs))
theorem rB{x1}(h:PA X es t):PE X (.Tuple es x1 pos) (dm6 t):=by intro pins s σ H Q I hq;refine wpAny_Tuple_spliced (bW (h pins s σ H _ I hq) λus s1 ⟨xs,H1,I1,r,z,q⟩=>⟨by rw[<-r.length];exact z,?_⟩);have hf:H1 s1.heap.objs.size=none:=I1.hok.fresh (Nat.le_refl _);refine⟨.ref s1.heap.objs.size,upd H1 s1.heap.objs.size (.tup xs),I1.laid (t':=s1.toks) (λb u e=>Heap.get?_push_of_some _ e) (Nat.le_refl _) ?_,rfl,q _ hf⟩;exact⟨z,us,r,⟨_,Heap.get?_push_size _ rfl,rfl,_,rfl⟩⟩
theorem bL(h:PA X es t):PE X (.List es pos) (dg6 t):=by intro pins s σ H Q I hq;refine wpAny_List_spliced (bW (h pins s σ H _ I hq) λus s1 ⟨xs,H1,I1,r,z,q⟩=>⟨by rw[<-r.length];exact z,?_⟩);have hf:H1 s1.heap.objs.size=none:=I1.hok.fresh (Nat.le_refl _);refine⟨.ref s1.heap.objs.size,upd H1 s1.heap.objs.size (.lst xs),I1.laid (t':=s1.toks) (λb u e=>Heap.get?_push_of_some _ e) (Nat.le_refl _) ?_,rfl,q _ hf⟩;exact⟨z,us,0,r,Heap.get?_push_size _ rfl⟩
end
abbrev Sp:=List V->Hp->VK->XK->Prop
abbrev uQ:=List Env->Hp->Shared->XK->Value->Shared->Prop
structure Env0 (P:Program) (w:World) (K:PySem.W.Frag) (mg:Str->Option Value) (base:Heap) (A:Around) (outer:List Env) (s:Shared) (H:Hp):Prop where
 frames:A.frames=some outer
 mod:Mod K mg base
 bs:∀b o,base.get? b=some o->s.heap.get? b=some o/\H b=none
 bsz:base.objs.size<=s.heap.objs.size
 funs:s.heap.FunFrames base outer
 frf:∀b∈oR outer,H b=none
 hok:HOk P w H s.heap
 bare:AllBare s.gens
def CE(outer:List Env)(P:Program)(w:World)(H:Hp)(s:Shared)(Q:VK)(u:Value)(s':Shared):Prop:=
 ∃v H',s'.os=s.os/\AllBare s'.gens/\Un (oR outer) [] H H' s.heap s'.heap/\HOk P w H' s'.heap/\RelV v u/\Q v H'
def CR(CX:uQ)(outer:List Env)(P:Program)(w:World)(H:Hp)(s:Shared)(Q:VK)(E:XK)(r:Result)(s':Shared):Prop:=
 match r with
 |.ok (.ret u)=>CE outer P w H s Q u s'
 |.ok _=>False
 |.error e=>CX outer H s E e s'
structure FnOk (P:Program) (w:World) (K:PySem.W.Frag) (mg:Str->Option Value) (base:Heap) (CX:uQ) (k:Nat) (f:Addr) (fd:FuncData) (ps:List Str) (sp:Sp):Prop where
 len:∀vs H Q E,sp vs H Q E->vs.length=ps.length
 run:∀(A:Around)(outer:List Env)(s:Shared)(H:Hp)(args:Args)(us:List Value)(vs:List V)(Q:VK)(E:XK),Room k A->Env0 P w K mg base A outer s H->BindsTo s fd args (ps.zip us)->Vals vs us->sp vs H Q E->
  codeAny (model P w) A (.call (.ref f) args) (CR CX outer P w H s Q E) s
theorem FnOk.mono{P:Program}{w:World}{K:PySem.W.Frag}{mg:Str->Option Value}{base:Heap}{CX:uQ}{j k:Nat}{f:Addr}{fd:FuncData}{ps:List Str}{sp:Sp}(F:FnOk P w K mg base CX j f fd ps sp)(h:j<=k):
 FnOk P w K mg base CX k f fd ps sp:=⟨F.len,λA outer s H args us vs Q E hr=>F.run A outer s H args us vs Q E (hr.mono h)⟩
theorem FnOk.imp{P:Program}{w:World}{K:PySem.W.Frag}{mg:Str->Option Value}{base:Heap}{CX:uQ}{k:Nat}{f:Addr}{fd:FuncData}{ps:List Str}{sp sp':Sp}(F:FnOk P w K mg base CX k f fd ps sp)
 (h:∀vs H Q E,sp' vs H Q E->sp vs H Q E):FnOk P w K mg base CX k f fd ps sp':=
 ⟨λvs H Q E q=>F.len vs H Q E (h _ _ _ _ q),λA outer s H args us vs Q E hr he hb hv hs=>F.run A outer s H args us vs Q E hr he hb hv (h _ _ _ _ hs)⟩
theorem Env0.make{P:Program}{w:World}{K:PySem.W.Frag}{mg:Str->Option Value}{base:Heap}{A:Around}{outer:List Env}{s:Shared}{H:Hp}(e:Env0 P w K mg base A outer s H)(C:Addr)(us:List Value)(kw:List (Str×Value)):
 Env0 P w K mg base (A.under (.builtin "type.__call__" ⟨.ref C::us,kw⟩)) outer s H:=⟨by first|exact e.frames|(simpa[Around.under,Code.envs,Code.isFrame,pushEnvs]using e.frames),e.mod,e.bs,e.bsz,e.funs,e.frf,e.hok,e.bare⟩
section
variable {X : Cx} {pins : List (Addr × Obj)} {σ : St} {H : Hp} {s s' : Shared}
theorem Inv.env0(I:Inv X pins σ H s):Env0 X.prog X.w X.K X.mg X.base X.A X.stack s H:=
 ⟨I.ok.frames,I.ok.mod,I.bs,Nat.le_trans I.ok.bsz I.sz,I.stack,I.stkFree,I.hok,I.bare⟩
theorem Inv.after(I:Inv X pins σ H s)(h:CE X.stack X.prog X.w H s Q u s'):EP X pins σ Q u s':=by obtain⟨v,H',os,bare,un,hok,r,q⟩:=h;obtain⟨hh,g,d,t,os'⟩:=s';obtain rfl:os'=s.os:=os;exact⟨v,H',I.call (h':=hh) (g':=g) (d':=d) (t':=t) (ch:=[]) un hok bare (λb z=>absurd z (by simp)),r,q⟩
end
def ee2(sp:Sp)(dvs:List V)(E:XK)(t:TA):TE:=λσ H Q=>t σ H λvs H1=>sp (vs++dvs) H1 Q E
def cw0(C:Addr)(sp:Sp)(dvs:List V)(E:XK)(t:TA):TE:=λσ H Q=>t σ H λvs H1=>∀x dx,H1 x=none->H1 dx=none->dx≠x->
 sp (.ref x::(vs++dvs)) (upd (upd H1 dx (.own x)) x (.ins C dx [])) (λv H2=>v=.non/\Q (.ref x) H2) E
def Binds(K:PySem.W.Frag)(fd:FuncData)(ps:List Str)(ds:List Value):Prop:=
 ∀(s:Shared)(us:List Value),K.In s.heap->(us++ds).length=ps.length->BindsTo s fd ⟨us,[]⟩ (ps.zip (us++ds))
theorem Binds.all{K:PySem.W.Frag}{fd:FuncData}{ps:List Str}(h:∀us:List Value,us.length=ps.length->bindArgs fd ⟨us,[]⟩=pure (ps.zip us)):Binds K fd ps []:=λs us _ hl=>by rw[List.append_nil]at hl⊢;exact .of_eq (h us hl)
def vM(CX:uQ)(X:Cx)(E:XK):Prop:=∀(pins:List (Addr×Obj))(σ:St)(H:Hp)(s:Shared)(e:Value)(s':Shared),Inv X pins σ H s->CX X.stack H s E e s'->X.xe e s'
section
variable {X : Cx} {CX : uQ} {k : Nat} {f C : Addr} {fd : FuncData} {ps : List Str} {sp : Sp} {dvs : List V} {ds : List Value} {E : XK} {x m : Str} {p pos apos : Pos} {e o : Expr} {es : List Expr} {ta : TE} {t : TA}
theorem at5(F:FnOk X.prog X.w X.K X.mg X.base CX k f fd ps sp)(hr:Room k X.A)(hb:Binds X.K fd ps ds)(hd:Vals dvs ds)(hx:vM CX X E)
 (I:Inv X pins σ H s)(r:Vals vs us)(h:sp (vs++dvs) H Q E):wpAny (model X.prog X.w) X.A (call (.ref f) us) (EP X pins σ Q) X.xe s:=by
 have r2:Vals (vs++dvs) (us++ds):=r.append hd;have hl:(us++ds).length=ps.length:=by rw[<-r2.length];exact F.len _ _ _ _ h
 refine wpAny_call (codeAny_mono (F.run X.A X.stack s H ⟨us,[]⟩ (us++ds) (vs++dvs) Q E hr I.env0 (hb s us I.kIn hl) r2 h) λr s' hq=>?_);cases r with
 |error e=>exact hx pins σ H s e s' I hq
 |ok fl=>
  cases fl with
  |ret u=>exact I.after hq
  |next=>exact False.elim hq
  |brk=>exact False.elim hq
  |cont=>exact False.elim hq
theorem dp1(F:FnOk X.prog X.w X.K X.mg X.base CX k f fd ps sp)(hr:Room k X.A)(hg:Gl X x)(hm:X.mg x=some (.ref f))(hk:PySem.W.keepIn X.K (.ref f)=true)(hb:Binds X.K fd ps ds)(hd:Vals dvs ds)(hx:vM CX X E)
 (ha:PA X (e::es) t)(hdb:(x==("__debug__":Str))=false:=by decide)(he:starEach (e::es) X.env=(false,eval e X.env)::starEach es X.env:=by rfl)(hpl:(backTo pos (starEach es X.env)).any (·.1)=false:=by rfl):
 PE X (.Call (.Name x p) (e::es) [] pos) (ee2 sp dvs E t):=by
 intro pins s σ H Q I h;refine wpAny_Call_Name_kw (mL I hg hm ?_ hdb);refine PySem.W.callWith_K (h₀:=X.base) I.ok.mod.kin hk (bW (ha pins s σ H _ I h) λus s1 ⟨vs,H1,I1,r,q⟩=>⟨I1.kIn,?_⟩) he hpl;exact at5 F hr hb hd hx I1 r q
structure Mk (K:PySem.W.Frag) (C f:Addr):Prop where
 makes:PySem.W.makesIn K C=true
 init:PySem.W.findIn K (.ref C) "__init__"=some (some (.ref f))
 fn:PySem.W.isFn K (.ref f)=true
 kp:PySem.W.keepIn K (.ref C)=true
theorem cx7(M:Mk X.K C f)(F:FnOk X.prog X.w X.K X.mg X.base CX k f fd ps sp)(hr:Room (k+1) X.A)(hb:Binds X.K fd ps ds)(hd:Vals dvs ds)
 (hx:vM CX X E)(I:Inv X pins σ H s)(r:Vals vs us)
 (h:∀x dx,H x=none->H dx=none->dx≠x->sp (.ref x::(vs++dvs)) (upd (upd H dx (.own x)) x (.ins C dx [])) (λv H2=>v=.non/\Q (.ref x) H2) E):
 wpAny (model X.prog X.w) X.A (call (.ref C) us) (EP X pins σ Q) X.xe s:=by
 have hq:=h (s.heap.objs.size+1) s.heap.objs.size (I.hok.fresh (Nat.le_succ _)) (I.hok.fresh (Nat.le_refl _)) (Nat.ne_of_lt (Nat.lt_succ_self _));have I2:=Inv.made (C:=C) I;have r2:Vals (V.ref (s.heap.objs.size+1)::(vs++dvs)) (Value.ref (s.heap.objs.size+1)::(us++ds)):=.cons rfl (r.append hd);have hl:(Value.ref (s.heap.objs.size+1)::us++ds).length=ps.length:=by have e:=r2.length;rw[F.len _ _ _ _ hq]at e;exact e.symm
 refine wpAny_call (cd8 (f:=f) I.kIn M.makes M.init (beq_iff_eq.mp M.fn) (codeAny_mono (F.run _ X.stack _ _ ⟨Value.ref (s.heap.objs.size+1)::us,[]⟩ (Value.ref (s.heap.objs.size+1)::(us++ds)) _ _ E (hr.make C us [])
  (I2.env0.make C us []) (hb _ (Value.ref (s.heap.objs.size+1)::us) I2.kIn hl) r2 hq) λr s' hq'=>?_))
 cases r with
 |error e=>exact hx pins σ _ _ e s' I2 hq'
 |ok fl=>
  cases fl with
  |ret u=>obtain⟨v,H',I3,rv,ev,q3⟩:=I2.after hq';subst ev;exact⟨rv,⟨V.ref (s.heap.objs.size+1),H',I3,rfl,q3⟩⟩
  |next=>exact False.elim hq'
  |brk=>exact False.elim hq'
  |cont=>exact False.elim hq'
theorem do2(M:Mk X.K C f)(F:FnOk X.prog X.w X.K X.mg X.base CX k f fd ps sp)(hr:Room (k+1) X.A)(hg:Gl X x)(hm:X.mg x=some (.ref C))(hb:Binds X.K fd ps ds)(hd:Vals dvs ds)(hx:vM CX X E)
 (ha:PA X (e::es) t)(hdb:(x==("__debug__":Str))=false:=by decide)(he:starEach (e::es) X.env=(false,eval e X.env)::starEach es X.env:=by rfl)(hpl:(backTo pos (starEach es X.env)).any (·.1)=false:=by rfl):
 PE X (.Call (.Name x p) (e::es) [] pos) (cw0 C sp dvs E t):=by
 intro pins s σ H Q I h;refine wpAny_Call_Name_kw (mL I hg hm ?_ hdb);refine PySem.W.callWith_K (h₀:=X.base) I.ok.mod.kin M.kp (bW (ha pins s σ H _ I h) λus s1 ⟨vs,H1,I1,r,q⟩=>⟨I1.kIn,?_⟩) he hpl;exact cx7 M F hr hb hd hx I1 r q
end
section
variable {X : Cx} {CX : uQ} {k : Nat} {f C : Addr} {fd : FuncData} {ps ks : List Str} {sp : Sp} {E : XK} {x m : Str} {p pos apos kpos : Pos} {e o : Expr} {es : List Expr} {kws : List Keyword} {te ta : TE} {t tk : TA} {nm : Option Str}
variable {g : List Value → List Value → List Value} {gV : List V → List V → List V}
end
structure aW (N P:List Str) (sc:Scope):Prop where
 kind:sc.kind=.function
 co:sc.isCoroutine=false
 gen:sc.isGenerator=false
 nd:N.Nodup
 pre:N.take P.length=P
 par:∀x∈P,sc.names.lookup x=some .local\/sc.names.lookup x=some .cell
 nofree:∀y∈sc.names,y.2≠ .free
theorem ai9{kindOf:Str->Option NameKind}{x:Str}:∀{binds:List (Str×Value)}{m:Str->Option Value},(∀v,(x,v)∉binds)->bindL kindOf binds m x=m x
 |[],_,_=>rfl
 |(n,v)::r,m,h=>by
  unfold bindL;rw[ai9 λw hw=>h w (List.mem_cons_of_mem _ hw)];split
  . have:x≠n:=by rintro rfl;exact h v List.mem_cons_self
    simp[this]
  . rfl
theorem bc0{kindOf:Str->Option NameKind}{x:Str}:∀{binds:List (Str×Value)}{m:Str->Option Value},(∀v,(x,v)∉binds)->bindC kindOf binds m x=m x
 |[],_,_=>rfl
 |(n,v)::r,m,h=>by
  unfold bindC;rw[bc0 λw hw=>h w (List.mem_cons_of_mem _ hw)];split
  . rfl
  . have:x≠n:=by rintro rfl;exact h v List.mem_cons_self
    simp[this]
theorem az9{kindOf:Str->Option NameKind}{x:Str}{v:Value}:∀{P:List Str}{vs:List Value}{i:Nat}{m:Str->Option Value},P.Nodup->P[i]?=some x->vs[i]?=some v->kindOf x=some .local->
 bindL kindOf (P.zip vs) m x=some v
 |[],_,_,_,_,h,_,_=>by simp at h
 |_::_,[],_,_,_,_,h,_=>by simp at h
 |p::P,w::vs,0,m,nd,h1,h2,hk=>by simp at h1 h2;subst h1;subst h2;show bindL kindOf ((p,w)::P.zip vs) m p=_;unfold bindL;rw[ai9 λv hv=>(List.nodup_cons.mp nd).1 (List.of_mem_zip hv).1,if_pos hk];simp
 |p::P,w::vs,i+1,m,nd,h1,h2,hk=>by show bindL kindOf ((p,w)::P.zip vs) m x=_;unfold bindL;exact az9 (i:=i) (List.nodup_cons.mp nd).2 (by simpa using h1) (by simpa using h2) hk
theorem aj9{kindOf:Str->Option NameKind}{x:Str}{v:Value}:∀{P:List Str}{vs:List Value}{i:Nat}{m:Str->Option Value},P.Nodup->P[i]?=some x->vs[i]?=some v->kindOf x≠some .local->
 bindC kindOf (P.zip vs) m x=some v
 |[],_,_,_,_,h,_,_=>by simp at h
 |_::_,[],_,_,_,_,h,_=>by simp at h
 |p::P,w::vs,0,m,nd,h1,h2,hk=>by simp at h1 h2;subst h1;subst h2;show bindC kindOf ((p,w)::P.zip vs) m p=_;unfold bindC;rw[bc0 λv hv=>(List.nodup_cons.mp nd).1 (List.of_mem_zip hv).1,if_neg hk];simp
 |p::P,w::vs,i+1,m,nd,h1,h2,hk=>by show bindC kindOf ((p,w)::P.zip vs) m x=_;unfold bindC;exact aj9 (i:=i) (List.nodup_cons.mp nd).2 (by simpa using h1) (by simpa using h2) hk
def iG(N:List Str)(vs:List V):St:=vs.map some++List.replicate (N.length-vs.length) none
def lH(CX:uQ)(P:Program)(w:World)(K:PySem.W.Frag)(mg:Str->Option Value)(base:Heap)(N:List Str)(qual:Str)(scope:Scope)(f:Addr)(cd:Value)(A:Around)(outer:List Env)(s:Shared)(H:Hp)(E:XK):Cx where
 prog:=P
 w:=w
 K:=K
 mg:=mg
 base:=base
 A:=A.deeper (envOfC qual scope s.heap.objs.size f cd)
 N:=N
 s₀:=s
 H₀:=H
 env:=envOfC qual scope s.heap.objs.size f cd
 outer:=outer
 stack:=envOfC qual scope s.heap.objs.size f cd::outer
 ex:=[]
 calm:=true
 fn:=λ_=>true
 pn:=[]
 xe:=λe s'=>wpAny (model P w) (A.deeper (envOfC qual scope s.heap.objs.size f cd)) (leaving (envOfC qual scope s.heap.objs.size f cd) e) (λ_ s''=>CX outer H s E e s'') (λe' s''=>CX outer H s E e' s'') s'
theorem bg4{sc:Scope}{n:Nat}{x:Str}(h:sc.names.lookup x=some .cell):∃c,(cellsFrom n sc.names []).lookup x=some c:=by have q:=PySem.W.cellsFrom_some sc.names n [] (.inl h);exact Option.isSome_iff_exists.mp q
theorem ce4{CX:uQ}{P:Program}{w:World}{K:PySem.W.Frag}{mg:Str->Option Value}{base:Heap}{N ps:List Str}{qual:Str}{scope:Scope}{f:Addr}{cd:Value}{A:Around}{outer:List Env}{s s1:Shared}{H:Hp}{E:XK}{us:List Value}{vs:List V}
 (S:aW N ps scope)(hd:A.handled=none)(e0:Env0 P w K mg base A outer s H)(hl:vs.length=ps.length)(r:Vals vs us)
 (x:InCallC s s.heap.objs.size (bindL (envOfC qual scope s.heap.objs.size f cd).kindOf (ps.zip us) λ_=>none) (cellsFrom (s.heap.objs.size+1) scope.names []) (bindC (envOfC qual scope s.heap.objs.size f cd).kindOf (ps.zip us) λ_=>none) s1):
 Inv (lH CX P w K mg base N qual scope f cd A outer s H E) [] (iG N vs) H s1:=by
 have hpl:ps.length<=N.length:=by have:=congrArg List.length S.pre;rw[List.length_take]at this;omega
 obtain⟨h1,tk,rfl,hk⟩:=x.done;have noA:∀b:Addr,b∉(lH CX P w K mg base N qual scope f cd A outer s H E).ex:=λb z=>absurd (show b∈([]:List Addr) from z) (by simp);refine⟨⟨e0.mod,S.kind,rfl,rfl,Nat.le_refl _,λy z c h1 h2=>?_,λy hy=>?_,λy c _ h=>?_,λ_=>hd,Around.frames_deeper e0.frames,.inr ⟨rfl,rfl⟩,λb z=>absurd z (noA b),e0.bs,e0.bsz,λb _ _=>noA b,λb z=>absurd z (noA b),e0.funs,e0.frf⟩,
  rfl,e0.bare,Un.kept hk,⟨_,x.toInCall.ns,λi y v h1 h2 h3=>?_⟩,λy c h=>⟨_,x.cell y c h⟩,e0.hok.fresh (Nat.le_refl _),λy c h=>?_,λp hp=>absurd (show p∈([]:List (Addr×Obj)) from hp) (by simp),e0.hok.kept hk,?_⟩
 . exact name_of_addr x.apart (PySem.mem_of_lookup h1) (PySem.mem_of_lookup h2)
 . have hy:scope.names.lookup y=some .cell\/scope.names.lookup y=some .free:=hy;rcases hy with hy|hy
   . exact bg4 hy
   . exact absurd rfl (S.nofree _ (PySem.mem_of_lookup hy))
 . exact Nat.le_of_lt (x.above y c (PySem.mem_of_lookup h))
 . have hi:i<vs.length:=by
    unfold iG at h2;by_cases hi:i<vs.length
    . exact hi
    . rw[List.getElem?_append_right (by simpa using hi)]at h2;rw[List.getElem?_replicate]at h2;split at h2<;>cases h2
   have ha:vs[i]?=some v:=by
    unfold iG at h2;rw[List.getElem?_append_left (by simpa using hi),List.getElem?_map]at h2;cases e:vs[i]? with
    |none=>rw[e]at h2;cases h2
    |some a=>rw[e]at h2;cases h2;rfl
   obtain⟨u,hu,rv⟩:=r.get ha;have hp:ps[i]?=some y:=by rw[<-S.pre,List.getElem?_take_of_lt (by omega)];exact h1
   have ndP:ps.Nodup:=by rw[<-S.pre];exact S.nd.sublist (List.take_sublist _ _)
   refine⟨u,rv,?_⟩;rcases S.par y (List.mem_of_getElem? hp)with k|k
   . exact .inl ⟨k,az9 ndP hp hu k⟩
   . obtain⟨c,e⟩:=bg4 (n:=s.heap.objs.size+1) k;refine .inr ⟨.inl k,c,e,?_⟩;have q:=x.cell y c e;rw[aj9 ndP hp hu (by show scope.names.lookup y≠_;rw[k];decide)]at q;exact q
 . exact e0.hok.fresh (Nat.le_of_lt (x.above y c (PySem.mem_of_lookup h)))
 . unfold iG;show _=N.length;rw[List.length_append,List.length_map,List.length_replicate];omega
theorem dd0{CX:uQ}{P:Program}{w:World}{K:PySem.W.Frag}{mg:Str->Option Value}{base:Heap}{k:Nat}{f:Addr}{name qual:Str}{params:Arguments}{body:List Stmt}{scope:Scope}{dV kV doc pm cdv ct oc:Value}{an od:Option Addr}
 {osl:Array (Option Value)}{N ps:List Str}{sp:Sp}(lk:K.lookup f=some ⟨oc,od,.func (PySem.W.fnOf name qual params body scope dV kV doc pm an cdv ct),osl⟩)(hcd:PySem.W.codeIn K cdv qual=true)(S:aW N ps scope)
 (len:∀vs H Q E,sp vs H Q E->vs.length=ps.length)
 (hbody:∀(A:Around)(outer:List Env)(s:Shared)(H:Hp)(vs:List V)(Q:VK)(E:XK),Room k (A.deeper (envOfC qual scope s.heap.objs.size f cdv))->sp vs H Q E->
  ∃t,PSs (lH CX P w K mg base N qual scope f cdv A outer s H E) body t/\t {nx:=λ_ H'=>Q .non H',rt:=Q} (iG N vs) H):
 FnOk P w K mg base CX (k+1) f (PySem.W.fnOf name qual params body scope dV kV doc pm an cdv ct) ps sp:=by
 refine⟨len,λA outer s H args us vs Q E hr e0 hb r hsp=>?_⟩;have hl:=len _ _ _ _ hsp;have KX:K.In s.heap:=e0.mod.kin.keeps λb o e=>(e0.bs b o e).1;have lim:s.heap.NoLimit:=e0.mod.nolimit.keeps λb o e=>(e0.bs b o e).1;have hkind:∀y∈ps.zip us,scope.names.lookup y.1=some .local\/(scope.names.lookup y.1=some .cell/\((cellsFrom (s.heap.objs.size+1) scope.names []).lookup y.1).isSome=true):=λ⟨n,v⟩ hy=>by
  rcases S.par n (List.of_mem_zip hy).1 with q|q
  . exact .inl q
  . exact .inr ⟨q,PySem.W.cellsFrom_some _ _ _ (.inl q)⟩
 refine codeAny_call_function hr.depth (KX _ _ lk) rfl S.co S.gen rfl (PySem.W.codeRec_of KX hcd) (hb _ _ _ _ ?_);refine wpAny_newFunctionEnv_cells S.kind hkind λenv he s1 x=>?_;subst he;refine⟨lim.keeps x.toInCall.keep,codeAny_func ?_⟩;obtain⟨t,ht,hq⟩:=hbody A outer s H vs Q E (hr.deeper _) hsp;have I:Inv (lH CX P w K mg base N qual scope f cdv A outer s H E) [] (iG N vs) H s1:=ce4 S hr.hd e0 hl r x;refine wpAny_mono (ht s1 (iG N vs) H _ I hq) (λfl s' hs=>?_) λe s' hs=>hs;have bN:∀{σ':St}{H':Hp}{v:V}{u:Value},Inv (lH CX P w K mg base N qual scope f cdv A outer s H E) [] σ' H' s'->RelV v u->Q v H'->CE outer P w H s Q u s':=
  λ{σ' H' v u} J rv q=>⟨v,H',J.os,J.bare,J.base,J.hok,rv,q⟩
 cases fl with
 |ret u=>obtain⟨v,σ',H',J,rv,q⟩:=hs;exact bN J rv q
 |next=>obtain⟨σ',H',J,q⟩:=hs;exact bN (v:=V.non) (u:=Value.none) J rfl q
 |brk=>obtain⟨_,_,_,q⟩:=hs;exact False.elim q
 |cont=>obtain⟨_,_,_,q⟩:=hs;exact False.elim q
end L2
namespace L2
open PySem PySem.Spec PyProof.Rows
section
variable {X : Cx} {x : Str} {p pos : Pos} {e : Expr} {es : List Expr} {t : TA} {id T : String} {r : List V → Hp → VK → Prop}
def tCB(r:List V->Hp->VK->Prop)(t:TA):TE:=λσ H Q=>t σ H λvs H1=>r vs H1 Q
theorem aP(hc:CallR X (.builtin id) r)(hg:Gl X x)(hm:X.mg x=none)(hv:bootBuiltins x=some (.builtin id))(ha:PA X (e::es) t)(hn:x≠"__name__":=by decide)(hdb:(x==("__debug__":Str))=false:=by decide)
 (he:starEach (e::es) X.env=(false,eval e X.env)::starEach es X.env:=by rfl)(hpl:(backTo pos (starEach es X.env)).any (·.1)=false:=by rfl):PE X (.Call (.Name x p) (e::es) [] pos) (tCB r t):=by
 intro pins s σ H Q I h;refine wpAny_Call_Name_kw (tE I hg hm hv ?_ hn hdb);exact PyProof.Rows.callWith_builtin1 (bW (ha pins s σ H _ I h) λus s1 ⟨vs,H1,I1,r1,q1⟩=>hc s1 σ H1 vs us Q I1 r1 q1) he hpl
theorem fU(hc:CallR X (.type T) r)(hg:Gl X x)(hm:X.mg x=none)(hv:bootBuiltins x=some (.type T))(ha:PA X (e::es) t)(hn:x≠"__name__":=by decide)(hdb:(x==("__debug__":Str))=false:=by decide)
 (he:starEach (e::es) X.env=(false,eval e X.env)::starEach es X.env:=by rfl)(hpl:(backTo pos (starEach es X.env)).any (·.1)=false:=by rfl):PE X (.Call (.Name x p) (e::es) [] pos) (tCB r t):=by
 intro pins s σ H Q I h;refine wpAny_Call_Name_kw (tE I hg hm hv ?_ hn hdb);exact PyProof.Rows.callWith_type1 (bW (ha pins s σ H _ I h) λus s1 ⟨vs,H1,I1,r1,q1⟩=>hc s1 σ H1 vs us Q I1 r1 q1) he hpl
end
end L2
namespace HT
open PySem PyProof.Rows
section
open PySem.SeqAt
open PySem.AutoSeq1 (wpAny_loadPart')
open PySem.MeetsSeq PySem.MeetsSeq2 PySem.MeetsSeq3
end
section
variable {prog : Program} {w : World} {A : Around} {E : Value → Shared → Prop} {s : Shared}
theorem cat_tup(ht:IsTup s.heap t vs.toArray)(hb:IsTup s.heap b ws.toArray)(hv:vs≠[])
 (h1:ws=[]->Q (.ref t) s)(h2:ws≠[]->Q (.ref s.heap.objs.size) {s with heap:=s.heap.push {cls:=.type "tuple",data:=.seq (vs++ws).toArray}})
 (hsz:vs.length+ws.length<=sizeLine):wpAny (model prog w) A (binaryOp .Add (.ref t) (.ref b)) Q E s:=by
 obtain⟨⟨cls,dd,data,sl⟩,ho,hc,n,hd⟩:=id ht;obtain⟨⟨cls2,dd2,data2,sl2⟩,ho2,hc2,n2,hd2⟩:=id hb;simp only at hc hd hc2 hd2;subst hc hd hc2 hd2;have e:vs.toArray++ws.toArray=(vs++ws).toArray:=by simp
 by_cases hw:ws=[]
 . exact concat_meets ⟨_,ho,rfl⟩ ⟨_,ho2,rfl⟩ noFill_tuple_add seq_tuple_add PySem.F.slot_tuple_add PySem.F.entry_tuple_add (PySem.F.args_tuple_add_2 _ _)
    (tuple_addW1 t b vs.toArray ws.toArray n n2 dd dd2 sl sl2 (by simpa using hv) (by simp[hw])) ⟨ho,ho2,h1 hw⟩
 . refine concat_meets ⟨_,ho,rfl⟩ ⟨_,ho2,rfl⟩ noFill_tuple_add seq_tuple_add PySem.F.slot_tuple_add PySem.F.entry_tuple_add (PySem.F.args_tuple_add_2 _ _)
    (tuple_addW2 t b vs.toArray ws.toArray n n2 dd dd2 sl sl2 (by simpa using hv) (by simpa using hw) (by rw[List.size_toArray,List.size_toArray];exact hsz)) ⟨ho,ho2,?_⟩
   rw[e];exact h2 hw
def sIx(n d:Nat):Option Int->Nat
 |none=>d
 |some v=>if v<0 then(v+(n:Int)).toNat else min v.toNat n
theorem sIx_le(n d:Nat)(hd:d<=n)(o:Option Int):sIx n d o<=n:=by
 cases o with
 |none=>exact hd
 |some v=>
  show(if v<0 then(v+(n:Int)).toNat else min v.toNat n)<=n;by_cases hv:v<0
  . rw[if_pos hv];omega
  . rw[if_neg hv];exact Nat.min_le_right _ _
theorem clip_eq(v:Int)(n d:Nat):(if v<0 then max (v+(n:Int)) 0 else min v (n:Int))=((sIx n d (some v):Nat):Int):=by
 show(if v<0 then max (v+(n:Int)) 0 else min v (n:Int))=(((if v<0 then(v+(n:Int)).toNat else min v.toNat n):Nat):Int);by_cases hv:v<0
 . simp only[if_pos hv];omega
 . simp only[if_neg hv];omega
theorem adjust_gen(lo hi:Option Int)(n:Nat):Builtin.Slice.sliceAdjust lo hi 1 (n:Int)=(((sIx n 0 lo:Nat):Int),((sIx n n hi:Nat):Int)):=by
 have h1:¬((1:Int)<0):=by omega
 unfold Builtin.Slice.sliceAdjust;simp only[h1,if_false];refine Prod.ext ?_ ?_
 . cases lo with
   |none=>rfl
   |some v=>exact clip_eq v n 0
 . cases hi with
   |none=>rfl
   |some v=>exact clip_eq v n n
theorem places_gen(i j:Nat):Builtin.Slice.slicePlaces (i:Int) (j:Int) 1=j-i:=by
 unfold Builtin.Slice.slicePlaces;have h1:(1:Int)>0:=by omega
 simp only[h1,if_true,Int.ediv_one];split<;>omega
theorem slicePart_(p:IsPart v o)(h:Q o s):wpAny (model prog w) A (Builtin.Slice.slicePartIndex v) Q E s:=by
 cases p with
 |none=>exact slicePart_none h
 |int i t=>exact slicePart_int h
theorem sliceApplied_gen{sl:Addr}{vl vu:Value}{lo hi:Option Int}{n:Nat}{Q:Int×Int×Nat->Shared->Prop}(hs:s.heap.IsSliceOf sl vl vu .none)(pl:IsPart vl lo)(pu:IsPart vu hi)
 (h:Q (((sIx n 0 lo:Nat):Int),1,sIx n n hi-sIx n 0 lo) s):wpAny (model prog w) A (Builtin.Slice.sliceApplied (.ref sl) (pure (n:Int))) Q E s:=by
 obtain⟨os,hos,hcs,hds⟩:=id hs;unfold Builtin.Slice.sliceApplied Builtin.Slice.sliceFields;refine wpAny_bind (wpAny_bind (wpAny_field hos hds (x:=vl) rfl (wpAny_bind (wpAny_field hos hds (x:=vu) rfl (wpAny_bind (wpAny_field hos hds (x:=.none) rfl (wpAny_pure ?_)))))));refine wpAny_bind (slicePart_none ?_);show wpAny _ _ (if((1:Int)==0)=true then _ else _) _ _ s;rw[if_neg (by decide)];refine wpAny_bind (slicePart_ pl (wpAny_bind (slicePart_ pu (wpAny_bind (wpAny_pure ?_)))));show wpAny _ _ (match Builtin.Slice.sliceAdjust lo hi 1 (n:Int)with|(lo,hi)=>pure (lo,(1:Int),Builtin.Slice.slicePlaces lo hi 1)) _ _ s;rw[adjust_gen lo hi n];show wpAny _ _ (pure (((sIx n 0 lo:Nat):Int),(1:Int),Builtin.Slice.slicePlaces ((sIx n 0 lo:Nat):Int) ((sIx n n hi:Nat):Int) 1)) _ _ s;rw[places_gen];exact wpAny_pure h
theorem pick_gen(xs:Array Value)(i k:Nat):((List.range k).filterMap λ(m:Nat)=>xs[((i:Int)+(m:Int)*1).toNat]?).toArray=((xs.toList.drop i).take k).toArray:=by
 have e:(λ(m:Nat)=>xs[((i:Int)+(m:Int)*1).toNat]?)=λm=>xs[i+m]?:=by
  funext m;have:((i:Int)+(m:Int)*1).toNat=i+m:=by omega
  rw[this]
 rw[e];have:=pick_run xs i k;rw[List.filterMap_map]at this;have e2:((λx=>xs[x]?)∘λx=>i+x)=λm=>xs[i+m]?:=rfl;rw[e2]at this;rw[this]
theorem getItem_tuple_cut{t sl:Addr}{items:Array Value}{vl vu:Value}{lo hi:Option Int}{Q:Value->Shared->Prop}(ht:IsTup s.heap t items)(hs:s.heap.IsSliceOf sl vl vu .none)(pl:IsPart vl lo)(pu:IsPart vu hi)
 (hw:¬(sIx items.size 0 lo=0/\sIx items.size items.size hi=items.size))
 (h:Q (.ref s.heap.objs.size) {s with heap:=s.heap.push {cls:=.type "tuple",data:=.seq ((items.toList.drop (sIx items.size 0 lo)).take (sIx items.size items.size hi-sIx items.size 0 lo)).toArray}})
 (hsz:items.size<=sizeLine):wpAny (model prog w) A (getItem (.ref t) (.ref sl)) Q E s:=by
 have htake:sizeOk (.seq ((items.toList.drop (sIx items.size 0 lo)).take (sIx items.size items.size hi-sIx items.size 0 lo)).toArray):=by show((items.toList.drop (sIx items.size 0 lo)).take (sIx items.size items.size hi-sIx items.size 0 lo)).toArray.size<=sizeLine;rw[List.size_toArray,List.length_take,List.length_drop,Array.length_toList];omega
 have hj:sIx items.size items.size hi<=items.size:=sIx_le _ _ (Nat.le_refl _) hi;obtain⟨os,hos,hcs,hds⟩:=id hs;have hTs:s.TypeIs (.ref sl) "slice":=⟨os,hos,hcs⟩;unfold getItem;try with_reducible refine wpAny_holding ?_
 first|refine wpAny_bind (wpAny_pure ?_)|skip
 refine wpAny_bind (wpAny_sequenceKey ht.typeIs (by decide) ?_);refine wpAny_bind (wpAny_callSpecial?_slot (name:=Str.ofString "__getitem__") ht.typeIs PyProof.Rows.slot_tuple_getitem
  (wpAny_call_entry PyProof.Rows.slot_tuple_getitem ht.typeIs entry_tuple_getitem ?_ (args_tuple_getitem _ _)))
 show wpAny _ _ (Builtin.Tuple.tupleItemsOf (.ref t)>>=_) _ _ s;refine wpAny_bind (tupleItemsOf_ ht ?_);refine wpAny_bind (wpAny_typeOf hTs ?_);rw[if_pos (by decide)];refine wpAny_bind (sliceApplied_gen hs pl pu ?_);have hno:¬((((sIx items.size 0 lo:Nat):Int)==0&&(1:Int)==1&&(sIx items.size items.size hi-sIx items.size 0 lo)==items.size)=true):=by intro q;rw[Bool.and_eq_true,Bool.and_eq_true]at q;have q1:((sIx items.size 0 lo:Nat):Int)=0:=eq_of_beq q.1.1;have q2:sIx items.size items.size hi-sIx items.size 0 lo=items.size:=eq_of_beq q.2;exact hw ⟨by omega,by omega⟩
 show wpAny _ _ (if(((sIx items.size 0 lo:Nat):Int)==0&&(1:Int)==1&&(sIx items.size items.size hi-sIx items.size 0 lo)==items.size)=true then _ else _) _ _ s;rw[if_neg hno,pick_gen];first
  |exact wpAny_bind (m:=Builtin.Tuple.tupleExact _) (wpAny_newObj_type (wpAny_pure ⟨_,rfl,wpAny_pure h⟩) htake)
  |exact wpAny_bind (m:=Builtin.Tuple.tupleExact _) (wpAny_newObj_type (wpAny_bind (wpAny_pure (wpAny_pure ⟨_,rfl,wpAny_pure h⟩))) htake)
  |exact wpAny_bind (wpAny_bind (m:=Builtin.Tuple.tupleExact _) (wpAny_newObj_type (wpAny_pure (wpAny_pure ⟨_,rfl,wpAny_pure h⟩)) htake))
  |exact wpAny_bind (wpAny_bind (m:=Builtin.Tuple.tupleExact _) (wpAny_newObj_type (wpAny_pure ⟨_,rfl,wpAny_pure h⟩) htake))
end
end HT
namespace L2
open PySem PySem.Spec PyProof.Rows
abbrev TO:=St->Hp->(Option Int->Hp->Prop)->Prop
def PO(X:Cx)(e:Option Expr)(t:TO):Prop:=
 ∀⦃pins:List (Addr×Obj)⦄ (s:Shared)(σ:St)(H:Hp)(Q:Option Int->Hp->Prop),Inv X pins σ H s->t σ H Q->
  wpAny (model X.prog X.w) X.A (evalPart e X.env) (λu s'=>∃o H',Inv X pins σ H' s'/\IsPart u o/\Q o H') X.xe s
def bg8:TO:=λ_ H Q=>Q none H
def cw9(t:TE):TO:=λσ H Q=>t σ H λx H1=>∃i,x=.int i/\Q (some i) H1
theorem az5:∀{us:List Value},Vals (ns.map V.int) us->IntsAre us ns:=by
 induction ns with
 |nil=>intro us r;rw[List.map_nil]at r;cases r;exact .nil
 |cons n ns ih=>
  intro us r;rw[List.map_cons]at r;cases r with
  |cons r1 r2=>obtain⟨t,e⟩:=r1;subst e;exact .cons n t (ih r2)
section
variable {X : Cx} {e : Expr} {te : TE} {lo hi : Option Expr} {tl th : TO} {pos p2 : Pos}
theorem fZ:PO X none bg8:=by intro pins s σ H Q I h;rw[evalPart_none];exact wpAny_pure ⟨none,H,I,.none,h⟩
theorem eO(h:PE X e te):PO X (some e) (cw9 te):=by intro pins s σ H Q I hw;rw[evalPart_some];refine bW (h s σ H _ I hw) λu s1 ⟨x,H1,I1,r1,q1⟩=>?_;obtain⟨i,rfl,q⟩:=q1;obtain⟨t,rfl⟩:=r1;exact⟨some i,H1,I1,.int i t,q⟩
def SlR(X:Cx)(r:V->Option Int->Option Int->Hp->VK->Prop):Prop:=
 ∀⦃pins:List (Addr×Obj)⦄ (s:Shared)(σ:St)(H:Hp)(x:V)(v vl vu:Value)(lo hi:Option Int)(sl:Addr)(Q:VK),Inv X pins σ H s->RelV x v->s.heap.IsSliceOf sl vl vu .none->IsPart vl lo->IsPart vu hi->r x lo hi H Q->
  ∃T id,typeLookup (.type T) "__getitem__"=pure (some (.builtin id))/\s.TypeIs v T/\wpAny (model X.prog X.w) X.A (getItem v (.ref sl)) (EP X pins σ Q) X.xe s
theorem SlR.or(h:SlR X r)(h':SlR X r'):SlR X (λx lo hi H Q=>r x lo hi H Q\/r' x lo hi H Q):=by
 intro pins s σ H x v vl vu lo hi sl Q I rx hs pl pu q;rcases q with q|q
 . exact h s σ H x v vl vu lo hi sl Q I rx hs pl pu q
 . exact h' s σ H x v vl vu lo hi sl Q I rx hs pl pu q
def tSl(r:V->Option Int->Option Int->Hp->VK->Prop)(te:TE)(tl th:TO):TE:=λσ H Q=>te σ H λx H1=>tl σ H1 λl H2=>th σ H2 λu H3=>r x l u H3 Q
theorem dZ(hr:SlR X r)(he:PE X e te)(hl:PO X lo tl)(hu:PO X hi th):PE X (.Subscript e (.Slice lo hi none p2) pos) (tSl r te tl th):=by intro pins s σ H Q I h;refine Subscript_ (bW (he s σ H _ I h) λv s1 ⟨x,H1,I1,r1,q1⟩=>?_);refine wpAny_Slice (bW (hl s1 σ H1 _ I1 q1) λvl s2 ⟨l,H2,I2,pl,q2⟩=>bW (hu s2 σ H2 _ I2 q2) λvu s3 ⟨u,H3,I3,pu,q3⟩=>?_);rw[evalPart_none];refine wpAny_pure ?_;have I4:Inv X pins σ H3 {s3 with heap:=s3.heap.push {cls:=.type "slice",data:=.fields #[vl,vu,.none]}}:=I3.kept (t':=s3.toks) λb ob q=>Heap.get?_push_of_some _ q;obtain⟨T,id,hT,ht,hg⟩:=hr {s3 with heap:=s3.heap.push {cls:=.type "slice",data:=.fields #[vl,vu,.none]}} σ H3 x v vl vu l u s3.heap.objs.size Q I4 r1 (Heap.IsSliceOf.new ..) pl pu q3;show wpAny (model X.prog X.w) X.A (subscriptTail e (.Slice lo hi none p2) v (.ref s3.heap.objs.size)) (EP X pins σ Q) X.xe {s3 with heap:=s3.heap.push {cls:=.type "slice",data:=.fields #[vl,vu,.none]}};exact tail_any (ops:=[.ref s3.heap.objs.size,v]) ht hT hg (by with_unfolding_all rfl)
def ae0(xs:List V)(lo hi:Option Int):List V:=(xs.drop (HT.sIx xs.length 0 lo)).take (HT.sIx xs.length xs.length hi-HT.sIx xs.length 0 lo)
theorem al3(xs:List V)(lo hi:Option Int):(ae0 xs lo hi).length<=xs.length:=by unfold ae0;rw[List.length_take,List.length_drop];omega
def dm8(K:PySem.W.Frag):V->Option Int->Option Int->Hp->VK->Prop:=λx lo hi H Q=>∃a xs,x=.ref a/\SqT K H a xs/\
 ¬(HT.sIx xs.length 0 lo=0/\HT.sIx xs.length xs.length hi=xs.length)/\∀p,H p=none->Q (.ref p) (upd H p (.tup (ae0 xs lo hi)))
theorem dw6:SlR X (dm8 X.K):=by
 intro pins s σ H x v vl vu lo hi sl Q I rx hs pl pu h;obtain⟨a,xs,rfl,hx,hw,q⟩:=h;cases rx;obtain⟨its,r,ht,hz⟩:=I.tuple hx;have hlen:its.toArray.size=xs.length:=by rw[List.size_toArray];exact r.length.symm
 refine⟨"tuple",_,PyProof.Rows.slot_tuple_getitem.lookup,ht.typeIs,?_⟩;refine HT.getItem_tuple_cut ht hs pl pu (by rw[hlen];exact hw) ?_ (by rw[hlen];exact hz);rw[hlen];refine⟨.ref s.heap.objs.size,_,I.laid (t':=s.toks) (o:=.tup (ae0 xs lo hi)) (λb ob q=>Heap.get?_push_of_some _ q) (Nat.le_refl _) ?_,rfl,q _ (I.hok.fresh (Nat.le_refl _))⟩;exact⟨Nat.le_trans (al3 xs lo hi) hz,_,(r.drop (HT.sIx xs.length 0 lo)).take (HT.sIx xs.length xs.length hi-HT.sIx xs.length 0 lo),IsTup.new _ _⟩
def dh0(K:PySem.W.Frag):R2:=λx y H Q=>∃a b xs ys,x=.ref a/\y=.ref b/\SqT K H a xs/\SqT K H b ys/\xs≠[]/\xs.length+ys.length<=sizeLine/\
 (ys=[]->Q (.ref a) H)/\(ys≠[]->∀p,H p=none->Q (.ref p) (upd H p (.tup (xs++ys))))
theorem Vals.nil_iff(r:Vals xs us):us=[]↔xs=[]:=by
 cases r with
 |nil=>simp
 |cons _ _=>simp
theorem dw2:OpR X (binaryOp .Add) (dh0 X.K):=by intro pins s σ H x y v u Q I rx ry h;obtain⟨a,b,xs,ys,rfl,rfl,ha,hb,hx,hz,q1,q2⟩:=h;cases rx;cases ry;obtain⟨its,r1,p1,_⟩:=I.tuple ha;obtain⟨its2,r2,p2,_⟩:=I.tuple hb;refine HT.cat_tup p1 p2 (λz=>hx (r1.nil_iff.mp z)) (λz=>⟨.ref a,H,I,rfl,q1 (r2.nil_iff.mp z)⟩) (λz=>?_) (by rw[<-r1.length,<-r2.length];exact hz);refine⟨.ref s.heap.objs.size,_,I.laid (t':=s.toks) (o:=.tup (xs++ys)) (λb ob q=>Heap.get?_push_of_some _ q) (Nat.le_refl _) ?_,rfl,q2 (λw=>z (r2.nil_iff.mpr w)) _ (I.hok.fresh (Nat.le_refl _))⟩;exact⟨by rw[List.length_append];exact hz,_,r1.append r2,IsTup.new _ _⟩
end
end L2
namespace L2
open PySem PySem.Spec PyProof.Rows
def zX(n:Nat)(i:Int):Option Nat:=if 0<=i then(if i<n then some i.toNat else none)else if -(n:Int)<=i then some (i+n).toNat else none
def atI{α:Type}(xs:List α)(i:Int):Option α:=(zX xs.length i).bind λj=>xs[j]?
theorem dv4(h:zX n i=some j):seqIndex? i n=some j/\j<n/\-(n:Int)<=i/\i<n:=by
 unfold zX at h;by_cases h0:0<=i
 . rw[if_pos h0]at h;by_cases h1:i<n
   . rw[if_pos h1]at h;have e:i.toNat=j:=Option.some.inj h;exact⟨by rw[seqIndex_of h0 h1,e],by omega,by omega,h1⟩
   . rw[if_neg h1]at h;cases h
 . rw[if_neg h0]at h;by_cases h1:-(n:Int)<=i
   . rw[if_pos h1]at h;have e:(i+n).toNat=j:=Option.some.inj h;exact⟨by rw[seqIndex_neg (by omega) h1,e],by omega,h1,by omega⟩
   . rw[if_neg h1]at h;cases h
theorem ab8(h:atI xs i=some v):∃j,seqIndex? i xs.length=some j/\xs[j]?=some v/\j<xs.length/\-(xs.length:Int)<=i/\i<xs.length:=by
 unfold atI at h;cases e:zX xs.length i with
 |none=>rw[e]at h;cases h
 |some j=>rw[e]at h;obtain⟨h1,h2,h3,h4⟩:=dv4 e;exact⟨j,h1,h,h2,h3,h4⟩
theorem gI{α:Type}{xs:List α}{j:Nat}{v:α}(h:xs[j]?=some v):atI xs (j:Int)=some v:=by
 have hj:j<xs.length:=(List.getElem?_eq_some_iff.mp h).1;have e:zX xs.length (j:Int)=some j:=by unfold zX;rw[if_pos (by omega),if_pos (by omega)];simp
 unfold atI;rw[e];exact h
def bn8(b:Expr):Prop:=∀o i,subscripted b false o i=operate [o,i] (getItem o i)
def IxR(X:Cx)(r:R2):Prop:=
 ∀(value slice:Expr)(pins:List (Addr×Obj))(s:Shared)(σ:St)(H:Hp)(x y:V)(v u:Value)(Q:VK),Inv X pins σ H s->RelV x v->RelV y u->r x y H Q->
  subscripted slice false v u=operate [v,u] (getItem v u)->wpAny (model X.prog X.w) X.A (subscriptTail value slice v u) (EP X pins σ Q) X.xe s
def MtR(X:Cx)(id:String)(r:V->List V->Hp->VK->Prop):Prop:=
 ∀⦃pins:List (Addr×Obj)⦄ (s:Shared)(σ:St)(H:Hp)(x:V)(xs:List V)(v:Value)(us:List Value)(Q:VK),Inv X pins σ H s->RelV x v->Vals xs us->r x xs H Q->
  wpAny (model X.prog X.w) X.A (call (.builtin id) (v::us)) (EP X pins σ Q) X.xe s
section
variable {X : Cx} {a b : Expr} {ta tb : TE} {pos : Pos}
theorem IxR.or(h:IxR X r)(h':IxR X r'):IxR X (λx y H Q=>r x y H Q\/r' x y H Q):=by
 intro value slice pins s σ H x y v u Q I rx ry q hs;rcases q with q|q
 . exact h value slice pins s σ H x y v u Q I rx ry q hs
 . exact h' value slice pins s σ H x y v u Q I rx ry q hs
theorem eh1(hr:IxR X r)(ha:PE X a ta)(hb:PE X b tb)(hs:bn8 b):PE X (.Subscript a b pos) (tOp r ta tb):=by intro pins s σ H Q I h;exact Subscript_ (cg9 ha hb I h λv u s2 x y H2 I2 rx ry q=>hr a b pins s2 σ H2 x y v u Q I2 rx ry q (hs _ _))
def ds9(K:PySem.W.Frag):R2:=λx y H Q=>∃p xs i v,x=.ref p/\y=.int i/\SqL K H p xs/\atI xs i=some v/\Q v H
def dt5(K:PySem.W.Frag):R2:=λx y H Q=>∃p xs i v,x=.ref p/\y=.int i/\SqT K H p xs/\atI xs i=some v/\Q v H
def dg9:R2:=λx y H Q=>∃z i c,x=.str z/\y=.int i/\z.length<=sizeLine/\atI z.cps.toList i=some c/\Q (.str ⟨#[c]⟩) H
theorem ix_list:IxR X (ds9 X.K):=by
 intro value slice pins s σ H x y v u Q I rx ry h hs;obtain⟨p,xs,i,z,rfl,rfl,hq,he,q⟩:=h;cases rx;obtain⟨t,rfl⟩:=ry;obtain⟨its,r,pl,hz⟩:=I.list hq;obtain⟨j,h1,h2,h3,h4,h5⟩:=ab8 he;obtain⟨w,ew,rw'⟩:=r.get h2;have hl:=r.length;have hn:=ae2;have bN:EP X pins σ Q w s:=⟨z,H,I,rw',q⟩;by_cases h0:0<=i
 . have hj:i.toNat=j:=by rw[seqIndex_of h0 h5]at h1;exact Option.some.inj h1
   exact item_listR pl.isList h0 (by omega) (by rw[hj];simpa using ew) bN hs
 . have hj:(i+(its.toArray.size:Int)).toNat=j:=by rw[seqIndex_neg (by omega) h4]at h1;rw[List.size_toArray,<-hl];exact Option.some.inj h1
   exact subscriptTail_builtinR (x:=w) pl.isList.typeIs slot_list_getitem.lookup
    (wpAny_getItem_list_neg (Q:=λr s'=>r=w/\EP X pins σ Q r s') pl.isList (by omega) (by rw[List.size_toArray]<;>omega) (by omega) (by rw[hj];simpa using ew) ⟨rfl,bN⟩) hs
theorem ix_tup:IxR X (dt5 X.K):=by
 intro value slice pins s σ H x y v u Q I rx ry h hs;obtain⟨p,xs,i,z,rfl,rfl,hq,he,q⟩:=h;cases rx;obtain⟨t,rfl⟩:=ry;obtain⟨its,r,pl,hz⟩:=I.tuple hq;obtain⟨j,h1,h2,h3,h4,h5⟩:=ab8 he;obtain⟨w,ew,rw'⟩:=r.get h2;have hl:=r.length;have hn:=ae2;have bN:EP X pins σ Q w s:=⟨z,H,I,rw',q⟩;exact subscriptTail_builtinR (x:=w) pl.typeIs slot_tuple_getitem.lookup
  (getItem_tuple (j:=j) (Q:=λr s'=>r=w/\EP X pins σ Q r s') pl (by omega) (by omega) (by rw[List.size_toArray,<-hl];exact h1) (by simpa using ew) ⟨rfl,bN⟩) hs
theorem db5:IxR X dg9:=by
 intro value slice pins s σ H x y v u Q I rx ry h hs;obtain⟨z,i,c,rfl,rfl,hz,he,q⟩:=h;obtain⟨t,rfl⟩:=rx;obtain⟨t',rfl⟩:=ry;obtain⟨j,h1,h2,h3,h4,h5⟩:=ab8 he;have hl:z.cps.toList.length=z.length:=by simp[Str.length]
 rw[hl]at h1 h4 h5;have hn:=ae2;exact tail_any (typeIs_str s z t) slot_str_getitem.lookup (getItem_str (c:=c) (by have e1:decide (i< -(2^63:Int))=false:=decide_eq_false (by omega);have e2:decide (i>=2^63)=false:=decide_eq_false (by omega);rw[e1,e2,Bool.or_false]) (by rw[h1];simpa using h2) ⟨.str ⟨#[c]⟩,H,I.tok _,⟨_,rfl⟩,q⟩) hs
def rIx(K:PySem.W.Frag):R2:=λx y H Q=>ds9 K x y H Q\/dt5 K x y H Q\/dg9 x y H Q
theorem di9:IxR X (rIx X.K):=ix_list.or (ix_tup.or db5)
theorem bb3(lo hi:Option Int)(n:Nat):(sliceBounds lo hi none n).1=((HT.sIx n 0 lo:Nat):Int)/\(sliceBounds lo hi none n).2.1=((HT.sIx n n hi:Nat):Int)/\(sliceBounds lo hi none n).2.2=1:=by
 refine⟨?_,?_,rfl⟩
 . cases lo with
   |none=>simp[sliceBounds,HT.sIx]
   |some i=>
    simp only[sliceBounds,HT.sIx,Option.getD_none,show(1:Int)>0 by decide,if_true];by_cases h:i<0
    . simp only[h,if_true]<;>omega
    . simp only[h,if_false]<;>omega
 . cases hi with
   |none=>simp[sliceBounds,HT.sIx]
   |some i=>
    simp only[sliceBounds,HT.sIx,Option.getD_none,show(1:Int)>0 by decide,if_true];by_cases h:i<0
    . simp only[h,if_true]<;>omega
    . simp only[h,if_false]<;>omega
theorem bg0(its:List Value)(lo hi:Option Int):slicePick its.toArray lo hi none=((its.drop (HT.sIx its.length 0 lo)).take (HT.sIx its.length its.length hi-HT.sIx its.length 0 lo)).toArray:=by obtain⟨h1,h2,h3⟩:=bb3 lo hi its.toArray.size;unfold slicePick;rw[h1,h2,h3];simp only[sliceRange_one,pick_run,List.size_toArray]<;>rfl
def du8(K:PySem.W.Frag):V->Option Int->Option Int->Hp->VK->Prop:=λx lo hi H Q=>∃a xs,x=.ref a/\SqL K H a xs/\∀p,H p=none->Q (.ref p) (upd H p (.lst (ae0 xs lo hi)))
theorem dk3:SlR X (du8 X.K):=by intro pins s σ H x v vl vu lo hi sl Q I rx hs pl pu h;obtain⟨a,xs,rfl,hx,q⟩:=h;cases rx;obtain⟨its,r,ht,hz⟩:=I.list hx;have hlen:=r.length;refine⟨"list",_,slot_list_getitem.lookup,ht.isList.typeIs,?_⟩;refine wpAny_getItem_list_slice ht.isList hs pl pu .none (by simp) ?_ (by rw[List.size_toArray]<;>omega);rw[bg0,<-hlen];refine⟨.ref s.heap.objs.size,_,I.laid (t':=s.toks) (o:=.lst (ae0 xs lo hi)) (λb ob q=>Heap.get?_push_of_some _ q) (Nat.le_refl _) ?_,rfl,q _ (I.hok.fresh (Nat.le_refl _))⟩;exact⟨Nat.le_trans (al3 xs lo hi) hz,_,0,(r.drop (HT.sIx xs.length 0 lo)).take (HT.sIx xs.length xs.length hi-HT.sIx xs.length 0 lo),Heap.get?_push_size _ rfl⟩
def sO:V->Bool
 |.non=>true
 |.bl _=>true
 |.int _=>true
 |.str _=>true
 |_=>false
def eqV:V->V->Bool
 |.non,.non=>true
 |.bl a,.bl b=>a==b
 |.bl a,.int b=>(if a then 1 else 0)==b
 |.int a,.bl b=>a==(if b then 1 else 0)
 |.int a,.int b=>a==b
 |.str a,.str b=>a==b
 |_,_=>false
theorem cx3(ry:RelV y u)(rx:RelV x v)(fy:sO y=true)(fx:sO x=true):SeqAt.EqAt A s u v (eqV y x):=by
 cases y with
 |non=>
  cases ry;cases x with
  |non=>cases rx;exact SeqAt.EqAt.same _
  |bl b=>cases rx;exact SeqAt.EqAt.none_bool b
  |int b=>obtain⟨t,rfl⟩:=rx;exact SeqAt.EqAt.none_int b t
  |str b=>obtain⟨t,rfl⟩:=rx;exact SeqAt.EqAt.none_str b t
  |_=>exact absurd (show false=true from fx) Bool.false_ne_true
 |bl a=>
  cases ry;cases x with
  |non=>cases rx;exact SeqAt.EqAt.bool_none a
  |bl b=>cases rx;exact SeqAt.EqAt.bool_bool a b
  |int b=>obtain⟨t,rfl⟩:=rx;exact SeqAt.EqAt.bool_int a b t
  |str b=>obtain⟨t,rfl⟩:=rx;exact SeqAt.EqAt.bool_str a b t
  |_=>exact absurd (show false=true from fx) Bool.false_ne_true
 |int a=>
  obtain⟨t',rfl⟩:=ry;cases x with
  |non=>cases rx;exact SeqAt.EqAt.int_none a t'
  |bl b=>cases rx;exact SeqAt.EqAt.int_bool a t' b
  |int b=>obtain⟨t,rfl⟩:=rx;exact SeqAt.EqAt.int_int a t' b t
  |str b=>obtain⟨t,rfl⟩:=rx;exact SeqAt.EqAt.int_str a t' b t
  |_=>exact absurd (show false=true from fx) Bool.false_ne_true
 |str a=>
  obtain⟨t',rfl⟩:=ry;cases x with
  |non=>cases rx;exact SeqAt.EqAt.str_none a t'
  |bl b=>cases rx;exact SeqAt.EqAt.str_bool a t' b
  |int b=>obtain⟨t,rfl⟩:=rx;exact SeqAt.EqAt.str_int a t' b t
  |str b=>obtain⟨t,rfl⟩:=rx;exact SeqAt.EqAt.str_str a t' b t
  |_=>exact absurd (show false=true from fx) Bool.false_ne_true
 |_=>exact absurd (show false=true from fy) Bool.false_ne_true
theorem bo2:OpR X (compareOp .NotIn) (λx y H Q=>∃i j,x=.str i/\y=.str j/\Q (.bl (!(!(Builtin.Str.occurrences j i 0 j.length 1).isEmpty))) H):=by intro pins s σ H x y v u Q I rx ry h;obtain⟨i,j,rfl,rfl,q⟩:=h;obtain⟨t,rfl⟩:=rx;obtain⟨t',rfl⟩:=ry;exact notIn_str ⟨.bl _,H,I,rfl,q⟩
theorem CallR.or(h:CallR X f r)(h':CallR X f r'):CallR X f (λxs H Q=>r xs H Q\/r' xs H Q):=by
 intro pins s σ H xs us Q I rs q;rcases q with q|q
 . exact h s σ H xs us Q I rs q
 . exact h' s σ H xs us Q I rs q
theorem bz3:CallR X (.type "list") (λxs H Q=>∃p ys,xs=[.ref p]/\(SqL X.K H p ys\/SqT X.K H p ys)/\∀l,H l=none->Q (.ref l) (upd H l (.lst ys))):=by
 intro pins s σ H xs us Q I r h;obtain⟨p,ys,rfl,hq,q⟩:=h;obtain⟨u,rfl,rx⟩:=yW r;cases rx;have bN:∀(its:List Value),Vals ys its->ys.length<=sizeLine->∀(h':Heap)(c':Nat),(∀b o',s.heap.get? b=some o'->h'.get? b=some o')->
  h'.get? s.heap.objs.size=some {cls:=.type "list",dict:=none,data:=.seq its.toArray c',slots:=#[]}->EP X pins σ Q (.ref s.heap.objs.size) {s with heap:=h'}:=λits r' hz h' c' kp e=>
  ⟨.ref s.heap.objs.size,_,I.laid (t':=s.toks) kp (Nat.le_refl _) (show ObjOk X.prog X.w _ h' _ (.lst ys) from⟨hz,its,c',r',e⟩),rfl,q _ (I.hok.fresh (Nat.le_refl _))⟩
 rcases hq with hq|hq
 . obtain⟨its,r',pl,hz⟩:=I.list hq;have hlen:=r'.length;obtain⟨o,ho,hc,n,hd⟩:=pl.isList;exact call_list_seq p (.inl rfl) ho hc hd (λh' c' kp e=>bN its r' hz h' c' kp e) (by simp only[List.size_toArray]<;>omega)
 . obtain⟨its,r',pl,hz⟩:=I.tuple hq;have hlen:=r'.length;obtain⟨o,ho,hc,n,hd⟩:=pl;exact call_list_seq p (.inr rfl) ho hc hd (λh' c' kp e=>bN its r' hz h' c' kp e) (by simp only[List.size_toArray]<;>omega)
def tyV(K:PySem.W.Frag)(T:String)(x:V)(H:Hp):Prop:=match x with
 |.str _=>T="str"
 |.int _=>T="int"
 |.ref p=>(T="list"/\∃xs,SqL K H p xs)\/(T="tuple"/\∃o,K.lookup p=some o/\o.cls=.type "tuple"/\o.dict=none)\/
  (T="dict"/\((∃kvs,H p=some (.dK kvs))\/∃kvs,H p=some (.dT kvs)))\/(T="set"/\∃S n,H p=some (.set S n))
 |_=>False
theorem dg5(I:Inv X pins σ H s)(r:RelV x v)(ty:tyV X.K T x H):
 s.TypeIs v T/\∀a,v=.ref a->∃ob,s.heap.get? a=some ob/\ob.dict=none:=by
 cases x with
 |str z=>obtain⟨t,rfl⟩:=r;cases(show T="str" from ty);exact⟨typeIs_str s z t,λ_ e=>nomatch e⟩
 |int i=>obtain⟨t,rfl⟩:=r;cases(show T="int" from ty);exact⟨typeIs_int s i t,λ_ e=>nomatch e⟩
 |ref p=>
  cases r;rcases ty with⟨rfl,xs,hq⟩|⟨rfl,o,hk,hc,hd⟩|⟨rfl,hk⟩|⟨rfl,S,n,hk⟩
  . obtain⟨its,_,pl,_⟩:=I.list hq;refine⟨pl.isList.typeIs,λa e=>?_⟩;cases e;obtain⟨o,n,e,c,hd,_⟩:=pl;exact⟨o,e,hd⟩
  . refine⟨⟨o,I.kIn p o hk,hc⟩,λa e=>?_⟩;cases e;exact⟨o,I.kIn _ o hk,hd⟩
  . have z:∃o,s.heap.get? p=some o/\o.ExactDict:=by
     rcases hk with⟨kvs,hk⟩|⟨kvs,hk⟩
     . obtain⟨_,_,_,_,o,_,_,e,ex,_⟩:=I.hok p _ hk;exact⟨o,e,ex⟩
     . obtain⟨_,_,_,_,o,_,_,e,ex,_⟩:=I.hok p _ hk;exact⟨o,e,ex⟩
    obtain⟨o,e,ex⟩:=z;refine⟨⟨o,e,ex.1⟩,λa e2=>?_⟩;cases e2;exact⟨o,e,ex.2.1⟩
  . obtain⟨o,_,_,_,e,ex,_⟩:=I.hok p _ hk;refine⟨⟨o,e,ex.1⟩,λa e2=>?_⟩;cases e2;exact⟨o,e,ex.2.1⟩
 |_=>exact False.elim ty
def tBM(K:PySem.W.Frag)(T:String)(r:V->List V->Hp->VK->Prop)(to:TE)(t:TA):TE:=λσ H Q=>to σ H λx H1=>tyV K T x H1/\t σ H1 λxs H2=>r x xs H2 Q
variable {o e : Expr} {es : List Expr} {to : TE} {t : TA} {name : Str} {apos cpos : Pos} {T id : String} {r : V → List V → Hp → VK → Prop}
theorem ef0(pa:PlainAttrs T)(slot:Slot T name id)(hty:typeOf (.builtin id)=pure (.type "method_descriptor"))(hm:MtR X id r)(ho:PE X o to)(ha:PA X (e::es) t)
 (hbase:attributeBase o name X.env (eval o X.env)=eval o X.env:=by rfl)
 (hfew:((backTo cpos (starEach (e::es) X.env)).all (λx=>!x.1)&&(backToKw cpos (keywordEach [] X.env)).all (λx=>x.1.isSome)
  &&decide ((e::es).length+([]:List Keyword).length+(if([]:List Keyword).isEmpty then 0 else 1)<30))=true:=by rfl)
 (hline:(apos.endLine==cpos.line)=true:=by rfl)(hs:starEach (e::es) X.env=(false,eval e X.env)::starEach es X.env:=by rfl)(hplain:(backTo cpos (starEach es X.env)).any (·.1)=false:=by rfl):
 PE X (.Call (.Attribute o name apos) (e::es) [] cpos) (tBM X.K T r to t):=by
 intro pins s σ H Q I h;refine wpAny_Call_method_late hbase hfew hline rfl (bW (ho s σ H _ I h) λv s1 ⟨x,H1,I1,r1,ty,q1⟩=>?_);obtain⟨h1,h2⟩:=dg5 I1 r1 ty;refine⟨T,id,pa,slot,hty,h1,h2,?_⟩;have hA:=@ha cpos pins s1 σ H1 _ I1 q1;rw[hs]at hA⊢;refine Calls.callWith_builtin (by show(false||(backTo cpos (starEach es X.env)).any (·.1))=false;rw[hplain]<;>rfl) (Calls.evalArgs_plain ?_);exact bW hA λus s2 ⟨vs,H2,I2,r2,q2⟩=>hm s2 σ H2 x vs v us Q I2 r1 r2 q2
/- xs.append(e), list.index on a module's tuple .. are MtR facts of 06m -/
end
end L2
namespace L2
open PySem PySem.Spec PyProof.Rows
def MtM(X:Cx)(id:String)(r:V->List V->Hp->VK->Prop):Prop:=
 ∀(pins:List (Addr×Obj))(s:Shared)(σ:St)(H:Hp)(x:V)(xs:List V)(v:Value)(us:List Value)(Q:VK),Inv X pins σ H s->RelV x v->Vals xs us->r x xs H Q->
  wpAny (model X.prog X.w) X.A (call (.builtin id) (v::us)) (EP X pins σ Q) X.xe s
theorem Vals.one:∀{x:V}{us:List Value},Vals [x] us->∃u,us=[u]/\RelV x u
 |_,_,.cons r .nil=>⟨_,rfl,r⟩
theorem Vals.two:∀{x y:V}{us:List Value},Vals [x,y] us->∃u v,us=[u,v]/\RelV x u/\RelV y v
 |_,_,_,.cons r (.cons q .nil)=>⟨_,_,rfl,r,q⟩
section
variable {X : Cx} {pins : List (Addr × Obj)} {σ : St} {H : Hp} {s : Shared} {l b : Addr} {xs ys zs : List V}
theorem Inv.lset{its its':List Value}{n:Nat}{f:Array Value->Array Value}{t':Nat}(I:Inv X pins σ H s)(hH:H l=some (.lst xs))
 (e:s.heap.get? l=some {cls:=.type "list",data:=.seq its.toArray n})(hf:f its.toArray=its'.toArray)(hv:Vals ys its')(hz:ys.length<=sizeLine):
 Inv X pins σ (upd H l (.lst ys)) {s with heap:=s.heap.update l (Obj.mapSeq f),toks:=t'}:=by
 have q:=PySem.IsL.update e f;rw[hf]at q;refine I.write (x:=l) (e:=l) (by rw[hH];exact trivial) (.inl rfl) (λb' u hb hu=>(Heap.get?_update_other s.heap (Obj.mapSeq f) (Ne.symm hb)).trans hu) ⟨_,q⟩ ?_;exact⟨hz,its',_,hv,q⟩
theorem Inv.lnew(I:Inv X pins σ H s)(hv:Vals ys its)(hz:ys.length<=sizeLine):
 Inv X pins σ (upd H s.heap.objs.size (.lst ys)) {s with heap:=s.heap.push {cls:=.type "list",data:=.seq its.toArray},toks:=t'}:=
 I.laid (λ_ _ q=>Heap.get?_push_of_some _ q) (Nat.le_refl _) ⟨hz,its,0,hv,Heap.get?_push_size _ rfl⟩
theorem Inv.fresh(I:Inv X pins σ H s):H s.heap.objs.size=none:=I.hok.fresh (Nat.le_refl _)
theorem Inv.lstM(I:Inv X pins σ H s)(hH:H l=some (.lst xs)):xs.length<=sizeLine/\∃(its:List Value)(n:Nat),Vals xs its/\xs.length=its.length/\s.heap.get? l=some {cls:=.type "list",data:=.seq its.toArray n}:=by obtain⟨z,its,n,r,e⟩:=I.hok l _ hH;exact⟨z,its,n,r,r.length,e⟩
end
section
variable {X : Cx}
def ay7:V->List V->Hp->VK->Prop:=λx vs H Q=>∃l xs y,x=.ref l/\vs=[y]/\H l=some (.lst xs)/\xs.length<sizeLine/\Q .non (upd H l (.lst (xs++[y])))
theorem cs2:MtM X "list.append" ay7:=by intro pins s σ H x vs v us Q I rx rv h;obtain⟨l,xs,y,rfl,rfl,hH,hz,q⟩:=h;cases rx;obtain⟨u,rfl,ru⟩:=rv.one;obtain⟨z,its,n,r,hl,e⟩:=I.lstM hH;refine call_meets F.slot_list_append ⟨_,e,rfl⟩ F.entry_list_append (F.args_list_append_2 _ _) (PySem.list_append l its.toArray n u (by rw[List.size_toArray];omega)) ⟨e,?_⟩;refine⟨.non,_,I.lset (its':=its++[u]) hH e (by simp) (r.append (.cons ru .nil)) ?_,rfl,q⟩;rw[List.length_append,List.length_singleton];omega
theorem bf8(xs:List α)(k:Nat):(List.replicate k xs).flatten.length=k*xs.length:=by
 induction k with
 |zero=>simp
 |succ k ih=>rw[List.replicate_succ,List.flatten_cons,List.length_append,ih,Nat.succ_mul,Nat.add_comm]
end
section
variable {prog : Program} {w : World} {A : Around} {E : Value → Shared → Prop} {s : Shared}
set_option maxRecDepth 100000 in
end
section
variable {X : Cx}
end
end L2
namespace Att
open PySem PySem.W PySem.Calls PyProof.Rows
theorem ints_of_wellAll:∀(ns:List Int)(vs:List Value),WellAll P h vs (ns.map WData.int)->IntsAre vs ns:=by
 intro ns;induction ns with
 |nil=>intro vs w;rw[List.map_nil]at w;cases w;exact .nil
 |cons n ns ih=>
  intro vs w;rw[List.map_cons]at w;cases w with
  |cons a b=>cases a;exact .cons _ _ (ih _ b)
theorem script_of{l:OpenLaw}{n:Nat}(hn:l.most=some n){P:Params}{h:Heap}{args:List WData}{vals:List Value}
 (hpre:l.row.toRowW.claim.pre args=true)(hwl:WellAll P h vals args):
 ∃a vs ns,vals=[Value.ref a]/\args=[WData.list (ns.map WData.int)]/\h.get? a=some {cls:=.type "list",data:=.seq vs.toArray}/\IntsAre vs ns/\ns.length<=n:=by
 have hsh:WShape.hasAll [] args [.list .int]=true:=(pre_splitW hpre).1;have hc:l.pre.holds [] {args:=args}=true:=(pre_splitW hpre).2;obtain⟨d,r,rfl,h1,h2⟩:=hasAllW_cons hsh;obtain rfl:=hasAllW_nil h2;obtain⟨xs,rfl,h3⟩:=hasW_list h1;obtain⟨ns,rfl⟩:=items_int h3;have hlen:ns.length<=n:=by
  unfold OpenLaw.pre at hc;have h4:(WTm.not (.lt (.lit (.int (n:Int))) (.len (.arg 0)))).holds [] {args:=[.list (ns.map .int)]}=true:=by have h4:=(holds_andW hc).1;rw[hn]at h4;exact h4
  have h5:=condW_of h4 (w_not (w_lt w_lit (w_len_list (w_arg rfl))));rw[List.length_map]at h5;refine Nat.le_of_not_lt λq=>?_;have q':(n:Int)<((ns.length:Nat):Int):=by omega
  first
   |(rw[decide_eq_true q']at h5;exact absurd h5 (by decide))
   |(simp at h5;omega)
 cases hwl with
 |cons w1 w2=>
  cases w2;cases w1 with
  |list ho hall=>exact⟨_,_,ns,rfl,rfl,ho,ints_of_wellAll ns _ hall,hlen⟩
theorem post_true(l:OpenLaw)(args:List WData):l.row.toRowW.claim.post args (.bool true) args=true:=
 postW_of (r:=l.row.toRowW) (X:=(true==true))
  (show WShape.has [] (.bool true) .bool=true by first|rfl|decide|simp[WShape.has,WShape.arms,WShape.armsAll])
  (show(WTm.eq .res (.lit (.bool true))).value [] {args:=args,res:=some (.bool true),after:=args}=some (.bool (true==true)) from w_eq_bool (w_res rfl) w_lit) rfl
section
variable {prog : Program} {w : World} {A : Around} {E : Value → Shared → Prop} {s : Shared} {K : Frag}
end
end Att
namespace L2
open PySem PySem.Spec PyProof.Rows
theorem ao9:∀{vs:List Value}{ns:List Int},IntsAre vs ns->Vals (ns.map V.int) vs
 |_,_,.nil=>.nil
 |_,_,.cons n t h=>.cons ⟨t,rfl⟩ (ao9 h)
def dd6(H:Hp):Prop:=∀b,H b=none\/∃o xs,H b=some (.frz o (.lst xs))
theorem cg7{P:Program}{w:World}{K:PySem.W.Frag}{mg mb:Str->Option Value}{CX:uQ}{k:Nat}{fa a:Addr}{fd:FuncData}{x:Str}{sp:Sp}{s₁:Shared}{vs:List Value}{ns:List Int}
 (KX:K.In s₁.heap)(hns:s₁.heap.Ns mainGlobals mg)(hb:s₁.heap.Ns builtinsNs mb)(hbb:∀x:Str,x≠"__name__"->mb x=bootBuiltins x)(hlim:s₁.heap.NoLimit)(hg:s₁.gens=#[])
 (ha:s₁.heap.get? a=some {cls:=.type "list",data:=.seq vs.toArray})(hi:IntsAre vs ns)(hl:ns.length<=sizeLine)(hr:Room k callerA)
 (F:∀base:Heap,K.In base->base.Ns mainGlobals mg->FnOk P w K mg base CX k fa fd [x] sp)(hbind:∀(s:Shared)(u:Value),BindsTo s fd ⟨[u],[]⟩ [(x,u)])
 (hsp:∀H:Hp,dd6 H->SqL K H a (ns.map V.int)->sp [.ref a] H (λv _=>v=.bl true) λ_ _ _=>False)
 (hCX:∀H e s',CX [] H s₁ (λ_ _ _=>False) e s'->False):
 codeAny (model P w) callerA (.call (.ref fa) ⟨[.ref a],[]⟩) (λr s'=>r=.ok (.ret (.bool true))/\OldK s₁.heap s'.heap/\s'.os=s₁.os/\AllBare s'.gens) s₁:=by
 have rv:=ao9 hi;have lenV:=hi.length;have core:∀H:Hp,dd6 H->SqL K H a (ns.map V.int)->HOk P w H s₁.heap->(∀b,H b≠none->b=a)->(H a≠none->K.lookup a=none)->
  codeAny (model P w) callerA (.call (.ref fa) ⟨[.ref a],[]⟩) (λr s'=>r=.ok (.ret (.bool true))/\OldK s₁.heap s'.heap/\s'.os=s₁.os/\AllBare s'.gens) s₁:=by
  intro H hO hS hok hA hK;have base_of:∀{b:Addr}{o:Obj},s₁.heap.get? b=some o->H b=none->(yL s₁.heap H).get? b=some o:=λe n=>cn6 e n;have noA:∀{b:Addr}{o:Obj}{es:Array DictEntry}{ep:Nat},s₁.heap.get? b=some o->o.data=.dict es ep->H b=none:=λ{b o es ep} e d=>by
   cases q:H b with
   |none=>rfl
   |some u=>have e':b=a:=hA b (by rw[q];simp);subst e';rw[ha]at e;cases e;have d':Data.seq vs.toArray _=Data.dict es ep:=d;cases d'
  have nsK:∀{b:Addr}{m:Str->Option Value},s₁.heap.Ns b m->(yL s₁.heap H).Ns b m:=λ{b m} ⟨o,es,ep,e,d,r⟩=>⟨o,es,ep,base_of e (noA e d),d,r⟩;have hKb:K.In (yL s₁.heap H):=λb o e=>base_of (KX b o e) (by
   cases q:H b with
   |none=>rfl
   |some u=>have e':b=a:=hA b (by rw[q];simp);subst e';rw[hK (by rw[q];simp)]at e;cases e)
  have hM:Mod K mg (yL s₁.heap H):=⟨hKb,nsK hns,⟨mb,nsK hb,hbb⟩,let⟨mc,h1,h2⟩:=hlim;⟨mc,nsK h1,h2⟩⟩;have e0:Env0 P w K mg (yL s₁.heap H) callerA [] s₁ H:=⟨rfl,hM,λb o e=>du1 e,Nat.le_of_eq (cu1 _ _),trivial,λb hb=>absurd (show b∈([]:List Addr) from hb) (by simp),hok,.of_eq hg⟩;refine codeAny_mono ((F _ hKb (nsK hns)).run callerA [] s₁ H ⟨[.ref a],[]⟩ [.ref a] [.ref a] _ _ hr e0 (hbind s₁ (.ref a)) (.cons rfl .nil) (hsp H hO hS)) λr s' h=>?_;cases r with
  |error e=>exact(hCX H e s' h).elim
  |ok fl=>
   cases fl with
   |next=>exact False.elim h
   |brk=>exact False.elim h
   |cont=>exact False.elim h
   |ret u=>
    obtain⟨v,H',os,bare,un,hok',r',q⟩:=h;have q':v=.bl true:=q;subst q';obtain rfl:u=Value.bool true:=r';refine⟨rfl,OldK.of_keep λb o e=>?_,os,bare⟩;cases q:H b with
    |none=>exact un.keep b o e q (by intro z;exact absurd (show b∈([]:List Addr) from z) (by simp)) (by simp)
    |some u=>
     rcases hO b with z|⟨ob,xs,z⟩
     . rw[q]at z;cases z
     . have z2:=un.frzs b ob _ z;obtain⟨e1,_⟩:=hok b _ z;obtain⟨e2,_⟩:=hok' b _ z2;rw[e]at e1;cases e1;exact e2
 cases hk:K.lookup a with
 |some o=>have e:=KX a o hk;rw[ha]at e;cases e;refine core (λ_=>none) (λ_=>.inl rfl) (.inr ⟨_,vs.toArray,_,hk,rfl,rfl,rfl,by rw[List.size_toArray,lenV];exact hl,by simpa using rv⟩) (λb u z=>by have z':(none:Option HO)=some u:=z;cases z') (λb z=>absurd rfl z) λz=>absurd rfl z
 |none=>
  refine core (λb=>if b=a then some (.frz {cls:=.type "list",data:=.seq vs.toArray} (.lst (ns.map V.int)))else none) (λb=>?_) (.inl (.inr ⟨{cls:=.type "list",data:=.seq vs.toArray},if_pos rfl⟩)) (λb u z=>?_) (λb z=>?_) λ_=>hk
  . by_cases hb:b=a
    . exact .inr ⟨_,_,if_pos hb⟩
    . exact .inl (if_neg hb)
  . by_cases hb:b=a
    . have z':=(if_pos hb).symm.trans z;cases z';subst hb;exact⟨ha,by rw[List.length_map];exact hl,vs,_,rv,ha⟩
    . have z':=(if_neg hb).symm.trans z;cases z'
  . by_cases hb:b=a
    . exact hb
    . exact absurd (if_neg hb) z
end L2
namespace L2
open PySem PySem.Spec PyProof.Rows
end L2
namespace L2
open PySem PySem.Spec PyProof.Rows
def kP(s:Stmt)(j:Nat):Stmt:=match s with
 |.ClassDef _ _ _ body _ _ _ _ _ _ _=>body.getD j (.Pass ⟨0,0,0,0⟩)
 |_=>.Pass ⟨0,0,0,0⟩
def gP(s:Stmt):Arguments:=match s with
 |.FunctionDef _ a _ _ _ _ _ _ _ _=>a
 |_=>{posonlyargs:=[],args:=[],vararg:=none,kwonlyargs:=[],kw_defaults:=[],kwarg:=none,defaults:=[]}
def cK(s:Stmt):List Stmt:=match s with
 |.FunctionDef _ _ b _ _ _ _ _ _ _=>b
 |_=>[]
def aL(s:Stmt):Scope:=match s with
 |.FunctionDef _ _ _ _ _ _ sc _ _ _=>sc
 |_=>{kind:=.function,names:=[],isGenerator:=false,isCoroutine:=false}
abbrev lN:uQ:=λ_ _ _ _ _ _=>False
abbrev E0:XK:=λ_ _ _=>False
theorem bx1:vM lN X E0:=λ_ _ _ _ _ _ _ h=>h.elim
structure Fun (K:PySem.W.Frag) (x qual:Str) (st:Stmt) (f:Addr) (fd:FuncData):Prop where
 ex:∃(oc:Value)(od:Option Addr)(kV doc pm:Value)(an:Option Addr)(cdv ct:Value)(osl:Array (Option Value)),
  fd=PySem.W.fnOf x qual (gP st) (cK st) (aL st) .none kV doc pm an cdv ct/\K.lookup f=some ⟨oc,od,.func fd,osl⟩/\PySem.W.codeIn K cdv qual=true
 kp:PySem.W.keepIn K (.ref f)=true
section
variable {P : Program} {w : World} {K : PySem.W.Frag} {mg : Str → Option Value} {base : Heap}
theorem Fun.ok{x qual:Str}{st:Stmt}{f:Addr}{fd:FuncData}{N ps:List Str}{k:Nat}{sp:Sp}(F:Fun K x qual st f fd)(S:aW N ps (aL st))(len:∀vs H Q E,sp vs H Q E->vs.length=ps.length)
 (hbody:∀(cdv:Value)(A:Around)(outer:List Env)(s:Shared)(H:Hp)(vs:List V)(Q:VK)(E:XK),Room k (A.deeper (envOfC qual (aL st) s.heap.objs.size f cdv))->sp vs H Q E->
  ∃t,PSs (lH lN P w K mg base N qual (aL st) f cdv A outer s H E).nox (cK st) t/\t {nx:=λ_ H'=>Q .non H',rt:=Q} (iG N vs) H):FnOk P w K mg base lN (k+1) f fd ps sp:=by
 obtain⟨oc,od,kV,doc,pm,an,cdv,ct,osl,rfl,lk,hcd⟩:=F.ex;refine dd0 lk hcd S len λA outer s H vs Q E hr hsp=>?_;obtain⟨t,h,q⟩:=hbody cdv A outer s H vs Q E hr hsp;exact⟨t,h.nox,q⟩
theorem Fun.binds{x qual:Str}{st:Stmt}{f:Addr}{fd:FuncData}{ps:List Str}(F:Fun K x qual st f fd)
 (h:∀(kV doc pm:Value)(an:Option Addr)(cdv ct:Value)(us:List Value),us.length=ps.length->bindArgs (PySem.W.fnOf x qual (gP st) (cK st) (aL st) .none kV doc pm an cdv ct) ⟨us,[]⟩=pure (ps.zip us)):Binds K fd ps []:=by
 obtain⟨oc,od,kV,doc,pm,an,cdv,ct,osl,rfl,lk,hcd⟩:=F.ex;exact .all (h kV doc pm an cdv ct)
theorem ar0{x qual:Str}{st:Stmt}{f:Addr}{oc:Value}{od an:Option Addr}{osl:Array (Option Value)}{kV doc pm cdv ct:Value}(l:K.lookup f=some ⟨oc,od,.func (PySem.W.fnOf x qual (gP st) (cK st) (aL st) .none kV doc pm an cdv ct),osl⟩)
 (c:PySem.W.codeIn K cdv qual=true)(k:PySem.W.keepIn K (.ref f)=true):Fun K x qual st f (PySem.W.fnOf x qual (gP st) (cK st) (aL st) .none kV doc pm an cdv ct):=⟨⟨oc,od,kV,doc,pm,an,cdv,ct,osl,rfl,l,c⟩,k⟩
end
section
variable {X : Cx}
theorem pv(i:Nat)(hN:X.N[i]?=some x:=by rfl)(hv:Vis X.env.scope x:=by first|exact Or.inl rfl|exact Or.inr (Or.inl rfl)|exact Or.inr (Or.inr rfl))(hd:(x==("__debug__":Str))=false:=by decide)
 (hcd:(x==("__classdict__":Str))=false:=by decide):PE X (.Name x pos) (xA i):=bp4 hN hv hd hcd
end
def Same(H H':Hp):Prop:=∀b o,H b=some o->H' b=some o
theorem Same.refl(H:Hp):Same H H:=λ_ _ h=>h
theorem Same.trans(a:Same H H1)(b:Same H1 H2):Same H H2:=λc o h=>b c o (a c o h)
theorem Same.free(e:Same H H')(h:H' l=Option.none):H l=Option.none:=by
 cases q:H l with
 |none=>rfl
 |some o=>rw[e l o q]at h;cases h
theorem Same.seq{K:PySem.W.Frag}{H H':Hp}{a:Addr}{xs:List V}(e:Same H H')(h:SqL K H a xs):SqL K H' a xs:=by
 rcases h with(h|⟨o,h⟩)|h
 . exact .inl (.inl (e _ _ h))
 . exact .inl (.inr ⟨o,e _ _ h⟩)
 . exact .inr h
end L2
namespace L2
open PySem PySem.Spec PyProof.Rows
def db9:R2:=λx y H Q=>∃i j,x=.int i/\y=.int j/\IntMulOk i j/\Q (.int (i*j)) H
section
variable {X : Cx}
theorem op_mulB:OpR X (binaryOp .Mult) db9:=by intro pins s σ H x y v u Q I rx ry h;obtain⟨i,j,rfl,rfl,hc,q⟩:=h;obtain⟨t,rfl⟩:=rx;obtain⟨t',rfl⟩:=ry;exact mul_int ⟨.int (i*j),H,I.tok _,⟨_,rfl⟩,q⟩ hc
def TyN(K:PySem.W.Frag)(H:Hp)(x:V)(tx:String):Prop:=match x with
 |.int _=>tx="int"
 |.bl _=>tx="bool"
 |.str _=>tx="str"
 |.ref p=>(tx="list"/\∃xs,SqL K H p xs)\/(tx="tuple"/\∃xs,SqT K H p xs)
 |_=>False
inductive gF:String->String->Bool->Prop where
 |int_int:gF "int" "int" true
 |int_bool:gF "int" "bool" false
 |int_str:gF "int" "str" false
 |int_list:gF "int" "list" false
 |int_tuple:gF "int" "tuple" false
 |bool_int:gF "bool" "int" true
 |bool_bool:gF "bool" "bool" true
 |bool_str:gF "bool" "str" false
 |bool_list:gF "bool" "list" false
 |bool_tuple:gF "bool" "tuple" false
 |str_int:gF "str" "int" false
 |str_bool:gF "str" "bool" false
 |str_str:gF "str" "str" true
 |str_list:gF "str" "list" false
 |str_tuple:gF "str" "tuple" false
 |list_int:gF "list" "int" false
 |list_bool:gF "list" "bool" false
 |list_str:gF "list" "str" false
 |list_list:gF "list" "list" true
 |list_tuple:gF "list" "tuple" false
 |tuple_int:gF "tuple" "int" false
 |tuple_bool:gF "tuple" "bool" false
 |tuple_str:gF "tuple" "str" false
 |tuple_list:gF "tuple" "list" false
 |tuple_tuple:gF "tuple" "tuple" true
theorem cz7:CallR X (.builtin "isinstance") (λxs H Q=>∃x T tx b,xs=[x,.ty T]/\TyN X.K H x tx/\gF tx T b/\Q (.bl b) H):=by
 intro pins s σ H xs us Q I r h;obtain⟨x,T,tx,b,rfl,ht,ho,q⟩:=h;obtain⟨u,v,rfl,rx,rT⟩:=r.two;obtain rfl:v=Value.type T:=rT;have fin1:EP X pins σ Q (.bool b) s:=⟨.bl b,H,I,rfl,q⟩;have fin2:EP X pins σ Q (.bool b) {s with toks:=s.toks+1}:=⟨.bl b,H,I.tok _,rfl,q⟩;cases x with
 |int i=>
  obtain⟨t,rfl⟩:=rx;have ht:tx="int":=ht;cases ho with
  |int_int=>exact IsiPair.int_int fin1
  |int_bool=>exact IsiPair.int_bool fin2
  |int_str=>exact IsiPair.int_str fin2
  |int_list=>exact IsiPair.int_list fin2
  |int_tuple=>exact IsiPair.int_tuple fin2
  |bool_int=>exact absurd ht (by decide+kernel)
  |bool_bool=>exact absurd ht (by decide+kernel)
  |bool_str=>exact absurd ht (by decide+kernel)
  |bool_list=>exact absurd ht (by decide+kernel)
  |bool_tuple=>exact absurd ht (by decide+kernel)
  |str_int=>exact absurd ht (by decide+kernel)
  |str_bool=>exact absurd ht (by decide+kernel)
  |str_str=>exact absurd ht (by decide+kernel)
  |str_list=>exact absurd ht (by decide+kernel)
  |str_tuple=>exact absurd ht (by decide+kernel)
  |list_int=>exact absurd ht (by decide+kernel)
  |list_bool=>exact absurd ht (by decide+kernel)
  |list_str=>exact absurd ht (by decide+kernel)
  |list_list=>exact absurd ht (by decide+kernel)
  |list_tuple=>exact absurd ht (by decide+kernel)
  |tuple_int=>exact absurd ht (by decide+kernel)
  |tuple_bool=>exact absurd ht (by decide+kernel)
  |tuple_str=>exact absurd ht (by decide+kernel)
  |tuple_list=>exact absurd ht (by decide+kernel)
  |tuple_tuple=>exact absurd ht (by decide+kernel)
 |bl i=>
  cases rx;have ht:tx="bool":=ht;cases ho with
  |int_int=>exact absurd ht (by decide+kernel)
  |int_bool=>exact absurd ht (by decide+kernel)
  |int_str=>exact absurd ht (by decide+kernel)
  |int_list=>exact absurd ht (by decide+kernel)
  |int_tuple=>exact absurd ht (by decide+kernel)
  |bool_int=>exact IsiPair.bool_int fin1
  |bool_bool=>exact IsiPair.bool_bool fin1
  |bool_str=>exact IsiPair.bool_str fin2
  |bool_list=>exact IsiPair.bool_list fin2
  |bool_tuple=>exact IsiPair.bool_tuple fin2
  |str_int=>exact absurd ht (by decide+kernel)
  |str_bool=>exact absurd ht (by decide+kernel)
  |str_str=>exact absurd ht (by decide+kernel)
  |str_list=>exact absurd ht (by decide+kernel)
  |str_tuple=>exact absurd ht (by decide+kernel)
  |list_int=>exact absurd ht (by decide+kernel)
  |list_bool=>exact absurd ht (by decide+kernel)
  |list_str=>exact absurd ht (by decide+kernel)
  |list_list=>exact absurd ht (by decide+kernel)
  |list_tuple=>exact absurd ht (by decide+kernel)
  |tuple_int=>exact absurd ht (by decide+kernel)
  |tuple_bool=>exact absurd ht (by decide+kernel)
  |tuple_str=>exact absurd ht (by decide+kernel)
  |tuple_list=>exact absurd ht (by decide+kernel)
  |tuple_tuple=>exact absurd ht (by decide+kernel)
 |str i=>
  obtain⟨t,rfl⟩:=rx;have ht:tx="str":=ht;cases ho with
  |int_int=>exact absurd ht (by decide+kernel)
  |int_bool=>exact absurd ht (by decide+kernel)
  |int_str=>exact absurd ht (by decide+kernel)
  |int_list=>exact absurd ht (by decide+kernel)
  |int_tuple=>exact absurd ht (by decide+kernel)
  |bool_int=>exact absurd ht (by decide+kernel)
  |bool_bool=>exact absurd ht (by decide+kernel)
  |bool_str=>exact absurd ht (by decide+kernel)
  |bool_list=>exact absurd ht (by decide+kernel)
  |bool_tuple=>exact absurd ht (by decide+kernel)
  |str_int=>exact IsiPair.str_int fin2
  |str_bool=>exact IsiPair.str_bool fin2
  |str_str=>exact IsiPair.str_str fin1
  |str_list=>exact IsiPair.str_list fin2
  |str_tuple=>exact IsiPair.str_tuple fin2
  |list_int=>exact absurd ht (by decide+kernel)
  |list_bool=>exact absurd ht (by decide+kernel)
  |list_str=>exact absurd ht (by decide+kernel)
  |list_list=>exact absurd ht (by decide+kernel)
  |list_tuple=>exact absurd ht (by decide+kernel)
  |tuple_int=>exact absurd ht (by decide+kernel)
  |tuple_bool=>exact absurd ht (by decide+kernel)
  |tuple_str=>exact absurd ht (by decide+kernel)
  |tuple_list=>exact absurd ht (by decide+kernel)
  |tuple_tuple=>exact absurd ht (by decide+kernel)
 |ref p=>
  cases rx;have ht:(tx="list"/\∃xs,SqL X.K H p xs)\/(tx="tuple"/\∃xs,SqT X.K H p xs):=ht;rcases ht with⟨ht,ys,hq⟩|⟨ht,ys,hq⟩
  . obtain⟨its,rv,⟨o,n,e,c,d,dt⟩,hz⟩:=I.list hq;cases ho with
    |int_int=>exact absurd ht (by decide+kernel)
    |int_bool=>exact absurd ht (by decide+kernel)
    |int_str=>exact absurd ht (by decide+kernel)
    |int_list=>exact absurd ht (by decide+kernel)
    |int_tuple=>exact absurd ht (by decide+kernel)
    |bool_int=>exact absurd ht (by decide+kernel)
    |bool_bool=>exact absurd ht (by decide+kernel)
    |bool_str=>exact absurd ht (by decide+kernel)
    |bool_list=>exact absurd ht (by decide+kernel)
    |bool_tuple=>exact absurd ht (by decide+kernel)
    |str_int=>exact absurd ht (by decide+kernel)
    |str_bool=>exact absurd ht (by decide+kernel)
    |str_str=>exact absurd ht (by decide+kernel)
    |str_list=>exact absurd ht (by decide+kernel)
    |str_tuple=>exact absurd ht (by decide+kernel)
    |list_int=>exact IsiPair.list_int e c fin2
    |list_bool=>exact IsiPair.list_bool e c fin2
    |list_str=>exact IsiPair.list_str e c fin2
    |list_list=>exact IsiPair.list_list e c fin1
    |list_tuple=>exact IsiPair.list_tuple e c fin2
    |tuple_int=>exact absurd ht (by decide+kernel)
    |tuple_bool=>exact absurd ht (by decide+kernel)
    |tuple_str=>exact absurd ht (by decide+kernel)
    |tuple_list=>exact absurd ht (by decide+kernel)
    |tuple_tuple=>exact absurd ht (by decide+kernel)
  . obtain⟨its,rv,⟨o,e,c,n,d⟩,hz⟩:=I.tuple hq;cases ho with
    |int_int=>exact absurd ht (by decide+kernel)
    |int_bool=>exact absurd ht (by decide+kernel)
    |int_str=>exact absurd ht (by decide+kernel)
    |int_list=>exact absurd ht (by decide+kernel)
    |int_tuple=>exact absurd ht (by decide+kernel)
    |bool_int=>exact absurd ht (by decide+kernel)
    |bool_bool=>exact absurd ht (by decide+kernel)
    |bool_str=>exact absurd ht (by decide+kernel)
    |bool_list=>exact absurd ht (by decide+kernel)
    |bool_tuple=>exact absurd ht (by decide+kernel)
    |str_int=>exact absurd ht (by decide+kernel)
    |str_bool=>exact absurd ht (by decide+kernel)
    |str_str=>exact absurd ht (by decide+kernel)
    |str_list=>exact absurd ht (by decide+kernel)
    |str_tuple=>exact absurd ht (by decide+kernel)
    |list_int=>exact absurd ht (by decide+kernel)
    |list_bool=>exact absurd ht (by decide+kernel)
    |list_str=>exact absurd ht (by decide+kernel)
    |list_list=>exact absurd ht (by decide+kernel)
    |list_tuple=>exact absurd ht (by decide+kernel)
    |tuple_int=>exact IsiPair.tuple_int e c fin2
    |tuple_bool=>exact IsiPair.tuple_bool e c fin2
    |tuple_str=>exact IsiPair.tuple_str e c fin2
    |tuple_list=>exact IsiPair.tuple_list e c fin2
    |tuple_tuple=>exact IsiPair.tuple_tuple e c fin1
 |_=>exact(show False from ht).elim
theorem ar3:∀{bs:List Bool}{us:List Value}{i:Nat}{u:Value},Vals (bs.map V.bl) us->us[i]?=some u->∃b,bs[i]?=some b/\u=.bool b
 |[],_,_,_,.nil,e=>by simp at e
 |b::bs,_,0,_,.cons r _,e=>by simp at e;subst e;exact⟨b,rfl,r⟩
 |b::bs,_,i+1,_,.cons _ t,e=>by obtain⟨c,h1,h2⟩:=ar3 (i:=i) t (by simpa using e);exact⟨c,by simpa using h1,h2⟩
theorem ce3(bs:List Bool):((List.range bs.length).all λi=>(bs[i]?).getD true)=bs.all id:=by
 rw[Bool.eq_iff_iff,List.all_eq_true,List.all_eq_true];constructor
 . intro h b hb;obtain⟨i,hi,e⟩:=List.mem_iff_getElem.mp hb;have q:=h i (List.mem_range.mpr hi);rw[List.getElem?_eq_getElem hi,e]at q;exact q
 . intro h i hi;have hi':=List.mem_range.mp hi;rw[List.getElem?_eq_getElem hi'];exact h _ (List.getElem_mem hi')
theorem bt2{s:Shared}{h':Heap}{o:Obj}(hk:∀b x,b∉[s.heap.objs.size]->(s.heap.push o).get? b=some x->h'.get? b=some x):∀b x,s.heap.get? b=some x->h'.get? b=some x:=
 λb x e=>hk b x (λhm=>by rw[List.mem_singleton.mp hm]at e;exact Nat.lt_irrefl _ (Heap.lt_size e)) (Heap.get?_push_of_some _ e)
theorem ce9(hc:X.calm=true):CallR X (.builtin "all") (λxs H Q=>∃(p:Addr)(bs:List Bool),xs=[.ref p]/\SqL X.K H p (bs.map V.bl)/\Q (.bl (bs.all id)) H):=by
 intro pins s σ H xs us Q I r h;obtain⟨p,bs,rfl,hq,q⟩:=h;obtain⟨u,rfl,r1⟩:=r.one;obtain rfl:u=Value.ref p:=r1;obtain⟨its,rv,pl,hz⟩:=I.list hq;have hl:=pl.isList;have hlen:bs.length=its.length:=by have:=rv.length;rwa[List.length_map]at this
 have hlt:p<s.heap.objs.size:=by obtain⟨_,_,e,_⟩:=pl;exact Heap.lt_size e
 refine call_all_walk (wpAny_pyIter_list hl ?_);refine⟨s.heap.objs.size,[s.heap.objs.size,p],[s.heap.objs.size],its.toArray.size,_,_,λi=>(bs[i]?).getD true,rfl,Walks.list (A:=X.A.in1) (I.ok.hd hc) _ p (Nat.ne_of_lt hlt) its.toArray,
  ⟨⟨_,Heap.get?_push_size _ rfl,rfl,rfl⟩,hl.push _⟩,λi v s' Q' E' hP hQ=>?_,λh' tk hk=>?_⟩
 . obtain⟨b,e,rfl⟩:=ar3 rv (i:=i) (u:=v) (by simpa using hP);simp only[e,Option.getD_some]at hQ;exact wpAny_truthy_bool hQ
 . have e:((List.range its.toArray.size).all λi=>(bs[i]?).getD true)=bs.all id:=by rw[List.size_toArray,<-hlen];exact ce3 bs
   rw[e];exact⟨.bl _,H,I.kept (bt2 hk),rfl,q⟩
end
structure gT (P:Program) (w:World) (K:PySem.W.Frag) (mg:Str->Option Value) (base:Heap) (k:Nat) (x:Str) (ps:List Str) (sp:Sp):Prop where
 ex:∃f fd,FnOk P w K mg base lN k f fd ps sp/\mg x=some (.ref f)/\PySem.W.keepIn K (.ref f)=true/\Binds K fd ps []
def cf7(sp:Sp)(t:TA):TE:=λσ H Q=>t σ H λvs H1=>sp vs H1 Q E0
section
variable {X : Cx}
theorem dm9(d:gT X.prog X.w X.K X.mg X.base k x ps sp)(hr:Room k X.A)(ha:PA X (e::es) t)(hg:Gl X x:=by rfl)
 (hdb:(x==("__debug__":Str))=false:=by decide)(he:starEach (e::es) X.env=(false,eval e X.env)::starEach es X.env:=by rfl)(hpl:(backTo pos (starEach es X.env)).any (·.1)=false:=by rfl):
 PE X (.Call (.Name x p) (e::es) [] pos) (cf7 sp t):=by
 obtain⟨f,fd,F,hm,hk,hb⟩:=d.ex;intro pins s σ H Q I h;have e1:(λvs H1=>sp (vs++[]) H1 Q E0)=λvs H1=>sp vs H1 Q E0:=by funext vs H1;rw[List.append_nil]
 refine dp1 F hr hg hm hk hb .nil bx1 ha hdb he hpl s σ H Q I ?_;show t σ H λvs H1=>sp (vs++[]) H1 Q E0;rw[e1];exact h
end
end L2
namespace Att
open PySem PySem.W PySem.Calls PyProof.Rows
theorem weight_mem:∀(ns:List Int)(n:Int),n∈ns->WData.weight (.int n)<=WData.weightAll (ns.map WData.int)
 |m::ns,n,h=>by
  rw[List.map_cons];simp only[WData.weightAll];rcases List.mem_cons.mp h with rfl|h
  . omega
  . have:=weight_mem ns n h;omega
theorem bits_of{ns:List Int}(h:WData.layableAll [.list (ns.map WData.int)]=true):∀n∈ns,Builtin.Int.intBits n<=1048576:=by
 intro n hn;have h1:WData.layable (.list (ns.map WData.int))=true:=by have h2:([WData.list (ns.map WData.int)].all WData.layable)=true:=h;rw[List.all_cons,Bool.and_eq_true]at h2;exact h2.1
 unfold WData.layable at h1;rw[Bool.and_eq_true]at h1;have h3:=of_decide_eq_true h1.2;have h4:=weight_mem ns n hn;have h5:WData.weight (.int n)=Builtin.Int.intBits n:=by unfold WData.weight Builtin.Int.intBits;rfl
 have h6:WData.weight (.list (ns.map WData.int))=WData.weightAll (ns.map WData.int):=by
  conv=>lhs;unfold WData.weight
 rw[h6]at h3;rw[h5]at h4;have h7:(2:Nat)^20=1048576:=by decide
 omega
theorem attach_callB{l:OpenLaw}{n:Nat}{q:Program}{loose:List Str}{XP:(Str->Option Value)->Heap->Prop}{YP:World->Heap->Prop}{d:DefRec}
 (hn:l.most=some n)(hdf:d.params.defaults=[])
 (call:∀(w:World)(s₀ s₁:Shared)(mg mb:Str->Option Value)(fa:Addr)(o:Obj)(pm cd doc:Value)(a:Addr)(vs:List Value)(ns:List Int),
  Ground q loose [] XP w s₀ mg mb s₁.heap->YP w s₁.heap->
  s₁.heap.get? fa=some o->o.data=.func (docDef d.name d.params d.body d.scope pm cd doc)->s₁.heap.CodeRec cd d.name->mg d.name=some (.ref fa)->
  s₁.heap.get? a=some {cls:=.type "list",data:=.seq vs.toArray}->IntsAre vs ns->ns.length<=n->s₁.gens=#[]->(∀n∈ns,Builtin.Int.intBits n<=1048576)->
  codeAny (model l.prog w) callerA (.call (.ref fa) ⟨[.ref a],[]⟩) (λr s'=>r=.ok (.ret (.bool true))/\OldK s₁.heap s'.heap/\s'.os=s₁.os/\AllBare s'.gens) s₁):
 WalkO q loose XP YP l.row.toRowW d [] (λf vs=>PySem.call f vs):=by
 intro w s₀ s₁ mg mb G Y fa o pm cd doc dV kV ho hd hcd hD hmg hg args vals as hpre hlay hrd hwl hlo;obtain rfl:dV=.none:=Dflts.none hD hdf;obtain rfl:kV=.none:=Dflts.noKw hD;obtain⟨a,vs,ns,rfl,rfl,hobj,hints,hlen⟩:=script_of hn hpre hwl;refine enter_call (codeAny_mono (call w s₀ s₁ mg mb fa o pm cd doc a vs ns G Y ho (fd_plain hd) hcd hmg hobj hints hlen hg (bits_of hlay)) λr s' hq=>?_);obtain⟨rfl,h2,h3,h4⟩:=hq;exact⟨.inl ⟨.bool true,.bool true,[],rfl,λ_=>rfl,.bool true,post_true l _,λ_=>⟨List.Pairwise.nil,λ_ hm=>(nomatch hm)⟩⟩,h2,h3,h4⟩
end Att
namespace L2
open PySem PySem.Spec PyProof.Rows
def SqS(K:PySem.W.Frag)(H:Hp)(a:Addr)(xs:List V):Prop:=
 Rd H a (.lst xs)\/
  ∃(o:Obj)(its:Array Value)(n:Nat),K.lookup a=some o/\o.cls=.type "list"/\o.dict=none/\o.slots=#[]/\o.data=.seq its n/\its.size<=sizeLine/\Vals xs its.toList
theorem SqS.sq{K:PySem.W.Frag}{H:Hp}{a:Addr}{xs:List V}(h:SqS K H a xs):SqL K H a xs:=by
 rcases h with h|⟨o,its,n,h1,h2,h3,_,h5,h6,h7⟩
 . exact .inl h
 . exact .inr ⟨o,its,n,h1,h2,h3,h5,h6,h7⟩
theorem Inv.listS(I:Inv X pins σ H s)(h:SqS X.K H a xs):∃(its:List Value)(n:Nat),Vals xs its/\s.heap.get? a=some {cls:=.type "list",data:=.seq its.toArray n}/\xs.length<=sizeLine:=by
 rcases h with h|⟨o,its,n,hk,hc,hd,hsl,hs,hz,r⟩
 . obtain⟨z,its,n,r,e⟩:=h.ok I.hok;exact⟨its,n,r,e,z⟩
 . have e:=I.kIn a o hk;obtain⟨cls,dict,data,slots⟩:=o;simp only at hc hd hsl hs;subst hc hd hsl hs;refine⟨its.toList,n,r,by simpa using e,?_⟩;have:=r.length;simp only[Array.length_toList]at this;omega
def by1(K:PySem.W.Frag):Sp:=λvs H Q _=>∃(a:Addr)(ns:List Int),vs=[.ref a]/\SqS K H a (ns.map V.int)/\ns.length<=63/\(∀n∈ns,Builtin.Int.intBits n<=1048576)/\∀H',Q (.bl true) H'
theorem ca8{l:PySem.W.OpenLaw}{k:Nat}{q:Program}{loose:List Str}{XP:(Str->Option Value)->Heap->Prop}{YP:World->Heap->Prop}{d:DefRec}{K:Params->PySem.W.Frag}{x:Str}
 (hn:l.most=some 63)(hdf:d.params.defaults=[])(hr:Room k callerA)
 (hY:∀(w:World)(h:Heap),YP w h->(K w.params).In h)
 (F:∀(w:World)(mg:Str->Option Value)(fa:Addr)(h:Heap),(K w.params).In h->h.Ns mainGlobals mg->mg d.name=some (.ref fa)->
  ∃fd:FuncData,(∀(s:Shared)(u:Value),BindsTo s fd ⟨[u],[]⟩ [(x,u)])/\
   ∀base:Heap,(K w.params).In base->base.Ns mainGlobals mg->FnOk l.prog w (K w.params) mg base lN k fa fd [x] (by1 (K w.params))):
 PySem.W.WalkO q loose XP YP l.row.toRowW d [] (λf vs=>PySem.call f vs):=by
 refine Att.attach_callB hn hdf λw s₀ s₁ mg mb fa o pm cd doc a vs ns G Y ho hd hcd hmg hobj hints hlen hg hbits=>?_;have KX:=hY w _ Y;obtain⟨fd,hb,hF⟩:=F w mg fa _ KX G.T.g hmg;have hS':∀{H:Hp},SqL (K w.params) H a (ns.map V.int)->SqS (K w.params) H a (ns.map V.int):=λ{H} h=>by
  rcases h with h|⟨o,its,n,h1,h2,h3,h5,h6,h7⟩
  . exact .inl h
  . have e:=KX a o h1;rw[hobj]at e;cases e;exact .inr ⟨_,its,n,h1,h2,h3,rfl,h5,h6,h7⟩
 exact cg7 KX G.T.g G.T.b G.T.builtins G.T.nolimit hg hobj hints (Nat.le_trans hlen (by decide)) hr hF hb (λH hO hS=>⟨a,ns,rfl,hS' hS,hlen,hbits,λ_=>rfl⟩) λH e s' h=>h
end L2
namespace L2
open PySem PySem.Spec PyProof.Rows
abbrev nI(X:Cx)(scope:Scope)(cl:List (Str×Addr))(C:Addr)(s₀:Shared)(H₀:Hp)(ex:List Addr):Cx:=
 {X with s₀:=s₀,H₀:=H₀,env:=compEnvC scope cl C X.env,outer:=X.stack,ex:=ex,fn:=λ_=>false,pn:=[],xe:=λ_ _=>False}
def fV(cells:List (Str×Addr)):List (Str×NameKind)->List (Str×Addr)->List (Str×Addr)
 |[],acc=>acc
 |(n,k)::r,acc=>if(k==.free)=true then fV cells r ((n,(cells.lookup n).getD 0)::acc)else fV cells r acc
theorem zM:∀(names:List (Str×NameKind))(acc:List (Str×Addr)),(∀x∈names,x.2=.free->∃c,env.cells.lookup x.1=some c)->
 (forIn names acc λ(x:Str×NameKind)(cs:List (Str×Addr))=>(if(x.2==.free)=true then(do let c<-cellOf env x.1;pure (ForInStep.yield ((x.1,c)::cs)))else pure (ForInStep.yield cs):Sem (ForInStep (List (Str×Addr)))))=(pure (fV env.cells names acc):Sem (List (Str×Addr)))
 |[],acc,_=>rfl
 |(n,k)::r,acc,h=>by
  rw[List.forIn_cons];have hr:∀x∈r,x.2=.free->∃c,env.cells.lookup x.1=some c:=λx hx=>h x (List.mem_cons_of_mem _ hx);by_cases hk:(k==NameKind.free)=true
  . obtain⟨c,hc⟩:=h (n,k) List.mem_cons_self (by simpa using hk);have e1:cellOf env n=pure c:=by unfold cellOf;rw[hc]
    simp only[hk,if_true,e1,pure_bind];have e2:fV env.cells ((n,k)::r) acc=fV env.cells r ((n,c)::acc):=by
     conv=>lhs;unfold fV
     rw[if_pos hk,hc];all_goals rfl
    rw[e2];exact zM r _ hr
  . simp only[hk,if_false,pure_bind];have e2:fV env.cells ((n,k)::r) acc=fV env.cells r acc:=by
     conv=>lhs;unfold fV
     rw[if_neg hk]
    rw[e2];exact zM r _ hr
theorem zR (h : ∀ x ∈ scope.names, x.2 = .free → ∃ c, env.cells.lookup x.1 = some c) : closureFor scope env = pure (fV env.cells scope.names []) := by
  have q := zM (env := env) scope.names [] h
  unfold closureFor
  have e : (forIn scope.names ([] : List (Str × Addr)) fun (x : Str × NameKind) (r : List (Str × Addr)) =>
      (match x with
      | (name, kind) => if (kind == NameKind.free) = true then (do let c ← cellOf env name; pure (ForInStep.yield ((name, c) :: r))) else pure (ForInStep.yield r) : Sem (ForInStep (List (Str × Addr))))) = pure (fV env.cells scope.names []) := q
  first
    | (show (do let r ← (forIn scope.names ([] : List (Str × Addr)) _); pure r) = _; erw [e]; rfl)
    | (simp only [bind_pure]; exact e)
    | exact e
theorem vH:∀(names:List (Str×NameKind))(acc:List (Str×Addr)),(∀x∈names,x.2=.free->∃c,cells.lookup x.1=some c)->(∀y c,acc.lookup y=some c->cells.lookup y=some c)->
 ∀y c,(fV cells names acc).lookup y=some c->cells.lookup y=some c
 |[],_,_,ha=>ha
 |(n,k)::r,acc,h,ha=>by
  have hr:∀x∈r,x.2=.free->∃c,cells.lookup x.1=some c:=λx hx=>h x (List.mem_cons_of_mem _ hx);unfold fV;by_cases hk:(k==NameKind.free)=true
  . rw[if_pos hk];obtain⟨c,hc⟩:=h (n,k) List.mem_cons_self (by simpa using hk);refine vH r _ hr λy d e=>?_;rw[List.lookup_cons]at e;cases q:y==n with
    |true=>
     rw[q]at e;have e':(cells.lookup n).getD 0=d:=Option.some.inj e;have yn:y=n:=by simpa using q
     subst yn;have hc':cells.lookup y=some c:=hc;rw[hc']at e'⊢;exact congrArg some e'
    |false=>rw[q]at e;exact ha y d e
  . rw[if_neg hk];exact vH r acc hr ha
theorem vO:∀(names:List (Str×NameKind))(acc:List (Str×Addr))(y:Str),(∃c,acc.lookup y=some c)->∃c,(fV cells names acc).lookup y=some c
 |[],_,_,h=>h
 |(n,k)::r,acc,y,h=>by
  unfold fV;split
  . refine vO r _ y ?_;rw[List.lookup_cons];cases q:y==n with
    |true=>exact⟨_,rfl⟩
    |false=>exact h
  . exact vO r acc y h
theorem tU:∀(names:List (Str×NameKind))(acc:List (Str×Addr))(y:Str),(y,NameKind.free)∈names->∃c,(fV cells names acc).lookup y=some c
 |(n,k)::r,acc,y,h=>by
  unfold fV;rcases List.mem_cons.mp h with e|h
  . have e1:y=n:=congrArg Prod.fst e;have e2:NameKind.free=k:=congrArg Prod.snd e;subst e1;subst e2;rw[if_pos (by rfl)];refine vO r _ y ?_;rw[List.lookup_cons,beq_self_eq_true];exact⟨_,rfl⟩
  . split
    . exact tU r _ y h
    . exact tU r _ y h
theorem xQ{env:Env}{x:Str}:∀(names:List (Str×NameKind)),
 (names.map λ(n,k)=>if(k==NameKind.free&&env.scope.kind==.function&&env.kindOf n==some .cell)then(n,NameKind.cell)else(n,k)).lookup x
  =(names.lookup x).map λk=>if(k==NameKind.free&&env.scope.kind==.function&&env.kindOf x==some .cell)=true then NameKind.cell else k
 |[]=>rfl
 |(n,k)::r=>by
  have ih:=xQ (env:=env) (x:=x) r;show List.lookup x ((if(k==NameKind.free&&env.scope.kind==.function&&env.kindOf n==some .cell)=true then(n,NameKind.cell)else(n,k))::_)=_;rw[List.lookup_cons (a:=x) (as:=r)];cases hx:x==n with
  |true=>
   have e:x=n:=by simpa using hx
   subst e;by_cases hc:(k==NameKind.free&&env.scope.kind==.function&&env.kindOf x==some .cell)=true
   . rw[if_pos hc,List.lookup_cons,beq_self_eq_true];show some NameKind.cell=some (if _ then _ else _);rw[if_pos hc]
   . rw[if_neg hc,List.lookup_cons,beq_self_eq_true];show some k=some (if _ then _ else _);rw[if_neg hc]
  |false=>
   by_cases hc:(k==NameKind.free&&env.scope.kind==.function&&env.kindOf n==some .cell)=true
   . rw[if_pos hc,List.lookup_cons,hx];exact ih
   . rw[if_neg hc,List.lookup_cons,hx];exact ih
theorem ao3:∀{names:List (Str×NameKind)},names.lookup x=some k->(x,k)∈names
 |(n,k')::r,h=>by
  rw[List.lookup_cons]at h;cases hx:x==n with
  |true=>
   rw[hx]at h;have e:x=n:=by simpa using hx
   subst e;cases h;exact List.mem_cons_self
  |false=>rw[hx]at h;exact List.mem_cons_of_mem _ (ao3 h)
structure CScope (X:Cx) (ks:List Nat) (scope:Scope):Prop where
 kind:scope.kind=.function
 cell:∀y∈scope.names,y.2≠ .cell
 names:∀y∈scope.names,y.2=.local->scope.names.lookup y.1=some .local
 freeB:(scope.names.all λy=>!(y.2==NameKind.free)||(X.env.kindOf y.1==some NameKind.cell||X.env.kindOf y.1==some NameKind.free))=true
 slotsB:(X.N.zipIdx.all λp=>!(scope.names.lookup p.1==some NameKind.local)||ks.contains p.2)=true
theorem CScope.free(S:CScope X ks scope):∀y∈scope.names,y.2=.free->X.env.kindOf y.1=some .cell\/X.env.kindOf y.1=some .free:=λy hy hk=>by have h:=List.all_eq_true.mp S.freeB y hy;rw[hk]at h;simpa using h
theorem CScope.slots(S:CScope X ks scope):∀p∈X.N.zipIdx,scope.names.lookup p.1=some .local->p.2∈ks:=λp hp hk=>by have h:=List.all_eq_true.mp S.slotsB p hp;rw[hk]at h;simpa using h
def clr:List Nat->St->St
 |[],σ=>σ
 |k::ks,σ=>clr ks (σ.set k none)
theorem rC:∀(ks:List Nat)(σ:St),(clr ks σ).length=σ.length
 |[],_=>rfl
 |k::ks,σ=>by show(clr ks (σ.set k none)).length=_;rw[rC ks,List.length_set]
theorem ac8:∀(ks:List Nat)(σ:St){i:Nat}{v:V},(clr ks σ)[i]?=some (some v)->σ[i]?=some (some v)/\i∉ks
 |[],_,_,_,h=>⟨h,List.not_mem_nil⟩
 |k::ks,σ,i,v,h=>by
  obtain⟨h1,h2⟩:=ac8 ks (σ.set k none) h;by_cases e:i=k
  . subst e;rw[List.getElem?_set_self']at h1;cases q:σ[i]? with
    |none=>rw[q]at h1;cases h1
    |some o=>rw[q]at h1;cases h1
  . rw[List.getElem?_set_ne (Ne.symm e)]at h1;exact⟨h1,λz=>(List.mem_cons.mp z).elim e h2⟩
def PIf(Y:Cx)(ifs:List Expr)(t:TT):Prop:=
 ∀⦃pins:List (Addr×Obj)⦄ (s:Shared)(σ:St)(H:Hp)(Q:Bool->Hp->Prop),Inv Y pins σ H s->t σ H Q->
  wpAny (model Y.prog Y.w) Y.A (forIn ifs true λc r=>if r=true then do let ok<-isTrue c Y.env (eval c Y.env);pure (ForInStep.yield ok)else pure (ForInStep.yield r)) (TP Y pins σ Q) Y.xe s
def dd7:TT:=λ_ H Q=>Q true H
theorem eK:PIf Y [] dd7:=λ_ _ _ H _ I h=>wpAny_tests_nil ⟨H,I,h⟩
theorem ap2(h:PT Y c t):PIf Y [c] t:=λpins s σ H Q I q=>wpAny_tests_one (h s σ H Q I q)
theorem cv1(I:Nat->Shared->Prop)
 (turn:∀n s,I n s->wpAny (model prog w) A (pyNext it) (λr s₁=>match r with
  |none=>R (.ok .next) s₁
  |some v=>wpAny (model prog w) A (letOwnedTupleGo target it v) (λ_ s₁'=>wpAny (model prog w) A (assign target env v) (λ_ s₂=>
   wpAny (model prog w) A (forIn ifs true λc r=>if r=true then do let ok<-isTrue c env (eval c env);pure (ForInStep.yield ok)else pure (ForInStep.yield r)) (λok s₃=>
    if ok=true then wpAny (model prog w) A (eval elt env) (λx s₄=>
     wpAny (model prog w) A (call (.builtin "list.append") [acc,x]) (λ_ s₅=>∃m,m<n/\I m s₅) (λ_ _=>False) s₄) (λ_ _=>False) s₃
    else∃m,m<n/\I m s₃) (λ_ _=>False) s₂) (λ_ _=>False) s₁') (λ_ _=>False) s₁) (λ_ _=>False) s)
 (n:Nat)(h:I n s):
 codeAny (model prog w) A (.compLoop (.ListComp elt [⟨target,iter,ifs,0⟩] scope pos) 0 it acc env) R s:=by
 refine codeAny_loop rfl I (λn s hI=>?_) n h;show wpAny _ A ((compTurn (.ListComp elt [⟨target,iter,ifs,0⟩] scope pos) 0 it acc env).onRaise (λx=>do noteFrame x env;theTreesLotGoes x)) _ _ s;refine wpAny_noted ?_;rw[compTurn_list];refine wpAny_bind (wpAny_standAt (wpAny_bind (wpAny_mono (turn n s hI) (λr s₁ h₁=>?_) λ_ _ h'=>h'.elim)));cases r with
 |none=>exact wpAny_pure h₁
 |some v=>
  refine wpAny_bind (wpAny_mono h₁ (λ_ s₁' h₁'=>?_) λ_ _ h'=>h'.elim);refine wpAny_bind (wpAny_mono h₁' (λ_ s₂ h₂=>wpAny_bind (wpAny_mono h₂ (λok s₃ h₃=>?_) λ_ _ h'=>h'.elim)) λ_ _ h'=>h'.elim);cases ok with
  |false=>exact wpAny_pure ⟨rfl,h₃⟩
  |true=>exact wpAny_bind (wpAny_bind (wpAny_mono h₃ (λx s₄ h₄=>wpAny_bind (wpAny_mono h₄ (λ_ s₅ h₅=>wpAny_pure (wpAny_pure ⟨rfl,h₅⟩)) λ_ _ h'=>h'.elim)) λ_ _ h'=>h'.elim))
theorem Inv.track(I:Inv X pins σ H s)(hn:H D=none)(hl:X.s₀.heap.objs.size<=D)(hL:D≠X.env.locals)
 (hc:∀x c,X.env.cells.lookup x=some c->c≠D)(hp:∀p∈X.pn++pins,p.1≠D)(e:s.heap.get? D=some {cls:=.type "list",data:=.seq its.toArray n})(rv:Vals ys its)(hz:ys.length<=sizeLine):
 Inv X pins σ (upd H D (.lst ys)) s:=by
 have old:∀b o,X.s₀.heap.get? b=some o->b≠D:=λb o q z=>by subst z;exact absurd (Nat.lt_of_lt_of_le (Heap.lt_size q) hl) (Nat.lt_irrefl _)
 have ne:∀b o,H b=some o->b≠D:=λb o q=>cU q hn;refine⟨I.ok,I.os,I.bare,⟨I.base.keep,I.base.slot,λb o q n' hx=>?_,I.base.there,λb xs q=>?_,λb o u q=>?_,λb ps q=>?_⟩,I.loc,I.cell,?_,λx c q=>?_,λp q=>?_,λb u q=>?_,I.len⟩
 . rw[bA (old b o q)];exact I.base.free b o q n' hx
 . have z:=I.base.tups b xs q;rw[bA (ne _ _ z)];exact z
 . have z:=I.base.frzs b o u q;rw[bA (ne _ _ z)];exact z
 . obtain⟨more,z⟩:=I.base.tbls b ps q;exact⟨more,by rw[bA (ne _ _ z)];exact z⟩
 . rw[bA (Ne.symm hL)];exact I.free
 . rw[bA (hc x c q)];exact I.freeC x c q
 . obtain⟨h1,h2,h3⟩:=I.pin p q;exact⟨h1,by rw[bA (hp p q)];exact h2,h3⟩
 . by_cases hb:b=D
   . subst hb;rw[cJ]at q;cases q;exact⟨hz,its,n,rv,e⟩
   . rw[bA hb]at q;exact(I.hok b u q).stay (λc v _ z=>z) (λc z=>by rw[bA (ne _ _ z)];exact z) λc xs z=>by rw[bA (ne _ _ z)];exact z
def Ext(ks:List Nat)(σ σ2:St):Prop:=σ2.length=σ.length/\∀(i:Nat)(v:V),(clr ks σ)[i]?=some (some v)->σ2[i]?=some (some v)
def CGo(ks:List Nat)(g:TG)(tc:TT)(te:TE)(σ:St)(F:Addr->Hp->Prop)(J:It)(H1:Hp):Prop:=
 ∃W:Nat->Nat->List V->Hp->Prop,(∃m,W 0 m [] H1)/\∀i m ys H,W i m ys H->
  (J.stop i H/\∀D,H D=none->F D (upd H D (.lst ys)))\/
  (J.go i H/\ys.length<sizeLine/\∃N:List V->Hp->Prop,(∀ys' H',N ys' H'->∃m',m'<m/\W (i+1) m' ys' H')/\∀x H',J.yld i H x H'->g x (clr ks σ) H' λσ2 H2=>Ext ks σ σ2/\tc σ2 H2 λb H3=>
   if b=true then te σ2 H3 λv H4=>N (ys++[v]) H4 else N ys H3)
def by9(ks:List Nat)(wi:TI)(g:TG)(tc:TT)(te:TE):TE:=λσ H Q=>wi σ H (CGo ks g tc te σ λD H'=>Q (.ref D) H')
def at3(k:Nat)(ks:List Nat)(wi:TI)(g:TG)(tc:TT)(te:TE):TS:=λD σ H=>wi σ H (CGo ks g tc te σ λa H'=>D.nx (σ.set k (some (.ref a))) H')
section
variable {X : Cx}
theorem bm7{tg iter elt:Expr}{ifs:List Expr}{scope:Scope}{pos:Pos}{ks:List Nat}{g:TG}{tc:TT}{te:TE}{F:Addr->Hp->Prop}{RR:Value->Addr->Result->Shared->Prop}{E:Value->Shared->Prop}
 {pins:List (Addr×Obj)}{σ:St}{s2:Shared}{itv:Value}(S:CScope X ks scope)(hc:X.calm=true)
 (hg:∀cl C s₀ H₀ ex,PG (nI X scope cl C s₀ H₀ ex) tg g)(hi:∀cl C s₀ H₀ ex,PIf (nI X scope cl C s₀ H₀ ex) ifs tc)(he:∀cl C s₀ H₀ ex,PE (nI X scope cl C s₀ H₀ ex) elt te)
 (h:PIE X pins σ tg (CGo ks g tc te σ F) itv s2)
 (hRR:∀D C s' H',Inv X pins σ H' s'->(∃m,s'.heap.Ns C m)->rV X pins H' C->F D H'->RR (.ref D) C (.ok .next) s'):
 wpAny (model X.prog X.w) X.A (newList []) (λacc s₃=>wpAny (model X.prog X.w) X.A (newFunctionEnv scope X.env.globals (fV X.env.cells scope.names []) [] X.env.qual none .none (some X.env)) (λcenv s₄=>
  codeAny (model X.prog X.w) X.A (.compStart (.ListComp elt [⟨tg,iter,ifs,0⟩] scope pos) 0 itv acc {cenv with scope:=relabel scope X.env}) (RR acc cenv.locals) s₄) E s₃) E s2:=by
 obtain⟨it,fp,tn,J,H2,rfl,I2,T,st2,f2,W,⟨m0,w0⟩,turn⟩:=h
 refine wpAny_newObj_type (wpAny_newFunctionEnv S.cell (by intro y hy;simp at hy) (λh₁ hns₁ hsb₁=>?_) S.kind)
 dsimp only at hns₁ hsb₁⊢
 have hD2:s2.heap.get? s2.heap.objs.size=none:=Heap.get?_none_of_le (Nat.le_refl _)
 have nD:H2 s2.heap.objs.size=none:=I2.hok.fresh (Nat.le_refl _)
 have I3:Inv X pins σ H2 {s2 with heap:=s2.heap.push {cls:=.type "list",dict:=none,data:=.seq ([]:List Value).toArray}}:=I2.kept (t':=s2.toks) λb o e=>Heap.get?_push_of_some _ e
 have eD3:(s2.heap.push {cls:=.type "list",dict:=none,data:=.seq ([]:List Value).toArray}).get? s2.heap.objs.size=some {cls:=.type "list",dict:=none,data:=.seq ([]:List Value).toArray}:=Heap.get?_push_size _ rfl
 have hsz3:(s2.heap.push {cls:=.type "list",dict:=none,data:=.seq ([]:List Value).toArray}).objs.size=s2.heap.objs.size+1:=Heap.size_push _ _
 have fD:=I2.fpOk (b:=s2.heap.objs.size) (Nat.le_refl _) nD
 have fplt:∀b∈fp,b<s2.heap.objs.size:=λb hb=>by
  obtain⟨o,e,_⟩:=T.obj _ _ st2 b hb
  exact Heap.lt_size e
 have hDfp:s2.heap.objs.size∉fp:=λz=>Nat.lt_irrefl _ (fplt _ z)
 generalize hs3:({s2 with heap:=s2.heap.push {cls:=.type "list",dict:=none,data:=.seq ([]:List Value).toArray}}:Shared)=s3 at I3
 generalize hDD:s2.heap.objs.size=D at*
 have s3h:s3.heap=s2.heap.push {cls:=.type "list",dict:=none,data:=.seq ([]:List Value).toArray}:=by rw[<-hs3]
 rw[<-s3h]at hns₁ hsb₁ eD3 hsz3
 have fC:=I3.fpOk (H':=H2) (b:=s3.heap.objs.size) (Nat.le_refl _) (I3.hok.fresh (Nat.le_refl _))
 have old:∀b o,s3.heap.get? b=some o->h₁.get? b=some o:=λb o e=>hsb₁.extBut b o (Nat.ne_of_lt (Heap.lt_size e)) (Heap.get?_push_of_some _ e)
 generalize hCC:s3.heap.objs.size=C at*
 have hDltC:D<C:=by rw[hsz3];exact Nat.lt_succ_self _
 have hDC:D≠C:=Nat.ne_of_lt hDltC
 have hclos:=zR (env:=X.env) (scope:=scope) λx hx hk=>I2.ok.has x.1 (S.free x hx hk)
 have csound:∀y c,(fV X.env.cells scope.names []).lookup y=some c->X.env.cells.lookup y=some c:=
  vH scope.names [] (λx hx hk=>I2.ok.has x.1 (S.free x hx hk)) λy c e=>by cases e
 generalize hcl:fV X.env.cells scope.names []=cl at*
 have kin:∀y,(compEnvC scope cl C X.env).kindOf y=(scope.names.lookup y).map λk=>if(k==NameKind.free&&X.env.scope.kind==.function&&X.env.kindOf y==some .cell)=true then NameKind.cell else k:=λy=>xQ scope.names
 have isFree:∀y,((compEnvC scope cl C X.env).kindOf y=some .cell\/(compEnvC scope cl C X.env).kindOf y=some .free)->(y,NameKind.free)∈scope.names:=λy hy=>by
  rw[kin y]at hy
  cases q:scope.names.lookup y with
  |none=>
   rw[q]at hy
   rcases hy with z|z<;>cases z
  |some k=>
   rw[q]at hy
   have hm:=ao3 q
   cases k with
   |free=>exact hm
   |cell=>exact absurd rfl (S.cell _ hm)
   |_=>
    rcases hy with z|z
    . exact absurd (Option.some.inj z) (by simp)
    . exact absurd (Option.some.inj z) (by simp)
 have neFs:∀b,rV X pins H2 b->b∉oR X.stack:=λb f z=>by
  rcases List.mem_cons.mp (I2.stkSub b z)with e|e
  . exact f.2.1 e
  . exact f.2.2.1 e
 have exs:∀b∈D::fp,rV X pins H2 b:=λb hb=>by
  rcases List.mem_cons.mp hb with e|e
  . rw[e];exact fD
  . exact f2 b e
 have exlt:∀b∈D::fp,b<C:=λb hb=>by
  rcases List.mem_cons.mp hb with e|e
  . rw[e];exact hDltC
  . exact Nat.lt_trans (fplt b e) hDltC
 have okY:(nI X scope cl C s3 H2 (D::fp)).Ok:=
  {
   mod:=I2.ok.mod,kind:=S.kind,glob:=I2.ok.glob,blt:=I2.ok.blt,above:=Nat.le_of_eq hCC
   inj:=λx y c h1 h2=>I2.ok.inj x y c (csound _ _ h1) (csound _ _ h2)
   has:=λy hy=>by
    have z:=tU (cells:=X.env.cells) scope.names [] y (isFree y hy)
    rw[hcl]at z
    exact z
   cab:=λ_ _ z=>by cases z
   hd:=I2.ok.hd,frames:=I2.ok.frames,stk:=.inl rfl
   exf:=λb hb=>⟨Nat.ne_of_lt (exlt b hb),λx c e z=>(exs b hb).2.2.2.2.1 x c (csound _ _ e) z⟩
   bs:=I3.bs
   bsz:=Nat.le_trans I2.ok.bsz I3.sz
   noex:=λb o e hb=>by
    rcases(exs b hb).2.2.2.1 with z|z
    . exact I2.ok.noex b o e z
    . exact absurd (Nat.lt_of_lt_of_le (Heap.lt_size e) (Nat.le_trans I2.ok.bsz z)) (Nat.lt_irrefl _)
   exfs:=λb hb=>neFs b (exs b hb)
   funs:=I3.stack
   frf:=I3.stkFree}
 have outP:∀p∈X.pn++pins,p.1≠C/\p.1∉oR X.stack/\p.1≠D:=λp hp=>by
  obtain⟨e,n,ne,nf,d⟩:=I2.pin p hp
  have lt:p.1<D:=by rw[<-hDD];exact Heap.lt_size e
  refine⟨Nat.ne_of_lt (Nat.lt_trans lt hDltC),λz=>?_,Nat.ne_of_lt lt⟩
  rcases List.mem_cons.mp (I2.stkSub p.1 z)with q|q
  . exact ne q
  . exact nf q
 have I4:Inv (nI X scope cl C s3 H2 (D::fp)) (X.pn++pins) (clr ks σ) H2 {s3 with heap:=h₁,toks:=s3.toks+([]:List (Str×Value)).length}:=by
  refine⟨okY,rfl,I3.bare,Un.kept old,⟨_,hns₁,λi x v e1 e2 e3=>?_⟩,λx c e=>?_,?_,λx c e=>?_,λp hp=>?_,I3.hok.kept old,?_⟩
  . obtain⟨e2,nk⟩:=ac8 ks σ e2
    have hv:(compEnvC scope cl C X.env).kindOf x=some .cell\/(compEnvC scope cl C X.env).kindOf x=some .free:=by
     rcases e3 with z|z|z
     . exfalso
       have z':(compEnvC scope cl C X.env).kindOf x=some .local:=z
       rw[kin x]at z'
       have hm:(x,i)∈X.N.zipIdx:=by
        rw[List.mem_zipIdx_iff_getElem?]
        exact e1
       refine nk (S.slots (x,i) hm ?_)
       show scope.names.lookup x=some .local
       cases q:scope.names.lookup x with
       |none=>rw[q]at z';cases z'
       |some k=>
        rw[q]at z'
        have z2:=Option.some.inj z'
        cases k with
        |«local»=>rfl
        |free=>
         exfalso
         dsimp only at z2
         split at z2<;>cases z2
        |_=>exact absurd z2 (by simp)
     . exact .inl z
     . exact .inr z
    have hf:=isFree x hv
    have hX:=S.free (x,.free) hf rfl
    obtain⟨m,hn,hl⟩:=I3.loc
    obtain⟨u,r,lk⟩:=hl i x v e1 e2 (by rcases hX with z|z;exact .inr (.inl z);exact .inr (.inr z))
    refine⟨u,r,.inr ⟨hv,?_⟩⟩
    have z:=tU (cells:=X.env.cells) scope.names [] x hf
    rw[hcl]at z
    obtain⟨c,hcx⟩:=z
    rcases lk with⟨kl,_⟩|⟨_,c',e',z'⟩
    . have hX':X.env.kindOf x=some .cell\/X.env.kindOf x=some .free:=hX
      rw[kl]at hX'
      rcases hX' with z|z<;>cases z
    . have q:=csound x c hcx
      rw[e']at q
      cases q
      obtain⟨o,ho,hd⟩:=z'
      exact⟨c,hcx,o,old _ _ ho,hd⟩
  . obtain⟨v,o,ho,hd⟩:=I3.cell x c (csound x c e)
    exact⟨v,o,old _ _ ho,hd⟩
  . exact I3.hok.fresh (Nat.le_of_eq hCC)
  . exact I3.freeC x c (csound x c e)
  . have hp':p∈X.pn++pins:=hp
    obtain⟨e,n,ne,nf,d⟩:=I3.pin p hp'
    exact⟨old _ _ e,n,(outP p hp').1,(outP p hp').2.1,d⟩
  . rw[rC]
    exact I3.len
 have fpY:∀{pl:List (Addr×Obj)}{H':Hp},(∀p∈pl,p.1∉fp)->(∀b∈fp,H' b=none)->∀b∈fp,rV (nI X scope cl C s3 H2 (D::fp)) ((X.pn++pins)++pl) H' b:=λ{pl H'} hpl hn b hb=>by
  have f:=f2 b hb
  refine⟨hn b hb,Nat.ne_of_lt (exlt b (List.mem_cons_of_mem _ hb)),neFs b f,.inl (List.mem_cons_of_mem _ hb),λx c e z=>f.2.2.2.2.1 x c (csound x c e) z,λp hp=>?_⟩
  have hp':p∈(X.pn++pins)++pl:=hp
  rcases List.mem_append.mp hp' with q|q
  . exact f.2.2.2.2.2 p q
  . exact λz=>hpl p q (by rw[z];exact hb)
 have iG:∀s₅:Shared,s₅={s3 with heap:=h₁,toks:=s3.toks+([]:List (Str×Value)).length}->
  codeAny (model X.prog X.w) X.A (.compLoop (.ListComp elt [⟨tg,iter,ifs,0⟩] scope pos) 0 (.ref it) (.ref D) (compEnvC scope cl C X.env)) (RR (.ref D) C) s₅:=by
  rintro s₅ rfl
  refine cv1 (λn s'=>∃i H' ys its nn,Inv (nI X scope cl C s3 H2 (D::fp)) (X.pn++pins) (clr ks σ) H' s'/\tn i s'.heap/\(∀b∈fp,H' b=none)/\H' D=none/\s'.heap.get? D=some {cls:=.type "list",data:=.seq its nn}/\Vals ys its.toList/\ys.length<=sizeLine/\W i n ys H') ?_ m0
   ⟨0,H2,[],#[],0,I4,T.keep _ _ _ st2 (λb hb o e=>old _ _ (by rw[s3h];exact Heap.get?_push_of_some _ e)),λb hb=>(f2 b hb).1,nD,old _ _ eD3,.nil,Nat.zero_le _,w0⟩
  rintro n s6 ⟨i,H6,ys,its,nn,I6,st6,fr6,nD6,eD6,rv6,hz6,w6⟩
  have I6':Inv (nI X scope cl C s3 H2 (D::fp)) ((X.pn++pins)++[(D,{cls:=.type "list",data:=.seq its nn})]) (clr ks σ) H6 s6:=I6.pins_of λp hp=>(List.mem_append.mp hp).elim (λz=>I6.pin p (List.mem_append_right _ z)) λz=>by
   obtain rfl:=List.mem_singleton.mp z
   exact⟨eD6,nD6,hDC,neFs D fD,λv q=>by cases q⟩
  have plD:∀p∈[((D,{cls:=.type "list",data:=.seq its nn}):Addr×Obj)],p.1∉fp:=λp hp=>by
   obtain rfl:=List.mem_singleton.mp hp
   exact hDfp
  rcases turn i n ys H6 w6 with⟨stop,bN⟩|⟨go,hz,N,hN,step⟩
  . refine bW (T.done (nI X scope cl C s3 H2 (D::fp)) rfl rfl rfl hc i _ s6 (clr ks σ) H6 _ I6' (fpY plD fr6) st6 stop) λr s7 ⟨hr,I7⟩=>?_
    subst hr
    have IX:Inv X pins σ H6 s7:=I3.call' (ch:=D::fp) I7.os I7.base I7.hok I7.bare λb hb=>⟨(exs b hb).2.2.2.1,(exs b hb).2.1,(exs b hb).2.2.2.2.1,(exs b hb).2.2.2.2.2⟩
    have eD7:=(I7.pin (D,{cls:=.type "list",data:=.seq its nn}) (List.mem_append_right _ (List.mem_append_right _ (List.mem_singleton.mpr rfl)))).1
    have rv7:Vals ys its.toList:=rv6
    have IT:Inv X pins σ (upd H6 D (.lst ys)) s7:=IX.track (its:=its.toList) (n:=nn) nD6 (by
     have:=I2.sz
     omega) fD.2.1 fD.2.2.2.2.1 fD.2.2.2.2.2 (by simpa using eD7) rv7 hz6
    obtain⟨m7,hn7,_⟩:=I7.loc
    refine hRR D C s7 _ IT ⟨m7,hn7⟩ ⟨?_,fC.2⟩ (bN D nD6)
    rw[bA (Ne.symm hDC)]
    exact I7.free
  . refine bW (T.item (nI X scope cl C s3 H2 (D::fp)) rfl rfl rfl hc i _ s6 (clr ks σ) H6 _ I6' (fpY plD fr6) st6 go) λr s7 ⟨u,hr,h7⟩=>?_
    subst hr
    refine bW h7 λ_ s8 ⟨x,H8,I8,r8,y8,st8,fr8⟩=>?_
    have I8':=I8.pinned (fpY plD fr8) (T.obj _ _ st8)
    refine bW (hg cl C s3 H2 (D::fp) s8 (clr ks σ) H8 x u _ I8' r8 (step x H8 y8)) λ_ s9 ⟨σ9,H9,I9,hE,q9⟩=>?_
    refine bW (hi cl C s3 H2 (D::fp) s9 σ9 H9 _ I9 q9) λok s10 ⟨H10,I10,q10⟩=>?_
    have memD:(D,({cls:=.type "list",data:=.seq its nn}:Obj))∈([]:List (Addr×Obj))++(((X.pn++pins)++[(D,{cls:=.type "list",data:=.seq its nn})])++xG fp s8.heap):=List.mem_append_right _ (List.mem_append_left _ (List.mem_append_right _ (List.mem_singleton.mpr rfl)))
    have keepT:∀{σ':St}{H':Hp}{s':Shared},Inv (nI X scope cl C s3 H2 (D::fp)) (((X.pn++pins)++[(D,{cls:=.type "list",data:=.seq its nn})])++xG fp s8.heap) σ' H' s'->tn (i+1) s'.heap/\(∀b∈fp,H' b=none):=λ{σ' H' s'} I'=>
     ⟨T.keep _ _ _ st8 λb hb o e=>(I'.pin (b,o) (List.mem_append_right _ (List.mem_append_right _ (uC hb e)))).1,λb hb=>by
      obtain⟨o,e,d⟩:=T.obj _ _ st8 b hb
      exact(I'.pin (b,o) (List.mem_append_right _ (List.mem_append_right _ (uC hb e)))).2.1⟩
    cases ok with
    |false=>
     obtain⟨m',hm,w10⟩:=hN ys H10 q10
     obtain⟨k1,k2⟩:=keepT I10
     obtain⟨p1,p2,_⟩:=I10.pin _ memD
     exact⟨m',hm,i+1,H10,ys,its,nn,I10.unpinned.unpinned.weak (by rw[rC];exact hE.1.symm) hE.2,k1,k2,p2,p1,rv6,hz6,w10⟩
    |true=>
     refine bW (he cl C s3 H2 (D::fp) s10 σ9 H10 _ I10 q10) λvv s11 ⟨v,H11,I11,r11,n11⟩=>?_
     obtain⟨m',hm,w11⟩:=hN _ _ n11
     obtain⟨k1,k2⟩:=keepT I11
     obtain⟨p1,p2,_⟩:=I11.pin _ memD
     have hlen:ys.length=its.size:=by have:=rv6.length;simpa using this
     refine call_meets PySem.F.slot_list_append ⟨_,p1,rfl⟩ PySem.F.entry_list_append (PySem.F.args_list_append_2 _ _) (PySem.list_append D its nn vv (by omega)) ⟨p1,?_⟩
     have q:=PySem.IsL.update p1 λxs=>xs.push vv
     refine⟨m',hm,i+1,H11,ys++[v],its.push vv,_,(I11.unpinned.unpinned.weak (by rw[rC];exact hE.1.symm) hE.2).turned (λb o hb e=>(Heap.get?_update_other _ _ (Ne.symm hb)).trans e) p2 hDC (.inl List.mem_cons_self) (λx c e z=>fD.2.2.2.2.1 x c (csound x c e) z) (λp hp=>(outP p hp).2.2),?_,k2,p2,q,?_,?_,w11⟩
     . refine T.keep _ _ _ k1 λb hb o e=>(Heap.get?_update_other _ _ ?_).trans e
       intro z
       exact hDfp (by rw[z];exact hb)
     . have:(its.push vv).toList=its.toList++[vv]:=by simp
       rw[this]
       exact rv6.append (.cons r11 .nil)
     . rw[List.length_append,List.length_singleton]
       omega
 have hCC':(s2.heap.push {cls:=.type "list",dict:=none,data:=.seq ([]:List Value).toArray}).objs.size=C:=by rw[<-s3h];exact hCC
 rw[hCC']
 exact codeAny_compStart_list (iG _ (by rw[<-hs3])) (T.self _ 0 _ _ _ (T.keep _ _ _ st2 (λb hb o e=>old _ _ (by rw[s3h];exact Heap.get?_push_of_some _ e))) (iG _ (by rw[<-hs3])))
theorem dn2(S:CScope X ks scope)(hc:X.calm=true)(hit:PI X tg iter wi)
 (hg:∀cl C s₀ H₀ ex,PG (nI X scope cl C s₀ H₀ ex) tg g)(hi:∀cl C s₀ H₀ ex,PIf (nI X scope cl C s₀ H₀ ex) ifs tc)(he:∀cl C s₀ H₀ ex,PE (nI X scope cl C s₀ H₀ ex) elt te)
 (hs:∀x,foldedSetIterable iter X.env x=pure x:=by intro _;rfl):PE X (.ListComp elt [⟨tg,iter,ifs,0⟩] scope pos) (by9 ks wi g tc te):=by
 intro pins s σ H Q I h;rw[eval_ListComp];refine wpAny_comprehension_free (use:=none) rfl hs (zR λx hx hk=>I.ok.has x.1 (S.free x hx hk)) S.kind S.names (bW (hit s σ H _ I h) λv s1 h1=>bW h1 λitv s2 h2=>?_);refine bm7 (RR:=λacc C=>compPost (model X.prog X.w) X.A X.xe none (EP X pins σ Q) acc C) S hc hg hi he h2 ?_;rintro D C s' H' I' ⟨m,hn⟩ f q;exact⟨m,hn,λh'' sb=>⟨.ref D,H',I'.turned (t':=s'.toks) (λb o hb e=>(sb.2 b hb).trans e) f.1 f.2.1 f.2.2.2.1 f.2.2.2.2.1 f.2.2.2.2.2,rfl,q⟩⟩
theorem bm9(hN:X.N.Nodup)(hi':X.N[i]?=some y)(hy:Loc X.env.scope y)
 (S:CScope X ks scope)(hc:X.calm=true)(hit:PI X tg iter wi)
 (hg:∀cl C s₀ H₀ ex,PG (nI X scope cl C s₀ H₀ ex) tg g)(hi:∀cl C s₀ H₀ ex,PIf (nI X scope cl C s₀ H₀ ex) ifs tc)(he:∀cl C s₀ H₀ ex,PE (nI X scope cl C s₀ H₀ ex) elt te)
 (hsw:swapsWith (.ListComp elt [⟨tg,iter,ifs,0⟩] scope pos) (some (.Name y py)) spos.line X.env=pure true:=by rfl)
 (hs:∀x,foldedSetIterable iter X.env x=pure x:=by intro _;rfl)(hf:X.fn y=true\/X.env.scope.names.lookup y=some .local:=by first|exact .inl rfl|exact .inr rfl|assumption):
 PS X (.Assign [.Name y py] (.ListComp elt [⟨tg,iter,ifs,0⟩] scope pos) spos) (at3 i ks wi g tc te):=by
 intro pins s σ H D I h;rw[exec_Assign_Name_used _ _ _ _ hsw];refine wpAny_bind (wpAny_standAt (wpAny_bind ?_));show wpAny _ X.A (do let _<-comprehension (.ListComp elt [⟨tg,iter,ifs,0⟩] scope pos) scope X.env _ (newList []) false (eval iter X.env) (some (assign (.Name y py) X.env))) _ _ s;refine wpAny_bind (wpAny_mono (wpAny_comprehension_free (use:=some (assign (.Name y py) X.env)) (Q:=λ_ s'=>SP X pins D .next s') rfl hs (zR λx hx hk=>I.ok.has x.1 (S.free x hx hk)) S.kind S.names
  (bW (hit s σ H _ I h) λv s1 h1=>bW h1 λitv s2 h2=>?_)) (λ_ s' hq=>wpAny_pure (wpAny_pure hq)) λ_ _ e=>e)
 refine bm7 (RR:=λacc C=>compPost (model X.prog X.w) X.A X.xe (some (assign (.Name y py) X.env)) (λ_ s'=>SP X pins D .next s') acc C) S hc hg hi he h2 ?_;rintro L C s' H' I' ⟨m,hn⟩ f q;show wpAny _ _ (assign (.Name y py) X.env (.ref L)) _ _ s';refine wpAny_assign_Name (ab9 (v:=.ref L) I' hN hi' hy rfl (λs'' I'' hh=>?_) hf);obtain⟨a,sb,ha⟩:=hh;have hCa:C≠a:=by
  rcases ha with e|e
  . rw[e];exact f.2.1
  . exact λz=>f.2.2.2.2.1 y a e z.symm
 exact⟨m,hn.sameBut sb hCa,λh'' sb'=>⟨_,H',I''.turned (t':=s''.toks) (λb o hb e=>(sb'.2 b hb).trans e) f.1 f.2.1 f.2.2.2.1 f.2.2.2.2.1 f.2.2.2.2.2,q⟩⟩
end
end L2
namespace L2
open PySem PySem.Spec PyProof.Rows
section
variable {X : Cx}
theorem cx1(hc:X.calm=true):CallR X (.builtin "max") (λxs H Q=>∃(p:Addr)(ns:List Int),xs=[.ref p]/\SqL X.K H p (ns.map V.int)/\ns≠[]/\∀M,M∈ns->(∀a∈ns,a<=M)->Q (.int M) H):=by
 intro pins s σ H xs us Q I r h;obtain⟨p,ns,rfl,hp,hne,q⟩:=h;obtain⟨u,rfl,ru⟩:=r.one;obtain rfl:u=Value.ref p:=ru;obtain⟨its,rv,pl,_⟩:=I.list hp;have hi:IntsAre its ns:=az5 rv;have hl:=pl.isList;obtain⟨xs,e⟩:=hi.allInts.items;have hns:ns=xs.toList.map (·.1):=by rw[<-hi.numsOf,<-nums_intItems,<-e]
 have hsz:0<xs.size:=by have h3:=List.length_pos_iff.mpr hne;rw[hns,List.length_map,Array.length_toList]at h3;exact h3
 rw[e]at hl;refine max_intList (I.ok.hd hc) hl hsz λv h' tk hv hk=>?_;obtain⟨t,rfl⟩:=intItems_at hv;obtain⟨h1,h2⟩:=argBest_gt (numAt xs) (xs.size-1);refine⟨.int _,H,I.kept hk,⟨t,rfl⟩,q _ ?_ λa ha=>?_⟩
 . rw[hns,numAt_eq];exact getD_mem (by rw[List.length_map,Array.length_toList];omega)
 . rw[hns]at ha;obtain⟨j,hj,rfl⟩:=mem_getD ha;rw[List.length_map,Array.length_toList]at hj;rw[<-numAt_eq];exact h2 j (by omega)
theorem ct3(hc:X.calm=true):CallR X (.builtin "min") (λxs H Q=>∃(p:Addr)(ns:List Int),xs=[.ref p]/\SqL X.K H p (ns.map V.int)/\ns≠[]/\∀M,M∈ns->(∀a∈ns,M<=a)->Q (.int M) H):=by
 intro pins s σ H xs us Q I r h;obtain⟨p,ns,rfl,hp,hne,q⟩:=h;obtain⟨u,rfl,ru⟩:=r.one;obtain rfl:u=Value.ref p:=ru;obtain⟨its,rv,pl,_⟩:=I.list hp;have hi:IntsAre its ns:=az5 rv;have hl:=pl.isList;obtain⟨xs,e⟩:=hi.allInts.items;have hns:ns=xs.toList.map (·.1):=by rw[<-hi.numsOf,<-nums_intItems,<-e]
 have hsz:0<xs.size:=by have h3:=List.length_pos_iff.mpr hne;rw[hns,List.length_map,Array.length_toList]at h3;exact h3
 rw[e]at hl;refine min_intList (I.ok.hd hc) hl hsz λv h' tk hv hk=>?_;obtain⟨t,rfl⟩:=intItems_at hv;obtain⟨h1,h2⟩:=argBest_lt (numAt xs) (xs.size-1);refine⟨.int _,H,I.kept hk,⟨t,rfl⟩,q _ ?_ λa ha=>?_⟩
 . rw[hns,numAt_eq];exact getD_mem (by rw[List.length_map,Array.length_toList];omega)
 . rw[hns]at ha;obtain⟨j,hj,rfl⟩:=mem_getD ha;rw[List.length_map,Array.length_toList]at hj;rw[<-numAt_eq];exact h2 j (by omega)
end
section
variable {X : Cx}
end
end L2
namespace L2
open PySem PySem.Spec PyProof.Rows
def Its(z:Str):It:=⟨λi _=>i<z.cps.size,λi H x H'=>H'=H/\∃c,z.cps[i]?=some c/\x=.str ⟨#[c]⟩,λi _=>z.cps.size<=i⟩
theorem cn3(hQ:Q () s):wpAny M A (letOwnedTupleGo tg (.ref it) (.str x t)) Q E s:=by unfold letOwnedTupleGo;cases tg<;>exact wpAny_pure hQ
theorem cr0{P:Program}{w:World}{K:PySem.W.Frag}{tg:Expr}(it:Addr)(z:Str)(t:Tok):ad4 P w K tg (Its z) [it] it (λi h=>h.IsStrIter it "str_ascii_iterator" z t i) where
 mem:=by simp
 obj:=λi h st b hb=>by
  have e:b=it:=by simpa using hb
  subst e;obtain⟨o,e,c,d⟩:=st;exact⟨o,e,λv q=>by rw[d]at q;cases q⟩
 keep:=λi h h' st k=>let⟨o,e,r⟩:=st;⟨o,k it (by simp) o e,r⟩
 item:=by intro X hP hw hK hc i pins s σ H E I hf st hg;subst hP hw hK;obtain⟨f0,f1,f2,f3,f4,f5⟩:=hf it (by simp);have hg':i<z.cps.size:=hg;refine wpAny_pyNext_ascii_item st (c:=z.cps[i]) (by simp[hg']) λh' hit' hs'=>?_;have I1:Inv X pins σ H {s with heap:=h',toks:=s.toks+1}:=I.turned (λb o hb e=>hs'.extBut b o hb e) f0 f1 f3 f4 f5;exact⟨_,rfl,cn3 ⟨.str ⟨#[z.cps[i]]⟩,H,I1,⟨_,rfl⟩,⟨rfl,_,by simp[hg'],rfl⟩,hit',λb hb=>(hf b hb).1⟩⟩
 done:=by intro X hP hw hK hc i pins s σ H E I hf st hg;subst hP hw hK;obtain⟨f0,f1,f2,f3,f4,f5⟩:=hf it (by simp);have hg':z.cps.size<=i:=hg;exact wpAny_pyNext_ascii_end (I.ok.hd hc) st (by simp[hg']) λh' he'=>⟨rfl,I.turned (t':=s.toks) (λb o hb e=>he' b o hb e) f0 f1 f3 f4 f5⟩
 self:=λ_ _ _ _ _ st h=>wpAny_pyIter_striter_ascii st h
theorem cp3{P:Program}{w:World}{K:PySem.W.Frag}{tg:Expr}(it:Addr)(z:Str)(t:Tok):ad4 P w K tg (Its z) [it] it (λi h=>h.IsStrIter it "str_iterator" z t i) where
 mem:=by simp
 obj:=λi h st b hb=>by
  have e:b=it:=by simpa using hb
  subst e;obtain⟨o,e,c,d⟩:=st;exact⟨o,e,λv q=>by rw[d]at q;cases q⟩
 keep:=λi h h' st k=>let⟨o,e,r⟩:=st;⟨o,k it (by simp) o e,r⟩
 item:=by intro X hP hw hK hc i pins s σ H E I hf st hg;subst hP hw hK;obtain⟨f0,f1,f2,f3,f4,f5⟩:=hf it (by simp);have hg':i<z.cps.size:=hg;refine wpAny_pyNext_wide_item st (c:=z.cps[i]) (by simp[hg']) λh' hit' hs'=>?_;have I1:Inv X pins σ H {s with heap:=h',toks:=s.toks+1}:=I.turned (λb o hb e=>hs'.extBut b o hb e) f0 f1 f3 f4 f5;exact⟨_,rfl,cn3 ⟨.str ⟨#[z.cps[i]]⟩,H,I1,⟨_,rfl⟩,⟨rfl,_,by simp[hg'],rfl⟩,hit',λb hb=>(hf b hb).1⟩⟩
 done:=by intro X hP hw hK hc i pins s σ H E I hf st hg;subst hP hw hK;obtain⟨f0,f1,f2,f3,f4,f5⟩:=hf it (by simp);have hg':z.cps.size<=i:=hg;exact wpAny_pyNext_wide_end (I.ok.hd hc) st (by simp[hg']) λh' he'=>⟨rfl,I.turned (t':=s.toks) (λb o hb e=>he' b o hb e) f0 f1 f3 f4 f5⟩
 self:=λ_ _ _ _ _ st h=>wpAny_pyIter_striter_wide st h
section
variable {X : Cx}
def db7:V->Option Int->Option Int->Hp->VK->Prop:=λx lo hi H Q=>∃z,x=.str z/\z.length<=sizeLine/\Q (.str (Txt.slice z lo hi)) H
theorem dp5:SlR X db7:=by
 intro pins s σ H x v vl vu lo hi sl Q I rx hs pl pu h;obtain⟨z,rfl,hz,q⟩:=h;obtain⟨t,rfl⟩:=rx;refine⟨"str",_,F.slot_str_getitem.lookup,typeIs_str s z t,?_⟩;obtain⟨o,e,c,d⟩:=hs;have go:∀(l u:Option (Int×Tok)),vl=partValue l->vu=partValue u->lo=l.map (·.1)->hi=u.map (·.1)->wpAny (model X.prog X.w) X.A (getItem (.str z t) (.ref sl)) (EP X pins σ Q) X.xe s:=by
  rintro l u rfl rfl rfl rfl;refine wpAny_getItem_str_slice (l:=l) (u:=u) (st:=none) ⟨o,e,c,d⟩ rfl ?_;unfold sliceMade;unfold Txt.slice at q;have e1:((((none:Option (Int×Tok)).map (·.1)).getD 1==1&&(slicePicked z l u none).length==z.length)=true)=(((1:Int)==1&&(Builtin.Str.strSliceIndices (l.map (·.1)) (u.map (·.1)) 1 z.length).length==z.length)=true):=rfl;split
  . rename_i hh;rw[if_pos (e1▸hh)]at q;exact⟨.str z,H,I,⟨t,rfl⟩,q⟩
  . rename_i hh;rw[if_neg (e1▸hh)]at q;refine⟨Nat.le_trans (Nat.le_trans (List.length_filterMap_le _ _) (sliceIndices_le _ _ _)) hz,.str _,H,I.tok _,⟨_,rfl⟩,q⟩
 cases pl with
 |none=>
  cases pu with
  |none=>exact go none none rfl rfl rfl rfl
  |int j u=>exact go none (some (j,u)) rfl rfl rfl rfl
 |int i t'=>
  cases pu with
  |none=>exact go (some (i,t')) none rfl rfl rfl rfl
  |int j u=>exact go (some (i,t')) (some (j,u)) rfl rfl rfl rfl
theorem bb0:∀{ys:List Str}{us:List Value},Vals (ys.map V.str) us->StrsAre us ys
 |[],_,.nil=>.nil
 |y::ys,_,.cons r t=>by obtain⟨k,rfl⟩:=r;exact .cons _ _ (bb0 t)
def br8(K:PySem.W.Frag):V->List V->Hp->VK->Prop:=λx vs H Q=>∃(z:Str)(p:Addr)(ys:List Str),x=.str z/\vs=[.ref p]/\SqL K H p (ys.map V.str)/\(ys.map (·.length)).sum+ys.length*z.length<=16777216/\Q (.str (Txt.join z ys)) H
theorem dw1:MtR X "str.join" (br8 X.K):=by intro pins s σ H x xs v us Q I rx rv h;obtain⟨z,p,ys,rfl,rfl,hp,hz,q⟩:=h;obtain⟨t,rfl⟩:=rx;obtain⟨u,rfl,ru⟩:=rv.one;obtain rfl:u=Value.ref p:=ru;obtain⟨its,r,pl,_⟩:=I.list hp;exact join_list pl.isList (by simpa using bb0 r) hz λt' k=>⟨.str _,H,I.tok _,⟨_,rfl⟩,q⟩
end
end L2
namespace L2
open PySem PySem.Spec PyProof.Rows
section
variable {X : Cx}
def et1:R2:=λx y H Q=>∃i j,x=.str i/\y=.str j/\i.length+j.length<=sizeLine/\Q (.str (i++j)) H
def du7(K:PySem.W.Frag):List V->Hp->VK->Prop:=λxs H Q=>∃x n,xs=[x]/\dx8 K x H n/\Q (.int n) H
def dv6:List V->Hp->VK->Prop:=λxs H Q=>∃i,xs=[.int i]/\Q (.int (if i<0 then -i else i)) H
def bm8:List V->Hp->VK->Prop:=λxs H Q=>∃i j,xs=[.int i,.int j]/\gQ i j/\∀p,H p=none->Q (.ref p) (upd H p (.tup [.int (i/j),.int (i%j)]))
def ee4(K:PySem.W.Frag):List V->Hp->VK->Prop:=λxs H Q=>∃x T tx b,xs=[x,.ty T]/\TyN K H x tx/\gF tx T b/\Q (.bl b) H
def dk5(K:PySem.W.Frag):List V->Hp->VK->Prop:=λxs H Q=>∃(p:Addr)(bs:List Bool),xs=[.ref p]/\SqL K H p (bs.map V.bl)/\Q (.bl (bs.all id)) H
def ez0:List V->Hp->VK->Prop:=λxs H Q=>∃i j,xs=[.int i,.int j]/\Q (.int (if j>i then j else i)) H
def em0:List V->Hp->VK->Prop:=λxs H Q=>∃i j,xs=[.int i,.int j]/\Q (.int (if j<i then j else i)) H
def ec2(K:PySem.W.Frag):List V->Hp->VK->Prop:=λxs H Q=>∃(p:Addr)(ns:List Int),xs=[.ref p]/\SqL K H p (ns.map V.int)/\ns≠[]/\∀M,M∈ns->(∀a∈ns,a<=M)->Q (.int M) H
def el3(K:PySem.W.Frag):List V->Hp->VK->Prop:=λxs H Q=>∃(p:Addr)(ns:List Int),xs=[.ref p]/\SqL K H p (ns.map V.int)/\ns≠[]/\∀M,M∈ns->(∀a∈ns,M<=a)->Q (.int M) H
def cw6(K:PySem.W.Frag):List V->Hp->VK->Prop:=λxs H Q=>ez0 xs H Q\/ec2 K xs H Q
def cu7(K:PySem.W.Frag):List V->Hp->VK->Prop:=λxs H Q=>em0 xs H Q\/el3 K xs H Q
theorem ca2(hc:X.calm=true:=by rfl):CallR X (.builtin "max") (cw6 X.K):=(cz1 hc).or (cx1 hc)
theorem cv3(hc:X.calm=true:=by rfl):CallR X (.builtin "min") (cu7 X.K):=(cw4 hc).or (ct3 hc)
theorem zO(hm:X.mg x=none)(hv:bootBuiltins x=some (.type ty))(hg:Gl X x:=by rfl)(hn:x≠"__name__":=by decide)(hd:(x==("__debug__":Str))=false:=by decide):PE X (.Name x pos) (tC (.ty ty)):=
 ds3 (v:=.ty ty) hg hm hv rfl hn hd
def kY(mg:Str->Option Value)(x:Str)(v:V):Prop:=∃u,mg x=some u/\RelV v u
theorem dE(h:kY X.mg x v)(hg:Gl X x:=by rfl)(hd:(x==("__debug__":Str))=false:=by decide):PE X (.Name x pos) (tC v):=by obtain⟨u,hm,r⟩:=h;exact dr4 hg hm r hd
end
theorem dU:bootBuiltins "len"=some (.builtin "len"):=PySem.boot_len
theorem yF:bootBuiltins "abs"=some (.builtin "abs"):=by decide+kernel
theorem ao1:bootBuiltins "divmod"=some (.builtin "divmod"):=by decide+kernel
theorem bR:bootBuiltins "isinstance"=some (.builtin "isinstance"):=by decide+kernel
theorem rM:bootBuiltins "all"=some (.builtin "all"):=by decide+kernel
theorem bq4:bootBuiltins "max"=some (.builtin "max"):=by decide+kernel
theorem tN:bootBuiltins "min"=some (.builtin "min"):=by decide+kernel
theorem xX:bootBuiltins "int"=some (.type "int"):=by decide+kernel
theorem dq4:bootBuiltins "bool"=some (.type "bool"):=by decide+kernel
theorem az4:bootBuiltins "str"=some (.type "str"):=by decide+kernel
theorem pS:bootBuiltins "list"=some (.type "list"):=by decide+kernel
section
variable {t u : TS} {D : wY} {σ : St} {H : Hp} {te ta tb tc : TE} {g : TG} {i : Nat} {v : V} {Q : VK} {c : TT} {K : PySem.W.Frag} {r r' : R2}
end
end L2
namespace L2
open PySem PySem.Spec PyProof.Rows
structure fM (K:PySem.W.Frag) (mg:Str->Option Value) (x:Str) (st:Stmt):Prop where
 ex:∃f fd,Fun K x x st f fd/\mg x=some (.ref f)
theorem de6{K:PySem.W.Frag}{h:Heap}{mg:Str->Option Value}(X:K.In h)(G:h.Ns mainGlobals mg){x:Str}{st:Stmt}{f:Addr}{oc:Value}{od an:Option Addr}{osl:Array (Option Value)}{kV doc pm cdv ct:Value}
 (a:PySem.W.nsIn K mainGlobals x=some (some (.ref f)))(l:K.lookup f=some ⟨oc,od,.func (PySem.W.fnOf x x (gP st) (cK st) (aL st) .none kV doc pm an cdv ct),osl⟩)
 (c:PySem.W.codeIn K cdv x=true)(k:PySem.W.keepIn K (.ref f)=true):fM K mg x st:=⟨f,_,ar0 l c k,PySem.W.mg_of X G a⟩
theorem di8{K:PySem.W.Frag}{h:Heap}{mg:Str->Option Value}(X:K.In h)(G:h.Ns mainGlobals mg){x:Str}{v:V}{u:Value}(a:PySem.W.nsIn K mainGlobals x=some (some u))(r:RelV v u):kY mg x v:=⟨u,PySem.W.mg_of X G a,r⟩
section
variable {P : Program} {w : World} {K : PySem.W.Frag} {mg : Str → Option Value} {base : Heap}
end
theorem dc4(h:Builtin.Int.intBits a<=n):a.natAbs<2^n:=by
 unfold Builtin.Int.intBits at h;by_cases e:a=0
 . subst e;exact Nat.two_pow_pos n
 . rw[if_neg (by simpa using e)]at h;have h0:a.natAbs≠0:=by omega
   exact(Nat.log2_lt h0).mp (by omega)
theorem br7(h:a.natAbs<2^n):Builtin.Int.intBits a<=n:=by
 unfold Builtin.Int.intBits;by_cases e:a=0
 . subst e;exact Nat.zero_le _
 . rw[if_neg (by simpa using e)];have h0:a.natAbs≠0:=by omega
   have:=(Nat.log2_lt h0).mpr h;omega
theorem ci0(h:Builtin.Int.intBits a+Builtin.Int.intBits b<=134217728):IntMulOk a b:=by
 have e:(2:Nat)^27=134217728:=by decide
 have h:Builtin.Int.intTooBig (Builtin.Int.intBits a+Builtin.Int.intBits b)=false:=by unfold Builtin.Int.intTooBig bitsLine;exact decide_eq_false (by omega)
 unfold IntMulOk;rw[h];simp
theorem dm2(h1:-(2^64)<b)(h2:b<2^64):IntMulOk a b:=IntMulOk.of_right (intBits_le_64 h1 h2)
theorem dj2(h1:-(2^64)<a)(h2:a<2^64):IntMulOk a b:=IntMulOk.of_left (intBits_le_64 h1 h2)
end L2
namespace L2
open PySem PySem.Spec PyProof.Rows
def SI(k:Bool)(h:Heap)(it l:Addr)(i:Nat):Prop:=∃o,h.get? it=some o/\o.cls=.type (cond k "tuple_iterator" "list_iterator")/\o.data=.fields #[.ref l,.int i 0]
def SQ(k:Bool)(h:Heap)(l:Addr)(us:Array Value):Prop:=∃o,h.get? l=some o/\o.cls=.type (cond k "tuple" "list")/\∃n,o.data=.seq us n
theorem SI.at(x:SI k h it l i)(e:∀o,h.get? it=some o->h'.get? it=some o):SI k h' it l i:=by obtain⟨o,ho,r⟩:=x;exact⟨o,e o ho,r⟩
theorem SQ.at(x:SQ k h l us)(e:∀o,h.get? l=some o->h'.get? l=some o):SQ k h' l us:=by obtain⟨o,ho,r⟩:=x;exact⟨o,e o ho,r⟩
section
variable {prog : Program} {w : World} {A : Around} {E : Value → Shared → Prop} {s : Shared}
theorem av0(hit:SI k s.heap it l i)(hl:SQ k s.heap l us)(hx:us[i]?=some x)
 (hQ:∀h',SI k h' it l (i+1)->Heap.SameBut it s.heap h'->Q x {s with heap:=h'}):wpAny (model prog w) A (Builtin.SmallTypes.nextOf (.ref it)) Q E s:=by
 cases k with
 |false=>exact wpAny_nextOf_list_item hit hl hx hQ
 |true=>
  obtain⟨o,ho,hc,hd⟩:=hit;obtain⟨ol,hol,_,nl,hdl⟩:=hl;have hT:s.TypeIs (.ref it) "tuple_iterator":=⟨o,ho,hc⟩;unfold Builtin.SmallTypes.nextOf;refine wpAny_bind (wpAny_callSpecial?_slot (name:=Str.ofString "__next__") hT F.slot_tuple_iterator_next (wpAny_call_entry F.slot_tuple_iterator_next hT F.entry_tuple_iterator_next ?_ (F.args_tuple_iterator_next_1 _)))
  (show wpAny _ _ (field (.ref it) 0>>=_) _ _ s);refine wpAny_bind (wpAny_field ho hd (x:=.ref l) rfl ?_)
  (show wpAny _ _ (if(Value.ref l==Value.none)=true then _ else _) _ _ s);rw[if_neg (show¬((Value.ref l==Value.none)=true) from Bool.false_ne_true)]
  (show wpAny _ _ (field (.ref it) 1>>=_) _ _ s);refine wpAny_bind (wpAny_field ho hd (x:=.int i 0) rfl ?_)
  (show wpAny _ _ (seqItems? (.ref l)>>=_) _ _ s);refine wpAny_bind (wpAny_seqItems hol hdl ?_)
  simp only[Int.toNat_natCast,hx];refine wpAny_bind (wpAny_setField ho hd (by simp) (wpAny_pure ⟨x,rfl,wpAny_pure (hQ _ ?_ (Heap.SameBut.update ..))⟩));refine⟨_,Heap.get?_update_self _ ho (Obj.isFreed_of_fields (Obj.data_mapFields hd _)),(Obj.cls_mapFields ..).trans hc,?_⟩;rw[Obj.data_mapFields hd];simp[rawInt]
theorem bt3(hh:A.handled=none)(hit:SI k s.heap it l i)(hl:SQ k s.heap l us)(hx:us[i]?=none)
 (hE:∀h' e,Heap.ExtBut it s.heap h'->(∃o,h'.get? e=some o/\o.cls=.type "StopIteration")->E (.ref e) {s with heap:=h'}):wpAny (model prog w) A (Builtin.SmallTypes.nextOf (.ref it)) Q E s:=by
 cases k with
 |false=>exact wpAny_nextOf_list_end hh hit hl hx hE
 |true=>
  obtain⟨o,ho,hc,hd⟩:=hit;obtain⟨ol,hol,_,nl,hdl⟩:=hl;have hT:s.TypeIs (.ref it) "tuple_iterator":=⟨o,ho,hc⟩;unfold Builtin.SmallTypes.nextOf;refine wpAny_bind (wpAny_callSpecial?_slot (name:=Str.ofString "__next__") hT F.slot_tuple_iterator_next (wpAny_call_entry F.slot_tuple_iterator_next hT F.entry_tuple_iterator_next ?_ (F.args_tuple_iterator_next_1 _)))
  (show wpAny _ _ (field (.ref it) 0>>=_) _ _ s);refine wpAny_bind (wpAny_field ho hd (x:=.ref l) rfl ?_)
  (show wpAny _ _ (if(Value.ref l==Value.none)=true then _ else _) _ _ s);rw[if_neg (show¬((Value.ref l==Value.none)=true) from Bool.false_ne_true)]
  (show wpAny _ _ (field (.ref it) 1>>=_) _ _ s);refine wpAny_bind (wpAny_field ho hd (x:=.int i 0) rfl ?_)
  (show wpAny _ _ (seqItems? (.ref l)>>=_) _ _ s);refine wpAny_bind (wpAny_seqItems hol hdl ?_)
  simp only[Int.toNat_natCast,hx];refine wpAny_bind (wpAny_rule (wpAny_bind (wpAny_setField ho hd (by simp) ?_)))
  (show wpAny _ _ (newExc (.type "StopIteration") []>>=_) _ _ _);refine wpAny_bind ?_;simp only[newExc,newTuple]
  refine wpAny_bind (wpAny_newObj_type ?_ (by size_fits));refine wpAny_bind (m:=firstArgMember _ _) (wpAny_of_eq (a:=Value.none) (by first|rfl|(simp only[firstArgMember];rfl)) ?_);refine wpAny_newObj_type ?_ (by size_fits);simp only[raiseNew];refine wpAny_bind (wpAny_handled ?_);first|rw[show A.in1.handled=none from hh]|rw[hh]
  refine wpAny_bind (wpAny_pure (wpAny_throw ?_));exact hE _ _ (((Heap.SameBut.update ..).extBut.push _).push _) ⟨_,Heap.get?_push_size _ rfl,rfl⟩
theorem bl2(hl:SQ k s.heap l us)
 (hQ:Q (.ref s.heap.objs.size) {s with heap:=s.heap.push {cls:=.type (cond k "tuple_iterator" "list_iterator"),data:=.fields #[.ref l,.int 0 0]}}):wpAny (model prog w) A (pyIter (.ref l)) Q E s:=by
 cases k with
 |false=>exact wpAny_pyIter_list hl hQ
 |true=>exact wpAny_pyIter_tuple hl hQ
theorem cb6{k1 k2:Bool}{z TI TO i1 i2 l1 l2:Addr}{i:Nat}{us vs:Array Value}{x y a b:Value}{Q:Option Value->Shared->Prop}(D:ZipApart z TI TO i1 i2 l1 l2)
 (hz:IsZip s.heap z TI TO .none)(hTI:IsPair s.heap TI (.ref i1) (.ref i2))(hTO:IsPair s.heap TO a b)(n1:SI k1 s.heap i1 l1 i)(n2:SI k2 s.heap i2 l2 i)(q1:SQ k1 s.heap l1 us)(q2:SQ k2 s.heap l2 vs)(hx:us[i]?=some x)(hy:vs[i]?=some y)
 (hQ:∀h',IsZip h' z TI TO (rawInt s.heap.objs.size)->IsPair h' TO x y->SI k1 h' i1 l1 (i+1)->SI k2 h' i2 l2 (i+1)->IsPair h' s.heap.objs.size x y->
  (∀c o,c≠z->c≠TO->c≠i1->c≠i2->s.heap.get? c=some o->h'.get? c=some o)->Q (some (.ref s.heap.objs.size)) {s with heap:=h'}):
 wpAny (model prog w) A (pyNext (.ref z)) Q E s:=by
 have hT:s.TypeIs (.ref z) "zip":=⟨_,hz,rfl⟩;unfold pyNext;refine wpAny_bind (wpAny_attempt (wpAny_callSpecial?_slot (name:=Str.ofString "__next__") hT F.slot_zip_next (wpAny_call_entry F.slot_zip_next hT F.entry_zip_next ?_ (F.args_zip_next_1 _))))
 (show wpAny _ _ (field (.ref z) 2>>=_) _ _ _);refine wpAny_bind (wpAny_field hz rfl (x:=.bool false) rfl ?_)
 (show wpAny _ _ (field (.ref z) 3>>=_) _ _ _);refine wpAny_bind (wpAny_field hz rfl (x:=.ref TI) rfl ?_)
 refine wpAny_bind (wpAny_seqItems hTI rfl ?_);(show wpAny _ _ (Builtin.SmallTypes.ownedTupleIsFree (.ref z)>>=_) _ _ _)
 refine wpAny_bind ?_;unfold Builtin.SmallTypes.ownedTupleIsFree;refine wpAny_bind (wpAny_field hz rfl (x:=.none) rfl (wpAny_pure ?_));simp only[if_true];refine wpAny_bind (wpAny_rule ?_);refine wpAny_bind (wpAny_field hz rfl (x:=.ref TO) rfl ?_);refine wpAny_bind (wpAny_setField_rec hz (by simp) λh₁ hz₁ g1=>?_);replace hz₁:IsZip h₁ z TI TO .ellipsis:=hz₁;refine wpAny_bind ?_;simp only[List.zipIdx_cons,List.zipIdx_nil,List.forIn_cons,List.forIn_nil];refine wpAny_bind (wpAny_bind (wpAny_onRaise ?_));(show wpAny _ _ (Builtin.SmallTypes.nextOf (.ref i1)>>=_) _ _ _)
 refine wpAny_bind (av0 (n1.at λo e=>g1.extBut _ _ D.i1z e) (q1.at λo e=>g1.extBut _ _ D.l1z e) hx λh₂ n1' g2=>wpAny_pure ?_);have t2:IsPair h₂ TO a b:=g2.extBut _ _ D.TOi1 (g1.extBut _ _ D.TOz hTO);refine wpAny_bind (wpAny_seqItems t2 rfl ?_);refine wpAny_bind (wpAny_updateSeq_pair t2 λh₃ t3 g3=>?_);replace t3:IsPair h₃ TO x b:=t3;refine wpAny_bind (wpAny_letGo (wpAny_pure ?_));refine wpAny_bind (wpAny_bind (wpAny_onRaise ?_));(show wpAny _ _ (Builtin.SmallTypes.nextOf (.ref i2)>>=_) _ _ _)
 refine wpAny_bind (av0 (n2.at λo e=>g3.extBut _ _ D.TOi2.symm (g2.extBut _ _ D.i12.symm (g1.extBut _ _ D.i2z e))) (q2.at λo e=>g3.extBut _ _ D.l2TO (g2.extBut _ _ D.l2i1 (g1.extBut _ _ D.l2z e))) hy λh₄ n2' g4=>wpAny_pure ?_);have t4:IsPair h₄ TO x b:=g4.extBut _ _ D.TOi2 t3;refine wpAny_bind (wpAny_seqItems t4 rfl ?_);refine wpAny_bind (wpAny_updateSeq_pair t4 λh₅ t5 g5=>?_);replace t5:IsPair h₅ TO x y:=t5;refine wpAny_bind (wpAny_letGo (wpAny_pure (wpAny_pure ?_)));refine wpAny_bind (wpAny_seqItems t5 rfl ?_);refine wpAny_bind (wpAny_newTuple ?_);have hsz:h₅.objs.size=s.heap.objs.size:=by rw[g5.1,g4.1,g3.1,g2.1,g1.1]
 have z5:IsZip h₅ z TI TO .ellipsis:=g5.extBut _ _ D.TOz.symm (g4.extBut _ _ D.i2z.symm (g3.extBut _ _ D.TOz.symm (g2.extBut _ _ D.i1z.symm hz₁)));have m1:SI k1 h₅ i1 l1 (i+1):=n1'.at λo e=>g5.extBut _ _ D.TOi1.symm (g4.extBut _ _ D.i12 (g3.extBut _ _ D.TOi1.symm e));have m2:SI k2 h₅ i2 l2 (i+1):=n2'.at λo e=>g5.extBut _ _ D.TOi2.symm e;have zlt:z<h₅.objs.size:=Heap.lt_size z5
 (show wpAny _ _ (Builtin.SmallTypes.ownedTupleHandOut (.ref z) (.ref h₅.objs.size)>>=_) _ _ _);refine wpAny_bind ?_;unfold Builtin.SmallTypes.ownedTupleHandOut
 have z6:IsZip (h₅.push {cls:=.type "tuple",data:=.seq #[x,y]}) z TI TO .ellipsis:=Heap.get?_push_of_some _ z5;refine wpAny_bind (wpAny_setField_rec z6 (by simp) λh₇ z7 g7=>?_);replace z7:IsZip h₇ z TI TO (rawInt h₅.objs.size):=z7;refine wpAny_setField_rec z7 (by simp) λh₈ z8 g8=>?_;replace z8:IsZip h₈ z TI TO (rawInt h₅.objs.size):=z8;have up:∀c o,c≠z->h₅.get? c=some o->h₈.get? c=some o:=λc o c1 e=>g8.extBut _ _ c1 (g7.extBut _ _ c1 (Heap.get?_push_of_some _ e));have t8:IsPair h₈ h₅.objs.size x y:=g8.extBut _ _ (Nat.ne_of_gt zlt) (g7.extBut _ _ (Nat.ne_of_gt zlt) (Heap.get?_push_size _ rfl));rw[hsz]at z8 t8;refine wpAny_pure ⟨_,rfl,?_⟩
 (show wpAny _ _ _ _ _ _);refine wpAny_pure ?_
 show Q (some (.ref h₅.objs.size)) _;rw[hsz];refine hQ h₈ z8 (up _ _ D.TOz t5) (m1.at λo e=>up _ o D.i1z e) (m2.at λo e=>up _ o D.i2z e) t8 λc o c1 c2 c3 c4 e=>up c o c1 ?_;exact g5.extBut _ _ c2 (g4.extBut _ _ c4 (g3.extBut _ _ c2 (g2.extBut _ _ c3 (g1.extBut _ _ c1 e))))
theorem cw5{k1 k2:Bool}{z TI TO i1 i2 l1 l2:Addr}{i:Nat}{us vs:Array Value}{a b:Value}{Q:Option Value->Shared->Prop}(hh:A.handled=none)(D:ZipApart z TI TO i1 i2 l1 l2)
 (hz:IsZip s.heap z TI TO .none)(hTI:IsPair s.heap TI (.ref i1) (.ref i2))(hTO:IsPair s.heap TO a b)(n1:SI k1 s.heap i1 l1 i)(n2:SI k2 s.heap i2 l2 i)(q1:SQ k1 s.heap l1 us)(q2:SQ k2 s.heap l2 vs)(hend:us[i]?=none\/vs[i]?=none)
 (hQ:∀h',(∀c o,c≠z->c≠TO->c≠i1->c≠i2->s.heap.get? c=some o->h'.get? c=some o)->Q none {s with heap:=h'}):
 wpAny (model prog w) A (pyNext (.ref z)) Q E s:=by
 have hT:s.TypeIs (.ref z) "zip":=⟨_,hz,rfl⟩;unfold pyNext;have bN:∀h' e,(∀c o,c≠z->c≠TO->c≠i1->c≠i2->s.heap.get? c=some o->h'.get? c=some o)->(∃o,h'.get? e=some o/\o.cls=.type "StopIteration")->
  wpAny (model prog w) A (do if(<-isInstance (.ref e) (.type "StopIteration"))=true then pure none else throw (.ref e)) Q E {s with heap:=h'}:=λh' e hk ⟨o,ho,hc⟩=>
  wpAny_bind (wpAny_isInstance (T:="StopIteration") (b:=true) ⟨o,ho,hc⟩ isSubtype_stop (wpAny_pure (hQ _ hk)))
 refine wpAny_bind (wpAny_attempt (wpAny_callSpecial?_slot (name:=Str.ofString "__next__") hT F.slot_zip_next (wpAny_call_entry F.slot_zip_next hT F.entry_zip_next ?_ (F.args_zip_next_1 _))))
 (show wpAny _ _ (field (.ref z) 2>>=_) _ _ _);refine wpAny_bind (wpAny_field hz rfl (x:=.bool false) rfl ?_)
 (show wpAny _ _ (field (.ref z) 3>>=_) _ _ _);refine wpAny_bind (wpAny_field hz rfl (x:=.ref TI) rfl ?_)
 refine wpAny_bind (wpAny_seqItems hTI rfl ?_);(show wpAny _ _ (Builtin.SmallTypes.ownedTupleIsFree (.ref z)>>=_) _ _ _)
 refine wpAny_bind ?_;unfold Builtin.SmallTypes.ownedTupleIsFree;refine wpAny_bind (wpAny_field hz rfl (x:=.none) rfl (wpAny_pure ?_));simp only[if_true];refine wpAny_bind (wpAny_rule ?_);refine wpAny_bind (wpAny_field hz rfl (x:=.ref TO) rfl ?_);refine wpAny_bind (wpAny_setField_rec hz (by simp) λh₁ hz₁ g1=>?_);replace hz₁:IsZip h₁ z TI TO .ellipsis:=hz₁;refine wpAny_bind ?_;simp only[List.zipIdx_cons,List.zipIdx_nil,List.forIn_cons,List.forIn_nil];refine wpAny_bind (wpAny_bind (wpAny_onRaise ?_));(show wpAny _ _ (Builtin.SmallTypes.nextOf (.ref i1)>>=_) _ _ _)
 have p1:SI k1 h₁ i1 l1 i:=n1.at λo e=>g1.extBut _ _ D.i1z e;have p2:SQ k1 h₁ l1 us:=q1.at λo e=>g1.extBut _ _ D.l1z e;cases hx:us[i]? with
 |none=>
  refine wpAny_bind (bt3 hh p1 p2 hx λh₂ e g2 he=>?_);obtain⟨oe,hoe,hce⟩:=he;have z2:IsZip h₂ z TI TO .ellipsis:=g2 _ _ D.i1z.symm hz₁;have hez:e≠z:=λq=>by subst q;rw[z2]at hoe;cases hoe;simp at hce
  refine wpAny_setField_rec z2 (by simp) λh₃ _ g3=>?_;exact bN h₃ e (λc o c1 _ c3 _ q=>g3.extBut _ _ c1 (g2 _ _ c3 (g1.extBut _ _ c1 q))) ⟨oe,g3.extBut _ _ hez hoe,hce⟩
 |some x=>
  have hy:vs[i]?=none:=by
   rcases hend with h|h
   . rw[hx]at h;cases h
   . exact h
  refine wpAny_bind (av0 p1 p2 hx λh₂ n1' g2=>wpAny_pure ?_);have t2:IsPair h₂ TO a b:=g2.extBut _ _ D.TOi1 (g1.extBut _ _ D.TOz hTO);refine wpAny_bind (wpAny_seqItems t2 rfl ?_);refine wpAny_bind (wpAny_updateSeq_pair t2 λh₃ t3 g3=>?_);refine wpAny_bind (wpAny_letGo (wpAny_pure ?_));refine wpAny_bind (wpAny_bind (wpAny_onRaise ?_));(show wpAny _ _ (Builtin.SmallTypes.nextOf (.ref i2)>>=_) _ _ _)
  refine wpAny_bind (bt3 hh (n2.at λo e=>g3.extBut _ _ D.TOi2.symm (g2.extBut _ _ D.i12.symm (g1.extBut _ _ D.i2z e))) (q2.at λo e=>g3.extBut _ _ D.l2TO (g2.extBut _ _ D.l2i1 (g1.extBut _ _ D.l2z e))) hy λh₄ e g4 he=>?_);obtain⟨oe,hoe,hce⟩:=he;have z4:IsZip h₄ z TI TO .ellipsis:=g4 _ _ D.i2z.symm (g3.extBut _ _ D.TOz.symm (g2.extBut _ _ D.i1z.symm hz₁));have hez:e≠z:=λq=>by subst q;rw[z4]at hoe;cases hoe;simp at hce
  refine wpAny_setField_rec z4 (by simp) λh₅ _ g5=>?_;exact bN h₅ e (λc o c1 c2 c3 c4 q=>g5.extBut _ _ c1 (g4 _ _ c4 (g3.extBut _ _ c2 (g2.extBut _ _ c3 (g1.extBut _ _ c1 q))))) ⟨oe,g5.extBut _ _ hez hoe,hce⟩
end
abbrev itO(k:Bool)(l:Addr):Obj:={cls:=.type (cond k "tuple_iterator" "list_iterator"),data:=.fields #[.ref l,.int 0 0]}
abbrev zA(k1:Bool)(h:Heap)(l1:Addr):Heap:=h.push (itO k1 l1)
abbrev zB(k1 k2:Bool)(h:Heap)(l1 l2:Addr):Heap:=(zA k1 h l1).push (itO k2 l2)
abbrev zC(k1 k2:Bool)(h:Heap)(l1 l2:Addr):Heap:=(zB k1 k2 h l1 l2).push {cls:=.type "tuple",data:=.seq #[.ref h.objs.size,.ref (zA k1 h l1).objs.size]}
abbrev zD(k1 k2:Bool)(h:Heap)(l1 l2:Addr):Heap:=(zC k1 k2 h l1 l2).push {cls:=.type "tuple",data:=.seq #[.none,.none]}
abbrev zE(k1 k2:Bool)(h:Heap)(l1 l2:Addr):Heap:=(zD k1 k2 h l1 l2).push {cls:=.type "zip",data:=.fields #[.none,.bool false,.bool false,.ref (zB k1 k2 h l1 l2).objs.size,.ref (zC k1 k2 h l1 l2).objs.size]}
theorem de4(k1 k2:Bool)(l1 l2:Addr)(us vs:Array Value):
 Meets (Builtin.«zip.__new__» ⟨[.type "zip",.ref l1,.ref l2],[]⟩) (λ_ R s=>SQ k1 s.heap l1 us/\SQ k2 s.heap l2 vs/\R (.ok (.ret (.ref (zD k1 k2 s.heap l1 l2).objs.size))) {s with heap:=zE k1 k2 s.heap l1 l2}):=
 .of_wp λprog w A R s h=>by
  obtain⟨hp,g,d,tk,os⟩:=s;obtain⟨hl1,hl2,h⟩:=h;have hsub:=sub_zip;have a1:SQ k1 (Shared.heap ⟨hp,g,d,tk,os⟩) l1 us:=hl1;have a2:SQ k2 (Shared.heap ⟨hp.push (itO k1 l1),g,d,tk,os⟩) l2 vs:=SQ.at hl2 λo e=>Heap.get?_push_of_some _ e
  wp_walk using bl2 a1,bl2 a2
  exact⟨_,rfl,h⟩
section
variable {prog : Program} {w : World} {A : Around} {E : Value → Shared → Prop} {s : Shared}
theorem cr6(hl1:SQ k1 s.heap l1 us)(hl2:SQ k2 s.heap l2 vs)
 (h:∀h',IsZip h' (s.heap.objs.size+4) (s.heap.objs.size+2) (s.heap.objs.size+3) .none->IsPair h' (s.heap.objs.size+2) (.ref s.heap.objs.size) (.ref (s.heap.objs.size+1))->IsPair h' (s.heap.objs.size+3) .none .none->
  SI k1 h' s.heap.objs.size l1 0->SI k2 h' (s.heap.objs.size+1) l2 0->(∀c o,s.heap.get? c=some o->h'.get? c=some o)->Q (.ref (s.heap.objs.size+4)) {s with heap:=h'}):
 wpAny (model prog w) A (call (.type "zip") [.ref l1,.ref l2]) Q E s:=by
 refine callType_new F.called_zip (by decide) (F.typeCall_zip_2 _ _) (F.newCall_zip_2 _ _) (λobj=>F.args_object_init_3 obj _ _) F.entry_zip_new (de4 k1 k2 l1 l2 us vs) ⟨hl1,hl2,?_⟩;have z1:(zA k1 s.heap l1).objs.size=s.heap.objs.size+1:=Heap.size_push ..
 have z2:(zB k1 k2 s.heap l1 l2).objs.size=s.heap.objs.size+2:=(Heap.size_push ..).trans (by rw[z1]);have z3:(zC k1 k2 s.heap l1 l2).objs.size=s.heap.objs.size+3:=(Heap.size_push ..).trans (by rw[z2]);have z4:(zD k1 k2 s.heap l1 l2).objs.size=s.heap.objs.size+4:=(Heap.size_push ..).trans (by rw[z3]);have u1:∀c o,(zA k1 s.heap l1).get? c=some o->(zE k1 k2 s.heap l1 l2).get? c=some o:=λc o e=>Heap.get?_push_of_some _ (Heap.get?_push_of_some _ (Heap.get?_push_of_some _ (Heap.get?_push_of_some _ e)));have u2:∀c o,(zB k1 k2 s.heap l1 l2).get? c=some o->(zE k1 k2 s.heap l1 l2).get? c=some o:=λc o e=>Heap.get?_push_of_some _ (Heap.get?_push_of_some _ (Heap.get?_push_of_some _ e));have g5:(zE k1 k2 s.heap l1 l2).get? (zD k1 k2 s.heap l1 l2).objs.size=some _:=Heap.get?_push_size _ rfl;have g4:(zE k1 k2 s.heap l1 l2).get? (zC k1 k2 s.heap l1 l2).objs.size=some _:=Heap.get?_push_of_some _ (Heap.get?_push_size _ rfl);have g3:(zE k1 k2 s.heap l1 l2).get? (zB k1 k2 s.heap l1 l2).objs.size=some _:=Heap.get?_push_of_some _ (Heap.get?_push_of_some _ (Heap.get?_push_size _ rfl));have g2:(zE k1 k2 s.heap l1 l2).get? (zA k1 s.heap l1).objs.size=some _:=u2 _ _ (Heap.get?_push_size _ rfl);have g1:(zE k1 k2 s.heap l1 l2).get? s.heap.objs.size=some _:=u1 _ _ (Heap.get?_push_size _ rfl);show _/\_;rw[z2,z3,z4]at g5;rw[z1,z2]at g3;rw[z3]at g4;rw[z1]at g2;rw[z4];exact⟨⟨_,g5,rfl⟩,h _ g5 g3 g4 ⟨_,g1,rfl,rfl⟩ ⟨_,g2,rfl,rfl⟩ λc o x=>u1 c o (Heap.get?_push_of_some _ x)⟩
end
end L2
namespace L2
open PySem PySem.Spec PyProof.Rows
def SqK(k:Bool)(K:PySem.W.Frag)(H:Hp)(l:Addr)(xs:List V):Prop:=cond k (SqT K H l xs) (SqL K H l xs)
section
variable {X : Cx} {pins : List (Addr × Obj)} {σ : St} {H : Hp} {s : Shared} {l : Addr} {xs ys : List V}
theorem Inv.row(I:Inv X pins σ H s)(h:SqK k X.K H l xs):∃its:List Value,Vals xs its/\SQ k s.heap l its.toArray/\xs.length<=sizeLine:=by
 cases k with
 |false=>obtain⟨its,r,p,z⟩:=I.list h;exact⟨its,r,p.isList,z⟩
 |true=>obtain⟨its,r,p,z⟩:=I.tuple h;exact⟨its,r,p,z⟩
theorem Inv.row_inj(I:Inv X pins σ H s)(h:SqK k X.K H l xs)(h':SqK k X.K H l ys):xs=ys:=by
 cases k with
 |false=>exact I.list_inj h h'
 |true=>exact I.tuple_inj h h'
theorem Inv.turnedL{t':Nat}{fp:List Addr}{h':Heap}(I:Inv X pins σ H s)(k:∀b o,b∉fp->s.heap.get? b=some o->h'.get? b=some o)(hf:∀b∈fp,rV X pins H b):Inv X pins σ H {s with heap:=h',toks:=t'}:=by
 have nit:∀b u,H b=some u->b∉fp:=λb u e z=>by rw[(hf b z).1]at e;cases e
 refine I.step (g':=s.gens) (d':=s.drawn) (ch:=fp) (λb hb=>?_) (λb o _ _ hc e _=>k b o hc e) (λb o _ _ hc e _=>⟨o.slots,k b o hc e⟩) (λ_ _ _ _ n=>n)
  (λb o hc e=>⟨o,k b o hc e⟩) (λ_ _ e=>e) (λ_ _ _ e=>e) (λb ps e=>⟨#[],by rw[e];simp⟩) (λm hm=>?_) (λb u e=>?_) I.bare
 . obtain⟨_,f1,_,f3,f4,f5⟩:=hf b hb;exact⟨f3,f1,f4,f5⟩
 . obtain⟨o,es,ep,ho,r⟩:=hm;exact⟨o,es,ep,k _ o (λz=>(hf _ z).2.1 rfl) ho,r⟩
 . refine(I.hok b u e).stay (λc v hc q=>k c v ?_ q) (λ_ q=>q) λ_ _ q=>q;rcases hc with z|z
   . rw[z];exact nit b u e
   . exact nit c _ z
theorem Inv.paired{h':Heap}{t':Nat}{fp:List Addr}{x y:V}{u v:Value}(I:Inv X pins σ H s)(rx:RelV x u)(ry:RelV y v)(hf:∀b∈fp,rV X pins H b)(hl:∀b∈fp,b<s.heap.objs.size)
 (hp:h'.get? s.heap.objs.size=some {cls:=.type "tuple",data:=.seq #[u,v]})(k:∀b o,b∉fp->s.heap.get? b=some o->h'.get? b=some o):
 Inv X pins σ (upd H s.heap.objs.size (.tup [x,y])) {s with heap:=h',toks:=t'}/\∀b∈fp,upd H s.heap.objs.size (.tup [x,y]) b=none:=by
 have I0:Inv X pins σ (upd H s.heap.objs.size (.tup [x,y])) {s with heap:=s.heap.push {cls:=.type "tuple",data:=.seq #[u,v]},toks:=t'}:=
  I.laid (λ_ _ q=>Heap.get?_push_of_some _ q) (Nat.le_refl _) ⟨(show(2:Nat)<=sizeLine by decide),[u,v],.cons rx (.cons ry .nil),⟨_,Heap.get?_push_size _ rfl,rfl,_,rfl⟩⟩
 have hn:∀b∈fp,upd H s.heap.objs.size (.tup [x,y]) b=none:=λb hb=>by rw[bA (Nat.ne_of_lt (hl b hb))];exact(hf b hb).1
 refine⟨I0.turnedL (fp:=fp) (h':=h') (t':=t') (λb o hb e=>?_) λb hb=>⟨hn b hb,(hf b hb).2⟩,hn⟩;rcases Heap.get?_push_cases e with⟨rfl,rfl⟩|e
 . exact hp
 . exact k b o hb e
end
def Itz(K:PySem.W.Frag)(k1 k2:Bool)(l1 l2:Addr):It:=
 ⟨λi H=>∃xs ys x y,SqK k1 K H l1 xs/\SqK k2 K H l2 ys/\xs[i]?=some x/\ys[i]?=some y,
  λi H v H'=>∃p,H p=none/\v=.ref p/\∀xs ys,SqK k1 K H l1 xs->SqK k2 K H l2 ys->∃x y,xs[i]?=some x/\ys[i]?=some y/\H'=upd H p (.tup [x,y]),
  λi H=>∃xs ys,SqK k1 K H l1 xs/\SqK k2 K H l2 ys/\(xs.length<=i\/ys.length<=i)⟩
def Ite(K:PySem.W.Frag)(l:Addr):It:=
 ⟨λi H=>∃xs x,SqL K H l xs/\xs[i]?=some x,λi H v H'=>∃p,H p=none/\v=.ref p/\∀xs,SqL K H l xs->∃x,xs[i]?=some x/\H'=upd H p (.tup [.int i,x]),λi H=>∃xs,SqL K H l xs/\xs.length<=i⟩
theorem cs8{P:Program}{w:World}{K:PySem.W.Frag}{es:List Expr}{n:Nat}{pos:Pos}{k1 k2:Bool}{z TI TO i1 i2 l1 l2:Addr}(D:ZipApart z TI TO i1 i2 l1 l2):
 ad4 P w K (.Tuple es n pos) (Itz K k1 k2 l1 l2) [z,TI,TO,i1,i2] z (λi h=>IsZip h z TI TO .none/\IsPair h TI (.ref i1) (.ref i2)/\(∃a b,IsPair h TO a b)/\SI k1 h i1 l1 i/\SI k2 h i2 l2 i) where
 mem:=by simp
 obj:=λi h st b hb=>by
  obtain⟨hz,hTI,⟨a,c,hTO⟩,n1,n2⟩:=st;simp only[List.mem_cons,List.not_mem_nil,or_false]at hb;rcases hb with rfl|rfl|rfl|rfl|rfl
  . exact⟨_,hz,λv e=>nomatch e⟩
  . exact⟨_,hTI,λv e=>nomatch e⟩
  . exact⟨_,hTO,λv e=>nomatch e⟩
  . obtain⟨o,e,_,d⟩:=n1;exact⟨o,e,λv q=>by rw[d]at q;cases q⟩
  . obtain⟨o,e,_,d⟩:=n2;exact⟨o,e,λv q=>by rw[d]at q;cases q⟩
 keep:=λi h h' st k=>by obtain⟨hz,hTI,⟨a,c,hTO⟩,n1,n2⟩:=st;exact⟨k z (by simp) _ hz,k TI (by simp) _ hTI,⟨a,c,k TO (by simp) _ hTO⟩,n1.at λo e=>k i1 (by simp) o e,n2.at λo e=>k i2 (by simp) o e⟩
 item:=by
  intro X hP hw hK hc i pins s σ H E I hf st hg;subst hP hw hK;obtain⟨hz,hTI,⟨a,b,hTO⟩,n1,n2⟩:=st;obtain⟨xs,ys,x,y,hq1,hq2,hx,hy⟩:=hg;obtain⟨its,r1,p1,_⟩:=I.row hq1;obtain⟨jts,r2,p2,_⟩:=I.row hq2;obtain⟨u,hu,ru⟩:=r1.get hx;obtain⟨v,hv,rv⟩:=r2.get hy;refine cb6 D hz hTI hTO n1 n2 p1 p2 (x:=u) (y:=v) (by simpa using hu) (by simpa using hv) λh' a1 a2 a3 a4 a5 kk=>⟨_,rfl,wpAny_letOwnedTupleGo_zip a1 λh2 b1 gg=>?_⟩;have lts:∀b∈[z,TI,TO,i1,i2],b<s.heap.objs.size:=λb hb=>by
   simp only[List.mem_cons,List.not_mem_nil,or_false]at hb;rcases hb with rfl|rfl|rfl|rfl|rfl
   . exact Heap.lt_size hz
   . exact Heap.lt_size hTI
   . exact Heap.lt_size hTO
   . obtain⟨o,e,_⟩:=n1;exact Heap.lt_size e
   . obtain⟨o,e,_⟩:=n2;exact Heap.lt_size e
  have zne:s.heap.objs.size≠z:=Nat.ne_of_gt (lts z (by simp));obtain⟨I1,hn⟩:=I.paired (t':=s.toks) ru rv hf lts (gg.extBut _ _ zne a5) (λc o hc e=>gg.extBut _ _ (λq=>hc (by simp[q])) (kk c o (λq=>hc (by simp[q])) (λq=>hc (by simp[q])) (λq=>hc (by simp[q])) (λq=>hc (by simp[q])) e));refine⟨.ref s.heap.objs.size,_,I1,rfl,⟨_,I.fresh,rfl,λxs' ys' q1 q2=>⟨x,y,by rw[I.row_inj q1 hq1];exact hx,by rw[I.row_inj q2 hq2];exact hy,rfl⟩⟩,⟨b1,?_,⟨u,v,?_⟩,?_,?_⟩,hn⟩
  . exact gg.extBut _ _ D.TIz (kk _ _ D.TIz D.TITO D.TIi1 D.TIi2 hTI)
  . exact gg.extBut _ _ D.TOz a2
  . exact a3.at λo e=>gg.extBut _ _ D.i1z e
  . exact a4.at λo e=>gg.extBut _ _ D.i2z e
 done:=by intro X hP hw hK hc i pins s σ H E I hf st hg;subst hP hw hK;obtain⟨hz,hTI,⟨a,b,hTO⟩,n1,n2⟩:=st;obtain⟨xs,ys,hq1,hq2,hx⟩:=hg;obtain⟨its,r1,p1,_⟩:=I.row hq1;obtain⟨jts,r2,p2,_⟩:=I.row hq2;have e1:=r1.length;have e2:=r2.length;exact cw5 (I.ok.hd hc) D hz hTI hTO n1 n2 p1 p2 (hx.imp (λq=>by simp;omega) (λq=>by simp;omega)) λh' kk=>⟨rfl,I.turnedL (t':=s.toks) (λc o hc e=>kk c o (λq=>hc (by simp[q])) (λq=>hc (by simp[q])) (λq=>hc (by simp[q])) (λq=>hc (by simp[q])) e) hf⟩
 self:=λ_ _ _ _ _ st h=>wpAny_pyIter_zip st.1 h
theorem ch9:bootBuiltins "zip"=some (.type "zip"):=by decide+kernel
section
variable {X : Cx}
def cd6(K:PySem.W.Frag)(ta:TA):TI:=λσ H R=>ta σ H λvs H1=>∃k1 k2 l1 l2,vs=[.ref l1,.ref l2]/\(∃xs,SqK k1 K H1 l1 xs)/\(∃ys,SqK k2 K H1 l2 ys)/\R (Itz K k1 k2 l1 l2) H1
theorem dr7{es:List Expr}{n:Nat}{tpos:Pos}{a b:Expr}{ta:TA}{p pos:Pos}(hg:Gl X "zip")(hm:X.mg "zip"=none)(ha:PA X [a,b] ta)(hs:starEach [a,b] X.env=[(false,eval a X.env),(false,eval b X.env)]:=by rfl)(hs2:starEach [b] X.env=[(false,eval b X.env)]:=by rfl):
 PI X (.Tuple es n tpos) (.Call (.Name "zip" p) [a,b] [] pos) (cd6 X.K ta):=by
 intro pins s σ H R I h;refine Call_ (tE I hg hm ch9 (PyProof.Rows.callWith_type1 (bW (ha pins s σ H _ I h) λus s1 ⟨vs,H1,I1,r1,q1⟩=>?_) (by rw[hs,hs2]) (by rw[hs2];rfl)));obtain⟨k1,k2,l1,l2,e,⟨xs,hq1⟩,⟨ys,hq2⟩,q⟩:=q1;subst e;cases r1 with
 |cons r rr=>
  cases rr with
  |cons r' rr=>
   cases rr;cases r;cases r';obtain⟨its,r1,p1,_⟩:=I1.row hq1;obtain⟨jts,r2,p2,_⟩:=I1.row hq2;refine cr6 p1 p2 λh' a1 a2 a3 a4 a5 kk=>wpAny_pyIter_zip a1 ?_;have c1:l1<s1.heap.objs.size:=by obtain⟨_,z,_⟩:=p1;exact Heap.lt_size z
   have c2:l2<s1.heap.objs.size:=by obtain⟨_,z,_⟩:=p2;exact Heap.lt_size z
   refine⟨_,_,_,_,H1,rfl,I1.kept (t':=s1.toks) kk,cs8 (zipApart_new c1 c2),⟨a1,a2,⟨_,_,a3⟩,a4,a5⟩,λc hc=>?_,q⟩;have le:s1.heap.objs.size<=c:=by simp only[List.mem_cons,List.not_mem_nil,or_false]at hc;rcases hc with rfl|rfl|rfl|rfl|rfl<;>omega
   exact I1.fpOk le (I1.hok.fresh le)
end
end L2
namespace L2
open PySem PySem.Spec PyProof.Rows
def sU(σ:List Str)(x:Str):List Str:=if σ.any (· ==x)=true then σ else σ++[x]
def lX(val:Nat->Str)(i:Nat):List Str:=((List.range i).map val).foldl sU []
theorem au1(val:Nat->Str)(i:Nat):lX val (i+1)=sU (lX val i) (val i):=by unfold lX;rw[List.range_succ,List.map_append,List.foldl_append];rfl
theorem be3(val:Nat->Str):∀i,(lX val i).length<=i
 |0=>Nat.le_refl _
 |i+1=>by
  rw[au1];unfold sU;have ih:=be3 val i;split
  . omega
  . simp;omega
theorem cj1(σ:List Str)(v k:Str):(sU σ v).any (· ==k)=(σ.any (· ==k)||decide (k=v)):=by
 unfold sU;by_cases h:σ.any (· ==v)=true
 . rw[if_pos h];by_cases e:k=v
   . subst e;rw[h];simp
   . simp[e]
 . rw[if_neg h,List.any_append];by_cases e:k=v
   . subst e;simp
   . have hb:(v==k)=false:=by simpa using(λh':v=k=>e h'.symm)
     simp[hb,e]
theorem cc4(σ:List Str)(v:Str):(sU σ v).length=if σ.any (· ==v)then σ.length else σ.length+1:=by unfold sU;split<;>simp
section
variable {prog : Program} {w : World} {A : Around} {R : Result → Shared → Prop} {I : Addr} {fp wr : List Addr} {G : Array GenState → Array GenState → Prop} {n : Nat} {P : Nat → Value → Prop} {St : Nat → Shared → Prop}
theorem ch7(W:WalksS prog w A.in1 I fp wr G n P St)(S:Addr)(hS:S∉fp)(val:Nat->Str)(hval:∀i v,P i v->∃t,v=.str (val i) t)(hb:n+1<scanBound):
 ∀(k i:Nat)(s:Shared),n-i=k->i<=n->St i s->s.heap.SetOf (strKind prog w) S (λx=>(lX val i).any (· ==x)) (lX val i).length->
  (∀s',Moved (S::wr) G s s'->s'.heap.SetOf (strKind prog w) S (λx=>(lX val n).any (· ==x)) (lX val n).length->R (.ok (.ret .none)) s')->
  codeAny (model prog w) A (.builtin "set.update.loop" ⟨[.ref S,.ref I],[]⟩) R s:=by
 have hw:S∉wr:=λh=>hS (W.sub _ h);have sub:∀b∈wr,b∈S::wr:=λb hb=>List.mem_cons_of_mem _ hb;intro k;induction k with
 |zero=>
  intro i s hk hi st hs hR;obtain rfl:i=n:=by omega
  refine codeAny_builtin PyProof.Rows.F.entry_set_update_loop ?_;rw[Around.under_plainId PyProof.Rows.F.plain_set_update_loop _]
  (show wpAny _ A.in1 (pyNext (.ref I)>>=_) _ _ s);refine wpAny_bind (W.done s _ _ st λs' hm=>?_)
  (show wpAny _ A.in1 (ret Value.none) _ _ s');refine wpAny_pure (hR s' (hm.mono sub) ?_)
  obtain⟨o,es,ep,t,ho,r⟩:=hs;exact⟨o,es,ep,t,hm.heap S _ hw ho,r⟩
 |succ k ih=>
  intro i s hk hi st hs hR;have lt:i<n:=by omega
  refine codeAny_builtin PyProof.Rows.F.entry_set_update_loop ?_;rw[Around.under_plainId PyProof.Rows.F.plain_set_update_loop _]
  (show wpAny _ A.in1 (pyNext (.ref I)>>=_) _ _ s);refine wpAny_bind (W.item i s _ _ lt st λv s' hP st' hm=>?_)
  obtain⟨t,rfl⟩:=hval i v hP;have hs':s'.heap.SetOf (strKind prog w) S (λx=>(lX val i).any (· ==x)) (lX val i).length:=by obtain⟨o,es,ep,tb,ho,r⟩:=hs;exact⟨o,es,ep,tb,hm.heap S _ hw ho,r⟩
  (show wpAny _ A.in1 (holding [Value.str (val i) t] (setAdd S (.str (val i) t))>>=_) _ _ s');refine wpAny_bind (wpAny_holding ?_);unfold setAdd
  refine wpAny_holding ?_;refine wpAny_bind ((strKind prog w).pyHash (k:=val i) (strKind_is _ _ _ _) ?_);have room:(lX val i).length+1<scanBound:=by have:=be3 val i;omega
  refine wpAny_setAddHashed_of (knd:=strKind prog w) (s:={s' with toks:=s'.toks+1}) (strKind_is _ _ _ _) rfl hs' room λh' hsb hS2=>?_;have hi':h'.SetOf (strKind prog w) S (λx=>(lX val (i+1)).any (· ==x)) (lX val (i+1)).length:=SetOf_congr hS2 (λx=>by rw[au1,cj1]) (by rw[au1,cc4]);refine wpAny_pure ⟨plainId_quiet PyProof.Rows.F.plain_set_update_loop _,ih (i+1) _ (by omega) lt (W.frame _ s' _ _ st' (Nat.le_succ _) λb hb o e=>?_) hi' λs'' hm'' hS''=>?_⟩
  . exact(hsb.2 b (λh:b=S=>hS (by rw[<-h];exact hb))).trans e
  . refine hR s'' (Moved.trans W.gtrans ((hm.mono sub).then_heap (Nat.le_succ _) λb o hb e=>?_) hm'') hS'';exact(hsb.2 b (λh:b=S=>hb (by rw[h];exact List.mem_cons_self))).trans e
end
section
variable {prog : Program} {w : World} {A : Around} {E : Value → Shared → Prop} {s : Shared}
abbrev lT(led:Bool):Obj:={cls:=.type "set",dict:=none,data:=.set #[] 0 (.fresh 0 0 led)}
set_option maxHeartbeats 3200000 in
theorem bi0(hh:A.handled=none)(hl:s.heap.IsList l us)(hv:∀(i:Nat) v,us[i]?=some v->∃t,v=.str (val i) t)(hb:us.size+1<scanBound)
 (h:∀(h':Heap)(tk:Nat),h'.SetOf (strKind prog w) s.heap.objs.size (λx=>(lX val us.size).any (· ==x)) (lX val us.size).length->(∀b o,b<s.heap.objs.size->s.heap.get? b=some o->h'.get? b=some o)->Q (.ref s.heap.objs.size) {s with heap:=h',toks:=tk}):
 wpAny (model prog w) A (call (.type "set") [.ref l]) Q E s:=by
 obtain⟨c,tl,hmro⟩:=PySem.F.called_set.mro;have hmade:=PySem.F.called_set.made;have hsub:=PySem.F.called_set.sub;refine wpAny_call (codeAny_of_tree ?_);(show wpAny _ _ (callAny (.type "set") _) _ _ _)
 refine wpAny_pure ⟨Code.quiet_builtin _ (by decide+kernel),codeAny_builtin PySem.F.entry_type_call ?_⟩;rw[Around.under_plain (weight_type_call_type "set" [.ref l] []) rfl];have h1:=PySem.F.called_set.notType;have h2:=PySem.F.called_set.canCreate;have hct:=PySem.F.typeCall_set_1 (.ref l)
 (repeat(any_goals(first|assumption|wp_step)))
 refine codeAny_mono (code_set_new_1 (.ref l) (E:=E) (Q₁:=λobj s₁=>∃led:Bool,obj=.ref s.heap.objs.size/\s₁={s with heap:=s.heap.push (lT led)}) λled=>⟨led,rfl,rfl⟩) λr s₁ hr=>?_;cases r with
 |error e=>exact hr
 |ok fl=>
  cases fl with
  |ret obj=>
   obtain⟨led,rfl,rfl⟩:=hr;have hS:(s.heap.push (lT led)).get? s.heap.objs.size=some (lT led):=Heap.get?_push_size _ rfl;have hT:Shared.TypeIs {s with heap:=s.heap.push (lT led)} (.ref s.heap.objs.size) "set":=⟨_,hS,rfl⟩;have hli:=PySem.F.called_set.init.lookup;have hbi:=PySem.F.called_set.init.bind (.ref s.heap.objs.size)
   (repeat(any_goals(first|assumption|wp_step)))
   refine codeAny_mono (codeAny_call_builtin (R:=wants (λr s₂=>r=.none/\∃h' tk,s₂={s with heap:=h',toks:=tk}/\h'.SetOf (strKind prog w) s.heap.objs.size (λx=>(lX val us.size).any (· ==x)) (lX val us.size).length/\
    (∀b o,b<s.heap.objs.size->s.heap.get? b=some o->h'.get? b=some o)) E) PySem.F.called_set.init.plain PySem.F.entry_set_init (check_set_init_1 hT ?_)) λr₂ s₂ hr₂=>?_
   . obtain⟨ol,hol,hcl,nl,hdl⟩:=hl;obtain⟨ocls,odict,odata,oslots⟩:=ol;simp only at hcl hdl;subst hcl;subst hdl;have hol':(s.heap.push (lT led)).get? l=some {cls:=.type "list",dict:=odict,data:=.seq us nl,slots:=oslots}:=Heap.get?_push_of_some _ hol;have hsls:=PySem.F.sub_list_set;have hslf:=PySem.F.sub_list_frozenset;have hne:(Value.type "list"==Value.type "dict")=false:=by decide
     have hl1:(s.heap.push (lT led)).IsList l us:=⟨_,hol',rfl,nl,rfl⟩;unfold Builtin.«set.__init__» noKeywords Builtin.Frozenset.updateFrom;generalize hPI:pyIter=PI;wp_walk;subst hPI
     refine wpAny_pyIter_list hl1 ?_;refine wpAny_bind (wpAny_runValue ?_);have hlS:l<s.heap.objs.size:=Heap.lt_size hol;have hh3:A.in1.in1.in1.handled=none:=by simp[hh]
     have hneI:l≠(s.heap.push (lT led)).objs.size:=by rw[Heap.size_push];exact Nat.ne_of_lt (Nat.lt_succ_of_lt hlS)
     have hSf:s.heap.objs.size∉[(s.heap.push (lT led)).objs.size,l]:=by rw[Heap.size_push];simp only[List.mem_cons,List.not_mem_nil,or_false,not_or];exact⟨Nat.ne_of_lt (Nat.lt_succ_self _),Nat.ne_of_gt hlS⟩
     refine ch7 ((Walks.list hh3 _ l hneI us).toS) s.heap.objs.size hSf val hv hb (us.size-0) 0 _ (by omega) (Nat.zero_le _) ⟨⟨_,Heap.get?_push_size _ rfl,rfl,rfl⟩,(hl1.push _)⟩ ?hS0 ?hR;case hS0=>exact SetOf_congr ((setObjOf_fresh (knd:=strKind prog w) led).setOf (Heap.get?_push_of_some _ hS) (by unfold scanBound;omega)) (λ_=>rfl) rfl
     case hR=>
      intro s' hm hS';obtain⟨h',g',d',tk',os'⟩:=s';obtain rfl:g'=s.gens:=hm.gens;obtain rfl:d'=s.drawn:=hm.drawn;obtain rfl:os'=s.os:=hm.os
      (show wpAny _ _ _ _ _ _);refine wpAny_pure ?_;(show wpAny _ _ (ret Value.none) _ _ _)
      refine wpAny_pure ⟨rfl,h',tk',rfl,hS',λb o hb e=>?_⟩;have hb2:b≠(s.heap.push (lT led)).objs.size:=by rw[Heap.size_push];exact Nat.ne_of_lt (Nat.lt_succ_of_lt hb)
      exact hm.heap b o (by simp only[List.mem_cons,List.not_mem_nil,or_false,not_or];exact⟨Nat.ne_of_lt hb,hb2⟩) (Heap.get?_push_of_some _ (Heap.get?_push_of_some _ e))
   . cases r₂ with
     |error e=>exact hr₂
     |ok fl₂=>
      cases fl₂ with
      |ret r=>
       obtain⟨rfl,h',tk,rfl,hS',hk'⟩:=hr₂
       (repeat(any_goals(first|assumption|wp_step)))
       exact h _ _ hS' hk'
      |_=>exact hr₂
  |_=>exact hr
end
end L2
namespace L2
open PySem PySem.Spec PyProof.Rows
def dkA(h:Heap)(a:Addr):Option (Option Addr):=(h.objs[a]?).map (·.dict)
def KD(h h':Heap):Prop:=∀a d,dkA h a=some d->dkA h' a=some d
theorem KD.refl(h:Heap):KD h h:=λ_ _ e=>e
theorem KD.trans{a b c:Heap}(x:KD a b)(y:KD b c):KD a c:=λp d e=>y p d (x p d e)
theorem KD.at{h h':Heap}{a:Addr}{o o':Obj}(k:KD h h')(e:h.get? a=some o)(e':h'.get? a=some o'):o'.dict=o.dict:=by
 have h1:dkA h a=some o.dict:=by unfold dkA;rw[(Heap.get?_some_iff.mp e).1];rfl
 have h2:dkA h' a=some o'.dict:=by unfold dkA;rw[(Heap.get?_some_iff.mp e').1];rfl
 rw[k a _ h1]at h2;exact(Option.some.inj h2).symm
theorem KD.push(h:Heap)(o:Obj):KD h (h.push o):=λa d e=>by
 unfold dkA at*;show((h.objs.push o)[a]?).map _=_;have lt:a<h.objs.size:=by
  cases q:h.objs[a]? with
  |none=>rw[q]at e;cases e
  |some x=>exact(Array.getElem?_eq_some_iff.mp q).1
 rw[Array.getElem?_push_lt lt,<-e,Array.getElem?_eq_getElem lt]
theorem KD.upd(h:Heap)(b:Addr){f:Obj->Obj}(hf:∀o,(f o).dict=o.dict):KD h (h.update b f):=λa d e=>by
 unfold dkA at*;show((h.objs.modify b f)[a]?).map _=_;rw[Array.getElem?_modify];by_cases q:b=a
 . subst q;rw[if_pos rfl];cases z:h.objs[b]? with
   |none=>rw[z]at e;cases e
   |some x=>rw[z]at e;rw[<-e];exact congrArg some (hf x)
 . rw[if_neg q];exact e
def Dk{α:Type}:Sem α->Prop
 |.pure _=>True
 |.raise _=>True
 |.unsupported _=>True
 |.finish _=>True
 |.register _ _=>True
 |.rule _ k=>Dk (k ())
 |.at _ k=>Dk (k ())
 |.load _ _ k=>∀o,Dk (k o)
 |.update _ _ f k=>(∀o,(f o).dict=o.dict)/\Dk (k ())
 |.loadIfAlive _ k=>∀o,Dk (k o)
 |.point _ k=>Dk (k ())
 |.alloc _ k=>∀a,Dk (k a)
 |.fresh k=>∀a,Dk (k a)
 |.ask k=>∀a,Dk (k a)
 |.handled _ k=>∀a,Dk (k a)
 |.stack k=>∀a,Dk (k a)
 |.thread k=>∀a,Dk (k a)
 |_=>False
theorem ez1{α:Type}{M:Model}{Γ:PySem.Ctx}{h0:Heap}{Q:α->Pos->Shared->Prop}{E:Value->Pos->Shared->Prop}:∀(t:Sem α)(p:Pos)(s:Shared),Dk t->KD h0 s.heap->Sem.wp M Γ t Q E p s->
 Sem.wp M Γ t (λa p' s'=>Q a p' s'/\KD h0 s'.heap) (λe p' s'=>E e p' s'/\KD h0 s'.heap) p s:=by
 intro t;induction t with
 |pure a=>intro p s _ k h;simp only[Sem.wp]at h⊢;exact⟨h,k⟩
 |raise e=>intro p s _ k h;simp only[Sem.wp]at h⊢;exact⟨h,k⟩
 |unsupported w=>intro p s _ k h;simp only[Sem.wp]at h
 |finish e=>intro p s _ k h;simp only[Sem.wp]at h
 |register e=>intro p s _ k h;simp only[Sem.wp]at h
 |rule _ k ih=>intro p s d k h;simp only[Sem.wp,Dk]at h d⊢;exact ih () p s d k h
 |«at» _ k ih=>intro p s d k h;simp only[Sem.wp,Dk]at h d⊢;exact ih () _ s d k h
 |load a _ k ih=>intro p s d k h;simp only[Sem.wp,Dk]at h d⊢;obtain⟨o,e,h⟩:=h;exact⟨o,e,ih o p s (d o) k h⟩
 |update a _ f k ih=>intro p s d k h;simp only[Sem.wp,Dk]at h d⊢;exact⟨h.1,ih () p _ d.2 (k.trans (KD.upd _ _ d.1)) h.2⟩
 |loadIfAlive a k ih=>intro p s d k h;simp only[Sem.wp,Dk]at h d⊢;exact ih _ p s (d _) k h
 |point _ k ih=>intro p s d k h;simp only[Sem.wp,Dk]at h d⊢;exact ih () p s d k h
 |alloc o k ih=>intro p s d k h;simp only[Sem.wp,Dk]at h d⊢;exact ih _ p _ (d _) (k.trans (KD.push _ _)) h
 |fresh k ih=>intro p s d k h;simp only[Sem.wp,Dk]at h d⊢;exact ih _ p _ (d _) k h
 |ask k ih=>intro p s d k h;simp only[Sem.wp,Dk]at h d⊢;exact ih _ p _ (d _) k h
 |handled _ k ih=>intro p s d k h;simp only[Sem.wp,Dk]at h d⊢;exact ih _ p _ (d _) k h
 |stack k ih=>intro p s d k h;simp only[Sem.wp,Dk]at h d⊢;exact ih _ p _ (d _) k h
 |thread k ih=>intro p s d k h;simp only[Sem.wp,Dk]at h d⊢;exact ih _ p _ (d _) k h
 |_=>intro p s d;simp only[Dk]at d
theorem aq0{α:Type}{M:Model}{A:Around}{Q:α->Shared->Prop}{E:Value->Shared->Prop}{t:Sem α}{s:Shared}(d:Dk t)(h:wpAny M A t Q E s):
 wpAny M A t (λa s'=>Q a s'/\KD s.heap s'.heap) E s:=λΓ p hΓ=>Sem.wp_mono M Γ t (λ_ _ _ z=>z) (λ_ _ _ z=>z.1) p s (ez1 t p s d (KD.refl _) (h Γ p hΓ))
theorem sB{α β:Type}{m:Sem α}{f:α->Sem β}(hm:Dk m)(hf:∀a,Dk (f a)):Dk (m>>=f):=by
 show Dk (m.bind f);induction m with
 |pure a=>exact hf a
 |raise e=>trivial
 |unsupported w=>trivial
 |finish e=>trivial
 |register e=>trivial
 |rule _ k ih=>simp only[Dk,Sem.bind]at hm⊢;exact ih () hm
 |«at» _ k ih=>simp only[Dk,Sem.bind]at hm⊢;exact ih () hm
 |load a _ k ih=>simp only[Dk,Sem.bind]at hm⊢;exact λo=>ih o (hm o)
 |update a _ g k ih=>simp only[Dk,Sem.bind]at hm⊢;exact⟨hm.1,ih () hm.2⟩
 |loadIfAlive a k ih=>simp only[Dk,Sem.bind]at hm⊢;exact λo=>ih o (hm o)
 |point _ k ih=>simp only[Dk,Sem.bind]at hm⊢;exact ih () hm
 |alloc o k ih=>simp only[Dk,Sem.bind]at hm⊢;exact λo=>ih o (hm o)
 |fresh k ih=>simp only[Dk,Sem.bind]at hm⊢;exact λo=>ih o (hm o)
 |ask k ih=>simp only[Dk,Sem.bind]at hm⊢;exact λo=>ih o (hm o)
 |handled _ k ih=>simp only[Dk,Sem.bind]at hm⊢;exact λo=>ih o (hm o)
 |stack k ih=>simp only[Dk,Sem.bind]at hm⊢;exact λo=>ih o (hm o)
 |thread k ih=>simp only[Dk,Sem.bind]at hm⊢;exact λo=>ih o (hm o)
 |_=>simp only[Dk]at hm
theorem xP{α:Type}(a:α):Dk (pure a:Sem α):=trivial
theorem at4{α:Type}(w:String):Dk (unsupported w:Sem α):=trivial
theorem an2(a:Addr):Dk (load a):=λ_=>trivial
theorem av3(v:Value)(i:Nat):Dk (field v i):=by
 unfold field fieldsOf
 repeat' first|exact xP _|exact at4 _|exact an2 _|exact cj6 _ _|refine sB ?_ λ_=>?_|split
theorem cu8(f:Array Value->Array Value)(o:Obj):(Obj.mapFields f o).dict=o.dict:=by obtain⟨c,d,dt,sl⟩:=o;cases dt<;>rfl
theorem cv4(v:Value)(i:Nat)(x:Value):Dk (setField v i x):=by
 unfold setField updateField
 repeat' first|exact xP _|exact at4 _|exact an2 _|exact cj6 _ _|exact⟨cu8 _,trivial⟩|refine sB ?_ λ_=>?_|split
theorem as0(e:Value)(f:Option Addr):Dk (setFlight e f):=by
 unfold setFlight
 repeat' first|exact xP _|exact av3 _ _|exact cv4 _ _ _|refine sB ?_ λ_=>?_|split
theorem by4:Dk underTheClaimsCaller:=by unfold underTheClaimsCaller;exact sB (λ_=>trivial) λ_=>trivial
theorem bh4:∀l:List Env,Dk (readyFrames l)
 |[]=>trivial
 |env::outer=>by
  have ih:=bh4 outer;unfold readyFrames behindIsImport keptBack
  repeat' first|exact ih|exact xP _|exact at4 _|exact an2 _|exact av3 _ _|exact by4|exact⟨λ_=>rfl,trivial⟩|refine sB ?_ λ_=>?_|split
theorem bg7(e:Value)(env:Env):Dk (noteFrame e env):=by
 unfold noteFrame EntryCells.newEntry newFields newObj newObjAsIs PySem.frameOf frameObject frameEnvs entryPlaceOf
 repeat' first|exact xP _|exact at4 _|exact an2 _|exact av3 _ _|exact cv4 _ _ _|exact bh4 _|exact by4|exact(λ_=>trivial)|exact trivial|refine sB ?_ λ_=>?_|split
theorem aw4(env:Env)(e:Value):Dk (leaving env e):=sB (bg7 e env) λ_=>as0 e none
end L2
namespace L2
open PySem PySem.Spec PyProof.Rows
structure Fly (P:Program) (w:World) (outer:List Env) (H:Hp) (s:Shared) (C:Addr) (dx:Option Addr) (H':Hp) (ea:Addr) (s':Shared):Prop where
 os:s'.os=s.os
 bare:AllBare s'.gens
 un:Un (oR outer) [] H H' s.heap s'.heap
 hok:HOk P w H' s'.heap
 free:H' ea=none
 dict:∃o,s'.heap.get? ea=some o/\o.dict=dx
 air:∃a0 B,Heap.FlyingW B outer ea (.ref C) a0 s'.heap/\(∀b o,s.heap.get? b=some o->b∉oR outer->∃o',B.get? b=some o')/\∀b u,H' b=some u->∃o,B.get? b=some o
def zV(P:Program)(w:World):uQ:=λouter H s E e s'=>∃ea C dx H',e=.ref ea/\Fly P w outer H s C dx H' ea s'/\E (.ref C) dx H'
section
variable {X : Cx} {pins : List (Addr × Obj)} {σ : St} {H H' : Hp} {s s2 : Shared} {B h3 : Heap} {ea C : Addr} {a0 : Value} {dx : Option Addr}
theorem ObjOk.there{P:Program}{w:World}{h:Heap}{a:Addr}{o:HO}(x:ObjOk P w H h a o):∃u,h.get? a=some u:=by
 cases o with
 |lst xs=>obtain⟨_,_,_,_,e⟩:=x;exact⟨_,e⟩
 |tup xs=>obtain⟨_,_,_,ob,e,_⟩:=x;exact⟨_,e⟩
 |dK kvs=>obtain⟨_,_,_,_,o,_,_,e,_⟩:=x;exact⟨_,e⟩
 |dT kvs=>obtain⟨_,_,_,_,o,_,_,e,_⟩:=x;exact⟨_,e⟩
 |set S n=>obtain⟨o,_,_,_,e,_⟩:=x;exact⟨_,e⟩
 |ins C dx fs=>obtain⟨_,_,_,e,_⟩:=x;exact⟨_,e⟩
 |own y=>exact x
 |xd fs=>obtain⟨_,⟨_,_,_,e,_⟩,_⟩:=x;exact⟨_,e⟩
 |rng lo hi=>obtain⟨_,_,_,e⟩:=x;exact⟨_,e⟩
 |frz ob u=>obtain⟨e,_⟩:=x;exact⟨_,e⟩
 |tbl ps=>exact⟨_,(show h.get? a=some _ from x)⟩
 |met f y=>exact⟨_,(show h.get? a=some _ from x)⟩
 |ext φ=>obtain⟨_,e,_⟩:=x;exact e
theorem HOk.based{P:Program}{w:World}{h h':Heap}(x:HOk P w H h)(hB:B.StaysIn h)(hB':B.StaysIn h')(c:∀b u,H b=some u->∃o,B.get? b=some o):HOk P w H h':=λa o e=>
 (x a o e).stay (λb u hb q=>by
  obtain⟨ob,eb⟩:∃ob,B.get? b=some ob:=by
   rcases hb with rfl|hb
   . exact c b o e
   . exact c b _ hb
  have:=hB b ob eb;rw[q]at this;cases this;exact hB' b _ eb) (λ_ q=>q) (λ_ _ q=>q)
theorem Inv.ne_loc(I:Inv X pins σ H s){b:Addr}{o:Obj}(e:X.s₀.heap.get? b=some o):b≠X.env.locals:=λz=>by have h1:=Heap.lt_size e;have h2:=I.ok.above;rw[z]at h1;exact absurd (Nat.lt_of_lt_of_le h1 h2) (Nat.lt_irrefl _)
theorem ck1(I:Inv X pins σ H' s2)(hex:X.ex=[])(hB2:B.StaysIn s2.heap)(hfl:Heap.FlyingW B X.outer ea (.ref C) a0 h3)(hup:s2.heap.UpToSlots h3)(hea:H' ea=none)(hdx:∃o,h3.get? ea=some o/\o.dict=dx)
 (c1:∀b o,X.s₀.heap.get? b=some o->b∉X.fs->∃o',B.get? b=some o')(c2:∀b u,H' b=some u->∃o,B.get? b=some o):Fly X.prog X.w X.outer X.H₀ X.s₀ C dx H' ea {s2 with heap:=h3}:=by
 have nx:∀b:Addr,b∉X.ex:=λb=>by rw[hex];simp
 have slot:∀b o,X.s₀.heap.get? b=some o->X.H₀ b=none->b∈X.fs->∃sl,h3.get? b=some {o with slots:=sl}:=λb o e n hb=>by obtain⟨sl,e1⟩:=I.base.slot b o e n hb (nx b);obtain⟨_,o',ho',hnf⟩:=I.ok.funs.mem hb;rw[e]at ho';cases ho';obtain⟨sl',e2⟩:=hup b _ e1 hnf;exact⟨sl',e2⟩
 refine⟨I.os,I.bare,⟨λb o e n hb _=>?_,λb o e n hb _=>slot b o e n hb,λb o e n _=>I.base.free b o e n (nx b),λb o e _=>?_,I.base.tups,I.base.frzs,I.base.tbls⟩,HOk.based I.hok hB2 hfl.1 c2,hea,hdx,a0,B,hfl,c1,c2⟩
 . obtain⟨o',eb⟩:=c1 b o e hb;have e1:=I.base.keep b o e n hb (nx b);have:=hB2 b o' eb;rw[e1]at this;cases this;exact hfl.1 b _ eb
 . by_cases hb:b∈X.fs
   . obtain⟨_,o',ho',_⟩:=hfl.2.2.1.mem hb;exact⟨o',ho'⟩
   . obtain⟨o',eb⟩:=c1 b o e hb;exact⟨o',hfl.1 b _ eb⟩
theorem cr3{M:Model}{A:Around}{E:Value->Shared->Prop}{H1:Hp}{s1:Shared}(I:Inv X pins σ H1 s1)(hA:A.frames=some (X.env::X.outer))(hex:X.ex=[])(hst:X.stack=X.env::X.outer)(hfr:X.env.frame=some X.env.locals)
 (F:Fly X.prog X.w X.stack H1 s1 C dx H' ea s2):wpAny M A (leaving X.env (.ref ea)) (λ_ s3=>Fly X.prog X.w X.outer X.H₀ X.s₀ C dx H' ea s3) E s2:=by
 obtain⟨a0,B,hfl,c1,c2⟩:=F.air;obtain⟨oe,he,hd⟩:=F.dict;have I2:Inv X pins σ H' s2:=I.call' (ch:=[]) F.os F.un F.hok F.bare (λb z=>absurd z (by simp));rw[hst]at hfl;refine wpAny_mono (aq0 (aw4 _ _) (wpAny_leaves_onW (Q:=λ_ s3=>Heap.FlyingW B X.outer ea (.ref C) a0 s3.heap/\s2.heap.UpToSlots s3.heap/\s3={s2 with heap:=s3.heap}) hA hfr hfl λh' x1 x2=>⟨x1,x2,rfl⟩)) (λ_ s3 ⟨⟨x1,x2,x3⟩,kd⟩=>?_) λ_ _ z=>z;rw[x3];refine ck1 I2 hex hfl.1 x1 x2 F.free ?_ (λb o e hb=>?_) c2
 . obtain⟨o3,h3,_⟩:=x1.there;exact⟨o3,h3,(kd.at he h3).trans hd⟩
 obtain⟨o',e1⟩:=I.base.there b o e (by rw[hex];simp);refine c1 b o' e1 λhm=>?_;rcases List.mem_cons.mp (I.stkSub b hm)with z|z
 . exact I.ne_loc e z
 . exact hb z
def ErrN(h:Heap)(e C:Addr)(dx:Option Addr):Prop:=∃oe vs a0,h.get? e=some oe/\oe.cls=.ref C/\oe.dict=dx/\oe.data=.fields vs/\vs[1]?=some Value.none/\vs[0]?=some a0
theorem cf4{M:Model}{A:Around}{E:Value->Shared->Prop}(I:Inv X pins σ H' s2)(hA:A.frames=some (X.env::X.outer))(hex:X.ex=[])(hst:X.stack=X.env::X.outer)(hfr:X.env.frame=some X.env.locals)
 (hea:H' ea=none)(h0:X.s₀.heap.get? ea=none)(hx:ErrN s2.heap ea C dx):wpAny M A (leaving X.env (.ref ea)) (λ_ s3=>Fly X.prog X.w X.outer X.H₀ X.s₀ C dx H' ea s3) E s2:=by
 obtain⟨oe,vs,a0,he,hc,hd,hda,h1,hv0⟩:=hx;let B:=PySem.W.hideAll s2.heap (ea::oR X.stack);have hBh:B.StaysIn s2.heap:=λb o q=>PySem.W.of_hideAll _ q;have hB:∀b o,s2.heap.get? b=some o->b∉ea::oR X.stack->B.get? b=some o:=λb o q n=>PySem.W.hideAll_get _ q n;have hBe:B.get? ea=none:=PySem.W.hideAll_none _ List.mem_cons_self;have hfun:s2.heap.FunFrames B (X.env::X.outer):=by have:=PySem.W.funFrames_hide (as:=ea::oR X.stack) I.stack (λenv he b hb=>List.mem_cons_of_mem _ (List.mem_filterMap.mpr ⟨env,he,hb⟩));rw[<-hst];exact this
 refine wpAny_mono (aq0 (aw4 _ _) (wpAny_leaving_firstW (Q:=λ_ s3=>Heap.FlyingW B X.outer ea (.ref C) a0 s3.heap/\s2.heap.UpToSlots s3.heap/\s3={s2 with heap:=s3.heap}) hA hfun hfr he hBh hBe hda h1 hv0 λh' ⟨k1,k2,k3,k4⟩=>⟨⟨k1,hBe,k2.2.2,hc▸k3⟩,k4,rfl⟩)) (λ_ s3 ⟨⟨x1,x2,x3⟩,kd⟩=>?_) λ_ _ z=>z;rw[x3];refine ck1 I hex hBh x1 x2 hea ?_ (λb o e hb=>?_) (λb u q=>?_)
 . obtain⟨o3,h3,_⟩:=x1.there;exact⟨o3,h3,(kd.at he h3).trans hd⟩
 . obtain⟨o',e1⟩:=I.base.there b o e (by rw[hex];simp);refine⟨o',hB b o' e1 λhm=>?_⟩;rcases List.mem_cons.mp hm with z|hm
   . rw[z,h0]at e;cases e
   rcases List.mem_cons.mp (I.stkSub b hm)with z|z
   . exact I.ne_loc e z
   . exact hb z
 . obtain⟨o,e⟩:=(I.hok b u q).there;refine⟨o,hB b o e λhm=>?_⟩;rcases List.mem_cons.mp hm with z|hm
   . rw[z,hea]at q;cases q
   rw[I.stkFree b hm]at q;cases q
structure XeOk (X:Cx) (E:XK):Prop where
 new:∀(pins:List (Addr×Obj))(σ:St)(H:Hp)(s:Shared)(ea C:Addr)(dx:Option Addr),Inv X pins σ H s->H ea=none->X.s₀.heap.get? ea=none->ErrN s.heap ea C dx->E (.ref C) dx H->X.xe (.ref ea) s
 fly:∀(pins:List (Addr×Obj))(σ:St)(H H':Hp)(s s':Shared)(ea C:Addr)(dx:Option Addr),Inv X pins σ H s->Fly X.prog X.w X.stack H s C dx H' ea s'->E (.ref C) dx H'->X.xe (.ref ea) s'
theorem XeOk.passes{E:XK}(x:XeOk X E):vM (zV X.prog X.w) X E:=λpins σ H s e s' I h=>by obtain⟨ea,C,dx,H',rfl,F,q⟩:=h;exact x.fly pins σ H H' s s' ea C dx I F q
theorem xe_of{P:Program}{w:World}{K:PySem.W.Frag}{mg:Str->Option Value}{base:Heap}{N:List Str}{qual:Str}{scope:Scope}{f:Addr}{cd:Value}{A:Around}{outer:List Env}{s0:Shared}{H0:Hp}{E:XK}:
 XeOk (lH (zV P w) P w K mg base N qual scope f cd A outer s0 H0 E) E where
 new:=λpins σ H s ea C dx I h1 h2 h3 q=>wpAny_mono (cf4 (E:=λ_ _=>False) I I.ok.frames rfl rfl rfl h1 h2 h3) (λ_ s3 F=>⟨ea,C,dx,H,rfl,F,q⟩) λ_ _ z=>z.elim
 fly:=λpins σ H H' s s' ea C dx I F q=>wpAny_mono (cr3 (E:=λ_ _=>False) I I.ok.frames rfl rfl rfl F) (λ_ s3 F=>⟨ea,C,dx,H',rfl,F,q⟩) λ_ _ z=>z.elim
theorem Inv.trackE{H1:Hp}{s1:Shared}{a:Addr}{o:HO}(I1:Inv X pins σ H1 s1)(n1:s1.heap.get? a=none)(hex:X.ex=[])(I:Inv X pins σ H s)(ha:H a=none)(new:ObjOk X.prog X.w (upd H a o) s.heap a o):Inv X pins σ (upd H a o) s:=by
 have ne:∀b u,s1.heap.get? b=some u->b≠a:=λb u e z=>by rw[z,n1]at e;cases e
 have nh:∀b u,H b=some u->b≠a:=λb u e=>cU e ha;have n0:∀b u,X.s₀.heap.get? b=some u->b≠a:=λb u e=>by obtain⟨o',e1⟩:=I1.base.there b u e (by rw[hex];simp);exact ne b o' e1
 refine⟨I.ok,I.os,I.bare,⟨I.base.keep,I.base.slot,λb u e n x=>by rw[bA (n0 b u e)];exact I.base.free b u e n x,I.base.there,λb xs e=>by have q:=I.base.tups b xs e;rw[bA (nh _ _ q)];exact q,
  λb ob u e=>by have q:=I.base.frzs b ob u e;rw[bA (nh _ _ q)];exact q,λb ps e=>by obtain⟨m,q⟩:=I.base.tbls b ps e;exact⟨m,by rw[bA (nh _ _ q)];exact q⟩⟩,I.loc,I.cell,?_,λx c e=>?_,λp hp=>?_,λb u e=>?_,I.len⟩
 . obtain⟨m,⟨ol,_,_,e,_⟩,_⟩:=I1.loc;rw[bA (ne _ _ e)];exact I.free
 . obtain⟨v,oc,e1,_⟩:=I1.cell x c e;rw[bA (ne _ _ e1)];exact I.freeC x c e
 . obtain⟨e1,_⟩:=I1.pin p hp;obtain⟨q1,q2,q3⟩:=I.pin p hp;exact⟨q1,by rw[bA (ne _ _ e1)];exact q2,q3⟩
 . by_cases hb:b=a
   . subst hb;rw[cJ]at e;cases e;exact new
   . rw[bA hb]at e;exact(I.hok b u e).stay (λ_ _ _ q=>q) (λc q=>by rw[bA (nh _ _ q)];exact q) λc xs q=>by rw[bA (nh _ _ q)];exact q
theorem Inv.drop{a:Addr}{φ:Heap->Prop}(I:Inv X pins σ H s)(ha:H a=some (.ext φ)):Inv X pins σ (λb=>if b=a then none else H b) s:=by
 have nn:∀b,H b=none->(if b=a then none else H b)=none:=λb e=>by split<;>first|rfl|exact e
 have nt:∀b u,H b=some u->(∀ψ,u≠ .ext ψ)->(if b=a then none else H b)=some u:=λb u e n=>by rw[if_neg (λz=>by rw[z,ha]at e;cases e;exact n _ rfl)];exact e
 refine⟨I.ok,I.os,I.bare,⟨I.base.keep,I.base.slot,λb u e n x=>nn b (I.base.free b u e n x),I.base.there,λb xs e=>nt _ _ (I.base.tups b xs e) (λ_ z=>nomatch z),
  λb ob u e=>nt _ _ (I.base.frzs b ob u e) (λ_ z=>nomatch z),λb ps e=>by obtain⟨m,q⟩:=I.base.tbls b ps e;exact⟨m,nt _ _ q (λ_ z=>nomatch z)⟩⟩,I.loc,I.cell,nn _ I.free,λx c e=>nn _ (I.freeC x c e),λp hp=>?_,λb u e=>?_,I.len⟩
 . obtain⟨q1,q2,q3⟩:=I.pin p hp;exact⟨q1,nn _ q2,q3⟩
 . have e':H b=some u:=by
    have e:(if b=a then none else H b)=some u:=e;split at e
    . cases e
    . exact e
   exact(I.hok b u e').stay (λ_ _ _ q=>q) (λc q=>nt _ _ q (λ_ z=>nomatch z)) λc xs q=>nt _ _ q (λ_ z=>nomatch z)
end
end L2
namespace L2
open PySem PySem.Spec PyProof.Rows PySem.W
abbrev veB:List Value:=[.type "ValueError",.type "Exception",.type "BaseException",.type "object"]
def zP(K:PySem.W.Frag)(C:Addr):Bool:=match K.lookup C with
 |some ⟨.type "type",_,.cls cd,sl⟩=>(match cd.mro,sl.toList with
  |.ref C'::bm,[_,_,_,_,some (.builtin n),_]=>C'==C&&n=="ValueError.__new__"&&!cd.hasDel&&cd.hasDict&&tailIn K veB bm
  |_,_=>false)
 |_=>false
def au5:List Value->Bool
 |.ref _::r=>au5 r
 |l=>l==veB
theorem ad9(self:Value):∀{l:List Value},au5 l=true->refuseLoop self "__setattr__" l=pure ()
 |[],e=>by cases e
 |v::r,e=>by
  cases v with
  |ref c=>rw[refuseLoop_ref];exact ad9 self (l:=r) e
  |type n=>rw[beq_iff_eq.mp (show(Value.type n::r==veB)=true from e)];exact PySem.F.store_ValueError.passes self
  |_=>exact absurd (beq_iff_eq.mp (show(_::r==veB)=true from e)) (by simp[veB])
section
variable {prog : Program} {w : World} {A : Around} {E : Value → Shared → Prop} {h : Heap} {g : Array GenState} {d : Drawn} {t : Nat} {os : OsState} {K : PySem.W.Frag} {C : Addr}
theorem an1(X:K.In h)(q:zP K C=true):∃nm qn N bs bm hdct sn sub ab col dd k0 k1 k2 k3 k5,h.get? C=some (excClassObj nm qn C N bs bm hdct sn sub ab col dd k0 k1 k2 k3 k5 "ValueError.__new__")/\OwnTail h veB bm/\hdct=true/\∃cd,clsIn K C=some cd/\cd.mro=.ref C::bm/\cd.hasDict=true:=by
 unfold zP at q;split at q
 . rename_i dd cd sl ho;split at q
   . rename_i C' bm k0 k1 k2 k3 n k5 hm hs;simp only[Bool.and_eq_true,beq_iff_eq,Bool.not_eq_true']at q;obtain⟨⟨⟨⟨rfl,rfl⟩,hdel⟩,hdc⟩,ht⟩:=q;have hcd:clsIn K C'=some cd:=by unfold clsIn;rw[ho]
     obtain⟨nm,bs,mro,ns,qn,hd,sn,sub,ab,col,del⟩:=cd;dsimp only at hm hdel hdc;subst hm hdel hdc;have hsl:sl=#[k0,k1,k2,k3,some (.builtin "ValueError.__new__"),k5]:=by obtain⟨l⟩:=sl;simp only at hs;rw[hs]
     subst hsl;exact⟨nm,qn,ns,bs,bm,true,sn,sub,ab,col,dd,k0,k1,k2,k3,k5,X _ _ ho,tail_of_in X ht,rfl,_,hcd,rfl,rfl⟩
   . cases q
 . cases q
theorem cu4{rest:List Value}{fI:Addr}{Q:Fin->Shared->Prop}(X:K.In h)(hC:zP K C=true)(hi:findIn K (.ref C) "__init__"=some (some (.ref fI)))(hf:typeIn K (.ref fI)=some (.type "function"))(hrest:rest.length<=sizeLine)
 (hq:wpAny (model prog w) A (call (.ref fI) (.ref (h.objs.size+1)::rest)) (λr s'=>r=.none/\Q (.done (.ret (.ref (h.objs.size+1)))) s') E ⟨((h.push {cls:=.type "tuple",data:=.seq rest.toArray}).push {cls:=.ref C,data:=.fields #[.ref h.objs.size,.none,.none,.none,.bool false,.none]}),g,d,t,os⟩):
 wpAny (model prog w) A (Builtin.«type.__call__» ⟨.ref C::rest,[]⟩) Q E ⟨h,g,d,t,os⟩:=by
 obtain⟨nm,qn,N,bs,bm,hdct,sn,sub,ab,col,dd,k0,k1,k2,k3,k5,hC,T,-⟩:=an1 X hC;have F:=PySem.F.excBase_ValueError;repeat(first|with_reducible refine wpAny_loadPart_at hC ?_|with_reducible refine wpAny_madeBy_exc hC ?_|wp_step)
 refine codeAny_call_builtin_code (Code.quiet_builtin _ F.quiet) (wpAny_check_new_subT F T hC ?_);refine codeAny_exc_new_subT F T hC ?_ hrest;show wpAny _ _ _ _ _ _;have kp:∀b o,h.get? b=some o->((h.push {cls:=.type "tuple",data:=.seq rest.toArray}).push {cls:=.ref C,data:=.fields #[.ref h.objs.size,.none,.none,.none,.bool false,.none]}).get? b=some o:=λb o e=>Heap.get?_push_of_some _ (Heap.get?_push_of_some _ e);have hC₁:=kp _ _ hC;have hget:((h.push {cls:=.type "tuple",data:=.seq rest.toArray}).push {cls:=.ref C,data:=.fields #[.ref h.objs.size,.none,.none,.none,.bool false,.none]}).get? (h.objs.size+1)=some {cls:=.ref C,data:=.fields #[.ref h.objs.size,.none,.none,.none,.bool false,.none]}:=by heap_get
 have hcC:(Value.ref C::bm).contains (.ref C)=true:=by simp
 unfold isInstance;repeat(first|with_reducible refine wpAny_loadPart_at hget ?_|(with_reducible refine wpAny_isSubtype_exc hC₁ ?_;rw[hcC])|wp_step)
 show wpAny _ _ (typeLookup (.ref C) _) _ _ _;refine(looks_findIn (X.keeps kp) hi).here (wpAny_holding (wpAny_bind ((bind_fn (X.keeps kp) _ hf).here ?_)));refine wpAny_bind (wpAny_mono hq (λr s' hr=>?_) λ_ _ x=>x);obtain⟨rfl,hQ⟩:=hr
 wp_walk
 exact hQ
theorem cc2{rest:List Value}{fI:Addr}{Q:Value->Shared->Prop}(X:K.In h)(hC:zP K C=true)(hi:findIn K (.ref C) "__init__"=some (some (.ref fI)))(hf:typeIn K (.ref fI)=some (.type "function"))(hrest:rest.length<=sizeLine)
 (hq:wpAny (model prog w) (A.under (.builtin "type.__call__" ⟨.ref C::rest,[]⟩)) (call (.ref fI) (.ref (h.objs.size+1)::rest)) (λr s'=>r=.none/\Q (.ref (h.objs.size+1)) s') E ⟨((h.push {cls:=.type "tuple",data:=.seq rest.toArray}).push {cls:=.ref C,data:=.fields #[.ref h.objs.size,.none,.none,.none,.bool false,.none]}),g,d,t,os⟩):
 wpAny (model prog w) A (call (.ref C) rest) Q E ⟨h,g,d,t,os⟩:=by
 have hC':=hC;obtain⟨nm,qn,N,bs,bm,hdct,sn,sub,ab,col,dd,k0,k1,k2,k3,k5,hC,T,-⟩:=an1 X hC;have f1:=tc_lookup;have f2:=tc_bind (.ref C);have hT:(⟨h,g,d,t,os⟩:Shared).TypeIs (.ref C) "type":=⟨_,hC,rfl⟩;refine wpAny_call (codeAny_of_tree ?_);show wpAny _ _ (callAny (.ref C) _) _ _ _;repeat(any_goals(first|assumption|with_reducible refine wpAny_loadPart_at hC ?_|wp_step))
 refine⟨rfl,?_⟩;refine codeAny_call_builtin_at (Code.quiet_builtin _ (by decide+kernel)) entry_typeCall (wpAny_check_type_call_sub hC (cu4 (hrest:=hrest) X hC' hi hf ?_));exact hq
end
end L2
namespace L2
open PySem PySem.Spec PyProof.Rows PySem.W
structure ErrG (K:PySem.W.Frag) (C:Addr):Prop where
 cls:zP K C=true
 refs:∃cd,clsIn K C=some cd/\au5 cd.mro=true/\cd.mro.contains (.type "object")=true/\cd.mro.contains (.type "BaseException")=true
 ga:findIn K (.ref C) "__getattribute__"=some (some (.builtin "BaseException.__getattribute__"))
 gt:findIn K (.ref C) "__getattr__"=some none
 ca:findIn K (.ref C) "__class__"=some (some (.builtin "object.__class__"))
 hn:specialIn K (.builtin "object.__class__") "__get__"=some (some (.builtin "getset_descriptor.__get__"))
 htk:takesIn K (.builtin "object.__class__")=some true
 hm:mroIn K C (.type "object")=some true
structure ErrF (K:PySem.W.Frag) (C:Addr) (f:Str):Prop extends ErrG K C where
 sa:findIn K (.ref C) "__setattr__"=some (some (.builtin "object.__setattr__"))
 no:findIn K (.ref C) f=some none
section
variable {prog : Program} {w : World} {A : Around} {E : Value → Shared → Prop} {s : Shared} {K : PySem.W.Frag} {C x : Addr} {f : Str} {ox : Obj} {v : Value}
theorem ek4{Q:Unit->Shared->Prop}(X:K.In s.heap)(F:ErrF K C f)(hx:s.heap.get? x=some ox)(hc:ox.cls=.ref C)(hd:ox.dict=none){vs:Array Value}(hda:ox.data=.fields vs)
 (h:∀h',h'.get? x=some {ox with dict:=some s.heap.objs.size}->h'.Ns1 s.heap.objs.size (λy=>if y=f then some v else none)->(∀b o,b≠x->s.heap.get? b=some o->h'.get? b=some o)->Q () {s with heap:=h',toks:=s.toks+2}):
 wpAny (model prog w) A (setAttr (.ref x) f v) Q E s:=by
 have J:InstAt s.heap x ox C none:=⟨hx,hc,by unfold notCls;rw[hda],by rw[hd];trivial⟩;obtain⟨cd,hcd,hr,ho,-⟩:=F.refs;have ne:cd.mro.isEmpty=false:=by cases q:cd.mro with|nil=>rw[q]at hr;cases hr|cons _ _=>rfl
 refine PySem.W.set_plain X J F.sa ?_;have SF:=PySem.F.store_object;have sub:Looks (model prog w) s.heap (isInstance (.ref x) (.type "object")) true:=J.type.andThen (looks_mroIn X (by unfold mroIn;rw[hcd,Option.bind_some,if_neg (by rw[ne];decide),ho]));refine codeAny_call_builtin SF.slot.plain SF.entry (@check_slot (model prog w) _ _ {s with toks:=s.toks+1} "object.__setattr__" "object" "__setattr__" (.ref x) [.str f s.toks,v] [] _ SF.kind SF.split sub (SF.args (.ref x) (.str f s.toks) v) ?_);have hm:Looks (model prog w) s.heap (mroOf (.ref C)) cd.mro:=(looks_clsIn X hcd).andThen .now;have J':InstAt ({s with toks:=s.toks+1}:Shared).heap x ox C none:=J;rw[osa_eq,refuse_eq];refine wpAny_bind (wpAny_bind (Looks.here (s:={s with toks:=s.toks+1}) J'.type (wpAny_bind (Looks.here (s:={s with toks:=s.toks+1}) hm ?_))));rw[ad9 _ hr];refine wpAny_pure (wpAny_bind (Looks.here (s:={s with toks:=s.toks+1}) J'.type (wpAny_bind (Looks.here (s:={s with toks:=s.toks+1}) (looks_findIn X F.no) (wpAny_bind (wpAny_pure ?_))))));obtain⟨nm,qn,N,bs,bm,hdct,sn,sub,ab,col,dd,k0,k1,k2,k3,k5,hC,T,hh,cd',hcd',hmr,hdc⟩:=an1 X F.cls;rw[hcd]at hcd';cases hcd';obtain⟨oc,od,odt,osl⟩:=ox;dsimp only at hc hd hda;subst hc hd hda;refine wpAny_bind (wpAny_pure (wpAny_bind (wpAny_bind (wpAny_loadPart hx (wpAny_bind (Looks.here (s:={s with toks:=s.toks+1}) (looks_clsIn X hcd) ?_))))));rw[hdc];have hx₁:(s.heap.push {cls:=.type "dict",data:=.dict #[]}).get? x=some ⟨.ref C,none,.fields vs,osl⟩:=Heap.get?_push_of_some _ hx;have hxs:x≠s.heap.objs.size:=Nat.ne_of_lt (Heap.lt_size hx);have hfr:=(Heap.get?_some_iff.mp hx).2;rw[if_neg (by decide)];show wpAny _ _ (do let d<-alloc {cls:=.type "dict",data:=.dict #[]};update x λo=>{cls:=o.cls,dict:=some d,data:=o.data,slots:=o.slots};(pure (some d):Sem (Option Addr))) _ _ _;refine wpAny_bind (wpAny_alloc (wpAny_bind (wpAny_update (s:={s with toks:=s.toks+1,heap:=s.heap.push _}) hx₁ (wpAny_pure ?_))));have hgd:((s.heap.push {cls:=.type "dict",data:=.dict #[]}).update x λo=>{cls:=o.cls,dict:=some s.heap.objs.size,data:=o.data,slots:=o.slots}).get? s.heap.objs.size=some {cls:=.type "dict",data:=.dict #[]}:=
  (Heap.get?_update_ne _ _ _ _ hxs.symm).trans (Heap.get?_push_at rfl rfl)
 have hnd:((s.heap.push {cls:=.type "dict",data:=.dict #[]}).update x λo=>{cls:=o.cls,dict:=some s.heap.objs.size,data:=o.data,slots:=o.slots}).Ns s.heap.objs.size (λ_=>none):=
  ⟨_,#[],_,hgd,rfl,λe he=>absurd he (by simp),λ_=>rfl⟩
 show wpAny _ _ (Builtin.ObjectAttr.storeInDict s.heap.objs.size (.str f s.toks) f v) _ _ _;unfold Builtin.ObjectAttr.storeInDict Builtin.ObjectAttr.newKeyGuard;refine wpAny_bind (wpAny_pure (wpAny_bind (wpAny_nsSet1 (s:={s with toks:=s.toks+1,heap:=_}) (Heap.Ns1.of_empty hnd) λh' hn' hs=>?_)));obtain⟨oD,esD,epD,hoD,hdD,hcD⟩:=hn'.count (Within.cons f v Within.nil);refine wpAny_bind (wpAny_lookBehind hoD (by rw[hdD];exact pastItsLine_dict (Nat.le_trans hcD (by rw[List.length_cons,List.length_nil,sizeLine_eq];omega))) ?_);refine wpAny_pure (h h' ?_ hn' λb o hb e=>?_)
 . exact(hs.2 x hxs).trans (Heap.get?_update_self _ hx₁ rfl)
 . exact(hs.2 b (Nat.ne_of_lt (Heap.lt_size e))).trans ((Heap.get?_update_ne _ _ _ _ hb).trans (Heap.get?_push_of_some _ e))
theorem bc8{od:Option Obj}{name:Str}{tk:Tok}{fill expr:Bool}{Q:Value->Shared->Prop}(X:K.In s.heap)(G:ErrG K C)(J:InstAt s.heap x ox C od)
 (bN:∀R:Result->Shared->Prop,R (.ok (.ret v)) s->wpAny (model prog w) A.in1 (Builtin.«object.__getattribute__» ⟨[.ref x,.str name tk],[]⟩) (λbN s'=>match bN with|.done f=>R (.ok f) s'|.again c'=>c'.quiet=true/\codeAny (model prog w) A c' R s') (λe s'=>R (.error e) s') s)
 (hh:handedIn v=true)(h:Q v s):wpAny (model prog w) A (getAttrBy (.ref x) (.str name tk) fill expr) Q E s:=by
 obtain⟨cd,hcd,hr,ho,hb⟩:=G.refs;have ne:cd.mro.isEmpty=false:=by cases q:cd.mro with|nil=>rw[q]at hr;cases hr|cons _ _=>rfl
 have L0:=J.type (M:=model prog w);have L1:=looks_findIn (M:=model prog w) X G.ga;have L2:=looks_findIn (M:=model prog w) X G.gt;have sub:Looks (model prog w) s.heap (isInstance (.ref x) (.type "BaseException")) true:=J.type.andThen (looks_mroIn X (by unfold mroIn;rw[hcd,Option.bind_some,if_neg (by rw[ne];decide),hb]));have hga:bindSpecial (.builtin "BaseException.__getattribute__") (.ref x)=pure (.builtin "BaseException.__getattribute__",[.ref x]):=PySem.F.excAttr_ValueError.ga.bind _;have hx0:(expr&&onTheHeap (Value.builtin "BaseException.__getattribute__"))=false:=by cases expr<;>rfl
 unfold getAttrBy;refine wpAny_holding (wpAny_bind (L0.here (wpAny_bind (L1.here ?_))));dsimp only;rw[if_neg (by rw[Bool.and_eq_true];rintro⟨_,q⟩;exact absurd q (by decide+kernel))];unfold getAttrByItsOwn;refine wpAny_bind (show wpAny _ _ (typeLookup (.ref C) "__getattr__") _ _ _ from L2.here ?_);unfold callGetattribute boundAndCalled;rw[hx0];have bN:codeAny (model prog w) A (.call (.builtin "BaseException.__getattribute__") ⟨[.ref x,.str name tk],[]⟩) (λr s'=>r=.ok (.ret v)/\s'=s) s:=
  codeAny_call_builtin PySem.F.excAttr_ValueError.ga.plain PySem.F.entry_bexc_ga (@check_slot (model prog w) _ _ s "BaseException.__getattribute__" "BaseException" "__getattribute__" (.ref x) [.str name tk] [] _ (by decide+kernel) (by decide+kernel) sub (PySem.F.args_bexc_ga _ _) (bN (λr s'=>r=.ok (.ret v)/\s'=s) ⟨rfl,rfl⟩))
 obtain⟨h0,g,d,t,os⟩:=s;repeat(any_goals(first|assumption|wp_step))
 refine codeAny_mono bN λr s' ⟨e1,e2⟩=>?_;subst e1 e2;dsimp only;repeat(any_goals(first|assumption|wp_step))
 show wpAny _ _ (handedOut v) _ _ _;rw[handedOut_of hh];exact wpAny_pure h
theorem eh5{dx:Addr}{mA:Str->Option Value}{expr:Bool}{Q:Value->Shared->Prop}(X:K.In s.heap)(F:ErrF K C f)(hx:s.heap.get? x=some ox)(hc:ox.cls=.ref C)(hd:ox.dict=some dx){vs:Array Value}(hda:ox.data=.fields vs)
 (hN:s.heap.Ns1 dx mA)(hv:mA f=some v)(hh:handedIn v=true)(h:Q v {s with toks:=s.toks+1}):wpAny (model prog w) A (getAttr (.ref x) f expr) Q E s:=by
 obtain⟨od,hod,hl⟩:=av9 hN;have J:InstAt s.heap x ox C (some od):=⟨hx,hc,by unfold notCls;rw[hda],by rw[hd];exact hod⟩;obtain⟨cd,hcd,-⟩:=F.refs;obtain⟨nm,qn,N,bs,bm,hdct,sn,sub',ab,col,dd,k0,k1,k2,k3,k5,hC,T,hh',cd',hcd',hmr,hdc⟩:=an1 X F.cls;rw[hcd]at hcd';cases hcd';have hhd:hasDictIn K C=true:=by unfold hasDictIn;rw[hcd];exact hdc
 have hf:findObj K C (some od) f=some (.value v):=findObj_own hhd F.no rfl (by rw[hl,hv]);unfold getAttr;refine wpAny_bind (wpAny_mkText (bc8 (s:={s with toks:=s.toks+1}) X F.toErrG J (λR hR=>?_) hh h));unfold Builtin.«object.__getattribute__»;exact wpAny_bind (wpAny_pure (wpAny_bind (wpAny_pure (wpAny_bind (Looks.here (s:={s with toks:=s.toks+1}) J.type (wpAny_bind (Looks.here (s:={s with toks:=s.toks+1}) (looks_find X J hf) (wpAny_pure hR))))))))
theorem ec5{od:Option Obj}{Q:Option Value->Shared->Prop}(X:K.In s.heap)(G:ErrG K C)(J:InstAt s.heap x ox C od)(h:Q (some (.ref C)) {s with toks:=s.toks+1}):wpAny (model prog w) A (getAttr? (.ref x) "__class__") Q E s:=by
 obtain⟨cd,hcd,-⟩:=G.refs;have hf:findObj K C od "__class__"=some (.bind (.builtin "getset_descriptor.__get__") (.builtin "object.__class__")):=by unfold findObj;rw[hcd,Option.bind_some,G.ca,Option.bind_some];simp[G.hn,G.htk]
 unfold getAttr? getAttrBy?;refine wpAny_bind (wpAny_mkText (wpAny_bind (wpAny_attempt (bc8 (s:={s with toks:=s.toks+1}) (v:=.ref C) X G J (λR hR=>?_) rfl (wpAny_pure h)))));unfold Builtin.«object.__getattribute__»;refine wpAny_bind (wpAny_pure (wpAny_bind (wpAny_pure (wpAny_bind (Looks.here (s:={s with toks:=s.toks+1}) J.type (wpAny_bind (Looks.here (s:={s with toks:=s.toks+1}) (looks_find X J hf) ?_)))))));show wpAny _ _ (holding [.builtin "object.__class__"] (call (.builtin "getset_descriptor.__get__") [.builtin "object.__class__",.ref x,.ref C])>>=ret) _ _ _;exact wpAny_bind (wpAny_holding (wpAny_call (class_get (s:={s with toks:=s.toks+1}) X J G.hm (wpAny_pure hR))))
theorem cs7:ErrG K C->KitX K (.ref x) (.ref C) (λh=>∃ox od,InstAt h x ox C od):=λG=>{
 ty:=λ_ _ _ ⟨_,_,I⟩=>I.type
 it:=λ_ _ X _=>by
  obtain⟨cdD,hcD,_⟩:=G.refs
  unfold clsIn at hcD
  split at hcD
  . rename_i c' d' cd' sl' ho
    intro A' Q' E' s' k q
    unfold isType loadHead
    exact wpAny_bind (wpAny_loadPart (k _ _ (X _ _ ho)) (wpAny_pure q))
  . cases hcD
 ne:=λh tp dd its n sl X htp=>by
  obtain⟨cdD,hcD,_⟩:=G.refs
  refine Bool.eq_false_iff.mpr λq=>?_
  have e:C=tp:=Value.ref.inj (beq_iff_eq.mp q)
  subst e
  unfold clsIn at hcD
  split at hcD
  . rename_i c' d' cd' sl' ho
    have z:=(X _ _ ho).symm.trans htp
    cases z
  . cases hcD
 ca:=λX ⟨_,_,I⟩ k=>ec5 X G I k}
end
def bf9(h:Heap)(e C:Addr)(dx:Option Addr):Prop:=∃oe vs,h.get? e=some oe/\oe.cls=.ref C/\oe.dict=dx/\oe.data=.fields vs
abbrev mP(e C:Addr)(dx:Option Addr):HO:=.ext λh=>bf9 h e C dx
abbrev uY(e C:Addr)(dx:Option Addr):HO:=.ext λh=>ErrN h e C dx
theorem ErrN.o{h:Heap}{e C:Addr}{dx:Option Addr}(x:ErrN h e C dx):bf9 h e C dx:=by obtain⟨oe,vs,a0,h1,h2,h3,h4,_⟩:=x;exact⟨oe,vs,h1,h2,h3,h4⟩
theorem ae7{P:Program}{w:World}{H:Hp}{h:Heap}{e C:Addr}{dx:Option Addr}(x:bf9 h e C dx):ObjOk P w H h e (mP e C dx):=by obtain⟨oe,vs,h1,h2,h3,h4⟩:=id x;exact⟨x,⟨oe,h1⟩,λa b ⟨o,v,q1,q⟩ k=>⟨o,v,k _ q1,q⟩⟩
theorem bz7{P:Program}{w:World}{H:Hp}{h:Heap}{e C:Addr}{dx:Option Addr}(x:ErrN h e C dx):ObjOk P w H h e (uY e C dx):=by obtain⟨oe,vs,a0,h1,h2⟩:=id x;exact⟨x,⟨oe,h1⟩,λa b ⟨o,v,a0,q1,q⟩ k=>⟨o,v,a0,k _ q1,q⟩⟩
def dk0(C:Addr)(f:Str):Sp:=λvs H Q _=>∃e v,vs=[.ref e,v]/\H e=some (uY e C none)/\∀dx,H dx=none->dx≠e->Q .non (upd (upd H dx (.xd [(f,v)])) e (uY e C (some dx)))
section
variable {X : Cx} {C : Addr} {f : Str}
def ep2(C:Addr)(f:Str):TS:=λD σ H=>∃e v,σ[0]?=some (some (.ref e))/\σ[1]?=some (some v)/\H e=some (uY e C none)/\∀dx,H dx=none->dx≠e->D.nx σ (upd (upd H dx (.xd [(f,v)])) e (uY e C (some dx)))
theorem dy4{a b:Str}{p1 p2 p3 p4:Pos}(F:ErrF X.K C f)(h0:PE X (.Name a p1) (xA 0))(h1:PE X (.Name b p3) (xA 1))(hs:swapsWith (.Name b p3) (some (.Attribute (.Name a p1) f p2)) p4.line X.env=pure false):
 PS X (.Assign [.Attribute (.Name a p1) f p2] (.Name b p3) p4) (ep2 C f):=by
 intro pins s σ H D I ⟨e,v,q0,q1,he,h⟩;refine plainObj_wpAny_Assign_Attribute (bW (h1 s σ H (λx H'=>x=v/\H'=H) I ⟨v,q1,rfl,rfl⟩) λu s1 ⟨y,H1,I1,ry,e1,e2⟩=>bW (h0 s1 σ H1 (λx H'=>x=.ref e/\H'=H1) I1 ⟨_,q0,rfl,rfl⟩) λov s2 ⟨x,H2,I2,rx,e3,e4⟩=>?_) hs;subst e1 e3 e4 e2;obtain rfl:ov=Value.ref e:=rx;obtain⟨⟨oe,vs,a0,k1,k2,k3,k4,k5⟩,-⟩:=I2.hok e _ he;refine ek4 I2.kIn F k1 k2 k3 k4 λh' x1 x2 x3=>?_;have lt:=Heap.lt_size k1;have hdn:H2 s2.heap.objs.size=none:=I2.hok.fresh (Nat.le_refl _);have hne:s2.heap.objs.size≠e:=λz=>absurd lt (by rw[z];exact Nat.lt_irrefl _);refine⟨σ,_,?_,h s2.heap.objs.size hdn hne⟩;have new:ErrN h' e C (some s2.heap.objs.size):=⟨_,vs,a0,x1,k2,rfl,k4,k5⟩;refine I2.un (t':=s2.toks+2) (h':=h') ⟨λb o q n _ _=>x3 b o (λz=>by rw[z,he]at n;cases n) q,λb o q n _ _=>⟨o.slots,x3 b o (λz=>by rw[z,he]at n;cases n) q⟩,λb o q n _=>?_,λb o q _=>?_,λb xs q=>?_,λb o u q=>?_,λb ps q=>⟨#[],?_⟩⟩ λb u q=>?_
 . have b1:b≠e:=λz=>by rw[z,he]at n;cases n
   have b2:b≠s2.heap.objs.size:=Nat.ne_of_lt (Heap.lt_size q);rw[bA b1,bA b2];exact n
 . by_cases z:b=e
   . rw[z];exact⟨_,x1⟩
   . exact⟨o,x3 b o z q⟩
 . rw[bA (ah5 q he (λz=>nomatch z)),bA (cU q hdn)];exact q
 . rw[bA (ah5 q he (λz=>nomatch z)),bA (cU q hdn)];exact q
 . rw[bA (ah5 q he (λz=>nomatch z)),bA (cU q hdn),q];simp
 . by_cases z:b=e
   . subst z;rw[cJ]at q;cases q;exact bz7 new
   . rw[bA z]at q;by_cases z2:b=s2.heap.objs.size
     . subst z2;rw[cJ]at q;cases q;refine⟨_,x2,λg=>?_⟩;show RelO (List.lookup g [(f,y)]) (if g=f then some u else none);by_cases z3:g=f
       . subst z3;simp[List.lookup];exact ry
       . have:(g==f)=false:=by simpa using z3
         simp[List.lookup,this,z3,RelO]
     . rw[bA z2]at q;refine(I2.hok b u q).stay (λc o hc e1=>x3 c o (λz3=>?_) e1) (λc e1=>?_) λc xs e1=>?_
       . rcases hc with hc|hc
         . exact z (hc.symm.trans z3)
         . rw[z3,he]at hc;cases hc
       . rw[bA (ah5 e1 he (λz=>nomatch z)),bA (cU e1 hdn)];exact e1
       . rw[bA (ah5 e1 he (λz=>nomatch z)),bA (cU e1 hdn)];exact e1
end
theorem cs5{P:Program}{w:World}{K:PySem.W.Frag}{mg:Str->Option Value}{base:Heap}{C g:Addr}{f qual b:Str}{st:Stmt}{fd:FuncData}{p1 p2 p3 p4:Pos}(F:Fun K "__init__" qual st g fd)(E:ErrF K C f)(S:aW ["self",b] ["self",b] (aL st))
 (hb:cK st=[.Assign [.Attribute (.Name "self" p1) f p2] (.Name b p3) p4])(hd:(b==("__debug__":Str))=false)(hc:(b==("__classdict__":Str))=false)(hsw:∀env,swapsWith (.Name b p3) (some (.Attribute (.Name "self" p1) f p2)) p4.line env=pure false):FnOk P w K mg base lN 1 g fd ["self",b] (dk0 C f):=by
 have v0:Vis (aL st) "self":=(S.par "self" List.mem_cons_self).imp_right .inl;have v1:Vis (aL st) b:=(S.par b (List.mem_cons_of_mem _ List.mem_cons_self)).imp_right .inl;refine F.ok (k:=0) S (λvs H Q E h=>by obtain⟨_,_,rfl,_⟩:=h;rfl) λcdv A outer s H vs Q E' hr h=>⟨_,hb▸aM (dy4 (X:=(lH lN P w K mg base ["self",b] qual (aL st) g cdv A outer s H E').nox) E (bp4 (i:=0) rfl v0 rfl rfl) (bp4 (i:=1) rfl v1 hd hc) (hsw _)),?_⟩;obtain⟨e,v,rfl,he,h⟩:=h;exact⟨e,v,rfl,rfl,he,h⟩
end L2
namespace L2
open PySem PySem.Spec PyProof.Rows PySem.W
section
variable {M : Model} {A : Around} {E : Value → Shared → Prop} {s : Shared} {env : Env} {C : Addr} {K : PySem.W.Frag}
theorem ck2{x:Sem Value}{Q:Flow->Shared->Prop}(hh:A.handled=none)(hK:zP K C=true)
 (h:wpAny M A x (λv s₁=>∃e dx,v=.ref e/\K.In s₁.heap/\ErrN s₁.heap e C dx/\E (.ref e) s₁) E s):wpAny M A (raiseStmt env (some x) none) Q E s:=by
 unfold raiseStmt;refine wpAny_bind (wpAny_mono h (λv s₁ h₁=>?_) λ_ _ x=>x);obtain⟨e,dx,rfl,hI,⟨oe,vs,a0,he,hc,hd,hda,h1,h0⟩,hE⟩:=h₁;obtain⟨hp,g,d,tk,os⟩:=s₁;obtain⟨nm,qn,N,bs,bm,hdct,sn,sub,ab,col,dd,k0,k1,k2,k3,k5,hC,T,-⟩:=an1 hI hK;have hcB:(Value.ref C::bm).contains (.type "BaseException")=true:=by rw[List.contains_cons,T.hasType PySem.F.excBase_ValueError.hasBase,Bool.or_true]
 repeat(first|with_reducible refine wpAny_field he hda h1 ?_|(with_reducible refine wpAny_loadPart_at he ?_;rw[hc])|with_reducible refine wpAny_loadPart_at hC ?_|(with_reducible refine wpAny_isSubtype_exc hC ?_;rw[hcB])|wp_step)
 exact wpAny_raiseNew_none hh hE
end
structure vN (P:Program) (w:World) (K:PySem.W.Frag) (mg:Str->Option Value) (base:Heap) (x:Str) (C:Addr) (f:Str):Prop where
 flds:ErrF K C f
 glob:mg x=some (.ref C)
 kp:keepIn K (.ref C)=true
 init:∃g fd b,findIn K (.ref C) "__init__"=some (some (.ref g))/\isFn K (.ref g)=true/\FnOk P w K mg base lN 1 g fd ["self",b] (dk0 C f)/\Binds K fd ["self",b] []
structure zN (K:PySem.W.Frag) (mg:Str->Option Value) (x:Str) (C:Addr):Prop where
 g:ErrG K C
 glob:mg x=some (.ref C)
 kp:keepIn K (.ref C)=true
 exc:excIn K C veB "ValueError.__new__"=true
theorem dk2{K:PySem.W.Frag}{h:Heap}{C:Addr}(X:K.In h)(q:excIn K C veB "ValueError.__new__"=true):∃bm N nm qn bs hdct sn sub ab col dd k0 k1 k2 k3 k5 mN,h.get? C=some (excClassObj nm qn C N bs bm hdct sn sub ab col dd k0 k1 k2 k3 k5 "ValueError.__new__")/\h.Ns N mN/\mN "__init__"=none/\OwnTail h veB bm:=by
 unfold excIn at q;split at q
 . rename_i dd cd sl ho;split at q
   . rename_i C' bm k0 k1 k2 k3 n k5 hm hs;simp only[Bool.and_eq_true,beq_iff_eq,Bool.not_eq_true']at q;obtain⟨⟨⟨⟨⟨rfl,rfl⟩,hdel⟩,ht⟩,hok⟩,hni⟩:=q;obtain⟨nm,bs,mro,ns,qn,hd,sn,sub,ab,col,del⟩:=cd;dsimp only at hm hdel hok hni;subst hm hdel;have hsl:sl=#[k0,k1,k2,k3,some (.builtin "ValueError.__new__"),k5]:=by obtain⟨l⟩:=sl;simp only at hs;rw[hs]
     subst hsl;exact⟨bm,ns,nm,qn,bs,hd,sn,sub,ab,col,dd,k0,k1,k2,k3,k5,_,X _ _ ho,.of_isNs (isNs_of_in X hok),nsMap_none_of_in X hok hni,tail_of_in X ht⟩
   . cases q
 . cases q
section
variable {X : Cx} {pins : List (Addr × Obj)} {σ : St} {H : Hp} {s : Shared} {C : Addr} {f x : Str} {v : V} {u : Value} {Q : Value → Shared → Prop} {E : Value → Shared → Prop}
theorem cl6(I:Inv X pins σ H s)(R:vN X.prog X.w X.K X.mg X.base x C f)(hr:Room 2 X.A)(r:RelV v u)
 (h:∀s' e dx,s.heap.get? e=none->H e=none->H dx=none->dx≠e->ErrN s'.heap e C (some dx)->Inv X pins σ (upd H dx (.xd [(f,v)])) s'->Q (.ref e) s'):wpAny (model X.prog X.w) X.A (call (.ref C) [u]) Q E s:=by
 obtain⟨g,fd,b,hi,hf,G,hb⟩:=R.init;obtain⟨hh,gg,d,t,os⟩:=s;refine cc2 I.kIn R.flds.cls hi (beq_iff_eq.mp hf) (show 1<=sizeLine by decide) ?_;have hnew:ErrN ((hh.push {cls:=.type "tuple",data:=.seq [u].toArray}).push {cls:=.ref C,data:=.fields #[.ref hh.objs.size,.none,.none,.none,.bool false,.none]}) (hh.objs.size+1) C none:=
  ⟨_,_,_,by heap_get,rfl,rfl,rfl,rfl,rfl⟩
 have I2:Inv X pins σ (upd H (hh.objs.size+1) (uY (hh.objs.size+1) C none)) ⟨(hh.push {cls:=.type "tuple",data:=.seq [u].toArray}).push {cls:=.ref C,data:=.fields #[.ref hh.objs.size,.none,.none,.none,.bool false,.none]},gg,d,t,os⟩:=
  I.laid (s:=⟨hh,gg,d,t,os⟩) (t':=t) (a:=hh.objs.size+1) (λb u e=>Heap.get?_push_of_some _ (Heap.get?_push_of_some _ e)) (Nat.le_succ _) (bz7 hnew)
 have He:H (hh.objs.size+1)=none:=I.hok.fresh (Nat.le_succ _);have r2:Vals [V.ref (hh.objs.size+1),v] [Value.ref (hh.objs.size+1),u]:=.cons rfl (.cons r .nil);refine wpAny_call (codeAny_mono (G.run _ X.stack _ _ ⟨[Value.ref (hh.objs.size+1),u],[]⟩ [Value.ref (hh.objs.size+1),u] _
  (λx H3=>x=.non/\∃dx,upd H (hh.objs.size+1) (uY (hh.objs.size+1) C none) dx=none/\dx≠hh.objs.size+1/\H3=upd (upd (upd H (hh.objs.size+1) (uY (hh.objs.size+1) C none)) dx (.xd [(f,v)])) (hh.objs.size+1) (uY (hh.objs.size+1) C (some dx))) E0 (hr.make C [u] [])
  (I2.env0.make C [u] []) (by have:=hb ⟨_,gg,d,t,os⟩ [Value.ref (hh.objs.size+1),u] I2.kIn rfl;rwa[List.append_nil]at this) r2 ⟨_,_,rfl,cJ,λdx q1 q2=>⟨rfl,dx,q1,q2,rfl⟩⟩) λr s' hq=>?_)
 cases r with
 |error e=>exact hq.elim
 |ok fl=>
  cases fl with
  |ret u'=>
   obtain⟨v',H',I3,rv,ev,dx,q1,q2,q3⟩:=I2.after hq;subst ev q3;obtain⟨hn,-⟩:=I3.hok _ _ cJ;have I4:=I3.drop cJ;rw[bA q2]at q1;refine⟨rv,h s' _ dx (Heap.get?_none_of_le (Nat.le_succ _)) He q1 q2 hn ?_⟩;have:(λb=>if b=hh.objs.size+1 then none else upd (upd (upd H (hh.objs.size+1) (uY (hh.objs.size+1) C none)) dx (.xd [(f,v)])) (hh.objs.size+1) (uY (hh.objs.size+1) C (some dx)) b)=upd H dx (.xd [(f,v)]):=by
    funext b;by_cases z:b=hh.objs.size+1
    . subst z;rw[if_pos rfl,bA (Ne.symm q2),He]
    . rw[if_neg z,bA z];by_cases z2:b=dx
      . subst z2;rw[cJ,cJ]
      . rw[bA z2,bA z2,bA z]
   rw[this]at I4;exact I4
  |next=>exact False.elim hq
  |brk=>exact False.elim hq
  |cont=>exact False.elim hq
theorem bc4(I:Inv X pins σ H s)(R:zN X.K X.mg x C)
 (h:∀s' e,s.heap.get? e=none->H e=none->ErrN s'.heap e C none->Inv X pins σ H s'->Q (.ref e) s'):wpAny (model X.prog X.w) X.A (call (.ref C) []) Q E s:=by
 obtain⟨bm,N,nm,qn,bs,hdct,sn,sub,ab,col,dd,k0,k1,k2,k3,k5,mN,hC,hN,hni,T⟩:=dk2 I.kIn R.exc;obtain⟨hh,gg,d,t,os⟩:=s;refine wpAny_call_exc_subT PySem.F.excBase_ValueError T hC hN hni (λh' e m=>?_) (by decide);obtain⟨t1,h1,h2,h3⟩:=m.there;refine h _ e m.new ?_ ⟨_,_,_,h1,rfl,rfl,rfl,rfl,rfl⟩ (I.kept (s:=⟨hh,gg,d,t,os⟩) (t':=t) m.keeps);cases q:H e with
 |none=>rfl
 |some o=>obtain⟨ob,z⟩:=(I.hok e o q).there;exact absurd m.new (by rw[show hh.get? e=some ob from z];exact λz=>nomatch z)
end
section
variable {X : Cx} {C : Addr} {f x : Str} {np cpos pos : Pos} {e₀ : Expr} {ta : TA} {E : XK}
def dc1(C:Addr)(f:Str)(ta:TA):TE:=λσ H Q=>ta σ H λvs H1=>∃v,vs=[v]/\∀e dx,H1 e=none->H1 dx=none->dx≠e->Q (.ref e) (upd (upd H1 dx (.xd [(f,v)])) e (mP e C (some dx)))
def dl0(C:Addr):TE:=λ_ H Q=>∀e,H e=none->Q (.ref e) (upd H e (mP e C none))
def bd8(C:Addr)(E:XK):TS:=λ_ _ H=>E (.ref C) none H
theorem dl7{Q:Value->Shared->Prop}{R':List V->Hp->Prop}{pins:List (Addr×Obj)}{σ:St}{H:Hp}{s:Shared}(R:vN X.prog X.w X.K X.mg X.base x C f)(hr:Room 2 X.A)(hg:Gl X x)(ha:PA X [e₀] ta)(hdb:(x==("__debug__":Str))=false)(he:starEach [e₀] X.env=[(false,eval e₀ X.env)])(I:Inv X pins σ H s)
 (h:ta σ H R')(hq:∀vs H1 s1,Inv X pins σ H1 s1->R' vs H1->∃v,vs=[v]/\∀s' e dx,s1.heap.get? e=none->H1 e=none->H1 dx=none->dx≠e->ErrN s'.heap e C (some dx)->Inv X pins σ (upd H1 dx (.xd [(f,v)])) s'->Q (.ref e) s'):wpAny (model X.prog X.w) X.A (eval (.Call (.Name x np) [e₀] [] cpos) X.env) Q X.xe s:=by
 refine wpAny_Call_Name_kw (mL I hg R.glob ?_ hdb);refine PySem.W.callWith_K (h₀:=X.base) I.ok.mod.kin R.kp (bW (ha pins s σ H _ I h) λus s1 ⟨vs,H1,I1,r,q⟩=>⟨I1.kIn,?_⟩) he rfl;obtain⟨v,ev,q2⟩:=hq vs H1 s1 I1 q;subst ev;obtain⟨u,rfl,ru⟩:∃u,us=[u]/\RelV v u:=by cases r with|cons a b=>cases b with|nil=>exact⟨_,rfl,a⟩
 exact cl6 I1 R hr ru q2
theorem pP(R:vN X.prog X.w X.K X.mg X.base x C f)(hr:Room 2 X.A)(ha:PA X [e₀] ta)(hex:X.ex=[]:=by rfl)(hg:Gl X x:=by rfl)(hdb:(x==("__debug__":Str))=false:=by decide)(he:starEach [e₀] X.env=[(false,eval e₀ X.env)]:=by rfl):PE X (.Call (.Name x np) [e₀] [] cpos) (dc1 C f ta):=by intro pins s σ H Q I h;refine dl7 R hr hg ha hdb he I h λvs H1 s1 I1 ⟨v,ev,q⟩=>⟨v,ev,λs' e dx h1 h2 h3 h4 h5 I'=>⟨.ref e,_,Inv.trackE I1 h1 hex I' (by rw[bA (Ne.symm h4)];exact h2) (ae7 h5.o),rfl,q e dx h2 h3 h4⟩⟩
theorem xO(R:zN X.K X.mg x C)(hex:X.ex=[]:=by rfl)(hg:Gl X x:=by rfl)(hdb:(x==("__debug__":Str))=false:=by decide):PE X (.Call (.Name x np) [] [] cpos) (dl0 C):=by intro pins s σ H Q I h;refine wpAny_Call_Name_kw (mL I hg R.glob ?_ hdb);refine PySem.W.callWith_K0 I.kIn R.kp (bc4 I R λs' e h1 h2 h3 I'=>⟨.ref e,_,Inv.trackE I h1 hex I' h2 (ae7 h3.o),rfl,h e h2⟩)
theorem dd4{pins:List (Addr×Obj)}{σ:St}{H:Hp}{s:Shared}{e:Addr}(I:Inv X pins σ H s)(hex:X.ex=[])(h:s.heap.get? e=none):X.s₀.heap.get? e=none:=by
 cases q:X.s₀.heap.get? e with
 |none=>rfl
 |some o=>obtain⟨o',z⟩:=I.base.there e o q (by rw[hex];simp);rw[h]at z;cases z
theorem pT(R:zN X.K X.mg x C)(xe:XeOk X E)(hex:X.ex=[]:=by rfl)(hc:X.calm=true:=by rfl)(hg:Gl X x:=by rfl)(hdb:(x==("__debug__":Str))=false:=by decide):PS X (.Raise (some (.Call (.Name x np) [] [] cpos)) none pos) (bd8 C E):=by intro pins s σ H D I h;rw[arm_exec_Raise];refine wpAny_bind (wpAny_standAt (ck2 (I.ok.hd hc) R.g.cls (wpAny_bind (wpAny_mono ?_ (λv s₃ h₃=>wpAny_bind (wpAny_standAt (wpAny_pure h₃))) λ_ _ x=>x))));refine wpAny_Call_Name_kw (mL I hg R.glob ?_ hdb);exact PySem.W.callWith_K0 I.kIn R.kp (bc4 I R λs' e h1 h2 h3 I'=>⟨e,none,rfl,I'.kIn,h3,xe.new pins σ H s' e C none I' h2 (dd4 I hex h1) h3 h⟩)
end
end L2
namespace L2
open PySem PySem.Spec PyProof.Rows PySem.W
def af7(H:Hp)(dx:Option Addr)(fs:List (Str×V)):Prop:=(dx=none/\fs=[])\/∃d,dx=some d/\H d=some (.xd fs)
def az1:V->Value
 |.ref a=>.ref a
 |.ty n=>.type n
 |_=>.none
structure rK (K:PySem.W.Frag) (C:Addr) (D:V) (b:Bool):Prop where
 g:ErrG K C
 kit:kitOne K (.ref C) (az1 D)=some b
structure tJ (K:PySem.W.Frag) (D:V):Prop where
 rel:RelV D (az1 D)
 kit:kitOne K (.type "NoneType") (az1 D)=some false
def cy9(tab:List (Addr×Bool))(D:V):List V->Hp->VK->Prop:=λxs H Q=>∃v,xs=[v,D]/\((v=.non/\Q (.bl false) H)\/∃e C dx fs b,v=.ref e/\H e=some (mP e C dx)/\af7 H dx fs/\(C,b)∈tab/\Q (.bl b) H)
section
variable {X : Cx} {pins : List (Addr × Obj)} {σ : St} {H : Hp} {s : Shared}
theorem cy6{e C:Addr}{dx:Option Addr}{fs:List (Str×V)}(I:Inv X pins σ H s)(he:H e=some (mP e C dx))(hd:af7 H dx fs):∃ox od,InstAt s.heap e ox C od:=by
 obtain⟨⟨oe,vs,h1,h2,h3,h4⟩,-⟩:=I.hok e _ he;rcases hd with⟨rfl,-⟩|⟨d,rfl,hd⟩
 . exact⟨oe,none,h1,h2,by unfold notCls;rw[h4],by rw[h3];trivial⟩
 . obtain⟨ob,e2⟩:=(I.hok d _ hd).there;exact⟨oe,some ob,h1,h2,by unfold notCls;rw[h4],by rw[h3];exact e2⟩
theorem eQ{tab:List (Addr×Bool)}{D:V}(N:tJ X.K D)(hT:∀q∈tab,rK X.K q.1 D q.2):CallR X (.builtin "isinstance") (cy9 tab D):=by
 intro pins s σ H xs us Q I r h;obtain⟨v,rfl,h⟩:=h;obtain⟨u,c,rfl,rx,rD⟩:=r.two;obtain rfl:c=az1 D:=by have:=N.rel;cases D<;>first|exact rD.trans this.symm|(obtain⟨_,z⟩:=this;cases z)|(cases this)
 rcases h with⟨rfl,q⟩|⟨e,C,dx,fs,b,rfl,he,hd,hq,q⟩
 . cases(show u=Value.none from rx);exact kia_one kitx_none I.kIn True.intro N.kit (λz=>nomatch z) λtk=>⟨.bl false,H,I.tok _,rfl,q⟩
 . cases(show u=Value.ref e from rx);have o:=hT _ hq;exact kia_one (cs7 o.g) I.kIn (cy6 I he hd) o.kit (λz=>nomatch z) λtk=>⟨.bl b,H,I.tok _,rfl,q⟩
def dd1(K:PySem.W.Frag)(f:Str)(te:TE):TE:=λσ H Q=>te σ H λx H1=>∃e C d fs v,x=.ref e/\H1 e=some (mP e C (some d))/\H1 d=some (.xd fs)/\ErrF K C f/\fs.lookup f=some v/\Q v H1
theorem sA(K:PySem.W.Frag){o:Expr}{te:TE}{f:Str}{pos:Pos}(he:PE X o te)(hb:attributeBase o f X.env (eval o X.env)=eval o X.env:=by rfl)(hK:X.K=K:=by rfl):PE X (.Attribute o f pos) (dd1 K f te):=by subst hK;intro pins s σ H Q I h;refine be8 hb (bW (he s σ H _ I h) λu s1 ⟨x,H1,I1,rx,e,C,d,fs,v,ex,e1,e2,F,l,q⟩=>?_);subst ex;obtain rfl:u=Value.ref e:=rx;obtain⟨⟨oe,vs,h1,h2,h3,h4⟩,-⟩:=I1.hok e _ e1;obtain⟨mA,hN,hr⟩:=(show∃mA,s1.heap.Ns1 d mA/\∀f,RelO (fs.lookup f) (mA f) from I1.hok d _ e2);obtain⟨w,hw,rw'⟩:=RelO.some_of (v:=v) (o:=mA f) (by rw[<-l];exact hr f);exact eh5 I1.kIn F h1 h2 h3 h4 hN hw (at9 rw') ⟨v,H1,I1.tok _,rw',q⟩
end
end L2
namespace L2
open PySem PySem.Spec PyProof.Rows PySem.W
section
variable {X : Cx} {pins : List (Addr × Obj)} {σ : St} {H H' : Hp} {s s' : Shared} {B h' : Heap} {ea C : Addr} {dx : Option Addr} {a0 : Value}
theorem Inv.land(I:Inv X pins σ H s)(hex:X.ex=[])(F:Fly X.prog X.w X.stack H s C dx H' ea s')(c1:∀b o,s.heap.get? b=some o->b∉oR X.stack->∃o',B.get? b=some o')(c2:∀b u,H' b=some u->∃o,B.get? b=some o)
 (hB:B.StaysIn s'.heap)(hB':B.StaysIn h')(hup:s'.heap.UpToSlots h'):Inv X pins σ H' {s' with heap:=h'}:=by
 have fr:∀b o,s'.heap.get? b=some o->b∈oR X.stack->∃sl,h'.get? b=some {o with slots:=sl}:=λb o e hb=>by obtain⟨_,o1,e1,n1⟩:=I.stack.mem hb;obtain⟨sl1,e2⟩:=F.un.slot b o1 e1 (I.stkFree b hb) hb (by simp);rw[e]at e2;cases e2;exact hup b _ e n1
 refine I.call' (s':={s' with heap:=h'}) (ch:=[]) F.os ⟨λb o e n hb _=>?_,λb o e n hb _=>?_,F.un.free,λb o e _=>?_,F.un.tups,F.un.frzs,F.un.tbls⟩ (HOk.based F.hok hB hB' c2) F.bare (λb z=>absurd z (by simp))
 . obtain⟨o',eb⟩:=c1 b o e hb;have e1:=F.un.keep b o e n hb (by simp);have:=hB b o' eb;rw[e1]at this;cases this;exact hB' b _ eb
 . obtain⟨sl,e1⟩:=F.un.slot b o e n hb (by simp);obtain⟨sl2,e2⟩:=fr b _ e1 hb;exact⟨sl2,e2⟩
 . by_cases hb:b∈oR X.stack
   . obtain⟨o1,e1⟩:=F.un.there b o e (by simp);obtain⟨sl,e2⟩:=fr b o1 e1 hb;exact⟨_,e2⟩
   . obtain⟨o',eb⟩:=c1 b o e hb;exact⟨o',hB' b _ eb⟩
theorem Fly.fresh(I:Inv X pins σ H s)(F:Fly X.prog X.w X.stack H s C dx H' ea s'):s.heap.get? ea=none:=by
 obtain⟨a0,B,hfl,c1,c2⟩:=F.air;cases q:s.heap.get? ea with
 |none=>rfl
 |some o=>
  by_cases hb:ea∈oR X.stack
  . obtain⟨_,o1,e1,n1⟩:=I.stack.mem hb;obtain⟨sl,e2⟩:=F.un.slot ea o1 e1 (I.stkFree ea hb) hb (by simp);obtain⟨oe,ws,hoe,_,hoed,_⟩:=hfl.first;rw[e2]at hoe;cases hoe;exact absurd hoed (n1 ws)
  . obtain⟨o',eb⟩:=c1 ea o q hb;rw[hfl.2.1]at eb;cases eb
abbrev Cx.inS(X:Cx)(v:Value):Cx:={X with A:=X.A.mark (some v),calm:=false}
theorem Inv.inS(I:Inv X pins σ H s)(v:Value):Inv (X.inS v) pins σ H s:=
 ⟨⟨I.ok.mod,I.ok.kind,I.ok.glob,I.ok.blt,I.ok.above,I.ok.inj,I.ok.has,I.ok.cab,(λz=>nomatch z),I.ok.frames,I.ok.stk,I.ok.exf,I.ok.bs,I.ok.bsz,I.ok.noex,I.ok.exfs,I.ok.funs,I.ok.frf⟩,I.os,I.bare,I.base,I.loc,I.cell,I.free,I.freeC,I.pin,I.hok,I.len⟩
theorem Inv.offS{v:Value}(ok:X.Ok)(I:Inv (X.inS v) pins σ H s):Inv X pins σ H s:=⟨ok,I.os,I.bare,I.base,I.loc,I.cell,I.free,I.freeC,I.pin,I.hok,I.len⟩
theorem cl2{M:Model}{A:Around}{E:Value->Shared->Prop}{k:Nat}{n:Str}{pos:Pos}{Q:Unit->Shared->Prop}(I:Inv X pins σ H s)(hN:X.N.Nodup)(hk:X.N[k]?=some n)(hl:X.env.scope.names.lookup n=some .local)
 (h:∀s',Inv X pins (σ.set k none) H s'->Q () s'):wpAny M A (do bindName X.env n .none;unbindBehindTheSuite X.env n pos) Q E s:=by
 obtain⟨m,hn,hl'⟩:=id I.loc;have hcls:(X.env.scope.kind==.class||(X.env.scope.kind==.module&&X.env.locals !=X.env.globals))=false:=by rw[I.ok.kind];rfl
 refine wpAny_nameGoes_keeps hl hn hcls λh' v hn' hs=>h _ ?_;obtain⟨oL,_,_,hoL,_⟩:=id hn;have hok:HOk X.prog X.w H h':=λb ob e=>(I.hok b ob e).stay (λc w' hc q=>(hs.2 c (by
  rintro rfl;rcases hc with hc|hc
  . rw[<-hc,I.free]at e;cases e
  . rw[I.free]at hc;cases hc)).trans q) (λ_ q=>q) λ_ _ q=>q
 refine⟨I.ok,I.os,I.bare,⟨λb o e n hb hx=>?_,λb o e n hb hx=>?_,I.base.free,λb o e hx=>?_,I.base.tups,I.base.frzs,I.base.tbls⟩,⟨_,hn',λj y v' e1 e2 e3=>?_⟩,λy c e=>?_,I.free,I.freeC,λp hp=>?_,hok,by simpa using I.len⟩
 . exact(hs.2 b (I.ne_loc e)).trans (I.base.keep b o e n hb hx)
 . obtain⟨sl,e1⟩:=I.base.slot b o e n hb hx;exact⟨sl,(hs.2 b (I.ne_loc e)).trans e1⟩
 . obtain⟨o',e1⟩:=I.base.there b o e hx;exact⟨o',(hs.2 b (I.ne_loc e)).trans e1⟩
 . by_cases hj:j=k
   . subst hj;rw[List.getElem?_set]at e2;split at e2
     . split at e2<;>cases e2
     . rename_i z;exact absurd rfl z
   . rw[List.getElem?_set_ne (Ne.symm hj)]at e2;obtain⟨u',r',q⟩:=hl' j y v' e1 e2 e3;refine⟨u',r',?_⟩;rcases q with⟨kk,e⟩|⟨kk,c,e,z⟩
     . refine .inl ⟨kk,?_⟩;have:y≠n:=λe=>hj (az3 hN e1 (e▸hk));simp[this,e]
     . exact .inr ⟨kk,c,e,z.sameBut hs (I.cne y c e)⟩
 . obtain⟨w',z⟩:=I.cell y c e;exact⟨w',z.sameBut hs (I.cne y c e)⟩
 . obtain⟨e,n,ne,nf,d⟩:=I.pin p hp;exact⟨(hs.2 p.1 ne).trans e,n,ne,nf,d⟩
theorem bo9{M:Model}{A:Around}{E:Value->Shared->Prop}{K:PySem.W.Frag}{e CE:Addr}{oe:Obj}{Q:Bool->Shared->Prop}(X:K.In s.heap)(he:s.heap.get? e=some oe)(hc:oe.cls=.ref C)(hE:mroIn K C (.ref CE)=some true)(hB:mroIn K CE (.type "BaseException")=some true)
 (hT:typeIn K (.ref CE)=some (.type "type"))(hq:Q true s):wpAny M A (excMatches (.ref e) (.ref CE)) Q E s:=by
 have L1:Looks M s.heap (typeOf (.ref e)) (.ref C):=hc▸(Looks.ld he).andThen .now;have L2:=looks_mroIn (M:=M) X hE;have L3:=looks_mroIn (M:=M) X hB;have L4:=looks_typeIn (M:=M) X hT;have L5:Looks M s.heap (isType (.ref CE)) true:=by
  obtain⟨cd,h1,h2⟩:=Option.bind_eq_some_iff.mp hB;unfold clsIn at h1;split at h1
  . rename_i ho;intro A' Q' E' s' k q;unfold isType loadHead;exact wpAny_bind (wpAny_loadPart (k _ _ (X _ _ ho)) (wpAny_pure q))
  . cases h1
 have L6:Looks M s.heap (isInstance (.ref CE) (.type "tuple")) false:=L4.andThen (Looks.of_pure tc_notTuple);unfold excMatches isExcClass;refine wpAny_bind (L6.here (wpAny_bind (wpAny_pure ?_)));simp only[List.forIn_cons,List.forIn_nil];refine wpAny_bind (wpAny_bind (wpAny_bind (wpAny_bind (L5.here ?_))));refine L3.here (wpAny_pure (wpAny_pure (wpAny_bind (L1.here (wpAny_bind (wpAny_bind (wpAny_bind (L2.here (wpAny_pure (wpAny_pure (wpAny_pure hq)))))))))))
structure cj0 (K:PySem.W.Frag) (mg:Str->Option Value) (x:Str) (CE:Addr):Prop where
 glob:mg x=some (.ref CE)
 base:mroIn K CE (.type "BaseException")=some true
 ty:typeIn K (.ref CE)=some (.type "type")
def dS(D:wY)(k:Nat):wY:={nx:=λσ' H'=>D.nx (σ'.set k none) H',rt:=λ_ _=>False}
theorem di5{D:wY}{ts:TS}{x n:Str}{k:Nat}{CE:Addr}{b₀:Stmt}{suite:List Stmt}{np hp:Pos}(I:Inv X pins σ H s)(hex:X.ex=[])(hst:X.stack=X.env::X.outer)(hfr:X.env.frame=some X.env.locals)(hN:X.N.Nodup)(hk:X.N[k]?=some n)(hl:X.env.scope.names.lookup n=some .local)(hg:Gl X x)(hdb:(x==("__debug__":Str))=false)
 (nox:∀e s,X.xe e s->False)(C0:cj0 X.K X.mg x CE)(hs:∀v,PSs (X.inS v) (b₀::suite) ts)(F:Fly X.prog X.w X.stack H s C dx H' ea s')(hm:mroIn X.K C (.ref CE)=some true)
 (h:ts (dS D k) (σ.set k (some (.ref ea))) (upd H' ea (mP ea C dx))):
 wpAny (model X.prog X.w) X.A (noteFrame (.ref ea) X.env) (λ_ s₂=>wpAny (model X.prog X.w) X.A (setFlight (.ref ea) none) (λ_ s₃=>wpAny (model X.prog X.w) X.A (handleBy (.ref ea) X.env [.ExceptHandler (some (.Name x np)) (some n) (b₀::suite) hp]) (SP X pins D) X.xe s₃) X.xe s₂) X.xe s':=by
 obtain⟨a0,B,hfl,c1,c2⟩:=F.air;obtain⟨oe,he,hd⟩:=F.dict;have new:=F.fresh I;have hA:X.A.frames=some (X.env::X.outer):=by rw[<-hst];exact I.ok.frames
 have hB1:=hfl.1;rw[hst]at hfl;refine wpAny_mono (aq0 (bg7 _ _) (wpAny_looks_onW (Q:=λ_ s3=>Heap.HeldW B (X.env::X.outer) ea (.ref C) a0 X.env.locals s3.heap/\s'.heap.UpToSlots s3.heap/\s3={s' with heap:=s3.heap}) hA hfr hfl λh' x1 x2=>⟨x1,x2,rfl⟩)) (λ_ s4 ⟨⟨x1,x2,x3⟩,kd⟩=>?_) λ_ _ z=>z;refine wpAny_mono (aq0 (as0 _ _) (wpAny_landsW (Q:=λ_ s5=>Heap.FlyingW B (X.env::X.outer) ea (.ref C) a0 s5.heap/\s4.heap.UpToSlots s5.heap/\s5={s4 with heap:=s5.heap}) x1 λh' y1 y2=>⟨y1,y2,rfl⟩)) (λ_ s5 ⟨⟨y1,y2,y3⟩,kd'⟩=>?_) λ_ _ z=>z;have up5:=x2.trans y2;have kd5:=kd.trans kd';have e5:s5={s' with heap:=s5.heap}:=by rw[y3,x3]
 have I5:Inv X pins σ H' s5:=by rw[e5];exact I.land hex F c1 c2 hB1 y1.1 up5
 obtain⟨o5,ho5,hc5⟩:=y1.there;refine wpAny_handleBy_cons (codeAny_handlers_test (mL (X:=X.inS (.ref ea)) (I5.inS _) hg C0.glob ?_ hdb)) (by intro q;cases q);refine bo9 I5.kIn ho5 hc5 hm C0.base C0.ty (codeAny_handlers_suite_as ?_);refine wpAny_mono (aq0 (as0 _ _) (lands_againW (Q:=λ_ s6=>Heap.FlyingW B (X.env::X.outer) ea (.ref C) a0 s6.heap/\s5.heap.UpToSlots s6.heap/\s6={s5 with heap:=s6.heap}) y1 λh' z1 z2=>⟨z1,z2,rfl⟩)) (λ_ s6 ⟨⟨z1,z2,z3⟩,kd6⟩=>?_) λ_ _ z=>z;have e6:s6={s' with heap:=s6.heap}:=by rw[z3,e5]
 have I6:Inv X pins σ H' s6:=by rw[e6];exact I.land hex F c1 c2 hB1 z1.1 (up5.trans z2)
 obtain⟨o6,vs6,ho6,hc6,hd6,_⟩:=z1.first;have E6:bf9 s6.heap ea C dx:=⟨o6,vs6,ho6,hc6,((kd5.trans kd6).at he ho6).trans hd,hd6⟩;have I7:Inv X pins σ (upd H' ea (mP ea C dx)) s6:=Inv.trackE I new hex I6 F.free (ae7 E6);refine yO (X:=X.inS (.ref ea)) (v:=.ref ea) (I7.inS _) hN hk (.inl hl) rfl (λs8 I8=>?_) (.inr hl);refine wpAny_mono (hs (.ref ea) s8 _ _ (dS D k) I8 h) (λf s9 q=>?_) λe s9 z=>(nox e s9 z).elim;cases f with
 |next=>obtain⟨σ',H9,I9,q⟩:=q;exact cl2 (Inv.offS I.ok I9) hN hk hl λs10 I10=>⟨_,_,I10,q⟩
 |ret u=>obtain⟨v,σ',H9,I9,r,q⟩:=q;exact q.elim
 |brk=>obtain⟨σ',H9,I9,q⟩:=q;exact q.elim
 |cont=>obtain⟨σ',H9,I9,q⟩:=q;exact q.elim
end
end L2
namespace L2
open PySem PySem.Spec PyProof.Rows PySem.W
structure rW (P:Program) (w:World) (K:PySem.W.Frag) (mg:Str->Option Value) (base:Heap) (k:Nat) (x:Str) (ps:List Str) (sp:Sp):Prop where
 ex:∃f fd,FnOk P w K mg base (zV P w) k f fd ps sp/\mg x=some (.ref f)/\keepIn K (.ref f)=true/\Binds K fd ps []
theorem Fun.okX{P:Program}{w:World}{K:PySem.W.Frag}{mg:Str->Option Value}{base:Heap}{x qual:Str}{st:Stmt}{f:Addr}{fd:FuncData}{N ps:List Str}{k:Nat}{sp:Sp}(F:Fun K x qual st f fd)(S:aW N ps (aL st))(len:∀vs H Q E,sp vs H Q E->vs.length=ps.length)
 (hbody:∀(cdv:Value)(A:Around)(outer:List Env)(s:Shared)(H:Hp)(vs:List V)(Q:VK)(E:XK),Room k (A.deeper (envOfC qual (aL st) s.heap.objs.size f cdv))->sp vs H Q E->
  ∃t,PSs (lH (zV P w) P w K mg base N qual (aL st) f cdv A outer s H E) (cK st) t/\t {nx:=λ_ H'=>Q .non H',rt:=Q} (iG N vs) H):FnOk P w K mg base (zV P w) (k+1) f fd ps sp:=by
 obtain⟨oc,od,kV,doc,pm,an,cdv,ct,osl,rfl,lk,hcd⟩:=F.ex;exact dd0 lk hcd S len λA outer s H vs Q E hr hsp=>hbody cdv A outer s H vs Q E hr hsp
section
variable {X : Cx} {k : Nat} {f : Addr} {fd : FuncData} {ps : List Str} {sp : Sp} {x : Str} {p pos : Pos} {e : Expr} {es : List Expr} {t : TA} {E : XK} {C : Addr}
def cz9(sp:Sp)(E:XK)(t:TA):TE:=λσ H Q=>t σ H λvs H1=>sp vs H1 Q E
theorem em3{pins:List (Addr×Obj)}{σ:St}{H:Hp}{s:Shared}{Q:VK}(d:rW X.prog X.w X.K X.mg X.base k x ps sp)(hr:Room k X.A)(ha:PA X (e::es) t)(nox:∀e s,X.xe e s->False)(hg:Gl X x)(hdb:(x==("__debug__":Str))=false)(he:starEach (e::es) X.env=(false,eval e X.env)::starEach es X.env)(hpl:(backTo pos (starEach es X.env)).any (·.1)=false)
 (I:Inv X pins σ H s)(h:cz9 sp E t σ H Q):wpAny (model X.prog X.w) X.A (eval (.Call (.Name x p) (e::es) [] pos) X.env) (EP X pins σ Q) (λe' s'=>∃H1 s1,Inv X pins σ H1 s1/\zV X.prog X.w X.stack H1 s1 E e' s') s:=by
 obtain⟨f,fd,F,hm,hk,hb⟩:=d.ex;refine wpAny_Call_Name_kw (mL I hg hm ?_ hdb);refine PySem.W.callWith_K (h₀:=X.base) I.ok.mod.kin hk (wpAny_mono (ha pins s σ H _ I h) (λus s1 ⟨vs,H1,I1,r,q⟩=>⟨I1.kIn,?_⟩) λe' s' z=>(nox e' s' z).elim) he hpl;have hl:us.length=ps.length:=by rw[<-r.length];exact F.len _ _ _ _ q
 refine wpAny_call (codeAny_mono (F.run X.A X.stack s1 H1 ⟨us,[]⟩ us vs Q E hr I1.env0 (by have:=hb s1 us I1.kIn (by rw[List.append_nil];exact hl);rwa[List.append_nil]at this) r q) λr s' hq=>?_);cases r with
 |error e=>exact⟨H1,s1,I1,hq⟩
 |ok fl=>
  cases fl with
  |ret u=>exact I1.after hq
  |next=>exact False.elim hq
  |brk=>exact False.elim hq
  |cont=>exact False.elim hq
def dj5(sp:Sp)(K:PySem.W.Frag)(CE:Addr)(k:Nat)(ta:TA)(ts:TS)(g:V->St->St):TS:=λD σ H=>ta σ H λvs H1=>sp vs H1 (λv H2=>D.nx (g v σ) H2)
 λc dx H2=>∃C,c=.ref C/\mroIn K C (.ref CE)=some true/\∀ea,H2 ea=none->ts (dS D k) (σ.set k (some (.ref ea))) (upd H2 ea (mP ea C dx))
theorem dp4{CE:Addr}{ts:TS}{y z n:Str}{i j:Nat}{b₀:Stmt}{suite:List Stmt}{np hp p0 p1 p2:Pos}{q:List Str}{c:Scope}(S:aW X.N q c)(d:rW X.prog X.w X.K X.mg X.base k x ps sp)(C0:cj0 X.K X.mg z CE){m:Nat}(hr:Room m X.A)(ha:PA X (e::es) t)(hs:∀v,PSs (X.inS v) (b₀::suite) ts)(hi:X.N[i]?=some y:=by rfl)(hy:Loc X.env.scope y:=by first|exact .inl rfl|exact .inr rfl)(hj:X.N[j]?=some n:=by rfl)(hl:X.env.scope.names.lookup n=some .local:=by rfl)
 (hkm:k<=m:=by decide)(hx0:X.xe=λ_ _=>False:=by rfl)(hex:X.ex=[]:=by rfl)(hst:X.stack=X.env::X.outer:=by rfl)(hfr:X.env.frame=some X.env.locals:=by rfl)(hg:Gl X x:=by rfl)(hz:Gl X z:=by rfl)(hdb:(x==("__debug__":Str))=false:=by decide)(hdz:(z==("__debug__":Str))=false:=by decide)
 (he:starEach (e::es) X.env=(false,eval e X.env)::starEach es X.env:=by rfl)(hpl:(backTo pos (starEach es X.env)).any (·.1)=false:=by rfl)(hsw:swapsWith (.Call (.Name x p) (e::es) [] pos) (some (.Name y p0)) p1.line X.env=pure false:=by rfl)(hf:X.fn y=true\/X.env.scope.names.lookup y=some .local:=by first|exact .inl rfl|exact .inr rfl|assumption):
 PS X (.Try [.Assign [.Name y p0] (.Call (.Name x p) (e::es) [] pos) p1] [.ExceptHandler (some (.Name z np)) (some n) (b₀::suite) hp] [] [] p2) (dj5 sp X.K CE j t ts λv σ=>σ.set i (some v)):=by
 intro pins s σ H D I h;have nox:∀e s,X.xe e s->False:=λe s z=>by rw[hx0]at z;exact z
 refine wpAny_Try_except (wpAny_execs_cons (wpAny_Assign_Name (wpAny_mono (em3 d (hr.mono hkm) ha nox hg hdb he hpl I h) (λu s1 ⟨v,H1,I1,r1,q1⟩=>?_) λe' s' ⟨H1,s1,I1,ea,C,dx,H',ee,F,C',ec,hm,hq⟩=>?_) hsw))
 . exact yO I1 S.nd hi hy r1 (λs2 I2=>wpAny_execs_nil (wpAny_execs_nil ⟨_,H1,I2,q1⟩)) hf
 . subst ee;cases ec;exact di5 I1 hex hst hfr S.nd hj hl hz hdz nox C0 hs F hm (hq ea F.free)
end
end L2
namespace L2
open PySem PySem.Spec PyProof.Rows
def nO(kvs:List (Str×Str)):List (oU×V):=kvs.map λq=>(.inr q.1,.str q.2)
theorem dq2{vs:List (oU×Value)}(k:Str):∀{kvs:List (Str×Str)},KV (nO kvs) vs->RelO ((kvs.lookup k).map V.str) (valueAt vs (.inr k)):=by
 intro kvs;induction kvs generalizing vs with
 |nil=>intro r;unfold KV at r;cases r;exact True.intro
 |cons p kvs ih=>
  intro r;unfold KV nO at r;rw[List.map_cons]at r;cases r with
  |@cons a b as bs h t=>
   obtain⟨h1,h2⟩:=h;rw[List.lookup_cons];by_cases e:k=p.1
   . have e':b.1=.inr k:=by rw[<-h1,e]
     have b':valueAt (b::bs) (.inr k)=some b.2:=by simp[valueAt,List.find?_cons,e']
     rw[b',e,beq_self_eq_true];exact h2
   . have e':¬b.1=.inr k:=λz=>e (by rw[<-h1]at z;injection z with z;exact z.symm);have b':valueAt (b::bs) (.inr k)=valueAt bs (.inr k):=by simp[valueAt,List.find?_cons,e']
     rw[b',beq_eq_false_iff_ne.mpr e];exact ih t
theorem an5:∀(rs vs:List (oU×Value)),(∀p∈vs,p.1∉rs.map (·.1))->(rs.map (·.1)).Nodup->merged vs rs=vs++rs
 |[],vs,_,_=>(List.append_nil vs).symm
 |q::qs,vs,h,n=>by
  rw[List.map_cons,List.nodup_cons]at n;have e:stored vs q.1 q.2=vs++[q]:=by unfold stored;rw[if_neg];intro z;obtain⟨p,hp,hq⟩:=List.any_eq_true.mp z;exact h p hp (by rw[of_decide_eq_true hq];exact List.mem_cons_self)
  have:=an5 qs (stored vs q.1 q.2) (by
   rw[e];intro p hp;rcases List.mem_append.mp hp with hp|hp
   . exact λz=>h p hp (List.mem_cons_of_mem _ z)
   . rw[List.mem_singleton.mp hp];exact n.1) n.2
  show merged (stored vs q.1 q.2) qs=_;rw[this,e,List.append_assoc];rfl
abbrev VVS:List (Str×Str)->List (Value×Value)->Prop:=Paired λp q=>RelV (.str p.1) q.1/\RelV (.str p.2) q.2
def PDs(X:Cx)(pos:Pos)(keys:List (Option Expr))(values:List Expr)(kvs:List (Str×Str)):Prop:=
 ∀⦃pins:List (Addr×Obj)⦄ (s:Shared)(σ:St)(H:Hp),Inv X pins σ H s->wpAny (model X.prog X.w) X.A (evalPairs (pairTrees keys values X.env pos)) (λvs s'=>Inv X pins σ H s'/\VVS kvs vs) X.xe s
theorem bh7{X:Cx}{pos:Pos}:PDs X pos [] [] []:=λpins s σ H I=>pairTrees_nil_walk ⟨I,.nil⟩
theorem nQ{X:Cx}{pos:Pos}{k v:Expr}{ks:List (Option Expr)}{vs:List Expr}{a b:Str}{kvs:List (Str×Str)}(hk:PE X k (tC (.str a)))(hv:PE X v (tC (.str b)))(hr:PDs X pos ks vs kvs):
 PDs X pos (some k::ks) (v::vs) ((a,b)::kvs):=λpins s σ H I=>
 pairTrees_cons_walk (bW (hk s σ H (λx H'=>x=.str a/\H'=H) I ⟨rfl,rfl⟩) λu s1 ⟨x,H1,I1,rx,e1,e2⟩=>bW (hv s1 σ H1 (λy H'=>y=.str b/\H'=H1) I1 ⟨rfl,rfl⟩) λw2 s2 ⟨y,H2,I2,ry,e3,e4⟩=>
  bW (hr s2 σ H2 I2) λws s3 ⟨I3,rel⟩=>⟨by rw[e4,e2]at I3;exact I3,.cons ⟨by rw[<-e1];exact rx,by rw[<-e3];exact ry⟩ rel⟩)
theorem ba0{P:Program}{w:World}:∀{kvs:List (Str×Str)}{ws:List (Value×Value)},VVS kvs ws->∃rs,Carries (sD P w) ws rs/\KV (nO kvs) rs
 |[],_,r=>by cases r;exact⟨[],True.intro,.nil⟩
 |p::kvs,_,r=>by
  cases r with
  |@cons a b as bs h t=>obtain⟨rs,c,q⟩:=ba0 (P:=P) (w:=w) t;obtain⟨b1,b2⟩:=b;obtain⟨t1,e⟩:=(show∃t,b1=Value.str p.1 t from h.1);exact⟨(.inr p.1,b2)::rs,⟨by subst e;exact am3 P w p.1 t1,rfl,c⟩,.cons ⟨rfl,h.2⟩ q⟩
theorem KV.keysOf{κ:Type}{kvs:List (κ×V)}{vs:List (κ×Value)}(r:KV kvs vs):kvs.map (·.1)=vs.map (·.1):=by
 unfold KV at r;induction r with
 |nil=>rfl
 |cons h t ih=>rw[List.map_cons,List.map_cons,ih,h.1]
def bo4(kvs:List (Str×Str)):TE:=λ_ H Q=>∀p,H p=none->Q (.ref p) (upd H p (.dK (nO kvs)))
theorem bd3{X:Cx}{pos:Pos}{keys:List (Option Expr)}{values:List Expr}{kvs:List (Str×Str)}(h:PDs X pos keys values kvs)(hall:keys.all (·.isSome)=true:=by rfl)(hl:keys.length=values.length:=by rfl)(h0:keys≠[]:=by exact List.cons_ne_nil _ _)
 (h15:keys.length<=15:=by decide)(nd:(kvs.map (·.1)).Nodup:=by decide)(hz:kvs.length<=15:=by decide):PE X (.Dict keys values pos) (bo4 kvs):=by
 intro pins s σ H Q I q;have hn:=I.hok.fresh (Nat.le_refl s.heap.objs.size);have big:sysModules<s.heap.objs.size:=Nat.lt_trans (by decide) (show mainGlobals<s.heap.objs.size from(I.mod.glob.keeps I.bk).lt);have hd:(s.heap.objs.size==sysModules)=false:=beq_eq_false_iff_ne.mpr (Ne.symm (Nat.ne_of_lt big));have I1:=I.laid (a:=s.heap.objs.size) (o:=.dK []) (h':=s.heap.push {cls:=.type "dict",data:=.dict #[]}) (t':=s.toks) (λ_ _ q=>Heap.get?_push_of_some _ q) (Nat.le_refl _) ⟨Nat.zero_le _,hd,[],.nil,Heap.DictOf.new _⟩;have e1:upd H s.heap.objs.size (.dK []) s.heap.objs.size=some (.dK []):=by unfold upd;exact if_pos rfl
 refine wpAny_Dict_walk (knd:=sD X.prog X.w) hall hl h0 h15 (bW (h _ σ _ I1) λws s2 ⟨I2,rel⟩=>?_);obtain⟨rs,c,rk⟩:=ba0 (P:=X.prog) (w:=X.w) rel;obtain⟨z,_,vs0,r0,dd⟩:=(show ObjOk X.prog X.w _ _ _ (.dK []) from I2.hok _ _ e1);cases r0;refine⟨rs,c,dd,λh' dd' hs=>⟨.ref s.heap.objs.size,upd H s.heap.objs.size (.dK (nO kvs)),?_,rfl,q _ hn⟩⟩;have em:merged [] rs=rs:=by refine(an5 rs [] (λ_ h=>nomatch h) ?_).trans rfl;rw[<-rk.keysOf];unfold nO;rw[List.map_map];have:((λx:oU×V=>x.1)∘λq:Str×Str=>((.inr q.1,.str q.2):oU×V))=(Sum.inr∘λq:Str×Str=>q.1):=rfl;rw[this,<-List.map_map];exact nd.map (f:=Sum.inr) (λa b hab z=>hab (Sum.inr.inj z))
 rw[em]at dd';have he:∃q,h'.get? s.heap.objs.size=some q:=let⟨q,_,_,hq,_⟩:=dd';⟨q,hq⟩
 have eu:upd (upd H s.heap.objs.size (.dK [])) s.heap.objs.size (.dK (nO kvs))=upd H s.heap.objs.size (.dK (nO kvs)):=by funext b;unfold upd;split<;>rfl
 rw[<-eu];exact I2.write (x:=s.heap.objs.size) (e:=s.heap.objs.size) (by rw[e1];exact True.intro) (.inl rfl) (λb q hb z=>(hs.2 b hb).trans z) he
  (show ObjOk X.prog X.w (upd (upd H s.heap.objs.size (.dK [])) s.heap.objs.size (.dK (nO kvs))) h' s.heap.objs.size (.dK (nO kvs)) from⟨by unfold nO;rw[List.length_map,sizeLine_eq];omega,hd,rs,rk,dd'⟩)
def bx3(td ty tx:TE):TE:=λσ H Q=>td σ H λx H1=>∃a kvs,x=.ref a/\H1 a=some (.dK (nO kvs))/\ty σ H1 λy H2=>tx σ H2 λz H3=>∃k,H3 a=some (.dK (nO kvs))/\y=.str k/\Q (((kvs.lookup k).map V.str).getD z) H3
theorem bb4{X:Cx}{o e f:Expr}{apos cpos:Pos}{td ty tx:TE}(ho:PE X o td)(he:PE X e ty)(hf:PE X f tx)(m1:attributeBase o "get" X.env (eval o X.env)=eval o X.env:=by rfl)
 (m2:((backTo cpos (starEach [e,f] X.env)).all (λx=>!x.1)&&(backToKw cpos (keywordEach [] X.env)).all (λx=>x.1.isSome)&&decide (([e,f]:List Expr).length+([]:List Keyword).length+(if([]:List Keyword).isEmpty then 0 else 1)<30))=true:=by rfl)
 (m3:(apos.endLine==cpos.line)=true:=by rfl)(m4:backTo cpos (starEach [e,f] X.env)=[(false,eval e X.env),(false,eval f X.env)]:=by rfl):PE X (.Call (.Attribute o "get" apos) [e,f] [] cpos) (bx3 td ty tx):=by
 intro pins s σ H Q I h;refine wpAny_Call_method m1 m2 m3 PySem.F.plainAttrs_dict PySem.F.slot_dict_get PySem.F.type_dict_get (bW (ho s σ H _ I h) λu s1 ⟨x,H1,I1,rx,a,kvs,ex,ea,q1⟩=>?_);subst ex;obtain rfl:u=Value.ref a:=rx;obtain⟨_,hd,vs,_,dd⟩:=(show ObjOk X.prog X.w _ _ _ (.dK _) from I1.hok _ _ ea);refine⟨dd.typeIs,λb q=>?_,?_⟩
 . cases q;obtain⟨ob,_,_,h1,h2,_⟩:=dd;exact⟨ob,h1,h2.2.1⟩
 rw[m4];refine Calls.callWith_builtin rfl (Calls.evalArgs_plain (Calls.spliced_cons (bW (he s1 σ H1 _ I1 q1) λiv s2 ⟨y,H2,I2,ry,q2⟩=>
  Calls.spliced_cons (bW (hf s2 σ H2 _ I2 q2) λfv s3 ⟨z,H3,I3,rz,k,ea,ey,q3⟩=>Calls.spliced_nil ?_))))
 subst ey;obtain⟨t,rfl⟩:=(show∃t,iv=Value.str k t from ry);obtain⟨_,hd,vs,rel,dd⟩:=(show ObjOk X.prog X.w _ _ _ (.dK _) from I3.hok _ _ ea);refine call_meetsIn PySem.F.slot_dict_get dd.typeIs PySem.F.entry_dict_get (PySem.F.args_dict_get_3 _ _ _) (meets_dict_get_default (sD X.prog X.w) a (am3 X.prog X.w k t) hd fv) ⟨_,dd.mapOf,_,H3,I3.tok _,?_,q3⟩;have:=dq2 k rel;cases e1:kvs.lookup k with
 |none=>rw[e1]at this;rw[RelO.none_of this];exact rz
 |some x=>rw[e1]at this;obtain⟨u,hu,ru⟩:=RelO.some_of this;rw[hu];exact ru
end L2
namespace TL
open PySem PySem.Spec PyProof.Rows L2
inductive T where
 |non|bl (b:Bool)|int (i:Int)|str (x:Str)|ty (n:String)
 |err (c:Str) (fs:List (Str×V))
 |lst (o:Bool) (xs:List T)
 |tup (xs:List T)
 |ins (o:Bool) (c:Str) (ns:List Str) (xs:List T)
mutual
def frz:T->T
 |.lst _ xs=>.lst false (frzs xs)
 |.tup xs=>.tup (frzs xs)
 |.ins _ c ns xs=>.ins false c ns (frzs xs)
 |.non=>.non
 |.bl b=>.bl b
 |.int i=>.int i
 |.str x=>.str x
 |.ty n=>.ty n
 |.err c fs=>.err c fs
def frzs:List T->List T
 |[]=>[]
 |t::ts=>frz t::frzs ts
end
mutual
def dP:T->Bool
 |.lst o xs=>!o&&aR xs
 |.tup xs=>aR xs
 |.ins o _ _ xs=>!o&&aR xs
 |.non=>true
 |.bl _=>true
 |.int _=>true
 |.str _=>true
 |.ty _=>true
 |.err _ _=>true
def aR:List T->Bool
 |[]=>true
 |t::ts=>dP t&&aR ts
end
mutual
def fJ:T->Bool
 |.lst o xs=>o&&fS xs
 |.tup xs=>fS xs
 |.ins o _ _ xs=>o&&fS xs
 |.non=>true
 |.bl _=>true
 |.int _=>true
 |.str _=>true
 |.ty _=>true
 |.err _ _=>true
def fS:List T->Bool
 |[]=>true
 |t::ts=>fJ t&&fS ts
end
theorem sZ:∀ts,aR ts=ts.all dP
 |[]=>rfl
 |t::ts=>by simp[aR,sZ ts]
mutual
theorem wC:∀t,dP t=true->frz t=t
 |.lst o xs,h=>by simp only[dP,Bool.and_eq_true,Bool.not_eq_true']at h;rw[frz,dB xs h.2,h.1]
 |.tup xs,h=>by simp only[dP]at h;rw[frz,dB xs h]
 |.ins o _ _ xs,h=>by simp only[dP,Bool.and_eq_true,Bool.not_eq_true']at h;rw[frz,dB xs h.2,h.1]
 |.non,_=>rfl
 |.bl _,_=>rfl
 |.int _,_=>rfl
 |.str _,_=>rfl
 |.ty _,_=>rfl
 |.err _ _,_=>rfl
theorem dB:∀ts,aR ts=true->frzs ts=ts
 |[],_=>rfl
 |t::ts,h=>by simp only[aR,Bool.and_eq_true]at h;rw[frzs,wC t h.1,dB ts h.2]
end
structure Exc where
 c:Str
 fs:List (Str×V)
inductive Res (α:Type) where
 |ok (a:α)|ex (x:Exc)|no
def Res.bind{α β:Type}:Res α->(α->Res β)->Res β
 |.ok a,f=>f a
 |.ex x,_=>.ex x
 |.no,_=>.no
abbrev Fr:=List (Option T)
inductive bO where
 |nx (ρ:Fr)|rt (t:T)|rm (ρ:Fr) (t:T)|bk (ρ:Fr)|ct (ρ:Fr)|ex (x:Exc)|no
def uT:HO->Bool
 |.tup _=>true
 |.frz _ _=>true
 |.ext _=>true
 |.xd _=>true
 |_=>false
def FzL(K:PySem.W.Frag)(H:Hp)(Z:Addr->Prop)(a:Addr)(xs:List V):Prop:=
 (H a=some (.lst xs)/\Z a)\/(∃o,H a=some (.frz o (.lst xs)))\/
  ∃(o:Obj)(its:Array Value)(n:Nat),K.lookup a=some o/\o.cls=.type "list"/\o.dict=none/\o.slots=#[]/\o.data=.seq its n/\its.size<=sizeLine/\Vals xs its.toList
theorem FzL.sqS{K:PySem.W.Frag}{H:Hp}{Z:Addr->Prop}{a:Addr}{xs:List V}(h:FzL K H Z a xs):SqS K H a xs:=by
 rcases h with⟨h,_⟩|⟨o,h⟩|h
 . exact .inl (.inl h)
 . exact .inl (.inr ⟨o,h⟩)
 . exact .inr h
theorem FzL.sq{K:PySem.W.Frag}{H:Hp}{Z:Addr->Prop}{a:Addr}{xs:List V}(h:FzL K H Z a xs):SqL K H a xs:=h.sqS.sq
section
variable (K : PySem.W.Frag) (cn : Str → Option Addr)
mutual
def Rep(H:Hp)(Z:Addr->Prop):T->V->List Addr->Prop
 |.non,v,A=>v=.non/\A=[]
 |.bl b,v,A=>v=.bl b/\A=[]
 |.int i,v,A=>v=.int i/\A=[]
 |.str x,v,A=>v=.str x/\A=[]
 |.ty n,v,A=>v=.ty n/\A=[]
 |.err c fs,v,A=>∃a C dx,v=.ref a/\A=[]/\cn c=some C/\H a=some (mP a C dx)/\af7 H dx fs
 |.lst true ts,v,A=>∃a vs B,v=.ref a/\A=a::B/\H a=some (.lst vs)/\Reps H Z ts vs B
 |.lst false ts,v,A=>∃a vs,v=.ref a/\A=[]/\FzL K H Z a vs/\Reps H Z ts vs []
 |.tup ts,v,A=>∃a vs,v=.ref a/\SqT K H a vs/\Reps H Z ts vs A
 |.ins true c ns ts,v,A=>∃a C dx vs B,v=.ref a/\A=a::B/\cn c=some C/\H a=some (.ins C dx (ns.zip vs))/\ns.length=vs.length/\Reps H Z ts vs B
 |.ins false c ns ts,v,A=>∃a C dx vs,v=.ref a/\A=[]/\cn c=some C/\H a=some (.ins C dx (ns.zip vs))/\Z a/\ns.length=vs.length/\Reps H Z ts vs []
def Reps(H:Hp)(Z:Addr->Prop):List T->List V->List Addr->Prop
 |[],vs,A=>vs=[]/\A=[]
 |t::ts,vs,A=>∃v r B C,vs=v::r/\A=B++C/\Rep H Z t v B/\Reps H Z ts r C
end
end
section
variable {K : PySem.W.Frag} {cn : Str → Option Addr} {H H' : Hp} {Z Z' : Addr → Prop}
theorem FzL.keep(h:FzL K H Z a xs)(hk:∀a o,H a=some o->(Z a\/uT o=true)->H' a=some o)(hz:∀a,Z a->Z' a):FzL K H' Z' a xs:=by
 rcases h with⟨h,z⟩|⟨o,h⟩|h
 . exact .inl ⟨hk _ _ h (.inl z),hz _ z⟩
 . exact .inr (.inl ⟨o,hk _ _ h (.inr rfl)⟩)
 . exact .inr (.inr h)
theorem SqT.keep(h:SqT K H a xs)(hk:∀a o,H a=some o->uT o=true->H' a=some o):SqT K H' a xs:=by
 rcases h with(h|⟨o,h⟩)|h
 . exact .inl (.inl (hk _ _ h rfl))
 . exact .inl (.inr ⟨o,hk _ _ h rfl⟩)
 . exact .inr h
mutual
theorem Rep.keep:∀(t:T){v:V}{A:List Addr},Rep K cn H Z t v A->(∀a o,H a=some o->(a∈A\/Z a\/uT o=true)->H' a=some o)->(∀a,Z a->Z' a)->Rep K cn H' Z' t v A
 |.non,_,_,h,_,_=>by simpa only[Rep]using h
 |.bl _,_,_,h,_,_=>by simpa only[Rep]using h
 |.int _,_,_,h,_,_=>by simpa only[Rep]using h
 |.str _,_,_,h,_,_=>by simpa only[Rep]using h
 |.ty _,_,_,h,_,_=>by simpa only[Rep]using h
 |.err _ _,_,_,h,hk,_=>by simp only[Rep]at h⊢;obtain⟨a,C,dx,e1,e2,e3,e4,e5⟩:=h;exact⟨a,C,dx,e1,e2,e3,hk _ _ e4 (.inr (.inr rfl)),e5.imp_right λ⟨d,q1,q2⟩=>⟨d,q1,hk _ _ q2 (.inr (.inr rfl))⟩⟩
 |.lst true ts,v,A,h,hk,hz=>by simp only[Rep]at h⊢;obtain⟨a,vs,B,rfl,rfl,e,r⟩:=h;exact⟨a,vs,B,rfl,rfl,hk a _ e (.inl List.mem_cons_self),Reps.keep ts r (λb o q c=>hk b o q (c.imp_left (List.mem_cons_of_mem _))) hz⟩
 |.lst false ts,v,A,h,hk,hz=>by simp only[Rep]at h⊢;obtain⟨a,vs,rfl,rfl,e,r⟩:=h;exact⟨a,vs,rfl,rfl,e.keep (λb o q c=>hk b o q (.inr c)) hz,Reps.keep ts r hk hz⟩
 |.tup ts,v,A,h,hk,hz=>by simp only[Rep]at h⊢;obtain⟨a,vs,rfl,e,r⟩:=h;exact⟨a,vs,rfl,SqT.keep e (λb o q c=>hk b o q (.inr (.inr c))),Reps.keep ts r hk hz⟩
 |.ins true c ns ts,v,A,h,hk,hz=>by simp only[Rep]at h⊢;obtain⟨a,C,dx,vs,B,rfl,rfl,hc,e,l,r⟩:=h;exact⟨a,C,dx,vs,B,rfl,rfl,hc,hk a _ e (.inl List.mem_cons_self),l,Reps.keep ts r (λb o q c=>hk b o q (c.imp_left (List.mem_cons_of_mem _))) hz⟩
 |.ins false c ns ts,v,A,h,hk,hz=>by simp only[Rep]at h⊢;obtain⟨a,C,dx,vs,rfl,rfl,hc,e,z,l,r⟩:=h;exact⟨a,C,dx,vs,rfl,rfl,hc,hk a _ e (.inr (.inl z)),hz a z,l,Reps.keep ts r hk hz⟩
theorem Reps.keep:∀(ts:List T){vs:List V}{A:List Addr},Reps K cn H Z ts vs A->(∀a o,H a=some o->(a∈A\/Z a\/uT o=true)->H' a=some o)->(∀a,Z a->Z' a)->Reps K cn H' Z' ts vs A
 |[],_,_,h,_,_=>by simpa only[Reps]using h
 |t::ts,vs,A,h,hk,hz=>by simp only[Reps]at h⊢;obtain⟨v,r,B,C,rfl,rfl,h1,h2⟩:=h;exact⟨v,r,B,C,rfl,rfl,Rep.keep t h1 (λb o q c=>hk b o q (c.imp_left (List.mem_append_left _))) hz,Reps.keep ts h2 (λb o q c=>hk b o q (c.imp_left (List.mem_append_right _))) hz⟩
end
theorem Rep.same(h:Rep K cn H Z t v A)(s:Same H H')(hz:∀a,Z a->Z' a):Rep K cn H' Z' t v A:=Rep.keep t h (λa o q _=>s a o q) hz
theorem Reps.same(h:Reps K cn H Z t v A)(s:Same H H')(hz:∀a,Z a->Z' a):Reps K cn H' Z' t v A:=Reps.keep t h (λa o q _=>s a o q) hz
theorem cc3(h:H a=some o)(h':H b=some o')(i:uT o=true)(i':uT o'=false):a≠b:=by rintro rfl;rw[h]at h';cases h';rw[i]at i';cases i'
theorem Rep.upd(h:Rep K cn H Z t v A)(ha:H a=some o)(hi:uT o=false)(hA:a∉A)(hZ:¬Z a):Rep K cn (L2.upd H a o') Z t v A:=
 Rep.keep t h (λb u q c=>by
  rw[bA]
  . exact q
  . rcases c with c|c|c
    . rintro rfl;exact hA c
    . rintro rfl;exact hZ c
    . exact cc3 q ha c hi) (λ_ z=>z)
theorem Reps.upd(h:Reps K cn H Z t v A)(ha:H a=some o)(hi:uT o=false)(hA:a∉A)(hZ:¬Z a):Reps K cn (L2.upd H a o') Z t v A:=
 Reps.keep t h (λb u q c=>by
  rw[bA]
  . exact q
  . rcases c with c|c|c
    . rintro rfl;exact hA c
    . rintro rfl;exact hZ c
    . exact cc3 q ha c hi) (λ_ z=>z)
mutual
theorem Rep.frz:∀(t:T){v:V}{A:List Addr},Rep K cn H Z t v A->(∀a,Z a->Z' a)->(∀a∈A,Z' a)->Rep K cn H Z' (frz t) v []
 |.non,_,_,h,_,_=>by simp only[Rep,TL.frz]at h⊢;exact⟨h.1,trivial⟩
 |.bl _,_,_,h,_,_=>by simp only[Rep,TL.frz]at h⊢;exact⟨h.1,trivial⟩
 |.int _,_,_,h,_,_=>by simp only[Rep,TL.frz]at h⊢;exact⟨h.1,trivial⟩
 |.str _,_,_,h,_,_=>by simp only[Rep,TL.frz]at h⊢;exact⟨h.1,trivial⟩
 |.ty _,_,_,h,_,_=>by simp only[Rep,TL.frz]at h⊢;exact⟨h.1,trivial⟩
 |.err _ _,_,_,h,_,_=>by simp only[Rep,TL.frz]at h⊢;obtain⟨a,C,dx,e1,e2,e3,e4,e5⟩:=h;exact⟨a,C,dx,e1,trivial,e3,e4,e5⟩
 |.lst true ts,v,A,h,hz,hA=>by simp only[Rep,TL.frz]at h⊢;obtain⟨a,vs,B,rfl,rfl,e,r⟩:=h;exact⟨a,vs,rfl,trivial,.inl ⟨e,hA a List.mem_cons_self⟩,Reps.frz ts r hz λb hb=>hA b (List.mem_cons_of_mem _ hb)⟩
 |.lst false ts,v,A,h,hz,hA=>by simp only[Rep,TL.frz]at h⊢;obtain⟨a,vs,rfl,rfl,e,r⟩:=h;exact⟨a,vs,rfl,trivial,e.keep (λ_ _ q _=>q) hz,Reps.frz ts r hz hA⟩
 |.tup ts,v,A,h,hz,hA=>by simp only[Rep,TL.frz]at h⊢;obtain⟨a,vs,rfl,e,r⟩:=h;exact⟨a,vs,rfl,e,Reps.frz ts r hz hA⟩
 |.ins true c ns ts,v,A,h,hz,hA=>by simp only[Rep,TL.frz]at h⊢;obtain⟨a,C,dx,vs,B,rfl,rfl,hc,e,l,r⟩:=h;exact⟨a,C,dx,vs,rfl,trivial,hc,e,hA a List.mem_cons_self,l,Reps.frz ts r hz λb hb=>hA b (List.mem_cons_of_mem _ hb)⟩
 |.ins false c ns ts,v,A,h,hz,hA=>by simp only[Rep,TL.frz]at h⊢;obtain⟨a,C,dx,vs,rfl,rfl,hc,e,z,l,r⟩:=h;exact⟨a,C,dx,vs,rfl,trivial,hc,e,hz a z,l,Reps.frz ts r hz hA⟩
theorem Reps.frz:∀(ts:List T){vs:List V}{A:List Addr},Reps K cn H Z ts vs A->(∀a,Z a->Z' a)->(∀a∈A,Z' a)->Reps K cn H Z' (frzs ts) vs []
 |[],_,_,h,_,_=>by simp only[Reps,TL.frzs]at h⊢;exact⟨h.1,trivial⟩
 |t::ts,vs,A,h,hz,hA=>by simp only[Reps,TL.frzs]at h⊢;obtain⟨v,r,B,C,rfl,rfl,h1,h2⟩:=h;exact⟨v,r,[],[],rfl,rfl,Rep.frz t h1 hz λb hb=>hA b (List.mem_append_left _ hb),Reps.frz ts h2 hz λb hb=>hA b (List.mem_append_right _ hb)⟩
end
mutual
theorem Rep.any:∀(t:T){v:V}{A:List Addr},fJ t=true->Rep K cn H Z t v A->Rep K cn H Z' t v A
 |.non,_,_,_,h=>by simpa only[Rep]using h
 |.bl _,_,_,_,h=>by simpa only[Rep]using h
 |.int _,_,_,_,h=>by simpa only[Rep]using h
 |.str _,_,_,_,h=>by simpa only[Rep]using h
 |.ty _,_,_,_,h=>by simpa only[Rep]using h
 |.err _ _,_,_,_,h=>by simpa only[Rep]using h
 |.lst true ts,v,A,c,h=>by simp only[Rep,fJ,Bool.true_and]at h c⊢;obtain⟨a,vs,B,rfl,rfl,e,r⟩:=h;exact⟨a,vs,B,rfl,rfl,e,Reps.any ts c r⟩
 |.lst false ts,v,A,c,h=>by simp[fJ]at c
 |.tup ts,v,A,c,h=>by simp only[Rep,fJ]at h c⊢;obtain⟨a,vs,rfl,e,r⟩:=h;exact⟨a,vs,rfl,e,Reps.any ts c r⟩
 |.ins true cc ns ts,v,A,c,h=>by simp only[Rep,fJ,Bool.true_and]at h c⊢;obtain⟨a,C,dx,vs,B,rfl,rfl,hc,e,l,r⟩:=h;exact⟨a,C,dx,vs,B,rfl,rfl,hc,e,l,Reps.any ts c r⟩
 |.ins false cc ns ts,v,A,c,h=>by simp[fJ]at c
theorem Reps.any:∀(ts:List T){vs:List V}{A:List Addr},fS ts=true->Reps K cn H Z ts vs A->Reps K cn H Z' ts vs A
 |[],_,_,_,h=>by simpa only[Reps]using h
 |t::ts,vs,A,c,h=>by simp only[Reps,fS,Bool.and_eq_true]at h c⊢;obtain⟨v,r,B,C,rfl,rfl,h1,h2⟩:=h;exact⟨v,r,B,C,rfl,rfl,Rep.any t c.1 h1,Reps.any ts c.2 h2⟩
end
mutual
theorem Rep.bare:∀(t:T){v:V}{A:List Addr},dP t=true->Rep K cn H Z t v A->A=[]
 |.non,_,_,_,h=>by simp only[Rep]at h;exact h.2
 |.bl _,_,_,_,h=>by simp only[Rep]at h;exact h.2
 |.int _,_,_,_,h=>by simp only[Rep]at h;exact h.2
 |.str _,_,_,_,h=>by simp only[Rep]at h;exact h.2
 |.ty _,_,_,_,h=>by simp only[Rep]at h;exact h.2
 |.err _ _,_,_,_,h=>by simp only[Rep]at h;obtain⟨a,C,dx,e1,e2,e3,e4,e5⟩:=h;exact e2
 |.lst true ts,v,A,c,h=>by simp[dP]at c
 |.lst false ts,v,A,c,h=>by simp only[Rep]at h;obtain⟨a,vs,rfl,rfl,e,r⟩:=h;rfl
 |.tup ts,v,A,c,h=>by simp only[Rep,dP]at h c;obtain⟨a,vs,rfl,e,r⟩:=h;exact Reps.bare ts c r
 |.ins true cc ns ts,v,A,c,h=>by simp[dP]at c
 |.ins false cc ns ts,v,A,c,h=>by simp only[Rep]at h;obtain⟨a,C,dx,vs,rfl,rfl,_⟩:=h;rfl
theorem Reps.bare:∀(ts:List T){vs:List V}{A:List Addr},aR ts=true->Reps K cn H Z ts vs A->A=[]
 |[],_,_,_,h=>by simp only[Reps]at h;exact h.2
 |t::ts,vs,A,c,h=>by simp only[Reps,aR,Bool.and_eq_true]at h c;obtain⟨v,r,B,C,rfl,rfl,h1,h2⟩:=h;rw[Rep.bare t c.1 h1,Reps.bare ts c.2 h2];rfl
end
mutual
theorem Rep.dom:∀(t:T){v:V}{A:List Addr},Rep K cn H Z t v A->∀a∈A,∃o,H a=some o/\uT o=false
 |.non,_,_,h=>by simp only[Rep]at h;rw[h.2];intro a ha;cases ha
 |.bl _,_,_,h=>by simp only[Rep]at h;rw[h.2];intro a ha;cases ha
 |.int _,_,_,h=>by simp only[Rep]at h;rw[h.2];intro a ha;cases ha
 |.str _,_,_,h=>by simp only[Rep]at h;rw[h.2];intro a ha;cases ha
 |.ty _,_,_,h=>by simp only[Rep]at h;rw[h.2];intro a ha;cases ha
 |.err _ _,_,_,h=>by simp only[Rep]at h;obtain⟨a,C,dx,e1,e2,e3,e4,e5⟩:=h;rw[e2];intro a ha;cases ha
 |.lst true ts,v,A,h=>by
  simp only[Rep]at h;obtain⟨a,vs,B,rfl,rfl,e,r⟩:=h;intro b hb;rcases List.mem_cons.mp hb with rfl|hb
  . exact⟨_,e,rfl⟩
  . exact Reps.dom ts r b hb
 |.lst false ts,v,A,h=>by simp only[Rep]at h;obtain⟨a,vs,rfl,rfl,e,r⟩:=h;intro a ha;cases ha
 |.tup ts,v,A,h=>by simp only[Rep]at h;obtain⟨a,vs,rfl,e,r⟩:=h;exact Reps.dom ts r
 |.ins true cc ns ts,v,A,h=>by
  simp only[Rep]at h;obtain⟨a,C,dx,vs,B,rfl,rfl,hc,e,l,r⟩:=h;intro b hb;rcases List.mem_cons.mp hb with rfl|hb
  . exact⟨_,e,rfl⟩
  . exact Reps.dom ts r b hb
 |.ins false cc ns ts,v,A,h=>by simp only[Rep]at h;obtain⟨a,C,dx,vs,rfl,rfl,_⟩:=h;intro a ha;cases ha
theorem Reps.dom:∀(ts:List T){vs:List V}{A:List Addr},Reps K cn H Z ts vs A->∀a∈A,∃o,H a=some o/\uT o=false
 |[],_,_,h=>by simp only[Reps]at h;rw[h.2];intro a ha;cases ha
 |t::ts,vs,A,h=>by
  simp only[Reps]at h;obtain⟨v,r,B,C,rfl,rfl,h1,h2⟩:=h;intro a ha;rcases List.mem_append.mp ha with ha|ha
  . exact Rep.dom t h1 a ha
  . exact Reps.dom ts h2 a ha
end
theorem Reps.length:∀(ts:List T){vs:List V}{A:List Addr},Reps K cn H Z ts vs A->vs.length=ts.length
 |[],_,_,h=>by simp only[Reps]at h;rw[h.1];rfl
 |t::ts,vs,A,h=>by simp only[Reps]at h;obtain⟨v,r,B,C,rfl,rfl,h1,h2⟩:=h;simp[Reps.length ts h2]
theorem Reps.get:∀(ts:List T){vs:List V}{A:List Addr}{i:Nat}{t:T},Reps K cn H Z ts vs A->ts[i]?=some t->∃v B,vs[i]?=some v/\Rep K cn H Z t v B/\(∀b∈B,b∈A)/\B.Sublist A
 |[],_,_,_,_,h,e=>by simp at e
 |t::ts,vs,A,0,t',h,e=>by simp only[Reps]at h;obtain⟨v,r,B,C,rfl,rfl,h1,h2⟩:=h;simp at e;subst e;exact⟨v,B,rfl,h1,λb hb=>List.mem_append_left _ hb,List.sublist_append_left _ _⟩
 |t::ts,vs,A,i+1,t',h,e=>by simp only[Reps]at h;obtain⟨v,r,B,C,rfl,rfl,h1,h2⟩:=h;obtain⟨v',B',e1,e2,e3,e4⟩:=Reps.get ts (i:=i) h2 (by simpa using e);exact⟨v',B',by simpa using e1,e2,λb hb=>List.mem_append_right _ (e3 b hb),e4.trans (List.sublist_append_right _ _)⟩
theorem Reps.append:∀(ts:List T){us:List T}{vs ws:List V}{A B:List Addr},Reps K cn H Z ts vs A->Reps K cn H Z us ws B->Reps K cn H Z (ts++us) (vs++ws) (A++B)
 |[],us,vs,ws,A,B,h,h'=>by simp only[Reps]at h;obtain⟨rfl,rfl⟩:=h;exact h'
 |t::ts,us,vs,ws,A,B,h,h'=>by simp only[Reps,List.cons_append]at h⊢;obtain⟨v,r,C,D,rfl,rfl,h1,h2⟩:=h;exact⟨v,r++ws,C,D++B,rfl,by simp,h1,Reps.append ts h2 h'⟩
theorem Reps.one(h:Rep K cn H Z t v B):Reps K cn H Z [t] [v] B:=by simp only[Reps];exact⟨v,[],B,[],rfl,by simp,h,rfl,rfl⟩
theorem Reps.nil:Reps K cn H Z [] [] []:=by simp[Reps]
theorem Reps.take:∀(n:Nat)(ts:List T){vs:List V},Reps K cn H Z ts vs []->Reps K cn H Z (ts.take n) (vs.take n) []
 |0,ts,vs,h=>by simp[Reps]
 |n+1,[],vs,h=>by simp only[Reps]at h;obtain⟨rfl,_⟩:=h;simp[Reps]
 |n+1,t::ts,vs,h=>by
  simp only[Reps]at h;obtain⟨v,r,B,C,rfl,e,h1,h2⟩:=h;have eb:B=[]/\C=[]:=by simpa using e.symm
  obtain⟨rfl,rfl⟩:=eb;simp only[List.take_succ_cons,Reps];exact⟨v,r.take n,[],[],rfl,rfl,h1,Reps.take n ts h2⟩
theorem Reps.drop:∀(n:Nat)(ts:List T){vs:List V},Reps K cn H Z ts vs []->Reps K cn H Z (ts.drop n) (vs.drop n) []
 |0,ts,vs,h=>h
 |n+1,[],vs,h=>by simp only[Reps]at h;obtain⟨rfl,_⟩:=h;simp[Reps]
 |n+1,t::ts,vs,h=>by
  simp only[Reps]at h;obtain⟨v,r,B,C,rfl,e,h1,h2⟩:=h;have eb:B=[]/\C=[]:=by simpa using e.symm
  obtain⟨rfl,rfl⟩:=eb;simpa using Reps.drop n ts h2
end
end TL
namespace TL
open PySem PySem.Spec PyProof.Rows L2
abbrev St:=L2.St
theorem bw4(h:H p=none)(o:HO):Same H (L2.upd H p o):=λb u q=>by rw[bA (cU q h)];exact q
theorem cL{α:Type}{P:α->Prop}:∀b∈([]:List α),P b:=λ_ h=>nomatch h
def Slot(K:PySem.W.Frag)(cn:Str->Option Addr)(H:Hp)(Z:Addr->Prop)(o:Option T)(w:Option V)(A:List Addr):Prop:=
 match o with
 |none=>A=[]
 |some t=>∃v,w=some v/\Rep K cn H Z t v A
def Slots(K:PySem.W.Frag)(cn:Str->Option Addr)(H:Hp)(Z:Addr->Prop):Fr->St->List (List Addr)->Prop
 |[],σ,As=>σ=[]/\As=[]
 |o::ρ,σ,As=>∃w σ' A As',σ=w::σ'/\As=A::As'/\Slot K cn H Z o w A/\Slots K cn H Z ρ σ' As'
abbrev gC:=List (Nat×V)
structure Frm (Jn:gC) (K:PySem.W.Frag) (cn:Str->Option Addr) (H:Hp) (Z:Addr->Prop) (ρ:Fr) (σ:St) (As:List (List Addr)):Prop where
 sl:Slots K cn H Z ρ σ As
 nd:As.flatten.Nodup
 nz:∀a∈As.flatten,¬Z a
 zi:∀a,Z a->H a≠none
 pn:∀p∈Jn,σ[p.1]?=some (some p.2)
structure Ev (As:List (List Addr)) (H:Hp) (Z:Addr->Prop) (As':List (List Addr)) (H':Hp) (Z':Addr->Prop):Prop where
 keep:∀a o,H a=some o->a∉As.flatten->H' a=some o
 own:∀a∈As'.flatten,a∈As.flatten\/H a=none
 zz:∀a,Z a->Z' a
 zn:∀a,Z' a->Z a\/a∈As.flatten\/H a=none
 dom:∀a,H' a=none->H a=none
theorem Ev.refl:Ev As H Z As H Z:=
 ⟨λ_ _ h _=>h,λ_ h=>.inl h,λ_ h=>h,λ_ h=>.inl h,λ_ h=>h⟩
theorem Ev.trans(a:Ev As H Z As1 H1 Z1)(b:Ev As1 H1 Z1 As2 H2 Z2):Ev As H Z As2 H2 Z2 where
 keep:=λx o h n=>b.keep x o (a.keep x o h n) λq=>by
  rcases a.own x q with q|q
  . exact n q
  . rw[h]at q;cases q
 own:=λx h=>by
  rcases b.own x h with q|q
  . exact a.own x q
  . exact .inr (a.dom x q)
 zz:=λx h=>b.zz x (a.zz x h)
 zn:=λx h=>by
  rcases b.zn x h with q|q|q
  . exact a.zn x q
  . exact .inr (a.own x q)
  . exact .inr (.inr (a.dom x q))
 dom:=λx h=>a.dom x (b.dom x h)
structure Post (K:PySem.W.Frag) (cn:Str->Option Addr) (As:List (List Addr)) (H:Hp) (Z:Addr->Prop) (mv:List Nat) (H':Hp) (Z':Addr->Prop) (t:T) (v:V) (B:List Addr):Prop where
 same:Same H H'
 zz:∀a,Z a->Z' a
 zn:∀a,Z' a->Z a\/H a=none
 zi:∀a,Z' a->H' a≠none
 rep:Rep K cn H' Z' t v B
 nd:B.Nodup
 bz:∀b∈B,¬Z' b
 bn:∀b∈B,H b=none\/∃i∈mv,b∈As.getD i []
structure PostB (K:PySem.W.Frag) (cn:Str->Option Addr) (H:Hp) (Z:Addr->Prop) (H':Hp) (Z':Addr->Prop) (t:T) (v:V) (B:List Addr):Prop where
 same:Same H H'
 zz:∀a,Z a->Z' a
 zn:∀a,Z' a->Z a\/H a=none
 zi:∀a,Z' a->H' a≠none
 rep:Rep K cn H' Z' t v B
structure XPost (K:PySem.W.Frag) (cn:Str->Option Addr) (As:List (List Addr)) (H:Hp) (Z:Addr->Prop) (x:Exc) (C:Addr) (a:Option Addr) (H':Hp) (Z':Addr->Prop):Prop where
 ev:Ev As H Z [] H' Z'
 cls:cn x.c=some C
 zi:∀a,Z' a->H' a≠none
 flds:af7 H' a x.fs
section
variable (Jn : gC) (K : PySem.W.Frag) (cn : Str → Option Addr) (E : XK)
def WpX(As:List (List Addr))(H:Hp)(Z:Addr->Prop)(x:Exc):Prop:=∀C a H' Z',XPost K cn As H Z x C a H' Z'->E (.ref C) a H'
def WpE(As:List (List Addr))(H:Hp)(Z:Addr->Prop)(mv:List Nat)(Q:VK):Res T->Prop
 |.ok t=>∀v H' Z' B,Post K cn As H Z mv H' Z' t v B->Q v H'
 |.ex x=>WpX K cn E As H Z x
 |.no=>False
def WpB(As:List (List Addr))(H:Hp)(Z:Addr->Prop)(Q:VK):Res T->Prop
 |.ok t=>∀v H' Z' B,PostB K cn H Z H' Z' t v B->Q v H'
 |.ex x=>WpX K cn E As H Z x
 |.no=>False
structure PostT (H:Hp) (Z:Addr->Prop) (H':Hp) (Z':Addr->Prop):Prop where
 same:Same H H'
 zz:∀a,Z a->Z' a
 zn:∀a,Z' a->Z a\/H a=none
 zi:∀a,Z' a->H' a≠none
def WpT(As:List (List Addr))(H:Hp)(Z:Addr->Prop)(Q:Bool->Hp->Prop):Res Bool->Prop
 |.ok b=>∀H' Z',PostT H Z H' Z'->Q b H'
 |.ex x=>WpX K cn E As H Z x
 |.no=>False
structure es0 (As:List (List Addr)) (H:Hp) (Z:Addr->Prop) (t:T) (v:V) (H':Hp) (Z':Addr->Prop) (B:List Addr):Prop where
 ev:Ev As H Z [B] H' Z'
 rep:Rep K cn H' Z' t v B
 nd:B.Nodup
 bz:∀b∈B,¬Z' b
 zi:∀a,Z' a->H' a≠none
def Wp(As:List (List Addr))(H:Hp)(Z:Addr->Prop)(D:wY):bO->Prop
 |.nx ρ=>∀σ' As' H' Z',Frm Jn K cn H' Z' ρ σ' As'->Ev As H Z As' H' Z'->D.nx σ' H'
 |.bk ρ=>∀σ' As' H' Z',Frm Jn K cn H' Z' ρ σ' As'->Ev As H Z As' H' Z'->D.bk σ' H'
 |.ct ρ=>∀σ' As' H' Z',Frm Jn K cn H' Z' ρ σ' As'->Ev As H Z As' H' Z'->D.ct σ' H'
 |.rt t=>∀v H' Z' B,es0 K cn As H Z t v H' Z' B->D.rt v H'
 |.rm ρ t=>∀v σ' As' H' Z',Frm Jn K cn H' Z' ρ σ' As'->Ev As H Z As' H' Z'->Rep K cn H' Z' t v []->D.rt v H'
 |.ex x=>WpX K cn E As H Z x
 |.no=>False
def RE(mv:List Nat)(te:TE)(d:Fr->Res T):Prop:=∀As H Z ρ σ,Frm Jn K cn H Z ρ σ As->∀Q,WpE K cn E As H Z mv Q (d ρ)->te σ H Q
def RB(te:TE)(d:Fr->Res T):Prop:=∀As H Z ρ σ,Frm Jn K cn H Z ρ σ As->∀Q,WpB K cn E As H Z Q (d ρ)->te σ H Q
def RT(tt:TT)(d:Fr->Res Bool):Prop:=∀As H Z ρ σ,Frm Jn K cn H Z ρ σ As->∀Q,WpT K cn E As H Z Q (d ρ)->tt σ H Q
def RS(ts:TS)(d:Fr->bO):Prop:=∀As H Z ρ σ,Frm Jn K cn H Z ρ σ As->∀D,Wp Jn K cn E As H Z D (d ρ)->ts D σ H
end
section
variable {Jn : gC} {K : PySem.W.Frag} {cn : Str → Option Addr} {E : XK} {As As1 : List (List Addr)} {H H1 : Hp} {Z Z1 : Addr → Prop} {ρ : Fr} {σ : St}
theorem WpX.ev(h:WpX K cn E As H Z x)(e:Ev As H Z As1 H1 Z1):WpX K cn E As1 H1 Z1 x:=λC a H' Z' p=>h C a H' Z' ⟨e.trans p.ev,p.cls,p.zi,p.flds⟩
theorem Wp.ev(h:Wp Jn K cn E As H Z D o)(e:Ev As H Z As1 H1 Z1):Wp Jn K cn E As1 H1 Z1 D o:=by
 cases o with
 |nx ρ=>exact λσ' As' H' Z' f q=>h σ' As' H' Z' f (e.trans q)
 |bk ρ=>exact λσ' As' H' Z' f q=>h σ' As' H' Z' f (e.trans q)
 |ct ρ=>exact λσ' As' H' Z' f q=>h σ' As' H' Z' f (e.trans q)
 |rt t=>exact λv H' Z' B p=>h v H' Z' B ⟨e.trans p.ev,p.rep,p.nd,p.bz,p.zi⟩
 |rm ρ t=>exact λv σ' As' H' Z' f q r=>h v σ' As' H' Z' f (e.trans q) r
 |ex x=>exact WpX.ev h e
 |no=>exact h
structure Mo (H:Hp) (Z:Addr->Prop) (H':Hp) (Z':Addr->Prop):Prop where
 same:Same H H'
 zz:∀a,Z a->Z' a
 zn:∀a,Z' a->Z a\/H a=none
 zi:∀a,Z' a->H' a≠none
theorem Mo.ev(m:Mo H Z H' Z'):Ev As H Z As H' Z':=
 ⟨λa o h _=>m.same a o h,λ_ h=>.inl h,m.zz,λa h=>(m.zn a h).imp_right .inr,λa h=>m.same.free h⟩
theorem Mo.trans(a:Mo H Z H1 Z1)(b:Mo H1 Z1 H2 Z2):Mo H Z H2 Z2:=
 ⟨a.same.trans b.same,λx h=>b.zz x (a.zz x h),λx h=>by
  rcases b.zn x h with q|q
  . exact a.zn x q
  . exact .inr (a.same.free q),b.zi⟩
theorem Frm.mo0(F:Frm Jn K cn H Z ρ σ As):Mo H Z H Z:=⟨Same.refl _,λ_ h=>h,λ_ h=>.inl h,F.zi⟩
theorem Post.mo(p:Post K cn As H Z mv H' Z' t v B):Mo H Z H' Z':=⟨p.same,p.zz,p.zn,p.zi⟩
theorem PostB.mo(p:PostB K cn H Z H' Z' t v B):Mo H Z H' Z':=⟨p.same,p.zz,p.zn,p.zi⟩
theorem PostT.mo(p:PostT H Z H' Z'):Mo H Z H' Z':=⟨p.same,p.zz,p.zn,p.zi⟩
theorem Mo.postT(p:Mo H Z H' Z'):PostT H Z H' Z':=⟨p.same,p.zz,p.zn,p.zi⟩
theorem Slot.mo(h:Slot K cn H Z o w A)(s:Same H H')(hz:∀a,Z a->Z' a):Slot K cn H' Z' o w A:=by
 cases o with
 |none=>exact h
 |some t=>obtain⟨v,e,r⟩:=h;exact⟨v,e,r.same s hz⟩
theorem Slots.mo(s:Same H H')(hz:∀a,Z a->Z' a):∀{ρ:Fr}{σ:St}{As:List (List Addr)},Slots K cn H Z ρ σ As->Slots K cn H' Z' ρ σ As
 |[],_,_,h=>h
 |o::ρ,_,_,h=>by obtain⟨w,σ',A,As',rfl,rfl,h1,h2⟩:=h;exact⟨w,σ',A,As',rfl,rfl,h1.mo s hz,Slots.mo s hz h2⟩
theorem Slots.dom:∀{ρ:Fr}{σ:St}{As:List (List Addr)},Slots K cn H Z ρ σ As->∀a∈As.flatten,∃o,H a=some o/\uT o=false
 |[],_,_,h,a,ha=>by obtain⟨rfl,rfl⟩:=h;simp at ha
 |o::ρ,_,_,h,a,ha=>by
  obtain⟨w,σ',A,As',rfl,rfl,h1,h2⟩:=h;rw[List.flatten_cons,List.mem_append]at ha;rcases ha with ha|ha
  . cases o with
    |none=>have:A=[]:=h1;subst this;cases ha
    |some t=>obtain⟨v,e,r⟩:=h1;exact r.dom t a ha
  . exact Slots.dom h2 a ha
theorem Frm.mo(F:Frm Jn K cn H Z ρ σ As)(m:Mo H Z H' Z'):Frm Jn K cn H' Z' ρ σ As:=by
 refine⟨F.sl.mo m.same m.zz,F.nd,λa ha z=>?_,m.zi,F.pn⟩;rcases m.zn a z with q|q
 . exact F.nz a ha q
 . obtain⟨o,e,_⟩:=F.sl.dom a ha;rw[e]at q;cases q
theorem WpE.mo(F:Frm Jn K cn H Z ρ σ As)(h:WpE K cn E As H Z mv Q r)(m:Mo H Z H' Z'):WpE K cn E As H' Z' mv Q r:=by
 cases r with
 |ok t=>exact λv H2 Z2 B p=>h v H2 Z2 B ⟨m.same.trans p.same,λa q=>p.zz a (m.zz a q),(m.trans p.mo).zn,p.zi,p.rep,p.nd,p.bz,λb hb=>(p.bn b hb).imp_left m.same.free⟩
 |ex x=>exact WpX.ev h m.ev
 |no=>exact h
theorem WpT.mo(h:WpT K cn E As H Z Q r)(m:Mo H Z H' Z'):WpT K cn E As H' Z' Q r:=by
 cases r with
 |ok b=>exact λH2 Z2 p=>h H2 Z2 (m.trans p.mo).postT
 |ex x=>exact WpX.ev h m.ev
 |no=>exact h
theorem Slots.get:∀{ρ:Fr}{σ:St}{As:List (List Addr)}{i:Nat}{t:T},Slots K cn H Z ρ σ As->ρ[i]?=some (some t)->∃v,σ[i]?=some (some v)/\Rep K cn H Z t v (As.getD i [])
 |[],_,_,_,_,h,e=>by simp at e
 |o::ρ,_,_,0,t,h,e=>by obtain⟨w,σ',A,As',rfl,rfl,h1,h2⟩:=h;simp at e;subst e;obtain⟨v,rfl,r⟩:=h1;exact⟨v,rfl,r⟩
 |o::ρ,_,_,i+1,t,h,e=>by obtain⟨w,σ',A,As',rfl,rfl,h1,h2⟩:=h;obtain⟨v,e1,e2⟩:=Slots.get (i:=i) h2 (by simpa using e);exact⟨v,by simpa using e1,by simpa using e2⟩
theorem Slots.set(r:Rep K cn H Z t v B):∀{ρ:Fr}{σ:St}{As:List (List Addr)}(i:Nat),Slots K cn H Z ρ σ As->Slots K cn H Z (ρ.set i (some t)) (σ.set i (some v)) (As.set i B)
 |[],_,_,_,h=>by obtain⟨rfl,rfl⟩:=h;exact⟨rfl,rfl⟩
 |o::ρ,_,_,0,h=>by obtain⟨w,σ',A,As',rfl,rfl,h1,h2⟩:=h;exact⟨some v,σ',B,As',rfl,rfl,⟨v,rfl,r⟩,h2⟩
 |o::ρ,_,_,i+1,h=>by obtain⟨w,σ',A,As',rfl,rfl,h1,h2⟩:=h;exact⟨w,σ'.set i (some v),A,As'.set i B,rfl,rfl,h1,Slots.set r i h2⟩
theorem Slots.kill:∀{ρ:Fr}{σ:St}{As:List (List Addr)}(i:Nat),Slots K cn H Z ρ σ As->Slots K cn H Z (ρ.set i none) σ (As.set i [])
 |[],_,_,_,h=>by obtain⟨rfl,rfl⟩:=h;exact⟨rfl,rfl⟩
 |o::ρ,_,_,0,h=>by obtain⟨w,σ',A,As',rfl,rfl,h1,h2⟩:=h;exact⟨w,σ',[],As',rfl,rfl,rfl,h2⟩
 |o::ρ,_,_,i+1,h=>by obtain⟨w,σ',A,As',rfl,rfl,h1,h2⟩:=h;exact⟨w,σ',A,As'.set i [],rfl,rfl,h1,Slots.kill i h2⟩
theorem Slots.kill2(o:Option V):∀{ρ:Fr}{σ:St}{As:List (List Addr)}(i:Nat),Slots K cn H Z ρ σ As->Slots K cn H Z (ρ.set i none) (σ.set i o) (As.set i [])
 |[],_,_,_,h=>by obtain⟨rfl,rfl⟩:=h;exact⟨rfl,rfl⟩
 |o::ρ,_,_,0,h=>by obtain⟨w,σ',A,As',rfl,rfl,h1,h2⟩:=h;exact⟨_,σ',[],As',rfl,rfl,rfl,h2⟩
 |o::ρ,_,_,i+1,h=>by obtain⟨w,σ',A,As',rfl,rfl,h1,h2⟩:=h;exact⟨w,_,A,As'.set i [],rfl,rfl,h1,Slots.kill2 _ i h2⟩
theorem eD:∀{As:List (List Addr)}{i:Nat},a∈(As.set i B).flatten->a∈B\/a∈As.flatten
 |[],_,h=>by simp at h
 |A::As,0,h=>by rw[List.set_cons_zero,List.flatten_cons,List.mem_append]at h;rw[List.flatten_cons,List.mem_append];exact h.imp_right .inr
 |A::As,i+1,h=>by
  rw[List.set_cons_succ,List.flatten_cons,List.mem_append]at h;rw[List.flatten_cons,List.mem_append];rcases h with h|h
  . exact .inr (.inl h)
  . exact(eD h).imp_right .inr
theorem mM(hB:B.Nodup):∀{As:List (List Addr)}{i:Nat},As.flatten.Nodup->(∀b∈B,b∈As.flatten->b∈As.getD i [])->(As.set i B).flatten.Nodup
 |[],_,h,_=>h
 |A::As,0,h,d=>by rw[List.flatten_cons,List.nodup_append]at h;rw[List.set_cons_zero,List.flatten_cons,List.nodup_append];refine⟨hB,h.2.1,λb hb c hc e=>?_⟩;subst e;have q:=d b hb (by rw[List.flatten_cons,List.mem_append];exact .inr hc);exact h.2.2 b (by simpa using q) b hc rfl
 |A::As,i+1,h,d=>by
  rw[List.flatten_cons,List.nodup_append]at h;rw[List.set_cons_succ,List.flatten_cons,List.nodup_append];have d':∀b∈B,b∈As.flatten->b∈As.getD i []:=λb hb hc=>by have q:=d b hb (by rw[List.flatten_cons,List.mem_append];exact .inr hc);simpa using q
  refine⟨h.1,mM hB h.2.1 d',λa ha c hc e=>?_⟩;subst e;rcases eD hc with q|q
  . have z:=d a q (by rw[List.flatten_cons,List.mem_append];exact .inl ha);have z':a∈As.getD i []:=by simpa using z
    have z2:a∈As.flatten:=by
     rw[List.getD_eq_getElem?_getD]at z';cases e:As[i]? with
     |none=>rw[e]at z';cases z'
     |some C=>rw[e]at z';exact List.mem_flatten.mpr ⟨C,List.mem_of_getElem? e,z'⟩
    exact h.2.2 a ha a z2 rfl
  . exact h.2.2 a ha a q rfl
theorem bI(h:a∈As.getD i []):a∈As.flatten:=by
 rw[List.getD_eq_getElem?_getD]at h;cases e:As[i]? with
 |none=>rw[e]at h;cases h
 |some C=>rw[e]at h;exact List.mem_flatten.mpr ⟨C,List.mem_of_getElem? e,h⟩
def sM(Jn:gC)(i:Nat):Bool:=Jn.all λp=>!(p.1==i)
theorem aa2(h:sM Jn i=true)(o:Option V)(q:∀p∈Jn,σ[p.1]?=some (some p.2)):∀p∈Jn,(σ.set i o)[p.1]?=some (some p.2):=λp hp=>by unfold sM at h;rw[List.all_eq_true]at h;have:=h p hp;rw[List.getElem?_set_ne (by intro z;simp[z]at this)];exact q p hp
theorem Frm.set(F:Frm Jn K cn H Z ρ σ As)(r:Rep K cn H Z t v B)(nd:B.Nodup)(bz:∀b∈B,¬Z b)(i:Nat)(fr:∀b∈B,b∈As.flatten->b∈As.getD i [])(hJ:sM Jn i=true):Frm Jn K cn H Z (ρ.set i (some t)) (σ.set i (some v)) (As.set i B):=
 ⟨F.sl.set r i,mM nd F.nd fr,λa ha=>(eD ha).elim (bz a) (F.nz a),F.zi,aa2 hJ _ F.pn⟩
theorem Frm.kill(F:Frm Jn K cn H Z ρ σ As)(i:Nat):Frm Jn K cn H Z (ρ.set i none) σ (As.set i []):=
 ⟨F.sl.kill i,mM List.nodup_nil F.nd (λb hb=>by cases hb),λa ha=>(eD ha).elim (λq=>by cases q) (F.nz a),F.zi,F.pn⟩
def kills:List Nat->Fr->Fr
 |[],ρ=>ρ
 |i::is,ρ=>kills is (ρ.set i none)
def jD:List Nat->List (List Addr)->List (List Addr)
 |[],As=>As
 |i::is,As=>jD is (As.set i [])
theorem Frm.kills(mv:List Nat):∀{ρ:Fr}{As:List (List Addr)},Frm Jn K cn H Z ρ σ As->Frm Jn K cn H Z (TL.kills mv ρ) σ (jD mv As):=by
 induction mv with
 |nil=>exact λF=>F
 |cons i is ih=>exact λF=>ih (F.kill i)
theorem iC:∀{As:List (List Addr)},a∈(jD mv As).flatten->a∈As.flatten:=by
 induction mv with
 |nil=>exact λh=>h
 |cons i is ih=>exact λh=>(eD (ih h)).elim (λq=>by cases q) id
theorem ak9:∀{As:List (List Addr)},As.flatten.Nodup->i∈mv->a∈As.getD i []->a∉(jD mv As).flatten:=by
 induction mv with
 |nil=>exact λ_ h=>by cases h
 |cons j js ih=>
  intro As nd hi ha hm;by_cases e:i=j
  . subst e;have h1:=iC (mv:=js) (As:=As.set i []) hm;have:∀{As:List (List Addr)}{i:Nat},As.flatten.Nodup->a∈As.getD i []->a∉(As.set i []).flatten:=by
     intro As;induction As with
     |nil=>intro i _ h;simp at h
     |cons A As ih2=>
      intro i nd h hm;rw[List.flatten_cons,List.nodup_append]at nd;cases i with
      |zero=>rw[List.set_cons_zero,List.flatten_cons,List.nil_append]at hm;exact nd.2.2 a (by simpa using h) a hm rfl
      |succ i=>
       rw[List.set_cons_succ,List.flatten_cons,List.mem_append]at hm;have h':a∈As.getD i []:=by simpa using h
       rcases hm with hm|hm
       . exact nd.2.2 a hm a (bI h') rfl
       . exact ih2 nd.2.1 h' hm
    exact this nd ha h1
  . have hi':i∈js:=(List.mem_cons.mp hi).resolve_left e;refine ih (As:=As.set j []) (mM List.nodup_nil nd (λb hb=>by cases hb)) hi' ?_ hm;rw[List.getD_eq_getElem?_getD,List.getElem?_set_ne (Ne.symm e),<-List.getD_eq_getElem?_getD];exact ha
def er0(i:Nat)(ρ:Fr):Fr:=match ρ[i]? with
 |some (some t)=>ρ.set i (some (frz t))
 |_=>ρ
end
end TL
namespace TL
open PySem PySem.Spec PyProof.Rows L2
section
variable {Jn : gC} {K : PySem.W.Frag} {cn : Str → Option Addr} {E : XK}
theorem WpB.wpE(w:WpB K cn E As H Z Q r):WpE K cn E As H Z mv Q r:=by
 cases r with
 |ok t=>exact λv H' Z' B p=>w v H' Z' B ⟨p.same,p.zz,p.zn,p.zi,p.rep⟩
 |ex x=>exact w
 |no=>exact w
theorem RE.rb(h:RE Jn K cn E mv te d):RB Jn K cn E te d:=λAs H Z ρ σ F Q w=>h As H Z ρ σ F Q w.wpE
def aB(i:Nat):Fr->Res T:=λρ=>match ρ[i]? with
 |some (some t)=>.ok t
 |_=>.no
theorem de7(i:Nat):RB Jn K cn E (xA i) (aB i):=λAs H Z ρ σ F Q w=>by
 unfold aB at w;cases e:ρ[i]? with
 |none=>rw[e]at w;exact False.elim w
 |some o=>
  rw[e]at w;cases o with
  |none=>exact False.elim w
  |some t=>obtain⟨v,es,r⟩:=F.sl.get e;exact⟨v,es,w v H Z _ ⟨Same.refl _,λ_ h=>h,λ_ h=>.inl h,F.zi,r⟩⟩
theorem ey0(i:Nat):RE Jn K cn E [i] (xA i) (aB i):=λAs H Z ρ σ F Q w=>by
 unfold aB at w;cases e:ρ[i]? with
 |none=>rw[e]at w;exact False.elim w
 |some o=>
  rw[e]at w;cases o with
  |none=>exact False.elim w
  |some t=>
   obtain⟨v,es,r⟩:=F.sl.get e;refine⟨v,es,w v H Z _ ⟨Same.refl _,λ_ h=>h,λ_ h=>.inl h,F.zi,r,?_,λb hb=>F.nz b (bI hb),λb hb=>.inr ⟨i,List.mem_cons_self,hb⟩⟩⟩;have nd:=F.nd;rw[List.getD_eq_getElem?_getD];cases q:As[i]? with
   |none=>exact List.nodup_nil
   |some C=>exact List.Nodup.sublist (List.sublist_flatten_of_mem (List.mem_of_getElem? q)) nd
def bG(d:Fr->Res T):Fr->Res T:=λρ=>(d ρ).bind λt=>if dP t=true then .ok t else .no
theorem RB.chk(h:RB Jn K cn E te d):RE Jn K cn E [] te (bG d):=λAs H Z ρ σ F Q w=>h As H Z ρ σ F Q (by
 unfold bG at w;cases e:d ρ with
 |ok t=>
  rw[e]at w;intro v H' Z' B p;by_cases c:dP t=true
  . simp only[Res.bind,if_pos c]at w;have:=p.rep.bare t c;subst this;exact w v H' Z' [] ⟨p.same,p.zz,p.zn,p.zi,p.rep,List.nodup_nil,cL,cL⟩
  . simp only[Res.bind,if_neg c]at w;exact False.elim w
 |ex x=>rw[e]at w;exact w
 |no=>rw[e]at w;exact w)
def vD(d:Fr->Res T):Fr->Res T:=λρ=>(d ρ).bind λt=>.ok (frz t)
theorem RE.frz{te:TE}{d:Fr->Res T}(h:RE Jn K cn E [] te d):RE Jn K cn E [] te (vD d):=λAs H Z ρ σ F Q w=>h As H Z ρ σ F Q (by
 unfold vD at w;cases e:d ρ with
 |ok t=>
  rw[e]at w;intro v H' Z' B p;refine w v H' (λa=>Z' a\/a∈B) [] ⟨p.same,λa h=>.inl (p.zz a h),λa h=>?_,λa h=>?_,Rep.frz t p.rep (λa h=>.inl h) (λa h=>.inr h),List.nodup_nil,cL,cL⟩
  . rcases h with h|h
    . exact p.zn a h
    . rcases p.bn a h with q|⟨i,q,_⟩
      . exact .inr q
      . cases q
  . rcases h with h|h
    . exact p.zi a h
    . obtain⟨o,q,_⟩:=p.rep.dom t a h;rw[q];exact(λz=>nomatch z)
 |ex x=>rw[e]at w;exact w
 |no=>rw[e]at w;exact w)
def dC(t:T):Fr->Res T:=λ_=>.ok t
theorem bi4(h:∀H Z,Rep K cn H Z t v []):RE Jn K cn E [] (tC v) (dC t):=λAs H Z ρ σ F Q w=>
 w v H Z [] ⟨Same.refl _,λ_ h=>h,λ_ h=>.inl h,F.zi,h H Z,List.nodup_nil,cL,cL⟩
theorem dt7:RE Jn K cn E [] (tC (.int i)) (dC (.int i)):=bi4 λH Z=>by simp[Rep]
theorem dz6:RE Jn K cn E [] (tC (.str i)) (dC (.str i)):=bi4 λH Z=>by simp[Rep]
theorem et0:RE Jn K cn E [] (tC (.bl i)) (dC (.bl i)):=bi4 λH Z=>by simp[Rep]
theorem dz5:RE Jn K cn E [] (tC .non) (dC .non):=bi4 λH Z=>by simp[Rep]
theorem ep1:RE Jn K cn E [] (tC (.ty n)) (dC (.ty n)):=bi4 λH Z=>by simp[Rep]
def qL(K:PySem.W.Frag)(cn:Str->Option Addr)(r:R2)(f:T->T->Res T):Prop:=
 ∀(E:XK)(As:List (List Addr))(H:Hp)(Z:Addr->Prop)(t u:T)(x y:V)(A B:List Addr)(Q:VK),(∀a,Z a->H a≠none)->Rep K cn H Z t x A->Rep K cn H Z u y B->WpE K cn E As H Z [] Q (f t u)->r x y H Q
def aE(f:T->T->Res T)(a b:Fr->Res T):Fr->Res T:=λρ=>(a ρ).bind λx=>(b ρ).bind λy=>f x y
theorem eu3(hr:qL K cn r f)(ha:RB Jn K cn E ta a)(hb:RB Jn K cn E tb b):RE Jn K cn E [] (tOp r ta tb) (aE f a b):=λAs H Z ρ σ F Q w=>by
 unfold aE at w;refine ha As H Z ρ σ F _ ?_;cases e:a ρ with
 |ok t=>
  rw[e]at w;intro v H1 Z1 B p;refine hb As H1 Z1 ρ σ (F.mo p.mo) _ ?_;simp only[Res.bind]at w;cases e2:b ρ with
  |ok u=>rw[e2]at w;intro v2 H2 Z2 B2 p2;exact hr E As H2 Z2 t u v v2 B B2 Q p2.zi (p.rep.same p2.same p2.zz) p2.rep (w.mo F (p.mo.trans p2.mo))
  |ex x=>rw[e2]at w;exact WpX.ev w p.mo.ev
  |no=>rw[e2]at w;exact w
 |ex x=>rw[e]at w;exact w
 |no=>rw[e]at w;exact w
def cS(f:T->Res T)(a:Fr->Res T):Fr->Res T:=λρ=>(a ρ).bind f
def R1R(K:PySem.W.Frag)(cn:Str->Option Addr)(r:V->Hp->VK->Prop)(f:T->Res T):Prop:=
 ∀(E:XK)(As:List (List Addr))(H:Hp)(Z:Addr->Prop)(t:T)(x:V)(A:List Addr)(Q:VK),(∀a,Z a->H a≠none)->Rep K cn H Z t x A->WpE K cn E As H Z [] Q (f t)->r x H Q
theorem eo1(hr:R1R K cn r f)(ha:RB Jn K cn E ta a):RE Jn K cn E [] (tUn r ta) (cS f a):=λAs H Z ρ σ F Q w=>by
 unfold cS at w;refine ha As H Z ρ σ F _ ?_;cases e:a ρ with
 |ok t=>rw[e]at w;exact λv H1 Z1 B p=>hr E As H1 Z1 t v B Q p.zi p.rep (WpE.mo F w p.mo)
 |ex x=>rw[e]at w;exact w
 |no=>rw[e]at w;exact w
def tH(f g:T->T->Res T)(a b c:Fr->Res T):Fr->Res T:=λρ=>(a ρ).bind λx=>(b ρ).bind λy=>(f x y).bind λk=>match k with
 |.bl true=>(c ρ).bind λz=>g y z
 |.bl false=>.ok (.bl false)
 |_=>.no
theorem WpE.bl(w:WpE K cn E As H Z [] Q (.ok (.bl b)))(zi:∀a,Z a->H a≠none):Q (.bl b) H:=
 w (.bl b) H Z [] ⟨Same.refl _,λ_ h=>h,λ_ h=>.inl h,zi,by simp[Rep],List.nodup_nil,cL,cL⟩
theorem ch5(hr:qL K cn r f)(hr':qL K cn r' g)(ha:RB Jn K cn E ta a)(hb:RB Jn K cn E tb b)(hc:RB Jn K cn E tc c):RE Jn K cn E [] (bj4 r r' ta tb tc) (tH f g a b c):=λAs H Z ρ σ F Q w=>by
 unfold tH at w;refine ha As H Z ρ σ F _ ?_;cases e:a ρ with
 |ok t=>
  rw[e]at w;intro v H1 Z1 B p;refine hb As H1 Z1 ρ σ (F.mo p.mo) _ ?_;simp only[Res.bind]at w;cases e2:b ρ with
  |ok u=>
   rw[e2]at w;intro v2 H2 Z2 B2 p2;refine hr E As H2 Z2 t u v v2 B B2 _ p2.zi (p.rep.same p2.same p2.zz) p2.rep ?_;simp only at w;cases e3:f t u with
   |ok k=>
    rw[e3]at w;intro v3 H3 Z3 B3 p3;have m3:=(p.mo.trans p2.mo).trans p3.mo;cases k with
    |bl k=>
     have q:=p3.rep;simp only[Rep]at q;obtain⟨rfl,rfl⟩:=q;refine⟨k,rfl,?_⟩;cases k with
     |true=>
      rw[if_pos rfl];refine hc As H3 Z3 ρ σ (F.mo m3) _ ?_;simp only at w;cases e4:c ρ with
      |ok z=>rw[e4]at w;intro v4 H4 Z4 B4 p4;exact hr' E As H4 Z4 u z v2 v4 B2 B4 Q p4.zi (p2.rep.same (p3.same.trans p4.same) (λa h=>p4.zz a (p3.zz a h))) p4.rep (WpE.mo F w (m3.trans p4.mo))
      |ex x=>rw[e4]at w;exact WpX.ev w m3.ev
      |no=>rw[e4]at w;exact w
     |false=>rw[if_neg (by decide)];exact WpE.bl (WpE.mo F w m3) p3.zi
    |_=>exact False.elim w
   |ex x=>rw[e3]at w;exact WpX.ev w (p.mo.trans p2.mo).ev
   |no=>rw[e3]at w;exact w
  |ex x=>rw[e2]at w;exact WpX.ev w p.mo.ev
  |no=>rw[e2]at w;exact w
 |ex x=>rw[e]at w;exact w
 |no=>rw[e]at w;exact w
def eX(a b:Fr->Res T):Fr->Res T:=λρ=>(a ρ).bind λx=>match x with
 |.bl true=>b ρ
 |.bl false=>.ok (.bl false)
 |_=>.no
def ep5(a b:Fr->Res T):Fr->Res T:=λρ=>(a ρ).bind λx=>match x with
 |.bl true=>.ok (.bl true)
 |.bl false=>b ρ
 |_=>.no
def bs1(a:Fr->Res T):Fr->Res T:=λρ=>(a ρ).bind λx=>match x with
 |.bl b=>.ok (.bl (!b))
 |_=>.no
theorem dw3(ha:RB Jn K cn E ta a)(hb:RE Jn K cn E [] tb b):RE Jn K cn E [] (dy0 ta tb) (eX a b):=λAs H Z ρ σ F Q w=>by
 unfold eX at w;refine ha As H Z ρ σ F _ ?_;cases e:a ρ with
 |ok t=>
  rw[e]at w;intro v H1 Z1 B p;cases t with
  |bl k=>
   have q:=p.rep;simp only[Rep]at q;obtain⟨rfl,rfl⟩:=q;refine⟨k,rfl,?_⟩;cases k with
   |true=>rw[if_pos rfl];exact hb As H1 Z1 ρ σ (F.mo p.mo) Q (WpE.mo F w p.mo)
   |false=>rw[if_neg (by decide)];exact WpE.bl (WpE.mo F w p.mo) p.zi
  |_=>exact False.elim w
 |ex x=>rw[e]at w;exact w
 |no=>rw[e]at w;exact w
theorem db3(ha:RB Jn K cn E ta a):RE Jn K cn E [] (dm0 ta) (bs1 a):=λAs H Z ρ σ F Q w=>by
 unfold bs1 at w;refine ha As H Z ρ σ F _ ?_;cases e:a ρ with
 |ok t=>
  rw[e]at w;intro v H1 Z1 B p;cases t with
  |bl k=>have q:=p.rep;simp only[Rep]at q;obtain⟨rfl,rfl⟩:=q;exact⟨k,rfl,WpE.bl (WpE.mo F w p.mo) p.zi⟩
  |_=>exact False.elim w
 |ex x=>rw[e]at w;exact w
 |no=>rw[e]at w;exact w
def dIf(c:Fr->Res Bool)(a b:Fr->Res T):Fr->Res T:=λρ=>(c ρ).bind λk=>if k=true then a ρ else b ρ
theorem ey1(hc:RT Jn K cn E tt c)(ha:RE Jn K cn E [] ta a)(hb:RE Jn K cn E [] tb b):RE Jn K cn E [] (tIf tt ta tb) (dIf c a b):=λAs H Z ρ σ F Q w=>by
 unfold dIf at w;refine hc As H Z ρ σ F _ ?_;cases e:c ρ with
 |ok k=>
  rw[e]at w;intro H1 Z1 p;simp only[Res.bind]at w;split
  . next h=>rw[if_pos h]at w;exact ha As H1 Z1 ρ σ (F.mo p.mo) Q (WpE.mo F w p.mo)
  . next h=>rw[if_neg h]at w;exact hb As H1 Z1 ρ σ (F.mo p.mo) Q (WpE.mo F w p.mo)
 |ex x=>rw[e]at w;exact w
 |no=>rw[e]at w;exact w
def toB:T->Res Bool
 |.bl b=>.ok b
 |_=>.no
def bF(a:Fr->Res T):Fr->Res Bool:=λρ=>(a ρ).bind toB
theorem bk8(ha:RB Jn K cn E ta a):RT Jn K cn E (bn1 ta) (bF a):=λAs H Z ρ σ F Q w=>by
 unfold bF at w;refine ha As H Z ρ σ F _ ?_;cases e:a ρ with
 |ok t=>
  rw[e]at w;intro v H1 Z1 B p;cases t with
  |bl k=>have q:=p.rep;simp only[Rep]at q;obtain⟨rfl,rfl⟩:=q;exact⟨k,rfl,w H1 Z1 p.mo.postT⟩
  |_=>exact False.elim w
 |ex x=>rw[e]at w;exact w
 |no=>rw[e]at w;exact w
def xD:T->Res Bool
 |.non=>.ok false
 |.bl b=>.ok b
 |.int i=>.ok (i !=0)
 |.str x=>if x.length<=sizeLine then .ok ((x.length:Int) !=0)else .no
 |.lst _ xs=>.ok (!xs.isEmpty)
 |.tup xs=>.ok (!xs.isEmpty)
 |_=>.no
def kT(a:Fr->Res T):Fr->Res Bool:=λρ=>(a ρ).bind xD
theorem Reps.isEmpty(r:Reps K cn H Z ts vs A):vs.isEmpty=ts.isEmpty:=by have h:=Reps.length ts r;cases ts<;>cases vs<;>simp_all
theorem dj1(r:Rep K cn H Z t v B)(h:xD t=.ok k):bq2 K v H k:=by
 cases t with
 |non=>simp only[Rep]at r;obtain⟨rfl,_⟩:=r;cases h;rfl
 |bl b=>simp only[Rep]at r;obtain⟨rfl,_⟩:=r;cases h;rfl
 |int b=>simp only[Rep]at r;obtain⟨rfl,_⟩:=r;cases h;rfl
 |str b=>
  simp only[Rep]at r;obtain⟨rfl,_⟩:=r;simp only[xD]at h;split at h
  . cases h;exact⟨by assumption,rfl⟩
  . cases h
 |lst o xs=>
  cases h;cases o with
  |true=>simp only[Rep]at r;obtain⟨a,vs,B,rfl,rfl,e,r⟩:=r;exact .inl ⟨vs,SqL.of e,by rw[r.isEmpty]⟩
  |false=>simp only[Rep]at r;obtain⟨a,vs,rfl,rfl,e,r⟩:=r;exact .inl ⟨vs,e.sq,by rw[r.isEmpty]⟩
 |tup xs=>cases h;simp only[Rep]at r;obtain⟨a,vs,rfl,e,r⟩:=r;exact .inr (.inl ⟨vs,e,by rw[r.isEmpty]⟩)
 |ty _=>cases h
 |err _ _=>cases h
 |ins _ _ _ _=>cases h
theorem cv2(h:xD t=.ex x):False:=by cases t<;>simp only[xD]at h<;>first|cases h|(split at h<;>cases h)
theorem df5(ha:RB Jn K cn E ta a):RT Jn K cn E (λσ H Q=>ta σ H λx H'=>∃k,bq2 K x H' k/\Q k H') (kT a):=λAs H Z ρ σ F Q w=>by
 unfold kT at w;refine ha As H Z ρ σ F _ ?_;cases e:a ρ with
 |ok t=>
  rw[e]at w;intro v H1 Z1 B p;simp only[Res.bind]at w;cases e2:xD t with
  |ok k=>rw[e2]at w;exact⟨k,dj1 p.rep e2,w H1 Z1 p.mo.postT⟩
  |ex x=>exact(cv2 e2).elim
  |no=>rw[e2]at w;exact w.elim
 |ex x=>rw[e]at w;exact w
 |no=>rw[e]at w;exact w
def kM(c:Fr->Res Bool):Fr->Res Bool:=λρ=>(c ρ).bind λk=>.ok (!k)
def by2(c d:Fr->Res Bool):Fr->Res Bool:=λρ=>(c ρ).bind λk=>if k=true then d ρ else .ok false
def uX(c d:Fr->Res Bool):Fr->Res Bool:=λρ=>(c ρ).bind λk=>if k=true then .ok true else d ρ
theorem dz8(hc:RT Jn K cn E tt c):RT Jn K cn E (df7 tt) (kM c):=λAs H Z ρ σ F Q w=>by
 unfold kM at w;refine hc As H Z ρ σ F _ ?_;cases e:c ρ with
 |ok k=>rw[e]at w;exact λH1 Z1 p=>w H1 Z1 p
 |ex x=>rw[e]at w;exact w
 |no=>rw[e]at w;exact w
theorem dl9(hc:RT Jn K cn E tt c)(hd:RT Jn K cn E uu d):RT Jn K cn E (dj8 tt uu) (by2 c d):=λAs H Z ρ σ F Q w=>by
 unfold by2 at w;refine hc As H Z ρ σ F _ ?_;cases e:c ρ with
 |ok k=>
  rw[e]at w;intro H1 Z1 p;cases k with
  |true=>rw[if_pos rfl];exact hd As H1 Z1 ρ σ (F.mo p.mo) Q (WpT.mo w p.mo)
  |false=>rw[if_neg (by decide)];exact w H1 Z1 p
 |ex x=>rw[e]at w;exact w
 |no=>rw[e]at w;exact w
theorem eg0(hc:RT Jn K cn E tt c)(hd:RT Jn K cn E uu d):RT Jn K cn E (tOr tt uu) (uX c d):=λAs H Z ρ σ F Q w=>by
 unfold uX at w;refine hc As H Z ρ σ F _ ?_;cases e:c ρ with
 |ok k=>
  rw[e]at w;intro H1 Z1 p;cases k with
  |false=>rw[if_neg (by decide)];exact hd As H1 Z1 ρ σ (F.mo p.mo) Q (WpT.mo w p.mo)
  |true=>rw[if_pos rfl];exact w H1 Z1 p
 |ex x=>rw[e]at w;exact w
 |no=>rw[e]at w;exact w
end
end TL
namespace TL
open PySem PySem.Spec PyProof.Rows L2
section
variable {Jn : gC} {K : PySem.W.Frag} {cn : Str → Option Addr} {E : XK}
structure ef1 (K:PySem.W.Frag) (cn:Str->Option Addr) (As:List (List Addr)) (H:Hp) (Z:Addr->Prop) (mv:List Nat) (H':Hp) (Z':Addr->Prop) (ts:List T) (vs:List V) (B:List Addr):Prop where
 mo:Mo H Z H' Z'
 rep:Reps K cn H' Z' ts vs B
 nd:B.Nodup
 bz:∀b∈B,¬Z' b
 bn:∀b∈B,H b=none\/∃i∈mv,b∈As.getD i []
def WpA(K:PySem.W.Frag)(cn:Str->Option Addr)(E:XK)(As:List (List Addr))(H:Hp)(Z:Addr->Prop)(mv:List Nat)(Q:List V->Hp->Prop):Res (List T)->Prop
 |.ok ts=>∀vs H' Z' B,ef1 K cn As H Z mv H' Z' ts vs B->Q vs H'
 |.ex x=>WpX K cn E As H Z x
 |.no=>False
def en5(K:PySem.W.Frag)(cn:Str->Option Addr)(E:XK)(As:List (List Addr))(H:Hp)(Z:Addr->Prop)(Q:List V->Hp->Prop):Res (List T)->Prop
 |.ok ts=>∀vs H' Z' B,Mo H Z H' Z'->Reps K cn H' Z' ts vs B->Q vs H'
 |.ex x=>WpX K cn E As H Z x
 |.no=>False
def RA(Jn:gC)(K:PySem.W.Frag)(cn:Str->Option Addr)(E:XK)(mv:List Nat)(ta:TA)(d:Fr->Res (List T)):Prop:=∀As H Z ρ σ,Frm Jn K cn H Z ρ σ As->∀Q,WpA K cn E As H Z mv Q (d ρ)->ta σ H Q
def uR(Jn:gC)(K:PySem.W.Frag)(cn:Str->Option Addr)(E:XK)(ta:TA)(d:Fr->Res (List T)):Prop:=∀As H Z ρ σ,Frm Jn K cn H Z ρ σ As->∀Q,en5 K cn E As H Z Q (d ρ)->ta σ H Q
def aK:Fr->Res (List T):=λ_=>.ok []
def aD(a:Fr->Res T)(r:Fr->Res (List T)):Fr->Res (List T):=λρ=>(a ρ).bind λt=>(r ρ).bind λts=>.ok (t::ts)
theorem dg7:RA Jn K cn E [] ac4 aK:=λAs H Z ρ σ F Q w=>w [] H Z [] ⟨F.mo0,Reps.nil,List.nodup_nil,cL,cL⟩
theorem dd3:uR Jn K cn E ac4 aK:=λAs H Z ρ σ F Q w=>w [] H Z [] F.mo0 Reps.nil
theorem cr7{As:List (List Addr)}{a:Addr}:∀{i j:Nat},As.flatten.Nodup->a∈As.getD i []->a∈As.getD j []->i=j:=by
 induction As with
 |nil=>intro i j _ h;simp at h
 |cons A As ih=>
  intro i j nd h1 h2;rw[List.flatten_cons,List.nodup_append]at nd;cases i with
  |zero=>
   cases j with
   |zero=>rfl
   |succ j=>exact absurd rfl (nd.2.2 a (by simpa using h1) a (bI (by simpa using h2)))
  |succ i=>
   cases j with
   |zero=>exact absurd rfl (nd.2.2 a (by simpa using h2) a (bI (by simpa using h1)))
   |succ j=>exact congrArg (· +1) (ih (i:=i) (j:=j) nd.2.1 (by simpa using h1) (by simpa using h2))
theorem dn1{mv mw:List Nat}{te:TE}{tr:TA}{a:Fr->Res T}{r:Fr->Res (List T)}(ha:RE Jn K cn E mv te a)(hr:RA Jn K cn E mw tr r)(hd:(mv.all λi=>!mw.contains i)=true:=by rfl):RA Jn K cn E (mv++mw) (wI te tr) (aD a r):=λAs H Z ρ σ F Q w=>by
 unfold aD at w;refine ha As H Z ρ σ F _ ?_;cases e:a ρ with
 |ok t=>
  rw[e]at w;intro v H1 Z1 B p;refine hr As H1 Z1 ρ σ (F.mo p.mo) _ ?_;simp only[Res.bind]at w;cases e2:r ρ with
  |ok ts=>
   rw[e2]at w;intro vs H2 Z2 B2 p2;refine w (v::vs) H2 Z2 (B++B2) ⟨p.mo.trans p2.mo,?_,?_,?_,?_⟩
   . simp only[Reps];exact⟨v,vs,B,B2,rfl,rfl,p.rep.same p2.mo.same p2.mo.zz,p2.rep⟩
   . rw[List.nodup_append];refine⟨p.nd,p2.nd,λb hb c hc z=>?_⟩;subst z;obtain⟨o,ho,_⟩:=p.rep.dom t b hb;rcases p2.bn b hc with q|⟨j,hj,q⟩
     . rw[ho]at q;cases q
     . rcases p.bn b hb with z|⟨i,hi,z⟩
       . obtain⟨o',ho',_⟩:=F.sl.dom b (bI q);rw[ho']at z;cases z
       . have eij:=cr7 F.nd z q;subst eij;have hh:=List.all_eq_true.mp hd i hi;simp at hh;exact hh hj
   . intro b hb;rcases List.mem_append.mp hb with hb|hb
     . intro z;rcases p2.mo.zn b z with z|z
       . exact p.bz b hb z
       . obtain⟨o,ho,_⟩:=p.rep.dom t b hb;rw[ho]at z;cases z
     . exact p2.bz b hb
   . intro b hb;rcases List.mem_append.mp hb with hb|hb
     . exact(p.bn b hb).imp_right λ⟨i,hi,z⟩=>⟨i,List.mem_append_left _ hi,z⟩
     . rcases p2.bn b hb with z|⟨i,hi,z⟩
       . exact .inl (p.same.free z)
       . exact .inr ⟨i,List.mem_append_right _ hi,z⟩
  |ex x=>rw[e2]at w;exact WpX.ev w p.mo.ev
  |no=>rw[e2]at w;exact w
 |ex x=>rw[e]at w;exact w
 |no=>rw[e]at w;exact w
theorem cc9(ha:RB Jn K cn E te a)(hr:uR Jn K cn E tr r):uR Jn K cn E (wI te tr) (aD a r):=λAs H Z ρ σ F Q w=>by
 unfold aD at w;refine ha As H Z ρ σ F _ ?_;cases e:a ρ with
 |ok t=>
  rw[e]at w;intro v H1 Z1 B p;refine hr As H1 Z1 ρ σ (F.mo p.mo) _ ?_;simp only[Res.bind]at w;cases e2:r ρ with
  |ok ts=>rw[e2]at w;intro vs H2 Z2 B2 m2 r2;refine w (v::vs) H2 Z2 (B++B2) (p.mo.trans m2) ?_;simp only[Reps];exact⟨v,vs,B,B2,rfl,rfl,p.rep.same m2.same m2.zz,r2⟩
  |ex x=>rw[e2]at w;exact WpX.ev w p.mo.ev
  |no=>rw[e2]at w;exact w
 |ex x=>rw[e]at w;exact w
 |no=>rw[e]at w;exact w
def cR(r:Fr->Res (List T)):Fr->Res T:=λρ=>(r ρ).bind λts=>if ts.length<=sizeLine then .ok (.lst true ts)else .no
def pH(r:Fr->Res (List T)):Fr->Res T:=λρ=>(r ρ).bind λts=>if ts.length<=sizeLine then .ok (.tup ts)else .no
theorem Mo.new(o:HO)(hp:H p=none)(zi:∀a,Z a->H a≠none):Mo H Z (L2.upd H p o) Z:=
 ⟨bw4 hp o,λ_ h=>h,λ_ h=>.inl h,λa h=>by
  by_cases e:a=p
  . subst e;rw[cJ];exact(λz=>nomatch z)
  . rw[bA e];exact zi a h⟩
theorem ds6(h:RA Jn K cn E mv ta r):RE Jn K cn E mv (dg6 ta) (cR r):=λAs H Z ρ σ F Q w=>by
 unfold cR at w;refine h As H Z ρ σ F _ ?_;cases e:r ρ with
 |ok ts=>
  rw[e]at w;intro vs H1 Z1 B p;simp only[Res.bind]at w;split at w
  . next hl=>
    refine⟨by rw[Reps.length ts p.rep];exact hl,λq hq=>?_⟩;have hZ:¬Z1 q:=λz=>p.mo.zi q z hq;have m:=Mo.new (.lst vs) hq p.mo.zi;refine w (.ref q) _ Z1 (q::B) ⟨(p.mo.trans m).same,(p.mo.trans m).zz,(p.mo.trans m).zn,m.zi,?_,?_,?_,?_⟩
    . simp only[Rep];exact⟨q,vs,B,rfl,rfl,cJ,p.rep.same m.same m.zz⟩
    . refine List.nodup_cons.mpr ⟨λhb=>?_,p.nd⟩;obtain⟨o,ho,_⟩:=Reps.dom ts p.rep q hb;rw[ho]at hq;cases hq
    . intro b hb;rcases List.mem_cons.mp hb with rfl|hb
      . exact hZ
      . exact p.bz b hb
    . intro b hb;rcases List.mem_cons.mp hb with rfl|hb
      . exact .inl (p.mo.same.free hq)
      . exact p.bn b hb
  . exact w.elim
 |ex x=>rw[e]at w;exact w
 |no=>rw[e]at w;exact w
theorem dd9(h:RA Jn K cn E mv ta r):RE Jn K cn E mv (dm6 ta) (pH r):=λAs H Z ρ σ F Q w=>by
 unfold pH at w;refine h As H Z ρ σ F _ ?_;cases e:r ρ with
 |ok ts=>
  rw[e]at w;intro vs H1 Z1 B p;simp only[Res.bind]at w;split at w
  . next hl=>
    refine⟨by rw[Reps.length ts p.rep];exact hl,λq hq=>?_⟩;have m:=Mo.new (.tup vs) hq p.mo.zi;refine w (.ref q) _ Z1 B ⟨(p.mo.trans m).same,(p.mo.trans m).zz,(p.mo.trans m).zn,m.zi,?_,p.nd,p.bz,p.bn⟩;simp only[Rep];exact⟨q,vs,rfl,SqT.of cJ,p.rep.same m.same m.zz⟩
  . exact w.elim
 |ex x=>rw[e]at w;exact w
 |no=>rw[e]at w;exact w
def xH(K:PySem.W.Frag)(cn:Str->Option Addr)(r:List V->Hp->VK->Prop)(f:List T->Res T):Prop:=
 ∀(E:XK)(As:List (List Addr))(H:Hp)(Z:Addr->Prop)(ts:List T)(xs:List V)(A:List Addr)(Q:VK),(∀a,Z a->H a≠none)->Reps K cn H Z ts xs A->WpE K cn E As H Z [] Q (f ts)->r xs H Q
def bP(f:List T->Res T)(r:Fr->Res (List T)):Fr->Res T:=λρ=>(r ρ).bind f
theorem eh0(hr:xH K cn r f)(ha:uR Jn K cn E ta a):RE Jn K cn E [] (tCB r ta) (bP f a):=λAs H Z ρ σ F Q w=>by
 unfold bP at w;refine ha As H Z ρ σ F _ ?_;cases e:a ρ with
 |ok ts=>rw[e]at w;exact λvs H1 Z1 B m p=>hr E As H1 Z1 ts vs B Q m.zi p (WpE.mo F w m)
 |ex x=>rw[e]at w;exact w
 |no=>rw[e]at w;exact w
def RMR(K:PySem.W.Frag)(cn:Str->Option Addr)(ty:String)(r:V->List V->Hp->VK->Prop)(f:T->List T->Res T):Prop:=
 ∀(E:XK)(As:List (List Addr))(H:Hp)(Z:Addr->Prop)(t:T)(ts:List T)(x:V)(xs:List V)(A B:List Addr)(Q:VK),(∀a,Z a->H a≠none)->Rep K cn H Z t x A->Reps K cn H Z ts xs B->WpE K cn E As H Z [] Q (f t ts)->r x xs H Q
def dBM(ok:T->Bool)(f:T->List T->Res T)(o:Fr->Res T)(r:Fr->Res (List T)):Fr->Res T:=λρ=>(o ρ).bind λt=>if ok t=true then(r ρ).bind λts=>f t ts else .no
def cN:T->Bool
 |.str _=>true
 |_=>false
def at0:T->Bool
 |.lst _ _=>true
 |_=>false
theorem cb4(h:cN t=true)(r:Rep K cn H Z t v B):tyV K "str" v H:=by
 cases t with
 |str x=>simp only[Rep]at r;obtain⟨rfl,_⟩:=r;rfl
 |_=>cases h
theorem Rep.lstSq(r:Rep K cn H Z (.lst o ts) v B):∃a vs C,v=.ref a/\SqS K H a vs/\Reps K cn H Z ts vs C/\C.Sublist B:=by
 cases o with
 |true=>simp only[Rep]at r;obtain⟨a,vs,C,rfl,rfl,e,r⟩:=r;exact⟨a,vs,C,rfl,.inl (.inl e),r,List.sublist_cons_self _ _⟩
 |false=>simp only[Rep]at r;obtain⟨a,vs,rfl,rfl,e,r⟩:=r;exact⟨a,vs,[],rfl,e.sqS,r,List.Sublist.slnil⟩
theorem aw9(h:at0 t=true)(r:Rep K cn H Z t v B):tyV K "list" v H:=by
 cases t with
 |lst o xs=>obtain⟨a,vs,C,rfl,s,_⟩:=r.lstSq;exact .inl ⟨rfl,vs,s.sq⟩
 |_=>cases h
theorem bv9(hty:∀{H:Hp}{Z:Addr->Prop}{t:T}{v:V}{B:List Addr},ok t=true->Rep K cn H Z t v B->tyV K ty v H)(hr:RMR K cn ty r f)
 (ho:RB Jn K cn E to o)(ha:uR Jn K cn E ta a):RE Jn K cn E [] (tBM K ty r to ta) (dBM ok f o a):=λAs H Z ρ σ F Q w=>by
 unfold dBM at w;refine ho As H Z ρ σ F _ ?_;cases e:o ρ with
 |ok t=>
  rw[e]at w;intro v H1 Z1 B p;simp only[Res.bind]at w;split at w
  . next hok=>
    refine⟨hty hok p.rep,ha As H1 Z1 ρ σ (F.mo p.mo) _ ?_⟩;cases e2:a ρ with
    |ok ts=>rw[e2]at w;exact λvs H2 Z2 B2 m r2=>hr E As H2 Z2 t ts v vs B B2 Q m.zi (p.rep.same m.same m.zz) r2 (WpE.mo F w (p.mo.trans m))
    |ex x=>rw[e2]at w;exact WpX.ev w p.mo.ev
    |no=>rw[e2]at w;exact w
  . exact w.elim
 |ex x=>rw[e]at w;exact w
 |no=>rw[e]at w;exact w
def cG(K:PySem.W.Frag)(cn:Str->Option Addr)(n:Nat)(F:List T->Res T):Sp:=λvs H Q E=>vs.length=n/\∃ts Z,(∀a,Z a->H a≠none)/\Reps K cn H Z ts vs []/\WpE K cn E [] H Z [] Q (F ts)
def bT(n:Nat)(F:List T->Res T)(r:Fr->Res (List T)):Fr->Res T:=λρ=>(r ρ).bind λts=>if ts.length=n then match F (frzs ts)with
 |.ok t=>if(fJ t||aR ts)=true then .ok t else .no
 |_=>.no else .no
theorem dp8(ha:uR Jn K cn E ta a):RE Jn K cn E [] (cf7 (cG K cn n G) ta) (bT n G a):=λAs H Z ρ σ F Q w=>by
 unfold bT at w;refine ha As H Z ρ σ F _ ?_;cases e:a ρ with
 |ok ts=>
  rw[e]at w;intro vs H1 Z1 B m r1;simp only[Res.bind]at w;split at w
  . next hn=>
    refine⟨by rw[Reps.length ts r1,hn],frzs ts,(λa=>Z1 a\/a∈B),λa h=>?_,Reps.frz ts r1 (λa h=>.inl h) (λa h=>.inr h),?_⟩
    . rcases h with h|h
      . exact m.zi a h
      . obtain⟨o,q,_⟩:=Reps.dom ts r1 a h;rw[q];exact(λz=>nomatch z)
    cases e2:G (frzs ts)with
    |ok t=>
     rw[e2]at w;intro v H2 Z2 C p;simp only at w;split at w
     . next hc=>
       rw[Bool.or_eq_true]at hc;have bn:∀b∈C,H1 b=none:=λb hb=>(p.bn b hb).resolve_right (λ⟨i,hi,_⟩=>by cases hi);by_cases hcl:fJ t=true
       . refine w v H2 Z1 C ⟨m.same.trans p.same,m.zz,λa h=>m.zn a h,λa h=>?_,Rep.any t hcl p.rep,p.nd,λb hb z=>?_,λb hb=>.inl (m.same.free (bn b hb))⟩
         . intro q;exact m.zi a h (p.same.free q)
         . exact m.zi b z (bn b hb)
       . have hno:=hc.resolve_left hcl;have hB:=Reps.bare ts hno r1;subst hB;refine w v H2 Z2 C ⟨m.same.trans p.same,λa h=>p.zz a (.inl (m.zz a h)),λa h=>?_,p.zi,p.rep,p.nd,p.bz,λb hb=>.inl (m.same.free (bn b hb))⟩;rcases p.zn a h with(h|h)|h
         . exact m.zn a h
         . cases h
         . exact .inr (m.same.free h)
     . exact w.elim
    |ex x=>rw[e2]at w;exact w.elim
    |no=>rw[e2]at w;exact w.elim
  . exact w.elim
 |ex x=>rw[e]at w;exact w
 |no=>rw[e]at w;exact w
def WpO(K:PySem.W.Frag)(cn:Str->Option Addr)(E:XK)(As:List (List Addr))(H:Hp)(Z:Addr->Prop)(Q:Option Int->Hp->Prop):Res (Option Int)->Prop
 |.ok o=>∀H' Z',Mo H Z H' Z'->Q o H'
 |.ex x=>WpX K cn E As H Z x
 |.no=>False
def RO(Jn:gC)(K:PySem.W.Frag)(cn:Str->Option Addr)(E:XK)(t:TO)(d:Fr->Res (Option Int)):Prop:=∀As H Z ρ σ,Frm Jn K cn H Z ρ σ As->∀Q,WpO K cn E As H Z Q (d ρ)->t σ H Q
def fH:Fr->Res (Option Int):=λ_=>.ok none
def toI:T->Res (Option Int)
 |.int i=>.ok (some i)
 |_=>.no
def gB(a:Fr->Res T):Fr->Res (Option Int):=λρ=>(a ρ).bind toI
theorem dl4:RO Jn K cn E bg8 fH:=λAs H Z ρ σ F Q w=>w H Z F.mo0
theorem df1(ha:RB Jn K cn E te a):RO Jn K cn E (cw9 te) (gB a):=λAs H Z ρ σ F Q w=>by
 unfold gB at w;refine ha As H Z ρ σ F _ ?_;cases e:a ρ with
 |ok t=>
  rw[e]at w;intro v H1 Z1 B p;cases t with
  |int i=>have q:=p.rep;simp only[Rep]at q;obtain⟨rfl,rfl⟩:=q;exact⟨i,rfl,w H1 Z1 p.mo⟩
  |_=>exact False.elim w
 |ex x=>rw[e]at w;exact w
 |no=>rw[e]at w;exact w
def RSR(K:PySem.W.Frag)(cn:Str->Option Addr)(r:V->Option Int->Option Int->Hp->VK->Prop)(f:T->Option Int->Option Int->Res T):Prop:=
 ∀(E:XK)(As:List (List Addr))(H:Hp)(Z:Addr->Prop)(t:T)(x:V)(A:List Addr)(lo hi:Option Int)(Q:VK),(∀a,Z a->H a≠none)->Rep K cn H Z t x A->WpE K cn E As H Z [] Q (f t lo hi)->r x lo hi H Q
def oQ(f:T->Option Int->Option Int->Res T)(a:Fr->Res T)(l h:Fr->Res (Option Int)):Fr->Res T:=λρ=>(a ρ).bind λt=>(l ρ).bind λlo=>(h ρ).bind λhi=>f t lo hi
theorem ej3(hr:RSR K cn r f)(ha:RB Jn K cn E te a)(hl:RO Jn K cn E tl l)(hh:RO Jn K cn E th h):RE Jn K cn E [] (tSl r te tl th) (oQ f a l h):=λAs H Z ρ σ F Q w=>by
 unfold oQ at w;refine ha As H Z ρ σ F _ ?_;cases e:a ρ with
 |ok t=>
  rw[e]at w;intro v H1 Z1 B p;refine hl As H1 Z1 ρ σ (F.mo p.mo) _ ?_;simp only[Res.bind]at w;cases e2:l ρ with
  |ok lo=>
   rw[e2]at w;intro H2 Z2 m2;have m12:=p.mo.trans m2;refine hh As H2 Z2 ρ σ (F.mo m12) _ ?_;simp only at w;cases e3:h ρ with
   |ok hi=>rw[e3]at w;intro H3 Z3 m3;exact hr E As H3 Z3 t v B lo hi Q m3.zi (p.rep.same (m2.same.trans m3.same) λa h=>m3.zz a (m2.zz a h)) (WpE.mo F w (m12.trans m3))
   |ex x=>rw[e3]at w;exact WpX.ev w m12.ev
   |no=>rw[e3]at w;exact w
  |ex x=>rw[e2]at w;exact WpX.ev w p.mo.ev
  |no=>rw[e2]at w;exact w
 |ex x=>rw[e]at w;exact w
 |no=>rw[e]at w;exact w
end
end TL
namespace TL
open PySem PySem.Spec PyProof.Rows L2
section
variable {Jn : gC} {K : PySem.W.Frag} {cn : Str → Option Addr} {E : XK}
def SqF(fz k:Bool)(K:PySem.W.Frag)(H:Hp)(Z:Addr->Prop)(l:Addr)(xs:List V):Prop:=cond k (SqT K H l xs) (if fz=true then FzL K H Z l xs else SqL K H l xs)
def iF(ts us:List T):List T:=List.zipWith (λt u=>T.tup [t,u]) ts us
def av2(ts:List T):List T:=List.zipWith (λi t=>T.tup [.int (i:Nat),t]) (List.range ts.length) ts
def Src(K:PySem.W.Frag)(cn:Str->Option Addr)(fz:Bool)(H:Hp)(Z:Addr->Prop)(J:It)(ts:List T):Prop:=
 (∃a vs,J=Itl K a/\(if fz=true then FzL K H Z a vs else SqL K H a vs)/\Reps K cn H Z ts vs [])\/
 (∃a vs,J=Itt K a/\SqT K H a vs/\Reps K cn H Z ts vs [])\/
 (∃(lo:Int)(n:Nat),J=Itr lo n/\ts=(List.range n).map λi=>T.int (lo+(i:Nat)))\/
 (∃z:Str,J=Its z/\ts=z.cps.toList.map λc=>T.str ⟨#[c]⟩)\/
 (∃k1 k2 l1 l2 vs ws us us',J=Itz K k1 k2 l1 l2/\SqF fz k1 K H Z l1 vs/\SqF fz k2 K H Z l2 ws/\Reps K cn H Z us vs []/\Reps K cn H Z us' ws []/\ts=iF us us')\/
 (∃l vs us,J=Ite K l/\SqF fz false K H Z l vs/\Reps K cn H Z us vs []/\ts=av2 us)
theorem ai7(h:if fz=true then FzL K H Z a vs else SqL K H a vs):SqL K H a vs:=by
 cases fz with
 |true=>rw[if_pos rfl]at h;exact h.sq
 |false=>rw[if_neg (by decide)]at h;exact h
theorem SqF.sq(h:SqF fz k K H Z l xs):SqK k K H l xs:=by
 cases k with
 |true=>exact h
 |false=>exact ai7 h
theorem au9:∀{us us':List T}{i:Nat},(iF us us')[i]?=some t->∃t1 t2,us[i]?=some t1/\us'[i]?=some t2/\t=.tup [t1,t2]:=by
 intro us us' i h;unfold iF at h;rw[List.getElem?_zipWith]at h;cases h1:us[i]? with
 |none=>rw[h1]at h;cases h
 |some t1=>
  cases h2:us'[i]? with
  |none=>rw[h1,h2]at h;cases h
  |some t2=>rw[h1,h2]at h;exact⟨t1,t2,rfl,rfl,(Option.some.inj h).symm⟩
theorem wO(us us':List T):(iF us us').length=min us.length us'.length:=by simp[iF]
theorem cx2(us:List T):(av2 us).length=us.length:=by simp[av2]
theorem cq4{t:T}{us:List T}{i:Nat}(h:(av2 us)[i]?=some t):∃t2,us[i]?=some t2/\t=.tup [.int i,t2]:=by
 unfold av2 at h;rw[List.getElem?_zipWith]at h;cases h2:us[i]? with
 |none=>rw[h2]at h;cases q:(List.range us.length)[i]?<;>rw[q]at h<;>cases h
 |some t2=>have hi:=(List.getElem?_eq_some_iff.mp h2).1;rw[h2,List.getElem?_range hi]at h;exact⟨t2,rfl,(Option.some.inj h).symm⟩
theorem be5(ex:x=.ref p)(hp:H p=some (.tup [v1,v2]))(h1:Rep K cn H Z t1 v1 [])(h2:Rep K cn H Z t2 v2 []):Rep K cn H Z (.tup [t1,t2]) x []:=by simp only[Rep];refine⟨p,[v1,v2],ex,SqT.of hp,?_⟩;simp only[Reps];exact⟨v1,[v2],[],[],rfl,rfl,h1,v2,[],[],[],rfl,rfl,h2,rfl,rfl⟩
theorem Src.turn{fz:Bool}{H:Hp}{Z:Addr->Prop}{J:It}{ts:List T}{i:Nat}{t:T}(h:Src K cn fz H Z J ts)(zi:∀a,Z a->H a≠none)(e:ts[i]?=some t):J.go i H/\∀x H',J.yld i H x H'->Mo H Z H' Z/\Rep K cn H' Z t x []:=by
 have m0:Mo H Z H Z:=⟨Same.refl _,λ_ h=>h,λ_ h=>.inl h,zi⟩;rcases h with⟨a,vs,rfl,hs,r⟩|⟨a,vs,rfl,hs,r⟩|⟨lo,n,rfl,rfl⟩|⟨z,rfl,rfl⟩|⟨k1,k2,l1,l2,vs,ws,us,us',rfl,q1,q2,r1,r2,rfl⟩|⟨l,vs,us,rfl,q1,r1,rfl⟩
 . obtain⟨v,B,ev,rv,hB,_⟩:=Reps.get ts r e;have hs:=ai7 hs;have eB:B=[]:=List.eq_nil_iff_forall_not_mem.mpr λb hb=>by cases hB b hb
   subst eB;refine⟨⟨vs,v,hs,ev⟩,λx H' ⟨e1,e2⟩=>⟨e1▸m0,?_⟩⟩;subst e1;have:=e2 vs hs;rw[ev]at this;cases this;exact rv
 . obtain⟨v,B,ev,rv,hB,_⟩:=Reps.get ts r e;have eB:B=[]:=List.eq_nil_iff_forall_not_mem.mpr λb hb=>by cases hB b hb
   subst eB;refine⟨⟨vs,v,hs,ev⟩,λx H' ⟨e1,e2⟩=>⟨e1▸m0,?_⟩⟩;subst e1;have:=e2 vs hs;rw[ev]at this;cases this;exact rv
 . rw[List.getElem?_map]at e;cases q:(List.range n)[i]? with
   |none=>rw[q]at e;cases e
   |some j=>rw[q]at e;obtain⟨h1,h2⟩:=List.getElem?_eq_some_iff.mp q;simp at h1 h2;subst h2;cases e;refine⟨h1,λx H' ⟨e1,e2⟩=>⟨e1▸m0,?_⟩⟩;subst e1;subst e2;simp[Rep]
 . rw[List.getElem?_map]at e;cases q:z.cps.toList[i]? with
   |none=>rw[q]at e;cases e
   |some c=>rw[q]at e;cases e;have h1:=(List.getElem?_eq_some_iff.mp q).1;refine⟨show i<z.cps.size by simpa using h1,λx H' ⟨e1,c',e2,e3⟩=>⟨e1▸m0,?_⟩⟩;subst e1;rw[<-Array.getElem?_toList]at e2;rw[q]at e2;cases e2;subst e3;simp[Rep]
 . obtain⟨t1,t2,e1,e2,rfl⟩:=au9 e;obtain⟨v1,B1,ev1,rv1,hB1,_⟩:=Reps.get us r1 e1;obtain⟨v2,B2,ev2,rv2,hB2,_⟩:=Reps.get us' r2 e2;have n1:B1=[]:=List.eq_nil_iff_forall_not_mem.mpr λb hb=>by cases hB1 b hb
   have n2:B2=[]:=List.eq_nil_iff_forall_not_mem.mpr λb hb=>by cases hB2 b hb
   subst n1 n2;refine⟨⟨vs,ws,v1,v2,q1.sq,q2.sq,ev1,ev2⟩,λx H' ⟨p,hp,ex,h⟩=>?_⟩;obtain⟨y1,y2,f1,f2,rfl⟩:=h vs ws q1.sq q2.sq;rw[ev1]at f1;rw[ev2]at f2;cases f1;cases f2;have m:=Mo.new (.tup [v1,v2]) hp zi;exact⟨m,be5 ex cJ (rv1.same m.same m.zz) (rv2.same m.same m.zz)⟩
 . obtain⟨t2,e2,rfl⟩:=cq4 e;obtain⟨v2,B2,ev2,rv2,hB2,_⟩:=Reps.get us r1 e2;have n2:B2=[]:=List.eq_nil_iff_forall_not_mem.mpr λb hb=>by cases hB2 b hb
   subst n2;refine⟨⟨vs,v2,q1.sq,ev2⟩,λx H' ⟨p,hp,ex,h⟩=>?_⟩;obtain⟨y2,f2,rfl⟩:=h vs q1.sq;rw[ev2]at f2;cases f2;have m:=Mo.new (.tup [.int i,v2]) hp zi;exact⟨m,be5 ex cJ (by simp[Rep]) (rv2.same m.same m.zz)⟩
theorem Src.stop(h:Src K cn fz H Z J ts)(e:ts.length<=i):J.stop i H:=by
 rcases h with⟨a,vs,rfl,hs,r⟩|⟨a,vs,rfl,hs,r⟩|⟨lo,n,rfl,rfl⟩|⟨z,rfl,rfl⟩|⟨k1,k2,l1,l2,vs,ws,us,us',rfl,q1,q2,r1,r2,rfl⟩|⟨l,vs,us,rfl,q1,r1,rfl⟩
 . exact⟨vs,ai7 hs,by rw[Reps.length ts r];exact e⟩
 . exact⟨vs,hs,by rw[Reps.length ts r];exact e⟩
 . show n<=i;simpa using e
 . have:z.cps.size<=i:=by simpa using e
   exact this
 . refine⟨vs,ws,q1.sq,q2.sq,?_⟩;rw[Reps.length us r1,Reps.length us' r2];rw[wO]at e;omega
 . refine⟨vs,q1.sq,?_⟩;rw[Reps.length us r1];rw[cx2]at e;exact e
theorem Same.sqT(e:Same H H')(h:SqT K H a xs):SqT K H' a xs:=SqT.keep h λb o q _=>e b o q
theorem SqF.mo(h:SqF fz k K H Z l xs)(m:Mo H Z H' Z'):SqF fz k K H' Z' l xs:=by
 cases k with
 |true=>exact Same.sqT m.same h
 |false=>
  cases fz with
  |true=>exact FzL.keep (show FzL K H Z l xs from h) (λb o q _=>m.same b o q) m.zz
  |false=>exact m.same.seq (show SqL K H l xs from h)
theorem SqF.kept(h:SqF true k K H Z l xs)(kz:∀b o,H b=some o->(Z b\/uT o=true)->H' b=some o)(hz:∀a,Z a->Z' a):SqF true k K H' Z' l xs:=by
 cases k with
 |true=>exact SqT.keep (show SqT K H l xs from h) λb o q c=>kz b o q (.inr c)
 |false=>exact FzL.keep (show FzL K H Z l xs from h) kz hz
theorem Src.mo(h:Src K cn fz H Z J ts)(m:Mo H Z H' Z'):Src K cn fz H' Z' J ts:=by
 rcases h with⟨a,vs,rfl,hs,r⟩|⟨a,vs,rfl,hs,r⟩|h|h|⟨k1,k2,l1,l2,vs,ws,us,us',rfl,q1,q2,r1,r2,rfl⟩|⟨l,vs,us,rfl,q1,r1,rfl⟩
 . refine .inl ⟨a,vs,rfl,?_,r.same m.same m.zz⟩;cases fz with
   |true=>rw[if_pos rfl]at hs⊢;exact hs.keep (λb o q _=>m.same b o q) m.zz
   |false=>rw[if_neg (by decide)]at hs⊢;exact m.same.seq hs
 . exact .inr (.inl ⟨a,vs,rfl,Same.sqT m.same hs,r.same m.same m.zz⟩)
 . exact .inr (.inr (.inl h))
 . exact .inr (.inr (.inr (.inl h)))
 . exact .inr (.inr (.inr (.inr (.inl ⟨k1,k2,l1,l2,vs,ws,us,us',rfl,q1.mo m,q2.mo m,r1.same m.same m.zz,r2.same m.same m.zz,rfl⟩))))
 . exact .inr (.inr (.inr (.inr (.inr ⟨l,vs,us,rfl,q1.mo m,r1.same m.same m.zz,rfl⟩))))
theorem Src.ev(h:Src K cn true H Z J ts)(F:Frm Jn K cn H Z ρ σ As)(e:Ev As H Z As' H' Z'):Src K cn true H' Z' J ts:=by
 have kz:∀b o,H b=some o->(Z b\/uT o=true)->H' b=some o:=λb o q c=>e.keep b o q λhb=>by
  rcases c with c|c
  . exact F.nz b hb c
  . obtain⟨o',q',i'⟩:=F.sl.dom b hb;rw[q]at q';cases q';rw[c]at i';cases i'
 rcases h with⟨a,vs,rfl,hs,r⟩|⟨a,vs,rfl,hs,r⟩|h|h|⟨k1,k2,l1,l2,vs,ws,us,us',rfl,q1,q2,r1,r2,rfl⟩|⟨l,vs,us,rfl,q1,r1,rfl⟩
 . rw[if_pos rfl]at hs;refine .inl ⟨a,vs,rfl,?_,Reps.keep ts r (λb o q c=>kz b o q (c.resolve_left ((λz=>nomatch z)))) e.zz⟩;rw[if_pos rfl];exact hs.keep kz e.zz
 . exact .inr (.inl ⟨a,vs,rfl,SqT.keep hs (λb o q c=>kz b o q (.inr c)),Reps.keep ts r (λb o q c=>kz b o q (c.resolve_left ((λz=>nomatch z)))) e.zz⟩)
 . exact .inr (.inr (.inl h))
 . exact .inr (.inr (.inr (.inl h)))
 . exact .inr (.inr (.inr (.inr (.inl ⟨k1,k2,l1,l2,vs,ws,us,us',rfl,q1.kept kz e.zz,q2.kept kz e.zz,Reps.keep us r1 (λb o q c=>kz b o q (c.resolve_left ((λz=>nomatch z)))) e.zz,Reps.keep us' r2 (λb o q c=>kz b o q (c.resolve_left ((λz=>nomatch z)))) e.zz,rfl⟩))))
 . exact .inr (.inr (.inr (.inr (.inr ⟨l,vs,us,rfl,q1.kept kz e.zz,Reps.keep us r1 (λb o q c=>kz b o q (c.resolve_left ((λz=>nomatch z)))) e.zz,rfl⟩))))
def WpI(K:PySem.W.Frag)(cn:Str->Option Addr)(E:XK)(fz:Bool)(As:List (List Addr))(H:Hp)(Z:Addr->Prop)(R:It->Hp->Prop):Res (List T)->Prop
 |.ok ts=>∀J H' Z',Mo H Z H' Z'->Src K cn fz H' Z' J ts->R J H'
 |.ex x=>WpX K cn E As H Z x
 |.no=>False
def RI(Jn:gC)(K:PySem.W.Frag)(cn:Str->Option Addr)(E:XK)(fz:Bool)(wi:TI)(d:Fr->Res (List T)):Prop:=∀As H Z ρ σ,Frm Jn K cn H Z ρ σ As->∀R,WpI K cn E fz As H Z R (d ρ)->wi σ H R
noncomputable def gate{α:Type}(p:Prop)(a:Res α):Res α:=@ite _ p (Classical.propDecidable p) a .no
theorem ag4(h:p):gate p a=a:=by unfold gate;rw[if_pos h]
theorem WpI.gate(w:WpI K cn E fz As H Z R (TL.gate p r)):p/\WpI K cn E fz As H Z R r:=by
 unfold TL.gate at w;split at w
 . exact⟨by assumption,w⟩
 . exact w.elim
theorem WpE.gate(w:WpE K cn E As H Z mv Q (TL.gate p r)):p/\WpE K cn E As H Z mv Q r:=by
 unfold TL.gate at w;split at w
 . exact⟨by assumption,w⟩
 . exact w.elim
def fA(lo:Int)(n:Nat):List T:=(List.range n).map λi=>T.int (lo+(i:Nat))
noncomputable def qK:List T->Res (List T)
 |[.int j]=>gate (-(2^62)<=j/\j<2^62) (.ok (fA 0 j.toNat))
 |_=>.no
noncomputable def ce0:List T->Res (List T)
 |[.int i,.int j]=>gate (-(2^62)<=i/\i<2^62/\-(2^62)<=j/\j<2^62) (.ok (fA i (j-i).toNat))
 |_=>.no
def kG(f:List T->Res (List T))(a:Fr->Res (List T)):Fr->Res (List T):=λρ=>(a ρ).bind f
theorem Reps.ints1(r:Reps K cn H Z [.int i] vs A):vs=[.int i]:=by simp only[Reps,Rep]at r;obtain⟨v,w,B,C,rfl,rfl,⟨rfl,rfl⟩,rfl,rfl⟩:=r;rfl
theorem Reps.ints2(r:Reps K cn H Z [.int i,.int j] vs A):vs=[.int i,.int j]:=by simp only[Reps,Rep]at r;obtain⟨v,w,B,C,rfl,rfl,⟨rfl,rfl⟩,v2,w2,B2,C2,rfl,rfl,⟨rfl,rfl⟩,rfl,rfl⟩:=r;rfl
theorem df2(ha:uR Jn K cn E ta a):RI Jn K cn E fz (dq0 ta) (kG qK a):=λAs H Z ρ σ F R w=>by
 unfold kG at w;refine ha As H Z ρ σ F _ ?_;cases e:a ρ with
 |ok ts=>
  rw[e]at w;intro vs H1 Z1 B m r;simp only[Res.bind]at w;unfold qK at w;split at w
  . next j=>
    obtain⟨hb,w⟩:=w.gate;exact⟨j,r.ints1,hb.1,hb.2,w (Itr 0 j.toNat) H1 Z1 m (.inr (.inr (.inl ⟨0,j.toNat,rfl,rfl⟩)))⟩
  . exact w.elim
 |ex x=>rw[e]at w;exact w
 |no=>rw[e]at w;exact w
theorem dv2(ha:uR Jn K cn E ta a):RI Jn K cn E fz (cv9 ta) (kG ce0 a):=λAs H Z ρ σ F R w=>by
 unfold kG at w;refine ha As H Z ρ σ F _ ?_;cases e:a ρ with
 |ok ts=>
  rw[e]at w;intro vs H1 Z1 B m r;simp only[Res.bind]at w;unfold ce0 at w;split at w
  . next i j=>
    obtain⟨hb,w⟩:=w.gate;exact⟨i,j,r.ints2,hb,w (Itr i (j-i).toNat) H1 Z1 m (.inr (.inr (.inl ⟨i,_,rfl,rfl⟩)))⟩
  . exact w.elim
 |ex x=>rw[e]at w;exact w
 |no=>rw[e]at w;exact w
def iV(K:PySem.W.Frag)(tl:TE):TI:=λσ H R=>tl σ H λx H1=>(∃a,x=.ref a/\(((∃xs,SqL K H1 a xs)/\R (Itl K a) H1)\/((∃xs,SqT K H1 a xs)/\R (Itt K a) H1)))\/∃z,x=.str z/\R (Its z) H1
def mR:T->Res (List T)
 |.lst _ ts=>if aR ts=true then .ok ts else .no
 |.tup ts=>if aR ts=true then .ok ts else .no
 |.str z=>.ok (z.cps.toList.map λc=>T.str ⟨#[c]⟩)
 |_=>.no
def zZ:T->Res (List T)
 |.lst o ts=>if(!o&&aR ts)=true then .ok ts else .no
 |.tup ts=>if aR ts=true then .ok ts else .no
 |.str z=>.ok (z.cps.toList.map λc=>T.str ⟨#[c]⟩)
 |_=>.no
def kK(f:T->Res (List T))(a:Fr->Res T):Fr->Res (List T):=λρ=>(a ρ).bind f
theorem Reps.bareE(r:Reps K cn H Z ts vs A)(h:aR ts=true):Reps K cn H Z ts vs []:=by have:=Reps.bare ts h r;subst this;exact r
theorem ey4(ha:RB Jn K cn E tl a):RI Jn K cn E false (iV K tl) (kK mR a):=λAs H Z ρ σ F R w=>by
 unfold kK at w;refine ha As H Z ρ σ F _ ?_;cases e:a ρ with
 |ok t=>
  rw[e]at w;intro v H1 Z1 B p;simp only[Res.bind]at w;cases t with
  |lst o ts=>
   simp only[mR]at w;split at w
   . next hn=>
     obtain⟨b,vs,C,rfl,hs,r,_⟩:=p.rep.lstSq;have hs:=hs.sq;exact .inl ⟨b,rfl,.inl ⟨⟨vs,hs⟩,w _ H1 Z1 p.mo (.inl ⟨b,vs,rfl,by rw[if_neg (by decide)];exact hs,r.bareE hn⟩)⟩⟩
   . exact w.elim
  |tup ts=>
   simp only[mR]at w;split at w
   . next hn=>
     have q:=p.rep;simp only[Rep]at q;obtain⟨b,vs,rfl,hs,r⟩:=q;exact .inl ⟨b,rfl,.inr ⟨⟨vs,hs⟩,w _ H1 Z1 p.mo (.inr (.inl ⟨b,vs,rfl,hs,r.bareE hn⟩))⟩⟩
   . exact w.elim
  |str z=>have q:=p.rep;simp only[Rep]at q;obtain⟨rfl,_⟩:=q;exact .inr ⟨z,rfl,w _ H1 Z1 p.mo (.inr (.inr (.inr (.inl ⟨z,rfl,rfl⟩))))⟩
  |_=>exact w.elim
 |ex x=>rw[e]at w;exact w
 |no=>rw[e]at w;exact w
theorem et5(ha:RB Jn K cn E tl a):RI Jn K cn E true (iV K tl) (kK zZ a):=λAs H Z ρ σ F R w=>by
 unfold kK at w;refine ha As H Z ρ σ F _ ?_;cases e:a ρ with
 |ok t=>
  rw[e]at w;intro v H1 Z1 B p;simp only[Res.bind]at w;cases t with
  |lst o ts=>
   simp only[zZ]at w;split at w
   . next hn=>
     rw[Bool.and_eq_true]at hn;cases o with
     |true=>exact absurd hn.1 (by decide)
     |false=>have q:=p.rep;simp only[Rep]at q;obtain⟨b,vs,rfl,rfl,hs,r⟩:=q;exact .inl ⟨b,rfl,.inl ⟨⟨vs,hs.sq⟩,w _ H1 Z1 p.mo (.inl ⟨b,vs,rfl,by rw[if_pos rfl];exact hs,r⟩)⟩⟩
   . exact w.elim
  |tup ts=>
   simp only[zZ]at w;split at w
   . next hn=>
     have q:=p.rep;simp only[Rep]at q;obtain⟨b,vs,rfl,hs,r⟩:=q;exact .inl ⟨b,rfl,.inr ⟨⟨vs,hs⟩,w _ H1 Z1 p.mo (.inr (.inl ⟨b,vs,rfl,hs,r.bareE hn⟩))⟩⟩
   . exact w.elim
  |str z=>have q:=p.rep;simp only[Rep]at q;obtain⟨rfl,_⟩:=q;exact .inr ⟨z,rfl,w _ H1 Z1 p.mo (.inr (.inr (.inr (.inl ⟨z,rfl,rfl⟩))))⟩
  |_=>exact w.elim
 |ex x=>rw[e]at w;exact w
 |no=>rw[e]at w;exact w
def ay3(fz:Bool):T->Option (List T)
 |.lst o ts=>if((!fz||!o)&&aR ts)=true then some ts else none
 |.tup ts=>if aR ts=true then some ts else none
 |_=>none
def bw3(fz:Bool):List T->Res (List T)
 |[t,u]=>match ay3 fz t,ay3 fz u with
  |some ts,some us=>.ok (iF ts us)
  |_,_=>.no
 |_=>.no
def et4(fz:Bool):List T->Res (List T)
 |[.lst o ts]=>if((!fz||!o)&&aR ts)=true then .ok (av2 ts)else .no
 |_=>.no
theorem di2(r:Rep K cn H Z (.lst o ts) v A)(hc:((!fz||!o)&&aR ts)=true):∃l vs,v=.ref l/\SqF fz false K H Z l vs/\Reps K cn H Z ts vs []:=by
 rw[Bool.and_eq_true]at hc;cases o with
 |true=>
  simp only[Rep]at r;obtain⟨a,vs,B,rfl,rfl,e,r⟩:=r;cases fz with
  |true=>simp at hc
  |false=>exact⟨a,vs,rfl,SqL.of e,r.bareE hc.2⟩
 |false=>
  simp only[Rep]at r;obtain⟨a,vs,rfl,rfl,e,r⟩:=r;cases fz with
  |true=>exact⟨a,vs,rfl,e,r⟩
  |false=>exact⟨a,vs,rfl,e.sq,r⟩
theorem bs7(r:Rep K cn H Z t v A)(h:ay3 fz t=some ts):∃k l vs,v=.ref l/\SqF fz k K H Z l vs/\Reps K cn H Z ts vs []:=by
 cases t with
 |lst o us=>
  simp only[ay3]at h;split at h
  . next hc=>
    cases h;exact⟨false,di2 r hc⟩
  . cases h
 |tup us=>
  simp only[ay3]at h;split at h
  . next hc=>
    cases h;simp only[Rep]at r;obtain⟨a,vs,rfl,e,r⟩:=r;exact⟨true,a,vs,rfl,e,r.bareE hc⟩
  . cases h
 |_=>simp[ay3]at h
theorem da8(ha:uR Jn K cn E ta a):RI Jn K cn E fz (cd6 K ta) (kG (bw3 fz) a):=λAs H Z ρ σ F R w=>by
 unfold kG at w;refine ha As H Z ρ σ F _ ?_;cases e:a ρ with
 |ok ts=>
  rw[e]at w;intro vs H1 Z1 B m r1;simp only[Res.bind]at w;unfold bw3 at w;split at w
  . next t u=>
    split at w
    . next p q h1 h2=>
      simp only[Reps]at r1;obtain⟨v,r',B1,C1,rfl,rfl,ra,v2,r2,B2,C2,rfl,rfl,rb,rfl,rfl⟩:=r1;obtain⟨k1,l1,us,rfl,s1,p1⟩:=bs7 ra h1;obtain⟨k2,l2,us',rfl,s2,p2⟩:=bs7 rb h2;exact⟨k1,k2,l1,l2,rfl,⟨_,s1.sq⟩,⟨_,s2.sq⟩,w _ H1 Z1 m (.inr (.inr (.inr (.inr (.inl ⟨k1,k2,l1,l2,us,us',_,_,rfl,s1,s2,p1,p2,rfl⟩)))))⟩
    . exact w.elim
  . exact w.elim
 |ex x=>rw[e]at w;exact w
 |no=>rw[e]at w;exact w
def RG(Jn:gC)(K:PySem.W.Frag)(cn:Str->Option Addr)(ks:List Nat)(g:TG)(b:T->Fr->Option Fr):Prop:=
 ∀As H Z ρ σ t v B,Frm Jn K cn H Z ρ σ As->Rep K cn H Z t v B->B.Nodup->(∀x∈B,¬Z x)->(∀x∈B,x∉As.flatten)->∀(Q:St->Hp->Prop) ρ',b t ρ=some ρ'->
  (∀σ' As',Frm Jn K cn H Z ρ' σ' As'->(∀a∈As'.flatten,a∈As.flatten\/a∈B)->σ'.length=σ.length->(∀i,i∉ks->σ'[i]?=σ[i]?)->Q σ' H)->g v σ H Q
structure RGs (Jn:gC) (K:PySem.W.Frag) (cn:Str->Option Addr) (ks:List Nat) (n:Nat) (g:TGs) (b:List T->Fr->Option Fr):Prop where
 len:∀ts ρ ρ',b ts ρ=some ρ'->ts.length=n
 run:∀As H Z ρ σ ts vs B,Frm Jn K cn H Z ρ σ As->Reps K cn H Z ts vs B->B.Nodup->(∀x∈B,¬Z x)->(∀x∈B,x∉As.flatten)->∀(Q:St->Hp->Prop) ρ',b ts ρ=some ρ'->
  (∀σ' As',Frm Jn K cn H Z ρ' σ' As'->(∀a∈As'.flatten,a∈As.flatten\/a∈B)->σ'.length=σ.length->(∀i,i∉ks->σ'[i]?=σ[i]?)->Q σ' H)->g vs σ H Q
def aJ(i:Nat):T->Fr->Option Fr:=λt ρ=>some (ρ.set i (some t))
def eS:List T->Fr->Option Fr
 |[],ρ=>some ρ
 |_::_,_=>none
def aY(b:T->Fr->Option Fr)(bs:List T->Fr->Option Fr):List T->Fr->Option Fr
 |[],_=>none
 |t::ts,ρ=>match b t ρ with
  |some ρ1=>bs ts ρ1
  |none=>none
def eE(bs:List T->Fr->Option Fr):T->Fr->Option Fr
 |.tup ts,ρ=>bs ts ρ
 |_,_=>none
theorem am7(i:Nat)(hJ:sM Jn i=true:=by rfl):RG Jn K cn [i] (wG i) (aJ i):=λAs H Z ρ σ t v B F r nd bz bo Q ρ' e h=>by cases e;refine h _ (As.set i B) (F.set r nd bz i (λb hb hA=>absurd hA (bo b hb)) hJ) (λa ha=>(eD ha).symm) (by rw[List.length_set]) λj hj=>?_;rw[List.getElem?_set_ne (λz=>hj (by rw[z];exact List.mem_cons_self))]
theorem dm1:RGs Jn K cn [] 0 di7 eS where
 len:=λts ρ ρ' e=>by
  cases ts with
  |nil=>rfl
  |cons _ _=>cases e
 run:=λAs H Z ρ σ ts vs B F r nd bz bo Q ρ' e h=>by
  cases ts with
  |nil=>cases e;simp only[Reps]at r;exact⟨r.1,h σ As F (λa ha=>.inl ha) rfl λ_ _=>rfl⟩
  |cons _ _=>cases e
theorem ci7(h1:RG Jn K cn ks g b)(h2:RGs Jn K cn ls n gs bs):RGs Jn K cn (ks++ls) (n+1) (ba9 g gs) (aY b bs) where
 len:=λts ρ ρ' e=>by
  cases ts with
  |nil=>cases e
  |cons t ts=>
   simp only[aY]at e;cases e1:b t ρ with
   |none=>rw[e1]at e;cases e
   |some ρ1=>rw[e1]at e;rw[List.length_cons,h2.len ts ρ1 ρ' e]
 run:=λAs H Z ρ σ ts vs B F r nd bz bo Q ρ' e h=>by
  cases ts with
  |nil=>cases e
  |cons t ts=>
   simp only[aY]at e;cases e1:b t ρ with
   |none=>rw[e1]at e;cases e
   |some ρ1=>
    rw[e1]at e;simp only[Reps]at r;obtain⟨v,vs',B1,B2,rfl,rfl,r1,r2⟩:=r;rw[List.nodup_append]at nd;refine⟨v,vs',rfl,h1 As H Z ρ σ t v B1 F r1 nd.1 (λx hx=>bz x (List.mem_append_left _ hx)) (λx hx=>bo x (List.mem_append_left _ hx)) _ ρ1 e1 λσ1 As1 F1 o1 l1 k1=>?_⟩;refine h2.run As1 H Z ρ1 σ1 ts vs' B2 F1 r2 nd.2.1 (λx hx=>bz x (List.mem_append_right _ hx)) (λx hx hA=>?_) Q ρ' e λσ2 As2 F2 o2 l2 k2=>?_
    . rcases o1 x hA with z|z
      . exact bo x (List.mem_append_right _ hx) z
      . exact nd.2.2 x z x hx rfl
    . refine h σ2 As2 F2 (λa ha=>?_) (l2.trans l1) λi hi=>?_
      . rcases o2 a ha with z|z
        . exact(o1 a z).imp_right (List.mem_append_left _)
        . exact .inr (List.mem_append_right _ z)
      . rw[k2 i (λz=>hi (List.mem_append_right _ z)),k1 i (λz=>hi (List.mem_append_left _ z))]
theorem dc6(h:RGs Jn K cn ks n gs bs):RG Jn K cn ks (cv6 K n gs) (eE bs):=λAs H Z ρ σ t v B F r nd bz bo Q ρ' e h'=>by
 cases t with
 |tup ts=>simp only[eE]at e;simp only[Rep]at r;obtain⟨a,vs,rfl,hs,r⟩:=r;exact⟨a,vs,rfl,hs,by rw[Reps.length ts r];exact h.len ts ρ ρ' e,h.run As H Z ρ σ ts vs B F r nd bz bo Q ρ' e h'⟩
 |_=>cases e
def cF(b:T->Fr->Option Fr)(c:Fr->Res Bool)(d:Fr->Res T)(ρ:Fr):List T->Res (List T)
 |[]=>.ok []
 |t::ts=>match b t ρ with
  |none=>.no
  |some ρ1=>(c ρ1).bind λk=>if k=true then(d ρ1).bind λu=>(cF b c d ρ ts).bind λus=>.ok (u::us)else cF b c d ρ ts
def eW(ks:List Nat)(di:Fr->Res (List T))(b:T->Fr->Option Fr)(c:Fr->Res Bool)(d:Fr->Res T):Fr->Res T:=λρ=>
 (di ρ).bind λts=>if ts.length<=sizeLine then(cF b c d (kills ks ρ) ts).bind λus=>.ok (.lst true us)else .no
def cT:Fr->Res Bool:=λ_=>.ok true
theorem dj9:RT Jn K cn E dd7 cT:=λAs H Z ρ σ F Q w=>w H Z F.mo0.postT
theorem Slots.clr(ks:List Nat):∀{ρ:Fr}{σ:St}{As:List (List Addr)},Slots K cn H Z ρ σ As->Slots K cn H Z (kills ks ρ) (L2.clr ks σ) (jD ks As):=by
 induction ks with
 |nil=>exact λh=>h
 |cons k ks ih=>exact λh=>ih (h.kill2 none k)
def vU(Jn:gC)(ks:List Nat):Bool:=ks.all (sM Jn)
theorem ae6:∀(ks:List Nat){σ:St},vU Jn ks=true->(∀p∈Jn,σ[p.1]?=some (some p.2))->∀p∈Jn,(L2.clr ks σ)[p.1]?=some (some p.2)
 |[],_,_,q=>q
 |k::ks,σ,h,q=>by unfold vU at h;rw[List.all_cons,Bool.and_eq_true]at h;exact ae6 ks h.2 (aa2 h.1 none q)
theorem Frm.clr(ks:List Nat)(F:Frm Jn K cn H Z ρ σ As)(hk:vU Jn ks=true):Frm Jn K cn H Z (TL.kills ks ρ) (L2.clr ks σ) (jD ks As):=
 ⟨F.sl.clr ks,(F.kills ks).nd,(F.kills ks).nz,F.zi,ae6 ks hk F.pn⟩
theorem dx4(hg:RG Jn K cn ks g b)(hc:RT Jn K cn E tc c)(he:RE Jn K cn E [] te d)(hk:vU Jn ks=true)
 (F:Frm Jn K cn H Z ρ σ As)(hs:Src K cn false H Z J ts)(hl:ts.length<=sizeLine)
 (w:WpE K cn E As H Z [] Q ((cF b c d (kills ks ρ) ts).bind λus=>.ok (.lst true us))):CGo ks g tc te σ (λD H'=>Q (.ref D) H') J H:=by
 let R (us:List T) (rest:List T):Res T:=(cF b c d (kills ks ρ) rest).bind λus'=>.ok (.lst true (us++us'));refine⟨λi m ys H'=>m=ts.length-i/\i<=ts.length/\∃us Z' B,Mo H Z H' Z'/\Reps K cn H' Z' us ys B/\B.Nodup/\(∀x∈B,¬Z' x/\H x=none)/\us.length<=i/\WpE K cn E As H Z [] Q (R us (ts.drop i)),⟨ts.length,by simp,Nat.zero_le _,[],Z,[],F.mo0,Reps.nil,List.nodup_nil,cL,Nat.le_refl _,?_⟩,?_⟩
 . simpa[R]using w
 rintro i m ys H1 ⟨rfl,hi,us,Z1,B,m1,r1,nd,bz,hul,w⟩;have hyl:=Reps.length us r1;have s1:=hs.mo m1;by_cases hlt:i<ts.length
 . obtain⟨t,et⟩:∃t,ts[i]?=some t:=⟨ts[i],List.getElem?_eq_getElem hlt⟩;obtain⟨go,yl⟩:=s1.turn m1.zi et;have ed:ts.drop i=t::ts.drop (i+1):=by have:=List.getElem?_eq_some_iff.mp et;obtain⟨h1,h2⟩:=this;rw[<-h2];exact List.drop_eq_getElem_cons hlt
   refine .inr ⟨go,by omega,_,λys' H' p'=>⟨ts.length-(i+1),by omega,p'⟩,λx H' y=>?_⟩;obtain⟨my,rx⟩:=yl x H' y;have r1:=r1.same my.same my.zz;have m1:=m1.trans my;have F1:=(F.mo m1).clr ks hk;rw[ed]at w;simp only[R,cF]at w;cases eb:b t (kills ks ρ)with
   |none=>rw[eb]at w;exact w.elim
   |some ρ1=>
    rw[eb]at w;simp only at w;refine hg (jD ks As) H' Z1 (kills ks ρ) (L2.clr ks σ) t x [] F1 rx List.nodup_nil (cL) (cL) _ ρ1 eb λσ2 As2 F2 o2 l2 k2=>⟨⟨?_,λj v hj=>?_⟩,?_⟩
    . rw[l2,rC]
    . have:=(ac8 ks σ hj).2;rw[k2 j this,hj]
    refine hc As2 H' Z1 ρ1 σ2 F2 _ ?_;have toX:∀{x:Exc}{H2:Hp}{Z2:Addr->Prop},Mo H' Z1 H2 Z2->WpX K cn E As H Z x->WpX K cn E As2 H2 Z2 x:=by
     intro x H2 Z2 m2 h;refine h.ev (m1.trans m2).ev|>.ev ⟨λ_ _ q _=>q,λa ha=>?_,λ_ q=>q,λ_ q=>.inl q,λ_ q=>q⟩
     rcases o2 a ha with z|z
     . exact .inl (iC z)
     . cases z
    cases ec:c ρ1 with
    |ok k=>
     rw[ec]at w;intro H2 Z2 p2;simp only[Res.bind]at w;cases k with
     |true=>
      rw[if_pos rfl]at w;rw[if_pos rfl];refine he As2 H2 Z2 ρ1 σ2 (F2.mo p2.mo) _ ?_;cases ee:d ρ1 with
      |ok u=>
       rw[ee]at w;intro v H3 Z3 C p3;have m3:=(m1.trans p2.mo).trans p3.mo;have bnC:∀y∈C,H2 y=none:=λy hy=>(p3.bn y hy).resolve_right (λ⟨i,hi,_⟩=>by cases hi);refine⟨rfl,hlt,us++[u],Z3,B++C,m3,Reps.append us (r1.same (p2.same.trans p3.same) (λa h=>p3.zz a (p2.zz a h))) (Reps.one p3.rep),?_,?_,by simp;omega,?_⟩
       . rw[List.nodup_append];refine⟨nd,p3.nd,λx hx y hy e=>?_⟩;subst e;obtain⟨o,ho,_⟩:=Reps.dom us r1 x hx;have:=bnC x hy;rw[p2.same x o ho]at this;cases this
       . intro x hx;rcases List.mem_append.mp hx with hx|hx
         . refine⟨λz=>?_,(bz x hx).2⟩;obtain⟨o,ho,_⟩:=Reps.dom us r1 x hx;rcases(p2.mo.trans p3.mo).zn x z with z|z
           . exact(bz x hx).1 z
           . rw[ho]at z;cases z
         . exact⟨p3.bz x hx,(m1.trans p2.mo).same.free (bnC x hx)⟩
       . simp only[R];have:∀r:Res (List T),((r.bind λus'=>Res.ok (u::us')).bind λus'=>Res.ok (T.lst true (us++us')))=r.bind λus'=>Res.ok (T.lst true (us++[u]++us')):=by intro r;cases r<;>simp[Res.bind]
         simp only at w;rw[<-this];exact w
      |ex x=>rw[ee]at w;exact toX p2.mo w
      |no=>rw[ee]at w;exact w.elim
     |false=>
      rw[if_neg (by decide)]at w;rw[if_neg (by decide)];refine⟨rfl,hlt,us,Z2,B,m1.trans p2.mo,r1.same p2.same p2.zz,nd,λx hx=>⟨λz=>?_,(bz x hx).2⟩,by omega,w⟩;obtain⟨o,ho,_⟩:=Reps.dom us r1 x hx;rcases p2.zn x z with z|z
      . exact(bz x hx).1 z
      . rw[ho]at z;cases z
    |ex x=>rw[ec]at w;exact toX ⟨Same.refl _,λ_ h=>h,λ_ h=>.inl h,m1.zi⟩ w
    |no=>rw[ec]at w;exact w.elim
 . have ei:i=ts.length:=by omega
   subst ei;refine .inl ⟨s1.stop (Nat.le_refl _),λD hD=>?_⟩;rw[List.drop_length]at w;simp only[R,cF,Res.bind,List.append_nil]at w;have hm:=m1.trans (Mo.new (.lst ys) hD m1.zi);refine w (.ref D) _ Z1 (D::B) ⟨hm.same,hm.zz,hm.zn,hm.zi,?_,?_,?_,?_⟩
   . simp only[Rep];exact⟨D,ys,B,rfl,rfl,cJ,r1.same (bw4 hD _) (λ_ h=>h)⟩
   . refine List.nodup_cons.mpr ⟨λhb=>?_,nd⟩;obtain⟨o,ho,_⟩:=Reps.dom us r1 D hb;rw[ho]at hD;cases hD
   . intro x hx;rcases List.mem_cons.mp hx with rfl|hx
     . exact λz=>m1.zi _ z hD
     . exact(bz x hx).1
   . intro x hx;rcases List.mem_cons.mp hx with rfl|hx
     . exact .inl (m1.same.free hD)
     . exact .inl (bz x hx).2
theorem ba8(hi:RI Jn K cn E false wi di)(hg:RG Jn K cn ks g b)(hc:RT Jn K cn E tc c)(he:RE Jn K cn E [] te d)(hk:vU Jn ks=true:=by rfl):
 RE Jn K cn E [] (by9 ks wi g tc te) (eW ks di b c d):=λAs H Z ρ σ F Q w=>by
 unfold eW at w;refine hi As H Z ρ σ F _ ?_;cases e:di ρ with
 |ok ts=>
  rw[e]at w;intro J H1 Z1 m s;simp only[Res.bind]at w;split at w
  . next hl=>exact dx4 hg hc he hk (F.mo m) s hl (WpE.mo F w m)
  . exact w.elim
 |ex x=>rw[e]at w;exact w
 |no=>rw[e]at w;exact w
def aQ(a b:Fr->bO):Fr->bO:=λρ=>match a ρ with
 |.nx ρ'=>b ρ'
 |o=>o
def bM:Fr->bO:=λρ=>.nx ρ
theorem dm3:RS Jn K cn E du0 bM:=λAs H Z ρ σ F D w=>w σ As H Z F Ev.refl
theorem ag1(ha:RS Jn K cn E t a)(hb:RS Jn K cn E u b):RS Jn K cn E (bx8 t u) (aQ a b):=λAs H Z ρ σ F D w=>by
 unfold aQ at w;refine ha As H Z ρ σ F _ ?_;cases e:a ρ with
 |nx ρ'=>rw[e]at w;exact λσ' As' H' Z' F' ev=>hb As' H' Z' ρ' σ' F' D (Wp.ev w ev)
 |bk ρ'=>rw[e]at w;exact w
 |ct ρ'=>rw[e]at w;exact w
 |rt t=>rw[e]at w;exact w
 |rm ρ' t=>rw[e]at w;exact w
 |ex x=>rw[e]at w;exact w
 |no=>rw[e]at w;exact w
def bH(mv:List Nat)(d:Fr->Res T)(b:T->Fr->Option Fr):Fr->bO:=λρ=>match d ρ with
 |.ok t=>match b t (kills mv ρ)with
  |some ρ'=>.nx ρ'
  |none=>.no
 |.ex x=>.ex x
 |.no=>.no
theorem Post.out(F:Frm Jn K cn H Z ρ σ As)(p:Post K cn As H Z mv H' Z' t v B):∀x∈B,x∉(jD mv As).flatten:=λx hx hA=>by
 rcases p.bn x hx with z|⟨i,hi,z⟩
 . obtain⟨o,ho,_⟩:=F.sl.dom x (iC hA);rw[ho]at z;cases z
 . exact ak9 F.nd hi z hA
theorem Post.inA(p:Post K cn As H Z mv H' Z' t v B):∀x∈B,x∈As.flatten\/H x=none:=λx hx=>by
 rcases p.bn x hx with z|⟨i,hi,z⟩
 . exact .inr z
 . exact .inl (bI z)
theorem ci4(he:RE Jn K cn E mv te d)(hg:RG Jn K cn ks g b):RS Jn K cn E (ad7 te g) (bH mv d b):=λAs H Z ρ σ F D w=>by
 unfold bH at w;refine he As H Z ρ σ F _ ?_;cases e:d ρ with
 |ok t=>
  rw[e]at w;intro v H1 Z1 B p;simp only at w;cases eb:b t (kills mv ρ)with
  |none=>rw[eb]at w;exact w.elim
  |some ρ'=>
   rw[eb]at w;refine hg (jD mv As) H1 Z1 (kills mv ρ) σ t v B ((F.mo p.mo).kills mv) p.rep p.nd p.bz (p.out F) _ ρ' eb λσ' As' F' o' _ _=>?_;refine w σ' As' H1 Z1 F' ⟨λa o h _=>p.same a o h,λa ha=>?_,p.zz,λa h=>(p.zn a h).imp_right .inr,λa h=>p.same.free h⟩;rcases o' a ha with z|z
   . exact .inl (iC z)
   . exact p.inA a z
 |ex x=>rw[e]at w;exact w
 |no=>rw[e]at w;exact w
theorem bv8(hi:RI Jn K cn E false wi di)(hg:RG Jn K cn ks g b)(hc:RT Jn K cn E tc c)(he:RE Jn K cn E [] te d)(hk:vU Jn ks=true:=by rfl)(hJ:sM Jn k=true:=by rfl):
 RS Jn K cn E (at3 k ks wi g tc te) (bH [] (eW ks di b c d) (aJ k)):=λAs H Z ρ σ F D w=>
 ci4 (ba8 hi hg hc he hk) (am7 k hJ) As H Z ρ σ F D w
def bD(mv:List Nat)(d:Fr->Res T):Fr->bO:=λρ=>match d ρ with
 |.ok t=>.rt t
 |.ex x=>.ex x
 |.no=>.no
theorem dv9(he:RE Jn K cn E mv te d):RS Jn K cn E (do8 te) (bD mv d):=λAs H Z ρ σ F D w=>by
 unfold bD at w;refine he As H Z ρ σ F _ ?_;cases e:d ρ with
 |ok t=>rw[e]at w;intro v H1 Z1 B p;refine w v H1 Z1 B ⟨⟨λa o h _=>p.same a o h,λa ha=>?_,p.zz,λa h=>(p.zn a h).imp_right .inr,λa h=>p.same.free h⟩,p.rep,p.nd,p.bz,p.zi⟩;rw[List.flatten_cons,List.flatten_nil,List.append_nil]at ha;exact p.inA a ha
 |ex x=>rw[e]at w;exact w
 |no=>rw[e]at w;exact w
def dA(c:Fr->Res Bool)(a b:Fr->bO):Fr->bO:=λρ=>match c ρ with
 |.ok k=>if k=true then a ρ else b ρ
 |.ex x=>.ex x
 |.no=>.no
theorem eo3(hc:RT Jn K cn E tt c)(ha:RS Jn K cn E t a)(hb:RS Jn K cn E u b):RS Jn K cn E (de8 tt t u) (dA c a b):=λAs H Z ρ σ F D w=>by
 unfold dA at w;refine hc As H Z ρ σ F _ ?_;cases e:c ρ with
 |ok k=>
  rw[e]at w;intro H1 Z1 p;simp only at w;split
  . next h=>rw[if_pos h]at w;exact ha As H1 Z1 ρ σ (F.mo p.mo) D (Wp.ev w p.mo.ev)
  . next h=>rw[if_neg h]at w;exact hb As H1 Z1 ρ σ (F.mo p.mo) D (Wp.ev w p.mo.ev)
 |ex x=>rw[e]at w;exact w
 |no=>rw[e]at w;exact w
def es1(d:Fr->Res T):Fr->bO:=λρ=>match d ρ with
 |.ok _=>.nx ρ
 |.ex x=>.ex x
 |.no=>.no
def dz9:Fr->bO:=λρ=>.bk ρ
def ei0:Fr->bO:=λρ=>.ct ρ
def iI(b:T->Fr->Option Fr)(body:Fr->bO):List T->Fr->bO
 |[],ρ=>.nx ρ
 |t::ts,ρ=>match b t ρ with
  |none=>.no
  |some ρ1=>match body ρ1 with
   |.nx ρ2=>iI b body ts ρ2
   |.ct ρ2=>iI b body ts ρ2
   |.bk ρ2=>.nx ρ2
   |o=>o
def pI(di:Fr->Res (List T))(b:T->Fr->Option Fr)(body:Fr->bO):Fr->bO:=λρ=>match di ρ with
 |.ok ts=>iI b body ts ρ
 |.ex x=>.ex x
 |.no=>.no
theorem dy5(hi:RI Jn K cn E true wi di)(hg:RG Jn K cn ks g b)(hb:RS Jn K cn E tb body):RS Jn K cn E (da7 wi g tb) (pI di b body):=λAs H Z ρ σ F D w=>by
 unfold pI at w;refine hi As H Z ρ σ F _ ?_;cases e:di ρ with
 |ok ts=>
  rw[e]at w;intro J H1 Z1 m s;refine⟨λi k σ' H'=>k=ts.length-i/\i<=ts.length/\∃ρ' Z' As',Frm Jn K cn H' Z' ρ' σ' As'/\Src K cn true H' Z' J ts/\Wp Jn K cn E As' H' Z' D (iI b body (ts.drop i) ρ'),⟨ts.length,by simp,Nat.zero_le _,ρ,Z1,As,F.mo m,s,Wp.ev w m.ev⟩,?_⟩;rintro i k σ1 H2 ⟨rfl,hle,ρ1,Z2,As1,F1,s1,w1⟩;by_cases hlt:i<ts.length
  . obtain⟨t,et⟩:∃t,ts[i]?=some t:=⟨ts[i],List.getElem?_eq_getElem hlt⟩;obtain⟨go,yl⟩:=s1.turn F1.zi et;have ed:ts.drop i=t::ts.drop (i+1):=by obtain⟨h1,h2⟩:=List.getElem?_eq_some_iff.mp et;rw[<-h2];exact List.drop_eq_getElem_cons hlt
    refine .inr ⟨go,_,λσ' H' p'=>⟨ts.length-(i+1),by omega,p'⟩,λx H' y=>?_⟩;obtain⟨my,rx⟩:=yl x H' y;have F1:=F1.mo my;have s1:=s1.mo my;have w1:=Wp.ev w1 (my.ev (As:=As1));rw[ed]at w1;simp only[iI]at w1;cases eb:b t ρ1 with
    |none=>rw[eb]at w1;exact w1.elim
    |some ρ2=>
     rw[eb]at w1;simp only at w1;refine hg As1 H' Z2 ρ1 σ1 t x [] F1 rx List.nodup_nil (cL) (cL) _ ρ2 eb λσ2 As2 F2 o2 _ _=>?_;have ev2:Ev As1 H' Z2 As2 H' Z2:=⟨λ_ _ q _=>q,λa ha=>.inl ((o2 a ha).resolve_right ((λz=>nomatch z))),λ_ q=>q,λ_ q=>.inl q,λ_ q=>q⟩;refine hb As2 H' Z2 ρ2 σ2 F2 _ ?_;have w2:=Wp.ev w1 ev2;cases eo:body ρ2 with
     |nx ρ3=>rw[eo]at w2;exact λσ' As' H'' Z' F' ev=>⟨rfl,hlt,ρ3,Z',As',F',(s1.ev F1 ev2).ev F2 ev,Wp.ev w2 ev⟩
     |ct ρ3=>rw[eo]at w2;exact λσ' As' H'' Z' F' ev=>⟨rfl,hlt,ρ3,Z',As',F',(s1.ev F1 ev2).ev F2 ev,Wp.ev w2 ev⟩
     |bk ρ3=>rw[eo]at w2;exact w2
     |rt t=>rw[eo]at w2;exact w2
     |rm ρ3 t=>rw[eo]at w2;exact w2
     |ex x=>rw[eo]at w2;exact w2
     |no=>rw[eo]at w2;exact w2
  . have ei:i=ts.length:=by omega
    subst ei;rw[List.drop_length]at w1;exact .inl ⟨s1.stop (Nat.le_refl _),w1 σ1 As1 H2 Z2 F1 Ev.refl⟩
 |ex x=>rw[e]at w;exact w
 |no=>rw[e]at w;exact w
def rF(c:Fr->Res Bool)(body:Fr->bO):Nat->Fr->bO
 |0,_=>.no
 |n+1,ρ=>match c ρ with
  |.ok k=>if k=true then match body ρ with
   |.nx ρ2=>rF c body n ρ2
   |.ct ρ2=>rF c body n ρ2
   |.bk ρ2=>.nx ρ2
   |o=>o
   else .nx ρ
  |.ex x=>.ex x
  |.no=>.no
theorem bv7:∃n:Nat,10^12<=n:=⟨_,Nat.le_refl _⟩
noncomputable def wQ:Nat:=Classical.choose bv7
theorem di3:10^12<=wQ:=Classical.choose_spec bv7
noncomputable def vI(c:Fr->Res Bool)(body:Fr->bO):Fr->bO:=rF c body wQ
theorem co8(hc:RT Jn K cn E tc c)(hb:RS Jn K cn E tb body):RS Jn K cn E (cj2 tc tb) (vI c body):=λAs H Z ρ σ F D w=>by
 unfold vI at w;refine⟨λn σ' H'=>∃ρ' Z' As',Frm Jn K cn H' Z' ρ' σ' As'/\Wp Jn K cn E As' H' Z' D (rF c body n ρ'),⟨wQ,ρ,Z,As,F,w⟩,?_⟩;rintro n σ1 H1 ⟨ρ1,Z1,As1,F1,w1⟩;cases n with
 |zero=>exact w1.elim
 |succ n=>
  refine hc As1 H1 Z1 ρ1 σ1 F1 _ ?_;simp only[rF]at w1;cases ec:c ρ1 with
  |ok k=>
   rw[ec]at w1;intro H2 Z2 p2;simp only at w1;cases k with
   |true=>
    rw[if_pos rfl]at w1;rw[if_pos rfl];refine⟨λσ' H'=>∃ρ' Z' As',Frm Jn K cn H' Z' ρ' σ' As'/\Wp Jn K cn E As' H' Z' D (rF c body n ρ'),λσ' H' p'=>⟨n,Nat.lt_succ_self _,p'⟩,?_⟩;refine hb As1 H2 Z2 ρ1 σ1 (F1.mo p2.mo) _ ?_;have w2:=Wp.ev w1 p2.mo.ev;cases eo:body ρ1 with
    |nx ρ3=>rw[eo]at w2;exact λσ' As' H'' Z' F' ev=>⟨ρ3,Z',As',F',Wp.ev w2 ev⟩
    |ct ρ3=>rw[eo]at w2;exact λσ' As' H'' Z' F' ev=>⟨ρ3,Z',As',F',Wp.ev w2 ev⟩
    |bk ρ3=>rw[eo]at w2;exact w2
    |rt t=>rw[eo]at w2;exact w2
    |rm ρ3 t=>rw[eo]at w2;exact w2
    |ex x=>rw[eo]at w2;exact w2
    |no=>rw[eo]at w2;exact w2
   |false=>rw[if_neg (by decide)]at w1;rw[if_neg (by decide)];exact w1 σ1 As1 H2 Z2 (F1.mo p2.mo) p2.mo.ev
  |ex x=>rw[ec]at w1;exact w1
  |no=>rw[ec]at w1;exact w1
end
end TL
namespace TL
open PySem PySem.Spec PyProof.Rows L2
section
variable {Jn : gC} {K : PySem.W.Frag} {cn : Str → Option Addr} {E : XK}
def zF(t':T):List Nat->T->Option T
 |[],_=>some t'
 |k::p,.lst o ts=>match ts[k]? with
  |some t=>(zF t' p t).map λu=>.lst o (ts.set k u)
  |none=>none
 |k::p,.tup ts=>match ts[k]? with
  |some t=>(zF t' p t).map λu=>.tup (ts.set k u)
  |none=>none
 |k::p,.ins o c ns ts=>match ts[k]? with
  |some t=>(zF t' p t).map λu=>.ins o c ns (ts.set k u)
  |none=>none
 |_::_,_=>none
structure Plug (K:PySem.W.Frag) (cn:Str->Option Addr) (H:Hp) (Z:Addr->Prop) (t0:T) (v0:V) (A0:List Addr) (p:List Nat) (u:T) (v:V) (B:List Addr):Prop where
 rep:Rep K cn H Z u v B
 sub:B.Sublist A0
 plug:∀H' Z' u' B',(∀a,Z a->Z' a)->(∀b o,H b=some o->((b∈A0/\b∉B)\/Z b\/uT o=true)->H' b=some o)->Rep K cn H' Z' u' v B'->B'.Nodup->(∀x∈B',x∈A0->x∈B)->
  ∃t' A',zF u' p t0=some t'/\Rep K cn H' Z' t' v0 A'/\A'.Nodup/\∀x∈A',(x∈A0/\x∉B)\/x∈B'
theorem Plug.mo(h:Plug K cn H Z t0 v0 A0 p u v B)(s:Same H H1)(zz:∀a,Z a->Z1 a):Plug K cn H1 Z1 t0 v0 A0 p u v B:=
 ⟨h.rep.same s zz,h.sub,λH' Z' u' B' z k=>h.plug H' Z' u' B' (λa q=>z a (zz a q)) λb o q c=>k b o (s b o q) (by
  rcases c with c|c|c
  . exact .inl c
  . exact .inr (.inl (zz b c))
  . exact .inr (.inr c))⟩
theorem Plug.root(h:Rep K cn H Z t0 v0 A0):Plug K cn H Z t0 v0 A0 [] t0 v0 A0:=
 ⟨h,List.Sublist.refl _,λH' Z' u' B' z k r nd _=>⟨u',B',rfl,r,nd,λx hx=>.inr hx⟩⟩
def mV:List Nat->T->Option T
 |[],t=>some t
 |k::p,.lst _ ts=>(ts[k]?).bind (mV p)
 |k::p,.tup ts=>(ts[k]?).bind (mV p)
 |k::p,.ins _ _ _ ts=>(ts[k]?).bind (mV p)
 |_::_,_=>none
def WpP(K:PySem.W.Frag)(cn:Str->Option Addr)(E:XK)(As:List (List Addr))(H:Hp)(Z:Addr->Prop)(A0:List Addr)(t0:T)(v0:V)(Q:VK):Res (List Nat)->Prop
 |.ok p=>∀u v B H' Z',Mo H Z H' Z'->mV p t0=some u->Plug K cn H' Z' t0 v0 A0 p u v B->Q v H'
 |.ex x=>WpX K cn E As H Z x
 |.no=>False
def RP(Jn:gC)(K:PySem.W.Frag)(cn:Str->Option Addr)(E:XK)(j:Nat)(to:TE)(d:Fr->Res (List Nat)):Prop:=∀As H Z ρ σ,Frm Jn K cn H Z ρ σ As->∀t0 v0,ρ[j]?=some (some t0)->σ[j]?=some (some v0)->Rep K cn H Z t0 v0 (As.getD j [])->∀Q,WpP K cn E As H Z (As.getD j []) t0 v0 Q (d ρ)->to σ H Q
def jB:Fr->Res (List Nat):=λ_=>.ok []
theorem dc5(j:Nat):RP Jn K cn E j (xA j) jB:=λAs H Z ρ σ F t0 v0 e1 e2 r Q w=>⟨v0,e2,w t0 v0 _ H Z F.mo0 rfl (Plug.root r)⟩
def ep4:T->Option (List T)
 |.lst o ts=>if o=true then some ts else none
 |.tup ts=>some ts
 |_=>none
def pIx(j:Nat)(d:Fr->Res (List Nat))(i:Fr->Res T):Fr->Res (List Nat):=λρ=>(d ρ).bind λp=>(i ρ).bind λx=>match ρ[j]?,x with
 |some (some t0),.int n=>match(mV p t0).bind ep4 with
  |some ts=>match zX ts.length n with
   |some k=>.ok (p++[k])
   |none=>.no
  |none=>.no
 |_,_=>.no
theorem am2{As:List (List Addr)}(h:As.flatten.Nodup)(i:Nat):(As.getD i []).Nodup:=by
 rw[List.getD_eq_getElem?_getD];cases q:As[i]? with
 |none=>exact List.nodup_nil
 |some C=>exact List.Nodup.sublist (List.sublist_flatten_of_mem (List.mem_of_getElem? q)) h
def af6(j:Nat)(p:List Nat)(us:List T)(ρ:Fr):bO:=match ρ[j]? with
 |some (some t0)=>match zF (.lst true us) p t0 with
  |some t'=>.nx (ρ.set j (some t'))
  |none=>.no
 |_=>.no
def bn3(j:Nat)(p:List Nat)(u:T)(ρ:Fr):bO:=match ρ[j]? with
 |some (some t0)=>match zF u p t0 with
  |some t'=>.nx (ρ.set j (some t'))
  |none=>.no
 |_=>.no
theorem ah7{As As1:List (List Addr)}{H H1:Hp}{Z Z1:Addr->Prop}{ρ1:Fr}{σ:St}{j:Nat}{t0:T}{v0:V}{p:List Nat}{u u':T}{v:V}{B:List Addr}{D:wY}
 (F1:Frm Jn K cn H1 Z1 ρ1 σ As1)(e1:ρ1[j]?=some (some t0))(e2:σ[j]?=some (some v0))(pl:Plug K cn H1 Z1 t0 v0 (As1.getD j []) p u v B)
 {a:Addr}{o0 o1:HO}{C0 C:List Addr}(ev:v=.ref a)(eB:B=a::C0)(ha:H1 a=some o0)(hi:uT o0=false)(hC:a∉C->¬Z1 a->Rep K cn (L2.upd H1 a o1) Z1 u' (.ref a) (a::C))(ndC:C.Nodup)(hCz:∀x∈C,¬Z1 x)(hCa:∀x∈C,x∈As1.flatten->x∈C0)
 (evl:Ev As H Z As1 H1 Z1)(hCn:∀x∈C,x∈As.flatten\/H x=none)(w:Wp Jn K cn E As H Z D (bn3 j p u' ρ1)):D.nx σ (L2.upd H1 a o1):=by
 subst ev eB;have nd:=am2 F1.nd j;have ndB:(a::C0).Nodup:=nd.sublist pl.sub;have aA:a∈As1.getD j []:=pl.sub.mem List.mem_cons_self;have aZ:¬Z1 a:=F1.nz a (bI aA);have aC:a∉C:=λh=>(List.nodup_cons.mp ndB).1 (hCa a h (bI aA));obtain⟨t',A',es,r',ndA,hA⟩:=pl.plug (L2.upd H1 a o1) Z1 u' (a::C) (λ_ h=>h) (λb o q c=>by
  rw[bA]
  . exact q
  . rintro rfl;rcases c with c|c|c
    . exact c.2 List.mem_cons_self
    . exact aZ c
    . rw[ha]at q;cases q;rw[hi]at c;cases c) (hC aC aZ) (List.nodup_cons.mpr ⟨aC,ndC⟩) (λx hx hxa=>by
    rcases List.mem_cons.mp hx with rfl|hx
    . exact List.mem_cons_self
    . exact List.mem_cons_of_mem _ (hCa x hx (bI hxa)))
 unfold bn3 at w;rw[e1]at w;simp only[es]at w;have hA':∀x∈A',x∈As1.getD j []\/x∈C:=λx hx=>by
  rcases hA x hx with q|q
  . exact .inl q.1
  . rcases List.mem_cons.mp q with rfl|q
    . exact .inl aA
    . exact .inr q
 have slots:∀{ρ:Fr}{σ:St}{As:List (List Addr)}{i:Nat},Slots K cn H1 Z1 ρ σ As->As.flatten.Nodup->(∀x∈As.flatten,x=a->x∈As.getD i [])->σ[i]?=some (some v0)->Slots K cn (L2.upd H1 a o1) Z1 (ρ.set i (some t')) σ (As.set i A'):=by
  intro ρ;induction ρ with
  |nil=>intro σ As i h _ _ e;obtain⟨rfl,rfl⟩:=h;simp at e
  |cons o ρ ih=>
   intro σ As i h nd hx e;obtain⟨w',σ',A,As',rfl,rfl,h1,h2⟩:=h;rw[List.flatten_cons,List.nodup_append]at nd;cases i with
   |zero=>
    simp at e;subst e;refine⟨_,σ',A',As',rfl,rfl,⟨v0,rfl,r'⟩,?_⟩;have na:a∉As'.flatten:=λh=>by have:=hx a (by rw[List.flatten_cons,List.mem_append];exact .inr h) rfl;exact nd.2.2 a (by simpa using this) a h rfl
    have:∀{ρ:Fr}{σ:St}{As:List (List Addr)},Slots K cn H1 Z1 ρ σ As->a∉As.flatten->Slots K cn (L2.upd H1 a o1) Z1 ρ σ As:=by
     intro ρ;induction ρ with
     |nil=>intro σ As h _;exact h
     |cons o ρ ih=>
      intro σ As h hn;obtain⟨w',σ',A,As',rfl,rfl,h1,h2⟩:=h;rw[List.flatten_cons,List.mem_append,not_or]at hn;refine⟨w',σ',A,As',rfl,rfl,?_,ih h2 hn.2⟩;cases o with
      |none=>exact h1
      |some t=>obtain⟨v,e,r⟩:=h1;exact⟨v,e,r.upd ha hi hn.1 aZ⟩
    exact this h2 na
   |succ i=>
    refine⟨w',σ',A,As'.set i A',rfl,rfl,?_,ih h2 nd.2.1 (λx hx' ex=>?_) (by simpa using e)⟩
    . have na:a∉A:=λh=>by
       have:=hx a (by rw[List.flatten_cons,List.mem_append];exact .inl h) rfl;have:a∈As'.getD i []:=by simpa using this
       exact nd.2.2 a h a (bI this) rfl
      cases o with
      |none=>exact h1
      |some t=>obtain⟨v,e,r⟩:=h1;exact⟨v,e,r.upd ha hi na aZ⟩
    . have:=hx x (by rw[List.flatten_cons,List.mem_append];exact .inr hx') ex;simpa using this
 refine w σ (As1.set j A') _ Z1 ⟨slots F1.sl F1.nd (λx _ ex=>by rw[ex];exact aA) e2,mM ndA F1.nd (λb hb hf=>?_),λb hb z=>?_,λb z=>?_,F1.pn⟩ ?_
 . rcases hA' b hb with q|q
   . exact q
   . exact pl.sub.mem (List.mem_cons_of_mem _ (hCa b q hf))
 . rcases eD hb with q|q
   . rcases hA' b q with q|q
     . exact F1.nz b (bI q) z
     . exact hCz b q z
   . exact F1.nz b q z
 . by_cases e:b=a
   . rw[e,cJ];exact(λz=>nomatch z)
   . rw[bA e];exact F1.zi b z
 . refine⟨λb o q hb=>?_,λb hb=>?_,evl.zz,evl.zn,λb hb=>evl.dom b ?_⟩
   . rw[bA]
     . exact evl.keep b o q hb
     . rintro rfl;rcases evl.own b (bI aA)with z|z
       . exact hb z
       . rw[q]at z;cases z
   . rcases eD hb with q|q
     . rcases hA' b q with q|q
       . exact evl.own b (bI q)
       . exact hCn b q
     . exact evl.own b q
   . by_cases e:b=a
     . rw[e,cJ]at hb;cases hb
     . rw[bA e]at hb;exact hb
theorem dr6
 (F1:Frm Jn K cn H1 Z1 ρ1 σ As1)(e1:ρ1[j]?=some (some t0))(e2:σ[j]?=some (some v0))(pl:Plug K cn H1 Z1 t0 v0 (As1.getD j []) p (.lst true us) v B)
 (ev:v=.ref a)(eB:B=a::C0)(ha:H1 a=some (.lst ws))(hC:Reps K cn H1 Z1 us' ws' C)(ndC:C.Nodup)(hCz:∀x∈C,¬Z1 x)(hCa:∀x∈C,x∈As1.flatten->x∈C0)
 (evl:Ev As H Z As1 H1 Z1)(hCn:∀x∈C,x∈As.flatten\/H x=none)(w:Wp Jn K cn E As H Z D (af6 j p us' ρ1)):D.nx σ (L2.upd H1 a (.lst ws')):=by
 subst ev eB;refine ah7 (E:=E) F1 e1 e2 pl rfl rfl ha rfl (u':=.lst true us') (λaC aZ=>?_) ndC hCz hCa evl hCn w;simp only[Rep];exact⟨a,ws',C,rfl,rfl,cJ,Reps.upd hC ha rfl aC aZ⟩
def xC(j:Nat)(mv:List Nat)(d:Fr->Res (List Nat))(e:Fr->Res T):Fr->bO:=λρ=>match ρ[j]? with
 |some (some t0)=>match d ρ with
  |.ok p=>match mV p t0 with
   |some (.lst true us)=>match e ρ with
    |.ok t=>if us.length<sizeLine then af6 j p (us++[t]) (kills mv ρ)else .no
    |.ex x=>.ex x
    |.no=>.no
   |_=>.no
  |.ex x=>.ex x
  |.no=>.no
 |_=>.no
theorem ac5:∀(mv:List Nat),mv.contains j=false->∀As:List (List Addr),(jD mv As).getD j []=As.getD j []
 |[],_,_=>rfl
 |i::is,h,As=>by simp only[List.contains_cons,Bool.or_eq_false_iff,beq_eq_false_iff_ne]at h;show(jD is (As.set i [])).getD j []=_;rw[ac5 is h.2,List.getD_eq_getElem?_getD,List.getElem?_set_ne (Ne.symm h.1),<-List.getD_eq_getElem?_getD]
theorem ag9:∀(mv:List Nat),mv.contains j=false->∀ρ:Fr,(kills mv ρ)[j]?=ρ[j]?
 |[],_,_=>rfl
 |i::is,h,ρ=>by simp only[List.contains_cons,Bool.or_eq_false_iff,beq_eq_false_iff_ne]at h;show(kills is (ρ.set i none))[j]?=_;rw[ag9 is h.2,List.getElem?_set_ne (Ne.symm h.1)]
theorem dx6{j:Nat}{mv:List Nat}{to te:TE}{d:Fr->Res (List Nat)}{e:Fr->Res T}(hd:RP Jn K cn E j to d)(he:RE Jn K cn E mv te e)(hj:mv.contains j=false:=by rfl):RS Jn K cn E (da0 (tBM K "list" ay7 to (wI te ac4))) (xC j mv d e):=λAs H Z ρ σ F D w=>by
 unfold xC at w;cases e1:ρ[j]? with
 |none=>rw[e1]at w;exact w.elim
 |some o=>
  rw[e1]at w;cases o with
  |none=>exact w.elim
  |some t0=>
   obtain⟨v0,e2,r0⟩:=F.sl.get e1;refine hd As H Z ρ σ F t0 v0 e1 e2 r0 _ ?_;simp only at w;cases ed:d ρ with
   |ok p=>
    rw[ed]at w;intro u v B H1 Z1 m1 hn pl;simp only[hn]at w;split at w
    . next us hq=>
      cases hq;have q:=pl.rep;simp only[Rep]at q;obtain⟨a,ws,C0,rfl,rfl,ea,rs⟩:=q;refine⟨.inl ⟨rfl,ws,SqL.of ea⟩,he As H1 Z1 ρ σ (F.mo m1) _ ?_⟩;cases ee:e ρ with
      |ok t=>
       rw[ee]at w;intro y H2 Z2 C p2;simp only at w;split at w
       . next hlen=>
         have pl2:=pl.mo p2.same p2.zz;have ea2:=p2.same _ _ ea;have rs2:=rs.same p2.same p2.zz;refine⟨a,ws,y,rfl,rfl,ea2,by rw[Reps.length us rs];exact hlen,?_⟩;have m2:=m1.trans p2.mo;have F2:=(F.mo m2).kills mv;have gD:(jD mv As).getD j []=As.getD j []:=ac5 mv hj As;have pl3:Plug K cn H2 Z2 t0 v0 ((jD mv As).getD j []) p (.lst true us) (.ref a) (a::C0):=by rw[gD];exact pl2
         have ndB:(a::C0).Nodup:=(am2 F.nd j).sublist pl.sub;have c0A:∀x∈C0,x∈As.getD j []:=λx hx=>pl.sub.mem (List.mem_cons_of_mem _ hx);have cOut:∀x∈C,x∉(jD mv As).flatten:=λx hx hA=>by
          rcases p2.bn x hx with z|⟨i,hi,z⟩
          . obtain⟨o,ho,_⟩:=(F.mo m1).sl.dom x (iC hA);rw[ho]at z;cases z
          . exact ak9 F.nd hi z hA
         have c0In:∀x∈C0,x∈(jD mv As).flatten:=λx hx=>bI (i:=j) (by rw[gD];exact c0A x hx);refine dr6 (As:=As) (H:=H) (Z:=Z) (E:=E) F2 (by rw[ag9 mv hj];exact e1) e2 pl3 rfl rfl ea2 (us':=us++[t]) (ws':=ws++[y]) (C:=C0++C) (Reps.append us rs2 (Reps.one p2.rep)) ?_ ?_ ?_ ?_ ?_ w
         . rw[List.nodup_append];exact⟨(List.nodup_cons.mp ndB).2,p2.nd,λx hx y hy e=>by subst e;exact cOut x hy (c0In x hx)⟩
         . intro x hx;rcases List.mem_append.mp hx with hx|hx
           . exact F2.nz x (c0In x hx)
           . exact p2.bz x hx
         . intro x hx hA;rcases List.mem_append.mp hx with hx|hx
           . exact hx
           . exact absurd hA (cOut x hx)
         . exact⟨λb o q _=>m2.same b o q,λb hb=>.inl (iC hb),m2.zz,λb h=>(m2.zn b h).imp_right .inr,λb h=>m2.same.free h⟩
         . intro x hx;rcases List.mem_append.mp hx with hx|hx
           . exact .inl (bI (c0A x hx))
           . rcases p2.bn x hx with z|⟨i,hi,z⟩
             . exact .inr (m1.same.free z)
             . exact .inl (bI z)
       . exact w.elim
      |ex x=>rw[ee]at w;exact WpX.ev w m1.ev
      |no=>rw[ee]at w;exact w
    . exact w.elim
   |ex x=>rw[ed]at w;exact w
   |no=>rw[ed]at w;exact w
def ei5(j:Nat)(mv:List Nat)(e:Fr->Res T)(d:Fr->Res (List Nat))(i:Fr->Res T):Fr->bO:=λρ=>match e ρ with
 |.ok t=>match(kills mv ρ)[j]? with
  |some (some t0)=>match d (kills mv ρ)with
   |.ok p=>match mV p t0 with
    |some (.lst true us)=>match i (kills mv ρ)with
     |.ok (.int n)=>match zX us.length n with
      |some k=>af6 j p (us.set k t) (kills mv ρ)
      |none=>.no
     |.ok _=>.no
     |.ex x=>.ex x
     |.no=>.no
    |_=>.no
   |.ex x=>.ex x
   |.no=>.no
  |_=>.no
 |.ex x=>.ex x
 |.no=>.no
theorem Reps.put(rt:Rep K cn H Z t y C):∀(us:List T){ws:List V}{A:List Addr}{k:Nat},Reps K cn H Z us ws A->k<us.length->∃B1 Bo B2,A=B1++Bo++B2/\Reps K cn H Z (us.set k t) (ws.set k y) (B1++C++B2)
 |[],_,_,_,_,e=>by simp at e
 |u::us,ws,A,0,r,e=>by simp only[Reps]at r;obtain⟨v,r',P,Q',rfl,rfl,h1,h2⟩:=r;refine⟨[],P,Q',by simp,?_⟩;simp only[List.set_cons_zero,Reps];exact⟨y,r',C,Q',rfl,by simp,rt,h2⟩
 |u::us,ws,A,k+1,r,e=>by simp only[Reps]at r;obtain⟨v,r',P,Q',rfl,rfl,h1,h2⟩:=r;obtain⟨X1,X2,X3,rfl,hr⟩:=Reps.put rt us (k:=k) h2 (by simpa using e);refine⟨P++X1,X2,X3,by simp,?_⟩;simp only[List.set_cons_succ,Reps];exact⟨v,r'.set k y,P,X1++C++X3,rfl,by simp,h1,hr⟩
def bN:bO->Res T
 |.nx _=>.ok .non
 |.rt t=>.ok t
 |.ex x=>.ex x
 |_=>.no
def cO(n:Nat)(ts:List T):Fr:=ts.map some++List.replicate (n-ts.length) none
theorem ah9:∀(m:Nat),Slots K cn H Z (List.replicate m none) (List.replicate m none) (List.replicate m [])
 |0=>⟨rfl,rfl⟩
 |m+1=>⟨none,List.replicate m none,[],List.replicate m [],rfl,rfl,rfl,ah9 m⟩
theorem ai1:∀(ts:List T){vs:List V},Reps K cn H Z ts vs []->Slots K cn H Z (ts.map some++List.replicate m none) (vs.map some++List.replicate m none) (List.replicate (ts.length+m) [])
 |[],vs,h=>by simp only[Reps]at h;obtain⟨rfl,_⟩:=h;simpa using ah9 m
 |t::ts,vs,h=>by
  simp only[Reps]at h;obtain⟨v,r,B,C,rfl,e,h1,h2⟩:=h;have eb:B=[]/\C=[]:=by simpa using e.symm
  obtain⟨rfl,rfl⟩:=eb;have:=ai1 (m:=m) ts h2;refine⟨some v,_,[],List.replicate (ts.length+m) [],rfl,?_,⟨v,rfl,h1⟩,this⟩;rw[List.length_cons,show ts.length+1+m=(ts.length+m)+1 by omega];rfl
theorem nE:∀m:Nat,(List.replicate m ([]:List Addr)).flatten=[]
 |0=>rfl
 |m+1=>by rw[List.replicate_succ,List.flatten_cons,nE m];rfl
theorem bf3{CX:uQ}{Y:Value->Around->List Env->Shared->Hp->XK->Cx}{P:Program}{w:World}{mg:Str->Option Value}{base:Heap}{qual:Str}{st:Stmt}{f:Addr}{fd:FuncData}{N ps:List Str}{k:Nat}{d:Fr->bO}(ok:∀sp:Sp,(∀vs H Q E,sp vs H Q E->vs.length=ps.length)->(∀(cdv:Value)(A:Around)(outer:List Env)(s:Shared)(H:Hp)(vs:List V)(Q:VK)(E:XK),Room k (A.deeper (envOfC qual (aL st) s.heap.objs.size f cdv))->sp vs H Q E->
 ∃t,PSs (Y cdv A outer s H E) (cK st) t/\t {nx:=λ_ H'=>Q .non H',rt:=Q} (iG N vs) H)->FnOk P w K mg base CX (k+1) f fd ps sp)
 (hbody:∀(cdv:Value)(A:Around)(outer:List Env)(s:Shared)(H:Hp)(E:XK),Room k (A.deeper (envOfC qual (aL st) s.heap.objs.size f cdv))->
  ∃t,PSs (Y cdv A outer s H E) (cK st) t/\RS [] K cn E t d){n:Nat}{G:List T->Res T}(hn:ps.length=n)(hG:∀ts,G ts=bN (d (cO N.length ts))):FnOk P w K mg base CX (k+1) f fd ps (cG K cn n G):=by
 have eG:G=λts=>bN (d (cO N.length ts)):=funext hG;subst hn eG;refine ok _ (λvs H Q E h=>h.1) λcdv A outer s H vs Q E hr h=>?_;obtain⟨hl,ts,Z,zi,r,w⟩:=h;obtain⟨t,hp,ht⟩:=hbody cdv A outer s H E hr;refine⟨t,hp,?_⟩;have lt:=Reps.length ts r;have sl:Slots K cn H Z (cO N.length ts) (L2.iG N vs) (List.replicate (ts.length+(N.length-ts.length)) []):=by unfold cO L2.iG;rw[lt];exact ai1 ts r
 have F0:Frm [] K cn H Z (cO N.length ts) (L2.iG N vs) (List.replicate (ts.length+(N.length-ts.length)) []):=⟨sl,by rw[nE];exact List.nodup_nil,by rw[nE];exact cL,zi,cL⟩;refine ht _ H Z _ _ F0 _ ?_;have bn:∀{B:List Addr}{H':Hp}{Z':Addr->Prop},Ev (List.replicate (ts.length+(N.length-ts.length)) []) H Z [B] H' Z'->∀b∈B,H b=none:=λ{B H' Z'} e b hb=>by
  rcases e.own b (by simpa using hb)with q|q
  . rw[nE]at q;cases q
  . exact q
 have sm:∀{As':List (List Addr)}{H':Hp}{Z':Addr->Prop},Ev (List.replicate (ts.length+(N.length-ts.length)) []) H Z As' H' Z'->Same H H'/\∀a,Z' a->Z a\/H a=none:=λ{As' H' Z'} e=>⟨λb o q=>e.keep b o q (by rw[nE];exact(λz=>nomatch z)),λa z=>by
  rcases e.zn a z with q|q|q
  . exact .inl q
  . rw[nE]at q;cases q
  . exact .inr q⟩
 cases ed:d (cO N.length ts)with
 |nx ρ=>simp only[ed,bN]at w;intro σ' As' H' Z' F' ev;exact w .non H' Z' [] ⟨(sm ev).1,ev.zz,(sm ev).2,F'.zi,by simp[Rep],List.nodup_nil,cL,cL⟩
 |rt t=>simp only[ed,bN]at w;intro v H' Z' B p;exact w v H' Z' B ⟨(sm p.ev).1,p.ev.zz,(sm p.ev).2,p.zi,p.rep,p.nd,p.bz,λb hb=>.inl (bn p.ev b hb)⟩
 |ex x=>simp only[ed,bN]at w;exact WpX.ev w ⟨λ_ _ q _=>q,λa ha=>(by rw[nE]at ha;exact nomatch ha),λ_ h=>h,λ_ h=>.inl h,λ_ h=>h⟩
 |bk ρ=>simp only[ed,bN]at w;exact w.elim
 |rm ρ t=>simp only[ed,bN]at w;exact w.elim
 |ct ρ=>simp only[ed,bN]at w;exact w.elim
 |no=>simp only[ed,bN]at w;exact w.elim
theorem ad8{P:Program}{w:World}{mg:Str->Option Value}{base:Heap}{x qual:Str}{st:Stmt}{f:Addr}{fd:FuncData}{N ps:List Str}{k:Nat}{d:Fr->bO}(F:Fun K x qual st f fd)(S:aW N ps (aL st))
 (hbody:∀(cdv:Value)(A:Around)(outer:List Env)(s:Shared)(H:Hp)(E:XK),Room k (A.deeper (envOfC qual (aL st) s.heap.objs.size f cdv))->
  ∃t,PSs (lH lN P w K mg base N qual (aL st) f cdv A outer s H E).nox (cK st) t/\RS [] K cn E t d){n:Nat}{G:List T->Res T}(hn:ps.length=n)(hG:∀ts,G ts=bN (d (cO N.length ts))):FnOk P w K mg base lN (k+1) f fd ps (cG K cn n G):=bf3 (λsp len hb=>F.ok S len hb) hbody hn hG
theorem cu6{P:Program}{w:World}{mg:Str->Option Value}{base:Heap}{x qual:Str}{st:Stmt}{f:Addr}{fd:FuncData}{N ps:List Str}{k:Nat}{d:Fr->bO}(F:Fun K x qual st f fd)(S:aW N ps (aL st))
 (hbody:∀(cdv:Value)(A:Around)(outer:List Env)(s:Shared)(H:Hp)(E:XK),Room k (A.deeper (envOfC qual (aL st) s.heap.objs.size f cdv))->
  ∃t,PSs (lH (zV P w) P w K mg base N qual (aL st) f cdv A outer s H E) (cK st) t/\RS [] K cn E t d){n:Nat}{G:List T->Res T}(hn:ps.length=n)(hG:∀ts,G ts=bN (d (cO N.length ts))):FnOk P w K mg base (zV P w) (k+1) f fd ps (cG K cn n G):=bf3 (λsp len hb=>F.okX S len hb) hbody hn hG
theorem cE{P:Program}{w:World}{mg:Str->Option Value}{base:Heap}{x:Str}{st:Stmt}{N ps:List Str}{k:Nat}{d:Fr->bO}(F:fM K mg x st)(S:aW N ps (aL st))
 (hb:∀(kV doc pm:Value)(an:Option Addr)(cdv ct:Value)(us:List Value),us.length=ps.length->bindArgs (PySem.W.fnOf x x (gP st) (cK st) (aL st) .none kV doc pm an cdv ct) ⟨us,[]⟩=pure (ps.zip us))
 (hbody:∀(f:Addr)(cdv:Value)(A:Around)(outer:List Env)(s:Shared)(H:Hp)(E:XK),Room k (A.deeper (envOfC x (aL st) s.heap.objs.size f cdv))->
  ∃t,PSs (lH lN P w K mg base N x (aL st) f cdv A outer s H E).nox (cK st) t/\RS [] K cn E t d){n:Nat}{G:List T->Res T}(hn:ps.length=n)(hG:∀ts,G ts=bN (d (cO N.length ts))):gT P w K mg base (k+1) x ps (cG K cn n G):=by
 obtain⟨f,fd,F,hm⟩:=F.ex;exact⟨f,fd,ad8 F S (λcdv A outer s H E hr=>hbody f cdv A outer s H E hr) hn hG,hm,F.kp,F.binds hb⟩
theorem law_fn(F:FnOk P w K mg base lN k f fd [p] (cG K cn 1 G))
 (h:∀ns:List Int,ns.length<=63->(∀n∈ns,Builtin.Int.intBits n<=1048576)->G [.lst false (ns.map .int)]=.ok (.bl true)):FnOk P w K mg base lN k f fd [p] (by1 K):=by
 refine F.imp λvs H Q E q=>?_;obtain⟨a,ns,rfl,hs,h63,hbits,hq⟩:=q;have rints:∀(Z:Addr->Prop)(ns:List Int),Reps K cn H Z (ns.map T.int) (ns.map V.int) []:=by
  intro Z ns;induction ns with
  |nil=>simp[Reps]
  |cons n ns ih=>simp only[List.map_cons,Reps];exact⟨.int n,ns.map V.int,[],[],rfl,rfl,by simp[Rep],ih⟩
 refine⟨rfl,[.lst false (ns.map .int)],λb=>b=a/\H b≠none,λb z=>z.2,Reps.one ?_,?_⟩
 . simp only[Rep];refine⟨a,ns.map V.int,rfl,trivial,?_,rints _ ns⟩;rcases hs with(hs|⟨o,hs⟩)|hs
   . exact .inl ⟨hs,rfl,by rw[hs];exact(λz=>nomatch z)⟩
   . exact .inr (.inl ⟨o,hs⟩)
   . exact .inr (.inr hs)
 . rw[h ns h63 hbits];intro v H' Z' B p;have q:=p.rep;simp only[Rep]at q;rw[q.1];exact hq H'
end
end TL
namespace L2
open PySem PySem.Spec PyProof.Rows
def EqD(K:PySem.W.Frag)(H:Hp):Nat->V->V->Bool->Prop
 |0,x,y,b=>sO x=true/\sO y=true/\b=eqV x y
 |n+1,x,y,b=>(sO x=true/\sO y=true/\b=eqV x y)\/
  (∃p q xs ys,x=.ref p/\y=.ref q/\SqL K H p xs/\SqL K H q ys/\((xs.length≠ys.length/\b=false)\/
   (xs.length=ys.length/\∃es:List Bool,es.length=xs.length/\(∀(j:Nat) x y e,xs[j]?=some x->ys[j]?=some y->es[j]?=some e->EqD K H n x y e)/\b=es.all id)))\/
  (∃p q xs ys,x=.ref p/\y=.ref q/\SqT K H p xs/\SqT K H q ys/\∃es:List Bool,es.length=min xs.length ys.length/\
   (∀(j:Nat) x y e,xs[j]?=some x->ys[j]?=some y->es[j]?=some e->EqD K H n x y e)/\b=(es.all id&&xs.length==ys.length))
theorem bu2:∀{x:V},sO x=true->eqV x x=true
 |.non,_=>rfl
 |.bl b,_=>by simp[eqV]
 |.int i,_=>by simp[eqV]
 |.str s,_=>by simp[eqV]
theorem sE(es:List Bool):((List.range es.length).all λj=>es.getD j true)=es.all id:=by
 induction es with
 |nil=>rfl
 |cons b es ih=>show(List.range (es.length+1)).all _=_;rw[List.range_succ_eq_map,List.all_cons,List.all_map];show(b&&_)=(b&&es.all id);rw[<-ih];rfl
section
variable {X : Cx} {pins : List (Addr × Obj)} {σ : St} {H : Hp} {s : Shared}
theorem EqD.self(I:Inv X pins σ H s):∀(n:Nat)(x:V)(b:Bool),EqD X.K H n x x b->b=true
 |0,x,b,h=>by obtain⟨h1,_,rfl⟩:=h;exact bu2 h1
 |n+1,x,b,h=>by
  rcases h with⟨h1,_,rfl⟩|⟨p,q,xs,ys,e1,e2,s1,s2,h⟩|⟨p,q,xs,ys,e1,e2,s1,s2,es,hl,he,rfl⟩
  . exact bu2 h1
  . rw[e1]at e2;cases e2;have:=I.list_inj s1 s2;subst this;rcases h with⟨h,_⟩|⟨_,es,hl,he,rfl⟩
    . exact absurd rfl h
    . rw[List.all_eq_true];intro e hm;obtain⟨j,hj,rfl⟩:=List.getElem_of_mem hm;exact EqD.self I n xs[j] es[j] (he j xs[j] xs[j] es[j] (List.getElem?_eq_getElem (by omega)) (List.getElem?_eq_getElem (by omega)) (List.getElem?_eq_getElem hj))
  . rw[e1]at e2;cases e2;have:=I.tuple_inj s1 s2;subst this;rw[beq_self_eq_true,Bool.and_true,List.all_eq_true];intro e hm;obtain⟨j,hj,rfl⟩:=List.getElem_of_mem hm;have hx:j<xs.length:=by omega
    exact EqD.self I n xs[j] es[j] (he j xs[j] xs[j] es[j] (List.getElem?_eq_getElem hx) (List.getElem?_eq_getElem hx) (List.getElem?_eq_getElem hj))
theorem fR(r:Vals xs us)(h:j<us.length):∃x,xs[j]?=some x/\RelV x us[j]:=by have l:=r.length;have e1:xs[j]?=some xs[j]:=List.getElem?_eq_getElem (by omega);obtain⟨u,hu,ru⟩:=r.get e1;rw[List.getElem?_eq_getElem h]at hu;exact⟨xs[j],e1,by rw[Option.some.inj hu];exact ru⟩
theorem mF(I:Inv X pins σ H s):∀(n:Nat){A:Around}{x y:V}{u v:Value}{b:Bool},A.units+n<cLine->RelV x u->RelV y v->EqD X.K H n x y b->SeqAt.EqAt A s u v b
 |0,A,x,y,u,v,b,hu,rx,ry,h=>by obtain⟨h1,h2,rfl⟩:=h;exact cx3 rx ry h1 h2
 |n+1,A,x,y,u,v,b,hu,rx,ry,h=>by
  have h0:=h;rcases h with⟨h1,h2,rfl⟩|⟨p,q,xs,ys,rfl,rfl,s1,s2,h⟩|⟨p,q,xs,ys,rfl,rfl,s1,s2,es,hl,he,rfl⟩
  . exact cx3 rx ry h1 h2
  . cases rx;cases ry;by_cases hpq:p=q
    . subst hpq;rw[EqD.self I (n+1) _ b h0];exact SeqAt.EqAt.same _
    . obtain⟨its,r1,p1,_⟩:=I.list s1;obtain⟨jts,r2,p2,_⟩:=I.list s2;have l1:=r1.length;have l2:=r2.length;refine SeqAt.EqAt.of_refs hpq ?_;rcases h with⟨hne,rfl⟩|⟨heq,es,hl,he,rfl⟩
      . exact SeqAt.RcAt.lists_lengths p1.isList p2.isList (by simp only[List.size_toArray,bne_iff_ne,ne_eq];omega) (by omega)
      . have:=SeqAt.RcAt.lists (A:=A) (s:=s) (e:=λj=>es.getD j true) p1.isList p2.isList (by simp only[List.size_toArray];omega) (by omega) (λj h1 h2=>by
         simp only[List.size_toArray]at h1 h2;simp only[List.getElem_toArray];obtain⟨x,ex,rx⟩:=fR r1 h1;obtain⟨y,ey,ry⟩:=fR r2 h2;have hj:j<es.length:=by omega
         have eg:es.getD j true=es[j]:=by rw[List.getD_eq_getElem?_getD,List.getElem?_eq_getElem hj];rfl
         rw[eg];exact mF I n (by show A.units+1+n<cLine;omega) rx ry (he j x y es[j] ex ey (List.getElem?_eq_getElem hj)))
        rw[List.size_toArray,show its.length=es.length by omega,sE]at this;exact this
  . cases rx;cases ry;by_cases hpq:p=q
    . subst hpq;rw[EqD.self I (n+1) _ _ h0];exact SeqAt.EqAt.same _
    . obtain⟨its,r1,p1,_⟩:=I.tuple s1;obtain⟨jts,r2,p2,_⟩:=I.tuple s2;have l1:=r1.length;have l2:=r2.length;refine SeqAt.EqAt.of_refs hpq ?_;have:=SeqAt.RcAt.tuples (A:=A) (s:=s) (e:=λj=>es.getD j true) (show s.heap.IsTuple p its.toArray from p1) (show s.heap.IsTuple q jts.toArray from p2) (by omega) (λj h1 h2=>by
       simp only[List.size_toArray]at h1 h2;simp only[List.getElem_toArray];obtain⟨x,ex,rx⟩:=fR r1 h1;obtain⟨y,ey,ry⟩:=fR r2 h2;have hj:j<es.length:=by omega
       have eg:es.getD j true=es[j]:=by rw[List.getD_eq_getElem?_getD,List.getElem?_eq_getElem hj];rfl
       rw[eg];exact mF I n (by show A.units+1+n<cLine;omega) rx ry (he j x y es[j] ex ey (List.getElem?_eq_getElem hj)))
      simp only[List.size_toArray]at this;rw[show min its.length jts.length=es.length by omega,sE,<-l1,<-l2]at this;exact this
def bx9(K:PySem.W.Frag)(n:Nat):R2:=λx y H Q=>rEq x y H Q\/(∃p q b,x=.ref p/\y=.ref q/\EqD K H n x y b/\Q (.bl b) H)
theorem ds8(hu:X.A.units+n<cLine):OpR X (compareOp .Eq) (bx9 X.K n):=by
 intro pins s σ H x y v u Q I rx ry h;rcases h with h|⟨p,q,b,rfl,rfl,h,hq⟩
 . exact ed2 s σ H x y v u Q I rx ry h
 . cases rx;cases ry;have bN:EP X pins σ Q (.bool b) s:=⟨.bl b,H,I,rfl,hq⟩;cases n with
   |zero=>exact absurd h.1 (λz=>by cases z)
   |succ n=>
    rcases h with⟨h1,_,_⟩|⟨p,q,xs,ys,e1,e2,s1,s2,h⟩|⟨p,q,xs,ys,e1,e2,s1,s2,es,hl,he,rfl⟩
    . exact absurd h1 (λz=>by cases z)
    . cases e1;cases e2;obtain⟨its,r1,p1,_⟩:=I.list s1;obtain⟨jts,r2,p2,_⟩:=I.list s2;have l1:=r1.length;have l2:=r2.length;rcases h with⟨hne,rfl⟩|⟨heq,es,hl,he,rfl⟩
      . exact SeqAt.eq_list_lengthsAt p1.isList p2.isList (by simp only[List.size_toArray,bne_iff_ne,ne_eq];omega) (by omega) bN
      . refine SeqAt.eq_listAt (e:=λj=>es.getD j true) p1.isList p2.isList (by simp only[List.size_toArray];omega) (by omega) (λj h1 h2=>?_) ?_
        . simp only[List.size_toArray]at h1 h2;simp only[List.getElem_toArray];obtain⟨x,ex,rx⟩:=fR r1 h1;obtain⟨y,ey,ry⟩:=fR r2 h2;have hj:j<es.length:=by omega
          have eg:es.getD j true=es[j]:=by rw[List.getD_eq_getElem?_getD,List.getElem?_eq_getElem hj];rfl
          rw[eg];exact mF I n (by show X.A.units+1+n<cLine;omega) rx ry (he j x y es[j] ex ey (List.getElem?_eq_getElem hj))
        . rw[List.size_toArray,show its.length=es.length by omega,sE];exact bN
    . cases e1;cases e2;obtain⟨its,r1,p1,_⟩:=I.tuple s1;obtain⟨jts,r2,p2,_⟩:=I.tuple s2;have l1:=r1.length;have l2:=r2.length;refine SeqAt.eq_tupleAt (e:=λj=>es.getD j true) (show s.heap.IsTuple p its.toArray from p1) (show s.heap.IsTuple q jts.toArray from p2) (by omega) (λj h1 h2=>?_) ?_
      . simp only[List.size_toArray]at h1 h2;simp only[List.getElem_toArray];obtain⟨x,ex,rx⟩:=fR r1 h1;obtain⟨y,ey,ry⟩:=fR r2 h2;have hj:j<es.length:=by omega
        have eg:es.getD j true=es[j]:=by rw[List.getD_eq_getElem?_getD,List.getElem?_eq_getElem hj];rfl
        rw[eg];exact mF I n (by show X.A.units+1+n<cLine;omega) rx ry (he j x y es[j] ex ey (List.getElem?_eq_getElem hj))
      . simp only[List.size_toArray];rw[show min its.length jts.length=es.length by omega,sE,<-l1,<-l2];exact bN
def bs4(K:PySem.W.Frag)(n:Nat)(neg:Bool):R2:=λx y H Q=>(∃p ys,y=.ref p/\(SqL K H p ys\/SqT K H p ys)/\∃es:List Bool,es.length=ys.length/\(∀(j:Nat) y e,ys[j]?=some y->es[j]?=some e->EqD K H n y x e)/\Q (.bl (if neg then !es.any id else es.any id)) H)\/
 (∃i j,x=.str i/\y=.str j/\Q (.bl (if neg then !(!(Builtin.Str.occurrences j i 0 j.length 1).isEmpty)else(!(Builtin.Str.occurrences j i 0 j.length 1).isEmpty))) H)
theorem EqD.det(I:Inv X pins σ H s):∀(n:Nat)(x y:V)(b c:Bool),EqD X.K H n x y b->EqD X.K H n x y c->b=c:=by
 intro n;induction n with
 |zero=>intro x y b c h1 h2;rw[h1.2.2,h2.2.2]
 |succ n ih=>
  intro x y b c h1 h2;have flat_ref:∀{p:Addr},sO (.ref p)=true->False:=λh=>by cases h
  rcases h1 with⟨a1,a2,rfl⟩|⟨p,q,xs,ys,rfl,rfl,s1,s2,h1⟩|⟨p,q,xs,ys,rfl,rfl,s1,s2,es,hl,he,rfl⟩
  . rcases h2 with⟨b1,b2,rfl⟩|⟨p,q,xs,ys,rfl,rfl,_⟩|⟨p,q,xs,ys,rfl,rfl,_⟩
    . rfl
    . exact(flat_ref a1).elim
    . exact(flat_ref a1).elim
  . rcases h2 with⟨b1,b2,rfl⟩|⟨p',q',xs',ys',e1,e2,t1,t2,h2⟩|⟨p',q',xs',ys',e1,e2,t1,t2,_⟩
    . exact(flat_ref b1).elim
    . cases e1;cases e2;have z1:=I.list_inj s1 t1;have z2:=I.list_inj s2 t2;subst z1 z2;rcases h1 with⟨n1,rfl⟩|⟨n1,es,hl,he,rfl⟩
      . rcases h2 with⟨n2,rfl⟩|⟨n2,_⟩
        . rfl
        . exact absurd n2 n1
      . rcases h2 with⟨n2,rfl⟩|⟨n2,es',hl',he',rfl⟩
        . exact absurd n1 n2
        . have:es=es':=by apply List.ext_getElem (by omega);intro j h1 h2;exact ih xs[j] ys[j] es[j] es'[j] (he j _ _ _ (List.getElem?_eq_getElem (by omega)) (List.getElem?_eq_getElem (by omega)) (List.getElem?_eq_getElem h1)) (he' j _ _ _ (List.getElem?_eq_getElem (by omega)) (List.getElem?_eq_getElem (by omega)) (List.getElem?_eq_getElem h2))
          rw[this]
    . cases e1;obtain⟨_,_,⟨o,n',eo,c1,_⟩,_⟩:=I.list s1;obtain⟨_,_,⟨o',eo',c2,_⟩,_⟩:=I.tuple t1;rw[eo]at eo';cases eo';rw[c1]at c2;exact absurd c2 (by decide)
  . rcases h2 with⟨b1,b2,rfl⟩|⟨p',q',xs',ys',e1,e2,t1,t2,h2⟩|⟨p',q',xs',ys',e1,e2,t1,t2,es',hl',he',rfl⟩
    . exact(flat_ref b1).elim
    . cases e1;obtain⟨_,_,⟨o,n',eo,c1,_⟩,_⟩:=I.list t1;obtain⟨_,_,⟨o',eo',c2,_⟩,_⟩:=I.tuple s1;rw[eo]at eo';cases eo';rw[c1]at c2;exact absurd c2 (by decide)
    . cases e1;cases e2;have z1:=I.tuple_inj s1 t1;have z2:=I.tuple_inj s2 t2;subst z1 z2;have:es=es':=by
       apply List.ext_getElem (by omega);intro j h1 h2;have hx:j<xs.length:=by omega
       have hy:j<ys.length:=by omega
       exact ih xs[j] ys[j] es[j] es'[j] (he j _ _ _ (List.getElem?_eq_getElem hx) (List.getElem?_eq_getElem hy) (List.getElem?_eq_getElem h1)) (he' j _ _ _ (List.getElem?_eq_getElem hx) (List.getElem?_eq_getElem hy) (List.getElem?_eq_getElem h2))
      rw[this]
theorem ar2(I:Inv X pins σ H s){n:Nat}{x:V}{ys:List V}{us:List Value}{es:List Bool}(r:Vals ys us)(hl:es.length=ys.length)(he:∀(j:Nat) y e,ys[j]?=some y->es[j]?=some e->EqD X.K H n y x e):
 ∃e:Value->Bool,(∀u∈us,∃y,RelV y u/\EqD X.K H n y x (e u))/\us.any e=es.any id:=by
 refine⟨λu=>@decide (∃y,RelV y u/\EqD X.K H n y x true) (Classical.propDecidable _),?_,?_⟩
 . intro u hu;obtain⟨j,hj,rfl⟩:=List.getElem_of_mem hu;obtain⟨y,ey,ry⟩:=fR r hj;have lj:j<es.length:=by rw[hl,r.length];exact hj
   have q:=he j y es[j] ey (List.getElem?_eq_getElem lj);refine⟨y,ry,?_⟩;by_cases c:∃y,RelV y us[j]/\EqD X.K H n y x true
   . obtain⟨y',ry',q'⟩:=c;have:=ry.inj ry';subst this;simp only[show(∃y,RelV y us[j]/\EqD X.K H n y x true) from⟨y,ry,q'⟩,decide_true];exact q'
   . simp only[c,decide_false];cases eb:es[j]with
     |false=>rw[eb]at q;exact q
     |true=>rw[eb]at q;exact absurd ⟨y,ry,q⟩ c
 . rw[Bool.eq_iff_iff,List.any_eq_true,List.any_eq_true];constructor
   . rintro⟨u,hu,c⟩;obtain⟨j,hj,rfl⟩:=List.getElem_of_mem hu;obtain⟨y,ey,ry⟩:=fR r hj;have lj:j<es.length:=by rw[hl,r.length];exact hj
     obtain⟨y',ry',q'⟩:=@of_decide_eq_true _ (Classical.propDecidable _) c;have:=ry.inj ry';subst this;have q:=he j y es[j] ey (List.getElem?_eq_getElem lj);exact⟨es[j],List.getElem_mem lj,EqD.det I n y x es[j] true q q'⟩
   . rintro⟨e,hm,c⟩;obtain⟨j,hj,rfl⟩:=List.getElem_of_mem hm;have c':es[j]=true:=c;have lj:j<us.length:=by rw[<-r.length,<-hl];exact hj
     obtain⟨y,ey,ry⟩:=fR r lj;have q:=he j y es[j] ey (List.getElem?_eq_getElem hj);rw[c']at q;exact⟨us[j],List.getElem_mem lj,@decide_eq_true _ (Classical.propDecidable _) ⟨y,ry,q⟩⟩
theorem dp9{n:Nat}(hu:X.A.units+n+1<cLine):OpR X (compareOp .In) (bs4 X.K n false):=by
 intro pins s σ H x y v u Q I rx ry h;rcases h with⟨p,ys,rfl,hs,es,hl,he,q⟩|⟨i,j,rfl,rfl,q⟩
 . cases ry;rcases hs with hs|hs
   . obtain⟨its,r,pl,_⟩:=I.list hs;obtain⟨e,h1,h2⟩:=ar2 I r hl he;refine SeqAt.in_listAt e pl.isList (λy hy=>?_) ?_
     . obtain⟨y',ry',q'⟩:=h1 y (by simpa using hy);exact mF I n (by show X.A.units+1+n<cLine;omega) ry' rx q'
     . exact⟨.bl _,H,I,by rw[List.any_toArray,h2];rfl,q⟩
   . obtain⟨its,r,pl,_⟩:=I.tuple hs;obtain⟨e,h1,h2⟩:=ar2 I r hl he;refine SeqAt.in_tupleAt e (show s.heap.IsTuple p its.toArray from pl) (λy hy=>?_) ?_
     . obtain⟨y',ry',q'⟩:=h1 y (by simpa using hy);exact mF I n (by show X.A.units+1+n<cLine;omega) ry' rx q'
     . exact⟨.bl _,H,I,by rw[List.any_toArray,h2];rfl,q⟩
 . exact cg4 s σ H _ _ v u Q I rx ry ⟨i,j,rfl,rfl,q⟩
theorem co2{n:Nat}(hu:X.A.units+n+1<cLine):OpR X (compareOp .NotIn) (bs4 X.K n true):=by
 intro pins s σ H x y v u Q I rx ry h;rcases h with⟨p,ys,rfl,hs,es,hl,he,q⟩|⟨i,j,rfl,rfl,q⟩
 . cases ry;rcases hs with hs|hs
   . obtain⟨its,r,pl,_⟩:=I.list hs;obtain⟨e,h1,h2⟩:=ar2 I r hl he;refine SeqAt.notIn_listAt e pl.isList (λy hy=>?_) ?_
     . obtain⟨y',ry',q'⟩:=h1 y (by simpa using hy);exact mF I n (by show X.A.units+1+n<cLine;omega) ry' rx q'
     . exact⟨.bl _,H,I,by rw[List.any_toArray,h2];rfl,q⟩
   . obtain⟨its,r,pl,_⟩:=I.tuple hs;obtain⟨e,h1,h2⟩:=ar2 I r hl he;refine SeqAt.notIn_tupleAt e (show s.heap.IsTuple p its.toArray from pl) (λy hy=>?_) ?_
     . obtain⟨y',ry',q'⟩:=h1 y (by simpa using hy);exact mF I n (by show X.A.units+1+n<cLine;omega) ry' rx q'
     . exact⟨.bl _,H,I,by rw[List.any_toArray,h2];rfl,q⟩
 . exact bo2 s σ H _ _ v u Q I rx ry ⟨i,j,rfl,rfl,q⟩
def dc7:R2:=λx y H Q=>(y=.non/\Q (.bl (decide (x=.non))) H)\/(∃a b,x=.bl a/\y=.bl b/\Q (.bl (a==b)) H)
theorem ah6:OpR X (compareOp .Is) dc7:=by
 intro pins s σ H x y v u Q I rx ry h;rcases h with h|⟨a,b,rfl,rfl,q⟩
 . exact dd8 s σ H x y v u Q I rx ry h
 . cases rx;cases ry;exact is_bool ⟨.bl _,H,I,rfl,q⟩
end
end L2
namespace L2
open PySem PySem.Spec PyProof.Rows
def iN(z:Str)(k:Nat):Str:=⟨((List.replicate k z.cps.toList).flatten).toArray⟩
theorem af5(z:Str):∀(k:Nat)(acc:List Nat),List.foldl (λx1 x2=>x1++x2) acc.toArray (List.replicate k z.cps)=(acc++(List.replicate k z.cps.toList).flatten).toArray
 |0,acc=>by simp
 |k+1,acc=>by
  rw[List.replicate_succ,List.foldl_cons,List.replicate_succ,List.flatten_cons];have e:acc.toArray++z.cps=(acc++z.cps.toList).toArray:=by simp
  rw[e,af5 z k,List.append_assoc]
section
variable {X : Cx}
def df0(K:PySem.W.Frag):R2:=λx y H Q=>∃l b xs zs,x=.ref l/\y=.ref b/\SqS K H l xs/\SqS K H b zs/\xs.length+zs.length<=sizeLine/\∀p,H p=none->Q (.ref p) (upd H p (.lst (xs++zs)))
theorem op_catS:OpR X (binaryOp .Add) (df0 X.K):=by
 intro pins s σ H x y v u Q I rx ry h;obtain⟨l,b,xs,zs,rfl,rfl,hH,hB,hz,q⟩:=h;cases rx;cases ry;obtain⟨its,n,r,e,_⟩:=I.listS hH;obtain⟨its2,n2,r2,e2,_⟩:=I.listS hB;have hl:=r.length;have hl2:=r2.length;refine PySem.P.add_list e e2 ?_ (by rw[List.size_toArray,List.size_toArray];omega);have ea:its.toArray++its2.toArray=(its++its2).toArray:=by simp
 rw[ea];exact⟨.ref _,_,I.lnew (t':=s.toks) (r.append r2) (by rw[List.length_append];omega),rfl,q _ I.fresh⟩
def dv0(K:PySem.W.Frag):R2:=λx y H Q=>yA (λi j=>.int (i+j)) x y H Q\/et1 x y H Q\/df0 K x y H Q\/dh0 K x y H Q
theorem aT(K:PySem.W.Frag)(hK:X.K=K:=by rfl):OpR X (binaryOp .Add) (dv0 K):=by subst hK;exact op_add.or (op_add_str.or (op_catS.or dw2))
def dn0:R2:=λx y H Q=>∃z k,x=.str z/\y=.int k/\-(2^63)<=k/\k<2^62/\z.length*k.toNat<=sizeLine/\Q (.str (iN z k.toNat)) H
theorem dg4:OpR X (binaryOp .Mult) dn0:=by
 intro pins s σ H x y v u Q I rx ry h;obtain⟨z,k,rfl,rfl,h1,h2,hz,q⟩:=h;obtain⟨t,rfl⟩:=rx;obtain⟨t',rfl⟩:=ry;have hn:=sizeLine_eq;refine PySem.P.mul_str ?_ ?_ ?_ ?_
 . rw[decide_eq_false (by omega),decide_eq_false (by omega)];rfl
 . intro hk _;have hk1:1<=k:=by omega
   have:((z.length:Int))<=16777216:=by have:z.length*1<=z.length*k.toNat:=Nat.mul_le_mul_left _ (by omega);omega
   have hq:(2^63-1:Int)/k>=(z.length:Int):=by
    refine(Int.le_ediv_iff_mul_le (by omega)).mpr ?_;have e:(z.length:Int)*k=((z.length*k.toNat:Nat):Int):=by rw[Int.natCast_mul,Int.toNat_of_nonneg (by omega)]
    rw[e];omega
   omega
 . intro _ _;unfold Builtin.Str.tooLong;exact decide_eq_false (by omega)
 . split
   . next hk=>
     have e:iN z k.toNat=Str.empty:=by
      have:k.toNat=0:=by omega
      rw[this];rfl
     rw[e]at q;exact⟨by decide,.str _,H,I.tok _,⟨_,rfl⟩,q⟩
   . next hk=>
     split
     . next hc=>
       have e:iN z k.toNat=z:=by
        rw[Bool.or_eq_true,beq_iff_eq,beq_iff_eq]at hc;rcases hc with hc|hc
        . subst hc;simp[iN]
        . have hz0:z.cps.toList=[]:=by
           have:z.cps.toList.length=0:=by rw[Array.length_toList];exact hc
           exact List.eq_nil_of_length_eq_zero this
          have:(List.replicate k.toNat z.cps.toList).flatten=[]:=by rw[hz0];simp
          unfold iN;rw[this];obtain⟨⟨l⟩⟩:=z;simp at hz0;rw[hz0]
       rw[e]at q;exact⟨.str _,H,I,⟨_,rfl⟩,q⟩
     . have e:(⟨(List.replicate k.toNat z.cps).foldl (· ++ ·) #[]⟩:Str)=iN z k.toNat:=by have:=af5 z k.toNat [];rw[List.nil_append]at this;unfold iN;rw[<-this]
       rw[e];refine⟨?_,.str _,H,I.tok _,⟨_,rfl⟩,q⟩;show((List.replicate k.toNat z.cps.toList).flatten.toArray).size<=sizeLine;rw[List.size_toArray,bf8,Array.length_toList,Nat.mul_comm];exact hz
def de0:R2:=λx y H Q=>db9 x y H Q\/dn0 x y H Q
theorem eM:OpR X (binaryOp .Mult) de0:=op_mulB.or dg4
end
end L2
namespace TL
open PySem PySem.Spec PyProof.Rows L2
section
variable {Jn : gC} {K : PySem.W.Frag} {cn : Str → Option Addr} {E : XK} {As : List (List Addr)} {H : Hp} {Z : Addr → Prop} {Q : VK}
theorem WpE.val(w:WpE K cn E As H Z [] Q (.ok t))(zi:∀a,Z a->H a≠none)(r:Rep K cn H Z t v []):Q v H:=
 w v H Z [] ⟨Same.refl _,λ_ h=>h,λ_ h=>.inl h,zi,r,List.nodup_nil,cL,cL⟩
theorem WpE.newL(w:WpE K cn E As H Z [] Q (.ok (.lst true ts)))(zi:∀a,Z a->H a≠none)(r:Reps K cn H Z ts vs [])(p:Addr)(hp:H p=none):Q (.ref p) (L2.upd H p (.lst vs)):=by
 have m:=Mo.new (.lst vs) hp zi;refine w (.ref p) _ Z [p] ⟨m.same,m.zz,m.zn,m.zi,?_,by simp,λb hb=>?_,λb hb=>?_⟩
 . simp only[Rep];exact⟨p,vs,[],rfl,rfl,cJ,r.same m.same m.zz⟩
 . rw[List.mem_singleton.mp hb];exact λz=>zi p z hp
 . rw[List.mem_singleton.mp hb];exact .inl hp
theorem WpE.newT(w:WpE K cn E As H Z [] Q (.ok (.tup ts)))(zi:∀a,Z a->H a≠none)(r:Reps K cn H Z ts vs [])(p:Addr)(hp:H p=none):Q (.ref p) (L2.upd H p (.tup vs)):=by have m:=Mo.new (.tup vs) hp zi;refine w (.ref p) _ Z [] ⟨m.same,m.zz,m.zn,m.zi,?_,List.nodup_nil,cL,cL⟩;simp only[Rep];exact⟨p,vs,rfl,SqT.of cJ,r.same m.same m.zz⟩
theorem Rep.int{i:Int}{v:V}{A:List Addr}(h:Rep K cn H Z (.int i) v A):v=.int i:=by simp only[Rep]at h;exact h.1
theorem Rep.str{i:Str}{v:V}{A:List Addr}(h:Rep K cn H Z (.str i) v A):v=.str i:=by simp only[Rep]at h;exact h.1
theorem Rep.bl(h:Rep K cn H Z (.bl i) v A):v=.bl i:=by simp only[Rep]at h;exact h.1
theorem Rep.non(h:Rep K cn H Z .non v A):v=.non:=by simp only[Rep]at h;exact h.1
theorem Rep.tupS(h:Rep K cn H Z (.tup ts) v A):∃a vs,v=.ref a/\SqT K H a vs/\Reps K cn H Z ts vs A:=by simp only[Rep]at h;exact h
theorem kI(i:Int):Rep K cn H Z (.int i) (.int i) []:=by simp[Rep]
theorem wA(i:Bool):Rep K cn H Z (.bl i) (.bl i) []:=by simp[Rep]
theorem ag0(i:Str):Rep K cn H Z (.str i) (.str i) []:=by simp[Rep]
noncomputable def bK:T->T->Res T
 |.int i,.int j=>.ok (.int (i+j))
 |.str a,.str b=>gate (a.length+b.length<=sizeLine) (.ok (.str (a++b)))
 |.lst _ xs,.lst _ ys=>gate ((aR xs&&aR ys)=true/\xs.length+ys.length<=sizeLine) (.ok (.lst true (xs++ys)))
 |.tup xs,.tup ys=>gate ((aR xs&&aR ys)=true/\xs.length+ys.length<=sizeLine/\xs.isEmpty=false/\ys.isEmpty=false) (.ok (.tup (xs++ys)))
 |_,_=>.no
theorem ep3:qL K cn (dv0 K) bK:=λE As H Z t u x y A B Q zi rt ru w=>by
 unfold bK at w;split at w
 . next i j=>rw[rt.int,ru.int];exact .inl ⟨i,j,rfl,rfl,w.val zi (kI _)⟩
 . next a b=>
   obtain⟨h,w⟩:=w.gate;rw[rt.str,ru.str];exact .inr (.inl ⟨a,b,rfl,rfl,h,w.val zi (ag0 _)⟩)
 . next o xs o' ys=>
   obtain⟨h,w⟩:=w.gate;rw[Bool.and_eq_true]at h;obtain⟨a,vs,C,rfl,hs,r1,_⟩:=rt.lstSq;obtain⟨b,ws,D,rfl,hs',r2,_⟩:=ru.lstSq;exact .inr (.inr (.inl ⟨a,b,vs,ws,rfl,rfl,hs,hs',by rw[Reps.length xs r1,Reps.length ys r2];exact h.2,λp hp=>w.newL zi (Reps.append xs (r1.bareE h.1.1) (r2.bareE h.1.2)) p hp⟩))
 . next xs ys=>
   obtain⟨h,w⟩:=w.gate;rw[Bool.and_eq_true]at h;obtain⟨a,vs,rfl,hs,r1⟩:=rt.tupS;obtain⟨b,ws,rfl,hs',r2⟩:=ru.tupS;have e1:=r1.isEmpty;have e2:=r2.isEmpty;refine .inr (.inr (.inr ⟨a,b,vs,ws,rfl,rfl,hs,hs',λz=>?_,by rw[Reps.length xs r1,Reps.length ys r2];exact h.2.1,λz=>?_,λ_ p hp=>w.newT zi (Reps.append xs (r1.bareE h.1.1) (r2.bareE h.1.2)) p hp⟩))
   . rw[z,h.2.2.1]at e1;cases e1
   . rw[z,h.2.2.2]at e2;cases e2
 . exact w.elim
def qI(f:Int->Int->Res T):T->T->Res T
 |.int i,.int j=>f i j
 |_,_=>.no
theorem bw9{g:Int->Int->T}{g':Int->Int->V}(hg:∀i j H Z,Rep K cn H Z (g i j) (g' i j) []):qL K cn (yA g') (qI λi j=>.ok (g i j)):=λE As H Z t u x y A B Q zi rt ru w=>by
 unfold qI at w;split at w
 . next i j=>rw[rt.int,ru.int];exact⟨i,j,rfl,rfl,w.val zi (hg i j _ _)⟩
 . exact w.elim
theorem r_i{C:Int->Int->Prop}{g:Int->Int->T}{g':Int->Int->V}(hg:∀i j H Z,Rep K cn H Z (g i j) (g' i j) []):qL K cn (rI C g') (qI λi j=>gate (C i j) (.ok (g i j))):=λE As H Z t u x y A B Q zi rt ru w=>by
 unfold qI at w;split at w
 . next i j=>
   obtain⟨h,w⟩:=WpE.gate w;rw[rt.int,ru.int];exact⟨i,j,rfl,rfl,h,w.val zi (hg i j _ _)⟩
 . exact w.elim
def dF:=qI λi j=>.ok (.int (i-j))
theorem eb1:qL K cn (yA λi j=>.int (i-j)) dF:=bw9 λ_ _ _ _=>kI _
def ltT:=qI λi j=>.ok (.bl (decide (i<j)))
def fW:=qI λi j=>.ok (.bl (decide (i<=j)))
def gtT:=qI λi j=>.ok (.bl (decide (j<i)))
theorem ez4:qL K cn (yA λi j=>.bl (decide (i<j))) ltT:=bw9 λ_ _ _ _=>wA _
theorem eg5:qL K cn (yA λi j=>.bl (decide (i<=j))) fW:=bw9 λ_ _ _ _=>wA _
theorem en4:qL K cn (yA λi j=>.bl (decide (j<i))) gtT:=bw9 λ_ _ _ _=>wA _
noncomputable def gL:=qI λi j=>gate (gQ i j) (.ok (.int (i/j)))
theorem du6:qL K cn (rI gQ λi j=>.int (i/j)) gL:=r_i λ_ _ _ _=>kI _
noncomputable def bQ:=qI λi j=>gate (0<j) (.ok (.int (i%j)))
theorem ei3:qL K cn (rI (λ_ j=>0<j) λi j=>.int (i%j)) bQ:=r_i (C:=λ_ j=>0<j) λ_ _ _ _=>kI _
noncomputable def rY:=qI λi j=>gate (av1 i j) (.ok (.int (i^j.toNat)))
theorem en0:qL K cn (rI av1 λi j=>.int (i^j.toNat)) rY:=r_i λ_ _ _ _=>kI _
def mulOk(i j:Int):Prop:=(-(2^64)<i/\i<2^64)\/(-(2^64)<j/\j<2^64)\/Builtin.Int.intBits i+Builtin.Int.intBits j<=134217728
theorem mulOk.ok(h:mulOk i j):IntMulOk i j:=by
 rcases h with h|h|h
 . exact dj2 h.1 h.2
 . exact dm2 h.1 h.2
 . exact ci0 h
noncomputable def gK:T->T->Res T
 |.int i,.int j=>gate (mulOk i j) (.ok (.int (i*j)))
 |.str z,.int k=>gate (-(2^63)<=k/\k<2^62/\z.length*k.toNat<=sizeLine) (.ok (.str (iN z k.toNat)))
 |_,_=>.no
theorem eb2:qL K cn de0 gK:=λE As H Z t u x y A B Q zi rt ru w=>by
 unfold gK at w;split at w
 . next i j=>
   obtain⟨h,w⟩:=w.gate;rw[rt.int,ru.int];exact .inl ⟨i,j,rfl,rfl,h.ok,w.val zi (kI _)⟩
 . next z k=>
   obtain⟨h,w⟩:=w.gate;rw[rt.str,ru.int];exact .inr ⟨z,k,rfl,rfl,h.1,h.2.1,h.2.2,w.val zi (ag0 _)⟩
 . exact w.elim
def kW:T->Res T
 |.int i=>.ok (.int (-i))
 |_=>.no
theorem ea3:R1R K cn (rU λi=>.int (-i)) kW:=λE As H Z t x A Q zi rt w=>by
 unfold kW at w;split at w
 . next i=>rw[rt.int];exact⟨i,rfl,w.val zi (kI _)⟩
 . exact w.elim
def xZ:T->T->Res T
 |.bl a,.bl b=>.ok (.bl (a==b))
 |.non,.non=>.ok (.bl true)
 |_,.non=>.ok (.bl false)
 |_,_=>.no
theorem Rep.notNon(h:Rep K cn H Z t v A)(n:t≠ .non):v≠ .non:=by
 cases t with
 |non=>exact absurd rfl n
 |bl _=>rw[h.bl];exact λz=>nomatch z
 |int _=>rw[h.int];exact λz=>nomatch z
 |str _=>rw[h.str];exact λz=>nomatch z
 |ty _=>simp only[Rep]at h;rw[h.1];exact λz=>nomatch z
 |err _ _=>simp only[Rep]at h;obtain⟨a,C,dx,rfl,_⟩:=h;exact λz=>nomatch z
 |lst o ts=>obtain⟨a,vs,C,rfl,_⟩:=h.lstSq;exact λz=>nomatch z
 |tup ts=>obtain⟨a,vs,rfl,_⟩:=h.tupS;exact λz=>nomatch z
 |ins o c ns ts=>
  cases o with
  |true=>simp only[Rep]at h;obtain⟨a,C,dx,vs,B,rfl,_⟩:=h;exact λz=>nomatch z
  |false=>simp only[Rep]at h;obtain⟨a,C,dx,vs,rfl,_⟩:=h;exact λz=>nomatch z
theorem er4:qL K cn dc7 xZ:=λE As H Z t u x y A B Q zi rt ru w=>by
 unfold xZ at w;split at w
 . next a b=>rw[rt.bl,ru.bl];exact .inr ⟨a,b,rfl,rfl,w.val zi (wA _)⟩
 . rw[rt.non,ru.non];exact .inl ⟨rfl,w.val zi (wA _)⟩
 . next h1 h2=>rw[ru.non];exact .inl ⟨rfl,by rw[decide_eq_false (rt.notNon (by rintro rfl;exact h2 rfl))];exact w.val zi (wA _)⟩
 . exact w.elim
def dy7:T->T->Res T
 |.non,.non=>.ok (.bl false)
 |_,.non=>.ok (.bl true)
 |_,_=>.no
def nJ:T->T->Option Bool
 |.non,.non=>some true
 |.non,.bl _=>some false
 |.non,.int _=>some false
 |.non,.str _=>some false
 |.bl _,.non=>some false
 |.bl a,.bl b=>some (a==b)
 |.bl a,.int b=>some ((if a then 1 else 0)==b)
 |.bl _,.str _=>some false
 |.int _,.non=>some false
 |.int a,.bl b=>some (a==(if b then 1 else 0))
 |.int a,.int b=>some (a==b)
 |.int _,.str _=>some false
 |.str _,.non=>some false
 |.str _,.bl _=>some false
 |.str _,.int _=>some false
 |.str a,.str b=>some (a==b)
 |_,_=>none
mutual
def vA:Nat->T->T->Option Bool
 |n+1,.lst _ xs,.lst _ ys=>if xs.length=ys.length then(wU n xs ys).map λes=>es.all id else some false
 |n+1,.tup xs,.tup ys=>(wU n xs ys).map λes=>es.all id&&xs.length==ys.length
 |_,t,u=>nJ t u
def wU:Nat->List T->List T->Option (List Bool)
 |n,x::xs,y::ys=>(vA n x y).bind λb=>(wU n xs ys).map λes=>b::es
 |_,_,_=>some []
end
theorem cy4(rt:Rep K cn H Z t x A)(ru:Rep K cn H Z u y B)(h:nJ t u=some b):sO x=true/\sO y=true/\b=eqV x y:=by
 unfold nJ at h;split at h;all_goals first
  |(simp only[Rep]at rt ru;obtain⟨rfl,_⟩:=rt;obtain⟨rfl,_⟩:=ru;cases h;exact⟨rfl,rfl,rfl⟩)
  |cases h
theorem bi2(rt:Rep K cn H Z t x A)(ru:Rep K cn H Z u y B)(h:nJ t u=some b):EqD K H n x y b:=by
 have q:=cy4 rt ru h;cases n with
 |zero=>exact q
 |succ n=>exact .inl q
theorem aw7(ih:∀(t u:T){x y:V}{A B:List Addr}{b:Bool},Rep K cn H Z t x A->Rep K cn H Z u y B->vA n t u=some b->EqD K H n x y b):∀(ts us:List T){vs ws:List V}{A B:List Addr}{es:List Bool},Reps K cn H Z ts vs A->Reps K cn H Z us ws B->wU n ts us=some es->
 es.length=min ts.length us.length/\∀(j:Nat) x y e,vs[j]?=some x->ws[j]?=some y->es[j]?=some e->EqD K H n x y e
 |x::xs,y::ys,vs,ws,A,B,es,r1,r2,h=>by
  simp only[Reps]at r1 r2;obtain⟨v,vs',B1,C1,rfl,rfl,a1,a2⟩:=r1;obtain⟨w,ws',B2,C2,rfl,rfl,b1,b2⟩:=r2;rw[wU,Option.bind_eq_some_iff]at h;obtain⟨b,h1,h⟩:=h;rw[Option.map_eq_some_iff]at h;obtain⟨es',h2,rfl⟩:=h;obtain⟨q1,q2⟩:=aw7 ih xs ys a2 b2 h2;refine⟨by simp only[List.length_cons];omega,λj x' y' e e1 e2 e3=>?_⟩;cases j with
  |zero=>simp at e1 e2 e3;subst e1 e2 e3;exact ih x y a1 b1 h1
  |succ j=>exact q2 j x' y' e (by simpa using e1) (by simpa using e2) (by simpa using e3)
 |[],us,vs,ws,A,B,es,r1,r2,h=>by
  have e:wU n [] us=some []:=by cases us<;>rfl
  rw[e]at h;cases h;exact⟨by simp,λj x y e _ _ e3=>by simp at e3⟩
 |t::ts,[],vs,ws,A,B,es,r1,r2,h=>by have e:wU n (t::ts) []=some []:=rfl;rw[e]at h;cases h;exact⟨by simp,λj x y e _ _ e3=>by simp at e3⟩
theorem bh3(n:Nat):∀(t u:T){x y:V}{A B:List Addr}{b:Bool},Rep K cn H Z t x A->Rep K cn H Z u y B->vA n t u=some b->EqD K H n x y b:=by
 induction n with
 |zero=>
  intro t u x y A B b rt ru h;have e:vA 0 t u=nJ t u:=by cases t<;>cases u<;>rfl
  rw[e]at h;exact bi2 rt ru h
 |succ n ih=>
  intro t u x y A B b rt ru h;by_cases h1:∃o o' xs ys,t=.lst o xs/\u=.lst o' ys
  . obtain⟨o,o',xs,ys,rfl,rfl⟩:=h1;obtain⟨a,vs,C,rfl,hs,r1,_⟩:=rt.lstSq;obtain⟨b',ws,D,rfl,hs',r2,_⟩:=ru.lstSq;rw[vA]at h;have l1:=Reps.length xs r1;have l2:=Reps.length ys r2;split at h
    . next hl=>
      rw[Option.map_eq_some_iff]at h;obtain⟨es,h1,rfl⟩:=h;obtain⟨q1,q2⟩:=aw7 ih xs ys r1 r2 h1;exact .inr (.inl ⟨a,b',vs,ws,rfl,rfl,hs.sq,hs'.sq,.inr ⟨by omega,es,by rw[q1];omega,q2,rfl⟩⟩)
    . next hl=>
      cases h;exact .inr (.inl ⟨a,b',vs,ws,rfl,rfl,hs.sq,hs'.sq,.inl ⟨by omega,rfl⟩⟩)
  . by_cases h2:∃xs ys,t=.tup xs/\u=.tup ys
    . obtain⟨xs,ys,rfl,rfl⟩:=h2;obtain⟨a,vs,rfl,hs,r1⟩:=rt.tupS;obtain⟨b',ws,rfl,hs',r2⟩:=ru.tupS;rw[vA]at h;have l1:=Reps.length xs r1;have l2:=Reps.length ys r2;rw[Option.map_eq_some_iff]at h;obtain⟨es,h1,rfl⟩:=h;obtain⟨q1,q2⟩:=aw7 ih xs ys r1 r2 h1;exact .inr (.inr ⟨a,b',vs,ws,rfl,rfl,hs,hs',es,by rw[q1];omega,q2,by rw[l1,l2]⟩)
    . have e:vA (n+1) t u=nJ t u:=by cases t<;>cases u<;>first|rfl|exact absurd ⟨_,_,_,_,rfl,rfl⟩ h1|exact absurd ⟨_,_,rfl,rfl⟩ h2
      rw[e]at h;exact bi2 rt ru h
def cP:Nat:=6
def tX:T->Bool
 |.lst _ _=>true
 |.tup _=>true
 |_=>false
def bq9:T->T->Bool
 |.bl _,.int _=>false
 |.int _,.bl _=>false
 |t,u=>!tX t&&!tX u
def eqB(t u:T):Option Bool:=if tX t=true/\tX u=true then vA cP t u else if bq9 t u=true then nJ t u else none
def dO(t u:T):Res T:=match eqB t u with
 |some b=>.ok (.bl b)
 |none=>.no
theorem Rep.seqRef(h:Rep K cn H Z t v A)(i:tX t=true):∃a,v=.ref a:=by
 cases t with
 |lst o ts=>obtain⟨a,vs,C,rfl,_⟩:=h.lstSq;exact⟨a,rfl⟩
 |tup ts=>obtain⟨a,vs,rfl,_⟩:=h.tupS;exact⟨a,rfl⟩
 |_=>cases i
theorem bi8(rt:Rep K cn H Z t x A)(ru:Rep K cn H Z u y B)(hs:bq9 t u=true)(h:nJ t u=some b):cq6 x y=true/\b=decide (x=y):=by
 unfold nJ at h;split at h;all_goals first
  |(cases hs;done)
  |(simp only[Rep]at rt ru;obtain⟨rfl,_⟩:=rt;obtain⟨rfl,_⟩:=ru;cases h;exact⟨rfl,by first|rfl|(rw[as7])|(rw[bf4])|(rw[an7])|(symm;exact decide_eq_false (λz=>nomatch z))⟩)
  |(cases h;done)
theorem eh4:qL K cn (bx9 K cP) dO:=λE As H Z t u x y A B Q zi rt ru w=>by
 unfold dO at w;split at w
 . next b h=>
   unfold eqB at h;split at h
   . next hs=>
     obtain⟨p,rfl⟩:=rt.seqRef hs.1;obtain⟨q,rfl⟩:=ru.seqRef hs.2;exact .inr ⟨p,q,b,rfl,rfl,bh3 cP t u rt ru h,w.val zi (wA _)⟩
   . split at h
     . next hs=>
       obtain⟨q1,rfl⟩:=bi8 rt ru hs h;exact .inl ⟨q1,w.val zi (wA _)⟩
     . cases h
 . exact w.elim
def neT(t u:T):Res T:=if bq9 t u=true then match nJ t u with
 |some b=>.ok (.bl (!b))
 |none=>.no else .no
theorem em5:qL K cn rNe neT:=λE As H Z t u x y A B Q zi rt ru w=>by
 unfold neT at w;split at w
 . next hs=>
   split at w
   . next b h=>
     obtain⟨q1,rfl⟩:=bi8 rt ru hs h;exact⟨q1,w.val zi (wA _)⟩
   . exact w.elim
 . exact w.elim
def occ(j i:Str):Bool:=!(Builtin.Str.occurrences j i 0 j.length 1).isEmpty
def sF(t:T):List T->Option (List Bool)
 |[]=>some []
 |u::us=>(vA cP u t).bind λb=>(sF t us).map λes=>b::es
theorem xV(rt:Rep K cn H Z t x A):∀(us:List T){ws:List V}{B:List Addr}{es:List Bool},Reps K cn H Z us ws B->sF t us=some es->es.length=ws.length/\∀(j:Nat) y e,ws[j]?=some y->es[j]?=some e->EqD K H cP y x e
 |[],ws,B,es,r,h=>by simp only[Reps]at r;obtain⟨rfl,_⟩:=r;cases h;exact⟨rfl,λj y e e1=>by simp at e1⟩
 |u::us,ws,B,es,r,h=>by
  simp only[Reps]at r;obtain⟨w,ws',B1,C1,rfl,rfl,a1,a2⟩:=r;rw[sF,Option.bind_eq_some_iff]at h;obtain⟨b,h1,h⟩:=h;rw[Option.map_eq_some_iff]at h;obtain⟨es',h2,rfl⟩:=h;obtain⟨q1,q2⟩:=xV rt us a2 h2;refine⟨by simp[q1],λj y e e1 e2=>?_⟩;cases j with
  |zero=>simp at e1 e2;subst e1 e2;exact bh3 cP u t a1 rt h1
  |succ j=>exact q2 j y e (by simpa using e1) (by simpa using e2)
def nP(neg:Bool):T->T->Res T
 |t,.lst _ us=>match sF t us with
  |some es=>.ok (.bl (if neg=true then !es.any id else es.any id))
  |none=>.no
 |t,.tup us=>match sF t us with
  |some es=>.ok (.bl (if neg=true then !es.any id else es.any id))
  |none=>.no
 |.str i,.str j=>.ok (.bl (if neg=true then !occ j i else occ j i))
 |_,_=>.no
theorem em4:qL K cn (bs4 K cP neg) (nP neg):=λE As H Z t u x y A B Q zi rt ru w=>by
 unfold nP at w;split at w
 . next t o us=>
   split at w
   . next es h=>
     obtain⟨a,vs,C,rfl,hs,r1,_⟩:=ru.lstSq;obtain⟨q1,q2⟩:=xV rt us r1 h;exact .inl ⟨a,vs,rfl,.inl hs.sq,es,q1,q2,w.val zi (wA _)⟩
   . exact w.elim
 . next t us=>
   split at w
   . next es h=>
     obtain⟨a,vs,rfl,hs,r1⟩:=ru.tupS;obtain⟨q1,q2⟩:=xV rt us r1 h;exact .inl ⟨a,vs,rfl,.inr hs,es,q1,q2,w.val zi (wA _)⟩
   . exact w.elim
 . next i j=>rw[rt.str,ru.str];exact .inr ⟨i,j,rfl,rfl,w.val zi (wA _)⟩
 . exact w.elim
end
end TL
namespace L2
open PySem PySem.Spec PyProof.Rows
section
variable {X : Cx} (K : PySem.W.Frag)
theorem db8(hr:Room k X.A)(hn:n<=60:=by decide)(hK:X.K=K:=by rfl):OpR X (compareOp .Eq) (bx9 K n):=by subst hK;exact ds8 (by have:=hr.units;omega)
theorem az0(hr:Room k X.A)(hn:n<=60:=by decide)(hK:X.K=K:=by rfl):OpR X (compareOp .In) (bs4 K n false):=by subst hK;exact dp9 (by have:=hr.units;omega)
theorem co4(hr:Room k X.A)(hn:n<=60:=by decide)(hK:X.K=K:=by rfl):OpR X (compareOp .NotIn) (bs4 K n true):=by subst hK;exact co2 (by have:=hr.units;omega)
theorem es5(hK:X.K=K:=by rfl):IxR X (rIx K):=by subst hK;exact di9
def dx7:V->Option Int->Option Int->Hp->VK->Prop:=λx lo hi H Q=>du8 K x lo hi H Q\/dm8 K x lo hi H Q\/db7 x lo hi H Q
theorem lQ(hK:X.K=K:=by rfl):SlR X (dx7 K):=by subst hK;exact SlR.or dk3 (SlR.or dw6 dp5)
theorem dX(ha:PE X a ta)(he:∀whole,isTrue a X.env whole=(do let v<-whole;standAt a.pos;holding [v] (truthy v)))(hK:X.K=K:=by rfl):
 PT X a (λσ H Q=>ta σ H λx H'=>∃k,bq2 K x H' k/\Q k H'):=by
 subst hK;exact cc6 ha he
theorem iZ(hl:PE X l tl)(hK:X.K=K:=by rfl):PI X tg l (TL.iV K tl):=by
 subst hK;intro pins s σ H R I h;refine bW (hl s σ H _ I h) λv s1 ⟨x,H1,I1,r1,q1⟩=>?_;rcases q1 with⟨a,e,q⟩|⟨z,e,q⟩
 . subst e;cases r1;rcases q with⟨⟨xs,hq⟩,q⟩|⟨⟨xs,hq⟩,q⟩
   . obtain⟨its,rv,p,hz⟩:=I1.list hq;refine wpAny_pyIter_list p.isList ?_;refine⟨s1.heap.objs.size,[s1.heap.objs.size],_,_,H1,rfl,I1.kept (t':=s1.toks) λb o e=>Heap.get?_push_of_some _ e,cj3 a _,⟨_,Heap.get?_push_size _ rfl,rfl,rfl⟩,λb hb=>?_,q⟩;have e:b=s1.heap.objs.size:=by simpa using hb
     subst e;exact I1.fpOk (Nat.le_refl _) (I1.hok.fresh (Nat.le_refl _))
   . obtain⟨its,rv,p,hz⟩:=I1.tuple hq;refine wpAny_pyIter_tuple (show s1.heap.IsTuple a its.toArray from p) ?_;refine⟨s1.heap.objs.size,[s1.heap.objs.size],_,_,H1,rfl,I1.kept (t':=s1.toks) λb o e=>Heap.get?_push_of_some _ e,ch0 a _,⟨_,Heap.get?_push_size _ rfl,rfl,rfl⟩,λb hb=>?_,q⟩;have e:b=s1.heap.objs.size:=by simpa using hb
     subst e;exact I1.fpOk (Nat.le_refl _) (I1.hok.fresh (Nat.le_refl _))
 . subst e;obtain⟨t,rfl⟩:=r1;have fp:∀b∈[s1.heap.objs.size],rV X pins H1 b:=λb hb=>by
    have e:b=s1.heap.objs.size:=by simpa using hb
    subst e;exact I1.fpOk (Nat.le_refl _) (I1.hok.fresh (Nat.le_refl _))
   cases ha:z.cps.all (· <128)
   . exact wpAny_pyIter_wide ha ⟨s1.heap.objs.size,[s1.heap.objs.size],_,_,H1,rfl,I1.kept (t':=s1.toks) λb o e=>Heap.get?_push_of_some _ e,cp3 _ z t,⟨_,Heap.get?_push_size _ rfl,rfl,rfl⟩,fp,q⟩
   . exact wpAny_pyIter_ascii ha ⟨s1.heap.objs.size,[s1.heap.objs.size],_,_,H1,rfl,I1.kept (t':=s1.toks) λb o e=>Heap.get?_push_of_some _ e,cr0 _ z t,⟨_,Heap.get?_push_size _ rfl,rfl,rfl⟩,fp,q⟩
theorem eI(n:Nat)(hc:X.calm=true)(h:PGs X es t)
 (hn:(assignEach es X.env).length=n:=by rfl)(hst:(assignEach es X.env).findIdx? (·.1)=none:=by rfl)(hK:X.K=K:=by rfl):PG X (.Tuple es k pos) (cv6 K n t):=by
 subst hK;exact du5 hc h hn hst
theorem al0{o e:Expr}{es:List Expr}{to:TE}{t:TA}{name:Str}{apos cpos:Pos}{T id:String}{r:V->List V->Hp->VK->Prop}(pa:PlainAttrs T)(slot:Slot T name id)(hty:typeOf (.builtin id)=pure (.type "method_descriptor"))(hm:MtR X id r)(ho:PE X o to)(ha:PA X (e::es) t)
 (hbase:attributeBase o name X.env (eval o X.env)=eval o X.env:=by rfl)
 (hfew:((backTo cpos (starEach (e::es) X.env)).all (λx=>!x.1)&&(backToKw cpos (keywordEach [] X.env)).all (λx=>x.1.isSome)
  &&decide ((e::es).length+([]:List Keyword).length+(if([]:List Keyword).isEmpty then 0 else 1)<30))=true:=by rfl)
 (hline:(apos.endLine==cpos.line)=true:=by rfl)(hs:starEach (e::es) X.env=(false,eval e X.env)::starEach es X.env:=by rfl)(hplain:(backTo cpos (starEach es X.env)).any (·.1)=false:=by rfl)(hK:X.K=K:=by rfl):
 PE X (.Call (.Attribute o name apos) (e::es) [] cpos) (tBM K T r to t):=by
 subst hK;exact ef0 pa slot hty hm ho ha hbase hfew hline hs hplain
theorem cI(hK:X.K=K:=by rfl):CallR X (.builtin "len") (du7 K):=by subst hK;exact cw8
theorem pR(hK:X.K=K:=by rfl):CallR X (.builtin "abs") dv6:=cf9
theorem vG(hK:X.K=K:=by rfl):CallR X (.builtin "divmod") bm8:=br6
theorem jX(hc:X.calm=true:=by rfl)(hK:X.K=K:=by rfl):CallR X (.builtin "all") (dk5 K):=by subst hK;exact ce9 hc
theorem at1(hc:X.calm=true:=by rfl)(hK:X.K=K:=by rfl):CallR X (.builtin "max") (cw6 K):=by subst hK;exact ca2 hc
theorem lM(hc:X.calm=true:=by rfl)(hK:X.K=K:=by rfl):CallR X (.builtin "min") (cu7 K):=by subst hK;exact cv3 hc
def cm4:List V->Hp->VK->Prop:=λxs H Q=>∃p ys,xs=[.ref p]/\(SqL K H p ys\/SqT K H p ys)/\∀l,H l=none->Q (.ref l) (upd H l (.lst ys))
theorem jP(hK:X.K=K:=by rfl):CallR X (.type "list") (cm4 K):=by subst hK;exact bz3
theorem br2(hK:X.K=K:=by rfl):MtR X "str.join" (br8 K):=by subst hK;exact dw1
end
end L2
namespace TL
open PySem PySem.Spec PyProof.Rows L2
section
variable {Jn : gC} {K : PySem.W.Frag} {cn : Str → Option Addr} {E : XK} {As : List (List Addr)} {H : Hp} {Z : Addr → Prop} {Q : VK}
def aO:T->T->Res T
 |.lst _ ts,.int n=>match atI ts n with
  |some t=>.ok t
  |none=>.no
 |.tup ts,.int n=>match atI ts n with
  |some t=>.ok t
  |none=>.no
 |.str z,.int n=>if z.length<=sizeLine then match atI z.cps.toList n with
  |some c=>.ok (.str ⟨#[c]⟩)
  |none=>.no else .no
 |_,_=>.no
theorem Reps.atI(r:Reps K cn H Z ts vs A)(h:L2.atI ts n=some t):∃v B,L2.atI vs n=some v/\Rep K cn H Z t v B:=by unfold L2.atI at h⊢;rw[Option.bind_eq_some_iff]at h;obtain⟨j,h1,h2⟩:=h;obtain⟨v,B,e,rv,_⟩:=Reps.get ts r h2;exact⟨v,B,by rw[Reps.length ts r,h1];exact e,rv⟩
theorem ef2(ha:RB Jn K cn E ta a)(hb:RB Jn K cn E tb b):RB Jn K cn E (tOp (rIx K) ta tb) (aE aO a b):=λAs H Z ρ σ F Q w=>by
 unfold aE at w;refine ha As H Z ρ σ F _ ?_;cases e:a ρ with
 |ok t=>
  rw[e]at w;intro v H1 Z1 B p;refine hb As H1 Z1 ρ σ (F.mo p.mo) _ ?_;simp only[Res.bind]at w;cases e2:b ρ with
  |ok u=>
   rw[e2]at w;intro v2 H2 Z2 B2 p2;have rt:=p.rep.same p2.same p2.zz;have m:=p.mo.trans p2.mo;have bN:∀{t:T}{v:V}{C:List Addr},WpB K cn E As H Z Q (.ok t)->Rep K cn H2 Z2 t v C->Q v H2:=λw r=>w _ H2 Z2 _ ⟨m.same,m.zz,m.zn,m.zi,r⟩;simp only at w;unfold aO at w;split at w
   . next o ts n=>
     split at w
     . next t' h=>
       obtain⟨q,vs,C,rfl,hs,r,_⟩:=rt.lstSq;obtain⟨v',D,e3,rv⟩:=r.atI h;exact .inl ⟨q,vs,n,v',rfl,p2.rep.int,hs.sq,e3,bN w rv⟩
     . exact w.elim
   . next ts n=>
     split at w
     . next t' h=>
       obtain⟨q,vs,rfl,hs,r⟩:=rt.tupS;obtain⟨v',D,e3,rv⟩:=r.atI h;exact .inr (.inl ⟨q,vs,n,v',rfl,p2.rep.int,hs,e3,bN w rv⟩)
     . exact w.elim
   . next z n=>
     split at w
     . next hz=>
       split at w
       . next c h=>exact .inr (.inr ⟨z,n,c,rt.str,p2.rep.int,hz,h,bN w (ag0 _)⟩)
       . exact w.elim
     . exact w.elim
   . exact w.elim
  |ex x=>rw[e2]at w;exact WpX.ev w p.mo.ev
  |no=>rw[e2]at w;exact w
 |ex x=>rw[e]at w;exact w
 |no=>rw[e]at w;exact w
def gH{α:Type}(xs:List α)(lo hi:Option Int):List α:=(xs.drop (HT.sIx xs.length 0 lo)).take (HT.sIx xs.length xs.length hi-HT.sIx xs.length 0 lo)
def lO:T->Option Int->Option Int->Res T
 |.lst _ ts,lo,hi=>if aR ts=true then .ok (.lst true (gH ts lo hi))else .no
 |.tup ts,lo,hi=>if aR ts=true/\¬(HT.sIx ts.length 0 lo=0/\HT.sIx ts.length ts.length hi=ts.length)then .ok (.tup (gH ts lo hi))else .no
 |.str z,lo,hi=>if z.length<=sizeLine then .ok (.str (Txt.slice z lo hi))else .no
 |_,_,_=>.no
theorem Reps.cut(r:Reps K cn H Z ts vs [])(lo hi:Option Int):Reps K cn H Z (gH ts lo hi) (ae0 vs lo hi) []:=by unfold gH ae0;rw[Reps.length ts r];exact Reps.take _ _ (Reps.drop _ _ r)
theorem ee5:RSR K cn (dx7 K) lO:=λE As H Z t x A lo hi Q zi rt w=>by
 cases t with
 |lst o ts=>
  simp only[lO]at w;split at w
  . next h=>
    obtain⟨q,vs,C,rfl,hs,r,_⟩:=rt.lstSq;exact .inl ⟨q,vs,rfl,hs.sq,λp hp=>w.newL zi ((r.bareE h).cut lo hi) p hp⟩
  . exact w.elim
 |tup ts=>
  simp only[lO]at w;split at w
  . next h=>
    obtain⟨q,vs,rfl,hs,r⟩:=rt.tupS;exact .inr (.inl ⟨q,vs,rfl,hs,by rw[Reps.length ts r];exact h.2,λp hp=>w.newT zi ((r.bareE h.1).cut lo hi) p hp⟩)
  . exact w.elim
 |str z=>
  simp only[lO]at w;split at w
  . next h=>rw[rt.str];exact .inr (.inr ⟨z,rfl,h,w.val zi (ag0 _)⟩)
  . exact w.elim
 |_=>exact w.elim
def ea5(k:Option Int):T->Res T
 |.lst _ ts=>if aR ts=true/\k=some (-1)then .ok (.lst true ts.reverse)else .no
 |_=>.no
def er5(a:Fr->Res T)(s:Fr->Res (Option Int)):Fr->Res T:=λρ=>(a ρ).bind λt=>(s ρ).bind λk=>ea5 k t
theorem Reps.one1(r:Reps K cn H Z [t] vs A):∃v,vs=[v]/\Rep K cn H Z t v A:=by simp only[Reps]at r;obtain⟨v,w,B,C,rfl,rfl,r,rfl,rfl⟩:=r;exact⟨v,rfl,by simpa using r⟩
theorem Reps.two2(r:Reps K cn H Z [t,u] vs A):∃v w B C,vs=[v,w]/\A=B++C/\Rep K cn H Z t v B/\Rep K cn H Z u w C:=by simp only[Reps]at r;obtain⟨v,w,B,C,rfl,rfl,r,v2,w2,B2,C2,rfl,rfl,r2,rfl,rfl⟩:=r;exact⟨v,v2,B,B2,rfl,by simp,r,r2⟩
def eY:List T->Res T
 |[.str z]=>if z.length<=sizeLine then .ok (.int z.length)else .no
 |[.lst _ ts]=>.ok (.int ts.length)
 |[.tup ts]=>.ok (.int ts.length)
 |_=>.no
theorem en2:xH K cn (du7 K) eY:=λE As H Z ts xs A Q zi r w=>by
 unfold eY at w;split at w
 . next z=>
   split at w
   . next h=>obtain⟨v,rfl,rv⟩:=r.one1;rw[rv.str];exact⟨_,_,rfl,⟨h,rfl⟩,w.val zi (kI _)⟩
   . exact w.elim
 . next o ts=>
   obtain⟨v,rfl,rv⟩:=r.one1;obtain⟨q,vs,C,rfl,hs,r',_⟩:=rv.lstSq;exact⟨_,_,rfl,.inl ⟨vs,hs.sq,rfl⟩,by rw[Reps.length ts r'];exact w.val zi (kI _)⟩
 . next ts=>
   obtain⟨v,rfl,rv⟩:=r.one1;obtain⟨q,vs,rfl,hs,r'⟩:=rv.tupS;exact⟨_,_,rfl,.inr ⟨vs,hs,rfl⟩,by rw[Reps.length ts r'];exact w.val zi (kI _)⟩
 . exact w.elim
def sG:List T->Res T
 |[.int i]=>.ok (.int (if i<0 then -i else i))
 |_=>.no
theorem ex3:xH K cn dv6 sG:=λE As H Z ts xs A Q zi r w=>by
 unfold sG at w;split at w
 . next i=>rw[r.ints1];exact⟨i,rfl,w.val zi (kI _)⟩
 . exact w.elim
noncomputable def uL:List T->Res T
 |[.int i,.int j]=>gate (gQ i j) (.ok (.tup [.int (i/j),.int (i%j)]))
 |_=>.no
theorem eg4(i j:Int):Reps K cn H Z [.int i,.int j] [.int i,.int j] []:=by simp only[Reps];exact⟨_,_,[],[],rfl,rfl,kI _,_,_,[],[],rfl,rfl,kI _,rfl,rfl⟩
theorem cb7:xH K cn bm8 uL:=λE As H Z ts xs A Q zi r w=>by
 unfold uL at w;split at w
 . next i j=>
   obtain⟨h,w⟩:=w.gate;rw[r.ints2];exact⟨i,j,rfl,h,λp hp=>w.newT zi (eg4 _ _) p hp⟩
 . exact w.elim
def br1:T->Option String
 |.int _=>some "int"
 |.bl _=>some "bool"
 |.str _=>some "str"
 |.lst _ _=>some "list"
 |.tup _=>some "tuple"
 |_=>none
def cs6(tx ty:String):Option Bool:=
 if(ty="int"\/ty="bool"\/ty="str"\/ty="list"\/ty="tuple")then some (tx=ty\/(tx="bool"/\ty="int"))else none
theorem dx1(h0:br1 t=some tx)(h:cs6 tx ty=some b):gF tx ty b:=by
 have hx:tx="int"\/tx="bool"\/tx="str"\/tx="list"\/tx="tuple":=by cases t<;>simp[br1]at h0<;>subst h0<;>simp
 unfold cs6 at h;split at h
 . next hy=>
   cases h;rcases hx with rfl|rfl|rfl|rfl|rfl<;>rcases hy with rfl|rfl|rfl|rfl|rfl<;>constructor
 . cases h
theorem ck5(r:Rep K cn H Z t v A)(h:br1 t=some tx):TyN K H v tx:=by
 cases t with
 |int i=>rw[r.int];cases h;rfl
 |bl i=>rw[r.bl];cases h;rfl
 |str i=>rw[r.str];cases h;rfl
 |lst o ts=>obtain⟨q,vs,C,rfl,hs,_⟩:=r.lstSq;cases h;exact .inl ⟨rfl,vs,hs.sq⟩
 |tup ts=>obtain⟨q,vs,rfl,hs,_⟩:=r.tupS;cases h;exact .inr ⟨rfl,vs,hs⟩
 |_=>cases h
def bv3:List T->Res T
 |[t,.ty n]=>match br1 t with
  |some tx=>match cs6 tx n with
   |some b=>.ok (.bl b)
   |none=>.no
  |none=>.no
 |_=>.no
theorem eb4:xH K cn (ee4 K) bv3:=λE As H Z ts xs A Q zi r w=>by
 unfold bv3 at w;split at w
 . next t n=>
   split at w
   . next tx h1=>
     split at w
     . next b h2=>
       obtain⟨v,u,B,C,rfl,_,r1,r2⟩:=r.two2;simp only[Rep]at r2;rw[r2.1];exact⟨v,n,tx,b,rfl,ck5 r1 h1,dx1 h1 h2,w.val zi (wA _)⟩
     . exact w.elim
   . exact w.elim
 . exact w.elim
def aq2:List T->Option (List Bool)
 |[]=>some []
 |.bl b::ts=>(aq2 ts).map (b:: ·)
 |_::_=>none
theorem be2:∀(ts:List T){vs:List V}{A:List Addr}{bs:List Bool},Reps K cn H Z ts vs A->aq2 ts=some bs->vs=bs.map V.bl
 |[],vs,A,bs,r,h=>by simp only[Reps]at r;cases h;exact r.1
 |t::ts,vs,A,bs,r,h=>by
  simp only[Reps]at r;obtain⟨v,vs',B,C,rfl,rfl,r1,r2⟩:=r;cases t with
  |bl b=>simp only[aq2]at h;rw[Option.map_eq_some_iff]at h;obtain⟨bs',h1,rfl⟩:=h;rw[be2 ts r2 h1,r1.bl];rfl
  |_=>cases h
def oS(any:Bool):List T->Res T
 |[.lst _ ts]=>match aq2 ts with
  |some bs=>.ok (.bl (if any=true then bs.any id else bs.all id))
  |none=>.no
 |_=>.no
theorem ex0:xH K cn (dk5 K) (oS false):=λE As H Z ts xs A Q zi r w=>by
 unfold oS at w;split at w
 . next o ts=>
   split at w
   . next bs h=>
     obtain⟨v,rfl,rv⟩:=r.one1;obtain⟨q,vs,C,rfl,hs,r',_⟩:=rv.lstSq;have:=be2 ts r' h;subst this;exact⟨q,bs,rfl,hs.sq,w.val zi (wA _)⟩
   . exact w.elim
 . exact w.elim
def aj4:List T->Option (List Int)
 |[]=>some []
 |.int b::ts=>(aj4 ts).map (b:: ·)
 |_::_=>none
theorem aa8:∀(ts:List T){vs:List V}{A:List Addr}{bs:List Int},Reps K cn H Z ts vs A->aj4 ts=some bs->vs=bs.map V.int
 |[],vs,A,bs,r,h=>by simp only[Reps]at r;cases h;exact r.1
 |t::ts,vs,A,bs,r,h=>by
  simp only[Reps]at r;obtain⟨v,vs',B,C,rfl,rfl,r1,r2⟩:=r;cases t with
  |int b=>simp only[aj4]at h;rw[Option.map_eq_some_iff]at h;obtain⟨bs',h1,rfl⟩:=h;rw[aa8 ts r2 h1,r1.int];rfl
  |_=>cases h
theorem ah4:∀ns:List Int,aj4 (ns.map T.int)=some ns
 |[]=>rfl
 |n::ns=>by simp[aj4,ah4 ns]
theorem ar9:∀ns:List Bool,aq2 (ns.map T.bl)=some ns
 |[]=>rfl
 |n::ns=>by simp[aq2,ar9 ns]
def cm9:List Int->Int
 |[]=>0
 |n::ns=>ns.foldl (λa b=>if b>a then b else a) n
def ct6:List Int->Int
 |[]=>0
 |n::ns=>ns.foldl (λa b=>if b<a then b else a) n
theorem be0:∀(n:Int)(ns:List Int),(ns.foldl (λa b=>if b>a then b else a) n∈n::ns)/\∀a∈n::ns,a<=ns.foldl (λa b=>if b>a then b else a) n
 |n,[]=>by simp
 |n,m::ns=>by
  simp only[List.foldl_cons];have ih:=be0 (if m>n then m else n) ns;refine⟨?_,λa ha=>?_⟩
  . rcases List.mem_cons.mp ih.1 with h|h
    . rw[h];split<;>simp
    . exact List.mem_cons_of_mem _ (List.mem_cons_of_mem _ h)
  . have h1:=ih.2 (if m>n then m else n) List.mem_cons_self;rcases List.mem_cons.mp ha with rfl|ha
    . split at h1<;>rename_i hc
      . simp only[hc,if_true];omega
      . simp only[hc,if_false];exact h1
    . rcases List.mem_cons.mp ha with rfl|ha
      . split at h1<;>rename_i hc
        . simp only[hc,if_true];exact h1
        . simp only[hc,if_false];omega
      . exact ih.2 a (List.mem_cons_of_mem _ ha)
theorem az8:∀(n:Int)(ns:List Int),(ns.foldl (λa b=>if b<a then b else a) n∈n::ns)/\∀a∈n::ns,ns.foldl (λa b=>if b<a then b else a) n<=a
 |n,[]=>by simp
 |n,m::ns=>by
  simp only[List.foldl_cons];have ih:=az8 (if m<n then m else n) ns;refine⟨?_,λa ha=>?_⟩
  . rcases List.mem_cons.mp ih.1 with h|h
    . rw[h];split<;>simp
    . exact List.mem_cons_of_mem _ (List.mem_cons_of_mem _ h)
  . have h1:=ih.2 (if m<n then m else n) List.mem_cons_self;rcases List.mem_cons.mp ha with rfl|ha
    . split at h1<;>rename_i hc
      . simp only[hc,if_true];omega
      . simp only[hc,if_false];exact h1
    . rcases List.mem_cons.mp ha with rfl|ha
      . split at h1<;>rename_i hc
        . simp only[hc,if_true];exact h1
        . simp only[hc,if_false];omega
      . exact ih.2 a (List.mem_cons_of_mem _ ha)
def yJ:List T->Res T
 |[.int i,.int j]=>.ok (.int (if j>i then j else i))
 |[.lst _ ts]=>match aj4 ts with
  |some (n::ns)=>.ok (.int (cm9 (n::ns)))
  |_=>.no
 |_=>.no
def mZ:List T->Res T
 |[.int i,.int j]=>.ok (.int (if j<i then j else i))
 |[.lst _ ts]=>match aj4 ts with
  |some (n::ns)=>.ok (.int (ct6 (n::ns)))
  |_=>.no
 |_=>.no
theorem en3:xH K cn (cw6 K) yJ:=λE As H Z ts xs A Q zi r w=>by
 unfold yJ at w;split at w
 . next i j=>rw[r.ints2];exact .inl ⟨i,j,rfl,w.val zi (kI _)⟩
 . next o ts=>
   split at w
   . next n ns h=>
     obtain⟨v,rfl,rv⟩:=r.one1;obtain⟨q,vs,C,rfl,hs,r',_⟩:=rv.lstSq;have:=aa8 ts r' h;subst this;refine .inr ⟨q,n::ns,rfl,hs.sq,List.cons_ne_nil _ _,λM h1 h2=>?_⟩;obtain⟨g1,g2⟩:=be0 n ns;have:M=cm9 (n::ns):=Int.le_antisymm (g2 M h1) (h2 _ g1);rw[this];exact w.val zi (kI _)
   . exact w.elim
 . exact w.elim
theorem ek0:xH K cn (cu7 K) mZ:=λE As H Z ts xs A Q zi r w=>by
 unfold mZ at w;split at w
 . next i j=>rw[r.ints2];exact .inl ⟨i,j,rfl,w.val zi (kI _)⟩
 . next o ts=>
   split at w
   . next n ns h=>
     obtain⟨v,rfl,rv⟩:=r.one1;obtain⟨q,vs,C,rfl,hs,r',_⟩:=rv.lstSq;have:=aa8 ts r' h;subst this;refine .inr ⟨q,n::ns,rfl,hs.sq,List.cons_ne_nil _ _,λM h1 h2=>?_⟩;obtain⟨g1,g2⟩:=az8 n ns;have:M=ct6 (n::ns):=Int.le_antisymm (h2 _ g1) (g2 M h1);rw[this];exact w.val zi (kI _)
   . exact w.elim
 . exact w.elim
def lR:List T->Res T
 |[.lst _ ts]=>if aR ts=true then .ok (.lst true ts)else .no
 |[.tup ts]=>if aR ts=true then .ok (.lst true ts)else .no
 |_=>.no
theorem dw8:xH K cn (cm4 K) lR:=λE As H Z ts xs A Q zi r w=>by
 unfold lR at w;split at w
 . next o ts=>
   split at w
   . next h=>
     obtain⟨v,rfl,rv⟩:=r.one1;obtain⟨q,vs,C,rfl,hs,r',_⟩:=rv.lstSq;exact⟨q,vs,rfl,.inl hs.sq,λl hl=>w.newL zi (r'.bareE h) l hl⟩
   . exact w.elim
 . next ts=>
   split at w
   . next h=>
     obtain⟨v,rfl,rv⟩:=r.one1;obtain⟨q,vs,rfl,hs,r'⟩:=rv.tupS;exact⟨q,vs,rfl,.inr hs,λl hl=>w.newL zi (r'.bareE h) l hl⟩
   . exact w.elim
 . exact w.elim
def ex5:T->List T->Res T
 |.str z,[.str y]=>.ok (.bl (Txt.startswith z y))
 |_,_=>.no
def zH:List T->Option (List Str)
 |[]=>some []
 |.str b::ts=>(zH ts).map (b:: ·)
 |_::_=>none
theorem ag8:∀(ts:List T){vs:List V}{A:List Addr}{bs:List Str},Reps K cn H Z ts vs A->zH ts=some bs->vs=bs.map V.str
 |[],vs,A,bs,r,h=>by simp only[Reps]at r;cases h;exact r.1
 |t::ts,vs,A,bs,r,h=>by
  simp only[Reps]at r;obtain⟨v,vs',B,C,rfl,rfl,r1,r2⟩:=r;cases t with
  |str b=>simp only[zH]at h;rw[Option.map_eq_some_iff]at h;obtain⟨bs',h1,rfl⟩:=h;rw[ag8 ts r2 h1,r1.str];rfl
  |_=>cases h
theorem ab2:∀ns:List Str,zH (ns.map T.str)=some ns
 |[]=>rfl
 |n::ns=>by simp[zH,ab2 ns]
def uB:T->List T->Res T
 |.str z,[.lst _ ts]=>match zH ts with
  |some ys=>if(ys.map (·.length)).sum+ys.length*z.length<=16777216 then .ok (.str (Txt.join z ys))else .no
  |none=>.no
 |_,_=>.no
theorem dg8:RMR K cn "str" (br8 K) uB:=λE As H Z t ts x xs A B Q zi rt r w=>by
 unfold uB at w;split at w
 . next z o ts=>
   split at w
   . next ys h=>
     split at w
     . next hz=>
       obtain⟨v,rfl,rv⟩:=r.one1;obtain⟨q,vs,C,rfl,hs,r',_⟩:=rv.lstSq;have:=ag8 ts r' h;subst this;rw[rt.str];exact⟨z,q,ys,rfl,rfl,hs.sq,hz,w.val zi (ag0 _)⟩
     . exact w.elim
   . exact w.elim
 . exact w.elim
end
end TL
namespace TL
open PySem PySem.Spec PyProof.Rows L2
theorem oM(a:α)(f:α->Res β):(Res.ok a).bind f=f a:=rfl
theorem bg2(P:Nat->Fr->Prop):∀(ts:List T)(k:Nat){ρ:Fr},P k ρ->(∀i t ρ,ts[i]?=some t->P (k+i) ρ->∃ρ1 ρ2,b t ρ=some ρ1/\(body ρ1=.nx ρ2\/body ρ1=.ct ρ2)/\P (k+i+1) ρ2)->∃ρ',iI b body ts ρ=.nx ρ'/\P (k+ts.length) ρ'
 |[],k,ρ,h0,_=>⟨ρ,rfl,h0⟩
 |t::ts,k,ρ,h0,hs=>by obtain⟨ρ1,ρ2,h1,h2,h3⟩:=hs 0 t ρ rfl h0;obtain⟨ρ',h4,h5⟩:=bg2 (b:=b) (body:=body) P ts (k+1) h3 (λi u ρ e p=>by have:=hs (i+1) u ρ (by simpa using e) (by rw[show k+(i+1)=k+1+i by omega];exact p);rw[show k+(i+1)+1=k+1+i+1 by omega]at this;exact this);refine⟨ρ',?_,by rw[List.length_cons,show k+(ts.length+1)=k+1+ts.length by omega];exact h5⟩;rcases h2 with h2|h2<;>simp only[iI,h1,h2,h4]
theorem ag6(P:Nat->Fr->Prop)(hs:∀m ρ,P m ρ->(c ρ=.ok false)\/(c ρ=.ok true/\∃ρ2 m',(body ρ=.nx ρ2\/body ρ=.ct ρ2)/\m'<m/\P m' ρ2)):∀(n m:Nat){ρ:Fr},P m ρ->m<n->∃ρ' m',rF c body n ρ=.nx ρ'/\P m' ρ'/\c ρ'=.ok false
 |0,m,ρ,_,hm=>by omega
 |n+1,m,ρ,h0,hm=>by
  rcases hs m ρ h0 with h|⟨h,ρ2,m',h2,hl,hp⟩
  . exact⟨ρ,m,by simp only[rF,h,Bool.false_eq_true,if_false],h0,h⟩
  . obtain⟨ρ',m'',h4,h5,h6⟩:=ag6 P hs n m' hp (by omega);refine⟨ρ',m'',?_,h5,h6⟩;rcases h2 with h2|h2<;>simp only[rF,h,h2,if_true,h4]
def Go(P:Fr->Prop):bO->Prop
 |.nx ρ=>P ρ
 |.ct ρ=>P ρ
 |_=>False
def GoB(P:Fr->Prop)(body:Fr->bO):Option Fr->Prop
 |some ρ=>Go P (body ρ)
 |none=>False
theorem ec0:Go P (.nx ρ)=P ρ:=rfl
theorem ed1:Go P (.ct ρ)=P ρ:=rfl
theorem cx5:GoB P body (some ρ)=Go P (body ρ):=rfl
theorem pW(P:Nat->Fr->Prop)(h:iI b body ts ρ=o)(h0:P 0 ρ)(hs:∀i t ρ,ts[i]?=some t->P i ρ->GoB (P (i+1)) body (b t ρ)):∃ρ',o=.nx ρ'/\P ts.length ρ':=by
 obtain⟨ρ',h1,h2⟩:=bg2 (b:=b) (body:=body) P ts 0 h0 (λi t ρ e p=>by
  have:=hs i t ρ e (by rw[Nat.zero_add]at p;exact p);rw[Nat.zero_add];cases e1:b t ρ with
  |none=>rw[e1]at this;exact this.elim
  |some ρ1=>
   rw[e1]at this;have g:Go (P (i+1)) (body ρ1):=this;cases e2:body ρ1 with
   |nx ρ2=>rw[e2]at g;exact⟨ρ1,ρ2,rfl,.inl e2,g⟩
   |ct ρ2=>rw[e2]at g;exact⟨ρ1,ρ2,rfl,.inr e2,g⟩
   |_=>rw[e2]at g;exact g.elim)
 rw[Nat.zero_add]at h2;exact⟨ρ',by rw[<-h,h1],h2⟩
def db0(P B:Fr->Prop)(R:T->Prop):bO->Prop
 |.nx ρ=>P ρ
 |.ct ρ=>P ρ
 |.bk ρ=>B ρ
 |.rt t=>R t
 |_=>False
def da9(P B:Fr->Prop)(R:T->Prop)(body:Fr->bO):Option Fr->Prop
 |some ρ=>db0 P B R (body ρ)
 |none=>False
def GoW(P:Fr->Prop)(body:Fr->bO)(ρ:Fr):Res Bool->Prop
 |.ok true=>Go P (body ρ)
 |.ok false=>True
 |_=>False
theorem af9(P:Nat->Fr->Prop)(h:vI c body ρ=o)(h0:P m ρ)(hm:m<10^12)(hs:∀m ρ,P m ρ->GoW (λρ2=>∃m',m'<m/\P m' ρ2) body ρ (c ρ)):∃ρ' m',o=.nx ρ'/\P m' ρ'/\c ρ'=.ok false:=by
 obtain⟨ρ',m',h1,h2,h3⟩:=ag6 (c:=c) (body:=body) P (λm ρ p=>by
  have g:=hs m ρ p;cases e:c ρ with
  |ok k=>
   rw[e]at g;cases k with
   |false=>exact .inl rfl
   |true=>
    have g':Go (λρ2=>∃m',m'<m/\P m' ρ2) (body ρ):=g;refine .inr ⟨rfl,?_⟩;cases e2:body ρ with
    |nx ρ2=>rw[e2]at g';obtain⟨m',q1,q2⟩:=g';exact⟨ρ2,m',.inl rfl,q1,q2⟩
    |ct ρ2=>rw[e2]at g';obtain⟨m',q1,q2⟩:=g';exact⟨ρ2,m',.inr rfl,q1,q2⟩
    |_=>rw[e2]at g';exact g'.elim
  |_=>rw[e]at g;exact g.elim) wQ m h0 (Nat.lt_of_lt_of_le hm di3)
 exact⟨ρ',m',by rw[<-h];exact h1,h2,h3⟩
theorem dp7(i j:Int):bK (.int i) (.int j)=.ok (.int (i+j)):=rfl
theorem dh6(a b:Str):bK (.str a) (.str b)=gate (a.length+b.length<=sizeLine) (.ok (.str (a++b))):=rfl
theorem dh7(o o':Bool)(xs ys:List T):bK (.lst o xs) (.lst o' ys)=gate ((aR xs&&aR ys)=true/\xs.length+ys.length<=sizeLine) (.ok (.lst true (xs++ys))):=rfl
theorem dy8(xs ys:List T):bK (.tup xs) (.tup ys)=gate ((aR xs&&aR ys)=true/\xs.length+ys.length<=sizeLine/\xs.isEmpty=false/\ys.isEmpty=false) (.ok (.tup (xs++ys))):=rfl
theorem dt9(i j:Int):dF (.int i) (.int j)=.ok (.int (i-j)):=rfl
theorem dv8(i j:Int):gK (.int i) (.int j)=gate (mulOk i j) (.ok (.int (i*j))):=rfl
theorem db6(z:Str)(k:Int):gK (.str z) (.int k)=gate (-(2^63)<=k/\k<2^62/\z.length*k.toNat<=sizeLine) (.ok (.str (iN z k.toNat))):=rfl
theorem dr3(i j:Int):gL (.int i) (.int j)=gate (gQ i j) (.ok (.int (i/j))):=rfl
theorem dc8(i j:Int):bQ (.int i) (.int j)=gate (0<j) (.ok (.int (i%j))):=rfl
theorem cz3(i j:Int):rY (.int i) (.int j)=gate (av1 i j) (.ok (.int (i^j.toNat))):=rfl
theorem em1(i:Int):kW (.int i)=.ok (.int (-i)):=rfl
theorem es3(i j:Int):ltT (.int i) (.int j)=.ok (.bl (decide (i<j))):=rfl
theorem er3(i j:Int):fW (.int i) (.int j)=.ok (.bl (decide (i<=j))):=rfl
theorem ei2(i j:Int):gtT (.int i) (.int j)=.ok (.bl (decide (j<i))):=rfl
theorem ec3(a b:Bool):xZ (.bl a) (.bl b)=.ok (.bl (a==b)):=rfl
theorem ed3:xZ .non .non=.ok (.bl true):=rfl
theorem el2(i:Int):xZ (.int i) .non=.ok (.bl false):=rfl
theorem ew0(i:Str):xZ (.str i) .non=.ok (.bl false):=rfl
theorem ek2(o:Bool)(i:List T):xZ (.lst o i) .non=.ok (.bl false):=rfl
theorem eo0(i:List T):xZ (.tup i) .non=.ok (.bl false):=rfl
theorem cn7:dy7 .non .non=.ok (.bl false):=rfl
theorem ey3(i j:Int):dO (.int i) (.int j)=.ok (.bl (i==j)):=rfl
theorem em2(i j:Str):dO (.str i) (.str j)=.ok (.bl (i==j)):=rfl
theorem ee3(i j:Bool):dO (.bl i) (.bl j)=.ok (.bl (i==j)):=rfl
theorem eq3(n:Bool)(i j:Str):nP n (.str i) (.str j)=.ok (.bl (if n=true then !occ j i else occ j i)):=rfl
theorem eb3(o:Bool)(ts:List T)(n:Int):aO (.lst o ts) (.int n)=match atI ts n with|some t=>.ok t|none=>.no:=rfl
theorem ep0(ts:List T)(n:Int):aO (.tup ts) (.int n)=match atI ts n with|some t=>.ok t|none=>.no:=rfl
theorem et3(z:Str)(n:Int):aO (.str z) (.int n)=if z.length<=sizeLine then match atI z.cps.toList n with|some c=>.ok (.str ⟨#[c]⟩)|none=>.no else .no:=rfl
theorem ef5(o:Bool)(ts:List T)(lo hi:Option Int):lO (.lst o ts) lo hi=if aR ts=true then .ok (.lst true (gH ts lo hi))else .no:=rfl
theorem ej4(ts:List T)(lo hi:Option Int):lO (.tup ts) lo hi=if aR ts=true/\¬(HT.sIx ts.length 0 lo=0/\HT.sIx ts.length ts.length hi=ts.length)then .ok (.tup (gH ts lo hi))else .no:=rfl
theorem eu5(z:Str)(lo hi:Option Int):lO (.str z) lo hi=if z.length<=sizeLine then .ok (.str (Txt.slice z lo hi))else .no:=rfl
theorem eg2(z:Str):eY [.str z]=if z.length<=sizeLine then .ok (.int z.length)else .no:=rfl
theorem eg1(o:Bool)(ts:List T):eY [.lst o ts]=.ok (.int ts.length):=rfl
theorem ew2(ts:List T):eY [.tup ts]=.ok (.int ts.length):=rfl
theorem ec1(i:Int):sG [.int i]=.ok (.int (if i<0 then -i else i)):=rfl
theorem cz2(i j:Int):uL [.int i,.int j]=gate (gQ i j) (.ok (.tup [.int (i/j),.int (i%j)])):=rfl
theorem dw0(i:Int):bv3 [.int i,.ty "int"]=.ok (.bl true):=by with_unfolding_all rfl
theorem cr1(i:Int):bv3 [.int i,.ty "bool"]=.ok (.bl false):=by with_unfolding_all rfl
theorem bu1(a o:Bool)(bs:List Bool):oS a [.lst o (bs.map .bl)]=.ok (.bl (if a=true then bs.any id else bs.all id)):=by simp only[oS,ar9]
theorem df6(i j:Int):yJ [.int i,.int j]=.ok (.int (if j>i then j else i)):=rfl
theorem dm7(i j:Int):mZ [.int i,.int j]=.ok (.int (if j<i then j else i)):=rfl
theorem dg0(o:Bool)(n:Int)(ns:List Int):yJ [.lst o ((n::ns).map .int)]=.ok (.int (cm9 (n::ns))):=by simp only[yJ,ah4]
theorem dz0(o:Bool)(n:Int)(ns:List Int):mZ [.lst o ((n::ns).map .int)]=.ok (.int (ct6 (n::ns))):=by simp only[mZ,ah4]
theorem dw9(o:Bool)(ts:List T):lR [.lst o ts]=if aR ts=true then .ok (.lst true ts)else .no:=rfl
theorem dn8(ts:List T):lR [.tup ts]=if aR ts=true then .ok (.lst true ts)else .no:=rfl
theorem by7(z:Str)(o:Bool)(ys:List Str):uB (.str z) [.lst o (ys.map .str)]=if(ys.map (·.length)).sum+ys.length*z.length<=16777216 then .ok (.str (Txt.join z ys))else .no:=by simp only[uB,ab2]
theorem eu2(o:Bool)(ts:List T):mR (.lst o ts)=if aR ts=true then .ok ts else .no:=rfl
theorem ex1(ts:List T):mR (.tup ts)=if aR ts=true then .ok ts else .no:=rfl
theorem ee0(z:Str):mR (.str z)=.ok (z.cps.toList.map λc=>T.str ⟨#[c]⟩):=rfl
theorem ea4(ts:List T):zZ (.lst false ts)=if aR ts=true then .ok ts else .no:=by simp only[zZ,Bool.not_false,Bool.true_and]
theorem ew3(ts:List T):zZ (.tup ts)=if aR ts=true then .ok ts else .no:=rfl
theorem ef3(z:Str):zZ (.str z)=.ok (z.cps.toList.map λc=>T.str ⟨#[c]⟩):=rfl
theorem eh2(j:Int):qK [.int j]=gate (-(2^62)<=j/\j<2^62) (.ok (fA 0 j.toNat)):=rfl
theorem ex2(i j:Int):ce0 [.int i,.int j]=gate (-(2^62)<=i/\i<2^62/\-(2^62)<=j/\j<2^62) (.ok (fA i (j-i).toNat)):=rfl
theorem eq2(b:Bool):xD (.bl b)=.ok b:=rfl
theorem ej1(b:Int):xD (.int b)=.ok (b !=0):=rfl
theorem ej0:xD .non=.ok false:=rfl
theorem ej2(o:Bool)(b:List T):xD (.lst o b)=.ok (!b.isEmpty):=rfl
theorem el1(b:Bool):toB (.bl b)=.ok b:=rfl
theorem eq1(i:Int):toI (.int i)=.ok (some i):=rfl
theorem eA:∀{l:List α},(∀a∈l,d (ρ.set k (some (g a)))=.ok (f a))->cF (aJ k) cT d ρ (l.map g)=.ok (l.map f)
 |[],_=>rfl
 |a::l,h=>by simp only[List.map_cons,cF,aJ,cT,oM,if_true,h a List.mem_cons_self,eA (λu hu=>h u (List.mem_cons_of_mem _ hu))]
theorem yK:∀{l:List α},(∀a∈l,c (ρ.set k (some (g a)))=.ok (p a)/\(p a=true->d (ρ.set k (some (g a)))=.ok (f a)))->cF (aJ k) c d ρ (l.map g)=.ok ((l.filter p).map f)
 |[],_=>rfl
 |a::l,h=>by
  obtain⟨h1,h2⟩:=h a List.mem_cons_self;have ih:=yK (k:=k) (c:=c) (d:=d) (ρ:=ρ) (g:=g) (f:=f) (p:=p) (l:=l) (λu hu=>h u (List.mem_cons_of_mem _ hu));cases hp:p a with
  |true=>simp only[List.map_cons,cF,aJ,h1,hp,h2 hp,oM,if_true,List.filter_cons,ih]
  |false=>simp only[List.map_cons,cF,aJ,h1,hp,oM,Bool.false_eq_true,if_false,List.filter_cons,ih]
theorem pQ{lo:Int}{n i:Nat}{t:T}(h:(fA lo n)[i]?=some t):i<n/\t=.int (lo+i):=by
 unfold fA at h;rw[List.getElem?_map]at h;cases q:(List.range n)[i]? with
 |none=>rw[q]at h;cases h
 |some j=>rw[q]at h;obtain⟨h1,h2⟩:=List.getElem?_eq_some_iff.mp q;simp at h1 h2;subst h2;cases h;exact⟨h1,rfl⟩
theorem kD(lo:Int)(n:Nat):(fA lo n).length=n:=by simp[fA]
theorem rJ{α:Type}{g:α->T}(h:∀a,dP (g a)=true):∀l:List α,aR (l.map g)=true
 |[]=>rfl
 |a::l=>by simp only[List.map_cons,aR,h a,rJ h l,Bool.and_self]
theorem yP{α:Type}{g:α->T}(h:∀a,frz (g a)=g a):∀l:List α,frzs (l.map g)=l.map g
 |[]=>rfl
 |a::l=>by simp only[List.map_cons,frzs,h a,yP h l]
theorem qB{α:Type}{g:α->T}(h:∀a,fJ (g a)=true):∀l:List α,fS (l.map g)=true
 |[]=>rfl
 |a::l=>by simp only[List.map_cons,fS,h a,qB h l,Bool.and_self]
theorem mJ(l:List Int):aR (l.map T.int)=true:=rJ (λ_=>rfl) l
theorem wN(l:List Int):frzs (l.map T.int)=l.map T.int:=yP (λ_=>rfl) l
theorem sR(l:List Int):fS (l.map T.int)=true:=qB (λ_=>rfl) l
theorem dN(l:List Str):aR (l.map T.str)=true:=rJ (λ_=>rfl) l
theorem ay0(l:List Str):frzs (l.map T.str)=l.map T.str:=yP (λ_=>rfl) l
theorem xE(l:List Str):fS (l.map T.str)=true:=qB (λ_=>rfl) l
theorem uK(z:Str):z.length=z.cps.toList.length:=Array.length_toList.symm
theorem vR(a b:Str):(a++b).cps.toList=a.cps.toList++b.cps.toList:=by show(a.cps++b.cps).toList=_;simp
theorem bs8(a b:Str):(a++b).length=a.length+b.length:=by rw[uK,uK,uK,vR,List.length_append]
theorem at7(z:Str)(k:Nat):(iN z k).length=k*z.length:=by show((List.replicate k z.cps.toList).flatten.toArray).size=_;rw[List.size_toArray,bf8,Array.length_toList];rfl
end TL
namespace TL
open PySem PySem.Spec PyProof.Rows L2
section
variable {Jn : gC} {K : PySem.W.Frag} {cn : Str → Option Addr} {E : XK}
def kH(cs:List Str)(f:Str):T->Res T
 |.ins _ c ns ts=>if cs.contains c=true then match(ns.zip ts).lookup f with
  |some t=>.ok t
  |none=>.no else .no
 |_=>.no
def kC(K:PySem.W.Frag)(cn:Str->Option Addr)(cs:List Str)(f:Str):Prop:=∀c∈cs,∀C,cn c=some C->Cls K C/\NoAttr K C f
theorem Reps.lookup:∀(ns:List Str)(ts:List T){vs:List V}{A:List Addr},Reps K cn H Z ts vs A->(ns.zip ts).lookup f=some t->∃v B,(ns.zip vs).lookup f=some v/\Rep K cn H Z t v B
 |[],ts,_,_,_,e=>by simp at e
 |n::ns,[],_,_,_,e=>by simp at e
 |n::ns,u::ts,vs,A,r,e=>by
  simp only[Reps]at r;obtain⟨v,r',B,C,rfl,rfl,h1,h2⟩:=r;rw[List.zip_cons_cons,List.lookup_cons]at e⊢;cases q:f==n with
  |true=>rw[q]at e;cases e;exact⟨v,B,rfl,h1⟩
  |false=>rw[q]at e;exact Reps.lookup ns ts h2 e
theorem Rep.insS(r:Rep K cn H Z (.ins o c ns ts) v B):∃a C dx vs D,v=.ref a/\cn c=some C/\H a=some (.ins C dx (ns.zip vs))/\ns.length=vs.length/\Reps K cn H Z ts vs D:=by
 cases o with
 |true=>simp only[Rep]at r;obtain⟨a,C,dx,vs,D,rfl,_,hc,e,l,r⟩:=r;exact⟨a,C,dx,vs,D,rfl,hc,e,l,r⟩
 |false=>simp only[Rep]at r;obtain⟨a,C,dx,vs,rfl,_,hc,e,_,l,r⟩:=r;exact⟨a,C,dx,vs,[],rfl,hc,e,l,r⟩
theorem dv5(hf:kC K cn cs f)(ha:RB Jn K cn E ta a):RB Jn K cn E (cg8 K ta f) (cS (kH cs f) a):=λAs H Z ρ σ F Q w=>by
 unfold cS at w;refine ha As H Z ρ σ F _ ?_;cases e:a ρ with
 |ok t=>
  rw[e]at w;intro v H1 Z1 B p;simp only[Res.bind]at w;unfold kH at w;split at w
  . next o c ns ts=>
    split at w
    . next hc=>
      split at w
      . next t' h=>
        obtain⟨q,C,dx,vs,D,rfl,hC,eq,_,r⟩:=p.rep.insS;obtain⟨v',B',e3,rv⟩:=Reps.lookup ns ts r h;obtain⟨k1,k2⟩:=hf c (by simpa using hc) C hC;exact⟨q,C,dx,_,v',rfl,eq,k1,k2,e3,w v' H1 Z1 B' ⟨p.same,p.zz,p.zn,p.zi,rv⟩⟩
      . exact w.elim
    . exact w.elim
  . exact w.elim
 |ex x=>rw[e]at w;exact w
 |no=>rw[e]at w;exact w
def gE(f:Str):List Str->Option Nat
 |[]=>none
 |n::ns=>if n=f then some 0 else(gE f ns).map (· +1)
theorem bw7:∀(ns:List Str)(vs:List V){k:Nat},ns.length=vs.length->gE f ns=some k->lK f y (ns.zip vs)=ns.zip (vs.set k y)
 |[],_,_,_,h=>by simp[gE]at h
 |n::ns,[],_,l,_=>by simp at l
 |n::ns,w::vs,k,l,h=>by
  unfold gE at h;rw[List.zip_cons_cons,lK];by_cases q:n=f
  . rw[if_pos q]at h;cases h;rw[if_pos q];rfl
  . rw[if_neg q,Option.map_eq_some_iff]at h;obtain⟨k',h1,rfl⟩:=h;rw[if_neg q,bw7 ns vs (by simpa using l) h1];rfl
theorem bs3:∀(ns:List Str)(vs:List V),ns.length=vs.length->gE f ns=none->lK f y (ns.zip vs)=(ns++[f]).zip (vs++[y])
 |[],[],_,_=>rfl
 |[],w::vs,l,_=>by simp at l
 |n::ns,[],l,_=>by simp at l
 |n::ns,w::vs,l,h=>by
  unfold gE at h;rw[List.zip_cons_cons,lK];by_cases q:n=f
  . rw[if_pos q]at h;cases h
  . rw[if_neg q,Option.map_eq_none_iff]at h;rw[if_neg q,bs3 ns vs (by simpa using l) h];rfl
def eb6(j:Nat)(cs:List Str)(f:Str)(d:Fr->Res (List Nat)):Fr->Res (List Nat):=λρ=>(d ρ).bind λp=>match ρ[j]? with
 |some (some t0)=>match mV p t0 with
  |some (.ins o c ns ts)=>if(o&&cs.contains c)=true then match gE f ns with
   |some k=>if k<ts.length then .ok (p++[k])else .no
   |none=>.no else .no
  |_=>.no
 |_=>.no
def tQ(j:Nat)(mv:List Nat)(cs:List Str)(f:Str)(e:Fr->Res T)(d:Fr->Res (List Nat)):Fr->bO:=λρ=>match e ρ with
 |.ok t=>match(kills mv ρ)[j]? with
  |some (some t0)=>match d (kills mv ρ)with
   |.ok p=>match mV p t0 with
    |some (.ins o c ns us)=>if(o&&cs.contains c&&decide (ns.length<1000))=true then match gE f ns with
     |some k=>if k<us.length then bn3 j p (.ins true c ns (us.set k t)) (kills mv ρ)else .no
     |none=>bn3 j p (.ins true c (ns++[f]) (us++[t])) (kills mv ρ)
     else .no
    |_=>.no
   |.ex x=>.ex x
   |.no=>.no
  |_=>.no
 |.ex x=>.ex x
 |.no=>.no
theorem dk8(hf:kC K cn cs f)(he:RE Jn K cn E mv te e)(hd:RP Jn K cn E j to d):RS Jn K cn E (cy5 K to te f) (tQ j mv cs f e d):=λAs H Z ρ σ F D w=>by
 unfold tQ at w;refine he As H Z ρ σ F _ ?_;cases ee:e ρ with
 |ok t=>
  rw[ee]at w;intro y H1 Z1 C p1;simp only at w;have F1:=(F.mo p1.mo).kills mv;cases e1:(kills mv ρ)[j]? with
  |none=>rw[e1]at w;exact w.elim
  |some o=>
   rw[e1]at w;cases o with
   |none=>exact w.elim
   |some t0=>
    obtain⟨v0,e2,r0⟩:=F1.sl.get e1;simp only at w;have ev1:Ev As H Z (jD mv As) H1 Z1:=⟨λb o q _=>p1.same b o q,λb hb=>.inl (iC hb),p1.zz,λb h=>(p1.zn b h).imp_right .inr,λb h=>p1.same.free h⟩;refine hd (jD mv As) H1 Z1 (kills mv ρ) σ F1 t0 v0 e1 e2 r0 _ ?_;cases ed:d (kills mv ρ)with
    |ok p=>
     rw[ed]at w;intro u v B H2 Z2 m2 hn pl;simp only[hn]at w;split at w
     . next o c ns us hq=>
       cases hq;split at w
       . next hc=>
         rw[Bool.and_eq_true,Bool.and_eq_true]at hc;obtain⟨⟨rfl,hc⟩,hl⟩:=hc;have hl:=of_decide_eq_true hl;have q:=pl.rep;simp only[Rep]at q;obtain⟨a,C',dx,ws,C0,rfl,rfl,hC,ea,l,rs⟩:=q;have rt:Rep K cn H2 Z2 t y C:=p1.rep.same m2.same m2.zz;have F2:=F1.mo m2;have lw:=Reps.length us rs;obtain⟨k1,k2⟩:=hf c (by simpa using hc) C' hC;refine⟨a,C',dx,_,rfl,ea,k1,k2,by rw[List.length_zip];omega,?_⟩;have ndB:(a::C0).Nodup:=(am2 F1.nd j).sublist pl.sub;have cA:∀x∈C0,x∈(jD mv As).getD j []:=λx hx=>pl.sub.mem (List.mem_cons_of_mem _ hx);have cOut:=p1.out F;have cz:∀x∈C,¬Z2 x:=λx hx z=>by
          rcases m2.zn x z with z|z
          . exact p1.bz x hx z
          . obtain⟨o,ho,_⟩:=p1.rep.dom t x hx;rw[ho]at z;cases z
         cases ek:gE f ns with
         |none=>
          rw[ek]at w;rw[bs3 ns ws l ek];refine ah7 (As:=As) (H:=H) (Z:=Z) (E:=E) F2 e1 e2 pl rfl rfl ea rfl (u':=.ins true c (ns++[f]) (us++[t])) (C:=C0++C) (λaC aZ=>?_) ?_ ?_ ?_ (ev1.trans m2.ev) ?_ w
          . simp only[Rep];exact⟨a,C',dx,ws++[y],C0++C,rfl,rfl,hC,cJ,by simp[l],(Reps.append us rs (Reps.one rt)).upd ea rfl aC aZ⟩
          . rw[List.nodup_append];exact⟨(List.nodup_cons.mp ndB).2,p1.nd,λx hx z hz e=>by subst e;exact cOut x hz (bI (cA x hx))⟩
          . intro x hx;rcases List.mem_append.mp hx with hx|hx
            . exact F2.nz x (bI (cA x hx))
            . exact cz x hx
          . intro x hx hA;rcases List.mem_append.mp hx with hx|hx
            . exact hx
            . exact absurd hA (cOut x hx)
          . intro x hx;rcases List.mem_append.mp hx with hx|hx
            . exact .inl (iC (bI (cA x hx)))
            . exact p1.inA x hx
         |some k=>
          rw[ek]at w;simp only at w;split at w
          . next hk=>
            rw[bw7 ns ws l ek];obtain⟨B1,Bo,B2,rfl,rs'⟩:=Reps.put rt us rs hk;have i1:∀x∈B1,x∈B1++Bo++B2:=λx hx=>List.mem_append_left _ (List.mem_append_left _ hx);have i2:∀x∈B2,x∈B1++Bo++B2:=λx hx=>List.mem_append_right _ hx;have nd1:=(List.nodup_cons.mp ndB).2;rw[List.append_assoc,List.nodup_append]at nd1;obtain⟨n1,n2,n3⟩:=nd1;rw[List.nodup_append]at n2;refine ah7 (As:=As) (H:=H) (Z:=Z) (E:=E) F2 e1 e2 pl rfl rfl ea rfl (u':=.ins true c ns (us.set k t)) (C:=B1++C++B2) (λaC aZ=>?_) ?_ ?_ ?_ (ev1.trans m2.ev) ?_ w
            . simp only[Rep];exact⟨a,C',dx,ws.set k y,B1++C++B2,rfl,rfl,hC,cJ,by simp[l],rs'.upd ea rfl aC aZ⟩
            . rw[List.append_assoc,List.nodup_append];refine⟨n1,?_,λx hx z hz e=>?_⟩
              . rw[List.nodup_append];exact⟨p1.nd,n2.2.1,λx hx z hz e=>by subst e;exact cOut x hx (bI (cA x (i2 x hz)))⟩
              . subst e;rcases List.mem_append.mp hz with hz|hz
                . exact cOut x hz (bI (cA x (i1 x hx)))
                . exact n3 x hx x (List.mem_append_right _ hz) rfl
            . intro x hx;rcases List.mem_append.mp hx with hx|hx
              . rcases List.mem_append.mp hx with hx|hx
                . exact F2.nz x (bI (cA x (i1 x hx)))
                . exact cz x hx
              . exact F2.nz x (bI (cA x (i2 x hx)))
            . intro x hx hA;rcases List.mem_append.mp hx with hx|hx
              . rcases List.mem_append.mp hx with hx|hx
                . exact i1 x hx
                . exact absurd hA (cOut x hx)
              . exact i2 x hx
            . intro x hx;rcases List.mem_append.mp hx with hx|hx
              . rcases List.mem_append.mp hx with hx|hx
                . exact .inl (iC (bI (cA x (i1 x hx))))
                . exact p1.inA x hx
              . exact .inl (iC (bI (cA x (i2 x hx))))
          . exact w.elim
       . exact w.elim
     . exact w.elim
    |ex x=>rw[ed]at w;exact WpX.ev w ev1
    |no=>rw[ed]at w;exact w
 |ex x=>rw[ee]at w;exact w
 |no=>rw[ee]at w;exact w
def xU(K:PySem.W.Frag)(cn:Str->Option Addr)(c:Str)(n:Nat)(G:List T->Res T):Sp:=λvs H Q E=>vs.length=n+1/\∃x C dx us ts Z,vs=.ref x::us/\cn c=some C/\H x=some (.ins C dx [])/\¬Z x/\(∀a,Z a->H a≠none)/\Reps K cn H Z ts us []/\
 match G ts with
 |.ok t=>∀H' Z' B,Ev [[x]] H Z [B] H' Z'->Rep K cn H' Z' t (.ref x) B->B.Nodup->(∀b∈B,¬Z' b)->(∀a,Z' a->H' a≠none)->Q .non H'
 |.ex e=>WpX K cn E [[x]] H Z e
 |.no=>False
theorem dh3(hc:cn c=some C)(ha:uR Jn K cn E ta a):RE Jn K cn E [] (cw0 C (xU K cn c n G) [] E' ta) (bT n G a):=λAs H Z ρ σ F Q w=>by
 unfold bT at w;refine ha As H Z ρ σ F _ ?_;cases e:a ρ with
 |ok ts=>
  rw[e]at w;intro vs H1 Z1 B m r1 x dx hx hdx hne;simp only[Res.bind]at w;split at w
  . next hn=>
    have hs:Same H1 (L2.upd (L2.upd H1 dx (.own x)) x (.ins C dx [])):=λb u q=>by rw[bA (cU q hx),bA (cU q hdx)];exact q
    refine⟨by simp[Reps.length ts r1,hn],x,C,dx,vs,frzs ts,(λa=>Z1 a\/a∈B),by simp,hc,by rw[cJ],λh=>?_,λa h=>?_,(Reps.frz ts r1 (λa h=>.inl h) (λa h=>.inr h)).same hs (λ_ h=>h),?_⟩
    . rcases h with h|h
      . exact m.zi x h hx
      . obtain⟨o,q,_⟩:=Reps.dom ts r1 x h;rw[hx]at q;cases q
    . intro q;have q':=hs.free q;rcases h with h|h
      . exact m.zi a h q'
      . obtain⟨o,q2,_⟩:=Reps.dom ts r1 a h;rw[q2]at q';cases q'
    cases e2:G (frzs ts)with
    |ok t=>
     rw[e2]at w;intro H2 Z2 C2 ev r2 nd bz zi2;refine⟨rfl,?_⟩;simp only at w;have sm:Same H1 H2:=λb u q=>ev.keep b u (hs b u q) (by simpa using cU q hx);have bn:∀b∈C2,H1 b=none:=λb hb=>by
      rcases ev.own b (by simpa using hb)with q|q
      . have:b=x:=by simpa using q
        rw[this];exact hx
      . exact hs.free q
     split at w
     . next hcl=>
       rw[Bool.or_eq_true]at hcl;by_cases hcl':fJ t=true
       . refine w _ H2 Z1 C2 ⟨m.same.trans sm,m.zz,λa h=>m.zn a h,λa h q=>m.zi a h (sm.free q),Rep.any t hcl' r2,nd,λb hb z=>m.zi b z (bn b hb),λb hb=>.inl (m.same.free (bn b hb))⟩
       . have hno:=hcl.resolve_left hcl';have hB:=Reps.bare ts hno r1;subst hB;refine w _ H2 Z2 C2 ⟨m.same.trans sm,λa h=>ev.zz a (.inl (m.zz a h)),λa h=>?_,zi2,r2,nd,bz,λb hb=>.inl (m.same.free (bn b hb))⟩;rcases ev.zn a h with(h|h)|h|h
         . exact m.zn a h
         . cases h
         . have:a=x:=by simpa using h
           rw[this];exact .inr (m.same.free hx)
         . exact .inr (m.same.free (hs.free h))
     . exact w.elim
    |ex x=>rw[e2]at w;exact w.elim
    |no=>rw[e2]at w;exact w.elim
  . exact w.elim
 |ex x=>rw[e]at w;exact w
 |no=>rw[e]at w;exact w
def jA:bO->Res T
 |.nx ρ=>match ρ[0]? with
  |some (some t)=>.ok t
  |_=>.no
 |.ex x=>.ex x
 |_=>.no
theorem cz5{CX:uQ}{Y:Value->Around->List Env->Shared->Hp->XK->Cx}{c:Str}{P:Program}{w:World}{mg:Str->Option Value}{base:Heap}{qual:Str}{st:Stmt}{f:Addr}{fd:FuncData}{N ps:List Str}{k:Nat}{d:Fr->bO}(ok:∀sp:Sp,(∀vs H Q E,sp vs H Q E->vs.length=ps.length)->(∀(cdv:Value)(A:Around)(outer:List Env)(s:Shared)(H:Hp)(vs:List V)(Q:VK)(E:XK),Room k (A.deeper (envOfC qual (aL st) s.heap.objs.size f cdv))->sp vs H Q E->
 ∃t,PSs (Y cdv A outer s H E) (cK st) t/\t {nx:=λ_ H'=>Q .non H',rt:=Q} (iG N vs) H)->FnOk P w K mg base CX (k+1) f fd ps sp)
 (hbody:∀(y:Addr)(cdv:Value)(A:Around)(outer:List Env)(s:Shared)(H:Hp)(E:XK),Room k (A.deeper (envOfC qual (aL st) s.heap.objs.size f cdv))->
  ∃t,PSs (Y cdv A outer s H E) (cK st) t/\RS [(0,.ref y)] K cn E t d){n:Nat}{G:List T->Res T}(hn:ps.length=n+1)(hG:∀ts,G ts=jA (d (cO N.length (.ins true c [] []::ts)))):FnOk P w K mg base CX (k+1) f fd ps (xU K cn c n G):=by
 have eG:G=λts=>jA (d (cO N.length (.ins true c [] []::ts))):=funext hG;subst eG;refine ok _ (λvs H Q E h=>by rw[hn];exact h.1) λcdv A outer s H vs Q E hr h=>?_;obtain⟨hl,y,C,dx,us,ts,Z,rfl,hC,hy,hZ,zi,r,w⟩:=h;obtain⟨t,hp,ht⟩:=hbody y cdv A outer s H E hr;refine⟨t,hp,?_⟩;have lt:=Reps.length ts r;have ry:Rep K cn H Z (.ins true c [] []) (.ref y) [y]:=by simp only[Rep,Reps];exact⟨y,C,dx,[],[],rfl,rfl,hC,hy,rfl,rfl,rfl⟩
 let m:=N.length-(ts.length+1);have sl:Slots K cn H Z (cO N.length (.ins true c [] []::ts)) (L2.iG N (.ref y::us)) ([y]::List.replicate (ts.length+m) []):=by
  unfold cO L2.iG;refine⟨some (.ref y),us.map some++List.replicate m none,[y],_,?_,rfl,⟨_,rfl,ry⟩,?_⟩
  . simp only[List.map_cons,List.length_cons,lt,List.cons_append];rfl
  . exact ai1 ts r
 have fl:([y]::List.replicate (ts.length+m) []).flatten=[y]:=by rw[List.flatten_cons,nE];rfl
 have F0:Frm [(0,.ref y)] K cn H Z (cO N.length (.ins true c [] []::ts)) (L2.iG N (.ref y::us)) ([y]::List.replicate (ts.length+m) []):=
  ⟨sl,by rw[fl];simp,by rw[fl];intro a ha;have:a=y:=(by simpa using ha);rw[this];exact hZ,zi,λp hp=>by rw[List.mem_singleton]at hp;subst hp;rfl⟩
 refine ht _ H Z _ _ F0 _ ?_;cases ed:d (cO N.length (.ins true c [] []::ts))with
 |nx ρ=>
  simp only[ed,jA]at w;intro σ' As' H' Z' F' ev;cases e0:ρ[0]? with
  |none=>rw[e0]at w;exact w.elim
  |some o=>
   rw[e0]at w;cases o with
   |none=>exact w.elim
   |some t0=>
    simp only at w;obtain⟨v,e1,r1⟩:=F'.sl.get e0;have e2:=F'.pn (0,.ref y) (List.mem_singleton.mpr rfl);simp only at e2;rw[e1]at e2;cases e2;refine w H' Z' (As'.getD 0 []) ⟨λa o h q=>ev.keep a o h (by rw[fl];simpa using q),λa ha=>?_,ev.zz,λa h=>?_,ev.dom⟩ r1 (am2 F'.nd 0) (λb hb=>F'.nz b (bI hb)) F'.zi
    . have q:=ev.own a (bI (i:=0) (by simpa using ha));rw[fl]at q;simpa using q
    . have q:=ev.zn a h;rw[fl]at q;simpa using q
 |ex e=>simp only[ed,jA]at w;exact WpX.ev w ⟨λ_ _ q _=>q,λa ha=>(by rw[fl]at ha;exact .inl (by simpa using ha)),λ_ h=>h,λ_ h=>.inl h,λ_ h=>h⟩
 |rt t=>simp only[ed,jA]at w
 |bk ρ=>simp only[ed,jA]at w
 |rm ρ t=>simp only[ed,jA]at w
 |ct ρ=>simp only[ed,jA]at w
 |no=>simp only[ed,jA]at w
theorem dy1{c:Str}{P:Program}{w:World}{mg:Str->Option Value}{base:Heap}{x qual:Str}{st:Stmt}{f:Addr}{fd:FuncData}{N ps:List Str}{k:Nat}{d:Fr->bO}(F:Fun K x qual st f fd)(S:aW N ps (aL st))
 (hbody:∀(y:Addr)(cdv:Value)(A:Around)(outer:List Env)(s:Shared)(H:Hp)(E:XK),Room k (A.deeper (envOfC qual (aL st) s.heap.objs.size f cdv))->
  ∃t,PSs (lH lN P w K mg base N qual (aL st) f cdv A outer s H E).nox (cK st) t/\RS [(0,.ref y)] K cn E t d){n:Nat}{G:List T->Res T}(hn:ps.length=n+1)(hG:∀ts,G ts=jA (d (cO N.length (.ins true c [] []::ts)))):FnOk P w K mg base lN (k+1) f fd ps (xU K cn c n G):=cz5 (λsp len hb=>F.ok S len hb) hbody hn hG
end
end TL
namespace L2
open PySem PySem.Spec PyProof.Rows
structure rQ (P:Program) (w:World) (K:PySem.W.Frag) (mg:Str->Option Value) (base:Heap) (k:Nat) (C:Addr) (m:Str) (sp:Sp):Prop where
 ex:∃f fd ps,Cls K C/\cd7 K C m f/\FnOk P w K mg base lN k f fd ps sp/\Binds K fd ps []
structure Mak (P:Program) (w:World) (K:PySem.W.Frag) (mg:Str->Option Value) (base:Heap) (k:Nat) (x:Str) (C:Addr) (sp:Sp):Prop where
 ex:∃f fd ps,Mk K C f/\FnOk P w K mg base lN k f fd ps sp/\mg x=some (.ref C)/\Binds K fd ps []
def bp2(tab:List (Addr×Sp))(m:Str)(ta:TE)(t:TA):TE:=λσ H Q=>ta σ H λx H1=>∃a C dx fs sp,x=.ref a/\H1 a=some (.ins C dx fs)/\(C,sp)∈tab/\fs.lookup m=none/\t σ H1 λvs H2=>sp (x::vs) H2 Q E0
section
variable {X : Cx}
theorem cx8(he:PE X o ta)(hT:∀q∈tab,rQ X.prog X.w X.K X.mg X.base k q.1 m q.2)(hr:Room k X.A)(ha:PA X (e::es) t)
 (hst:starEach (e::es) X.env=(false,eval e X.env)::starEach es X.env:=by rfl)(hpl:(backTo pos (starEach es X.env)).any (·.1)=false:=by rfl)
 (ht:eval (.Call (.Attribute o m apos) (e::es) [] pos) X.env=(do
  let ov<-eval o X.env
  standAt apos.atName
  let(f,first)<-holding [ov] (getMethod ov m pl)
  callWith pos f first (backTo pos (starEach (e::es) X.env)) (backToKw pos (keywordEach [] X.env))):=by rfl):
 PE X (.Call (.Attribute o m apos) (e::es) [] pos) (bp2 tab m ta t):=by
 intro pins s σ H Q I h;refine PySem.W.methodCall_KW (pl:=pl) (bW (he s σ H _ I h) λu s1 ⟨x,H1,I1,rx,a,C,dx,fs,sp,ex,ea,hq,l,q⟩=>?_) ht;subst ex;obtain rfl:u=Value.ref a:=rx;obtain⟨f,fd,ps,c,hm,F,hb⟩:=(hT _ hq).ex;refine aq5 I1 ea c hm l ?_;refine PySem.W.callWith_K (first:=[.ref a]) (h₀:=X.base) I.ok.mod.kin hm.kp (bW (ha pins s1 σ H1 _ I1 q) λus s2 ⟨vs,H2,I2,r,q2⟩=>⟨I2.kIn,?_⟩) hst hpl;exact at5 (us:=.ref a::us) (vs:=.ref a::vs) F hr hb .nil bx1 I2 (.cons rfl r) (by rw[List.append_nil];exact q2)
theorem cl4(he:PE X o ta)(hT:∀q∈tab,rQ X.prog X.w X.K X.mg X.base k q.1 m q.2)(hr:Room k X.A)
 (ht:eval (.Call (.Attribute o m apos) [] [] pos) X.env=(do
  let ov<-eval o X.env
  standAt apos.atName
  let(f,first)<-holding [ov] (getMethod ov m pl)
  callWith pos f first (backTo pos (starEach [] X.env)) (backToKw pos (keywordEach [] X.env))):=by rfl):
 PE X (.Call (.Attribute o m apos) [] [] pos) (bp2 tab m ta ac4):=by
 intro pins s σ H Q I h;refine PySem.W.methodCall_KW (pl:=pl) (bW (he s σ H _ I h) λu s1 ⟨x,H1,I1,rx,a,C,dx,fs,sp,ex,ea,hq,l,q⟩=>?_) ht;subst ex;obtain rfl:u=Value.ref a:=rx;obtain⟨f,fd,ps,c,hm,F,hb⟩:=(hT _ hq).ex;refine aq5 I1 ea c hm l ?_;exact PySem.W.callWith_K0 (first:=[.ref a]) I1.kIn hm.kp (at5 (us:=[.ref a]) (vs:=[.ref a]) F hr hb .nil bx1 I1 (.cons rfl .nil) q)
theorem qX(d:Mak X.prog X.w X.K X.mg X.base k x C sp)(hr:Room (k+1) X.A)(ha:PA X (e::es) t)(hg:Gl X x:=by rfl)
 (hdb:(x==("__debug__":Str))=false:=by decide)(he:starEach (e::es) X.env=(false,eval e X.env)::starEach es X.env:=by rfl)(hpl:(backTo pos (starEach es X.env)).any (·.1)=false:=by rfl):
 PE X (.Call (.Name x p) (e::es) [] pos) (cw0 C sp [] E0 t):=by
 obtain⟨f,fd,ps,M,F,hm,hb⟩:=d.ex;exact do2 M F hr hg hm hb .nil bx1 ha hdb he hpl
end
end L2
namespace TL
open PySem PySem.Spec PyProof.Rows L2
section
variable {Jn : gC} {K : PySem.W.Frag} {cn : Str → Option Addr} {E : XK}
def tT(n:Nat)(G:List T->Res T)(ts:List T):Res T:=if ts.length=n then match G (frzs ts)with
 |.ok t=>if(fJ t||aR ts)=true then .ok t else .no
 |_=>.no else .no
theorem bd2(m:Mo H Z H1 Z1)(r1:Reps K cn H1 Z1 ts vs B)(w:WpE K cn E As H Z [] Q (tT n G ts)):cG K cn n G vs H1 Q E':=by
 unfold tT at w;split at w
 . next hn=>
   refine⟨by rw[Reps.length ts r1,hn],frzs ts,(λa=>Z1 a\/a∈B),λa h=>?_,Reps.frz ts r1 (λa h=>.inl h) (λa h=>.inr h),?_⟩
   . rcases h with h|h
     . exact m.zi a h
     . obtain⟨o,q,_⟩:=Reps.dom ts r1 a h;rw[q];exact(λz=>nomatch z)
   cases e2:G (frzs ts)with
   |ok t=>
    rw[e2]at w;intro v H2 Z2 C p;simp only at w;split at w
    . next hc=>
      rw[Bool.or_eq_true]at hc;have bn:∀b∈C,H1 b=none:=λb hb=>(p.bn b hb).resolve_right (λ⟨i,hi,_⟩=>by cases hi);by_cases hcl:fJ t=true
      . refine w v H2 Z1 C ⟨m.same.trans p.same,m.zz,λa h=>m.zn a h,λa h=>?_,Rep.any t hcl p.rep,p.nd,λb hb z=>?_,λb hb=>.inl (m.same.free (bn b hb))⟩
        . intro q;exact m.zi a h (p.same.free q)
        . exact m.zi b z (bn b hb)
      . have hno:=hc.resolve_left hcl;have hB:=Reps.bare ts hno r1;subst hB;refine w v H2 Z2 C ⟨m.same.trans p.same,λa h=>p.zz a (.inl (m.zz a h)),λa h=>?_,p.zi,p.rep,p.nd,p.bz,λb hb=>.inl (m.same.free (bn b hb))⟩;rcases p.zn a h with(h|h)|h
        . exact m.zn a h
        . cases h
        . exact .inr (m.same.free h)
    . exact w.elim
   |ex x=>rw[e2]at w;exact w.elim
   |no=>rw[e2]at w;exact w.elim
 . exact w.elim
theorem ai3:∀(ns:List Str)(vs:List V),gE f ns=none->(ns.zip vs).lookup f=none
 |[],_,_=>by simp
 |n::ns,[],_=>by simp
 |n::ns,w::vs,h=>by
  unfold gE at h;rw[List.zip_cons_cons,List.lookup_cons];by_cases q:n=f
  . rw[if_pos q]at h;cases h
  . rw[if_neg q,Option.map_eq_none_iff]at h;rw[show(f==n)=false from by rw[beq_eq_false_iff_ne];exact λz=>q z.symm];exact ai3 ns vs h
def qG(n:Nat)(m:Str)(tabs:List (Str×(List T->Res T)))(o:Fr->Res T)(r:Fr->Res (List T)):Fr->Res T:=λρ=>(o ρ).bind λt=>match t with
 |.ins _ c ns _=>match gE m ns with
  |none=>match tabs.lookup c with
   |some G=>(r ρ).bind λts=>tT n G (t::ts)
   |none=>.no
  |some _=>.no
 |_=>.no
def ar7(K:PySem.W.Frag)(cn:Str->Option Addr)(n:Nat)(tabs:List (Str×(List T->Res T)))(tab:List (Addr×Sp)):Prop:=∀c G C,tabs.lookup c=some G->cn c=some C->(C,cG K cn n G)∈tab
theorem ce8(hT:ar7 K cn n tabs tab)(ho:RB Jn K cn E to o)(ha:uR Jn K cn E ta a):RE Jn K cn E [] (bp2 tab m to ta) (qG n m tabs o a):=λAs H Z ρ σ F Q w=>by
 unfold qG at w;refine ho As H Z ρ σ F _ ?_;cases e:o ρ with
 |ok t=>
  rw[e]at w;intro v H1 Z1 B p;simp only[Res.bind]at w;split at w
  . next ow c ns us=>
    split at w
    . next hm=>
      split at w
      . next G hG=>
        obtain⟨q,C,dx,vs,D,rfl,hC,eq,_,r⟩:=p.rep.insS;refine⟨q,C,dx,_,cG K cn n G,rfl,eq,hT c G C hG hC,ai3 ns vs hm,ha As H1 Z1 ρ σ (F.mo p.mo) _ ?_⟩;cases e2:a ρ with
        |ok ts=>rw[e2]at w;intro ws H2 Z2 D2 m2 r2;refine bd2 (As:=As) (E:=E) (p.mo.trans m2) (ts:=.ins ow c ns us::ts) (B:=B++D2) ?_ w;simp only[Reps];exact⟨_,ws,B,D2,rfl,rfl,p.rep.same m2.same m2.zz,r2⟩
        |ex x=>rw[e2]at w;exact WpX.ev w p.mo.ev
        |no=>rw[e2]at w;exact w
      . exact w.elim
    . exact w.elim
  . exact w.elim
 |ex x=>rw[e]at w;exact w
 |no=>rw[e]at w;exact w
end
end TL
namespace L2
open PySem PySem.Spec PyProof.Rows
section
variable {X : Cx} (K : PySem.W.Frag)
def da1:List V->Hp->VK->Prop:=λxs H Q=>(∃i,xs=[.int i]/\Q (.int i) H)\/∃k,xs=[.bl k]/\Q (.int (if k then 1 else 0)) H
theorem bf0:CallR X (.type "int") da1:=cm2
end
end L2
namespace TL
open PySem PySem.Spec PyProof.Rows L2
section
variable {Jn : gC} {K : PySem.W.Frag} {cn : Str → Option Addr} {E : XK} {As : List (List Addr)} {H : Hp} {Z : Addr → Prop} {Q : VK}
def ey5:List T->Res T
 |[.lst _ ts]=>if aR ts=true then .ok (.tup ts)else .no
 |[.tup ts]=>if aR ts=true then .ok (.tup ts)else .no
 |_=>.no
def as3:List T->Res T
 |[.int i]=>.ok (.int i)
 |[.bl k]=>.ok (.int (if k then 1 else 0))
 |_=>.no
theorem ey2:xH K cn da1 as3:=λE As H Z ts xs A Q zi r w=>by
 unfold as3 at w;split at w
 . next i=>
   obtain⟨v,rfl,rv⟩:=r.one1;obtain rfl:=rv.int;exact .inl ⟨i,rfl,w _ H Z [] ⟨Same.refl _,λ_ h=>h,λ_ h=>.inl h,zi,by simp[Rep],List.nodup_nil,cL,cL⟩⟩
 . next k=>
   obtain⟨v,rfl,rv⟩:=r.one1;have:v=.bl k:=by simp only[Rep]at rv;exact rv.1
   subst this;exact .inr ⟨k,rfl,w _ H Z [] ⟨Same.refl _,λ_ h=>h,λ_ h=>.inl h,zi,by simp[Rep],List.nodup_nil,cL,cL⟩⟩
 . exact w.elim
end
end TL
namespace L2
open PySem PySem.Spec PyProof.Rows
section
variable {X : Cx}
def dp0:TS:=λ_ _ _=>False
theorem as2{st:Stmt}:PS X st dp0:=λ_ _ _ _ _ _ h=>h.elim
def bn2(K:PySem.W.Frag)(n:Nat):V->List V->Hp->VK->Prop:=λx vs H Q=>∃p ys y,x=.ref p/\vs=[y]/\SqL K H p ys/\∃(es:List Bool)(j:Nat),es.length=ys.length/\(∀(j:Nat) z e,ys[j]?=some z->es[j]?=some e->EqD K H n z y e)/\es[j]?=some true/\(∀m,m<j->es[m]?=some false)/\Q (.int j) H
def ck8(K:PySem.W.Frag)(n:Nat):R2:=λx y H Q=>rNe x y H Q\/(∃p q b,x=.ref p/\y=.ref q/\EqD K H n x y b/\Q (.bl (!b)) H)
theorem dw7(hu:X.A.units+n<cLine):OpR X (compareOp .NotEq) (ck8 X.K n):=by
 intro pins s σ H x y v u Q I rx ry h;rcases h with h|⟨p,q,b,rfl,rfl,h,hq⟩
 . exact eu0 s σ H x y v u Q I rx ry h
 . cases rx;cases ry;have bN:EP X pins σ Q (.bool (!b)) s:=⟨.bl (!b),H,I,rfl,hq⟩;cases n with
   |zero=>exact absurd h.1 (λz=>by cases z)
   |succ n=>
    rcases h with⟨h1,_,_⟩|⟨p,q,xs,ys,e1,e2,s1,s2,h⟩|⟨p,q,xs,ys,e1,e2,s1,s2,es,hl,he,rfl⟩
    . exact absurd h1 (λz=>by cases z)
    . cases e1;cases e2;obtain⟨its,r1,p1,_⟩:=I.list s1;obtain⟨jts,r2,p2,_⟩:=I.list s2;have l1:=r1.length;have l2:=r2.length;rcases h with⟨hne,rfl⟩|⟨heq,es,hl,he,rfl⟩
      . exact SeqAt.RcNeAt.lists_lengths p1.isList p2.isList (by simp only[List.size_toArray,bne_iff_ne,ne_eq];omega) (by omega) _ _ _ _ bN
      . refine SeqAt.RcNeAt.lists (e:=λj=>es.getD j true) p1.isList p2.isList (by simp only[List.size_toArray];omega) (by omega) (λj h1 h2=>?_) _ _ _ _ ?_
        . simp only[List.size_toArray]at h1 h2;simp only[List.getElem_toArray];obtain⟨x,ex,rx⟩:=fR r1 h1;obtain⟨y,ey,ry⟩:=fR r2 h2;have hj:j<es.length:=by omega
          have eg:es.getD j true=es[j]:=by rw[List.getD_eq_getElem?_getD,List.getElem?_eq_getElem hj];rfl
          rw[eg];exact mF I n (by show X.A.units+1+n<cLine;omega) rx ry (he j x y es[j] ex ey (List.getElem?_eq_getElem hj))
        . rw[List.size_toArray,show its.length=es.length by omega,sE];exact bN
    . cases e1;cases e2;obtain⟨its,r1,p1,_⟩:=I.tuple s1;obtain⟨jts,r2,p2,_⟩:=I.tuple s2;have l1:=r1.length;have l2:=r2.length;refine SeqAt.RcNeAt.tuples (e:=λj=>es.getD j true) (show s.heap.IsTuple _ its.toArray from p1) (show s.heap.IsTuple _ jts.toArray from p2) (by omega) (λj h1 h2=>?_) _ _ _ _ ?_
      . simp only[List.size_toArray]at h1 h2;simp only[List.getElem_toArray];obtain⟨x,ex,rx⟩:=fR r1 h1;obtain⟨y,ey,ry⟩:=fR r2 h2;have hj:j<es.length:=by omega
        have eg:es.getD j true=es[j]:=by rw[List.getD_eq_getElem?_getD,List.getElem?_eq_getElem hj];rfl
        rw[eg];exact mF I n (by show X.A.units+1+n<cLine;omega) rx ry (he j x y es[j] ex ey (List.getElem?_eq_getElem hj))
      . simp only[List.size_toArray];rw[show min its.length jts.length=es.length by omega,sE,<-l1,<-l2];exact bN
theorem lI(K:PySem.W.Frag)(hr:Room k X.A)(hn:n<=60:=by decide)(hK:X.K=K:=by rfl):OpR X (compareOp .NotEq) (ck8 K n):=by subst hK;exact dw7 (Nat.lt_of_le_of_lt (Nat.add_le_add_left (Nat.le_trans hn (by decide)) _) hr.units)
theorem cf8(hu:X.A.units+n+1<cLine):MtR X "list.index" (bn2 X.K n):=by
 intro pins s σ H x vs v us Q I rx rv h;obtain⟨p,ys,y,rfl,rfl,hq,es,j,hl,he,hj,hno,q⟩:=h;cases rx;obtain⟨u,rfl,ru⟩:=rv.one;obtain⟨its,r,pl,hz⟩:=I.list hq;have l1:=r.length;obtain⟨f,hf,_⟩:=ar2 I r hl he;have at_:∀(m:Nat)(hm:m<its.length) b,es[m]?=some b->f its[m]=b:=λm hm b eb=>by obtain⟨z,ez,rz⟩:=fR r hm;obtain⟨z',rz',d⟩:=hf its[m] (List.getElem_mem hm);cases rz.inj rz';exact EqD.det I n _ _ _ _ d (he m z b ez eb)
 have hjl:j<its.length:=by have:=(List.getElem?_eq_some_iff.mp hj).1;omega
 obtain⟨⟨oc,od,odt,osl⟩,n0,ho,hc,hd,hdt⟩:=pl;simp only at hc hd hdt;subst hc hd hdt;refine call_meets F.slot_list_index ⟨_,ho,rfl⟩ F.entry_list_index (F.args_list_index_2 _ _) (SeqAt.list_indexAt p its.toArray n0 none osl u f j (by simpa using hjl) ?_ ?_ ?_) ⟨ho,λy hy=>?_,?_⟩
 . have:j<2^62:=Nat.lt_of_lt_of_le hjl (by rw[<-l1];exact Nat.le_trans hz (by decide));omega
 . simpa using at_ j hjl true hj
 . intro m hm hmj;simpa using at_ m (by simpa using hm) false (hno m hmj)
 . obtain⟨z,rz,d⟩:=hf y (by simpa using hy);exact mF I n (by show X.A.units+1+n<cLine;omega) rz ru d
 . exact⟨.int j,H,I.tok _,⟨_,rfl⟩,q⟩
end
end L2
namespace TL
open PySem PySem.Spec PyProof.Rows L2
section
variable {Jn : gC} {K : PySem.W.Frag} {cn : Str → Option Addr} {E : XK}
def ao2:Fr->bO:=λ_=>.no
theorem dk1:RS Jn K cn E dp0 ao2:=λ_ _ _ _ _ _ _ w=>w.elim
def es4(j:Nat)(mv:List Nat)(f:List T->List T->Option (List T))(d:Fr->Res (List Nat))(e:Fr->Res (List T)):Fr->bO:=λρ=>match ρ[j]? with
 |some (some t0)=>match d ρ with
  |.ok p=>match mV p t0 with
   |some (.lst true us)=>match e ρ with
    |.ok ts=>match f us ts with
     |some us'=>af6 j p us' (kills mv ρ)
     |none=>.no
    |.ex x=>.ex x
    |.no=>.no
   |_=>.no
  |.ex x=>.ex x
  |.no=>.no
 |_=>.no
def ev4(us:List T):List T->Option (List T)
 |[.lst true zs]=>if us.length+zs.length<=sizeLine then some (us++zs)else none
 |_=>none
def ed5(us:List T):List T->Option (List T)
 |[.int i,t]=>if 0<=i/\i.toNat<=us.length/\us.length<sizeLine then some (us.take i.toNat++t::us.drop i.toNat)else none
 |_=>none
def ek5(_:List T):List T->Option (List T)
 |[]=>some []
 |_=>none
def dq5:T->T
 |.lst o xs=>.lst o (frzs xs)
 |t=>t
def eq0(d:Fr->Res T):Fr->Res T:=λρ=>(d ρ).bind λt=>.ok (dq5 t)
def kO(t u:T):Res T:=if tX t=true/\tX u=true then match vA cP t u with
 |some b=>.ok (.bl (!b))
 |none=>.no
 else neT t u
theorem en1:qL K cn (ck8 K cP) kO:=λE As H Z t u x y A B Q zi rt ru w=>by
 unfold kO at w;split at w
 . next hs=>
   obtain⟨a,rfl⟩:=rt.seqRef hs.1;obtain⟨b,rfl⟩:=ru.seqRef hs.2;cases e:vA cP t u with
   |none=>rw[e]at w;exact w.elim
   |some k=>rw[e]at w;exact .inr ⟨a,b,k,rfl,rfl,bh3 cP t u rt ru e,WpE.bl w zi⟩
 . exact .inl (em5 E As H Z t u x y A B Q zi rt ru w)
def yR:List Bool->Option Nat
 |[]=>none
 |true::_=>some 0
 |false::bs=>(yR bs).map (· +1)
theorem bq7:∀(bs:List Bool){j:Nat},yR bs=some j->bs[j]?=some true/\∀m,m<j->bs[m]?=some false
 |[],_,h=>by cases h
 |true::bs,j,h=>by cases h;exact⟨rfl,λm hm=>by omega⟩
 |false::bs,j,h=>by
  simp only[yR]at h;cases e:yR bs with
  |none=>rw[e]at h;cases h
  |some k=>
   rw[e]at h;cases h;obtain⟨h1,h2⟩:=bq7 bs e;refine⟨by simpa using h1,λm hm=>?_⟩;cases m with
   |zero=>rfl
   |succ m=>have hm:m+1<k+1:=hm;simpa using h2 m (by omega)
def xT:T->List T->Res T
 |.lst _ us,[t]=>match sF t us with
  |some es=>match yR es with
   |some j=>.ok (.int j)
   |none=>.no
  |none=>.no
 |_,_=>.no
theorem dg2:RMR K cn "list" (bn2 K cP) xT:=λE As H Z t ts x xs A B Q zi rt r w=>by
 unfold xT at w;split at w
 . next o us t=>
   obtain⟨a,vs,C,rfl,s,rs,_⟩:=rt.lstSq;simp only[Reps]at r;obtain⟨v,r',B1,C1,rfl,rfl,ra,rfl,rfl⟩:=r;cases e:sF t us with
   |none=>rw[e]at w;exact w.elim
   |some es=>
    rw[e]at w;simp only at w;cases e2:yR es with
    |none=>rw[e2]at w;exact w.elim
    |some j=>rw[e2]at w;obtain⟨h1,h2⟩:=bq7 es e2;obtain⟨g1,g2⟩:=xV ra us rs e;exact⟨a,vs,v,rfl,rfl,s.sq,es,j,g1,g2,h1,h2,w.val zi (kI _)⟩
 . exact w.elim
end
end TL
namespace L2
open PySem PySem.Spec PyProof.Rows
inductive DRows (w:World):List DictEntry->List (Str×Value)->Prop
 |nil:DRows w [] []
 |cons {x:Str} {t:Tok} {v:Value} {es:List DictEntry} {kvs:List (Str×Value)}:DRows w es kvs->DRows w (⟨hashStr w x,.str x t,v⟩::es) ((x,v)::kvs)
structure DicK (w:World) (K:PySem.W.Frag) (a:Addr) (kvs:List (Str×Value)):Prop where
 ex:∃o es ep,K.lookup a=some o/\o.ExactDict/\o.data=.dict es ep/\DRows w es.toList kvs
 nd:(kvs.map (·.1)).Nodup
 sm:(a==sysModules)=false
theorem DRows.keys:∀{es:List DictEntry}{kvs:List (Str×Value)},DRows w es kvs->(∀e∈es,∃k,(strKind P w).is k e.key=true/\e.hash=(strKind P w).hash k)/\Pairs (strKind P w) es kvs
 |_,_,.nil=>⟨λe h=>(nomatch h),.nil⟩
 |_,_,@DRows.cons _ x t v es kvs r=>by
  obtain⟨h1,h2⟩:=DRows.keys (P:=P) r;refine⟨λe he=>?_,.cons (strKind_is P w x t) rfl h2⟩;rcases List.mem_cons.mp he with rfl|he
  . exact⟨x,strKind_is P w x t,rfl⟩
  . exact h1 e he
theorem DicK.dictOf{P:Program}{w:World}{K:PySem.W.Frag}{a:Addr}{kvs:List (Str×Value)}{h:Heap}(D:DicK w K a kvs)(X:K.In h):h.DictOf (strKind P w) a kvs:=by obtain⟨o,es,ep,l,x,d,r⟩:=D.ex;obtain⟨h1,h2⟩:=DRows.keys (P:=P) r;exact⟨o,es,ep,X a o l,x,d,λe he=>h1 e (by simpa using he),h2,D.nd⟩
theorem xB:∀(kvs:List (Str×Value)),valueAt kvs x=kvs.lookup x
 |[]=>rfl
 |(y,v)::kvs=>by
  unfold valueAt;rw[List.find?_cons,List.lookup_cons];by_cases e:y=x
  . subst e;simp
  . have e1:(x==y)=false:=by simpa using Ne.symm e
    have e2:decide ((y,v).1=x)=false:=decide_eq_false e;rw[e1,e2];exact xB kvs
structure yV (w:World) (K:PySem.W.Frag) (mg:Str->Option Value) (d:Str) (kvs:List (Str×Value)):Prop where
 ex:∃a,mg d=some (.ref a)/\DicK w K a kvs
def ds0(kvs:List (Str×Value))(ty:TE):TE:=λσ H Q=>ty σ H λy H1=>∃x u v,y=.str x/\kvs.lookup x=some u/\RelV v u/\Q v H1
def dk7(neg:Bool)(kvs:List (Str×Value))(ty:TE):TE:=λσ H Q=>ty σ H λy H1=>∃x,y=.str x/\Q (.bl (if neg=true then !(kvs.lookup x).isSome else(kvs.lookup x).isSome)) H1
theorem dj0(r:RelV (.str x) u):(strKind P w).is x u=true:=by obtain⟨t,rfl⟩:=r;exact strKind_is P w x t
def cq0(i:Expr):Prop:=∀ov iv,subscripted i false ov iv=operate [ov,iv] (getItem ov iv)
theorem dz3{prog:Program}{w:World}{A:Around}{E:Value->Shared->Prop}{s:Shared}{env:Env}{value slice:Expr}{pos:Pos}{T id:String}{Q:Value->Shared->Prop}
 (hl:typeLookup (.type T) "__getitem__"=pure (some (.builtin id)))(hs:cq0 slice)
 (h:wpAny (model prog w) A (eval value env) (λo s₁=>wpAny (model prog w) A (eval slice env) (λi s₂=>s₂.TypeIs o T/\wpAny (model prog w) A (getItem o i) Q E s₂) E s₁) E s):
 wpAny (model prog w) A (eval (.Subscript value slice pos) env) Q E s:=by
 refine Subscript_ (wpAny_mono h (λo s₁ h₁=>wpAny_mono h₁ (λi s₂ h₂=>?_) λ_ _ x=>x) λ_ _ x=>x);obtain⟨hT,h₂⟩:=h₂;unfold subscriptTail;refine wpAny_bind ?_;rw[getitemInPython_of_ne hT.not_modules];refine wpAny_bind (wpAny_specialOf hT hl ?_);have bN:wpAny (model prog w) A (subscripted slice false o i) (λr s₃=>wpAny (model prog w) A (letTemporaryGo value o r>>=λ_=>pure r) Q E s₃) E s₂:=by rw[hs o i];exact wpAny_operating (wpAny_mono h₂ (λr s₃ h₃=>wpAny_bind (wpAny_letTemporaryGo (wpAny_pure h₃))) λ_ _ x=>x)
 first
  |exact wpAny_pure (wpAny_bind bN)
  |exact wpAny_bind (wpAny_pure (wpAny_bind bN))
  |exact wpAny_bind bN
section
variable {X : Cx}
theorem bf7(hD:yV X.w X.K X.mg d kvs)(hi:PE X i ty)(hg:Gl X d)(hdb:(d==("__debug__":Str))=false)(hs:cq0 i)(I:Inv X pins σ H s)
 (h:ty σ H W)(hW:∀y H1,W y H1->∃x u,y=.str x/\kvs.lookup x=some u/\∀s1,Inv X pins σ H1 s1->R u s1):wpAny (model X.prog X.w) X.A (eval (.Subscript (.Name d p) i pos) X.env) R X.xe s:=by
 obtain⟨a,hm,D⟩:=hD.ex;refine dz3 PySem.F.slot_dict_getitem.lookup hs (mL I hg hm ?_ hdb);refine bW (hi s σ H _ I h) λiv s2 ⟨y,H2,I2,ry,q⟩=>?_;obtain⟨x,u,ey,el,q2⟩:=hW y H2 q;subst ey;have dd:=D.dictOf (P:=X.prog) I2.kIn;exact⟨dd.typeIs,wpAny_getItem_of (dj0 ry) dd.mapOf (by rw[xB];exact el) (q2 _ (I2.tok _))⟩
theorem uI(hD:yV X.w X.K X.mg d kvs)(hi:PE X i ty)(hg:Gl X d:=by rfl)(hdb:(d==("__debug__":Str))=false:=by decide)(hs:cq0 i:=by intro _ _;rfl):PE X (.Subscript (.Name d p) i pos) (ds0 kvs ty):=by intro pins s σ H Q I h;refine bf7 hD hi hg hdb hs I h λy H1 ⟨x,u,v,ey,el,rv,q⟩=>⟨x,u,ey,el,λs1 I1=>⟨v,H1,I1,rv,q⟩⟩
theorem cu2{d:Str}{kvs:List (Str×Value)}{i:Expr}{ty:TE}{p:Pos}(hD:yV X.w X.K X.mg d kvs)(hi:PE X i ty)(hg:Gl X d:=by rfl)(hdb:(d==("__debug__":Str))=false:=by decide):PC X .NotIn i (.Name d p) (dk7 true kvs ty):=by intro pins s σ H Q I h;obtain⟨a,hm,D⟩:=hD.ex;refine bW (hi s σ H _ I h) λiv s2 ⟨y,H2,I2,ry,x,ey,q⟩=>mL I2 hg hm ?_ hdb;subst ey;have dd:=D.dictOf (P:=X.prog) I2.kIn;exact wpAny_notIn_of (dj0 ry) D.sm dd.mapOf ⟨.bl (!(valueAt kvs x).isSome),H2,I2.tok _,rfl,by rw[xB];exact q⟩
def cu9:List V->Hp->VK->Prop:=λxs H Q=>(∃i,xs=[.int i]/\i.natAbs.log2<1920/\Q (.str (toString i)) H)\/∃x,xs=[.str x]/\Q (.str x) H
theorem ax1:CallR X (.type "str") cu9:=by
 intro pins s σ H xs us Q I r h;rcases h with h|⟨x,rfl,q⟩
 . exact bw2 s σ H xs us Q I r h
 . obtain⟨u,rfl,t,rfl⟩:=yW r;exact PySem.P.str_of_str ⟨.str _,H,I,⟨_,rfl⟩,q⟩
def do0(K:PySem.W.Frag):List V->Hp->VK->Prop:=λxs H Q=>(∃x T tx b,xs=[x,.ty T]/\TyN K H x tx/\gF tx T b/\Q (.bl b) H)\/∃T,xs=[.non,.ty T]/\(T="int"\/T="bool"\/T="str"\/T="list"\/T="tuple")/\Q (.bl false) H
theorem pN(K:PySem.W.Frag)(hK:X.K=K:=by rfl):CallR X (.builtin "isinstance") (do0 K):=by
 subst hK;intro pins s σ H xs us Q I r h;rcases h with h|⟨T,rfl,hT,q⟩
 . exact cz7 s σ H xs us Q I r h
 . obtain⟨u,v,rfl,rx,rT⟩:=r.two;obtain rfl:v=Value.type T:=rT;obtain rfl:u=Value.none:=rx;have fin2:EP X pins σ Q (.bool false) {s with toks:=s.toks+1}:=⟨.bl false,H,I.tok _,rfl,q⟩;rcases hT with rfl|rfl|rfl|rfl|rfl
   . exact IsiPair.NoneType_int fin2
   . exact IsiPair.NoneType_bool fin2
   . exact IsiPair.NoneType_str fin2
   . exact IsiPair.NoneType_list fin2
   . exact IsiPair.NoneType_tuple fin2
theorem kU(K:PySem.W.Frag)(he:PE X e ta)(hb:attributeBase e f X.env (eval e X.env)=eval e X.env:=by rfl)(hK:X.K=K:=by rfl):PE X (.Attribute e f pos) (cg8 K ta f):=by subst hK;exact dn5 he hb
theorem oE(K:PySem.W.Frag)(ha:PE X o ta)(hv:PE X value tv)(hs:swapsWith value (some (.Attribute o f pos')) pos.line X.env=pure false:=by rfl)(hK:X.K=K:=by rfl):PS X (.Assign [.Attribute o f pos'] value pos) (cy5 K ta tv f):=by subst hK;exact de9 ha hv hs
theorem bl8(K:PySem.W.Frag)(hm:X.mg "zip"=none)(ha:PA X [a,b] ta)(hg:Gl X "zip":=by rfl)(hs:starEach [a,b] X.env=[(false,eval a X.env),(false,eval b X.env)]:=by rfl)(hs2:starEach [b] X.env=[(false,eval b X.env)]:=by rfl)(hK:X.K=K:=by rfl):
 PI X (.Tuple es n tpos) (.Call (.Name "zip" p) [a,b] [] pos) (cd6 K ta):=by
 subst hK;exact dr7 hg hm ha hs hs2
theorem cp4(K:PySem.W.Frag)(hr:Room k X.A)(hn:n<=60:=by decide)(hK:X.K=K:=by rfl):MtR X "list.index" (bn2 K n):=by subst hK;exact cf8 (Nat.lt_of_le_of_lt (by omega) hr.units)
end
structure uU (K:PySem.W.Frag) (C:Addr) (m qual:Str) (st:Stmt):Prop where
 ex:∃f fd,cd7 K C m f/\Fun K m qual st f fd
structure vP (K:PySem.W.Frag) (mg:Str->Option Value) (x:Str) (C:Addr) (qual:Str) (st:Stmt):Prop where
 ex:∃f fd,Mk K C f/\Fun K "__init__" qual st f fd
 mg:mg x=some (.ref C)
theorem dz1{K:PySem.W.Frag}{C f:Addr}{m qual:Str}{st:Stmt}{oc:Value}{od an:Option Addr}{osl:Array (Option Value)}{kV doc pm cdv ct:Value}(a:PySem.W.findIn K (.ref C) m=some (some (.ref f)))(b:PySem.W.isFn K (.ref f)=true)
 (l:K.lookup f=some ⟨oc,od,.func (PySem.W.fnOf m qual (gP st) (cK st) (aL st) .none kV doc pm an cdv ct),osl⟩)(c:PySem.W.codeIn K cdv qual=true)(k:PySem.W.keepIn K (.ref f)=true):uU K C m qual st:=
 ⟨f,_,⟨a,b,k⟩,ar0 l c k⟩
theorem dc2{K:PySem.W.Frag}{h:Heap}{mg:Str->Option Value}(X:K.In h)(G:h.Ns mainGlobals mg){x:Str}{C f:Addr}{qual:Str}{st:Stmt}{oc:Value}{od an:Option Addr}{osl:Array (Option Value)}{kV doc pm cdv ct:Value}(g:PySem.W.nsIn K mainGlobals x=some (some (.ref C)))
 (mk:PySem.W.makesIn K C=true)(a:PySem.W.findIn K (.ref C) "__init__"=some (some (.ref f)))(b:PySem.W.isFn K (.ref f)=true)(kc:PySem.W.keepIn K (.ref C)=true)
 (l:K.lookup f=some ⟨oc,od,.func (PySem.W.fnOf "__init__" qual (gP st) (cK st) (aL st) .none kV doc pm an cdv ct),osl⟩)(c:PySem.W.codeIn K cdv qual=true)(k:PySem.W.keepIn K (.ref f)=true):vP K mg x C qual st:=
 ⟨⟨f,_,⟨mk,a,b,kc⟩,ar0 l c k⟩,PySem.W.mg_of X G g⟩
theorem dq6{K:PySem.W.Frag}{C:Addr}(a:PySem.W.plainGet K C Str.empty=true)(b:PySem.W.hasDictIn K C=true)(c:PySem.W.plainOver K C=true)(d:PySem.W.findIn K (.ref C) "__setattr__"=some (some (.builtin "object.__setattr__"))):Cls K C:=⟨a,b,c,d⟩
theorem ao7{w:World}{K:PySem.W.Frag}{h:Heap}{mg:Str->Option Value}(X:K.In h)(G:h.Ns mainGlobals mg){d:Str}{a:Addr}{es:Array DictEntry}{ep:Nat}{kvs:List (Str×Value)}(g:PySem.W.nsIn K mainGlobals d=some (some (.ref a)))
 (l:K.lookup a=some ⟨.type "dict",none,.dict es ep,#[]⟩)(r:DRows w es.toList kvs)(nd:(kvs.map (·.1)).Nodup)(sm:(a==sysModules)=false):yV w K mg d kvs:=
 ⟨a,PySem.W.mg_of X G g,⟨_,es,ep,l,⟨rfl,rfl,rfl⟩,rfl,r⟩,nd,sm⟩
end L2
namespace TL
open PySem PySem.Spec PyProof.Rows L2
section
variable {Jn : gC} {K : PySem.W.Frag} {cn : Str → Option Addr} {E : XK}
def GD(K:PySem.W.Frag)(cn:Str->Option Addr)(kts:List (Str×T))(kvs:List (Str×Value)):Prop:=Paired (λ(p:Str×T)(q:Str×Value)=>p.1=q.1/\∃v,RelV v q.2/\∀H Z,Rep K cn H Z p.2 v []) kts kvs
theorem GD.lookup(g:GD K cn kts kvs)(z:Str):match kts.lookup z with
 |some t=>∃u v,kvs.lookup z=some u/\RelV v u/\∀H Z,Rep K cn H Z t v []
 |none=>kvs.lookup z=none:=by
 unfold GD at g;induction g with
 |nil=>rfl
 |@cons a b l1 l2 h _ ih=>
  obtain⟨x,t⟩:=a;obtain⟨y,u⟩:=b;obtain⟨rfl,v,rv,r⟩:=h;rw[List.lookup_cons,List.lookup_cons];by_cases e:(z==x)=true
  . rw[e];exact⟨u,v,rfl,rv,r⟩
  . rw[Bool.not_eq_true]at e;rw[e];exact ih
def yY(kts:List (Str×T)):T->Res T
 |.str z=>match kts.lookup z with
  |some t=>.ok t
  |none=>.no
 |_=>.no
def cp8(neg:Bool)(kts:List (Str×T)):T->Res T
 |.str z=>.ok (.bl (if neg=true then !(kts.lookup z).isSome else(kts.lookup z).isSome))
 |_=>.no
theorem dt1(g:GD K cn kts kvs)(ha:RB Jn K cn E ty a):RE Jn K cn E [] (ds0 kvs ty) (cS (yY kts) a):=λAs H Z ρ σ F Q w=>by
 unfold cS at w;refine ha As H Z ρ σ F _ ?_;cases e:a ρ with
 |ok t=>
  rw[e]at w;intro v H1 Z1 B p;simp only[Res.bind]at w;cases t with
  |str z=>
   have hz:=p.rep.str;subst hz;have gl:=g.lookup z;simp only[yY]at w;cases el:kts.lookup z with
   |none=>rw[el]at w;exact w.elim
   |some t=>rw[el]at w gl;obtain⟨u,v,hl,rv,r⟩:=gl;exact⟨z,u,v,rfl,hl,rv,WpE.val (WpE.mo F w p.mo) p.zi (r _ _)⟩
  |_=>exact w.elim
 |ex x=>rw[e]at w;exact w
 |no=>rw[e]at w;exact w
theorem di1(g:GD K cn kts kvs)(ha:RB Jn K cn E ty a):RE Jn K cn E [] (dk7 neg kvs ty) (cS (cp8 neg kts) a):=λAs H Z ρ σ F Q w=>by
 unfold cS at w;refine ha As H Z ρ σ F _ ?_;cases e:a ρ with
 |ok t=>
  rw[e]at w;intro v H1 Z1 B p;simp only[Res.bind]at w;cases t with
  |str z=>
   have hz:=p.rep.str;subst hz;have gl:=g.lookup z;have es:(kvs.lookup z).isSome=(kts.lookup z).isSome:=by
    cases el:kts.lookup z with
    |none=>rw[el]at gl;rw[show kvs.lookup z=none from gl];rfl
    |some t=>rw[el]at gl;obtain⟨u,v,hl,_⟩:=gl;rw[hl];rfl
   refine⟨z,rfl,?_⟩;rw[es];exact WpE.bl (WpE.mo F w p.mo) p.zi
  |_=>exact w.elim
 |ex x=>rw[e]at w;exact w
 |no=>rw[e]at w;exact w
def do6(n:Nat)(tabs:List (Str×(List T->Res T)))(i:Fr->Res T)(r:Fr->Res (List T)):Fr->Res T:=λρ=>(i ρ).bind λt=>match t with
 |.str z=>match tabs.lookup z with
  |some G=>(r ρ).bind λts=>tT n G ts
  |none=>.no
 |_=>.no
def di0(K:PySem.W.Frag)(cn:Str->Option Addr)(n:Nat)(tabs:List (Str×(List T->Res T))):List (Str×Sp):=tabs.map λp=>(p.1,cG K cn n p.2)
theorem lP:∀{l:List (Str×α)},l.lookup z=some a->(z,a)∈l
 |[],h=>by cases h
 |(y,b)::l,h=>by
  rw[List.lookup_cons]at h;by_cases e:(z==y)=true
  . rw[e]at h;cases h;have:z=y:=by simpa using e
    subst this;exact List.mem_cons_self
  . rw[Bool.not_eq_true]at e;rw[e]at h;exact List.mem_cons_of_mem _ (lP h)
noncomputable def oG:List T->Res T
 |[.int i]=>gate (i.natAbs.log2<1920) (.ok (.str (toString i)))
 |[.str x]=>.ok (.str x)
 |_=>.no
theorem dj6:xH K cn cu9 oG:=λE As H Z ts xs A Q zi r w=>by
 unfold oG at w;split at w
 . next i=>
   obtain⟨v,rfl,rv⟩:=r.one1;have:=rv.int;subst this;obtain⟨h,w⟩:=w.gate;exact .inl ⟨i,rfl,h,w.val zi (ag0 _)⟩
 . next x=>
   obtain⟨v,rfl,rv⟩:=r.one1;have:=rv.str;subst this;exact .inr ⟨x,rfl,w.val zi (ag0 _)⟩
 . exact w.elim
def lS:List T->Res T
 |[.non,.ty n]=>if(n="int"\/n="bool"\/n="str"\/n="list"\/n="tuple")then .ok (.bl false)else .no
 |ts=>bv3 ts
theorem dt6:xH K cn (do0 K) lS:=λE As H Z ts xs A Q zi r w=>by
 unfold lS at w;split at w
 . next n=>
   obtain⟨v,u,B,C,rfl,rfl,rv,ru⟩:=r.two2;have:=rv.non;subst this;simp only[Rep]at ru;obtain⟨rfl,rfl⟩:=ru;split at w
   . next hn=>exact .inr ⟨n,rfl,hn,WpE.bl w zi⟩
   . exact w.elim
 . exact .inl (eb4 E As H Z _ xs A Q zi r w)
inductive TupR:List T->List Value->Prop
 |nil:TupR [] []
 |str {x:Str} {t:Tok} {ts:List T} {us:List Value}:TupR ts us->TupR (.str x::ts) (.str x t::us)
 |int {x:Int} {t:Tok} {ts:List T} {us:List Value}:TupR ts us->TupR (.int x::ts) (.int x t::us)
theorem TupR.vals(h:TupR ts us):∃vs,Vals vs us/\∀H Z,Reps K cn H Z ts vs []:=by
 induction h with
 |nil=>exact⟨[],.nil,λ_ _=>Reps.nil⟩
 |@str x t ts us _ ih=>obtain⟨vs,h1,h2⟩:=ih;refine⟨.str x::vs,.cons ⟨t,rfl⟩ h1,λH Z=>?_⟩;simp only[Reps];exact⟨_,_,[],[],rfl,rfl,ag0 x,h2 H Z⟩
 |@int x t ts us _ ih=>obtain⟨vs,h1,h2⟩:=ih;refine⟨.int x::vs,.cons ⟨t,rfl⟩ h1,λH Z=>?_⟩;simp only[Reps];exact⟨_,_,[],[],rfl,rfl,kI x,h2 H Z⟩
theorem kZ(l:K.lookup a=some ⟨.type "tuple",oc,.seq us.toArray n,sl⟩)(r:TupR ts us)(hz:us.length<=sizeLine):
 (x,T.tup ts).1=(x,Value.ref a).1/\∃v,RelV v (x,Value.ref a).2/\∀H Z,Rep K cn H Z (x,T.tup ts).2 v []:=by
 obtain⟨vs,h1,h2⟩:=r.vals (K:=K) (cn:=cn);refine⟨rfl,.ref a,rfl,λH Z=>?_⟩;simp only[Rep];exact⟨a,vs,rfl,.inr ⟨_,us.toArray,n,l,rfl,rfl,by simpa using hz,by simpa using h1⟩,h2 H Z⟩
theorem jK{P:Program}{w:World}{mg:Str->Option Value}{base:Heap}{C:Addr}{m qual:Str}{st:Stmt}{N ps:List Str}{k:Nat}{d:Fr->bO}(F:uU K C m qual st)(c:Cls K C)(S:aW N ps (aL st))
 (hb:∀(kV doc pm:Value)(an:Option Addr)(cdv ct:Value)(us:List Value),us.length=ps.length->bindArgs (PySem.W.fnOf m qual (gP st) (cK st) (aL st) .none kV doc pm an cdv ct) ⟨us,[]⟩=pure (ps.zip us))
 (hbody:∀(f:Addr)(cdv:Value)(A:Around)(outer:List Env)(s:Shared)(H:Hp)(E:XK),Room k (A.deeper (envOfC qual (aL st) s.heap.objs.size f cdv))->
  ∃t,PSs (lH lN P w K mg base N qual (aL st) f cdv A outer s H E).nox (cK st) t/\RS [] K cn E t d){n:Nat}{G:List T->Res T}(hn:ps.length=n)(hG:∀ts,G ts=bN (d (cO N.length ts))){k':Nat}(hk:k+1<=k'):rQ P w K mg base k' C m (cG K cn n G):=by
 obtain⟨f,fd,M,F⟩:=F.ex;exact⟨f,fd,ps,c,M,(ad8 F S (λcdv A outer s H E hr=>hbody f cdv A outer s H E hr) hn hG).mono hk,F.binds hb⟩
theorem jU{P:Program}{w:World}{mg:Str->Option Value}{base:Heap}{x c:Str}{C:Addr}{qual:Str}{st:Stmt}{N ps:List Str}{k:Nat}{d:Fr->bO}(F:vP K mg x C qual st)(S:aW N ps (aL st))
 (hb:∀(kV doc pm:Value)(an:Option Addr)(cdv ct:Value)(us:List Value),us.length=ps.length->bindArgs (PySem.W.fnOf "__init__" qual (gP st) (cK st) (aL st) .none kV doc pm an cdv ct) ⟨us,[]⟩=pure (ps.zip us))
 (hbody:∀(f y:Addr)(cdv:Value)(A:Around)(outer:List Env)(s:Shared)(H:Hp)(E:XK),Room k (A.deeper (envOfC qual (aL st) s.heap.objs.size f cdv))->
  ∃t,PSs (lH lN P w K mg base N qual (aL st) f cdv A outer s H E).nox (cK st) t/\RS [(0,.ref y)] K cn E t d){n:Nat}{G:List T->Res T}(hn:ps.length=n+1)(hG:∀ts,G ts=jA (d (cO N.length (.ins true c [] []::ts)))):Mak P w K mg base (k+1) x C (xU K cn c n G):=by
 obtain⟨f,fd,M,F'⟩:=F.ex;exact⟨f,fd,ps,M,dy1 F' S (λy cdv A outer s H E hr=>hbody f y cdv A outer s H E hr) hn hG,F.mg,F'.binds hb⟩
end
end TL
namespace L2
open PySem PySem.Spec PyProof.Rows
theorem ct7:bootBuiltins "set"=some (.type "set"):=by decide+kernel
def aa5(ss:List Str):Nat:=(lX (λi=>ss.getD i Str.empty) ss.length).length
def be7(K:PySem.W.Frag):List V->Hp->VK->Prop:=λxs H Q=>∃p ss,xs=[.ref p]/\SqL K H p (ss.map V.str)/\ss.length<=1000/\Q (.int (aa5 ss)) H
section
variable {X : Cx}
theorem cn2(K:PySem.W.Frag)(hm:X.mg "len"=none)(hm2:X.mg "set"=none)(ha:PA X [e] t)(hc:X.calm=true:=by rfl)(hg:Gl X "len":=by rfl)(hg2:Gl X "set":=by rfl)(he:starEach [e] X.env=[(false,eval e X.env)]:=by rfl)(hK:X.K=K:=by rfl):
 PE X (.Call (.Name "len" p) [.Call (.Name "set" p2) [e] [] pos2] [] pos) (tCB (be7 K) t):=by
 subst hK;intro pins s σ H Q I h;refine wpAny_Call_Name_kw (tE I hg hm boot_len ?_);refine PyProof.Rows.callWith_builtin1 (PyProof.Rows.args_cons ?_) rfl rfl;refine wpAny_Call_Name_kw (tE I hg2 hm2 ct7 ?_);refine PyProof.Rows.callWith_type1 (bW (ha pins s σ H _ I h) λus s1 ⟨vs,H1,I1,r1,q1⟩=>?_) he rfl;obtain⟨l,ss,rfl,hq,hl,q⟩:=q1;cases r1 with
 |cons r rr=>
  cases rr;cases r;obtain⟨its,rv,pl,_⟩:=I1.list hq;have e1:its.length=ss.length:=by have:=rv.length;simpa using this.symm
  refine bi0 (val:=λi=>ss.getD i Str.empty) (I.ok.hd hc) pl.isList (λi v hv=>?_) (by rw[List.size_toArray,e1];unfold scanBound;omega) λh' tk hS kk=>PyProof.Rows.args_nil ?_
  . have hi:i<its.length:=by have:=(Array.getElem?_eq_some_iff.mp hv).1;simpa using this
    obtain⟨x,ex,rx⟩:=fR rv hi;have ev:v=its[i]:=by have:=(Array.getElem?_eq_some_iff.mp hv).2;simpa using this.symm
    rw[List.getElem?_map]at ex;cases eg:ss[i]? with
    |none=>rw[eg]at ex;cases ex
    |some z=>rw[eg]at ex;cases ex;obtain⟨t,et⟩:=rx;refine⟨t,?_⟩;rw[ev,et,List.getD_eq_getElem?_getD,eg];rfl
  . have I2:Inv X pins σ H1 {s1 with heap:=h',toks:=tk}:=I1.kept λb u eb=>kk b u (Heap.lt_size eb) eb;obtain⟨o,es,ep,tb,ho,hx,hd,_,_,hs,hf,hn⟩:=hS;refine call_len_set ho hx hd hf (by have:es.size<4096:=hs;omega) ?_;refine⟨.int (aa5 ss),H1,I2.tok _,⟨tk+1,?_⟩,q⟩;rw[hn,List.size_toArray,e1];rfl
end
end L2
namespace TL
open PySem PySem.Spec PyProof.Rows L2
section
variable {Jn : gC} {K : PySem.W.Frag} {cn : Str → Option Addr} {E : XK}
def xN:List T->Res T
 |[.lst _ ts]=>match zH ts with
  |some ss=>if ss.length<=1000 then .ok (.int (aa5 ss))else .no
  |none=>.no
 |_=>.no
theorem ck9:xH K cn (be7 K) xN:=λE As H Z ts xs A Q zi r w=>by
 unfold xN at w;split at w
 . next o ts=>
   obtain⟨v,rfl,rv⟩:=r.one1;obtain⟨a,vs,C,rfl,s,rs,_⟩:=rv.lstSq;split at w
   . next ss hs=>
     split at w
     . next hl=>
       have:=ag8 ts rs hs;subst this;exact⟨a,ss,rfl,s.sq,hl,w.val zi (kI _)⟩
     . exact w.elim
   . exact w.elim
 . exact w.elim
theorem am5:∀(l acc:List Str),(acc++l).Nodup->l.foldl sU acc=acc++l
 |[],acc,_=>by simp
 |x::l,acc,h=>by
  have hx:x∉acc:=λhx=>by rw[List.nodup_append]at h;exact h.2.2 x hx x List.mem_cons_self rfl
  have hs:sU acc x=acc++[x]:=by
   unfold sU;rw[if_neg];intro q;rw[List.any_eq_true]at q;obtain⟨y,hy,e⟩:=q;have:y=x:=by simpa using e
   subst this;exact hx hy
  rw[List.foldl_cons,hs,am5 l (acc++[x]) (by simpa using h)];simp
theorem cm0(l:List Str):(List.range l.length).map (λi=>l.getD i Str.empty)=l:=by
 apply List.ext_getElem?;intro i;by_cases h:i<l.length
 . rw[List.getElem?_map,List.getElem?_range h,List.getElem?_eq_getElem h];simp[List.getD_eq_getElem?_getD,List.getElem?_eq_getElem h]
 . rw[List.getElem?_eq_none (by simpa using h),List.getElem?_eq_none (by omega)]
theorem bk6(h:ss.Nodup):aa5 ss=ss.length:=by unfold aa5 lX;rw[cm0,am5 ss [] (by simpa using h)];simp
theorem cr5{ss:List Str}(o:Bool)(h:ss.Nodup)(hl:ss.length<=1000):xN [.lst o (ss.map .str)]=.ok (.int ss.length):=by simp only[xN,ab2,if_pos hl,bk6 h]
end
end TL
namespace TL
open PySem PySem.Spec PyProof.Rows L2
section
variable {P : Program} {w : World} {K : PySem.W.Frag} {cn : Str → Option Addr} {mg : Str → Option Value} {base : Heap} {k n : Nat}
theorem iM:kC K cn [] f:=λ_ h=>nomatch h
theorem bC(h:cn c=some C)(k:Cls K C)(n:NoAttr K C f)(r:kC K cn cs f):kC K cn (c::cs) f:=λd hd D hD=>by
 rcases List.mem_cons.mp hd with rfl|hd
 . rw[h]at hD;cases hD;exact⟨k,n⟩
 . exact r d hd D hD
theorem bf2:ar7 K cn n [] []:=λc G C h=>by cases h
theorem jR(h:cn c=some C)(r:ar7 K cn n tabs tab):ar7 K cn n ((c,G)::tabs) ((C,cG K cn n G)::tab):=λd G' D hl hD=>by
 rw[List.lookup_cons]at hl;by_cases e:(d==c)=true
 . rw[e]at hl;cases hl;have:d=c:=by simpa using e
   subst this;rw[h]at hD;cases hD;exact List.mem_cons_self
 . rw[Bool.not_eq_true]at e;rw[e]at hl;exact List.mem_cons_of_mem _ (r d G' D hl hD)
theorem by3:∀q∈([]:List (Addr×Sp)),rQ P w K mg base k q.1 m q.2:=cL
theorem jV(h:rQ P w K mg base k C m sp)(r:∀q∈tab,rQ P w K mg base k q.1 m q.2):∀q∈(C,sp)::tab,rQ P w K mg base k q.1 m q.2:=λq hq=>by
 rcases List.mem_cons.mp hq with rfl|hq
 . exact h
 . exact r q hq
end
end TL
namespace L2
open PySem PySem.Spec PyProof.Rows
theorem ez2{K:PySem.W.Frag}{h:Heap}{mg:Str->Option Value}{kvs:List (Str×Value)}{z x:Str}{u:Value}(X:K.In h)(G:h.Ns mainGlobals mg)(a:PySem.W.nsIn K mainGlobals x=some (some u))(e:kvs.lookup z=some u):kvs.lookup z=mg x:=e.trans (PySem.W.mg_of X G a).symm
end L2
namespace TL
open PySem PySem.Spec PyProof.Rows L2
theorem do9(h1:-(2^64)<i)(h2:i<2^64):mulOk i j:=.inl ⟨h1,h2⟩
theorem eb5(h1:-(2^64)<j)(h2:j<2^64):mulOk i j:=.inr (.inl ⟨h1,h2⟩)
theorem bl7(i:Int):lS [.int i,.ty "int"]=.ok (.bl true):=dw0 i
theorem dy3(i:Int):lS [.int i,.ty "bool"]=.ok (.bl false):=cr1 i
theorem cu3(i:Int):oG [.int i]=gate (i.natAbs.log2<1920) (.ok (.str (toString i))):=rfl
theorem cj4(x:Str):oG [.str x]=.ok (.str x):=rfl
theorem dy9(i j:Int):kO (.int i) (.int j)=.ok (.bl (!(i==j))):=rfl
theorem do5(i j:Str):kO (.str i) (.str j)=.ok (.bl (!(i==j))):=rfl
theorem dk6(i j:Bool):kO (.bl i) (.bl j)=.ok (.bl (!(i==j))):=rfl
end TL
namespace TL
open PySem L2
theorem cj8(h:n<=100000):(n<=sizeLine)=True:=eq_true (Nat.le_trans h (by decide))
theorem cn5(h:n<=100000):(n<sizeLine)=True:=eq_true (Nat.lt_of_le_of_lt h (by decide))
theorem jI{m:Int}(h:0<=m):∃k:Nat,m=k:=⟨m.toNat,by omega⟩
end TL
namespace TL
open PySem L2
theorem ee1(h1:0<j)(h2:j<1073741824):gQ i j:=⟨h1,h2⟩
theorem ez3(h1:0<=j)(h2:j<=1000000)(h3:i.natAbs<2^64):av1 i j:=⟨h1,h2,h3⟩
end TL
namespace L2
open PySem
theorem ed0(h:PySem.W.findIn K (.ref C) f=some none):NoAttr K C f:=h
end L2
namespace L2
open PySem PySem.Spec PyProof.Rows
section
variable {X : Cx}
end
end L2
namespace TL
open PySem L2
section
variable {K : PySem.W.Frag} {cn : Str → Option Addr}
noncomputable def ea6:T->T->Res T
 |.lst _ xs,.int k=>gate (aR xs=true/\-(2^63)<=k/\k<2^63/\xs.length*k.toNat<=2^24) (.ok (.lst true (List.replicate k.toNat xs).flatten))
 |_,_=>.no
def el4(us:List T):List T->Option (List T)
 |[.int i]=>if 0<=i/\i.toNat<us.length/\us.length<=sizeLine then some (us.eraseIdx i.toNat)else none
 |_=>none
end
end TL
namespace TL
open PySem PySem.Spec PyProof.Rows L2
section
variable {Jn : gC} {K : PySem.W.Frag} {cn : Str → Option Addr} {E : XK}
theorem es2{mv mw L:List Nat}{te:TE}{tr:TA}{a:Fr->Res T}{r:Fr->Res (List T)}(ha:RE Jn K cn E mv te a)(hr:RA Jn K cn E mw tr r)(e:mv++mw=L)(hd:(mv.all λi=>!mw.contains i)=true):RA Jn K cn E L (wI te tr) (aD a r):=e▸dn1 ha hr hd
theorem dl6{ks ls L:List Nat}{n:Nat}{g:TG}{gs:TGs}{b:T->Fr->Option Fr}{bs:List T->Fr->Option Fr}(h1:RG Jn K cn ks g b)(h2:RGs Jn K cn ls n gs bs)(e:ks++ls=L):RGs Jn K cn L (n+1) (ba9 g gs) (aY b bs):=e▸ci7 h1 h2
end
end TL
namespace TL
open PySem PySem.Spec PyProof.Rows L2
section
variable {Jn : gC} {K : PySem.W.Frag} {cn : Str → Option Addr} {E : XK}
def ek1(d:Fr->Res T):Fr->bO:=λρ=>match d ρ with
 |.ok t=>if dP t=true then .rm ρ t else .no
 |.ex x=>.ex x
 |.no=>.no
def ei4:bO->Res (T×T×T)
 |.nx ρ=>match ρ[1]?,ρ[2]? with
  |some (some a),some (some b)=>.ok (.non,a,b)
  |_,_=>.no
 |.rm ρ t=>match ρ[1]?,ρ[2]? with
  |some (some a),some (some b)=>.ok (t,a,b)
  |_,_=>.no
 |_=>.no
end
end TL
namespace L2
open PySem PySem.Spec PyProof.Rows
section
variable {X : Cx}
end
end L2
namespace TL
open PySem L2
section
variable {K : PySem.W.Frag} {cn : Str → Option Addr}
end
end TL
namespace L2
open PySem PySem.Spec PyProof.Rows
def bj2(K:PySem.W.Frag)(n:Nat):V->List V->Hp->VK->Prop:=λx vs H Q=>∃p ys y,x=.ref p/\vs=[y]/\SqL K H p ys/\∃(es:List Bool),es.length=ys.length/\(∀(j:Nat) z e,ys[j]?=some z->es[j]?=some e->EqD K H n z y e)/\Q (.int (es.countP id:Nat)) H
section
variable {X : Cx}
theorem cz6{n:Nat}(hu:X.A.units+n+1<cLine):MtR X "list.count" (bj2 X.K n):=by
 intro pins s σ H x vs v us Q I rx rv h;obtain⟨p,ys,y,rfl,rfl,hq,es,hl,he,q⟩:=h;cases rx;obtain⟨u,rfl,ru⟩:=rv.one;obtain⟨its,r,pl,hz⟩:=I.list hq;have l1:=r.length;obtain⟨f,hf,_⟩:=ar2 I r hl he;have em:its.map f=es:=by
  apply List.ext_getElem (by rw[List.length_map];omega);intro m h1 h2;rw[List.getElem_map];have hm:m<its.length:=by simpa using h1
  obtain⟨z,ez,rz⟩:=fR r hm;obtain⟨z',rz',d⟩:=hf its[m] (List.getElem_mem hm);cases rz.inj rz';exact EqD.det I n _ _ _ _ d (he m z _ ez (List.getElem?_eq_getElem h2))
 have ec:es.countP id=its.countP f:=by rw[<-em,List.countP_map];rfl
 rw[ec]at q;obtain⟨⟨oc,od,odt,osl⟩,n0,ho,hc,hd,hdt⟩:=pl;simp only at hc hd hdt;subst hc hd hdt;refine call_meets F.slot_list_count ⟨_,ho,rfl⟩ F.entry_list_count (F.args_list_count_2 _ _) (SeqAt.list_countAt p its.toArray n0 none osl u f) ⟨ho,λy hy=>?_,⟨.int (its.countP f:Nat),H,I.tok _,⟨_,rfl⟩,q⟩⟩;obtain⟨z,rz,d⟩:=hf y (by simpa using hy);exact mF I n (by show X.A.units+1+n<cLine;omega) rz ru d
theorem co3(K:PySem.W.Frag){n:Nat}{k:Nat}(hr:Room k X.A)(hn:n<=60:=by decide)(hK:X.K=K:=by rfl):MtR X "list.count" (bj2 K n):=by subst hK;exact cz6 (Nat.lt_of_le_of_lt (by omega) hr.units)
structure IsC (K:PySem.W.Frag) (C:Addr):Prop where
 ha:PySem.W.findIn K (.ref C) "__class__"=some (some (.builtin "object.__class__"))
 hn:PySem.W.specialIn K (.builtin "object.__class__") "__get__"=some (some (.builtin "getset_descriptor.__get__"))
 htk:PySem.W.takesIn K (.builtin "object.__class__")=some true
 hm:PySem.W.mroIn K C (.type "object")=some true
theorem ez5{K:PySem.W.Frag}{C:Addr}(a:PySem.W.findIn K (.ref C) "__class__"=some (some (.builtin "object.__class__")))(b:PySem.W.specialIn K (.builtin "object.__class__") "__get__"=some (some (.builtin "getset_descriptor.__get__")))(c:PySem.W.takesIn K (.builtin "object.__class__")=some true)
 (d:PySem.W.mroIn K C (.type "object")=some true):IsC K C:=⟨a,b,c,d⟩
def ew1(K:PySem.W.Frag)(C D:Addr)(b:Bool):Prop:=PySem.W.kitOne K (.ref C) (.ref D)=some b
theorem eo5{K:PySem.W.Frag}{C D:Addr}{b:Bool}(h:PySem.W.kitOne K (.ref C) (.ref D)=some b):ew1 K C D b:=h
theorem dq7{K:PySem.W.Frag}{h:Heap}{mg:Str->Option Value}(X:K.In h)(G:h.Ns mainGlobals mg){x:Str}{C:Addr}(a:PySem.W.nsIn K mainGlobals x=some (some (.ref C))):kY mg x (.ref C):=⟨_,PySem.W.mg_of X G a,rfl⟩
end
end L2
namespace TL
open PySem PySem.Spec PyProof.Rows L2
section
variable {Jn : gC} {K : PySem.W.Frag} {cn : Str → Option Addr} {E : XK}
def al6:T->List T->Res T
 |.lst _ us,[t]=>match sF t us with
  |some es=>.ok (.int (es.countP id:Nat))
  |none=>.no
 |_,_=>.no
theorem dq1:RMR K cn "list" (bj2 K cP) al6:=λE As H Z t ts x xs A B Q zi rt r w=>by
 unfold al6 at w;split at w
 . next o us t=>
   obtain⟨a,vs,C,rfl,s,rs,_⟩:=rt.lstSq;simp only[Reps]at r;obtain⟨v,r',B1,C1,rfl,rfl,ra,rfl,rfl⟩:=r;cases e:sF t us with
   |none=>rw[e]at w;exact w.elim
   |some es=>rw[e]at w;obtain⟨g1,g2⟩:=xV ra us rs e;exact⟨a,vs,v,rfl,rfl,s.sq,es,g1,g2,w.val zi (kI _)⟩
 . exact w.elim
def lV(cn:Str->Option Addr)(tabs:List (Str×Bool))(tab:List (Addr×Bool)):Prop:=∀c b C,tabs.lookup c=some b->cn c=some C->(C,b)∈tab
theorem ev5:lV cn [] []:=λ_ _ _ h=>by cases h
theorem cp2{c:Str}{C:Addr}{b:Bool}{tabs:List (Str×Bool)}{tab:List (Addr×Bool)}(h:cn c=some C)(r:lV cn tabs tab):lV cn ((c,b)::tabs) ((C,b)::tab):=λc' b' C' hl hc=>by
 rw[List.lookup_cons]at hl;by_cases e:c'=c
 . subst e;rw[h]at hc;cases hc;simp at hl;subst hl;exact List.mem_cons_self
 . rw[show(c'==c)=false from by rw[beq_eq_false_iff_ne];exact e]at hl;exact List.mem_cons_of_mem _ (r c' b' C' hl hc)
end
end TL
namespace TL
open PySem PySem.Spec PyProof.Rows L2
section
variable {Jn : gC} {K : PySem.W.Frag} {cn : Str → Option Addr} {E : XK}
def aa6:T->Option V
 |.non=>some .non
 |.bl b=>some (.bl b)
 |.int i=>some (.int i)
 |.str x=>some (.str x)
 |_=>none
theorem cx6{H:Hp}{Z:Addr->Prop}{t:T}{v u:V}{A:List Addr}(r:Rep K cn H Z t v A)(h:aa6 t=some u):v=u:=by cases t<;>simp only[aa6]at h<;>cases h<;>simp only[Rep]at r<;>exact r.1
def vF(c f:Str)(a:Fr->Res (List T)):Fr->Res T:=λρ=>(a ρ).bind λts=>match ts with
 |[t]=>match aa6 t with
  |some v=>.ok (.err c [(f,v)])
  |none=>.no
 |_=>.no
theorem df4{c f:Str}{C:Addr}{ta:TA}{a:Fr->Res (List T)}(hc:cn c=some C)(ha:uR Jn K cn E ta a):RE Jn K cn E [] (dc1 C f ta) (vF c f a):=λAs H Z ρ σ F Q w=>by
 unfold vF at w;refine ha As H Z ρ σ F _ ?_;cases e:a ρ with
 |ok ts=>
  rw[e]at w;intro vs H1 Z1 B m r1;simp only[Res.bind]at w;split at w
  . next t=>
    split at w
    . next v hv=>
      simp only[Reps]at r1;obtain⟨v',r',B1,C1,rfl,rfl,ra,rfl,rfl⟩:=r1;have ev:=cx6 ra hv;subst ev;refine⟨_,rfl,λe dx h1 h2 h3=>?_⟩;have sm:Same H1 (upd (upd H1 dx (.xd [(f,v')])) e (mP e C (some dx))):=λb u q=>by rw[bA (cU q h1),bA (cU q h2)];exact q
      refine w (.ref e) _ Z1 [] ⟨m.same.trans sm,m.zz,m.zn,λa z q=>m.zi a z (sm.free q),?_,List.nodup_nil,cL,cL⟩;simp only[Rep];exact⟨e,C,some dx,rfl,trivial,hc,cJ,.inr ⟨dx,rfl,by rw[bA h3,cJ]⟩⟩
    . exact w.elim
  . exact w.elim
 |ex x=>rw[e]at w;exact w
 |no=>rw[e]at w;exact w
def yI(c:Str):Fr->Res T:=λ_=>.ok (.err c [])
theorem dh4{c:Str}{C:Addr}(hc:cn c=some C):RE Jn K cn E [] (dl0 C) (yI c):=λAs H Z ρ σ F Q w=>λe h1=>by
 have sm:Same H (upd H e (mP e C none)):=λb u q=>by rw[bA (cU q h1)];exact q
 refine w (.ref e) _ Z [] ⟨sm,λ_ h=>h,λ_ h=>.inl h,λa z q=>F.zi a z (sm.free q),?_,List.nodup_nil,cL,cL⟩;simp only[Rep];exact⟨e,C,none,rfl,trivial,hc,cJ,.inl ⟨rfl,rfl⟩⟩
def dr8(c f:Str)(a:Fr->Res (List T)):Fr->bO:=λρ=>match a ρ with
 |.ok [t]=>match aa6 t with
  |some v=>.ex ⟨c,[(f,v)]⟩
  |none=>.no
 |.ex x=>.ex x
 |_=>.no
def pY(c:Str):Fr->bO:=λ_=>.ex ⟨c,[]⟩
theorem cs4{c:Str}{C:Addr}(hc:cn c=some C):RS Jn K cn E (bd8 C E) (pY c):=λAs H Z ρ σ F D w=>
 w C none H Z ⟨⟨λ_ _ q _=>q,λa h=>by simp at h,λ_ h=>h,λ_ h=>.inl h,λ_ h=>h⟩,hc,F.zi,.inl ⟨rfl,rfl⟩⟩
def jW(n:Nat)(G:List T->Res T)(ts:List T):Res T:=if ts.length=n then match G (frzs ts)with
 |.ok t=>if(fJ t||aR ts)=true then .ok t else .no
 |.ex x=>.ex x
 |.no=>.no else .no
theorem ae9{n:Nat}{G:List T->Res T}{As:List (List Addr)}{H H1:Hp}{Z Z1:Addr->Prop}{ts:List T}{vs:List V}{B:List Addr}{Q:VK}{EX:XK}(m:Mo H Z H1 Z1)(r1:Reps K cn H1 Z1 ts vs B)(hl:ts.length=n)
 (w:∀t,jW n G ts=.ok t->WpE K cn E As H Z [] Q (.ok t))(hno:jW n G ts≠ .no)(hx:∀x,jW n G ts=.ex x->∀C a H' Z',XPost K cn [] H1 (λa=>Z1 a\/a∈B) x C a H' Z'->EX (.ref C) a H'):cG K cn n G vs H1 Q EX:=by
 cases e:G (frzs ts)with
 |ok t=>
  by_cases hc:(fJ t||aR ts)=true
  . refine bd2 (E:=E) (As:=As) m r1 ?_;have e1:tT n G ts=.ok t:=by unfold tT;rw[if_pos hl,e];simp only;rw[if_pos hc]
    rw[e1];exact w t (by unfold jW;rw[if_pos hl,e];simp only;rw[if_pos hc])
  . exact absurd (by unfold jW;rw[if_pos hl,e];simp only;rw[if_neg hc]) hno
 |ex x=>
  refine⟨by rw[Reps.length ts r1,hl],frzs ts,(λa=>Z1 a\/a∈B),λa h=>?_,Reps.frz ts r1 (λa h=>.inl h) (λa h=>.inr h),?_⟩
  . rcases h with h|h
    . exact m.zi a h
    . obtain⟨o,q,_⟩:=Reps.dom ts r1 a h;rw[q];exact(λz=>nomatch z)
  rw[e];exact hx x (by unfold jW;rw[if_pos hl,e])
 |no=>exact absurd (by unfold jW;rw[if_pos hl,e]) hno
theorem XPost.up{As As1:List (List Addr)}{H H1 H2 H':Hp}{Z Z1 Z2 Z':Addr->Prop}{x:Exc}{C:Addr}{a:Option Addr}(m:Mo H Z H1 Z1)(sm:∀b o,H1 b=some o->H2 b=some o/\b∉As1.flatten)(p:XPost K cn As1 H2 Z2 x C a H' Z'):XPost K cn As H Z x C a H' Z1:=by have s2:Same H1 H':=λb o q=>p.ev.keep b o (sm b o q).1 (sm b o q).2;exact⟨⟨λb o q _=>s2 b o (m.same b o q),λa h=>by simp at h,m.zz,λa z=>(m.zn a z).imp_right .inr,λa q=>m.same.free (s2.free q)⟩,p.cls,λa z q=>m.zi a z (s2.free q),p.flds⟩
def cf0(n:Nat)(G:List T->Res T)(r:Fr->Res (List T)):Fr->Res T:=λρ=>(r ρ).bind λts=>jW n G ts
theorem db4{n:Nat}{G:List T->Res T}{ta:TA}{a:Fr->Res (List T)}(ha:uR Jn K cn E ta a):RE Jn K cn E [] (cz9 (cG K cn n G) E ta) (cf0 n G a):=λAs H Z ρ σ F Q w=>by
 unfold cf0 at w;refine ha As H Z ρ σ F _ ?_;cases e:a ρ with
 |ok ts=>
  rw[e]at w;intro vs H1 Z1 B m r1;simp only[Res.bind]at w;have hl:ts.length=n:=by
   by_cases h:ts.length=n
   . exact h
   . unfold jW at w;rw[if_neg h]at w;exact w.elim
  refine ae9 (E:=E) (As:=As) m r1 hl (λt q=>by rw[q]at w;exact w) (λq=>by rw[q]at w;exact w) (λx q C a H' Z' p=>?_);rw[q]at w;exact w C a H' Z1 (p.up m λb o q=>⟨q,by simp⟩)
 |ex x=>rw[e]at w;exact w
 |no=>rw[e]at w;exact w
def cg0(n:Nat)(G:List T->Res T)(cs:List Str)(k:Nat)(a:Fr->Res (List T))(ds:Fr->bO)(g:T->Fr->Fr):Fr->bO:=λρ=>match a ρ with
 |.ok ts=>(match jW n G ts with
  |.ok t=>.nx (g t ρ)
  |.ex x=>if cs.contains x.c=true then(match ds (ρ.set k (some (.err x.c x.fs)))with
   |.nx ρ'=>.nx (kills [k] ρ')
   |_=>.no)else .no
  |.no=>.no)
 |.ex x=>.ex x
 |.no=>.no
theorem dx5{n:Nat}{G:List T->Res T}{cs:List Str}{CE:Addr}{k:Nat}{ta:TA}{ts:TS}{a:Fr->Res (List T)}{ds:Fr->bO}{g:T->Fr->Fr}{gv:V->St->St}
 (hg:∀As H Z ρ σ t v B,Frm Jn K cn H Z ρ σ As->Rep K cn H Z t v B->B.Nodup->(∀b∈B,¬Z b)->(∀b∈B,b∉As.flatten)->∃As',Frm Jn K cn H Z (g t ρ) (gv v σ) As'/\∀a∈As'.flatten,a∈As.flatten\/a∈B)
 (hcs:∀c C,cs.contains c=true->cn c=some C->PySem.W.mroIn K C (.ref CE)=some true)(hJ:sM Jn k=true)(ha:uR Jn K cn E ta a)(hs:RS Jn K cn E ts ds):RS Jn K cn E (dj5 (cG K cn n G) K CE k ta ts gv) (cg0 n G cs k a ds g):=λAs H Z ρ σ F D w=>by
 unfold cg0 at w;refine ha As H Z ρ σ F _ ?_;cases e:a ρ with
 |ok us=>
  rw[e]at w;intro vs H1 Z1 B m r1;simp only at w;have hl:us.length=n:=by
   by_cases h:us.length=n
   . exact h
   . have:jW n G us=.no:=by unfold jW;rw[if_neg h]
     rw[this]at w;exact w.elim
  refine ae9 (E:=E) (As:=As) m r1 hl (λt q=>?_) (λq=>by rw[q]at w;exact w) (λx q C a H' Z' p=>?_)
  . rw[q]at w;intro v H2 Z2 C p;obtain⟨As',F',h'⟩:=hg As H2 Z2 ρ σ t v C (F.mo p.mo) p.rep p.nd p.bz (λb hb hA=>by
     obtain⟨o,e1,_⟩:=F.sl.dom b hA;rcases p.bn b hb with q|⟨i,hi,_⟩
     . rw[e1]at q;cases q
     . cases hi)
    refine w _ As' H2 Z2 F' ⟨λa o h n=>p.same a o h,λa ha=>?_,p.zz,λa h=>(p.zn a h).imp_right .inr,λa h=>p.same.free h⟩;rcases h' a ha with q|q
    . exact .inl q
    . rcases p.bn a q with q|⟨i,hi,_⟩
      . exact .inr q
      . cases hi
  . rw[q]at w;simp only at w;split at w
    . next hc=>
      have s1:Same H1 H':=λb o q=>p.ev.keep b o q (by simp);have m2:Mo H1 Z1 H' Z1:=⟨s1,λ_ h=>h,λ_ h=>.inl h,λa z q=>m.zi a z (s1.free q)⟩;refine⟨C,rfl,hcs _ _ hc p.cls,λea hea=>?_⟩;have s2:Same H' (upd H' ea (mP ea C a)):=λb u q=>by rw[bA (cU q hea)];exact q
      have m3:Mo H Z (upd H' ea (mP ea C a)) Z1:=(m.trans m2).trans ⟨s2,λ_ h=>h,λ_ h=>.inl h,λa z q=>m2.zi a z (s2.free q)⟩;have re:Rep K cn (upd H' ea (mP ea C a)) Z1 (.err x.c x.fs) (.ref ea) []:=by simp only[Rep];exact⟨ea,C,a,rfl,trivial,p.cls,cJ,p.flds.imp_right λ⟨d,q1,q2⟩=>⟨d,q1,s2 _ _ q2⟩⟩
      have F2:=(F.mo m3).set re List.nodup_nil cL k (λb hb=>by cases hb) hJ;refine hs _ _ _ _ _ F2 (dS D k) ?_;have ev0:Ev As H Z (As.set k []) (upd H' ea (mP ea C a)) Z1:=⟨λb o q _=>m3.same b o q,λb hb=>.inl ((eD hb).elim (λz=>nomatch z) id),m3.zz,λb z=>(m3.zn b z).imp_right .inr,λb q=>m3.same.free q⟩;split at w
      . next ρ' ed=>
        rw[ed];intro σ' As' H3 Z3 F3 ev3;refine w _ _ H3 Z3 (F3.clr [k] (by unfold vU;simp[hJ])) ?_;refine(ev0.trans ev3).trans ⟨λ_ _ q _=>q,λb hb=>.inl (iC hb),λ_ h=>h,λ_ h=>.inl h,λ_ h=>h⟩
      . exact w.elim
    . exact w.elim
 |ex x=>rw[e]at w;exact w
 |no=>rw[e]at w;exact w
theorem dt4(i:Nat)(hJ:sM Jn i=true):∀As H Z ρ σ t v B,Frm Jn K cn H Z ρ σ As->Rep K cn H Z t v B->B.Nodup->(∀b∈B,¬Z b)->(∀b∈B,b∉As.flatten)->∃As',Frm Jn K cn H Z ((λt ρ=>ρ.set i (some t):T->Fr->Fr) t ρ) ((λv σ=>σ.set i (some v):V->St->St) v σ) As'/\∀a∈As'.flatten,a∈As.flatten\/a∈B:=
 λAs _ _ _ _ _ _ B F r nd bz bo=>⟨As.set i B,F.set r nd bz i (λb hb hA=>absurd hA (bo b hb)) hJ,λ_ h=>(eD h).symm⟩
def cM(tabs:List (Str×Bool)):T->Res T
 |.err c _=>match tabs.lookup c with
  |some b=>.ok (.bl b)
  |none=>.no
 |.non=>.ok (.bl false)
 |_=>.no
theorem dz4{tabs:List (Str×Bool)}{tab:List (Addr×Bool)}{D:V}{ta:TE}{d:Fr->Res T}(hT:lV cn tabs tab)(ha:RB Jn K cn E ta d):RE Jn K cn E [] (tCB (cy9 tab D) (wI ta (wI (tC D) ac4))) (cS (cM tabs) d):=λAs H Z ρ σ F Q w=>by
 unfold cS at w;refine ha As H Z ρ σ F _ ?_;cases e:d ρ with
 |ok t=>
  rw[e]at w;intro v H1 Z1 B p;simp only[Res.bind,cM]at w;split at w
  . next c fs=>
    split at w
    . next b hb=>
      obtain⟨q,C,dx,rfl,_,hC,h1,h2⟩:=(by have:=p.rep;simpa only[Rep]using this:∃a C dx,v=.ref a/\B=[]/\cn c=some C/\H1 a=some (mP a C dx)/\af7 H1 dx fs);exact⟨.ref q,rfl,.inr ⟨q,C,dx,fs,b,rfl,h1,h2,hT c b C hb hC,w (.bl b) H1 Z1 [] ⟨p.same,p.zz,p.zn,p.zi,⟨rfl,rfl⟩,List.nodup_nil,cL,cL⟩⟩⟩
    . exact w.elim
  . have:v=.non:=by have:=p.rep;simp only[Rep]at this;exact this.1
    subst this;exact⟨.non,rfl,.inl ⟨rfl,w (.bl false) H1 Z1 [] ⟨p.same,p.zz,p.zn,p.zi,⟨rfl,rfl⟩,List.nodup_nil,cL,cL⟩⟩⟩
  . exact w.elim
 |ex x=>rw[e]at w;exact w
 |no=>rw[e]at w;exact w
def vT:V->Res T
 |.non=>.ok .non
 |.bl b=>.ok (.bl b)
 |.int i=>.ok (.int i)
 |.str x=>.ok (.str x)
 |_=>.no
def jC(cs:List Str)(f:Str):T->Res T
 |.err c fs=>if cs.contains c=true then match fs.lookup f with
  |some v=>vT v
  |none=>.no else .no
 |_=>.no
theorem dm4{cs:List Str}{f:Str}{ta:TE}{d:Fr->Res T}(hF:∀c C,cs.contains c=true->cn c=some C->ErrF K C f)(ha:RB Jn K cn E ta d):RE Jn K cn E [] (dd1 K f ta) (cS (jC cs f) d):=λAs H Z ρ σ F Q w=>by
 unfold cS at w;refine ha As H Z ρ σ F _ ?_;cases e:d ρ with
 |ok t=>
  rw[e]at w;intro v H1 Z1 B p;simp only[Res.bind,jC]at w;split at w
  . next c fs=>
    split at w
    . next hc=>
      split at w
      . next u hu=>
        obtain⟨q,C,dx,rfl,_,hC,h1,h2⟩:=(by have:=p.rep;simpa only[Rep]using this:∃a C dx,v=.ref a/\B=[]/\cn c=some C/\H1 a=some (mP a C dx)/\af7 H1 dx fs);rcases h2 with⟨_,h2⟩|⟨d',h2,h3⟩
        . subst h2;cases hu
        . subst h2;refine⟨q,C,d',fs,u,rfl,h1,h3,hF c C hc hC,hu,?_⟩;cases u<;>first|exact w.elim|exact w _ H1 Z1 [] ⟨p.same,p.zz,p.zn,p.zi,⟨rfl,rfl⟩,List.nodup_nil,cL,cL⟩
      . exact w.elim
    . exact w.elim
  . exact w.elim
 |ex x=>rw[e]at w;exact w
 |no=>rw[e]at w;exact w
end
end TL
namespace L2
open PySem PySem.Spec PyProof.Rows PySem.W
structure zL (K:PySem.W.Frag) (mg:Str->Option Value) (x:Str) (C:Addr) (f qual:Str) (st:Stmt):Prop where
 flds:ErrF K C f
 glob:mg x=some (.ref C)
 kp:keepIn K (.ref C)=true
 ex:∃g fd,findIn K (.ref C) "__init__"=some (some (.ref g))/\isFn K (.ref g)=true/\Fun K "__init__" qual st g fd
theorem sC{P:Program}{w:World}{K:PySem.W.Frag}{mg:Str->Option Value}{base:Heap}{x:Str}{C:Addr}{f qual b:Str}{st:Stmt}{p1 p2 p3 p4:Pos}(M:zL K mg x C f qual st)(S:aW [("self":Str),b] [("self":Str),b] (aL st))
 (hbd:∀(kV doc pm:Value)(an:Option Addr)(cdv ct:Value)(us:List Value),us.length=[("self":Str),b].length->bindArgs (PySem.W.fnOf "__init__" qual (gP st) (cK st) (aL st) .none kV doc pm an cdv ct) ⟨us,[]⟩=pure ([("self":Str),b].zip us))
 (hb:cK st=[.Assign [.Attribute (.Name "self" p1) f p2] (.Name b p3) p4]:=by rfl)(hsw:∀env,swapsWith (.Name b p3) (some (.Attribute (.Name "self" p1) f p2)) p4.line env=pure false:=by intro _;rfl)(hd:(b==("__debug__":Str))=false:=by decide)(hc:(b==("__classdict__":Str))=false:=by decide):vN P w K mg base x C f:=by
 obtain⟨g,fd,h1,h2,F⟩:=M.ex;exact⟨M.flds,M.glob,M.kp,g,fd,b,h1,h2,cs5 F M.flds S hb hd hc hsw,F.binds hbd⟩
def bq8(K:PySem.W.Frag)(C:Addr):Bool:=match clsIn K C with
 |some cd=>au5 cd.mro&&cd.mro.contains (.type "object")&&cd.mro.contains (.type "BaseException")
 |none=>false
theorem ac7{K:PySem.W.Frag}{C:Addr}(a:zP K C=true)(b:bq8 K C=true)(c:findIn K (.ref C) "__getattribute__"=some (some (.builtin "BaseException.__getattribute__")))(d:findIn K (.ref C) "__getattr__"=some none)(e:findIn K (.ref C) "__class__"=some (some (.builtin "object.__class__")))
 (f:specialIn K (.builtin "object.__class__") "__get__"=some (some (.builtin "getset_descriptor.__get__")))(g:takesIn K (.builtin "object.__class__")=some true)(h:mroIn K C (.type "object")=some true):ErrG K C:=by
 refine⟨a,?_,c,d,e,f,g,h⟩;unfold bq8 at b;split at b
 . rename_i cd q;simp only[Bool.and_eq_true]at b;exact⟨cd,q,b.1.1,b.1.2,b.2⟩
 . cases b
theorem df3{K:PySem.W.Frag}{h:Heap}{mg:Str->Option Value}(X:K.In h)(G:h.Ns mainGlobals mg){x:Str}{C g:Addr}{f qual:Str}{st:Stmt}{oc:Value}{od an:Option Addr}{osl:Array (Option Value)}{kV doc pm cdv ct:Value}(gl:nsIn K mainGlobals x=some (some (.ref C)))(eg:ErrG K C)
 (sa:findIn K (.ref C) "__setattr__"=some (some (.builtin "object.__setattr__")))(no:findIn K (.ref C) f=some none)(kc:keepIn K (.ref C)=true)(a:findIn K (.ref C) "__init__"=some (some (.ref g)))(b:isFn K (.ref g)=true)
 (l:K.lookup g=some ⟨oc,od,.func (PySem.W.fnOf "__init__" qual (gP st) (cK st) (aL st) .none kV doc pm an cdv ct),osl⟩)(c:codeIn K cdv qual=true)(k:keepIn K (.ref g)=true):zL K mg x C f qual st:=
 ⟨⟨eg,sa,no⟩,mg_of X G gl,kc,g,_,a,b,ar0 l c k⟩
theorem di4{K:PySem.W.Frag}{h:Heap}{mg:Str->Option Value}(X:K.In h)(G:h.Ns mainGlobals mg){x:Str}{C:Addr}(gl:nsIn K mainGlobals x=some (some (.ref C)))(eg:ErrG K C)(kc:keepIn K (.ref C)=true)(e:excIn K C veB "ValueError.__new__"=true):zN K mg x C:=⟨eg,mg_of X G gl,kc,e⟩
theorem dl3{K:PySem.W.Frag}{h:Heap}{mg:Str->Option Value}(X:K.In h)(G:h.Ns mainGlobals mg){x:Str}{C:Addr}(gl:nsIn K mainGlobals x=some (some (.ref C)))(b:mroIn K C (.type "BaseException")=some true)(t:typeIn K (.ref C)=some (.type "type")):cj0 K mg x C:=⟨mg_of X G gl,b,t⟩
def nU(K:PySem.W.Frag)(C:Addr)(D:V)(b:Bool):Prop:=kitOne K (.ref C) (az1 D)=some b
def mY(K:PySem.W.Frag)(D:V):Prop:=kitOne K (.type "NoneType") (az1 D)=some false
def oC(K:PySem.W.Frag)(C D:Addr):Prop:=mroIn K C (.ref D)=some true
theorem ds4{K:PySem.W.Frag}{C:Addr}{D:V}{b:Bool}(h:kitOne K (.ref C) (az1 D)=some b):nU K C D b:=h
theorem de2{K:PySem.W.Frag}{D:V}(h:kitOne K (.type "NoneType") (az1 D)=some false):mY K D:=h
theorem cq8{K:PySem.W.Frag}{C D:Addr}(h:mroIn K C (.ref D)=some true):oC K C D:=h
theorem ej5{K:PySem.W.Frag}{D:V}:∀q∈([]:List (Addr×Bool)),rK K q.1 D q.2:=λ_ h=>nomatch h
theorem ed4{K:PySem.W.Frag}{C:Addr}{D:V}{b:Bool}{tab:List (Addr×Bool)}(g:ErrG K C)(k:nU K C D b)(h:∀q∈tab,rK K q.1 D q.2):∀q∈(C,b)::tab,rK K q.1 D q.2:=λq hq=>by
 rcases List.mem_cons.mp hq with rfl|hq
 . exact⟨g,k⟩
 . exact h q hq
theorem iR{K:PySem.W.Frag}{C:Addr}(k:mY K (.ref C)):tJ K (.ref C):=⟨rfl,k⟩
theorem df9{K:PySem.W.Frag}{n:String}(k:mY K (.ty n)):tJ K (.ty n):=⟨rfl,k⟩
theorem bw0:bootBuiltins "ValueError"=some (.type "ValueError"):=by decide+kernel
end L2
namespace TL
open PySem PySem.Spec PyProof.Rows L2
section
variable {K : PySem.W.Frag} {cn : Str → Option Addr}
theorem pX{P:Addr->Prop}:∀(c:Str)(C:Addr),([]:List Str).contains c=true->cn c=some C->P C:=λ_ _ h=>nomatch h
theorem eC{P:Addr->Prop}{c₀:Str}{C₀:Addr}{cs:List Str}(hc:cn c₀=some C₀)(p:P C₀)(r:∀(c:Str)(C:Addr),cs.contains c=true->cn c=some C->P C):∀(c:Str)(C:Addr),(c₀::cs).contains c=true->cn c=some C->P C:=λc C h e=>by
 rw[List.contains_cons,Bool.or_eq_true]at h;rcases h with h|h
 . have:c=c₀:=by simpa using h
   subst this;rw[hc]at e;cases e;exact p
 . exact r c C h e
theorem jS{P:Program}{w:World}{mg:Str->Option Value}{base:Heap}{x:Str}{st:Stmt}{N ps:List Str}{k:Nat}{d:Fr->bO}(F:fM K mg x st)(S:aW N ps (aL st))
 (hb:∀(kV doc pm:Value)(an:Option Addr)(cdv ct:Value)(us:List Value),us.length=ps.length->bindArgs (PySem.W.fnOf x x (gP st) (cK st) (aL st) .none kV doc pm an cdv ct) ⟨us,[]⟩=pure (ps.zip us))
 (hbody:∀(f:Addr)(cdv:Value)(A:Around)(outer:List Env)(s:Shared)(H:Hp)(E:XK),Room k (A.deeper (envOfC x (aL st) s.heap.objs.size f cdv))->
  ∃t,PSs (lH (zV P w) P w K mg base N x (aL st) f cdv A outer s H E) (cK st) t/\RS [] K cn E t d){n:Nat}{G:List T->Res T}(hn:ps.length=n)(hG:∀ts,G ts=bN (d (cO N.length ts))):rW P w K mg base (k+1) x ps (cG K cn n G):=by
 obtain⟨f,fd,F,hm⟩:=F.ex;exact⟨f,fd,cu6 F S (λcdv A outer s H E hr=>hbody f cdv A outer s H E hr) hn hG,hm,F.kp,F.binds hb⟩
end
end TL
namespace L2
open PySem PySem.Spec PyProof.Rows
def bp8(tab:List (Str×Sp))(E:XK)(ty:TE)(ta:TA):TE:=λσ H Q=>ty σ H λy H1=>∃z sp,y=.str z/\(z,sp)∈tab/\ta σ H1 λvs H2=>sp vs H2 Q E
structure bt8 (P:Program) (w:World) (K:PySem.W.Frag) (mg:Str->Option Value) (base:Heap) (k:Nat) (d:Str) (tab:List (Str×Sp)):Prop where
 ex:∃kvs,yV w K mg d kvs/\∀q∈tab,∃f fd ps,kvs.lookup q.1=some (.ref f)/\FnOk P w K mg base (zV P w) k f fd ps q.2/\Binds K fd ps []/\PySem.W.keepIn K (.ref f)=true
theorem cb2{X:Cx}{E:XK}{k:Nat}{d:Str}{tab:List (Str×Sp)}{i e:Expr}{es:List Expr}{ty:TE}{t:TA}{p p2 pos:Pos}(hD:bt8 X.prog X.w X.K X.mg X.base k d tab)(xe:vM (zV X.prog X.w) X E)(hr:Room k X.A)(hi:PE X i ty)(ha:PA X (e::es) t)(hg:Gl X d:=by rfl)(hdb:(d==("__debug__":Str))=false:=by decide)(hs:cq0 i:=by intro _ _;rfl)
 (hst:starEach (e::es) X.env=(false,eval e X.env)::starEach es X.env:=by rfl)(hpl:(backTo pos (starEach es X.env)).any (·.1)=false:=by rfl):PE X (.Call (.Subscript (.Name d p) i p2) (e::es) [] pos) (bp8 tab E ty t):=by
 obtain⟨kvs,D,hT⟩:=hD.ex;intro pins s σ H Q I h;refine Call_ (bf7 D hi hg hdb hs I h λy H1 ⟨z,sp,ey,hq,q⟩=>?_);obtain⟨f,fd,ps,el,F,hb,hk⟩:=hT _ hq;refine⟨z,.ref f,ey,el,λs1 I1=>?_⟩;refine PySem.W.callWith_K (first:=[]) (h₀:=X.base) I.ok.mod.kin hk (bW (ha pins s1 σ H1 _ I1 q) λus s2 ⟨vs,H2,I2,r,q2⟩=>⟨I2.kIn,?_⟩) hst hpl;exact at5 (us:=us) (vs:=vs) F hr hb .nil xe I2 r (by rw[List.append_nil];exact q2)
end L2
namespace TL
open PySem PySem.Spec PyProof.Rows L2
section
variable {P : Program} {w : World} {mg : Str → Option Value} {base : Heap} {k : Nat} {Jn : gC} {K : PySem.W.Frag} {cn : Str → Option Addr} {E : XK}
def MDX(P:Program)(w:World)(K:PySem.W.Frag)(mg:Str->Option Value)(base:Heap)(k:Nat)(kvs:List (Str×Value))(tab:List (Str×Sp)):Prop:=∀q∈tab,∃f fd ps,kvs.lookup q.1=some (.ref f)/\FnOk P w K mg base (zV P w) k f fd ps q.2/\Binds K fd ps []/\PySem.W.keepIn K (.ref f)=true
theorem ct2{kvs:List (Str×Value)}:MDX P w K mg base k kvs []:=cL
theorem jQ{kvs:List (Str×Value)}{z x:Str}{ps:List Str}{sp:Sp}{j:Nat}{tab:List (Str×Sp)}(e:kvs.lookup z=mg x)(d:rW P w K mg base j x ps sp)(h:j<=k)(r:MDX P w K mg base k kvs tab):MDX P w K mg base k kvs ((z,sp)::tab):=λq hq=>by
 rcases List.mem_cons.mp hq with rfl|hq
 . obtain⟨f,fd,F,hm,hk,hb⟩:=d.ex;exact⟨f,fd,ps,e.trans hm,F.mono h,hb,hk⟩
 . exact r q hq
theorem cf6{d:Str}{kvs:List (Str×Value)}{tab:List (Str×Sp)}(D:yV w K mg d kvs)(r:MDX P w K mg base k kvs tab):bt8 P w K mg base k d tab:=⟨kvs,D,r⟩
def at2(n:Nat)(tabs:List (Str×(List T->Res T)))(i:Fr->Res T)(r:Fr->Res (List T)):Fr->Res T:=λρ=>(i ρ).bind λy=>match y with
 |.str z=>match tabs.lookup z with
  |some G=>(r ρ).bind λts=>jW n G ts
  |none=>.no
 |_=>.no
theorem cw1{n:Nat}{tabs:List (Str×(List T->Res T))}{ty:TE}{ta:TA}{i:Fr->Res T}{a:Fr->Res (List T)}(hi:RB Jn K cn E ty i)(ha:uR Jn K cn E ta a):RE Jn K cn E [] (bp8 (di0 K cn n tabs) E ty ta) (at2 n tabs i a):=λAs H Z ρ σ F Q w=>by
 unfold at2 at w;refine hi As H Z ρ σ F _ ?_;cases e:i ρ with
 |ok t=>
  rw[e]at w;intro v H1 Z1 B p;simp only[Res.bind]at w;cases t with
  |str z=>
   have hz:=p.rep.str;subst hz;simp only at w;cases el:tabs.lookup z with
   |none=>rw[el]at w;exact w.elim
   |some G=>rw[el]at w;refine⟨z,cG K cn n G,rfl,List.mem_map.mpr ⟨(z,G),lP el,rfl⟩,?_⟩;refine db4 ha As H1 Z1 ρ σ (F.mo p.mo) Q (WpE.mo F ?_ p.mo);exact w
  |_=>exact w.elim
 |ex x=>rw[e]at w;exact w
 |no=>rw[e]at w;exact w
def eo4(kvs:List (Str×Str)):T->T->Res T
 |.str k,.str z=>.ok (.str ((kvs.lookup k).getD z))
 |_,_=>.no
def yN(kvs:List (Str×Str))(a d:Fr->Res T):Fr->Res T:=aE (eo4 kvs) a d
theorem bo8{kvs:List (Str×Str)}{td ty tx:TE}{a d:Fr->Res T}(ha:RB Jn K cn E ty a)(hd:RB Jn K cn E tx d){As:List (List Addr)}{H:Hp}{Z:Addr->Prop}{ρ:Fr}{σ:St}{q:Addr}{Q:VK}(F:Frm Jn K cn H Z ρ σ As)(hq:H q=some (.dK (nO kvs)))
 (w:WpE K cn E As H Z [] Q (yN kvs a d ρ)):ty σ H λy H2=>tx σ H2 λz H3=>∃k,H3 q=some (.dK (nO kvs))/\y=.str k/\Q (((kvs.lookup k).map V.str).getD z) H3:=by
 unfold yN aE at w;refine ha As H Z ρ σ F _ ?_;cases e:a ρ with
 |ok t=>
  rw[e]at w;intro v H1 Z1 B p;refine hd As H1 Z1 ρ σ (F.mo p.mo) _ ?_;simp only[Res.bind]at w;cases e2:d ρ with
  |ok t2=>
   rw[e2]at w;intro v2 H2 Z2 B2 p2;simp only at w;cases t with
   |str k=>
    cases t2 with
    |str z=>
     have h1:=p.rep.str;have h2:=p2.rep.str;subst h1 h2;refine⟨k,p2.same _ _ (p.same _ _ hq),rfl,?_⟩;have m:=p.mo.trans p2.mo;have:=w (.str ((kvs.lookup k).getD z)) H2 Z2 [] ⟨m.same,m.zz,m.zn,m.zi,by simp[Rep],List.nodup_nil,cL,cL⟩;cases e3:kvs.lookup k with
     |none=>rw[e3]at this;exact this
     |some x=>rw[e3]at this;exact this
    |_=>exact w.elim
   |_=>exact w.elim
  |ex x=>rw[e2]at w;exact WpX.ev w p.mo.ev
  |no=>rw[e2]at w;exact w
 |ex x=>rw[e]at w;exact w
 |no=>rw[e]at w;exact w
theorem cm7{kvs:List (Str×Str)}{ty tx:TE}{a d:Fr->Res T}(ha:RB Jn K cn E ty a)(hd:RB Jn K cn E tx d):RE Jn K cn E [] (bx3 (bo4 kvs) ty tx) (yN kvs a d):=λAs H Z ρ σ F Q w p hp=>
 have m:=Mo.new (.dK (nO kvs)) hp F.zi;have e:L2.upd H p (.dK (nO kvs)) p=some (.dK (nO kvs)):=by unfold L2.upd;exact if_pos rfl
 ⟨p,kvs,rfl,e,bo8 (td:=xA 0) ha hd (F.mo m) e (WpE.mo F w m)⟩
def bz1(i j:Nat)(kvs:List (Str×Str))(a d:Fr->Res T):Fr->bO:=λρ=>if i<ρ.length then match yN kvs a d (ρ.set i none)with
 |.ok t=>.nx ((ρ.set i none).set j (some t))
 |.ex x=>.ex x
 |.no=>.no
 else .no
theorem Slots.len:∀{H:Hp}{Z:Addr->Prop}{ρ:Fr}{σ:St}{As:List (List Addr)},Slots K cn H Z ρ σ As->σ.length=ρ.length
 |_,_,[],_,_,h=>by simp only[Slots]at h;rw[h.1];rfl
 |_,_,_::_,_,_,h=>by simp only[Slots]at h;obtain⟨w,σ',A,As',rfl,rfl,_,h2⟩:=h;rw[List.length_cons,List.length_cons,Slots.len h2]
theorem dx3{i j:Nat}{kvs:List (Str×Str)}{ty tx:TE}{a d:Fr->Res T}{u:TS}{b:Fr->bO}(ha:RB Jn K cn E ty a)(hd:RB Jn K cn E tx d)(hu:RS Jn K cn E u b)(hi:sM Jn i=true:=by rfl)(hj:sM Jn j=true:=by rfl):
 RS Jn K cn E (bx8 (ad7 (bo4 kvs) (wG i)) (bx8 (ad7 (bx3 (xA i) ty tx) (wG j)) u)) (aQ (bz1 i j kvs a d) b):=λAs H Z ρ σ F D w p hp=>by
 have m:=Mo.new (.dK (nO kvs)) hp F.zi;have e:L2.upd H p (.dK (nO kvs)) p=some (.dK (nO kvs)):=by unfold L2.upd;exact if_pos rfl
 unfold aQ bz1 at w;by_cases hl:i<ρ.length
 . rw[if_pos hl]at w;have hz:i<σ.length:=by rw[F.sl.len];exact hl
   have F1:=F.mo m;have F2:Frm Jn K cn (L2.upd H p (.dK (nO kvs))) Z (ρ.set i none) (σ.set i (some (.ref p))) (As.set i []):=
    ⟨Slots.kill2 _ i F1.sl,mM List.nodup_nil F1.nd cL,λa h=>F1.nz a ((eD h).resolve_left (λz=>nomatch z)),F1.zi,aa2 hi _ F1.pn⟩
   have ev:Ev As H Z (As.set i []) (L2.upd H p (.dK (nO kvs))) Z:=m.ev.trans ⟨λ_ _ h _=>h,λa h=>.inl ((eD h).resolve_left (λz=>nomatch z)),λ_ h=>h,λ_ h=>.inl h,λ_ h=>h⟩;refine⟨.ref p,by rw[List.getElem?_set_self hz],p,kvs,rfl,e,bo8 (td:=xA 0) (Q:=λx H1=>wG j x (σ.set i (some (.ref p))) H1 (u D)) ha hd F2 e ?_⟩;cases e2:yN kvs a d (ρ.set i none)with
   |ok t=>
    rw[e2]at w;intro v H1 Z1 B q;refine am7 j hj (As.set i []) H1 Z1 (ρ.set i none) _ t v B (F2.mo q.mo) q.rep q.nd q.bz (λx hx hA=>?_) _ _ rfl λσ' As' F' o' _ _=>?_
    . rcases q.bn x hx with z|⟨_,h,_⟩
      . obtain⟨o,ho,_⟩:=F2.sl.dom x hA;rw[ho]at z;cases z
      . cases h
    . refine hu As' H1 Z1 _ σ' F' D (Wp.ev w (ev.trans ⟨λa o h _=>q.same a o h,λa ha=>?_,q.zz,λa h=>(q.zn a h).imp_right .inr,λa h=>q.same.free h⟩));rcases o' a ha with z|z
      . exact .inl z
      . rcases q.bn a z with z|⟨_,h,_⟩
        . exact .inr z
        . cases h
   |ex x=>rw[e2]at w;exact WpX.ev w ev
   |no=>rw[e2]at w;exact w.elim
 . rw[if_neg hl]at w;exact w.elim
theorem isEs_zip{D:V}{cs:List Addr}{bs:List Bool}(h:∀c∈cs,ErrG K c)(k:∀q∈cs.zip bs,nU K q.1 D q.2):∀q∈cs.zip bs,rK K q.1 D q.2:=λq hq=>⟨h q.1 (List.of_mem_zip hq).1,k q hq⟩
def CnL(cn:Str->Option Addr):List Str->List Addr->Prop
 |[],_=>True
 |_::_,[]=>False
 |n::ns,c::cs=>cn n=some c/\CnL cn ns cs
theorem tabO_zip:∀{ns:List Str}{cs:List Addr}{bs:List Bool},CnL cn ns cs->lV cn (ns.zip bs) (cs.zip bs)
 |_::_,_::_,_::_,h=>cp2 h.1 (tabO_zip h.2)
 |[],_,_,_=>λ_ _ _ h=>by cases h
 |_::_,_,[],_=>λ_ _ _ h=>by cases h
 |_::_,[],_::_,h=>h.elim
end
end TL

set_option maxHeartbeats 4000000
open TL
local macro_rules | `(tactic| walk_at "gt") => `(tactic| first | assumption | exact do9 (by decide) (by decide) | exact eb5 (by decide) (by decide) | exact ee1 (by decide) (by decide) | exact ez3 (by decide) (by decide) (by decide) | decide | omega | (refine And.intro ?_ ?_; omega; omega))
local macro_rules | `(tactic| walk_at "ev") => `(tactic| simp (disch := walk_at "gt") only [ag4,ej2,ej1,eq2,el1,cj8,cn5,aQ,bH,bD,dA,es1,pI,bM,dz9,ei0,aB,dC,bG,aE,cS,tH,eX,ep5,bs1,dIf,bF,kT,kM,by2,uX,cR,pH,aD,aK,bP,bT,dBM,oQ,gB,fH,kK,kG,eW,cT,vD,er5,er0,kills,aJ,eE,aY,eS,bN,cO,oM,jB,frz,frzs,dP,aR,fJ,fS,cN,at0,mJ,wN,sR,dN,ay0,xE,xC,ei5,mV,zF,af6,GoW,db0,da9,dp7,dh6,dh7,dy8,dt9,dv8,db6,dr3,dc8,cz3,em1,es3,er3,ei2,ec3,ed3,el2,ew0,ek2,eo0,cn7,ey3,em2,ee3,eq3,eb3,ep0,et3,ef5,ej4,eu5,eg2,eg1,ew2,ec1,cz2,dw0,cr1,bu1,df6,dm7,dg0,dz0,dw9,dn8,by7,eu2,ex1,ee0,ea4,ew3,ef3,eh2,ex2,ej0,eq1,ec0,ed1,cx5,
 bl7,dy3,cu3,cj4,dy9,do5,dk6,cS,yY,cp8,bw3,et4,ay3,eq0,dq5,jA,ao2,es4,dr8,pY,vF,yI,cg0,cf0,jW,at2,aa6,ev4,ed5,ek5,el4,ek1,ei4,tQ,bn3,tT,do6,List.length_map,Option.map_some,Option.isSome_some,List.isEmpty_cons,List.isEmpty_nil,Option.isSome_none,List.map_cons,List.map_nil,List.length_cons,List.length_nil,List.replicate_succ,List.replicate_zero,List.cons_append,List.nil_append,List.set_cons_zero,List.set_cons_succ,List.getElem?_cons_zero,List.getElem?_cons_succ,Nat.reduceAdd,Nat.reduceSub,Bool.not_true,Bool.not_false,Bool.and_true,Bool.true_and,Bool.and_false,Bool.false_and,Bool.or_true,Bool.true_or,Bool.or_false,Bool.false_or,if_true,if_false,Bool.false_eq_true,reduceIte,reduceCtorEq,decide_true,decide_false,and_self,and_true,true_and,Bool.and_self, *])
namespace Nk13
open PySem L2 TL
noncomputable section
def dW(i:Nat):Stmt:=PySem.Challenge.pw_inkyears_k13_sayings_refused.main.body.getD i (.Pass ⟨0,0,0,0⟩)
abbrev kt_NUMBERS:List (Str×T):=[("dark",.tup [.int 0,.int 1000000]),("place",.tup [.int 1,.int 100]),("year",.tup [.int (-4000),.int 4000]),("later",.tup [.int 0,.int 300]),("gap",.tup [.int (-300),.int 300])]
abbrev kt_PARTS:List (Str×T):=[("ink",.tup [.str "letter",.str "ink",.str "dark",.str "dark"]),("reign",.tup [.str "letter",.str "reign",.str "place"]),("under",.tup [.str "letter",.str "reign"]),("between",.tup [.str "letter",.str "year",.str "year"]),("after",.tup [.str "letter",.str "letter"]),("same",.tup [.str "letter",.str "letter"]),("within",.tup [.str "letter",.str "letter",.str "later"]),("apart",.tup [.str "letter",.str "letter",.str "gap",.str "gap"])]
def b1(k:Nat):List Bool:=(List.range 12).map (· ==k)
abbrev eN:List Str:=["BadArchive","BadSaying","NoAge","Stuck","NoYear","NoGap","TooMany","NoNumber","NoDating","BadRow","NoRow","NoName"]
abbrev ki_NoAge:List (Str×Bool):=eN.zip (b1 2)
abbrev ki_BadSaying:List (Str×Bool):=eN.zip (b1 1)
abbrev ki_Stuck:List (Str×Bool):=eN.zip (b1 3)
abbrev ki_BadArchive:List (Str×Bool):=eN.zip (b1 0)
abbrev ki_NoNumber:List (Str×Bool):=eN.zip (b1 7)
abbrev ki_TooMany:List (Str×Bool):=eN.zip (b1 6)
abbrev ki_NoGap:List (Str×Bool):=eN.zip (b1 5)
abbrev ki_NoYear:List (Str×Bool):=eN.zip (b1 4)
abbrev ki_NoName:List (Str×Bool):=eN.zip (b1 11)
abbrev ki_NoRow:List (Str×Bool):=eN.zip (b1 10)
abbrev ki_BadRow:List (Str×Bool):=eN.zip (b1 9)
abbrev ki_NoDating:List (Str×Bool):=eN.zip (b1 8)
abbrev ki_ValueError:List (Str×Bool):=eN.zip (List.replicate 12 true)
abbrev ki_ArchiveError:List (Str×Bool):=eN.zip (List.replicate 12 true)
def pA:Fr->bO:=
 (aQ (bH [] (dC (.int 0)) (aJ 2))
 (aQ (bH [] (aE bK (aE bQ (aE bK (aE bQ (aB 0) (dC (.int 998244341))) (aE gK (dC (.int 7919)) (aB 1))) (dC (.int 998244353))) (dC (.int 3))) (aJ 3))
 (aQ (pI (kG qK (aD (dC (.int 4)) aK)) (aJ 4) (aQ (bH [] (bP uL (aD (aB 3) (aD (dC (.int 4099)) aK))) (eE (aY (aJ 5) (aY (aJ 6) eS))))
 (aQ (bH [] (aE bQ (aE bK (aE bK (aE bK (aE gK (aB 6) (dC (.int 240007))) (aE gK (aB 5) (dC (.int 89)))) (aE gK (dC (.int 1201)) (aB 4))) (dC (.int 11))) (dC (.int 998244353))) (aJ 3))
 (bH [] (aE bK (aE gK (aB 2) (dC (.int 998244353))) (aB 3)) (aJ 2)))))
 (bD [] (bG (aB 2))))))
def pE:List T->Res T:=λts=>bN (pA (cO 7 ts))
def iL:Fr->bO:=
 (aQ (bH [] (cR aK) (aJ 1))
 (aQ (pI (kG qK (aD (bP mZ (aD (bP eY (aD (aB 0) aK)) (aD (dC (.int 64)) aK))) aK)) (aJ 2) (aQ (bH [] (bP sG (aD (aE aO (aB 0) (aB 2)) aK)) (aJ 3))
 (aQ (bH [] (dC (.int 1)) (aJ 4))
 (aQ (vI (bF (aE fW (aB 4) (aB 3))) (bH [] (aE gK (aB 4) (aE rY (dC (.int 10)) (dC (.int 6)))) (aJ 4)))
 (xC 1 [] jB (aE bK (aB 3) (aE gK (aB 4) (bT 2 pE (aD (aB 3) (aD (aB 2) aK))))))))))
 (bD [1] (aB 1))))
def iO:List T->Res T:=λts=>bN (iL (cO 5 ts))
def wP:Fr->bO:=
 (aQ (pI (kK zZ (vD (oQ lO (aB 0) (gB (aB 1)) (gB (aE bK (aB 1) (dC (.int 1))))))) (aJ 2) (bD [] (bP sG (aD (aB 2) aK))))
 (bD [] (dC (.int 0))))
def pO:List T->Res T:=λts=>bN (wP (cO 3 ts))
def qD:Fr->bO:=
 (aQ (bH [] (cR aK) (aJ 2))
 (aQ (bH [] (aE gL (aB 0) (dC (.int 2))) (aJ 3))
 (aQ (pI (kG qK (aD (aE gK (aB 1) (aE dF (dC (.int 1)) (aE bQ (aB 0) (dC (.int 2))))) aK)) (aJ 4) (aQ (bH [] (bP uL (aD (aB 3) (aD (aE rY (dC (.int 10)) (dC (.int 9))) aK))) (eE (aY (aJ 3) (aY (aJ 5) eS))))
 (xC 2 [] jB (bG (aB 5)))))
 (aQ (bH [] (aE bK (aE bQ (aB 3) (dC (.int 998244341))) (dC (.int 5))) (aJ 3))
 (aQ (vI (bF (aE ltT (bP eY (aD (aB 2) aK)) (aB 1))) (aQ (pI (kG qK (aD (dC (.int 2)) aK)) (aJ 6) (aQ (bH [] (bP uL (aD (aB 3) (aD (dC (.int 4099)) aK))) (eE (aY (aJ 7) (aY (aJ 8) eS))))
 (bH [] (aE bQ (aE bK (aE bK (aE bK (aE gK (aB 8) (dC (.int 240007))) (aE gK (aB 7) (dC (.int 89)))) (aE gK (dC (.int 1201)) (bP eY (aD (aB 2) aK)))) (dC (.int 11))) (dC (.int 998244353))) (aJ 3))))
 (xC 2 [] jB (aE gL (aB 3) (dC (.int 5))))))
 (bD [2] (aB 2)))))))
def eH:List T->Res T:=λts=>bN (qD (cO 9 ts))
def sW:Fr->bO:=
 (aQ (bH [] (dC (.str "qwertyuiopasdfghjklzxcvbnm")) (aJ 2))
 (aQ (bH [] (aE gL (aB 0) (dC (.int 3))) (aJ 3))
 (aQ (dA (bF (aE dO (aE bQ (aB 0) (dC (.int 3))) (dC (.int 0)))) (bD [] (eW [7] (kG qK (aD (aB 1) aK)) (aJ 7) cT (aE gK (aE aO (aB 2) (aE bQ (aB 3) (dC (.int 26)))) (aE bK (aB 7) (dC (.int 1)))))) bM)
 (aQ (dA (bF (aE dO (aE bQ (aB 0) (dC (.int 3))) (dC (.int 1)))) (aQ (bH [] (cR (aD (dC (.str "letter")) (aD (dC (.str "years")) (aD (dC (.str "fades")) (aD (dC (.str "rules")) (aD (dC (.str "ink")) (aD (dC (.str "put")) (aD (dC (.str "after")) (aD (dC (.str "same")) aK))))))))) (aJ 4))
 (bD [] (oQ lO (aE bK (oQ lO (aB 4) (gB (aE bQ (aB 3) (dC (.int 8)))) fH) (oQ lO (aB 4) fH (gB (aE bQ (aB 3) (dC (.int 8)))))) fH (gB (aB 1))))) bM)
 (aQ (bH [] (aE bK (dC (.int 1)) (aE bQ (aB 3) (dC (.int 8)))) (aJ 5))
 (aQ (bH [] (aE bQ (aE gL (aB 3) (dC (.int 8))) (aB 5)) (aJ 6))
 (bD [] (eW [7] (kG qK (aD (aB 1) aK)) (aJ 7) cT (aE bK (aE bK (aE gK (dC (.str "a")) (aB 6)) (aE aO (aB 2) (aE bQ (aE bK (aE gL (aB 3) (dC (.int 64))) (aB 7)) (dC (.int 26))))) (aE gK (dC (.str "b")) (aE dF (aE dF (aB 5) (dC (.int 1))) (aB 6))))))))))))
def sQ:List T->Res T:=λts=>bN (sW (cO 8 ts))
def sN:Fr->bO:=
 (aQ (bH [] (bT 2 eH (aD (aB 0) (aD (dC (.int 4)) aK))) (aJ 2))
 (aQ (bH [] (bG (aE aO (cR (aD (aE rY (dC (.int 10)) (dC (.int 6))) (aD (dC (.int 100)) (aD (aE bQ (aE aO (aB 2) (dC (.int 0))) (aE bK (aE rY (dC (.int 10)) (dC (.int 6))) (dC (.int 1)))) aK)))) (aE bQ (aE aO (aB 2) (dC (.int 1))) (dC (.int 3))))) (aJ 3))
 (aQ (bH [] (cR aK) (aJ 4))
 (aQ (pI (kK zZ (vD (bT 2 eH (aD (aE gL (aB 0) (dC (.int 7))) (aD (aE bK (dC (.int 1)) (aE bQ (aE aO (aB 2) (dC (.int 2))) (aB 1))) aK))))) (aJ 5) (aQ (xC 4 [] jB (bG (aB 3)))
 (bH [] (bP yJ (aD (dC (.int 0)) (aD (aE dF (aB 3) (aE bQ (aB 5) (aE aO (cR (aD (dC (.int 2)) (aD (dC (.int 9)) (aD (dC (.int 40)) (aD (dC (.int 30011)) (aD (aE bK (aE rY (dC (.int 10)) (dC (.int 6))) (dC (.int 1))) aK)))))) (aE bQ (aE aO (aB 2) (dC (.int 3))) (dC (.int 5)))))) aK))) (aJ 3))))
 (bD [4] (aB 4))))))
def sV:List T->Res T:=λts=>bN (sN (cO 6 ts))
def qQ:Fr->bO:=
 (aQ (bH [] (cR (aD (dC (.str "rix")) (aD (dC (.str "r")) (aD (dC (.str "regina")) (aD (dC (.str "king")) (aD (dC (.str "kings")) (aD (dC (.str "imperium")) aK))))))) (aJ 3))
 (aQ (bH [] (bT 2 eH (aD (aB 0) (aD (dC (.int 18)) aK))) (aJ 4))
 (aQ (bH [] (cR aK) (aJ 5))
 (aQ (pI (kG qK (aD (aE aO (cR (aD (dC (.int 1)) (aD (dC (.int 6)) (aD (aE bQ (aB 0) (dC (.int 7))) aK)))) (aE bQ (aB 0) (dC (.int 3)))) aK)) (aJ 6) (aQ (bH [] (aE bK (aE dF (aB 1) (dC (.int 5))) (aE bQ (aE aO (aB 4) (aE gK (dC (.int 3)) (aB 6))) (aE bK (aB 2) (dC (.int 10))))) (aJ 7))
 (xC 5 [] jB (pH (aD (bG (aE aO (aB 3) (aB 6))) (aD (bG (aB 7)) (aD (aE bK (dC (.int 1)) (aE bQ (aE aO (aB 4) (aE bK (aE gK (dC (.int 3)) (aB 6)) (dC (.int 1)))) (aE aO (cR (aD (dC (.int 9)) (aD (dC (.int 100)) aK))) (aE bQ (aE aO (aB 4) (aE bK (aE gK (dC (.int 3)) (aB 6)) (dC (.int 2)))) (dC (.int 2)))))) aK)))))))
 (bD [5] (aB 5))))))
def rG:List T->Res T:=λts=>bN (qQ (cO 8 ts))
def uF:Fr->bO:=
 (aQ (bH [] (bT 2 eH (aD (aE gL (bT 2 pO (aD (aB 0) (aD (dC (.int 0)) aK))) (dC (.int 12))) (aD (dC (.int 16)) aK))) (aJ 3))
 (aQ (bH [] (bG (aE aO (cR (aD (aE dF (aE bQ (aE aO (aB 3) (dC (.int 0))) (aE dF (dC (.int 6001)) (aB 1))) (dC (.int 3000))) (aD (cS kW (dC (.int 3000))) (aD (aE dF (dC (.int 3000)) (aB 1)) aK)))) (aE bQ (aE aO (aB 3) (dC (.int 1))) (dC (.int 3))))) (aJ 4))
 (aQ (bH [] (aE bK (aB 4) (aE aO (cR (aD (aE bQ (aE aO (aB 3) (dC (.int 2))) (aE bK (aB 1) (dC (.int 1)))) (aD (bG (aB 1)) aK))) (aE bQ (aE gL (aE aO (aB 3) (dC (.int 1))) (dC (.int 3))) (dC (.int 2))))) (aJ 5))
 (aQ (bH [] (bT 2 sQ (aD (aE aO (aB 3) (dC (.int 3))) (aD (aE bK (dC (.int 1)) (aE bQ (aE aO (aB 3) (dC (.int 4))) (aB 2))) aK))) (aJ 6))
 (aQ (bH [] (cR aK) (aJ 7))
 (aQ (pI (kG qK (aD (aE aO (cR (aD (aE bK (dC (.int 1)) (aE bQ (aE aO (aB 3) (dC (.int 5))) (dC (.int 3)))) (aD (dC (.int 5)) aK))) (aE gL (aE bQ (aE aO (aB 3) (dC (.int 13))) (dC (.int 3))) (dC (.int 2)))) aK)) (aJ 8) (aQ (bH [] (bG (aE aO (cR (aD (dC (.str "gall")) (aD (dC (.str "gal")) (aD (dC (.str "soot")) (aD (dC (.str "galls")) (aD (dC (.str "sepiaink")) aK)))))) (aB 8))) (aJ 9))
 (xC 7 [] jB (pH (aD (bG (aB 9)) (aD (bT 2 sV (aD (aE bK (aE aO (aB 3) (aE bK (dC (.int 6)) (aE bQ (aB 8) (dC (.int 3))))) (aE gK (dC (.int 7919)) (aE gL (aB 8) (dC (.int 3))))) (aD (aE aO (cR (aD (dC (.int 60)) (aD (dC (.int 6)) aK))) (aE bQ (aE gL (aE aO (aB 3) (dC (.int 5))) (dC (.int 3))) (dC (.int 2)))) aK))) aK))))))
 (aQ (bH [] (aE bK (cR (aD (pH (aD (dC (.str "rex")) (aD (aE bK (aE dF (aB 4) (dC (.int 3))) (aE bQ (aE aO (aB 3) (dC (.int 9))) (dC (.int 7)))) (aD (aE bK (dC (.int 1)) (aE bQ (aE aO (aB 3) (dC (.int 10))) (dC (.int 12)))) aK)))) aK)) (bT 3 rG (aD (aE aO (aB 3) (dC (.int 14))) (aD (aB 4) (aD (aB 1) aK))))) (aJ 10))
 (aQ (xC 10 [] jB (pH (aD (dC (.str "re")) (aD (bP mZ (aD (dC (.int 4000)) (aD (aE bK (aB 4) (aE bQ (aE aO (aB 3) (dC (.int 11))) (aE bK (aB 1) (dC (.int 2))))) aK))) (aD (aE bK (dC (.int 1)) (aE bQ (aE aO (aB 3) (dC (.int 12))) (dC (.int 100)))) aK)))))
 (bD [6,7,10] (pH (aD (bG (aB 4)) (aD (bG (aB 5)) (aD (aB 6) (aD (aB 7) (aD (aB 10) aK)))))))))))))))
def tZ:List T->Res T:=λts=>bN (uF (cO 11 ts))
def qM:Fr->bO:=
 (bD [] (eX (bP lS (aD (aB 0) (aD (dC (.ty "int")) aK))) (bs1 (bP lS (aD (aB 0) (aD (dC (.ty "bool")) aK))))))
def oJ:List T->Res T:=λts=>bN (qM (cO 1 ts))
def kB:Fr->bO:=
 (bD [] (eX (bT 1 oJ (aD (aB 0) aK)) (tH fW fW (aB 1) (aB 0) (aB 2))))
def cQ:List T->Res T:=λts=>bN (kB (cO 3 ts))
def sK:Fr->bO:=
 (aQ (dA (kM (kT (bT 3 cQ (aD (aB 0) (aD (cS kW (dC (.int 3000))) (aD (dC (.int 3000)) aK)))))) (bD [] (dC (.bl false))) bM)
 (aQ (dA (kM (kT (bT 3 cQ (aD (aB 1) (aD (cS kW (dC (.int 3000))) (aD (dC (.int 3000)) aK)))))) (bD [] (dC (.bl false))) bM)
 (bD [] (tH fW fW (dC (.int 0)) (aE dF (aB 1) (aB 0)) (dC (.int 300))))))
def sP:List T->Res T:=λts=>bN (sK (cO 2 ts))
def qY:Fr->bO:=
 (bD [] (eX (tH fW fW (dC (.int 1)) (bP eY (aD (aB 0) aK)) (aB 2)) (bP (oS false) (aD (eW [3] (kK mR (aB 0)) (aJ 3) cT (aE (nP false) (aB 3) (aB 1))) aK))))
def qE:List T->Res T:=λts=>bN (qY (cO 4 ts))
def vZ:Fr->bO:=
 (bD [] (bT 3 qE (aD (aB 0) (aD (dC (.str "abcdefghijklmnopqrstuvwxyz")) (aD (dC (.int 8)) aK)))))
def tL:List T->Res T:=λts=>bN (vZ (cO 1 ts))
def sL:Fr->bO:=
 (aQ (dA (kM (bF (tH fW fW (aB 1) (bP eY (aD (aB 0) aK)) (aB 2)))) (bD [] (dC (.bl false))) bM)
 (bD [] (eX (bP (oS false) (aD (eW [3] (kK mR (aB 0)) (aJ 3) cT (bT 1 tL (aD (aB 3) aK))) aK)) (aE dO (bP xN (aD (aB 0) aK)) (bP eY (aD (aB 0) aK))))))
def mK:List T->Res T:=λts=>bN (sL (cO 4 ts))
def uA:Fr->bO:=
 (aQ (dA (kM (bF (tH fW fW (dC (.int 1)) (bP eY (aD (aB 0) aK)) (dC (.int 60))))) (bD [] (dC (.bl false))) bM)
 (aQ (dA (kM (kT (bP (oS false) (aD (eW [1] (kK mR (aB 0)) (aJ 1) cT (bT 3 cQ (aD (aB 1) (aD (dC (.int 0)) (aD (dC (.int 1000000)) aK))))) aK)))) (bD [] (dC (.bl false))) bM)
 (bD [] (bP (oS false) (aD (eW [2] (kG ce0 (aD (dC (.int 1)) (aD (bP eY (aD (aB 0) aK)) aK))) (aJ 2) cT (aE fW (aE aO (aB 0) (aB 2)) (aE aO (aB 0) (aE dF (aB 2) (dC (.int 1)))))) aK)))))
def qC:List T->Res T:=λts=>bN (uA (cO 3 ts))
def uE:Fr->bO:=
 (aQ (dA (kM (kT (bT 3 mK (aD (eW [1,2] (kK mR (aB 0)) (eE (aY (aJ 1) (aY (aJ 2) eS))) cT (bG (aB 1))) (aD (dC (.int 0)) (aD (dC (.int 6)) aK)))))) (bD [] (dC (.bl false))) bM)
 (bD [] (bP (oS false) (aD (eW [1,2] (kK mR (aB 0)) (eE (aY (aJ 1) (aY (aJ 2) eS))) cT (bT 1 qC (aD (aB 2) aK))) aK))))
def tW:List T->Res T:=λts=>bN (uE (cO 3 ts))
def tV:Fr->bO:=
 (bD [] (eX (bT 3 cQ (aD (aB 0) (aD (cS kW (dC (.int 4000))) (aD (dC (.int 4000)) aK)))) (bT 3 cQ (aD (aB 1) (aD (dC (.int 1)) (aD (dC (.int 100)) aK))))))
def qF:List T->Res T:=λts=>bN (tV (cO 2 ts))
def rH:Fr->bO:=
 (aQ (dA (kM (kT (bT 3 mK (aD (eW [1,2,3] (kK mR (aB 0)) (eE (aY (aJ 1) (aY (aJ 2) (aY (aJ 3) eS)))) cT (bG (aB 1))) (aD (dC (.int 0)) (aD (dC (.int 8)) aK)))))) (bD [] (dC (.bl false))) bM)
 (bD [] (bP (oS false) (aD (eW [1,2,3] (kK mR (aB 0)) (eE (aY (aJ 1) (aY (aJ 2) (aY (aJ 3) eS)))) cT (bT 2 qF (aD (aB 2) (aD (aB 3) aK)))) aK))))
def qV:List T->Res T:=λts=>bN (rH (cO 4 ts))
def kQ:Fr->bO:=
 (aQ (dA (kM (kT (bT 2 sP (aD (aB 1) (aD (aB 2) aK))))) ao2 bM)
 (aQ (dA (kM (kT (bT 3 mK (aD (aB 3) (aD (dC (.int 1)) (aD (dC (.int 8)) aK)))))) ao2 bM)
 (aQ (dA (kM (kT (bT 1 tW (aD (aB 4) aK)))) ao2 bM)
 (aQ (dA (kM (kT (bT 1 qV (aD (aB 5) aK)))) ao2 bM)
 (aQ (tQ 0 [] ["Archive"] "first" (bG (aB 1)) jB)
 (aQ (tQ 0 [] ["Archive"] "present" (bG (aB 2)) jB)
 (aQ (tQ 0 [] ["Archive"] "letters" (bP lR (aD (aB 3) aK)) jB)
 (aQ (tQ 0 [] ["Archive"] "inks" (eW [6,7] (kK mR (aB 4)) (eE (aY (aJ 6) (aY (aJ 7) eS))) cT (pH (aD (bG (aB 6)) (aD (bP lR (aD (aB 7) aK)) aK)))) jB)
 (tQ 0 [] ["Archive"] "reigns" (eW [6,8,9] (kK mR (aB 5)) (eE (aY (aJ 6) (aY (aJ 8) (aY (aJ 9) eS)))) cT (pH (aD (bG (aB 6)) (aD (bG (aB 8)) (aD (bG (aB 9)) aK))))) jB)))))))))
def qJ:Fr->bO:=
 (aQ (bH [] (bG (aB 0)) (eE (aY (aJ 3) (aY (aJ 4) (aY (aJ 5) (aY (aJ 6) (aY (aJ 7) eS)))))))
 (aQ (dA (bF (aE dO (aE bQ (aE aO (aB 2) (dC (.int 1))) (dC (.int 4))) (dC (.int 0)))) (aQ (bH [] (bG (aE aO (aB 6) (aE bQ (aE aO (aB 2) (dC (.int 2))) (bP eY (aD (aB 6) aK))))) (eE (aY (aJ 8) (aY (aJ 9) eS))))
 (aQ (bH [] (bG (aE aO (aB 9) (bP mZ (aD (aE bQ (aE aO (aB 2) (dC (.int 3))) (aE bK (aE dF (aB 4) (aB 3)) (dC (.int 1)))) (aD (aE dF (bP eY (aD (aB 9) aK)) (dC (.int 1))) aK))))) (aJ 10))
 (aQ (bH [] (bP yJ (aD (dC (.int 0)) (aD (bP mZ (aD (aE rY (dC (.int 10)) (dC (.int 6))) (aD (aE bK (aB 10) (aE aO (cR (aD (dC (.int 0)) (aD (dC (.int 0)) (aD (dC (.int 1)) (aD (cS kW (dC (.int 1))) (aD (dC (.int 7)) (aD (cS kW (dC (.int 30))) aK))))))) (aE bQ (aE aO (aB 2) (dC (.int 4))) (dC (.int 6))))) aK))) aK))) (aJ 11))
 (bD [] (cR (aD (dC (.str "ink")) (aD (bG (aB 1)) (aD (bG (aB 8)) (aD (bG (aB 11)) (aD (aE bK (bP sG (aD (aE dF (aB 11) (aB 10)) aK)) (aE bQ (aE aO (aB 2) (dC (.int 5))) (aE aO (cR (aD (dC (.int 1)) (aD (dC (.int 1)) (aD (dC (.int 9)) aK)))) (aE bQ (aE gL (aE aO (aB 2) (dC (.int 4))) (dC (.int 6))) (dC (.int 3)))))) aK)))))))))) bM)
 (aQ (dA (bF (aE dO (aE bQ (aE aO (aB 2) (dC (.int 1))) (dC (.int 4))) (dC (.int 1)))) (aQ (bH [] (bG (aE aO (aB 7) (aE bQ (aE aO (aB 2) (dC (.int 2))) (bP eY (aD (aB 7) aK))))) (eE (aY (aJ 12) (aY (aJ 13) (aY (aJ 14) eS)))))
 (bD [] (cR (aD (dC (.str "reign")) (aD (bG (aB 1)) (aD (bG (aB 12)) (aD (aE bK (dC (.int 1)) (aE bQ (aE aO (aB 2) (dC (.int 3))) (aB 14))) aK))))))) bM)
 (aQ (dA (bF (aE dO (aE bQ (aE aO (aB 2) (dC (.int 1))) (dC (.int 4))) (dC (.int 2)))) (bD [] (cR (aD (dC (.str "under")) (aD (bG (aB 1)) (aD (bG (aE aO (aE aO (aB 7) (aE bQ (aE aO (aB 2) (dC (.int 2))) (bP eY (aD (aB 7) aK)))) (dC (.int 0)))) aK))))) bM)
 (aQ (bH [] (aE bK (aE dF (aB 3) (dC (.int 1))) (aE bQ (aE aO (aB 2) (dC (.int 3))) (aE bK (aE dF (aB 4) (aB 3)) (dC (.int 3))))) (aJ 15))
 (bD [] (cR (aD (dC (.str "between")) (aD (bG (aB 1)) (aD (bG (aB 15)) (aD (aE bK (aB 15) (aE bQ (aE aO (aB 2) (dC (.int 4))) (aE bK (aE dF (aB 4) (aB 3)) (dC (.int 2))))) aK)))))))))))
def qR:List T->Res T:=λts=>bN (qJ (cO 16 ts))
def qA:Fr->bO:=
 (aQ (bH [] (bG (aB 0)) (eE (aY (aJ 3) (aY (aJ 4) (aY (aJ 5) (aY (aJ 6) (aY (aJ 7) eS)))))))
 (aQ (bH [] (bT 2 eH (aD (aB 1) (aD (dC (.int 7)) aK))) (aJ 8))
 (aQ (bH [] (aE bQ (aE aO (aB 8) (dC (.int 0))) (bP eY (aD (aB 5) aK))) (aJ 9))
 (aQ (dA (uX (bF (aE dO (bP eY (aD (aB 5) aK)) (dC (.int 1)))) (bF (aE ltT (aE bQ (aE aO (aB 8) (dC (.int 6))) (dC (.int 8))) (dC (.int 3))))) (bD [] (bT 3 qR (aD (aB 0) (aD (aE aO (aB 5) (aB 9)) (aD (aB 8) aK))))) bM)
 (aQ (bH [] (bG (aE aO (aB 5) (aE bQ (aE bK (aE bK (aB 9) (dC (.int 1))) (aE bQ (aE aO (aB 8) (dC (.int 2))) (aE dF (bP eY (aD (aB 5) aK)) (dC (.int 1))))) (bP eY (aD (aB 5) aK))))) (aJ 10))
 (aQ (dA (bF (aE dO (aE bQ (aE aO (aB 8) (dC (.int 1))) (dC (.int 4))) (dC (.int 0)))) (bD [] (cR (aD (dC (.str "after")) (aD (bG (aE aO (aB 5) (aB 9))) (aD (bG (aB 10)) aK))))) bM)
 (aQ (dA (bF (aE dO (aE bQ (aE aO (aB 8) (dC (.int 1))) (dC (.int 4))) (dC (.int 1)))) (bD [] (cR (aD (dC (.str "same")) (aD (bG (aE aO (aB 5) (aB 9))) (aD (bG (aB 10)) aK))))) bM)
 (aQ (dA (bF (aE dO (aE bQ (aE aO (aB 8) (dC (.int 1))) (dC (.int 4))) (dC (.int 2)))) (bD [] (cR (aD (dC (.str "within")) (aD (bG (aE aO (aB 5) (aB 9))) (aD (bG (aB 10)) (aD (aE bQ (aE aO (aB 8) (dC (.int 3))) (aE bK (aB 2) (dC (.int 1)))) aK)))))) bM)
 (aQ (bH [] (aE dF (aE bQ (aE aO (aB 8) (dC (.int 3))) (aE bK (aE gK (dC (.int 2)) (aB 2)) (dC (.int 1)))) (aB 2)) (aJ 11))
 (bD [] (cR (aD (dC (.str "apart")) (aD (bG (aE aO (aB 5) (aB 9))) (aD (bG (aB 10)) (aD (bG (aB 11)) (aD (bP mZ (aD (dC (.int 300)) (aD (aE bK (aB 11) (aE bQ (aE aO (aB 8) (dC (.int 4))) (aE bK (aB 2) (dC (.int 1))))) aK))) aK))))))))))))))))
def rA:List T->Res T:=λts=>bN (qA (cO 12 ts))
def qN:Fr->bO:=
 (aQ (bH [] (aE bQ (aB 1) (dC (.int 8))) (aJ 2))
 (aQ (bH [] (aE gL (aB 1) (dC (.int 8))) (aJ 3))
 (aQ (bH [] (aE bK (dC (.int 1)) (aE bQ (aB 3) (aE dF (bP eY (aD (aB 0) aK)) (dC (.int 1))))) (aJ 4))
 (aQ (dA (bF (aE dO (aB 2) (dC (.int 1)))) (bD [] (aE bK (cR (aD (bG (aE aO (vD (cR (aD (dC (.str "Ink")) (aD (dC (.str "inks")) (aD (dC (.str "")) (aD (dC (.str "before")) (aD (dC (.str "apart ")) (aD (dC (.str "under")) (aD (dC (.str "same")) (aD (dC (.str "after")) aK)))))))))) (aE bQ (aB 3) (dC (.int 8))))) aK)) (oQ lO (aB 0) (gB (dC (.int 1))) fH))) bM)
 (aQ (dA (bF (aE dO (aB 2) (dC (.int 2)))) (bD [] (bG (aE aO (vD (cR (aD (aE bK (oQ lO (aB 0) fH (gB (aB 4))) (oQ lO (aB 0) (gB (aE bK (aB 4) (dC (.int 1)))) fH)) (aD (aE bK (aB 0) (cR (aD (dC (.int 1)) aK))) (aD (aE bK (aB 0) (cR (aD (dC (.str "a")) aK))) aK))))) (aE bQ (aE gL (aB 3) (dC (.int 10))) (dC (.int 3)))))) bM)
 (aQ (dA (bF (aE dO (aB 2) (dC (.int 3)))) (bD [] (aE bK (aE bK (oQ lO (aB 0) fH (gB (aB 4))) (cR (aD (dIf (kT (bP lS (aD (aE aO (aB 0) (aB 4)) (aD (dC (.ty "int")) aK)))) (bP oG (aD (aE aO (aB 0) (aB 4)) aK)) (dC (.int 5))) aK))) (oQ lO (aB 0) (gB (aE bK (aB 4) (dC (.int 1)))) fH))) bM)
 (aQ (dA (bF (aE dO (aB 2) (dC (.int 4)))) (bD [] (aE bK (aE bK (oQ lO (aB 0) fH (gB (aB 4))) (cR (aD (bG (aE aO (vD (cR (aD (dC (.str "nobody")) (aD (dC (.str "")) (aD (bG (aE aO (aB 0) (dC (.int 1)))) (aD (dC (.str "gall")) aK)))))) (aE bQ (aE gL (aB 3) (dC (.int 10))) (dC (.int 4))))) aK))) (oQ lO (aB 0) (gB (aE bK (aB 4) (dC (.int 1)))) fH))) bM)
 (aQ (dA (by2 (bF (aE gtT (aB 2) (dC (.int 4)))) (kT (bP lS (aD (aE aO (aB 0) (cS kW (dC (.int 1)))) (aD (dC (.ty "int")) aK))))) (aQ (bH [] (cR (aD (cS kW (dC (.int 1))) (aD (dC (.int 0)) (aD (dC (.int 1)) (aD (aE rY (dC (.int 10)) (dC (.int 6))) (aD (aE bK (aE rY (dC (.int 10)) (dC (.int 6))) (dC (.int 1))) (aD (dC (.int 300)) (aD (dC (.int 301)) (aD (cS kW (dC (.int 300))) (aD (cS kW (dC (.int 301))) (aD (dC (.int 4000)) (aD (dC (.int 4001)) (aD (cS kW (dC (.int 4000))) (aD (cS kW (dC (.int 4001))) (aD (dC (.int 100)) (aD (dC (.int 101)) aK)))))))))))))))) (aJ 5))
 (aQ (bH [] (aE dF (aE dF (bP eY (aD (aB 0) aK)) (dC (.int 1))) (aE gK (aE bQ (aB 3) (dC (.int 2))) (bP as3 (aD (bP lS (aD (aE aO (aB 0) (cS kW (dC (.int 2)))) (aD (dC (.ty "int")) aK))) aK)))) (aJ 6))
 (bD [] (aE bK (aE bK (oQ lO (aB 0) fH (gB (aB 6))) (cR (aD (bG (aE aO (aB 5) (aE bQ (aE gL (aB 3) (dC (.int 2))) (dC (.int 15))))) aK))) (oQ lO (aB 0) (gB (aE bK (aB 6) (dC (.int 1)))) fH))))) bM)
 (bD [] (bG (aB 0)))))))))))
def qU:List T->Res T:=λts=>bN (qN (cO 7 ts))
def iY:Fr->bO:=
 (aQ (dA (bF (aE dO (aB 1) (dC (.str "letter")))) (bD [] (aE (nP false) (aB 2) (cS (kH ["Archive"] "letters") (aB 0)))) bM)
 (aQ (dA (bF (aE dO (aB 1) (dC (.str "ink")))) (bD [] (aE (nP false) (aB 2) (eW [3] (kK mR (cS (kH ["Archive"] "inks") (aB 0))) (aJ 3) cT (bG (aE aO (aB 3) (dC (.int 0))))))) bM)
 (aQ (dA (bF (aE dO (aB 1) (dC (.str "reign")))) (bD [] (aE (nP false) (aB 2) (eW [4] (kK mR (cS (kH ["Archive"] "reigns") (aB 0))) (aJ 4) cT (bG (aE aO (aB 4) (dC (.int 0))))))) bM)
 (bD [] (bT 3 cQ (aD (aB 2) (aD (aE aO (cS (yY kt_NUMBERS) (aB 1)) (dC (.int 0))) (aD (aE aO (cS (yY kt_NUMBERS) (aB 1)) (dC (.int 1))) aK))))))))
def cV:List T->Res T:=λts=>bN (iY (cO 5 ts))
def mX:Fr->bO:=
 (aQ (dA (uX (bF (cS (cp8 true kt_PARTS) (aB 1))) (bF (aE kO (bP eY (aD (aB 2) aK)) (bP eY (aD (cS (yY kt_PARTS) (aB 1)) aK))))) (bD [] (dC (.bl false))) bM)
 (bD [] (bP (oS false) (aD (eW [3,4] (kG (bw3 false) (aD (cS (yY kt_PARTS) (aB 1)) (aD (aB 2) aK))) (eE (aY (aJ 3) (aY (aJ 4) eS))) cT (bT 3 cV (aD (aB 0) (aD (aB 3) (aD (aB 4) aK))))) aK))))
def dY:List T->Res T:=λts=>bN (mX (cO 5 ts))
def jL:Fr->bO:=
 (aQ (pI (kK zZ (cS (kH ["Archive"] "inks") (aB 0))) (eE (aY (aJ 2) (aY (aJ 3) eS))) (dA (bF (aE dO (aB 2) (aB 1))) (bD [] (bP lR (aD (aB 3) aK))) bM))
 (bD [] (dC .non)))
def fN:List T->Res T:=λts=>bN (jL (cO 4 ts))
def wM:Fr->bO:=
 (aQ (bH [] (aE dF (bP eY (aD (aB 0) aK)) (dC (.int 1))) (aJ 4))
 (aQ (bH [] (eW [7] (kG qK (aD (aE bK (bP mZ (aD (aB 4) (aD (aB 3) aK))) (dC (.int 1))) aK)) (aJ 7) (bF (aE fW (bP sG (aD (aE dF (aE aO (aB 0) (aB 7)) (aB 1)) aK)) (aB 2))) (bG (aB 7))) (aJ 5))
 (aQ (dA (bF (aE dO (bP eY (aD (aB 5) aK)) (dC (.int 0)))) (bD [] (dC .non)) bM)
 (aQ (bH [] (bG (aE aO (aB 5) (aE dF (bP eY (aD (aB 5) aK)) (dC (.int 1))))) (aJ 6))
 (bD [] (pH (aD (bG (aE aO (aB 5) (dC (.int 0)))) (aD (dIf (bF (aE dO (aB 6) (aB 4))) (bG (aB 3)) (bG (aB 6))) aK))))))))
def pV:List T->Res T:=λts=>bN (wM (cO 8 ts))
def zI:Fr->bO:=
 (bD [] (dBM cN uB (dC (.str " ")) (aD (eW [1] (kK mR (aB 0)) (aJ 1) cT (bP oG (aD (aB 1) aK))) aK)))
def zJ:List T->Res T:=λts=>bN (zI (cO 2 ts))
def bX:Fr->bO:=
 (aQ (bH [] (eW [7,8] (kG (bw3 false) (aD (aB 3) (aD (cS (yY kt_PARTS) (aB 2)) aK))) (eE (aY (aJ 7) (aY (aJ 8) eS))) (bF (aE dO (aB 8) (dC (.str "letter")))) (bG (aB 7))) (aJ 6))
 (aQ (tQ 0 [] ["Ink","Reign","Under","Between","After","Same","Within","Apart"] "spoken" (eW [9] (kK mR (aB 6)) (aJ 9) cT (dBM at0 xT (cS (kH ["Archive"] "letters") (aB 1)) (aD (aB 9) aK))) jB)
 (aQ (tQ 0 [] ["Ink","Reign","Under","Between","After","Same","Within","Apart"] "low" (bG (aB 4)) jB)
 (aQ (tQ 0 [] ["Ink","Reign","Under","Between","After","Same","Within","Apart"] "high" (bG (aB 5)) jB)
 (tQ 0 [] ["Ink","Reign","Under","Between","After","Same","Within","Apart"] "text" (bT 1 zJ (aD (aE bK (cR (aD (bG (aB 2)) aK)) (bP lR (aD (aB 3) aK))) aK)) jB)))))
noncomputable abbrev tm_table:List (Str×(List T->Res T)):=[("Archive",fN)]
def ai4:List T->Res T:=λts=>jA (bX (cO 10 (.ins true "Ink" [] []::ts)))
def nF:Fr->bO:=
 (aQ (bH [] (bT 4 pV (aD (qG 2 "table" tm_table (aB 0) (aD (aE aO (aB 1) (dC (.int 1))) aK)) (aD (aE aO (aB 1) (dC (.int 2))) (aD (aE aO (aB 1) (dC (.int 3))) (aD (aE dF (cS (kH ["Archive"] "present") (aB 0)) (cS (kH ["Archive"] "first") (aB 0))) aK))))) (aJ 2))
 (aQ (dA (bF (aE xZ (aB 2) (dC .non))) (pY "NoAge") bM)
 (bD [] (bT 5 ai4 (aD (aB 0) (aD (dC (.str "ink")) (aD (aB 1) (aD (aE dF (cS (kH ["Archive"] "present") (aB 0)) (aE aO (aB 2) (dC (.int 1)))) (aD (aE dF (cS (kH ["Archive"] "present") (aB 0)) (aE aO (aB 2) (dC (.int 0)))) aK)))))))))
def nK:List T->Res T:=λts=>bN (nF (cO 3 ts))
def oK:Fr->bO:=
 (aQ (pI (kK zZ (cS (kH ["Archive"] "reigns") (aB 0))) (aJ 2) (dA (bF (aE dO (aE aO (aB 2) (dC (.int 0))) (aB 1))) (bD [] (bG (aB 2))) bM))
 (bD [] (dC .non)))
def kR:List T->Res T:=λts=>bN (oK (cO 3 ts))
def nV:Fr->bO:=
 (aQ (dA (kM (kT (bT 3 cQ (aD (aB 2) (aD (dC (.int 1)) (aD (aB 1) aK)))))) (bD [] (dC .non)) bM)
 (bD [] (aE dF (aE bK (aB 0) (aB 2)) (dC (.int 1)))))
def iX:List T->Res T:=λts=>bN (nV (cO 3 ts))
def yU:List T->Res T:=λts=>jA (bX (cO 10 (.ins true "Reign" [] []::ts)))
def kN:Fr->bO:=
 (aQ (bH [] (bT 2 kR (aD (aB 0) (aD (aE aO (aB 1) (dC (.int 1))) aK))) (aJ 2))
 (aQ (bH [] (bT 3 iX (aD (aE aO (aB 2) (dC (.int 1))) (aD (aE aO (aB 2) (dC (.int 2))) (aD (aE aO (aB 1) (dC (.int 2))) aK)))) (aJ 3))
 (aQ (dA (bF (aE xZ (aB 3) (dC .non))) (pY "BadSaying") bM)
 (bD [] (bT 5 yU (aD (aB 0) (aD (dC (.str "reign")) (aD (aB 1) (aD (aB 3) (aD (aB 3) aK))))))))))
def lJ:List T->Res T:=λts=>bN (kN (cO 4 ts))
def yQ:List T->Res T:=λts=>jA (bX (cO 10 (.ins true "Under" [] []::ts)))
def nZ:Fr->bO:=
 (aQ (bH [] (bT 2 kR (aD (aB 0) (aD (aE aO (aB 1) (dC (.int 1))) aK))) (aJ 2))
 (bD [] (bT 5 yQ (aD (aB 0) (aD (dC (.str "under")) (aD (aB 1) (aD (aE aO (aB 2) (dC (.int 1))) (aD (bT 3 iX (aD (aE aO (aB 2) (dC (.int 1))) (aD (aE aO (aB 2) (dC (.int 2))) (aD (aE aO (aB 2) (dC (.int 2))) aK)))) aK))))))))
def oI:List T->Res T:=λts=>bN (nZ (cO 3 ts))
def vB:List T->Res T:=λts=>jA (bX (cO 10 (.ins true "Between" [] []::ts)))
def iU:Fr->bO:=
 (aQ (dA (bF (aE gtT (aE aO (aB 1) (dC (.int 1))) (aE aO (aB 1) (dC (.int 2))))) (pY "BadSaying") bM)
 (bD [] (bT 5 vB (aD (aB 0) (aD (dC (.str "between")) (aD (aB 1) (aD (aE aO (aB 1) (dC (.int 1))) (aD (aE aO (aB 1) (dC (.int 2))) aK))))))))
def iW:List T->Res T:=λts=>bN (iU (cO 2 ts))
def zG:List T->Res T:=λts=>jA (bX (cO 10 (.ins true "After" [] []::ts)))
def oA:Fr->bO:=
 (bD [] (bT 5 zG (aD (aB 0) (aD (dC (.str "after")) (aD (aB 1) (aD (dC (.int 1)) (aD (dC .non) aK)))))))
def oN:List T->Res T:=λts=>bN (oA (cO 2 ts))
def au0:List T->Res T:=λts=>jA (bX (cO 10 (.ins true "Same" [] []::ts)))
def pC:Fr->bO:=
 (bD [] (bT 5 au0 (aD (aB 0) (aD (dC (.str "same")) (aD (aB 1) (aD (dC (.int 0)) (aD (dC (.int 0)) aK)))))))
def pF:List T->Res T:=λts=>bN (pC (cO 2 ts))
def wZ:List T->Res T:=λts=>jA (bX (cO 10 (.ins true "Within" [] []::ts)))
def mT:Fr->bO:=
 (bD [] (bT 5 wZ (aD (aB 0) (aD (dC (.str "within")) (aD (aB 1) (aD (dC (.int 0)) (aD (aE aO (aB 1) (dC (.int 2))) aK)))))))
def mS:List T->Res T:=λts=>bN (mT (cO 2 ts))
def yT:List T->Res T:=λts=>jA (bX (cO 10 (.ins true "Apart" [] []::ts)))
def kS:Fr->bO:=
 (aQ (dA (bF (aE gtT (aE aO (aB 1) (dC (.int 2))) (aE aO (aB 1) (dC (.int 3))))) (pY "BadSaying") bM)
 (bD [] (bT 5 yT (aD (aB 0) (aD (dC (.str "apart")) (aD (aB 1) (aD (aE aO (aB 1) (dC (.int 2))) (aD (aE aO (aB 1) (dC (.int 3))) aK))))))))
def lE:List T->Res T:=λts=>bN (kS (cO 2 ts))
noncomputable abbrev tb_MAKERS:List (Str×(List T->Res T)):=[("ink",nK),("reign",lJ),("under",oI),("between",iW),("after",oN),("same",pF),("within",mS),("apart",lE)]
def kF:Fr->bO:=
 (aQ (dA (kM (kT (bT 3 dY (aD (aB 0) (aD (aB 1) (aD (aB 2) aK)))))) (pY "BadSaying") bM)
 (aQ (dA (by2 (bF (aE dO (aE aO (cS (yY kt_PARTS) (aB 1)) (dC (.int 1))) (dC (.str "letter")))) (bF (aE dO (aE aO (aB 2) (dC (.int 0))) (aE aO (aB 2) (dC (.int 1)))))) (pY "BadSaying") bM)
 (bD [] (at2 2 tb_MAKERS (aB 1) (aD (aB 0) (aD (aB 2) aK))))))
def bS:List T->Res T:=λts=>bN (kF (cO 3 ts))
def oV:Fr->bO:=
 (aQ (bz1 2 3 [("ink","ttnn"),("reign","ttn"),("under","tt"),("between","tnn"),("after","tt"),("same","tt")] (aB 0) (yN [("within","ttn"),("apart","ttnn")] (aB 0) (dC (.str "none"))))
 (aQ (dA (uX (bF (aE kO (bP eY (aD (aB 1) aK)) (bP eY (aD (aB 3) aK)))) (bF (aE dO (aB 3) (dC (.str "none"))))) (bD [] (dC (.bl false))) bM)
 (bD [] (bP (oS false) (aD (eW [4] (kG qK (aD (bP eY (aD (aB 1) aK)) aK)) (aJ 4) cT (aE dO (bP lS (aD (aE aO (aB 1) (aB 4)) (aD (dC (.ty "str")) aK))) (aE dO (aE aO (aB 3) (aB 4)) (dC (.str "t"))))) aK)))))
def cY:List T->Res T:=λts=>bN (oV (cO 5 ts))
def sX:Fr->bO:=
 (aQ (bH [] (bG (aB 0)) (eE (aY (aJ 2) (aY (aJ 3) (aY (aJ 4) (aY (aJ 5) (aY (aJ 6) eS)))))))
 (aQ (bH [] (eW [9,10] (kK mR (aB 5)) (eE (aY (aJ 9) (aY (aJ 10) eS))) (bF (aE dO (aB 9) (aE aO (aB 1) (dC (.int 1))))) (bG (aB 10))) (aJ 7))
 (aQ (dA (uX (bF (aE dO (aB 7) (cR aK))) (uX (bF (aE ltT (bP mZ (aD (oQ lO (aB 1) (gB (dC (.int 2))) fH) aK)) (dC (.int 0)))) (bF (aE gtT (bP yJ (aD (oQ lO (aB 1) (gB (dC (.int 2))) fH) aK)) (aE rY (dC (.int 10)) (dC (.int 6))))))) (bD [] (dC (.str "bad"))) bM)
 (aQ (pI (kG qK (aD (aE bK (aE dF (aB 3) (aB 2)) (dC (.int 1))) aK)) (aJ 8) (dA (bF (aE fW (bP sG (aD (aE dF (aE aO (aE aO (aB 7) (dC (.int 0))) (bP mZ (aD (aB 8) (aD (aE dF (bP eY (aD (aE aO (aB 7) (dC (.int 0))) aK)) (dC (.int 1))) aK)))) (aE aO (aB 1) (dC (.int 2)))) aK)) (aE aO (aB 1) (dC (.int 3))))) (bD [] (dC (.str "good"))) bM))
 (bD [] (dC (.str "age")))))))
def nM:List T->Res T:=λts=>bN (sX (cO 11 ts))
def dR:Fr->bO:=
 (aQ (bH [] (bG (aB 0)) (eE (aY (aJ 3) (aY (aJ 4) (aY (aJ 5) (aY (aJ 6) (aY (aJ 7) eS)))))))
 (aQ (dA (uX (kM (kT (bT 2 cY (aD (aB 1) (aD (aB 2) aK))))) (bF (aE (nP true) (aE aO (aB 2) (dC (.int 0))) (aB 5)))) (bD [] (dC (.str "bad"))) bM)
 (aQ (dA (bF (aE dO (aB 1) (dC (.str "ink")))) (bD [] (bT 2 nM (aD (aB 0) (aD (aB 2) aK)))) bM)
 (aQ (bH [] (eW [10] (kK mR (aB 7)) (aJ 10) (bF (aE dO (aE aO (aB 10) (dC (.int 0))) (aE aO (aB 2) (dC (.int 1))))) (bG (aE aO (aB 10) (dC (.int 2))))) (aJ 8))
 (aQ (bH [] (dC (.bl true)) (aJ 9))
 (aQ (dA (bF (aE dO (aB 1) (dC (.str "reign")))) (bH [] (eX (aE kO (aB 8) (cR aK)) (eX (aE fW (dC (.int 1)) (aE aO (aB 2) (dC (.int 2)))) (aE fW (aE aO (aB 2) (dC (.int 2))) (aE aO (aB 8) (dC (.int 0)))))) (aJ 9)) (dA (bF (aE dO (aB 1) (dC (.str "under")))) (bH [] (aE kO (aB 8) (cR aK)) (aJ 9)) (dA (bF (aE dO (aB 1) (dC (.str "between")))) (bH [] (eX (aE fW (cS kW (dC (.int 4000))) (aE aO (aB 2) (dC (.int 1)))) (eX (aE fW (aE aO (aB 2) (dC (.int 1))) (aE aO (aB 2) (dC (.int 2)))) (aE fW (aE aO (aB 2) (dC (.int 2))) (dC (.int 4000))))) (aJ 9)) (bH [] (eX (aE (nP false) (aE aO (aB 2) (dC (.int 1))) (aB 5)) (aE kO (aE aO (aB 2) (dC (.int 1))) (aE aO (aB 2) (dC (.int 0))))) (aJ 9)))))
 (aQ (dA (bF (aE dO (aB 1) (dC (.str "within")))) (bH [] (eX (aB 9) (eX (aE fW (dC (.int 0)) (aE aO (aB 2) (dC (.int 2)))) (aE fW (aE aO (aB 2) (dC (.int 2))) (dC (.int 300))))) (aJ 9)) bM)
 (aQ (dA (bF (aE dO (aB 1) (dC (.str "apart")))) (bH [] (eX (aB 9) (eX (aE fW (cS kW (dC (.int 300))) (aE aO (aB 2) (dC (.int 2)))) (eX (aE fW (aE aO (aB 2) (dC (.int 2))) (aE aO (aB 2) (dC (.int 3)))) (aE fW (aE aO (aB 2) (dC (.int 3))) (dC (.int 300)))))) (aJ 9)) bM)
 (bD [] (bG (aE aO (cR (aD (dC (.str "bad")) (aD (dC (.str "good")) aK))) (bP as3 (aD (aB 9) aK)))))))))))))
def bJ:List T->Res T:=λts=>bN (dR (cO 11 ts))
def dG:Fr->bO:=
 (bD [] (bG (cS (kH ["Ink","Reign","Under","Between","After","Same","Within","Apart"] "text") (aB 0))))
def aV:List T->Res T:=λts=>bN (dG (cO 1 ts))
def oF:Fr->bO:=
 (aQ (bH [] (cR (aD (cS (cM ki_BadArchive) (aB 0)) (aD (cS (cM ki_BadSaying) (aB 0)) (aD (cS (cM ki_NoAge) (aB 0)) (aD (cS (cM ki_Stuck) (aB 0)) aK))))) (aJ 1))
 (aQ (bH [] (aE bK (aB 1) (cR (aD (cS (cM ki_NoYear) (aB 0)) (aD (cS (cM ki_NoGap) (aB 0)) (aD (cS (cM ki_TooMany) (aB 0)) (aD (cS (cM ki_NoNumber) (aB 0)) aK)))))) (aJ 1))
 (aQ (bH [] (aE bK (aB 1) (cR (aD (cS (cM ki_NoDating) (aB 0)) (aD (cS (cM ki_BadRow) (aB 0)) (aD (cS (cM ki_NoRow) (aB 0)) (aD (cS (cM ki_NoName) (aB 0)) aK)))))) (aJ 1))
 (bD [] (eX (aE dO (dBM at0 al6 (aB 1) (aD (dC (.bl true)) aK)) (dC (.int 1))) (eX (cS (cM ki_ArchiveError) (aB 0)) (cS (cM ki_ValueError) (aB 0))))))))
def bY:List T->Res T:=λts=>bN (oF (cO 2 ts))
noncomputable abbrev tm_shown:List (Str×(List T->Res T)):=[("Ink",aV),("Reign",aV),("Under",aV),("Between",aV),("After",aV),("Same",aV),("Within",aV),("Apart",aV)]
def sS:Fr->bO:=
 (aQ (bH [] (bP lR (aD (oQ lO (aB 2) (gB (dC (.int 1))) fH) aK)) (aJ 3))
 (aQ (bH [] (dC .non) (aJ 4))
 (aQ (bH [] (dC .non) (aJ 5))
 (aQ (cg0 3 bS ["BadArchive","BadSaying","NoAge","Stuck","NoYear","NoGap","TooMany","NoNumber","NoDating","BadRow","NoRow","NoName"] 6 (aD (aB 1) (aD (aE aO (aB 2) (dC (.int 0))) (aD (aB 3) aK))) (bH [] (bG (aB 6)) (aJ 4)) (λt ρ=>ρ.set 5 (some t)))
 (aQ (dA (bF (aE kO (aB 3) (oQ lO (aB 2) (gB (dC (.int 1))) fH))) (bD [] (dC (.bl false))) bM)
 (aQ (bH [] (bT 3 bJ (aD (aB 0) (aD (aE aO (aB 2) (dC (.int 0))) (aD (oQ lO (aB 2) (gB (dC (.int 1))) fH) aK)))) (aJ 7))
 (aQ (dA (bF (aE dO (aB 7) (dC (.str "good")))) (bD [] (eX (aE xZ (aB 4) (dC .non)) (aE dO (qG 1 "shown" tm_shown (aB 5) aK) (dBM cN uB (dC (.str " ")) (aD (eW [8] (kK mR (aB 2)) (aJ 8) cT (bP oG (aD (aB 8) aK))) aK))))) bM)
 (aQ (dA (uX (bF (aE xZ (aB 4) (dC .non))) (kM (kT (bT 1 bY (aD (aB 4) aK))))) (bD [] (dC (.bl false))) bM)
 (aQ (dA (bF (aE dO (aB 7) (dC (.str "age")))) (bD [] (cS (cM ki_NoAge) (aB 4))) bM)
 (bD [] (cS (cM ki_BadSaying) (aB 4))))))))))))
def oW:List T->Res T:=λts=>bN (sS (cO 9 ts))
def tY:Fr->bO:=
 (aQ (bH [] (cR (aD (vF "BadArchive" "part" (aD (aB 0) aK)) (aD (vF "NoYear" "year" (aD (aB 1) aK)) (aD (vF "NoGap" "gap" (aD (aB 1) aK)) (aD (vF "TooMany" "letter" (aD (aB 1) aK)) (aD (vF "NoNumber" "number" (aD (aB 1) aK)) (aD (vF "BadRow" "row" (aD (aB 1) aK)) aK))))))) (aJ 2))
 (aQ (dA (uX (bF (aE kO (cS (jC ["BadArchive"] "part") (aE aO (aB 2) (dC (.int 0)))) (aB 0))) (uX (bF (aE kO (cS (jC ["NoYear"] "year") (aE aO (aB 2) (dC (.int 1)))) (aB 1))) (uX (bF (aE kO (cS (jC ["NoGap"] "gap") (aE aO (aB 2) (dC (.int 2)))) (aB 1))) (bF (aE kO (cS (jC ["TooMany"] "letter") (aE aO (aB 2) (dC (.int 3)))) (aB 1)))))) (bD [] (dC (.bl false))) bM)
 (aQ (dA (uX (bF (aE kO (cS (jC ["NoNumber"] "number") (aE aO (aB 2) (dC (.int 4)))) (aB 1))) (uX (bF (aE kO (cS (jC ["BadRow"] "row") (aE aO (aB 2) (dC (.int 5)))) (aB 1))) (bF (aE kO (cS (jC ["NoName"] "name") (vF "NoName" "name" (aD (aB 0) aK))) (aB 0))))) (bD [] (dC (.bl false))) bM)
 (aQ (bH [] (aE bK (aB 2) (cR (aD (yI "BadSaying") (aD (yI "NoAge") (aD (yI "Stuck") (aD (yI "NoDating") (aD (yI "NoRow") (aD (vF "NoName" "name" (aD (aB 0) aK)) aK)))))))) (aJ 2))
 (bD [] (bP (oS false) (aD (eW [3] (kK mR (aB 2)) (aJ 3) cT (bT 1 bY (aD (aB 3) aK))) aK)))))))
def tS:List T->Res T:=λts=>bN (tY (cO 4 ts))
def qW:List T->Res T:=λts=>jA (kQ (cO 10 (.ins true "Archive" [] []::ts)))
def ba2:Fr->bO:=
 (aQ (bH [] (bT 1 iO (aD (aB 0) aK)) (aJ 0))
 (aQ (bH [] (vD (bT 3 tZ (aD (aB 0) (aD (aE aO (cR (aD (dC (.int 12)) (aD (dC (.int 300)) (aD (dC (.int 5)) aK)))) (aE bQ (bT 2 pO (aD (aB 0) (aD (dC (.int 0)) aK))) (dC (.int 3)))) (aD (dC (.int 8)) aK))))) (aJ 1))
 (aQ (bH [] (bG (aB 1)) (eE (aY (aJ 2) (aY (aJ 3) (aY (aJ 4) (aY (aJ 5) (aY (aJ 6) eS)))))))
 (aQ (bH [] (bT 5 qW (aD (aB 2) (aD (aB 3) (aD (bP lR (aD (aB 4) aK)) (aD (eW [12,13] (kK mR (aB 5)) (eE (aY (aJ 12) (aY (aJ 13) eS))) cT (pH (aD (bG (aB 12)) (aD (bP lR (aD (aB 13) aK)) aK)))) (aD (bP lR (aD (aB 6) aK)) aK)))))) (aJ 7))
 (aQ (bH [] (bG (aE aO (cR (aD (aE dF (aB 3) (aB 2)) (aD (dC (.int 300)) (aD (dC (.int 3)) aK)))) (aE bQ (aE gL (bT 2 pO (aD (aB 0) (aD (dC (.int 0)) aK))) (dC (.int 3))) (dC (.int 3))))) (aJ 8))
 (aQ (pI (kK zZ (vD (aE bK (oQ lO (aB 0) (gB (dC (.int 1))) (gB (dC (.int 25)))) (cR (aD (dC (.int 5)) aK))))) (aJ 9) (aQ (bH [] (bP sG (aD (aB 9) aK)) (aJ 10))
 (aQ (bH [] (bT 2 qU (aD (vD (bT 3 rA (aD (aB 1) (aD (aE gL (aB 10) (dC (.int 1000))) (aD (aB 8) aK))))) (aD (aE bK (aE gK (aE bQ (aB 10) (dC (.int 1000))) (dC (.int 7919))) (aE gL (aB 10) (dC (.int 1000)))) aK))) (aJ 11))
 (dA (kM (kT (bT 3 oW (aD (aB 1) (aD (aB 7) (aD (aB 11) aK)))))) (bD [] (dC (.bl false))) bM))))
 (aQ (dA (kM (kT (bT 2 tS (aD (aE aO (aB 4) (dC (.int 0))) (aD (aB 2) aK))))) (bD [] (dC (.bl false))) bM)
 (bD [] (bT 3 oW (aD (aB 1) (aD (aB 7) (aD (cR (aD (dC (.str "ink")) (aD (bG (aE aO (aB 4) (dC (.int 0)))) (aD (dC (.str "gall")) (aD (aE rY (dC (.int 10)) (dC (.int 6))) (aD (dC (.int 0)) aK)))))) aK))))))))))))
def bb2:List T->Res T:=λts=>bN (ba2 (cO 14 ts))
abbrev zW:Stmt:=dW 84
abbrev rL:Stmt:=dW 85
abbrev ac9:Stmt:=dW 69
abbrev am0:Stmt:=dW 70
abbrev aj3:Stmt:=dW 71
abbrev ag3:Stmt:=dW 72
abbrev af1:Stmt:=dW 73
abbrev ap5:Stmt:=dW 74
abbrev ar5:Stmt:=dW 18
abbrev wE:Stmt:=dW 19
abbrev ac3:Stmt:=dW 63
abbrev am1:Stmt:=dW 20
abbrev an9:Stmt:=dW 21
abbrev ah3:Stmt:=dW 64
abbrev aj6:Stmt:=dW 28
abbrev ay4:Stmt:=dW 65
abbrev al5:Stmt:=dW 30
abbrev aw1:Stmt:=dW 66
abbrev lF:Stmt:=kP (dW 67) 0
abbrev ah1:Stmt:=dW 75
abbrev ay1:Stmt:=dW 76
abbrev af2:Stmt:=dW 78
abbrev bn4:Stmt:=dW 45
abbrev al9:Stmt:=dW 46
abbrev jM:Stmt:=kP (dW 67) 1
abbrev ax9:Stmt:=dW 29
abbrev bv2:Stmt:=dW 22
abbrev dQ:Stmt:=kP (dW 35) 0
abbrev ab1:Stmt:=dW 47
abbrev xL:Stmt:=dW 44
abbrev ah2:Stmt:=dW 31
abbrev yC:Stmt:=dW 48
abbrev xJ:Stmt:=dW 49
abbrev uV:Stmt:=dW 50
abbrev xF:Stmt:=dW 51
abbrev zU:Stmt:=dW 52
abbrev wH:Stmt:=dW 53
abbrev yD:Stmt:=dW 54
abbrev ad3:Stmt:=dW 56
abbrev an3:Stmt:=dW 79
abbrev aa9:Stmt:=dW 80
abbrev ax0:Stmt:=dW 81
abbrev dI:Stmt:=kP (dW 35) 3
abbrev xI:Stmt:=dW 77
abbrev aq3:Stmt:=dW 82
abbrev au4:Stmt:=dW 83
abbrev uD:Stmt:=dW 86
abbrev ad0:Stmt:=kP (dW 12) 0
abbrev wJ:Stmt:=kP (dW 10) 0
abbrev xW:Stmt:=kP (dW 9) 0
abbrev ad1:Stmt:=kP (dW 8) 0
abbrev aa0:Stmt:=kP (dW 7) 0
abbrev tR:Stmt:=kP (dW 3) 0
abbrev ac0:Stmt:=kP (dW 14) 0
end
structure Txt (w:World) (K:PySem.W.Frag) (cn:Str->Option Addr) (mg:Str->Option Value) (c_Ink c_Reign c_Under c_Between c_After c_Same c_Within c_Apart c_Archive c_BadArchive c_BadSaying c_NoAge c_Stuck c_NoYear c_NoGap c_TooMany c_NoNumber c_NoDating c_BadRow c_NoRow c_NoName c_ArchiveError:Addr) (pZ uO gS:List (Str×Value)):Prop where
 bv5:mg "ValueError"=none
 aw2:mg "abs"=none
 uH:mg "all"=none
 eb0:mg "bool"=none
 an4:mg "divmod"=none
 ax2:mg "int"=none
 bZ:mg "isinstance"=none
 fB:mg "len"=none
 tO:mg "list"=none
 cf1:mg "max"=none
 wS:mg "min"=none
 jJ:mg "range"=none
 ec4:mg "set"=none
 bc2:mg "str"=none
 de1:mg "zip"=none
 g_DARKEST:kY mg "DARKEST" (.int 1000000)
 g_FARTHEST_END:kY mg "FARTHEST_END" (.int 3000)
 g_FARTHEST_YEAR:kY mg "FARTHEST_YEAR" (.int 4000)
 g_LETTERS:kY mg "LETTERS" (.str "abcdefghijklmnopqrstuvwxyz")
 g_LONGEST_REIGN:kY mg "LONGEST_REIGN" (.int 100)
 g_LONGEST_SPAN:kY mg "LONGEST_SPAN" (.int 300)
 g_MOST_AGES:kY mg "MOST_AGES" (.int 60)
 g_MOST_INKS:kY mg "MOST_INKS" (.int 6)
 g_MOST_LETTERS_archives:kY mg "MOST_LETTERS_archives" (.int 8)
 g_MOST_LETTERS_words:kY mg "MOST_LETTERS_words" (.int 8)
 g_MOST_REIGNS:kY mg "MOST_REIGNS" (.int 8)
 d_NUMBERS:yV w K mg "NUMBERS" pZ
 g_NUMBERS:GD K cn kt_NUMBERS pZ
 d_PARTS:yV w K mg "PARTS" uO
 g_PARTS:GD K cn kt_PARTS uO
 rO:cn "Ink"=some c_Ink
 aj2:Cls K c_Ink
 mB:cn "Reign"=some c_Reign
 vV:Cls K c_Reign
 mD:cn "Under"=some c_Under
 vY:Cls K c_Under
 iP:cn "Between"=some c_Between
 rN:Cls K c_Between
 lY:cn "After"=some c_After
 vX:Cls K c_After
 oP:cn "Same"=some c_Same
 yG:Cls K c_Same
 kE:cn "Within"=some c_Within
 tP:Cls K c_Within
 lZ:cn "Apart"=some c_Apart
 vW:Cls K c_Apart
 gY:cn "Archive"=some c_Archive
 oO:Cls K c_Archive
 aq4:NoAttr K c_Archive "first"
 bz6:NoAttr K c_Ink "high"
 bf1:NoAttr K c_Reign "high"
 bi1:NoAttr K c_Under "high"
 an6:NoAttr K c_Between "high"
 bh1:NoAttr K c_After "high"
 bi5:NoAttr K c_Same "high"
 ak8:NoAttr K c_Within "high"
 be1:NoAttr K c_Apart "high"
 ay6:NoAttr K c_Archive "inks"
 ak2:NoAttr K c_Archive "letters"
 cb1:NoAttr K c_Ink "low"
 bx5:NoAttr K c_Reign "low"
 bh5:NoAttr K c_Under "low"
 an8:NoAttr K c_Between "low"
 bq5:NoAttr K c_After "low"
 bd7:NoAttr K c_Same "low"
 bm1:NoAttr K c_Within "low"
 bp5:NoAttr K c_Apart "low"
 ai2:NoAttr K c_Archive "present"
 az2:NoAttr K c_Archive "reigns"
 bl1:NoAttr K c_Ink "spoken"
 aq6:NoAttr K c_Reign "spoken"
 aw6:NoAttr K c_Under "spoken"
 aa3:NoAttr K c_Between "spoken"
 as6:NoAttr K c_After "spoken"
 am8:NoAttr K c_Same "spoken"
 al4:NoAttr K c_Within "spoken"
 am6:NoAttr K c_Apart "spoken"
 ba7:NoAttr K c_Ink "text"
 bz0:NoAttr K c_Reign "text"
 bg1:NoAttr K c_Under "text"
 au6:NoAttr K c_Between "text"
 ba1:NoAttr K c_After "text"
 bm5:NoAttr K c_Same "text"
 as8:NoAttr K c_Within "text"
 bb1:NoAttr K c_Apart "text"
 iK:cn "BadArchive"=some c_BadArchive
 eg_BadArchive:ErrG K c_BadArchive
 te_BadArchive:zL K mg "BadArchive" c_BadArchive "part" "BadArchive.__init__" tR
 lL:cn "BadSaying"=some c_BadSaying
 eg_BadSaying:ErrG K c_BadSaying
 e0_BadSaying:zN K mg "BadSaying" c_BadSaying
 sI:cn "NoAge"=some c_NoAge
 eg_NoAge:ErrG K c_NoAge
 e0_NoAge:zN K mg "NoAge" c_NoAge
 sJ:cn "Stuck"=some c_Stuck
 eg_Stuck:ErrG K c_Stuck
 e0_Stuck:zN K mg "Stuck" c_Stuck
 nX:cn "NoYear"=some c_NoYear
 eg_NoYear:ErrG K c_NoYear
 te_NoYear:zL K mg "NoYear" c_NoYear "year" "NoYear.__init__" aa0
 pM:cn "NoGap"=some c_NoGap
 eg_NoGap:ErrG K c_NoGap
 te_NoGap:zL K mg "NoGap" c_NoGap "gap" "NoGap.__init__" ad1
 mC:cn "TooMany"=some c_TooMany
 eg_TooMany:ErrG K c_TooMany
 te_TooMany:zL K mg "TooMany" c_TooMany "letter" "TooMany.__init__" xW
 kJ:cn "NoNumber"=some c_NoNumber
 eg_NoNumber:ErrG K c_NoNumber
 te_NoNumber:zL K mg "NoNumber" c_NoNumber "number" "NoNumber.__init__" wJ
 mO:cn "NoDating"=some c_NoDating
 eg_NoDating:ErrG K c_NoDating
 e0_NoDating:zN K mg "NoDating" c_NoDating
 nY:cn "BadRow"=some c_BadRow
 eg_BadRow:ErrG K c_BadRow
 te_BadRow:zL K mg "BadRow" c_BadRow "row" "BadRow.__init__" ad0
 sH:cn "NoRow"=some c_NoRow
 eg_NoRow:ErrG K c_NoRow
 e0_NoRow:zN K mg "NoRow" c_NoRow
 nW:cn "NoName"=some c_NoName
 eg_NoName:ErrG K c_NoName
 te_NoName:zL K mg "NoName" c_NoName "name" "NoName.__init__" ac0
 ct_ArchiveError:cj0 K mg "ArchiveError" c_ArchiveError
 ab_BadArchive_ArchiveError:oC K c_BadArchive c_ArchiveError
 ab_BadSaying_ArchiveError:oC K c_BadSaying c_ArchiveError
 ab_NoAge_ArchiveError:oC K c_NoAge c_ArchiveError
 ab_Stuck_ArchiveError:oC K c_Stuck c_ArchiveError
 ab_NoYear_ArchiveError:oC K c_NoYear c_ArchiveError
 ab_NoGap_ArchiveError:oC K c_NoGap c_ArchiveError
 ab_TooMany_ArchiveError:oC K c_TooMany c_ArchiveError
 ab_NoNumber_ArchiveError:oC K c_NoNumber c_ArchiveError
 ab_NoDating_ArchiveError:oC K c_NoDating c_ArchiveError
 ab_BadRow_ArchiveError:oC K c_BadRow c_ArchiveError
 ab_NoRow_ArchiveError:oC K c_NoRow c_ArchiveError
 ab_NoName_ArchiveError:oC K c_NoName c_ArchiveError
 gc_NoAge:kY mg "NoAge" (.ref c_NoAge)
 kn_NoAge:mY K (.ref c_NoAge)
 kv_NoAge:∀q∈[c_BadArchive,c_BadSaying,c_NoAge,c_Stuck,c_NoYear,c_NoGap,c_TooMany,c_NoNumber,c_NoDating,c_BadRow,c_NoRow,c_NoName].zip (b1 2),nU K q.1 (.ref c_NoAge) q.2
 gc_BadSaying:kY mg "BadSaying" (.ref c_BadSaying)
 kn_BadSaying:mY K (.ref c_BadSaying)
 kv_BadSaying:∀q∈[c_BadArchive,c_BadSaying,c_NoAge,c_Stuck,c_NoYear,c_NoGap,c_TooMany,c_NoNumber,c_NoDating,c_BadRow,c_NoRow,c_NoName].zip (b1 1),nU K q.1 (.ref c_BadSaying) q.2
 gc_Stuck:kY mg "Stuck" (.ref c_Stuck)
 kn_Stuck:mY K (.ref c_Stuck)
 kv_Stuck:∀q∈[c_BadArchive,c_BadSaying,c_NoAge,c_Stuck,c_NoYear,c_NoGap,c_TooMany,c_NoNumber,c_NoDating,c_BadRow,c_NoRow,c_NoName].zip (b1 3),nU K q.1 (.ref c_Stuck) q.2
 gc_BadArchive:kY mg "BadArchive" (.ref c_BadArchive)
 kn_BadArchive:mY K (.ref c_BadArchive)
 kv_BadArchive:∀q∈[c_BadArchive,c_BadSaying,c_NoAge,c_Stuck,c_NoYear,c_NoGap,c_TooMany,c_NoNumber,c_NoDating,c_BadRow,c_NoRow,c_NoName].zip (b1 0),nU K q.1 (.ref c_BadArchive) q.2
 gc_NoNumber:kY mg "NoNumber" (.ref c_NoNumber)
 kn_NoNumber:mY K (.ref c_NoNumber)
 kv_NoNumber:∀q∈[c_BadArchive,c_BadSaying,c_NoAge,c_Stuck,c_NoYear,c_NoGap,c_TooMany,c_NoNumber,c_NoDating,c_BadRow,c_NoRow,c_NoName].zip (b1 7),nU K q.1 (.ref c_NoNumber) q.2
 gc_TooMany:kY mg "TooMany" (.ref c_TooMany)
 kn_TooMany:mY K (.ref c_TooMany)
 kv_TooMany:∀q∈[c_BadArchive,c_BadSaying,c_NoAge,c_Stuck,c_NoYear,c_NoGap,c_TooMany,c_NoNumber,c_NoDating,c_BadRow,c_NoRow,c_NoName].zip (b1 6),nU K q.1 (.ref c_TooMany) q.2
 gc_NoGap:kY mg "NoGap" (.ref c_NoGap)
 kn_NoGap:mY K (.ref c_NoGap)
 kv_NoGap:∀q∈[c_BadArchive,c_BadSaying,c_NoAge,c_Stuck,c_NoYear,c_NoGap,c_TooMany,c_NoNumber,c_NoDating,c_BadRow,c_NoRow,c_NoName].zip (b1 5),nU K q.1 (.ref c_NoGap) q.2
 gc_NoYear:kY mg "NoYear" (.ref c_NoYear)
 kn_NoYear:mY K (.ref c_NoYear)
 kv_NoYear:∀q∈[c_BadArchive,c_BadSaying,c_NoAge,c_Stuck,c_NoYear,c_NoGap,c_TooMany,c_NoNumber,c_NoDating,c_BadRow,c_NoRow,c_NoName].zip (b1 4),nU K q.1 (.ref c_NoYear) q.2
 gc_NoName:kY mg "NoName" (.ref c_NoName)
 kn_NoName:mY K (.ref c_NoName)
 kv_NoName:∀q∈[c_BadArchive,c_BadSaying,c_NoAge,c_Stuck,c_NoYear,c_NoGap,c_TooMany,c_NoNumber,c_NoDating,c_BadRow,c_NoRow,c_NoName].zip (b1 11),nU K q.1 (.ref c_NoName) q.2
 gc_NoRow:kY mg "NoRow" (.ref c_NoRow)
 kn_NoRow:mY K (.ref c_NoRow)
 kv_NoRow:∀q∈[c_BadArchive,c_BadSaying,c_NoAge,c_Stuck,c_NoYear,c_NoGap,c_TooMany,c_NoNumber,c_NoDating,c_BadRow,c_NoRow,c_NoName].zip (b1 10),nU K q.1 (.ref c_NoRow) q.2
 gc_BadRow:kY mg "BadRow" (.ref c_BadRow)
 kn_BadRow:mY K (.ref c_BadRow)
 kv_BadRow:∀q∈[c_BadArchive,c_BadSaying,c_NoAge,c_Stuck,c_NoYear,c_NoGap,c_TooMany,c_NoNumber,c_NoDating,c_BadRow,c_NoRow,c_NoName].zip (b1 9),nU K q.1 (.ref c_BadRow) q.2
 gc_NoDating:kY mg "NoDating" (.ref c_NoDating)
 kn_NoDating:mY K (.ref c_NoDating)
 kv_NoDating:∀q∈[c_BadArchive,c_BadSaying,c_NoAge,c_Stuck,c_NoYear,c_NoGap,c_TooMany,c_NoNumber,c_NoDating,c_BadRow,c_NoRow,c_NoName].zip (b1 8),nU K q.1 (.ref c_NoDating) q.2
 kn_ValueError:mY K (.ty "ValueError")
 kv_ValueError:∀q∈[c_BadArchive,c_BadSaying,c_NoAge,c_Stuck,c_NoYear,c_NoGap,c_TooMany,c_NoNumber,c_NoDating,c_BadRow,c_NoRow,c_NoName].zip (List.replicate 12 true),nU K q.1 (.ty "ValueError") q.2
 gc_ArchiveError:kY mg "ArchiveError" (.ref c_ArchiveError)
 kn_ArchiveError:mY K (.ref c_ArchiveError)
 kv_ArchiveError:∀q∈[c_BadArchive,c_BadSaying,c_NoAge,c_Stuck,c_NoYear,c_NoGap,c_TooMany,c_NoNumber,c_NoDating,c_BadRow,c_NoRow,c_NoName].zip (List.replicate 12 true),nU K q.1 (.ref c_ArchiveError) q.2
 bd1:fM K mg "_law_stirred" zW
 zT:fM K mg "_law_stirred_script" rL
 cb5:fM K mg "_law_got" ac9
 bu5:fM K mg "_law_spread" am0
 bx6:fM K mg "_law_names" aj3
 bc7:fM K mg "_law_table" ag3
 br5:fM K mg "_law_reigns" af1
 cg1:fM K mg "_law_base" ap5
 cc1:fM K mg "is_whole" ar5
 at6:fM K mg "is_whole_from" wE
 by6:fM K mg "are_years" ac3
 bo5:fM K mg "is_made_of" am1
 ca5:fM K mg "is_name" an9
 bw6:fM K mg "are_names" ah3
 ca1:fM K mg "is_table" aj6
 cd1:fM K mg "are_inks" ay4
 ce1:fM K mg "is_reign" al5
 bk5:fM K mg "are_reigns" aw1
 bt5:fM K mg "_law_of_one" ah1
 by5:fM K mg "_law_saying" ay1
 bl5:fM K mg "_law_spoilt" af2
 co9:fM K mg "is_due" bn4
 cd5:fM K mg "are_due" al9
 ce5:fM K mg "ages_of" ax9
 cq9:fM K mg "spaced" bv2
 bn5:fM K mg "ink_saying" ab1
 aw8:fM K mg "reign_called" xL
 bs5:fM K mg "reign_year" ah2
 ax8:fM K mg "reign_saying" yC
 aq8:fM K mg "under_saying" xJ
 ao4:fM K mg "between_saying" uV
 av8:fM K mg "after_saying" xF
 bc1:fM K mg "same_saying" zU
 ao6:fM K mg "within_saying" wH
 al8:fM K mg "apart_saying" yD
 bb7:fM K mg "saying_of" ad3
 bv6:fM K mg "_law_shape" an3
 cc5:fM K mg "_law_ink" aa9
 bj5:fM K mg "_law_judged" ax0
 ao8:fM K mg "_law_one_kind" xI
 bu6:fM K mg "_law_right" aq3
 ci1:fM K mg "_law_made" au4
 ea0:vP K mg "Ink" c_Ink "Saying.__init__" dQ
 cs9:vP K mg "Reign" c_Reign "Saying.__init__" dQ
 cp9:vP K mg "Under" c_Under "Saying.__init__" dQ
 cz0:vP K mg "Between" c_Between "Saying.__init__" dQ
 cr9:vP K mg "After" c_After "Saying.__init__" dQ
 da5:vP K mg "Same" c_Same "Saying.__init__" dQ
 cf5:vP K mg "Within" c_Within "Saying.__init__" dQ
 cn9:vP K mg "Apart" c_Apart "Saying.__init__" dQ
 ch1:vP K mg "Archive" c_Archive "Archive.__init__" lF
 ar4:uU K c_Archive "table" "Archive.table" jM
 bw5:uU K c_Ink "shown" "Saying.shown" dI
 ar8:uU K c_Reign "shown" "Saying.shown" dI
 ay8:uU K c_Under "shown" "Saying.shown" dI
 ap4:uU K c_Between "shown" "Saying.shown" dI
 au8:uU K c_After "shown" "Saying.shown" dI
 bj1:uU K c_Same "shown" "Saying.shown" dI
 ap6:uU K c_Within "shown" "Saying.shown" dI
 ap8:uU K c_Apart "shown" "Saying.shown" dI
 cz4:yV w K mg "MAKERS" gS
 bk1:gS.lookup ("ink":Str)=mg "ink_saying"
 av6:gS.lookup ("reign":Str)=mg "reign_saying"
 ar6:gS.lookup ("under":Str)=mg "under_saying"
 ab3:gS.lookup ("between":Str)=mg "between_saying"
 az6:gS.lookup ("after":Str)=mg "after_saying"
 at8:gS.lookup ("same":Str)=mg "same_saying"
 am4:gS.lookup ("within":Str)=mg "within_saying"
 ax6:gS.lookup ("apart":Str)=mg "apart_saying"
section
theorem l1{α:Type}:∀{us:List α},us.length=1->∃a,us=[a]
 |[a],_=>⟨a,rfl⟩
theorem l2{α:Type}:∀{us:List α},us.length=2->∃a b,us=[a,b]
 |[a,b],_=>⟨a,b,rfl⟩
theorem l3{α:Type}:∀{us:List α},us.length=3->∃a b c,us=[a,b,c]
 |[a,b,c],_=>⟨a,b,c,rfl⟩
theorem l4{α:Type}:∀{us:List α},us.length=4->∃a b c d,us=[a,b,c,d]
 |[a,b,c,d],_=>⟨a,b,c,d,rfl⟩
theorem l5{α:Type}:∀{us:List α},us.length=5->∃a b c d e,us=[a,b,c,d,e]
 |[a,b,c,d,e],_=>⟨a,b,c,d,e,rfl⟩
theorem l6{α:Type}:∀{us:List α},us.length=6->∃a b c d e f,us=[a,b,c,d,e,f]
 |[a,b,c,d,e,f],_=>⟨a,b,c,d,e,f,rfl⟩
variable {X : Cx}
theorem px(K:PySem.W.Frag){a b:Expr}{ta tb:TE}{pos:Pos}(ha:PE X a ta)(hb:PE X b tb)(hs:bn8 b:=by exact λ_ _=>rfl)(hK:X.K=K:=by rfl):PE X (.Subscript a b pos) (tOp (rIx K) ta tb):=eh1 (es5 K hK) ha hb hs
theorem pz(i:Nat){x:Str}{e:Expr}{te:TE}{pos pos':Pos}{q:List Str}{c:Scope}(S:aW X.N q c)(he:PE X e te)(hi:X.N[i]?=some x:=by rfl)(hx:Loc X.env.scope x:=by first|exact .inl rfl|exact .inr rfl)(hs:swapsWith e (some (.Name x pos')) pos.line X.env=pure false:=by rfl)(hf:X.fn x=true\/X.env.scope.names.lookup x=some .local:=by first|exact .inl rfl|exact .inr rfl|assumption):PS X (.Assign [.Name x pos'] e pos) (ad7 te (wG i)):=dh5 S.nd hi hx he hs hf
theorem pn(i:Nat){x:Str}{pos:Pos}{q:List Str}{c:Scope}(S:aW X.N q c)(hi:X.N[i]?=some x:=by rfl)(hx:Loc X.env.scope x:=by first|exact .inl rfl|exact .inr rfl)(hf:X.fn x=true\/X.env.scope.names.lookup x=some .local:=by first|exact .inl rfl|exact .inr rfl|assumption):PG X (.Name x pos) (wG i):=du4 S.nd hi hx hf
theorem pf{k n:Nat}{x:Str}{ps:List Str}{sp:Sp}{p pos:Pos}{e:Expr}{es:List Expr}{t:TA}(d:gT X.prog X.w X.K X.mg X.base k x ps sp)(hr:Room n X.A)(ha:PA X (e::es) t)(hk:k<=n:=by decide)(hg:Gl X x:=by rfl)
 (hdb:(x==("__debug__":Str))=false:=by decide)(he:starEach (e::es) X.env=(false,eval e X.env)::starEach es X.env:=by rfl)(hpl:(backTo pos (starEach es X.env)).any (·.1)=false:=by rfl):PE X (.Call (.Name x p) (e::es) [] pos) (cf7 sp t):=dm9 d (hr.mono hk) ha hg hdb he hpl
theorem aN{e:Expr}{te:TE}(ha:PE X e te)(hs:starEach [e] X.env=[(false,eval e X.env)]:=by rfl):PA X [e] (wI te ac4):=aG ha qS hs
theorem pc{a b:Expr}{ta tb:TE}{pos:Pos}{op:CmpOp}{r:R2}(ho:OpR X (compareOp op) r)(ha:PE X a ta)(hb:PE X b tb)(h:op≠ .In:=by decide)(h2:op≠ .NotIn:=by decide):PT X (.Compare a [op] [b] pos) (bn1 (tOp r ta tb)):=bj7 ho ha hb (fT _ h h2)
theorem oe(K:PySem.W.Frag){k:Nat}(hr:Room k X.A)(hK:X.K=K:=by rfl):OpR X (compareOp .Eq) (bx9 K cP):=db8 K hr (by decide) hK
theorem pap(K:PySem.W.Frag){o e:Expr}{es:List Expr}{to:TE}{t:TA}{apos cpos:Pos}(ho:PE X o to)(ha:PA X (e::es) t)(hbase:attributeBase o "append" X.env (eval o X.env)=eval o X.env:=by rfl)
 (hfew:((backTo cpos (starEach (e::es) X.env)).all (λx=>!x.1)&&(backToKw cpos (keywordEach [] X.env)).all (λx=>x.1.isSome)
  &&decide ((e::es).length+([]:List Keyword).length+(if([]:List Keyword).isEmpty then 0 else 1)<30))=true:=by rfl)
 (hline:(apos.endLine==cpos.line)=true:=by rfl)(hs:starEach (e::es) X.env=(false,eval e X.env)::starEach es X.env:=by rfl)(hplain:(backTo cpos (starEach es X.env)).any (·.1)=false:=by rfl)(hK:X.K=K:=by rfl):
 PE X (.Call (.Attribute o "append" apos) (e::es) [] cpos) (tBM K "list" ay7 to t):=al0 K PySem.F.plainAttrs_list PySem.F.slot_list_append PySem.F.type_list_append cs2 ho ha hbase hfew hline hs hplain hK
theorem pm(ks:List Nat){tg iter elt:Expr}{ifs:List Expr}{scope:Scope}{pos:Pos}{wi:TI}{g:TG}{tc:TT}{te:TE}(hit:PI X tg iter wi)
 (hg:∀cl C s₀ H₀ ex,PG (nI X scope cl C s₀ H₀ ex) tg g)(hi:∀cl C s₀ H₀ ex,PIf (nI X scope cl C s₀ H₀ ex) ifs tc)(he:∀cl C s₀ H₀ ex,PE (nI X scope cl C s₀ H₀ ex) elt te)(S:CScope X ks scope:=by exact⟨rfl,by decide+kernel,by decide+kernel,by rfl,by rfl⟩)(hc:X.calm=true:=by rfl)
 (hs:∀x,foldedSetIterable iter X.env x=pure x:=by intro _;rfl):PE X (.ListComp elt [⟨tg,iter,ifs,0⟩] scope pos) (by9 ks wi g tc te):=dn2 S hc hit hg hi he hs
theorem pk(i:Nat){y:Str}{py spos:Pos}{q:List Str}{c:Scope}(F:aW X.N q c)(ks:List Nat){tg iter elt:Expr}{ifs:List Expr}{scope:Scope}{pos:Pos}{wi:TI}{g:TG}{tc:TT}{te:TE}(hit:PI X tg iter wi)
 (hg:∀cl C s₀ H₀ ex,PG (nI X scope cl C s₀ H₀ ex) tg g)(hi:∀cl C s₀ H₀ ex,PIf (nI X scope cl C s₀ H₀ ex) ifs tc)(he:∀cl C s₀ H₀ ex,PE (nI X scope cl C s₀ H₀ ex) elt te)(hi':X.N[i]?=some y:=by rfl)(hy:Loc X.env.scope y:=by first|exact .inl rfl|exact .inr rfl)(S:CScope X ks scope:=by exact⟨rfl,by decide+kernel,by decide+kernel,by rfl,by rfl⟩)(hc:X.calm=true:=by rfl)
 (hsw:swapsWith (.ListComp elt [⟨tg,iter,ifs,0⟩] scope pos) (some (.Name y py)) spos.line X.env=pure true:=by rfl)
 (hs:∀x,foldedSetIterable iter X.env x=pure x:=by intro _;rfl)(hf:X.fn y=true\/X.env.scope.names.lookup y=some .local:=by first|exact .inl rfl|exact .inr rfl|assumption):PS X (.Assign [.Name y py] (.ListComp elt [⟨tg,iter,ifs,0⟩] scope pos) spos) (at3 i ks wi g tc te):=bm9 F.nd hi' hy S hc hit hg hi he hsw hs hf
end
section
local macro_rules | `(tactic| walk_at "u") => `(tactic| (intro _ _ _ _ _ _ us hl; first | (obtain ⟨_, e⟩ := l1 hl; subst e; exact rfl) | (obtain ⟨_, _, e⟩ := l2 hl; subst e; exact rfl) | (obtain ⟨_, _, _, e⟩ := l3 hl; subst e; exact rfl) | (obtain ⟨_, _, _, _, e⟩ := l4 hl; subst e; exact rfl) | (obtain ⟨_, _, _, _, _, e⟩ := l5 hl; subst e; exact rfl) | (obtain ⟨_, _, _, _, _, _, e⟩ := l6 hl; subst e; exact rfl)))
local macro_rules | `(tactic| walk_at "s") => `(tactic| exact ⟨rfl, rfl, rfl, by decide +kernel, rfl, by decide +kernel, by decide +kernel⟩)
theorem al7:aW ["self","row"] ["self","row"] (aL ad0):=by walk_at "s"
theorem ae4:aW ["self","number"] ["self","number"] (aL wJ):=by walk_at "s"
theorem aj5:aW ["self","letter"] ["self","letter"] (aL xW):=by walk_at "s"
theorem bo0:aW ["self","gap"] ["self","gap"] (aL ad1):=by walk_at "s"
theorem ai8:aW ["self","year"] ["self","year"] (aL aa0):=by walk_at "s"
theorem ar1:aW ["self","part"] ["self","part"] (aL tR):=by walk_at "s"
theorem aq7:aW ["self","name"] ["self","name"] (aL ac0):=by walk_at "s"
theorem fY:aW ["_law_cell","_law_place","_law_found","_law_rest","_law_turn","_law_upper","_law_lower"] ["_law_cell","_law_place"] (aL zW):=by walk_at "s"
theorem eZ:aW ["_law_script","_law_found","_law_k","_law_cell","_law_power"] ["_law_script"] (aL rL):=by walk_at "s"
theorem ay5:aW ["_law_script","_law_place","_law_cell"] ["_law_script","_law_place"] (aL ac9):=by walk_at "s"
theorem eF:aW ["_law_number","_law_many","_law_found","_law_rest","_law_k","_law_digits","_law_turn","_law_upper","_law_lower"] ["_law_number","_law_many"] (aL am0):=by walk_at "s"
theorem iA:aW ["_law_number","_law_many","_law_signs","_law_rest","_law_some","_law_size","_law_at","_law_k"] ["_law_number","_law_many"] (aL aj3):=by walk_at "s"
theorem lG:aW ["_law_number","_law_most","_law_xs","_law_dark","_law_found","_law_fall"] ["_law_number","_law_most"] (aL ag3):=by walk_at "s"
theorem jH:aW ["_law_number","_law_first","_law_wide","_law_names_here","_law_xs","_law_found","_law_k","_law_begin"] ["_law_number","_law_first","_law_wide"] (aL af1):=by walk_at "s"
theorem gX:aW ["_law_script","_law_wide","_law_many","_law_xs","_law_first","_law_present","_law_letters","_law_inks","_law_k","_law_name","_law_reigns_here"] ["_law_script","_law_wide","_law_many"] (aL ap5):=by walk_at "s"
theorem bg6:aW ["some"] ["some"] (aL ar5):=by walk_at "s"
theorem au3:aW ["some","low","high"] ["some","low","high"] (aL wE):=by walk_at "s"
theorem ba4:aW ["first","present"] ["first","present"] (aL ac3):=by walk_at "s"
theorem zY:aW ["word","signs","most","sign"] ["word","signs","most"] (aL am1):=by walk_at "s"
theorem cv0:aW ["word"] ["word"] (aL an9):=by walk_at "s"
theorem ac2:aW ["names","least","most","name"] ["names","least","most"] (aL ah3):=by walk_at "s"
theorem wW:aW ["some","dark","age"] ["some"] (aL aj6):=by walk_at "s"
theorem oY:aW ["inks","name","table"] ["inks"] (aL ay4):=by walk_at "s"
theorem bc6:aW ["begin","length"] ["begin","length"] (aL al5):=by walk_at "s"
theorem iJ:aW ["reigns","name","begin","length"] ["reigns"] (aL aw1):=by walk_at "s"
theorem iH:aW ["self","first","present","letters","inks","reigns","name","table","begin","length"] ["self","first","present","letters","inks","reigns"] (aL lF):=by walk_at "s"
theorem dD:aW ["_law_base_here","_law_name","_law_xs","_law_first","_law_present","_law_letters","_law_inks","_law_reigns_here","_law_ink_here","_law_table_here","_law_real","_law_dark","_law_reign","_law_begin","_law_length","_law_low"] ["_law_base_here","_law_name","_law_xs"] (aL ah1):=by walk_at "s"
theorem fG:aW ["_law_base_here","_law_number","_law_far","_law_first","_law_present","_law_letters","_law_inks","_law_reigns_here","_law_xs","_law_a","_law_b","_law_low"] ["_law_base_here","_law_number","_law_far"] (aL ay1):=by walk_at "s"
theorem jG:aW ["_law_words","_law_number","_law_way","_law_rest","_law_at","_law_some","_law_place"] ["_law_words","_law_number"] (aL af2):=by walk_at "s"
theorem ap0:aW ["archive","due","part","ink","reign"] ["archive","due","part"] (aL bn4):=by walk_at "s"
theorem yM:aW ["archive","word","parts","due","part"] ["archive","word","parts"] (aL al9):=by walk_at "s"
theorem pL:aW ["self","name","other","table"] ["self","name"] (aL jM):=by walk_at "s"
theorem qP:aW ["table","dark","error","greatest","last","ages","most","age"] ["table","dark","error","greatest"] (aL ax9):=by walk_at "s"
theorem am9:aW ["parts","part"] ["parts"] (aL bv2):=by walk_at "s"
theorem dJ:aW ["self","archive","word","parts","low","high","names","part","due","name"] ["self","archive","word","parts","low","high"] (aL dQ):=by walk_at "s"
theorem ab0:aW ["archive","parts","ages"] ["archive","parts"] (aL ab1):=by walk_at "s"
theorem wF:aW ["archive","name","reign"] ["archive","name"] (aL xL):=by walk_at "s"
theorem bm0:aW ["begin","length","k"] ["begin","length","k"] (aL ah2):=by walk_at "s"
theorem qO:aW ["archive","parts","reign","year"] ["archive","parts"] (aL yC):=by walk_at "s"
theorem wL:aW ["archive","parts","reign"] ["archive","parts"] (aL xJ):=by walk_at "s"
theorem ay2:aW ["archive","parts"] ["archive","parts"] (aL uV):=by walk_at "s"
theorem ad5:aW ["archive","parts"] ["archive","parts"] (aL xF):=by walk_at "s"
theorem ae8:aW ["archive","parts"] ["archive","parts"] (aL zU):=by walk_at "s"
theorem ab4:aW ["archive","parts"] ["archive","parts"] (aL wH):=by walk_at "s"
theorem as5:aW ["archive","parts"] ["archive","parts"] (aL yD):=by walk_at "s"
theorem bd4:aW ["archive","word","parts"] ["archive","word","parts"] (aL ad3):=by walk_at "s"
theorem qT:aW ["_law_word","_law_parts","_law_shapes","_law_shape_here","_law_k"] ["_law_word","_law_parts"] (aL an3):=by walk_at "s"
theorem gU:aW ["_law_base_here","_law_parts","_law_first","_law_present","_law_letters","_law_inks","_law_reigns_here","_law_tables","_law_age","_law_name","_law_table_here"] ["_law_base_here","_law_parts"] (aL aa9):=by walk_at "s"
theorem cW:aW ["_law_base_here","_law_word","_law_parts","_law_first","_law_present","_law_letters","_law_inks","_law_reigns_here","_law_lengths","_law_good","_law_reign"] ["_law_base_here","_law_word","_law_parts"] (aL ax0):=by walk_at "s"
theorem fO:aW ["self"] ["self"] (aL dI):=by walk_at "s"
theorem mQ:aW ["_law_e","_law_found"] ["_law_e"] (aL xI):=by walk_at "s"
theorem hU:aW ["_law_base_here","_law_archive","_law_words","_law_handed","_law_caught","_law_saying_here","_law_e","_law_due","_law_word"] ["_law_base_here","_law_archive","_law_words"] (aL aq3):=by walk_at "s"
theorem sT:aW ["_law_name","_law_number","_law_some","_law_refusal"] ["_law_name","_law_number"] (aL au4):=by walk_at "s"
theorem iS:aW ["_law_script","_law_base_here","_law_first","_law_present","_law_letters","_law_inks","_law_reigns_here","_law_archive","_law_far","_law_cell","_law_number","_law_words","_law_name","_law_table_here"] ["_law_script"] (aL uD):=by walk_at "s"
variable {P : Program} {w : World} {K : PySem.W.Frag} {cn : Str → Option Addr} {mg : Str → Option Value} {base : Heap} {c_Ink c_Reign c_Under c_Between c_After c_Same c_Within c_Apart c_Archive c_BadArchive c_BadSaying c_NoAge c_Stuck c_NoYear c_NoGap c_TooMany c_NoNumber c_NoDating c_BadRow c_NoRow c_NoName c_ArchiveError : Addr} {pZ uO gS : List (Str × Value)} (T : Txt w K cn mg c_Ink c_Reign c_Under c_Between c_After c_Same c_Within c_Apart c_Archive c_BadArchive c_BadSaying c_NoAge c_Stuck c_NoYear c_NoGap c_TooMany c_NoNumber c_NoDating c_BadRow c_NoRow c_NoName c_ArchiveError pZ uO gS)
include T
theorem cm6:kC K cn ["Archive"] "first":=bC T.gY T.oO T.aq4 (iM)
theorem dj4:kC K cn ["Ink","Reign","Under","Between","After","Same","Within","Apart"] "high":=bC T.rO T.aj2 T.bz6 (bC T.mB T.vV T.bf1 (bC T.mD T.vY T.bi1 (bC T.iP T.rN T.an6 (bC T.lY T.vX T.bh1 (bC T.oP T.yG T.bi5 (bC T.kE T.tP T.ak8 (bC T.lZ T.vW T.be1 (iM))))))))
theorem dt3:kC K cn ["Archive"] "inks":=bC T.gY T.oO T.ay6 (iM)
theorem co0:kC K cn ["Archive"] "letters":=bC T.gY T.oO T.ak2 (iM)
theorem dh9:kC K cn ["Ink","Reign","Under","Between","After","Same","Within","Apart"] "low":=bC T.rO T.aj2 T.cb1 (bC T.mB T.vV T.bx5 (bC T.mD T.vY T.bh5 (bC T.iP T.rN T.an8 (bC T.lY T.vX T.bq5 (bC T.oP T.yG T.bd7 (bC T.kE T.tP T.bm1 (bC T.lZ T.vW T.bp5 (iM))))))))
theorem cp0:kC K cn ["Archive"] "present":=bC T.gY T.oO T.ai2 (iM)
theorem ct4:kC K cn ["Archive"] "reigns":=bC T.gY T.oO T.az2 (iM)
theorem cq3:kC K cn ["Ink","Reign","Under","Between","After","Same","Within","Apart"] "spoken":=bC T.rO T.aj2 T.bl1 (bC T.mB T.vV T.aq6 (bC T.mD T.vY T.aw6 (bC T.iP T.rN T.aa3 (bC T.lY T.vX T.as6 (bC T.oP T.yG T.am8 (bC T.kE T.tP T.al4 (bC T.lZ T.vW T.am6 (iM))))))))
theorem dw4:kC K cn ["Ink","Reign","Under","Between","After","Same","Within","Apart"] "text":=bC T.rO T.aj2 T.ba7 (bC T.mB T.vV T.bz0 (bC T.mD T.vY T.bg1 (bC T.iP T.rN T.au6 (bC T.lY T.vX T.ba1 (bC T.oP T.yG T.bm5 (bC T.kE T.tP T.as8 (bC T.lZ T.vW T.bb1 (iM))))))))
theorem av4:∀(c:Str)(C:Addr),(["BadArchive","BadSaying","NoAge","Stuck","NoYear","NoGap","TooMany","NoNumber","NoDating","BadRow","NoRow","NoName"]:List Str).contains c=true->cn c=some C->PySem.W.mroIn K C (.ref c_ArchiveError)=some true:=eC (P:=λC=>PySem.W.mroIn K C (.ref c_ArchiveError)=some true) T.iK T.ab_BadArchive_ArchiveError (eC (P:=λC=>PySem.W.mroIn K C (.ref c_ArchiveError)=some true) T.lL T.ab_BadSaying_ArchiveError (eC (P:=λC=>PySem.W.mroIn K C (.ref c_ArchiveError)=some true) T.sI T.ab_NoAge_ArchiveError (eC (P:=λC=>PySem.W.mroIn K C (.ref c_ArchiveError)=some true) T.sJ T.ab_Stuck_ArchiveError (eC (P:=λC=>PySem.W.mroIn K C (.ref c_ArchiveError)=some true) T.nX T.ab_NoYear_ArchiveError (eC (P:=λC=>PySem.W.mroIn K C (.ref c_ArchiveError)=some true) T.pM T.ab_NoGap_ArchiveError (eC (P:=λC=>PySem.W.mroIn K C (.ref c_ArchiveError)=some true) T.mC T.ab_TooMany_ArchiveError (eC (P:=λC=>PySem.W.mroIn K C (.ref c_ArchiveError)=some true) T.kJ T.ab_NoNumber_ArchiveError (eC (P:=λC=>PySem.W.mroIn K C (.ref c_ArchiveError)=some true) T.mO T.ab_NoDating_ArchiveError (eC (P:=λC=>PySem.W.mroIn K C (.ref c_ArchiveError)=some true) T.nY T.ab_BadRow_ArchiveError (eC (P:=λC=>PySem.W.mroIn K C (.ref c_ArchiveError)=some true) T.sH T.ab_NoRow_ArchiveError (eC (P:=λC=>PySem.W.mroIn K C (.ref c_ArchiveError)=some true) T.nW T.ab_NoName_ArchiveError (pX))))))))))))
theorem dz7:∀(c:Str)(C:Addr),(["NoGap"]:List Str).contains c=true->cn c=some C->ErrF K C "gap":=eC (P:=λC=>ErrF K C "gap") T.pM T.te_NoGap.flds (pX)
theorem cy1:∀(c:Str)(C:Addr),(["TooMany"]:List Str).contains c=true->cn c=some C->ErrF K C "letter":=eC (P:=λC=>ErrF K C "letter") T.mC T.te_TooMany.flds (pX)
theorem dh1:∀(c:Str)(C:Addr),(["NoName"]:List Str).contains c=true->cn c=some C->ErrF K C "name":=eC (P:=λC=>ErrF K C "name") T.nW T.te_NoName.flds (pX)
theorem cd4:∀(c:Str)(C:Addr),(["NoNumber"]:List Str).contains c=true->cn c=some C->ErrF K C "number":=eC (P:=λC=>ErrF K C "number") T.kJ T.te_NoNumber.flds (pX)
theorem dn3:∀(c:Str)(C:Addr),(["BadArchive"]:List Str).contains c=true->cn c=some C->ErrF K C "part":=eC (P:=λC=>ErrF K C "part") T.iK T.te_BadArchive.flds (pX)
theorem dn6:∀(c:Str)(C:Addr),(["BadRow"]:List Str).contains c=true->cn c=some C->ErrF K C "row":=eC (P:=λC=>ErrF K C "row") T.nY T.te_BadRow.flds (pX)
theorem do4:∀(c:Str)(C:Addr),(["NoYear"]:List Str).contains c=true->cn c=some C->ErrF K C "year":=eC (P:=λC=>ErrF K C "year") T.nX T.te_NoYear.flds (pX)
theorem jT:∀c∈[c_BadArchive,c_BadSaying,c_NoAge,c_Stuck,c_NoYear,c_NoGap,c_TooMany,c_NoNumber,c_NoDating,c_BadRow,c_NoRow,c_NoName],ErrG K c:=List.forall_mem_cons.mpr ⟨T.eg_BadArchive,List.forall_mem_cons.mpr ⟨T.eg_BadSaying,List.forall_mem_cons.mpr ⟨T.eg_NoAge,List.forall_mem_cons.mpr ⟨T.eg_Stuck,List.forall_mem_cons.mpr ⟨T.eg_NoYear,List.forall_mem_cons.mpr ⟨T.eg_NoGap,List.forall_mem_cons.mpr ⟨T.eg_TooMany,List.forall_mem_cons.mpr ⟨T.eg_NoNumber,List.forall_mem_cons.mpr ⟨T.eg_NoDating,List.forall_mem_cons.mpr ⟨T.eg_BadRow,List.forall_mem_cons.mpr ⟨T.eg_NoRow,List.forall_mem_cons.mpr ⟨T.eg_NoName,nofun⟩⟩⟩⟩⟩⟩⟩⟩⟩⟩⟩⟩
theorem jY:CnL cn eN [c_BadArchive,c_BadSaying,c_NoAge,c_Stuck,c_NoYear,c_NoGap,c_TooMany,c_NoNumber,c_NoDating,c_BadRow,c_NoRow,c_NoName]:=⟨T.iK,T.lL,T.sI,T.sJ,T.nX,T.pM,T.mC,T.kJ,T.mO,T.nY,T.sH,T.nW,trivial⟩
theorem bd5:tJ K (.ref c_NoAge):=iR T.kn_NoAge
theorem bl4:∀q∈[c_BadArchive,c_BadSaying,c_NoAge,c_Stuck,c_NoYear,c_NoGap,c_TooMany,c_NoNumber,c_NoDating,c_BadRow,c_NoRow,c_NoName].zip (b1 2),rK K q.1 (.ref c_NoAge) q.2:=isEs_zip (jT T) T.kv_NoAge
theorem ce7:lV cn ki_NoAge ([c_BadArchive,c_BadSaying,c_NoAge,c_Stuck,c_NoYear,c_NoGap,c_TooMany,c_NoNumber,c_NoDating,c_BadRow,c_NoRow,c_NoName].zip (b1 2)):=tabO_zip (jY T)
theorem ao0:tJ K (.ref c_BadSaying):=iR T.kn_BadSaying
theorem ag2:∀q∈[c_BadArchive,c_BadSaying,c_NoAge,c_Stuck,c_NoYear,c_NoGap,c_TooMany,c_NoNumber,c_NoDating,c_BadRow,c_NoRow,c_NoName].zip (b1 1),rK K q.1 (.ref c_BadSaying) q.2:=isEs_zip (jT T) T.kv_BadSaying
theorem bx4:lV cn ki_BadSaying ([c_BadArchive,c_BadSaying,c_NoAge,c_Stuck,c_NoYear,c_NoGap,c_TooMany,c_NoNumber,c_NoDating,c_BadRow,c_NoRow,c_NoName].zip (b1 1)):=tabO_zip (jY T)
theorem cm5:tJ K (.ref c_Stuck):=iR T.kn_Stuck
theorem cj9:∀q∈[c_BadArchive,c_BadSaying,c_NoAge,c_Stuck,c_NoYear,c_NoGap,c_TooMany,c_NoNumber,c_NoDating,c_BadRow,c_NoRow,c_NoName].zip (b1 3),rK K q.1 (.ref c_Stuck) q.2:=isEs_zip (jT T) T.kv_Stuck
theorem cc8:lV cn ki_Stuck ([c_BadArchive,c_BadSaying,c_NoAge,c_Stuck,c_NoYear,c_NoGap,c_TooMany,c_NoNumber,c_NoDating,c_BadRow,c_NoRow,c_NoName].zip (b1 3)):=tabO_zip (jY T)
theorem bh0:tJ K (.ref c_BadArchive):=iR T.kn_BadArchive
theorem bt0:∀q∈[c_BadArchive,c_BadSaying,c_NoAge,c_Stuck,c_NoYear,c_NoGap,c_TooMany,c_NoNumber,c_NoDating,c_BadRow,c_NoRow,c_NoName].zip (b1 0),rK K q.1 (.ref c_BadArchive) q.2:=isEs_zip (jT T) T.kv_BadArchive
theorem bx0:lV cn ki_BadArchive ([c_BadArchive,c_BadSaying,c_NoAge,c_Stuck,c_NoYear,c_NoGap,c_TooMany,c_NoNumber,c_NoDating,c_BadRow,c_NoRow,c_NoName].zip (b1 0)):=tabO_zip (jY T)
theorem bf6:tJ K (.ref c_NoNumber):=iR T.kn_NoNumber
theorem bi6:∀q∈[c_BadArchive,c_BadSaying,c_NoAge,c_Stuck,c_NoYear,c_NoGap,c_TooMany,c_NoNumber,c_NoDating,c_BadRow,c_NoRow,c_NoName].zip (b1 7),rK K q.1 (.ref c_NoNumber) q.2:=isEs_zip (jT T) T.kv_NoNumber
theorem bl6:lV cn ki_NoNumber ([c_BadArchive,c_BadSaying,c_NoAge,c_Stuck,c_NoYear,c_NoGap,c_TooMany,c_NoNumber,c_NoDating,c_BadRow,c_NoRow,c_NoName].zip (b1 7)):=tabO_zip (jY T)
theorem bl9:tJ K (.ref c_TooMany):=iR T.kn_TooMany
theorem br9:∀q∈[c_BadArchive,c_BadSaying,c_NoAge,c_Stuck,c_NoYear,c_NoGap,c_TooMany,c_NoNumber,c_NoDating,c_BadRow,c_NoRow,c_NoName].zip (b1 6),rK K q.1 (.ref c_TooMany) q.2:=isEs_zip (jT T) T.kv_TooMany
theorem bi9:lV cn ki_TooMany ([c_BadArchive,c_BadSaying,c_NoAge,c_Stuck,c_NoYear,c_NoGap,c_TooMany,c_NoNumber,c_NoDating,c_BadRow,c_NoRow,c_NoName].zip (b1 6)):=tabO_zip (jY T)
theorem ck7:tJ K (.ref c_NoGap):=iR T.kn_NoGap
theorem ci5:∀q∈[c_BadArchive,c_BadSaying,c_NoAge,c_Stuck,c_NoYear,c_NoGap,c_TooMany,c_NoNumber,c_NoDating,c_BadRow,c_NoRow,c_NoName].zip (b1 5),rK K q.1 (.ref c_NoGap) q.2:=isEs_zip (jT T) T.kv_NoGap
theorem cq5:lV cn ki_NoGap ([c_BadArchive,c_BadSaying,c_NoAge,c_Stuck,c_NoYear,c_NoGap,c_TooMany,c_NoNumber,c_NoDating,c_BadRow,c_NoRow,c_NoName].zip (b1 5)):=tabO_zip (jY T)
theorem cm3:tJ K (.ref c_NoYear):=iR T.kn_NoYear
theorem ce2:∀q∈[c_BadArchive,c_BadSaying,c_NoAge,c_Stuck,c_NoYear,c_NoGap,c_TooMany,c_NoNumber,c_NoDating,c_BadRow,c_NoRow,c_NoName].zip (b1 4),rK K q.1 (.ref c_NoYear) q.2:=isEs_zip (jT T) T.kv_NoYear
theorem cy2:lV cn ki_NoYear ([c_BadArchive,c_BadSaying,c_NoAge,c_Stuck,c_NoYear,c_NoGap,c_TooMany,c_NoNumber,c_NoDating,c_BadRow,c_NoRow,c_NoName].zip (b1 4)):=tabO_zip (jY T)
theorem cl3:tJ K (.ref c_NoName):=iR T.kn_NoName
theorem ci3:∀q∈[c_BadArchive,c_BadSaying,c_NoAge,c_Stuck,c_NoYear,c_NoGap,c_TooMany,c_NoNumber,c_NoDating,c_BadRow,c_NoRow,c_NoName].zip (b1 11),rK K q.1 (.ref c_NoName) q.2:=isEs_zip (jT T) T.kv_NoName
theorem cw3:lV cn ki_NoName ([c_BadArchive,c_BadSaying,c_NoAge,c_Stuck,c_NoYear,c_NoGap,c_TooMany,c_NoNumber,c_NoDating,c_BadRow,c_NoRow,c_NoName].zip (b1 11)):=tabO_zip (jY T)
theorem cl7:tJ K (.ref c_NoRow):=iR T.kn_NoRow
theorem co6:∀q∈[c_BadArchive,c_BadSaying,c_NoAge,c_Stuck,c_NoYear,c_NoGap,c_TooMany,c_NoNumber,c_NoDating,c_BadRow,c_NoRow,c_NoName].zip (b1 10),rK K q.1 (.ref c_NoRow) q.2:=isEs_zip (jT T) T.kv_NoRow
theorem cc7:lV cn ki_NoRow ([c_BadArchive,c_BadSaying,c_NoAge,c_Stuck,c_NoYear,c_NoGap,c_TooMany,c_NoNumber,c_NoDating,c_BadRow,c_NoRow,c_NoName].zip (b1 10)):=tabO_zip (jY T)
theorem cb3:tJ K (.ref c_BadRow):=iR T.kn_BadRow
theorem cw2:∀q∈[c_BadArchive,c_BadSaying,c_NoAge,c_Stuck,c_NoYear,c_NoGap,c_TooMany,c_NoNumber,c_NoDating,c_BadRow,c_NoRow,c_NoName].zip (b1 9),rK K q.1 (.ref c_BadRow) q.2:=isEs_zip (jT T) T.kv_BadRow
theorem ca4:lV cn ki_BadRow ([c_BadArchive,c_BadSaying,c_NoAge,c_Stuck,c_NoYear,c_NoGap,c_TooMany,c_NoNumber,c_NoDating,c_BadRow,c_NoRow,c_NoName].zip (b1 9)):=tabO_zip (jY T)
theorem bq6:tJ K (.ref c_NoDating):=iR T.kn_NoDating
theorem bj6:∀q∈[c_BadArchive,c_BadSaying,c_NoAge,c_Stuck,c_NoYear,c_NoGap,c_TooMany,c_NoNumber,c_NoDating,c_BadRow,c_NoRow,c_NoName].zip (b1 8),rK K q.1 (.ref c_NoDating) q.2:=isEs_zip (jT T) T.kv_NoDating
theorem bb6:lV cn ki_NoDating ([c_BadArchive,c_BadSaying,c_NoAge,c_Stuck,c_NoYear,c_NoGap,c_TooMany,c_NoNumber,c_NoDating,c_BadRow,c_NoRow,c_NoName].zip (b1 8)):=tabO_zip (jY T)
theorem bl0:tJ K (.ty "ValueError"):=df9 T.kn_ValueError
theorem bu0:∀q∈[c_BadArchive,c_BadSaying,c_NoAge,c_Stuck,c_NoYear,c_NoGap,c_TooMany,c_NoNumber,c_NoDating,c_BadRow,c_NoRow,c_NoName].zip (List.replicate 12 true),rK K q.1 (.ty "ValueError") q.2:=isEs_zip (jT T) T.kv_ValueError
theorem bk0:lV cn ki_ValueError ([c_BadArchive,c_BadSaying,c_NoAge,c_Stuck,c_NoYear,c_NoGap,c_TooMany,c_NoNumber,c_NoDating,c_BadRow,c_NoRow,c_NoName].zip (List.replicate 12 true)):=tabO_zip (jY T)
theorem ab5:tJ K (.ref c_ArchiveError):=iR T.kn_ArchiveError
theorem ac6:∀q∈[c_BadArchive,c_BadSaying,c_NoAge,c_Stuck,c_NoYear,c_NoGap,c_TooMany,c_NoNumber,c_NoDating,c_BadRow,c_NoRow,c_NoName].zip (List.replicate 12 true),rK K q.1 (.ref c_ArchiveError) q.2:=isEs_zip (jT T) T.kv_ArchiveError
theorem ax5:lV cn ki_ArchiveError ([c_BadArchive,c_BadSaying,c_NoAge,c_Stuck,c_NoYear,c_NoGap,c_TooMany,c_NoNumber,c_NoDating,c_BadRow,c_NoRow,c_NoName].zip (List.replicate 12 true)):=tabO_zip (jY T)
theorem cj5:ar7 K cn 2 tm_table [(c_Archive,cG K cn 2 fN)]:=jR T.gY (bf2)
theorem ct5:ar7 K cn 1 tm_shown [(c_Ink,cG K cn 1 aV),(c_Reign,cG K cn 1 aV),(c_Under,cG K cn 1 aV),(c_Between,cG K cn 1 aV),(c_After,cG K cn 1 aV),(c_Same,cG K cn 1 aV),(c_Within,cG K cn 1 aV),(c_Apart,cG K cn 1 aV)]:=jR T.rO (jR T.mB (jR T.mD (jR T.iP (jR T.lY (jR T.oP (jR T.kE (jR T.lZ (bf2))))))))
local macro_rules | `(tactic| walk_at "b") => `(tactic| first | exact .inl rfl | exact .inr rfl)
local macro_rules | `(tactic| walk_at "rr") => `(tactic| first | exact ep3 | exact ei3 | exact eb1 | exact du6 | exact eh4 | exact eg5 | exact eb2 | exact ez4 | exact en1 | exact en4 | exact en0 | exact em4 | exact er4)
local macro_rules | `(tactic| walk_at "rc") => `(tactic| first | exact en2 | exact dw8 | exact ex0 | exact ek0 | exact en3 | exact dt6 | exact ex3 | exact cb7 | exact ck9 | exact dj6 | exact ey2)
local macro_rules | `(tactic| walk_at "rf") => `(tactic| first | exact cm6 ‹_› | exact dj4 ‹_› | exact dt3 ‹_› | exact co0 ‹_› | exact dh9 ‹_› | exact cp0 ‹_› | exact ct4 ‹_› | exact cq3 ‹_› | exact dw4 ‹_›)
local macro_rules | `(tactic| walk_at "r") => `(tactic| with_reducible first
 | exact de7 _
 | exact dt7
 | exact dd3
 | (refine ef2 ?_ ?_ <;> walk_at "r")
 | (refine dv5 ?_ ?_; walk_at "rf"; walk_at "r")
 | (refine RE.rb (mv := []) ?_; walk_at "r")
 | (refine cc9 ?_ ?_ <;> walk_at "r")
 | (refine eu3 ?_ ?_ ?_; walk_at "rr"; walk_at "r"; walk_at "r")
 | (apply es2; walk_at "r"; walk_at "r"; with_unfolding_all exact rfl; with_unfolding_all exact rfl)
 | exact dg7
 | exact dz6
 | (refine RB.chk ?_; walk_at "r")
 | (refine dx3 ?_ ?_ ?_ ?_ ?_; walk_at "r"; walk_at "r"; walk_at "r"; with_unfolding_all exact rfl; with_unfolding_all exact rfl)
 | (refine ag1 ?_ ?_ <;> walk_at "r")
 | (refine cs4 ?_; first | exact Txt.lY ‹_› | exact Txt.lZ ‹_› | exact Txt.gY ‹_› | exact Txt.iK ‹_› | exact Txt.nY ‹_› | exact Txt.lL ‹_› | exact Txt.iP ‹_› | exact Txt.rO ‹_› | exact Txt.sI ‹_› | exact Txt.mO ‹_› | exact Txt.pM ‹_› | exact Txt.nW ‹_› | exact Txt.kJ ‹_› | exact Txt.sH ‹_› | exact Txt.nX ‹_› | exact Txt.mB ‹_› | exact Txt.oP ‹_› | exact Txt.sJ ‹_› | exact Txt.mC ‹_› | exact Txt.mD ‹_› | exact Txt.kE ‹_›)
 | (refine dh4 ?_; first | exact Txt.lY ‹_› | exact Txt.lZ ‹_› | exact Txt.gY ‹_› | exact Txt.iK ‹_› | exact Txt.nY ‹_› | exact Txt.lL ‹_› | exact Txt.iP ‹_› | exact Txt.rO ‹_› | exact Txt.sI ‹_› | exact Txt.mO ‹_› | exact Txt.pM ‹_› | exact Txt.nW ‹_› | exact Txt.kJ ‹_› | exact Txt.sH ‹_› | exact Txt.nX ‹_› | exact Txt.mB ‹_› | exact Txt.oP ‹_› | exact Txt.sJ ‹_› | exact Txt.mC ‹_› | exact Txt.mD ‹_› | exact Txt.kE ‹_›)
 | (refine df4 ?_ ?_; (first | exact Txt.lY ‹_› | exact Txt.lZ ‹_› | exact Txt.gY ‹_› | exact Txt.iK ‹_› | exact Txt.nY ‹_› | exact Txt.lL ‹_› | exact Txt.iP ‹_› | exact Txt.rO ‹_› | exact Txt.sI ‹_› | exact Txt.mO ‹_› | exact Txt.pM ‹_› | exact Txt.nW ‹_› | exact Txt.kJ ‹_› | exact Txt.sH ‹_› | exact Txt.nX ‹_› | exact Txt.mB ‹_› | exact Txt.oP ‹_› | exact Txt.sJ ‹_› | exact Txt.mC ‹_› | exact Txt.mD ‹_› | exact Txt.kE ‹_›); walk_at "r")
 | (refine cw1 ?_ ?_ <;> walk_at "r")
 | (refine cm7 ?_ ?_ <;> walk_at "r")
 | (refine dz4 ?_ ?_; (first | exact ax5 ‹_› | exact bx0 ‹_› | exact ca4 ‹_› | exact bx4 ‹_› | exact ce7 ‹_› | exact bb6 ‹_› | exact cq5 ‹_› | exact cw3 ‹_› | exact bl6 ‹_› | exact cc7 ‹_› | exact cy2 ‹_› | exact cc8 ‹_› | exact bi9 ‹_› | exact bk0 ‹_›); walk_at "r")
 | (refine dm4 ?_ ?_; (first | exact dz7 ‹_› | exact cy1 ‹_› | exact dh1 ‹_› | exact cd4 ‹_› | exact dn3 ‹_› | exact dn6 ‹_› | exact do4 ‹_›); walk_at "r")
 | (refine bv8 ?_ ?_ ?_ ?_ ?_ ?_; walk_at "r"; walk_at "r"; walk_at "r"; walk_at "r"; with_unfolding_all exact rfl; with_unfolding_all exact rfl)
 | (apply ci4 <;> walk_at "r")
 | (refine am7 _ ?_; with_unfolding_all exact rfl)
 | (refine dv9 ?_; walk_at "r")
 | (refine eh0 ?_ ?_; walk_at "rc"; walk_at "r")
 | (refine dp8 ?_; walk_at "r")
 | (refine eo3 ?_ ?_ ?_ <;> walk_at "r")
 | exact dm3
 | exact dk1
 | exact dj9
 | exact dz5
 | exact et0
 | exact ep1
 | (refine bk8 ?_; walk_at "r")
 | (refine df5 ?_; walk_at "r")
 | (refine dz8 ?_; walk_at "r")
 | (refine dl9 ?_ ?_ <;> walk_at "r")
 | (refine eg0 ?_ ?_ <;> walk_at "r")
 | (apply dd9; walk_at "r")
 | (apply ds6; walk_at "r")
 | exact ey0 _
 | (apply dc6; walk_at "r")
 | exact dm1
 | (apply dl6; walk_at "r"; walk_at "r"; with_unfolding_all exact rfl)
 | (apply dy5 <;> walk_at "r")
 | (refine co8 ?_ ?_ <;> walk_at "r")
 | (refine df2 ?_; walk_at "r")
 | (refine ey4 ?_; walk_at "r")
 | (refine et5 ?_; walk_at "r")
 | (refine dv2 ?_; walk_at "r")
 | (refine da8 ?_; walk_at "r")
 | exact dc5 _
 | (refine dx6 ?_ ?_ ?_; walk_at "r"; walk_at "r"; with_unfolding_all exact rfl)
 | (refine dk8 ?_ ?_ ?_; walk_at "rf"; walk_at "r"; walk_at "r")
 | (refine ba8 ?_ ?_ ?_ ?_ ?_; walk_at "r"; walk_at "r"; walk_at "r"; walk_at "r"; with_unfolding_all exact rfl)
 | (refine ej3 ee5 ?_ ?_ ?_ <;> walk_at "r")
 | exact dl4
 | (refine df1 ?_; walk_at "r")
 | (refine eo1 ea3 ?_; walk_at "r")
 | (refine ch5 ?_ ?_ ?_ ?_ ?_; walk_at "rr"; walk_at "rr"; walk_at "r"; walk_at "r"; walk_at "r")
 | (refine dw3 ?_ ?_ <;> walk_at "r")
 | (refine db3 ?_; walk_at "r")
 | (refine ey1 ?_ ?_ ?_ <;> walk_at "r")
 | (refine RE.frz ?_; walk_at "r")
 | (refine ce8 ?_ ?_ ?_; (first | exact ct5 ‹_› | exact cj5 ‹_›); walk_at "r"; walk_at "r")
 | (refine dh3 ?_ ?_; (first | exact Txt.lY ‹_› | exact Txt.lZ ‹_› | exact Txt.gY ‹_› | exact Txt.iK ‹_› | exact Txt.nY ‹_› | exact Txt.lL ‹_› | exact Txt.iP ‹_› | exact Txt.rO ‹_› | exact Txt.sI ‹_› | exact Txt.mO ‹_› | exact Txt.pM ‹_› | exact Txt.nW ‹_› | exact Txt.kJ ‹_› | exact Txt.sH ‹_› | exact Txt.nX ‹_› | exact Txt.mB ‹_› | exact Txt.oP ‹_› | exact Txt.sJ ‹_› | exact Txt.mC ‹_› | exact Txt.mD ‹_› | exact Txt.kE ‹_›); walk_at "r")
 | (refine dt1 ?_ ?_; (first | exact Txt.g_NUMBERS ‹_› | exact Txt.g_PARTS ‹_›); walk_at "r")
 | (refine di1 ?_ ?_; (first | exact Txt.g_NUMBERS ‹_› | exact Txt.g_PARTS ‹_›); walk_at "r")
 | (refine bv9 aw9 dg2 ?_ ?_ <;> walk_at "r")
 | (refine bv9 cb4 dg8 ?_ ?_ <;> walk_at "r")
 | (refine bv9 aw9 dq1 ?_ ?_ <;> walk_at "r")
 | (with_unfolding_all refine bk8 ?_; walk_at "r"))
theorem br0:gT P w K mg base 1 "_law_stirred" ["_law_cell","_law_place"] (cG K cn 2 pE):=by
 refine cE (d:=pA) T.bd1 fY (by walk_at "u") (λf cdv A outer s H E hr=>⟨_,(aH (pz 2 fY aF)
 (aH (pz 3 fY (aI (aT K) (aI bB (aI (aT K) (aI bB (pv 0) aF) (aI eM aF (pv 1))) aF) aF))
 (aH (mG PassesOwn.never rfl (iD rfl T.jJ (aN aF)) (pn 4 fY) (aH (oZ (aP (vG K) rfl T.an4 ao1 (aG (pv 3) (aN aF))) (eI K 2 rfl (aX (pn 5 fY) (aX (pn 6 fY) eP))))
 (aH (pz 3 fY (aI bB (aI (aT K) (aI (aT K) (aI (aT K) (aI eM (pv 6) aF) (aI eM (pv 5) aF)) (aI eM aF (pv 4))) aF) aF))
 (aM (pz 2 fY (aI (aT K) (aI eM (pv 2) aF) (pv 3)))))))
 (aM (aU (pv 2)))))),by unfold pA;walk_at "r"⟩) rfl (λ_=>rfl)
theorem zK:gT P w K mg base 2 "_law_stirred_script" ["_law_script"] (cG K cn 1 iO):=by
 refine cE (d:=iL) T.zT eZ (by walk_at "u") (λf cdv A outer s H E hr=>⟨_,(aH (pz 1 eZ (bL qS))
 (aH (mG PassesOwn.never rfl (iD rfl T.jJ (aN (aP (lM K) rfl T.wS tN (aG (aP (cI K) rfl T.fB dU (aN (pv 0))) (aN aF))))) (pn 2 eZ) (aH (pz 3 eZ (aP (pR K) rfl T.aw2 yF (aN (px K (pv 0) (pv 2)))))
 (aH (pz 4 eZ aF)
 (aH (br3 PassesOwn.never (pc gA (pv 4) (pv 3)) (aM (pz 4 eZ (aI eM (pv 4) (aI oT aF aF)))))
 (aM (rS (pap K (pv 1) (aN (aI (aT K) (pv 3) (aI eM (pv 4) (pf (br0 T:) hr (aG (pv 3) (aN (pv 2))))))))))))))
 (aM (aU (pv 1))))),by unfold iL;walk_at "r"⟩) rfl (λ_=>rfl)
theorem af0:gT P w K mg base 1 "_law_got" ["_law_script","_law_place"] (cG K cn 2 pO):=by
 refine cE (d:=wP) T.cb5 ay5 (by walk_at "u") (λf cdv A outer s H E hr=>⟨_,(aH (mG PassesOwn.never rfl (iZ K (dZ (lQ K) (pv 0) (eO (pv 1)) (eO (aI (aT K) (pv 1) aF)))) (pn 2 ay5) (aM (aU (aP (pR K) rfl T.aw2 yF (aN (pv 2))))))
 (aM (aU aF))),by unfold wP;walk_at "r"⟩) rfl (λ_=>rfl)
theorem nG:gT P w K mg base 1 "_law_spread" ["_law_number","_law_many"] (cG K cn 2 eH):=by
 refine cE (d:=qD) T.bu5 eF (by walk_at "u") (λf cdv A outer s H E hr=>⟨_,(aH (pz 2 eF (bL qS))
 (aH (pz 3 eF (aI fK (pv 0) aF))
 (aH (mG PassesOwn.never rfl (iD rfl T.jJ (aN (aI eM (pv 1) (aI cX aF (aI bB (pv 0) aF))))) (pn 4 eF) (aH (oZ (aP (vG K) rfl T.an4 ao1 (aG (pv 3) (aN (aI oT aF aF)))) (eI K 2 rfl (aX (pn 3 eF) (aX (pn 5 eF) eP))))
 (aM (rS (pap K (pv 2) (aN (pv 5)))))))
 (aH (pz 3 eF (aI (aT K) (aI bB (pv 3) aF) aF))
 (aH (br3 PassesOwn.never (pc bs9 (aP (cI K) rfl T.fB dU (aN (pv 2))) (pv 1)) (aH (mG PassesOwn.never rfl (iD rfl T.jJ (aN aF)) (pn 6 eF) (aH (oZ (aP (vG K) rfl T.an4 ao1 (aG (pv 3) (aN aF))) (eI K 2 rfl (aX (pn 7 eF) (aX (pn 8 eF) eP))))
 (aM (pz 3 eF (aI bB (aI (aT K) (aI (aT K) (aI (aT K) (aI eM (pv 8) aF) (aI eM (pv 7) aF)) (aI eM aF (aP (cI K) rfl T.fB dU (aN (pv 2))))) aF) aF)))))
 (aM (rS (pap K (pv 2) (aN (aI fK (pv 3) aF)))))))
 (aM (aU (pv 2)))))))),by unfold qD;walk_at "r"⟩) rfl (λ_=>rfl)
theorem bh6:gT P w K mg base 1 "_law_names" ["_law_number","_law_many"] (cG K cn 2 sQ):=by
 refine cE (d:=sW) T.bx6 iA (by walk_at "u") (λf cdv A outer s H E hr=>⟨_,(aH (pz 2 iA aS)
 (aH (pz 3 iA (aI fK (pv 0) aF))
 (aH (bU (pc (oe K hr) (aI bB (pv 0) aF) aF) (aM (aU (pm [7] (iD rfl T.jJ (aN (pv 1))) (λ_ _ _ _ _=>(pn 7 iA)) (λ_ _ _ _ _=>eK) (λ_ _ _ _ _=>(aI eM (px K (pv 2) (aI bB (pv 3) aF)) (aI (aT K) (pv 7) aF)))))) bE)
 (aH (bU (pc (oe K hr) (aI bB (pv 0) aF) aF) (aH (pz 4 iA (bL (aG aS (aG aS (aG aS (aG aS (aG aS (aG aS (aG aS (aN aS))))))))))
 (aM (aU (dZ (lQ K) (aI (aT K) (dZ (lQ K) (pv 4) (eO (aI bB (pv 3) aF)) fZ) (dZ (lQ K) (pv 4) fZ (eO (aI bB (pv 3) aF)))) fZ (eO (pv 1)))))) bE)
 (aH (pz 5 iA (aI (aT K) aF (aI bB (pv 3) aF)))
 (aH (pz 6 iA (aI bB (aI fK (pv 3) aF) (pv 5)))
 (aM (aU (pm [7] (iD rfl T.jJ (aN (pv 1))) (λ_ _ _ _ _=>(pn 7 iA)) (λ_ _ _ _ _=>eK) (λ_ _ _ _ _=>(aI (aT K) (aI (aT K) (aI eM aS (pv 6)) (px K (pv 2) (aI bB (aI (aT K) (aI fK (pv 3) aF) (pv 7)) aF))) (aI eM aS (aI cX (aI cX (pv 5) aF) (pv 6)))))))))))))),by unfold sW;walk_at "r"⟩) rfl (λ_=>rfl)
theorem bm6:gT P w K mg base 2 "_law_table" ["_law_number","_law_most"] (cG K cn 2 sV):=by
 refine cE (d:=sN) T.bc7 lG (by walk_at "u") (λf cdv A outer s H E hr=>⟨_,(aH (pz 2 lG (pf (nG T:) hr (aG (pv 0) (aN aF))))
 (aH (pz 3 lG (px K (bL (aG (aI oT aF aF) (aG aF (aN (aI bB (px K (pv 2) aF) (aI (aT K) (aI oT aF aF) aF)))))) (aI bB (px K (pv 2) aF) aF)))
 (aH (pz 4 lG (bL qS))
 (aH (mG PassesOwn.never rfl (iZ K (pf (nG T:) hr (aG (aI fK (pv 0) aF) (aN (aI (aT K) aF (aI bB (px K (pv 2) aF) (pv 1))))))) (pn 5 lG) (aH (rS (pap K (pv 4) (aN (pv 3))))
 (aM (pz 3 lG (aP (at1 K) rfl T.cf1 bq4 (aG aF (aN (aI cX (pv 3) (aI bB (pv 5) (px K (bL (aG aF (aG aF (aG aF (aG aF (aN (aI (aT K) (aI oT aF aF) aF))))))) (aI bB (px K (pv 2) aF) aF)))))))))))
 (aM (aU (pv 4))))))),by unfold sN;walk_at "r"⟩) rfl (λ_=>rfl)
theorem bx2:gT P w K mg base 2 "_law_reigns" ["_law_number","_law_first","_law_wide"] (cG K cn 3 rG):=by
 refine cE (d:=qQ) T.br5 jH (by walk_at "u") (λf cdv A outer s H E hr=>⟨_,(aH (pz 3 jH (bL (aG aS (aG aS (aG aS (aG aS (aG aS (aN aS))))))))
 (aH (pz 4 jH (pf (nG T:) hr (aG (pv 0) (aN aF))))
 (aH (pz 5 jH (bL qS))
 (aH (mG PassesOwn.never rfl (iD rfl T.jJ (aN (px K (bL (aG aF (aG aF (aN (aI bB (pv 0) aF))))) (aI bB (pv 0) aF)))) (pn 6 jH) (aH (pz 7 jH (aI (aT K) (aI cX (pv 1) aF) (aI bB (px K (pv 4) (aI eM aF (pv 6))) (aI (aT K) (pv 2) aF))))
 (aM (rS (pap K (pv 5) (aN (rB (aG (px K (pv 3) (pv 6)) (aG (pv 7) (aN (aI (aT K) aF (aI bB (px K (pv 4) (aI (aT K) (aI eM aF (pv 6)) aF)) (px K (bL (aG aF (aN aF))) (aI bB (px K (pv 4) (aI (aT K) (aI eM aF (pv 6)) aF)) aF))))))))))))))
 (aM (aU (pv 5))))))),by unfold qQ;walk_at "r"⟩) rfl (λ_=>rfl)
theorem ca0:gT P w K mg base 3 "_law_base" ["_law_script","_law_wide","_law_many"] (cG K cn 3 tZ):=by
 refine cE (d:=uF) T.cg1 gX (by walk_at "u") (λf cdv A outer s H E hr=>⟨_,(aH (pz 3 gX (pf (nG T:) hr (aG (aI fK (pf (af0 T:) hr (aG (pv 0) (aN aF))) aF) (aN aF))))
 (aH (pz 4 gX (px K (bL (aG (aI cX (aI bB (px K (pv 3) aF) (aI cX aF (pv 1))) aF) (aG (lU iT aF) (aN (aI cX aF (pv 1)))))) (aI bB (px K (pv 3) aF) aF)))
 (aH (pz 5 gX (aI (aT K) (pv 4) (px K (bL (aG (aI bB (px K (pv 3) aF) (aI (aT K) (pv 1) aF)) (aN (pv 1)))) (aI bB (aI fK (px K (pv 3) aF) aF) aF))))
 (aH (pz 6 gX (pf (bh6 T:) hr (aG (px K (pv 3) aF) (aN (aI (aT K) aF (aI bB (px K (pv 3) aF) (pv 2)))))))
 (aH (pz 7 gX (bL qS))
 (aH (mG PassesOwn.never rfl (iD rfl T.jJ (aN (px K (bL (aG (aI (aT K) aF (aI bB (px K (pv 3) aF) aF)) (aN aF))) (aI fK (aI bB (px K (pv 3) aF) aF) aF)))) (pn 8 gX) (aH (pz 9 gX (px K (bL (aG aS (aG aS (aG aS (aG aS (aN aS)))))) (pv 8)))
 (aM (rS (pap K (pv 7) (aN (rB (aG (pv 9) (aN (pf (bm6 T:) hr (aG (aI (aT K) (px K (pv 3) (aI (aT K) aF (aI bB (pv 8) aF))) (aI eM aF (aI fK (pv 8) aF))) (aN (px K (bL (aG aF (aN aF))) (aI bB (aI fK (px K (pv 3) aF) aF) aF))))))))))))))
 (aH (pz 10 gX (aI (aT K) (bL (aN (rB (aG aS (aG (aI (aT K) (aI cX (pv 4) aF) (aI bB (px K (pv 3) aF) aF)) (aN (aI (aT K) aF (aI bB (px K (pv 3) aF) aF)))))))) (pf (bx2 T:) hr (aG (px K (pv 3) aF) (aG (pv 4) (aN (pv 1)))))))
 (aH (rS (pap K (pv 10) (aN (rB (aG aS (aG (aP (lM K) rfl T.wS tN (aG aF (aN (aI (aT K) (pv 4) (aI bB (px K (pv 3) aF) (aI (aT K) (pv 1) aF)))))) (aN (aI (aT K) aF (aI bB (px K (pv 3) aF) aF)))))))))
 (aM (aU (rB (aG (pv 4) (aG (pv 5) (aG (pv 6) (aG (pv 7) (aN (pv 10))))))))))))))))),by unfold uF;walk_at "r"⟩) rfl (λ_=>rfl)
theorem bz8:gT P w K mg base 1 "is_whole" ["some"] (cG K cn 1 oJ):=by refine cE (d:=qM) T.cc1 bg6 (by walk_at "u") (λf cdv A outer s H E hr=>⟨_,(aM (aU (gM (aP (pN K) rfl T.bZ bR (aG (pv 0) (aN (zO T.ax2 xX)))) (mI (dn9 (aP (pN K) rfl T.bZ bR (aG (pv 0) (aN (zO T.eb0 dq4))))))))),by unfold qM;walk_at "r"⟩) rfl (λ_=>rfl)
theorem gG:gT P w K mg base 2 "is_whole_from" ["some","low","high"] (cG K cn 3 cQ):=by refine cE (d:=kB) T.at6 au3 (by walk_at "u") (λf cdv A outer s H E hr=>⟨_,(aM (aU (gM (pf (bz8 T:) hr (aN (pv 0))) (mI (aa4 gA gA (pv 1) (pv 0) (pv 2)))))),by unfold kB;walk_at "r"⟩) rfl (λ_=>rfl)
theorem bz5:gT P w K mg base 3 "are_years" ["first","present"] (cG K cn 2 sP):=by
 refine cE (d:=sK) T.by6 ba4 (by walk_at "u") (λf cdv A outer s H E hr=>⟨_,(aH (bU (iB (dX K (pf (gG T:) hr (aG (pv 0) (aG (lU iT (dE T.g_FARTHEST_END)) (aN (dE T.g_FARTHEST_END))))) (λ_=>rfl))) (aM (aU jZ)) bE)
 (aH (bU (iB (dX K (pf (gG T:) hr (aG (pv 1) (aG (lU iT (dE T.g_FARTHEST_END)) (aN (dE T.g_FARTHEST_END))))) (λ_=>rfl))) (aM (aU jZ)) bE)
 (aM (aU (aa4 gA gA aF (aI cX (pv 1) (pv 0)) (dE T.g_LONGEST_SPAN)))))),by unfold sK;walk_at "r"⟩) rfl (λ_=>rfl)
theorem bz2:gT P w K mg base 1 "is_made_of" ["word","signs","most"] (cG K cn 3 qE):=by refine cE (d:=qY) T.bo5 zY (by walk_at "u") (λf cdv A outer s H E hr=>⟨_,(aM (aU (gM (aa4 gA gA aF (aP (cI K) rfl T.fB dU (aN (pv 0))) (pv 2)) (mI (aP (jX K) rfl T.uH rM (aN (pm [3] (iZ K (pv 0)) (λ_ _ _ _ _=>(pn 3 zY)) (λ_ _ _ _ _=>eK) (λ_ _ _ _ _=>(dH (az0 K (n:=cP) hr) (pv 3) (pv 1) (by with_unfolding_all rfl)))))))))),by unfold qY;walk_at "r"⟩) rfl (λ_=>rfl)
theorem cq2:gT P w K mg base 2 "is_name" ["word"] (cG K cn 1 tL):=by refine cE (d:=vZ) T.ca5 cv0 (by walk_at "u") (λf cdv A outer s H E hr=>⟨_,(aM (aU (pf (bz2 T:) hr (aG (pv 0) (aG (dE T.g_LETTERS) (aN (dE T.g_MOST_LETTERS_words))))))),by unfold vZ;walk_at "r"⟩) rfl (λ_=>rfl)
theorem wX:gT P w K mg base 3 "are_names" ["names","least","most"] (cG K cn 3 mK):=by
 refine cE (d:=sL) T.bw6 ac2 (by walk_at "u") (λf cdv A outer s H E hr=>⟨_,(aH (bU (iB (br4 gA gA (pv 1) (aP (cI K) rfl T.fB dU (aN (pv 0))) (pv 2))) (aM (aU jZ)) bE)
 (aM (aU (gM (aP (jX K) rfl T.uH rM (aN (pm [3] (iZ K (pv 0)) (λ_ _ _ _ _=>(pn 3 ac2)) (λ_ _ _ _ _=>eK) (λ_ _ _ _ _=>(pf (cq2 T:) hr (aN (pv 3))))))) (mI (dH (oe K hr) (cn2 K T.fB T.ec4 (aN (pv 0))) (aP (cI K) rfl T.fB dU (aN (pv 0))) (fT _))))))),by unfold sL;walk_at "r"⟩) rfl (λ_=>rfl)
theorem bj9:gT P w K mg base 3 "is_table" ["some"] (cG K cn 1 qC):=by
 refine cE (d:=uA) T.ca1 wW (by walk_at "u") (λf cdv A outer s H E hr=>⟨_,(aH (bU (iB (br4 gA gA aF (aP (cI K) rfl T.fB dU (aN (pv 0))) (dE T.g_MOST_AGES))) (aM (aU jZ)) bE)
 (aH (bU (iB (dX K (aP (jX K) rfl T.uH rM (aN (pm [1] (iZ K (pv 0)) (λ_ _ _ _ _=>(pn 1 wW)) (λ_ _ _ _ _=>eK) (λ_ _ _ _ _=>(pf (gG T:) hr (aG (pv 1) (aG aF (aN (dE T.g_DARKEST))))))))) (λ_=>rfl))) (aM (aU jZ)) bE)
 (aM (aU (aP (jX K) rfl T.uH rM (aN (pm [2] (cr2 rfl T.jJ (aG aF (aN (aP (cI K) rfl T.fB dU (aN (pv 0)))))) (λ_ _ _ _ _=>(pn 2 wW)) (λ_ _ _ _ _=>eK) (λ_ _ _ _ _=>(dH gA (px K (pv 0) (pv 2)) (px K (pv 0) (aI cX (pv 2) aF)) (fT _)))))))))),by unfold uA;walk_at "r"⟩) rfl (λ_=>rfl)
theorem bg9:gT P w K mg base 4 "are_inks" ["inks"] (cG K cn 1 tW):=by
 refine cE (d:=uE) T.cd1 oY (by walk_at "u") (λf cdv A outer s H E hr=>⟨_,(aH (bU (iB (dX K (pf (wX T:) hr (aG (pm [1,2] (iZ K (pv 0)) (λ_ _ _ _ _=>(eI K 2 rfl (aX (pn 1 oY) (aX (pn 2 oY) eP)))) (λ_ _ _ _ _=>eK) (λ_ _ _ _ _=>(pv 1))) (aG aF (aN (dE T.g_MOST_INKS))))) (λ_=>rfl))) (aM (aU jZ)) bE)
 (aM (aU (aP (jX K) rfl T.uH rM (aN (pm [1,2] (iZ K (pv 0)) (λ_ _ _ _ _=>(eI K 2 rfl (aX (pn 1 oY) (aX (pn 2 oY) eP)))) (λ_ _ _ _ _=>eK) (λ_ _ _ _ _=>(pf (bj9 T:) hr (aN (pv 2)))))))))),by unfold uE;walk_at "r"⟩) rfl (λ_=>rfl)
theorem bh9:gT P w K mg base 3 "is_reign" ["begin","length"] (cG K cn 2 qF):=by refine cE (d:=tV) T.ce1 bc6 (by walk_at "u") (λf cdv A outer s H E hr=>⟨_,(aM (aU (gM (pf (gG T:) hr (aG (pv 0) (aG (lU iT (dE T.g_FARTHEST_YEAR)) (aN (dE T.g_FARTHEST_YEAR))))) (mI (pf (gG T:) hr (aG (pv 1) (aG aF (aN (dE T.g_LONGEST_REIGN))))))))),by unfold tV;walk_at "r"⟩) rfl (λ_=>rfl)
theorem bm2:gT P w K mg base 4 "are_reigns" ["reigns"] (cG K cn 1 qV):=by
 refine cE (d:=rH) T.bk5 iJ (by walk_at "u") (λf cdv A outer s H E hr=>⟨_,(aH (bU (iB (dX K (pf (wX T:) hr (aG (pm [1,2,3] (iZ K (pv 0)) (λ_ _ _ _ _=>(eI K 3 rfl (aX (pn 1 iJ) (aX (pn 2 iJ) (aX (pn 3 iJ) eP))))) (λ_ _ _ _ _=>eK) (λ_ _ _ _ _=>(pv 1))) (aG aF (aN (dE T.g_MOST_REIGNS))))) (λ_=>rfl))) (aM (aU jZ)) bE)
 (aM (aU (aP (jX K) rfl T.uH rM (aN (pm [1,2,3] (iZ K (pv 0)) (λ_ _ _ _ _=>(eI K 3 rfl (aX (pn 1 iJ) (aX (pn 2 iJ) (aX (pn 3 iJ) eP))))) (λ_ _ _ _ _=>eK) (λ_ _ _ _ _=>(pf (bh9 T:) hr (aG (pv 2) (aN (pv 3))))))))))),by unfold rH;walk_at "r"⟩) rfl (λ_=>rfl)
theorem ah8(f y:Addr)(cdv:Value)(A:Around)(outer:List Env)(s:Shared)(H:Hp)(E:XK)(hr:Room 4 (A.deeper (PyProof.Rows.envOfC "Archive.__init__" (aL lF) s.heap.objs.size f cdv))):
 ∃t,PSs (lH lN P w K mg base ["self","first","present","letters","inks","reigns","name","table","begin","length"] "Archive.__init__" (aL lF) f cdv A outer s H E).nox (cK lF) t/\RS [(0,.ref y)] K cn E t kQ:=
 ⟨_,(aH (bU (iB (dX K (pf (bz5 T:) hr (aG (pv 1) (aN (pv 2)))) (λ_=>rfl))) (aM as2) bE)
 (aH (bU (iB (dX K (pf (wX T:) hr (aG (pv 3) (aG aF (aN (dE T.g_MOST_LETTERS_archives))))) (λ_=>rfl))) (aM as2) bE)
 (aH (bU (iB (dX K (pf (bg9 T:) hr (aN (pv 4))) (λ_=>rfl))) (aM as2) bE)
 (aH (bU (iB (dX K (pf (bm2 T:) hr (aN (pv 5))) (λ_=>rfl))) (aM as2) bE)
 (aH (oE K (pv 0) (pv 1))
 (aH (oE K (pv 0) (pv 2))
 (aH (oE K (pv 0) (fU (jP K) rfl T.tO pS (aN (pv 3))))
 (aH (oE K (pv 0) (pm [6,7] (iZ K (pv 4)) (λ_ _ _ _ _=>(eI K 2 rfl (aX (pn 6 iH) (aX (pn 7 iH) eP)))) (λ_ _ _ _ _=>eK) (λ_ _ _ _ _=>(rB (aG (pv 6) (aN (fU (jP K) rfl T.tO pS (aN (pv 7)))))))))
 (aM (oE K (pv 0) (pm [6,8,9] (iZ K (pv 5)) (λ_ _ _ _ _=>(eI K 3 rfl (aX (pn 6 iH) (aX (pn 8 iH) (aX (pn 9 iH) eP))))) (λ_ _ _ _ _=>eK) (λ_ _ _ _ _=>(rB (aG (pv 6) (aG (pv 8) (aN (pv 9))))))))))))))))),by unfold kQ;walk_at "r"⟩
theorem ca3:Mak P w K mg base 5 "Archive" c_Archive (xU K cn "Archive" 5 qW):=
 jU (d:=kQ) T.ch1 iH (by walk_at "u") (ah8 T) rfl (λ_=>rfl)
theorem bv4:gT P w K mg base 1 "_law_of_one" ["_law_base_here","_law_name","_law_xs"] (cG K cn 3 qR):=by
 refine cE (d:=qJ) T.bt5 dD (by walk_at "u") (λf cdv A outer s H E hr=>⟨_,(aH (oZ (pv 0) (eI K 5 rfl (aX (pn 3 dD) (aX (pn 4 dD) (aX (pn 5 dD) (aX (pn 6 dD) (aX (pn 7 dD) eP)))))))
 (aH (bU (pc (oe K hr) (aI bB (px K (pv 2) aF) aF) aF) (aH (oZ (px K (pv 6) (aI bB (px K (pv 2) aF) (aP (cI K) rfl T.fB dU (aN (pv 6))))) (eI K 2 rfl (aX (pn 8 dD) (aX (pn 9 dD) eP))))
 (aH (pz 10 dD (px K (pv 9) (aP (lM K) rfl T.wS tN (aG (aI bB (px K (pv 2) aF) (aI (aT K) (aI cX (pv 4) (pv 3)) aF)) (aN (aI cX (aP (cI K) rfl T.fB dU (aN (pv 9))) aF))))))
 (aH (pz 11 dD (aP (at1 K) rfl T.cf1 bq4 (aG aF (aN (aP (lM K) rfl T.wS tN (aG (aI oT aF aF) (aN (aI (aT K) (pv 10) (px K (bL (aG aF (aG aF (aG aF (aG (lU iT aF) (aG aF (aN (lU iT aF)))))))) (aI bB (px K (pv 2) aF) aF))))))))))
 (aM (aU (bL (aG aS (aG (pv 1) (aG (pv 8) (aG (pv 11) (aN (aI (aT K) (aP (pR K) rfl T.aw2 yF (aN (aI cX (pv 11) (pv 10)))) (aI bB (px K (pv 2) aF) (px K (bL (aG aF (aG aF (aN aF)))) (aI bB (aI fK (px K (pv 2) aF) aF) aF))))))))))))))) bE)
 (aH (bU (pc (oe K hr) (aI bB (px K (pv 2) aF) aF) aF) (aH (oZ (px K (pv 7) (aI bB (px K (pv 2) aF) (aP (cI K) rfl T.fB dU (aN (pv 7))))) (eI K 3 rfl (aX (pn 12 dD) (aX (pn 13 dD) (aX (pn 14 dD) eP)))))
 (aM (aU (bL (aG aS (aG (pv 1) (aG (pv 12) (aN (aI (aT K) aF (aI bB (px K (pv 2) aF) (pv 14))))))))))) bE)
 (aH (bU (pc (oe K hr) (aI bB (px K (pv 2) aF) aF) aF) (aM (aU (bL (aG aS (aG (pv 1) (aN (px K (px K (pv 7) (aI bB (px K (pv 2) aF) (aP (cI K) rfl T.fB dU (aN (pv 7))))) aF))))))) bE)
 (aH (pz 15 dD (aI (aT K) (aI cX (pv 3) aF) (aI bB (px K (pv 2) aF) (aI (aT K) (aI cX (pv 4) (pv 3)) aF))))
 (aM (aU (bL (aG aS (aG (pv 1) (aG (pv 15) (aN (aI (aT K) (pv 15) (aI bB (px K (pv 2) aF) (aI (aT K) (aI cX (pv 4) (pv 3)) aF))))))))))))))),by unfold qJ;walk_at "r"⟩) rfl (λ_=>rfl)
theorem bz4:gT P w K mg base 2 "_law_saying" ["_law_base_here","_law_number","_law_far"] (cG K cn 3 rA):=by
 refine cE (d:=qA) T.by5 fG (by walk_at "u") (λf cdv A outer s H E hr=>⟨_,(aH (oZ (pv 0) (eI K 5 rfl (aX (pn 3 fG) (aX (pn 4 fG) (aX (pn 5 fG) (aX (pn 6 fG) (aX (pn 7 fG) eP)))))))
 (aH (pz 8 fG (pf (nG T:) hr (aG (pv 1) (aN aF))))
 (aH (pz 9 fG (aI bB (px K (pv 8) aF) (aP (cI K) rfl T.fB dU (aN (pv 5)))))
 (aH (bU (PW.pt (pD (pc (oe K hr) (aP (cI K) rfl T.fB dU (aN (pv 5))) aF) (tM (pc bs9 (aI bB (px K (pv 8) aF) aF) aF)))) (aM (aU (pf (bv4 T:) hr (aG (pv 0) (aG (px K (pv 5) (pv 9)) (aN (pv 8))))))) bE)
 (aH (pz 10 fG (px K (pv 5) (aI bB (aI (aT K) (aI (aT K) (pv 9) aF) (aI bB (px K (pv 8) aF) (aI cX (aP (cI K) rfl T.fB dU (aN (pv 5))) aF))) (aP (cI K) rfl T.fB dU (aN (pv 5))))))
 (aH (bU (pc (oe K hr) (aI bB (px K (pv 8) aF) aF) aF) (aM (aU (bL (aG aS (aG (px K (pv 5) (pv 9)) (aN (pv 10))))))) bE)
 (aH (bU (pc (oe K hr) (aI bB (px K (pv 8) aF) aF) aF) (aM (aU (bL (aG aS (aG (px K (pv 5) (pv 9)) (aN (pv 10))))))) bE)
 (aH (bU (pc (oe K hr) (aI bB (px K (pv 8) aF) aF) aF) (aM (aU (bL (aG aS (aG (px K (pv 5) (pv 9)) (aG (pv 10) (aN (aI bB (px K (pv 8) aF) (aI (aT K) (pv 2) aF))))))))) bE)
 (aH (pz 11 fG (aI cX (aI bB (px K (pv 8) aF) (aI (aT K) (aI eM aF (pv 2)) aF)) (pv 2)))
 (aM (aU (bL (aG aS (aG (px K (pv 5) (pv 9)) (aG (pv 10) (aG (pv 11) (aN (aP (lM K) rfl T.wS tN (aG aF (aN (aI (aT K) (pv 11) (aI bB (px K (pv 8) aF) (aI (aT K) (pv 2) aF))))))))))))))))))))))),by unfold qA;walk_at "r"⟩) rfl (λ_=>rfl)
theorem bi3:gT P w K mg base 1 "_law_spoilt" ["_law_words","_law_number"] (cG K cn 2 qU):=by
 refine cE (d:=qN) T.bl5 jG (by walk_at "u") (λf cdv A outer s H E hr=>⟨_,(aH (pz 2 jG (aI bB (pv 1) aF))
 (aH (pz 3 jG (aI fK (pv 1) aF))
 (aH (pz 4 jG (aI (aT K) aF (aI bB (pv 3) (aI cX (aP (cI K) rfl T.fB dU (aN (pv 0))) aF))))
 (aH (bU (pc (oe K hr) (pv 2) aF) (aM (aU (aI (aT K) (bL (aN (px K (bL (aG aS (aG aS (aG aS (aG aS (aG aS (aG aS (aG aS (aN aS))))))))) (aI bB (pv 3) aF)))) (dZ (lQ K) (pv 0) (eO aF) fZ)))) bE)
 (aH (bU (pc (oe K hr) (pv 2) aF) (aM (aU (px K (bL (aG (aI (aT K) (dZ (lQ K) (pv 0) fZ (eO (pv 4))) (dZ (lQ K) (pv 0) (eO (aI (aT K) (pv 4) aF)) fZ)) (aG (aI (aT K) (pv 0) (bL (aN aF))) (aN (aI (aT K) (pv 0) (bL (aN aS))))))) (aI bB (aI fK (pv 3) aF) aF)))) bE)
 (aH (bU (pc (oe K hr) (pv 2) aF) (aM (aU (aI (aT K) (aI (aT K) (dZ (lQ K) (pv 0) fZ (eO (pv 4))) (bL (aN (bm3 (dX K (aP (pN K) rfl T.bZ bR (aG (px K (pv 0) (pv 4)) (aN (zO T.ax2 xX)))) (λ_=>rfl)) (fU ax1 rfl T.bc2 az4 (aN (px K (pv 0) (pv 4)))) aF)))) (dZ (lQ K) (pv 0) (eO (aI (aT K) (pv 4) aF)) fZ)))) bE)
 (aH (bU (pc (oe K hr) (pv 2) aF) (aM (aU (aI (aT K) (aI (aT K) (dZ (lQ K) (pv 0) fZ (eO (pv 4))) (bL (aN (px K (bL (aG aS (aG aS (aG (px K (pv 0) aF) (aN aS))))) (aI bB (aI fK (pv 3) aF) aF))))) (dZ (lQ K) (pv 0) (eO (aI (aT K) (pv 4) aF)) fZ)))) bE)
 (aH (bU (PW.pt (cf2 (pc bq1 (pv 2) aF) (bo7 (dX K (aP (pN K) rfl T.bZ bR (aG (px K (pv 0) (lU iT aF)) (aN (zO T.ax2 xX)))) (λ_=>rfl))))) (aH (pz 5 jG (bL (aG (lU iT aF) (aG aF (aG aF (aG (aI oT aF aF) (aG (aI (aT K) (aI oT aF aF) aF) (aG aF (aG aF (aG (lU iT aF) (aG (lU iT aF) (aG aF (aG aF (aG (lU iT aF) (aG (lU iT aF) (aG aF (aN aF)))))))))))))))))
 (aH (pz 6 jG (aI cX (aI cX (aP (cI K) rfl T.fB dU (aN (pv 0))) aF) (aI eM (aI bB (pv 3) aF) (fU bf0 rfl T.ax2 xX (aN (aP (pN K) rfl T.bZ bR (aG (px K (pv 0) (lU iT aF)) (aN (zO T.ax2 xX)))))))))
 (aM (aU (aI (aT K) (aI (aT K) (dZ (lQ K) (pv 0) fZ (eO (pv 6))) (bL (aN (px K (pv 5) (aI bB (aI fK (pv 3) aF) aF))))) (dZ (lQ K) (pv 0) (eO (aI (aT K) (pv 6) aF)) fZ)))))) bE)
 (aM (aU (pv 0))))))))))),by unfold qN;walk_at "r"⟩) rfl (λ_=>rfl)
theorem cl8:gT P w K mg base 3 "is_due" ["archive","due","part"] (cG K cn 3 cV):=by
 refine cE (d:=iY) T.co9 ap0 (by walk_at "u") (λf cdv A outer s H E hr=>⟨_,(aH (bU (pc (oe K hr) (pv 1) aS) (aM (aU (dH (az0 K (n:=cP) hr) (pv 2) (kU K (pv 0)) (by with_unfolding_all rfl)))) bE)
 (aH (bU (pc (oe K hr) (pv 1) aS) (aM (aU (dH (az0 K (n:=cP) hr) (pv 2) (pm [3] (iZ K (kU K (pv 0))) (λ_ _ _ _ _=>(pn 3 ap0)) (λ_ _ _ _ _=>eK) (λ_ _ _ _ _=>(px K (pv 3) aF))) (by with_unfolding_all rfl)))) bE)
 (aH (bU (pc (oe K hr) (pv 1) aS) (aM (aU (dH (az0 K (n:=cP) hr) (pv 2) (pm [4] (iZ K (kU K (pv 0))) (λ_ _ _ _ _=>(pn 4 ap0)) (λ_ _ _ _ _=>eK) (λ_ _ _ _ _=>(px K (pv 4) aF))) (by with_unfolding_all rfl)))) bE)
 (aM (aU (pf (gG T:) hr (aG (pv 2) (aG (px K (uI T.d_NUMBERS (pv 1)) aF) (aN (px K (uI T.d_NUMBERS (pv 1)) aF)))))))))),by unfold iY;walk_at "r"⟩) rfl (λ_=>rfl)
theorem cm1:gT P w K mg base 4 "are_due" ["archive","word","parts"] (cG K cn 3 dY):=by
 refine cE (d:=mX) T.cd5 yM (by walk_at "u") (λf cdv A outer s H E hr=>⟨_,(aH (bU (PW.pt (pD (dw5 (cu2 T.d_PARTS (pv 1)) (by with_unfolding_all rfl)) (tM (pc (lI K (n:=cP) hr) (aP (cI K) rfl T.fB dU (aN (pv 2))) (aP (cI K) rfl T.fB dU (aN (uI T.d_PARTS (pv 1)))))))) (aM (aU jZ)) bE)
 (aM (aU (aP (jX K) rfl T.uH rM (aN (pm [3,4] (bl8 K T.de1 (aG (uI T.d_PARTS (pv 1)) (aN (pv 2)))) (λ_ _ _ _ _=>(eI K 2 rfl (aX (pn 3 yM) (aX (pn 4 yM) eP)))) (λ_ _ _ _ _=>eK) (λ_ _ _ _ _=>(pf (cl8 T:) hr (aG (pv 0) (aG (pv 3) (aN (pv 4)))))))))))),by unfold mX;walk_at "r"⟩) rfl (λ_=>rfl)
theorem av5(f:Addr)(cdv:Value)(A:Around)(outer:List Env)(s:Shared)(H:Hp)(E:XK)(hr:Room 0 (A.deeper (PyProof.Rows.envOfC "Archive.table" (aL jM) s.heap.objs.size f cdv))):
 ∃t,PSs (lH lN P w K mg base ["self","name","other","table"] "Archive.table" (aL jM) f cdv A outer s H E).nox (cK jM) t/\RS [] K cn E t jL:=
 ⟨_,(aH (mG PassesOwn.never rfl (iZ K (kU K (pv 0))) (eI K 2 rfl (aX (pn 2 pL) (aX (pn 3 pL) eP))) (aM (bU (pc (oe K hr) (pv 2) (pv 1)) (aM (aU (fU (jP K) rfl T.tO pS (aN (pv 3))))) bE)))
 (aM (aU nS))),by unfold jL;walk_at "r"⟩
theorem ab6:rQ P w K mg base 1 c_Archive "table" (cG K cn 2 fN):=
 jK (d:=jL) T.ar4 T.oO pL (by walk_at "u") (av5 T) rfl (λ_=>rfl) (by decide)
theorem db2:∀q∈[(c_Archive,cG K cn 2 fN)],rQ P w K mg base 1 q.1 "table" q.2:=jV (ab6 T) (by3)
theorem cy3:gT P w K mg base 1 "ages_of" ["table","dark","error","greatest"] (cG K cn 4 pV):=by
 refine cE (d:=wM) T.ce5 qP (by walk_at "u") (λf cdv A outer s H E hr=>⟨_,(aH (pz 4 qP (aI cX (aP (cI K) rfl T.fB dU (aN (pv 0))) aF))
 (aH (pk 5 qP [7] (iD rfl T.jJ (aN (aI (aT K) (aP (lM K) rfl T.wS tN (aG (pv 4) (aN (pv 3)))) aF))) (λ_ _ _ _ _=>(pn 7 qP)) (λ_ _ _ _ _=>(ap2 (pc gA (aP (pR K) rfl T.aw2 yF (aN (aI cX (px K (pv 0) (pv 7)) (pv 1)))) (pv 2)))) (λ_ _ _ _ _=>(pv 7)))
 (aH (bU (pc (oe K hr) (aP (cI K) rfl T.fB dU (aN (pv 5))) aF) (aM (aU nS)) bE)
 (aH (pz 6 qP (px K (pv 5) (aI cX (aP (cI K) rfl T.fB dU (aN (pv 5))) aF)))
 (aM (aU (rB (aG (px K (pv 5) aF) (aN (bm3 (pc (oe K hr) (pv 6) (pv 4)) (pv 3) (pv 6))))))))))),by unfold wM;walk_at "r"⟩) rfl (λ_=>rfl)
theorem ca6:gT P w K mg base 1 "spaced" ["parts"] (cG K cn 1 zJ):=by refine cE (d:=zI) T.cq9 am9 (by walk_at "u") (λf cdv A outer s H E hr=>⟨_,(aM (aU (al0 K PySem.F.plainAttrs_str PySem.F.slot_str_join PySem.F.type_str_join (br2 K) aS (aN (pm [1] (iZ K (pv 0)) (λ_ _ _ _ _=>(pn 1 am9)) (λ_ _ _ _ _=>eK) (λ_ _ _ _ _=>(fU ax1 rfl T.bc2 az4 (aN (pv 1))))))))),by unfold zI;walk_at "r"⟩) rfl (λ_=>rfl)
theorem gJ(f y:Addr)(cdv:Value)(A:Around)(outer:List Env)(s:Shared)(H:Hp)(E:XK)(hr:Room 1 (A.deeper (PyProof.Rows.envOfC "Saying.__init__" (aL dQ) s.heap.objs.size f cdv))):
 ∃t,PSs (lH lN P w K mg base ["self","archive","word","parts","low","high","names","part","due","name"] "Saying.__init__" (aL dQ) f cdv A outer s H E).nox (cK dQ) t/\RS [(0,.ref y)] K cn E t bX:=
 ⟨_,(aH (pk 6 dJ [7,8] (bl8 K T.de1 (aG (pv 3) (aN (uI T.d_PARTS (pv 2))))) (λ_ _ _ _ _=>(eI K 2 rfl (aX (pn 7 dJ) (aX (pn 8 dJ) eP)))) (λ_ _ _ _ _=>(ap2 (pc (oe K hr) (pv 8) aS))) (λ_ _ _ _ _=>(pv 7)))
 (aH (oE K (pv 0) (pm [9] (iZ K (pv 6)) (λ_ _ _ _ _=>(pn 9 dJ)) (λ_ _ _ _ _=>eK) (λ_ _ _ _ _=>(al0 K PySem.F.plainAttrs_list PySem.F.slot_list_index PySem.F.type_list_index (cp4 K (n:=cP) hr) (kU K (pv 1)) (aN (pv 9))))))
 (aH (oE K (pv 0) (pv 4))
 (aH (oE K (pv 0) (pv 5))
 (aM (oE K (pv 0) (pf (ca6 T:) hr (aN (aI (aT K) (bL (aN (pv 2))) (fU (jP K) rfl T.tO pS (aN (pv 3)))))))))))),by unfold bX;walk_at "r"⟩
theorem ei1:Mak P w K mg base 2 "Ink" c_Ink (xU K cn "Ink" 5 ai4):=
 jU (d:=bX) T.ea0 dJ (by walk_at "u") (gJ T) rfl (λ_=>rfl)
theorem xK:gT P w K mg base 1 "reign_called" ["archive","name"] (cG K cn 2 kR):=by
 refine cE (d:=oK) T.aw8 wF (by walk_at "u") (λf cdv A outer s H E hr=>⟨_,(aH (mG PassesOwn.never rfl (iZ K (kU K (pv 0))) (pn 2 wF) (aM (bU (pc (oe K hr) (px K (pv 2) aF) (pv 1)) (aM (aU (pv 2))) bE)))
 (aM (aU nS))),by unfold oK;walk_at "r"⟩) rfl (λ_=>rfl)
theorem aq1:gT P w K mg base 3 "reign_year" ["begin","length","k"] (cG K cn 3 iX):=by
 refine cE (d:=nV) T.bs5 bm0 (by walk_at "u") (λf cdv A outer s H E hr=>⟨_,(aH (bU (iB (dX K (pf (gG T:) hr (aG (pv 2) (aG aF (aN (pv 1))))) (λ_=>rfl))) (aM (aU nS)) bE)
 (aM (aU (aI cX (aI (aT K) (pv 0) (pv 2)) aF)))),by unfold nV;walk_at "r"⟩) rfl (λ_=>rfl)
theorem dg3:Mak P w K mg base 2 "Reign" c_Reign (xU K cn "Reign" 5 yU):=
 jU (d:=bX) T.cs9 dJ (by walk_at "u") (gJ T) rfl (λ_=>rfl)
theorem dp3:Mak P w K mg base 2 "Under" c_Under (xU K cn "Under" 5 yQ):=
 jU (d:=bX) T.cp9 dJ (by walk_at "u") (gJ T) rfl (λ_=>rfl)
theorem cn1:Mak P w K mg base 2 "Between" c_Between (xU K cn "Between" 5 vB):=
 jU (d:=bX) T.cz0 dJ (by walk_at "u") (gJ T) rfl (λ_=>rfl)
theorem do3:Mak P w K mg base 2 "After" c_After (xU K cn "After" 5 zG):=
 jU (d:=bX) T.cr9 dJ (by walk_at "u") (gJ T) rfl (λ_=>rfl)
theorem de5:Mak P w K mg base 2 "Same" c_Same (xU K cn "Same" 5 au0):=
 jU (d:=bX) T.da5 dJ (by walk_at "u") (gJ T) rfl (λ_=>rfl)
theorem cl5:Mak P w K mg base 2 "Within" c_Within (xU K cn "Within" 5 wZ):=
 jU (d:=bX) T.cf5 dJ (by walk_at "u") (gJ T) rfl (λ_=>rfl)
theorem dl2:Mak P w K mg base 2 "Apart" c_Apart (xU K cn "Apart" 5 yT):=
 jU (d:=bX) T.cn9 dJ (by walk_at "u") (gJ T) rfl (λ_=>rfl)
theorem be4:rW P w K mg base 4 "ink_saying" ["archive","parts"] (cG K cn 2 nK):=by
 refine jS (d:=nF) T.bn5 ab0 (by walk_at "u") (λf cdv A outer s H E hr=>⟨_,(aH (pz 2 ab0 (pf (cy3 T:) hr (aG (cx8 (pv 0) (db2 T:) (hr.mono (by decide)) (aN (px K (pv 1) aF))) (aG (px K (pv 1) aF) (aG (px K (pv 1) aF) (aN (aI cX (kU K (pv 0)) (kU K (pv 0)))))))))
 (aH (bU (pc ah6 (pv 2) nS) (aM (pT T.e0_NoAge xe_of)) bE)
 (aM (aU (qX (ei1 T:) (hr.mono (by decide)) (aG (pv 0) (aG aS (aG (pv 1) (aG (aI cX (kU K (pv 0)) (px K (pv 2) aF)) (aN (aI cX (kU K (pv 0)) (px K (pv 2) aF)))))))))))),by unfold nF;walk_at "r"⟩) rfl (λ_=>rfl)
theorem az7:rW P w K mg base 4 "reign_saying" ["archive","parts"] (cG K cn 2 lJ):=by
 refine jS (d:=kN) T.ax8 qO (by walk_at "u") (λf cdv A outer s H E hr=>⟨_,(aH (pz 2 qO (pf (xK T:) hr (aG (pv 0) (aN (px K (pv 1) aF)))))
 (aH (pz 3 qO (pf (aq1 T:) hr (aG (px K (pv 2) aF) (aG (px K (pv 2) aF) (aN (px K (pv 1) aF))))))
 (aH (bU (pc ah6 (pv 3) nS) (aM (pT T.e0_BadSaying xe_of)) bE)
 (aM (aU (qX (dg3 T:) (hr.mono (by decide)) (aG (pv 0) (aG aS (aG (pv 1) (aG (pv 3) (aN (pv 3)))))))))))),by unfold kN;walk_at "r"⟩) rfl (λ_=>rfl)
theorem au7:rW P w K mg base 4 "under_saying" ["archive","parts"] (cG K cn 2 oI):=by
 refine jS (d:=nZ) T.aq8 wL (by walk_at "u") (λf cdv A outer s H E hr=>⟨_,(aH (pz 2 wL (pf (xK T:) hr (aG (pv 0) (aN (px K (pv 1) aF)))))
 (aM (aU (qX (dp3 T:) (hr.mono (by decide)) (aG (pv 0) (aG aS (aG (pv 1) (aG (px K (pv 2) aF) (aN (pf (aq1 T:) hr (aG (px K (pv 2) aF) (aG (px K (pv 2) aF) (aN (px K (pv 2) aF)))))))))))))),by unfold nZ;walk_at "r"⟩) rfl (λ_=>rfl)
theorem aw3:rW P w K mg base 4 "between_saying" ["archive","parts"] (cG K cn 2 iW):=by
 refine jS (d:=iU) T.ao4 ay2 (by walk_at "u") (λf cdv A outer s H E hr=>⟨_,(aH (bU (pc bq1 (px K (pv 1) aF) (px K (pv 1) aF)) (aM (pT T.e0_BadSaying xe_of)) bE)
 (aM (aU (qX (cn1 T:) (hr.mono (by decide)) (aG (pv 0) (aG aS (aG (pv 1) (aG (px K (pv 1) aF) (aN (px K (pv 1) aF)))))))))),by unfold iU;walk_at "r"⟩) rfl (λ_=>rfl)
theorem aj7:rW P w K mg base 4 "after_saying" ["archive","parts"] (cG K cn 2 oN):=by refine jS (d:=oA) T.av8 ad5 (by walk_at "u") (λf cdv A outer s H E hr=>⟨_,(aM (aU (qX (do3 T:) (hr.mono (by decide)) (aG (pv 0) (aG aS (aG (pv 1) (aG aF (aN nS)))))))),by unfold oA;walk_at "r"⟩) rfl (λ_=>rfl)
theorem bv0:rW P w K mg base 4 "same_saying" ["archive","parts"] (cG K cn 2 pF):=by refine jS (d:=pC) T.bc1 ae8 (by walk_at "u") (λf cdv A outer s H E hr=>⟨_,(aM (aU (qX (de5 T:) (hr.mono (by decide)) (aG (pv 0) (aG aS (aG (pv 1) (aG aF (aN aF)))))))),by unfold pC;walk_at "r"⟩) rfl (λ_=>rfl)
theorem ao5:rW P w K mg base 4 "within_saying" ["archive","parts"] (cG K cn 2 mS):=by refine jS (d:=mT) T.ao6 ab4 (by walk_at "u") (λf cdv A outer s H E hr=>⟨_,(aM (aU (qX (cl5 T:) (hr.mono (by decide)) (aG (pv 0) (aG aS (aG (pv 1) (aG aF (aN (px K (pv 1) aF))))))))),by unfold mT;walk_at "r"⟩) rfl (λ_=>rfl)
theorem ab7:rW P w K mg base 4 "apart_saying" ["archive","parts"] (cG K cn 2 lE):=by
 refine jS (d:=kS) T.al8 as5 (by walk_at "u") (λf cdv A outer s H E hr=>⟨_,(aH (bU (pc bq1 (px K (pv 1) aF) (px K (pv 1) aF)) (aM (pT T.e0_BadSaying xe_of)) bE)
 (aM (aU (qX (dl2 T:) (hr.mono (by decide)) (aG (pv 0) (aG aS (aG (pv 1) (aG (px K (pv 1) aF) (aN (px K (pv 1) aF)))))))))),by unfold kS;walk_at "r"⟩) rfl (λ_=>rfl)
theorem ci6:bt8 P w K mg base 4 "MAKERS" (di0 K cn 2 tb_MAKERS):=cf6 T.cz4 (jQ T.bk1 (be4 T) (by decide) (jQ T.av6 (az7 T) (by decide) (jQ T.ar6 (au7 T) (by decide) (jQ T.ab3 (aw3 T) (by decide) (jQ T.az6 (aj7 T) (by decide) (jQ T.at8 (bv0 T) (by decide) (jQ T.am4 (ao5 T) (by decide) (jQ T.ax6 (ab7 T) (by decide) (ct2)))))))))
theorem bd6:rW P w K mg base 5 "saying_of" ["archive","word","parts"] (cG K cn 3 bS):=by
 refine jS (d:=kF) T.bb7 bd4 (by walk_at "u") (λf cdv A outer s H E hr=>⟨_,(aH (bU (iB (dX K (pf (cm1 T:) hr (aG (pv 0) (aG (pv 1) (aN (pv 2))))) (λ_=>rfl))) (aM (pT T.e0_BadSaying xe_of)) bE)
 (aH (bU (PW.pt (cf2 (pc (oe K hr) (px K (uI T.d_PARTS (pv 1)) aF) aS) (bo7 (pc (oe K hr) (px K (pv 2) aF) (px K (pv 2) aF))))) (aM (pT T.e0_BadSaying xe_of)) bE)
 (aM (aU (cb2 (ci6 T:) xe_of.passes (hr.mono (by decide)) (pv 1) (aG (pv 0) (aN (pv 2)))))))),by unfold kF;walk_at "r"⟩) rfl (λ_=>rfl)
theorem bo6:gT P w K mg base 1 "_law_shape" ["_law_word","_law_parts"] (cG K cn 2 cY):=by
 refine cE (d:=oV) T.bv6 qT (by walk_at "u") (λf cdv A outer s H E hr=>⟨_,(aH (pz 2 qT (bd3 (nQ aS aS (nQ aS aS (nQ aS aS (nQ aS aS (nQ aS aS (nQ aS aS bh7))))))))
 (aH (pz 3 qT (bb4 (pv 2) (pv 0) (bb4 (bd3 (nQ aS aS (nQ aS aS bh7))) (pv 0) aS)))
 (aH (bU (PW.pt (pD (pc (lI K (n:=cP) hr) (aP (cI K) rfl T.fB dU (aN (pv 1))) (aP (cI K) rfl T.fB dU (aN (pv 3)))) (tM (pc (oe K hr) (pv 3) aS)))) (aM (aU jZ)) bE)
 (aM (aU (aP (jX K) rfl T.uH rM (aN (pm [4] (iD rfl T.jJ (aN (aP (cI K) rfl T.fB dU (aN (pv 1))))) (λ_ _ _ _ _=>(pn 4 qT)) (λ_ _ _ _ _=>eK) (λ_ _ _ _ _=>(dH (oe K hr) (aP (pN K) rfl T.bZ bR (aG (px K (pv 1) (pv 4)) (aN (zO T.bc2 az4)))) (dH (oe K hr) (px K (pv 3) (pv 4)) aS (fT _)) (fT _))))))))))),by unfold oV;walk_at "r"⟩) rfl (λ_=>rfl)
theorem ch4:gT P w K mg base 1 "_law_ink" ["_law_base_here","_law_parts"] (cG K cn 2 nM):=by
 refine cE (d:=sX) T.cc5 gU (by walk_at "u") (λf cdv A outer s H E hr=>⟨_,(aH (oZ (pv 0) (eI K 5 rfl (aX (pn 2 gU) (aX (pn 3 gU) (aX (pn 4 gU) (aX (pn 5 gU) (aX (pn 6 gU) eP)))))))
 (aH (pk 7 gU [9,10] (iZ K (pv 5)) (λ_ _ _ _ _=>(eI K 2 rfl (aX (pn 9 gU) (aX (pn 10 gU) eP)))) (λ_ _ _ _ _=>(ap2 (pc (oe K hr) (pv 9) (px K (pv 1) aF)))) (λ_ _ _ _ _=>(pv 10)))
 (aH (bU (PW.pt (pD (pc (oe K hr) (pv 7) (bL qS)) (pD (pc bs9 (aP (lM K) rfl T.wS tN (aN (dZ (lQ K) (pv 1) (eO aF) fZ))) aF) (tM (pc bq1 (aP (at1 K) rfl T.cf1 bq4 (aN (dZ (lQ K) (pv 1) (eO aF) fZ))) (aI oT aF aF)))))) (aM (aU aS)) bE)
 (aH (mG PassesOwn.never rfl (iD rfl T.jJ (aN (aI (aT K) (aI cX (pv 3) (pv 2)) aF))) (pn 8 gU) (aM (bU (pc gA (aP (pR K) rfl T.aw2 yF (aN (aI cX (px K (px K (pv 7) aF) (aP (lM K) rfl T.wS tN (aG (pv 8) (aN (aI cX (aP (cI K) rfl T.fB dU (aN (px K (pv 7) aF))) aF))))) (px K (pv 1) aF)))) (px K (pv 1) aF)) (aM (aU aS)) bE)))
 (aM (aU aS)))))),by unfold sX;walk_at "r"⟩) rfl (λ_=>rfl)
theorem bk4:gT P w K mg base 2 "_law_judged" ["_law_base_here","_law_word","_law_parts"] (cG K cn 3 bJ):=by
 refine cE (d:=dR) T.bj5 cW (by walk_at "u") (λf cdv A outer s H E hr=>⟨_,(aH (oZ (pv 0) (eI K 5 rfl (aX (pn 3 cW) (aX (pn 4 cW) (aX (pn 5 cW) (aX (pn 6 cW) (aX (pn 7 cW) eP)))))))
 (aH (bU (PW.pt (pD (iB (dX K (pf (bo6 T:) hr (aG (pv 1) (aN (pv 2)))) (λ_=>rfl))) (tM (bj7 (co4 K (n:=cP) hr) (px K (pv 2) aF) (pv 5) (by with_unfolding_all rfl))))) (aM (aU aS)) bE)
 (aH (bU (pc (oe K hr) (pv 1) aS) (aM (aU (pf (ch4 T:) hr (aG (pv 0) (aN (pv 2)))))) bE)
 (aH (pk 8 cW [10] (iZ K (pv 7)) (λ_ _ _ _ _=>(pn 10 cW)) (λ_ _ _ _ _=>(ap2 (pc (oe K hr) (px K (pv 10) aF) (px K (pv 2) aF)))) (λ_ _ _ _ _=>(px K (pv 10) aF)))
 (aH (pz 9 cW jZ)
 (aH (bU (pc (oe K hr) (pv 1) aS) (aM (pz 9 cW (gM (dH (lI K (n:=cP) hr) (pv 8) (bL qS) (fT _)) (gM (dH gA aF (px K (pv 2) aF) (fT _)) (mI (dH gA (px K (pv 2) aF) (px K (pv 8) aF) (fT _))))))) (aM (bU (pc (oe K hr) (pv 1) aS) (aM (pz 9 cW (dH (lI K (n:=cP) hr) (pv 8) (bL qS) (fT _)))) (aM (bU (pc (oe K hr) (pv 1) aS) (aM (pz 9 cW (gM (dH gA (lU iT aF) (px K (pv 2) aF) (fT _)) (gM (dH gA (px K (pv 2) aF) (px K (pv 2) aF) (fT _)) (mI (dH gA (px K (pv 2) aF) aF (fT _))))))) (aM (pz 9 cW (gM (dH (az0 K (n:=cP) hr) (px K (pv 2) aF) (pv 5) (by with_unfolding_all rfl)) (mI (dH (lI K (n:=cP) hr) (px K (pv 2) aF) (px K (pv 2) aF) (fT _)))))))))))
 (aH (bU (pc (oe K hr) (pv 1) aS) (aM (pz 9 cW (gM (pv 9) (gM (dH gA aF (px K (pv 2) aF) (fT _)) (mI (dH gA (px K (pv 2) aF) aF (fT _))))))) bE)
 (aH (bU (pc (oe K hr) (pv 1) aS) (aM (pz 9 cW (gM (pv 9) (gM (dH gA (lU iT aF) (px K (pv 2) aF) (fT _)) (gM (dH gA (px K (pv 2) aF) (px K (pv 2) aF) (fT _)) (mI (dH gA (px K (pv 2) aF) aF (fT _)))))))) bE)
 (aM (aU (px K (bL (aG aS (aN aS))) (fU bf0 rfl T.ax2 xX (aN (pv 9)))))))))))))),by unfold dR;walk_at "r"⟩) rfl (λ_=>rfl)
theorem fX(f:Addr)(cdv:Value)(A:Around)(outer:List Env)(s:Shared)(H:Hp)(E:XK)(hr:Room 0 (A.deeper (PyProof.Rows.envOfC "Saying.shown" (aL dI) s.heap.objs.size f cdv))):
 ∃t,PSs (lH lN P w K mg base ["self"] "Saying.shown" (aL dI) f cdv A outer s H E).nox (cK dI) t/\RS [] K cn E t dG:=
 ⟨_,(aM (aU (kU K (pv 0)))),by unfold dG;walk_at "r"⟩
theorem bp0:rQ P w K mg base 1 c_Apart "shown" (cG K cn 1 aV):=
 jK (d:=dG) T.ap8 T.vW fO (by walk_at "u") (fX T) rfl (λ_=>rfl) (by decide)
theorem ak5:rQ P w K mg base 1 c_Between "shown" (cG K cn 1 aV):=
 jK (d:=dG) T.ap4 T.rN fO (by walk_at "u") (fX T) rfl (λ_=>rfl) (by decide)
theorem bn0:rQ P w K mg base 1 c_Under "shown" (cG K cn 1 aV):=
 jK (d:=dG) T.ay8 T.vY fO (by walk_at "u") (fX T) rfl (λ_=>rfl) (by decide)
theorem bs0:rQ P w K mg base 1 c_Reign "shown" (cG K cn 1 aV):=
 jK (d:=dG) T.ar8 T.vV fO (by walk_at "u") (fX T) rfl (λ_=>rfl) (by decide)
theorem bj0:rQ P w K mg base 1 c_After "shown" (cG K cn 1 aV):=
 jK (d:=dG) T.au8 T.vX fO (by walk_at "u") (fX T) rfl (λ_=>rfl) (by decide)
theorem bo3:rQ P w K mg base 1 c_Same "shown" (cG K cn 1 aV):=
 jK (d:=dG) T.bj1 T.yG fO (by walk_at "u") (fX T) rfl (λ_=>rfl) (by decide)
theorem ax7:rQ P w K mg base 1 c_Within "shown" (cG K cn 1 aV):=
 jK (d:=dG) T.ap6 T.tP fO (by walk_at "u") (fX T) rfl (λ_=>rfl) (by decide)
theorem bp6:rQ P w K mg base 1 c_Ink "shown" (cG K cn 1 aV):=
 jK (d:=dG) T.bw5 T.aj2 fO (by walk_at "u") (fX T) rfl (λ_=>rfl) (by decide)
theorem ds2:∀q∈[(c_Ink,cG K cn 1 aV),(c_Reign,cG K cn 1 aV),(c_Under,cG K cn 1 aV),(c_Between,cG K cn 1 aV),(c_After,cG K cn 1 aV),(c_Same,cG K cn 1 aV),(c_Within,cG K cn 1 aV),(c_Apart,cG K cn 1 aV)],rQ P w K mg base 1 q.1 "shown" q.2:=jV (bp6 T) (jV (bs0 T) (jV (bn0 T) (jV (ak5 T) (jV (bj0 T) (jV (bo3 T) (jV (ax7 T) (jV (bp0 T) (by3))))))))
theorem xR:gT P w K mg base 1 "_law_one_kind" ["_law_e"] (cG K cn 1 bY):=by
 refine cE (d:=oF) T.ao8 mQ (by walk_at "u") (λf cdv A outer s H E hr=>⟨_,(aH (pz 1 mQ (bL (aG (aP (eQ (bh0 T) (bt0 T)) rfl T.bZ bR (aG (pv 0) (aN (dE T.gc_BadArchive)))) (aG (aP (eQ (ao0 T) (ag2 T)) rfl T.bZ bR (aG (pv 0) (aN (dE T.gc_BadSaying)))) (aG (aP (eQ (bd5 T) (bl4 T)) rfl T.bZ bR (aG (pv 0) (aN (dE T.gc_NoAge)))) (aN (aP (eQ (cm5 T) (cj9 T)) rfl T.bZ bR (aG (pv 0) (aN (dE T.gc_Stuck))))))))))
 (aH (pz 1 mQ (aI (aT K) (pv 1) (bL (aG (aP (eQ (cm3 T) (ce2 T)) rfl T.bZ bR (aG (pv 0) (aN (dE T.gc_NoYear)))) (aG (aP (eQ (ck7 T) (ci5 T)) rfl T.bZ bR (aG (pv 0) (aN (dE T.gc_NoGap)))) (aG (aP (eQ (bl9 T) (br9 T)) rfl T.bZ bR (aG (pv 0) (aN (dE T.gc_TooMany)))) (aN (aP (eQ (bf6 T) (bi6 T)) rfl T.bZ bR (aG (pv 0) (aN (dE T.gc_NoNumber)))))))))))
 (aH (pz 1 mQ (aI (aT K) (pv 1) (bL (aG (aP (eQ (bq6 T) (bj6 T)) rfl T.bZ bR (aG (pv 0) (aN (dE T.gc_NoDating)))) (aG (aP (eQ (cb3 T) (cw2 T)) rfl T.bZ bR (aG (pv 0) (aN (dE T.gc_BadRow)))) (aG (aP (eQ (cl7 T) (co6 T)) rfl T.bZ bR (aG (pv 0) (aN (dE T.gc_NoRow)))) (aN (aP (eQ (cl3 T) (ci3 T)) rfl T.bZ bR (aG (pv 0) (aN (dE T.gc_NoName)))))))))))
 (aM (aU (gM (dH (oe K hr) (al0 K PySem.F.plainAttrs_list PySem.F.slot_list_count PySem.F.type_list_count (co3 K (n:=cP) hr) (pv 1) (aN jZ)) aF (fT _)) (gM (aP (eQ (ab5 T) (ac6 T)) rfl T.bZ bR (aG (pv 0) (aN (dE T.gc_ArchiveError)))) (mI (aP (eQ (bl0 T) (bu0 T)) rfl T.bZ bR (aG (pv 0) (aN (zO T.bv5 bw0)))))))))))),by unfold oF;walk_at "r"⟩) rfl (λ_=>rfl)
theorem ak3:gT P w K mg base 6 "_law_right" ["_law_base_here","_law_archive","_law_words"] (cG K cn 3 oW):=by
 refine cE (d:=sS) T.bu6 hU (by walk_at "u") (λf cdv A outer s H E hr=>⟨_,(aH (pz 3 hU (fU (jP K) rfl T.tO pS (aN (dZ (lQ K) (pv 2) (eO aF) fZ))))
 (aH (pz 4 hU nS)
 (aH (pz 5 hU nS)
 (aH (dp4 (i:=5) (j:=6) hU (bd6 T:) T.ct_ArchiveError hr (aG (pv 1) (aG (px K (pv 2) aF) (aN (pv 3)))) (λ_=>(aM (pz 4 hU (pv 6)))))
 (aH (bU (pc (lI K (n:=cP) hr) (pv 3) (dZ (lQ K) (pv 2) (eO aF) fZ)) (aM (aU jZ)) bE)
 (aH (pz 7 hU (pf (bk4 T:) hr (aG (pv 0) (aG (px K (pv 2) aF) (aN (dZ (lQ K) (pv 2) (eO aF) fZ))))))
 (aH (bU (pc (oe K hr) (pv 7) aS) (aM (aU (gM (dH ah6 (pv 4) nS (fT _)) (mI (dH (oe K hr) (cl4 (pv 5) (ds2 T:) (hr.mono (by decide))) (al0 K PySem.F.plainAttrs_str PySem.F.slot_str_join PySem.F.type_str_join (br2 K) aS (aN (pm [8] (iZ K (pv 2)) (λ_ _ _ _ _=>(pn 8 hU)) (λ_ _ _ _ _=>eK) (λ_ _ _ _ _=>(fU ax1 rfl T.bc2 az4 (aN (pv 8))))))) (fT _)))))) bE)
 (aH (bU (PW.pt (pD (pc ah6 (pv 4) nS) (tM (iB (dX K (pf (xR T:) hr (aN (pv 4))) (λ_=>rfl)))))) (aM (aU jZ)) bE)
 (aH (bU (pc (oe K hr) (pv 7) aS) (aM (aU (aP (eQ (bd5 T) (bl4 T)) rfl T.bZ bR (aG (pv 4) (aN (dE T.gc_NoAge)))))) bE)
 (aM (aU (aP (eQ (ao0 T) (ag2 T)) rfl T.bZ bR (aG (pv 4) (aN (dE T.gc_BadSaying))))))))))))))),by unfold sS;refine ag1 ?_ (ag1 ?_ (ag1 ?_ (ag1 (dx5 (dt4 5 rfl) (av4 T) rfl ?_ ?_) ?_)))<;>walk_at "r"⟩) rfl (λ_=>rfl)
theorem e_BadRow:vN P w K mg base "BadRow" c_BadRow "row":=sC T.te_BadRow al7 (by walk_at "u")
theorem e_NoNumber:vN P w K mg base "NoNumber" c_NoNumber "number":=sC T.te_NoNumber ae4 (by walk_at "u")
theorem e_TooMany:vN P w K mg base "TooMany" c_TooMany "letter":=sC T.te_TooMany aj5 (by walk_at "u")
theorem e_NoGap:vN P w K mg base "NoGap" c_NoGap "gap":=sC T.te_NoGap bo0 (by walk_at "u")
theorem e_NoYear:vN P w K mg base "NoYear" c_NoYear "year":=sC T.te_NoYear ai8 (by walk_at "u")
theorem e_BadArchive:vN P w K mg base "BadArchive" c_BadArchive "part":=sC T.te_BadArchive ar1 (by walk_at "u")
theorem e_NoName:vN P w K mg base "NoName" c_NoName "name":=sC T.te_NoName aq7 (by walk_at "u")
theorem by8:gT P w K mg base 3 "_law_made" ["_law_name","_law_number"] (cG K cn 2 tS):=by
 refine cE (d:=tY) T.ci1 sT (by walk_at "u") (λf cdv A outer s H E hr=>⟨_,(aH (pz 2 sT (bL (aG (pP (e_BadArchive T:) (hr.mono (by decide)) (aN (pv 0))) (aG (pP (e_NoYear T:) (hr.mono (by decide)) (aN (pv 1))) (aG (pP (e_NoGap T:) (hr.mono (by decide)) (aN (pv 1))) (aG (pP (e_TooMany T:) (hr.mono (by decide)) (aN (pv 1))) (aG (pP (e_NoNumber T:) (hr.mono (by decide)) (aN (pv 1))) (aN (pP (e_BadRow T:) (hr.mono (by decide)) (aN (pv 1)))))))))))
 (aH (bU (PW.pt (pD (pc (lI K (n:=cP) hr) (sA K (px K (pv 2) aF)) (pv 0)) (pD (pc (lI K (n:=cP) hr) (sA K (px K (pv 2) aF)) (pv 1)) (pD (pc (lI K (n:=cP) hr) (sA K (px K (pv 2) aF)) (pv 1)) (tM (pc (lI K (n:=cP) hr) (sA K (px K (pv 2) aF)) (pv 1))))))) (aM (aU jZ)) bE)
 (aH (bU (PW.pt (pD (pc (lI K (n:=cP) hr) (sA K (px K (pv 2) aF)) (pv 1)) (pD (pc (lI K (n:=cP) hr) (sA K (px K (pv 2) aF)) (pv 1)) (tM (pc (lI K (n:=cP) hr) (sA K (pP (e_NoName T:) (hr.mono (by decide)) (aN (pv 0)))) (pv 0)))))) (aM (aU jZ)) bE)
 (aH (pz 2 sT (aI (aT K) (pv 2) (bL (aG (xO T.e0_BadSaying) (aG (xO T.e0_NoAge) (aG (xO T.e0_Stuck) (aG (xO T.e0_NoDating) (aG (xO T.e0_NoRow) (aN (pP (e_NoName T:) (hr.mono (by decide)) (aN (pv 0))))))))))))
 (aM (aU (aP (jX K) rfl T.uH rM (aN (pm [3] (iZ K (pv 2)) (λ_ _ _ _ _=>(pn 3 sT)) (λ_ _ _ _ _=>eK) (λ_ _ _ _ _=>(pf (xR T:) hr (aN (pv 3))))))))))))),by unfold tY;walk_at "r"⟩) rfl (λ_=>rfl)
theorem da6{f:Addr}{fd:FuncData}(F:Fun K "law" "law" uD f fd):FnOk P w K mg base lN 7 f fd ["_law_script"] (cG K cn 1 bb2):=by
 refine ad8 (d:=ba2) F iS (λcdv A outer s H E hr=>⟨_,(aH (pz 0 iS (pf (zK T:) hr (aN (pv 0))))
 (aH (pz 1 iS (pf (ca0 T:) hr (aG (pv 0) (aG (px K (bL (aG aF (aG aF (aN aF)))) (aI bB (pf (af0 T:) hr (aG (pv 0) (aN aF))) aF)) (aN aF)))))
 (aH (oZ (pv 1) (eI K 5 rfl (aX (pn 2 iS) (aX (pn 3 iS) (aX (pn 4 iS) (aX (pn 5 iS) (aX (pn 6 iS) eP)))))))
 (aH (pz 7 iS (qX (ca3 T:) (hr.mono (by decide)) (aG (pv 2) (aG (pv 3) (aG (fU (jP K) rfl T.tO pS (aN (pv 4))) (aG (pm [12,13] (iZ K (pv 5)) (λ_ _ _ _ _=>(eI K 2 rfl (aX (pn 12 iS) (aX (pn 13 iS) eP)))) (λ_ _ _ _ _=>eK) (λ_ _ _ _ _=>(rB (aG (pv 12) (aN (fU (jP K) rfl T.tO pS (aN (pv 13)))))))) (aN (fU (jP K) rfl T.tO pS (aN (pv 6))))))))))
 (aH (pz 8 iS (px K (bL (aG (aI cX (pv 3) (pv 2)) (aG aF (aN aF)))) (aI bB (aI fK (pf (af0 T:) hr (aG (pv 0) (aN aF))) aF) aF)))
 (aH (mG PassesOwn.never rfl (iZ K (aI (aT K) (dZ (lQ K) (pv 0) (eO aF) (eO aF)) (bL (aN aF)))) (pn 9 iS) (aH (pz 10 iS (aP (pR K) rfl T.aw2 yF (aN (pv 9))))
 (aH (pz 11 iS (pf (bi3 T:) hr (aG (pf (bz4 T:) hr (aG (pv 1) (aG (aI fK (pv 10) aF) (aN (pv 8))))) (aN (aI (aT K) (aI eM (aI bB (pv 10) aF) aF) (aI fK (pv 10) aF))))))
 (aM (bU (iB (dX K (pf (ak3 T:) hr (aG (pv 1) (aG (pv 7) (aN (pv 11))))) (λ_=>rfl))) (aM (aU jZ)) bE)))))
 (aH (bU (iB (dX K (pf (by8 T:) hr (aG (px K (pv 4) aF) (aN (pv 2)))) (λ_=>rfl))) (aM (aU jZ)) bE)
 (aM (aU (pf (ak3 T:) hr (aG (pv 1) (aG (pv 7) (aN (bL (aG aS (aG (px K (pv 4) aF) (aG aS (aG (aI oT aF aF) (aN aF))))))))))))))))))),by unfold ba2;walk_at "r"⟩) rfl (λ_=>rfl)
end
theorem dx9{l:PySem.W.OpenLaw}{w:World}{K:PySem.W.Frag}{h:Heap}{mg:Str->Option Value}{fa f0:Addr}(X:K.In h)(G:h.Ns mainGlobals mg)(hfa:mg "law"=some (.ref fa))
 {od0 an0:Option Addr}{sl0:Array (Option Value)}{oc0 kV0 dc0 pm0 cd0 ct0:Value}
 (a0:PySem.W.nsIn K mainGlobals "law"=some (some (.ref f0)))(l0:K.lookup f0=some ⟨oc0,od0,.func (PySem.W.fnOf "law" "law" (gP uD) (cK uD) (aL uD) .none kV0 dc0 pm0 an0 cd0 ct0),sl0⟩)(c0:PySem.W.codeIn K cd0 "law"=true)(k0:PySem.W.keepIn K (.ref f0)=true)
 {cn:Str->Option Addr}{c_Ink c_Reign c_Under c_Between c_After c_Same c_Within c_Apart c_Archive c_BadArchive c_BadSaying c_NoAge c_Stuck c_NoYear c_NoGap c_TooMany c_NoNumber c_NoDating c_BadRow c_NoRow c_NoName c_ArchiveError:Addr}{pZ uO gS:List (Str×Value)}
 (T:Txt w K cn mg c_Ink c_Reign c_Under c_Between c_After c_Same c_Within c_Apart c_Archive c_BadArchive c_BadSaying c_NoAge c_Stuck c_NoYear c_NoGap c_TooMany c_NoNumber c_NoDating c_BadRow c_NoRow c_NoName c_ArchiveError pZ uO gS)
 (main:∀ns:List Int,ns.length<=63->(∀n∈ns,Builtin.Int.intBits n<=1048576)->bb2 [.lst false (ns.map .int)]=.ok (.bl true)):
 ∃fd:FuncData,(∀(s:Shared)(v:Value),BindsTo s fd ⟨[v],[]⟩ [("_law_script",v)])/\∀base:Heap,K.In base->base.Ns mainGlobals mg->FnOk l.prog w K mg base lN 7 fa fd ["_law_script"] (by1 K):=by
 have e:=hfa.symm.trans (PySem.W.mg_of X G a0);cases e;have F0:=ar0 (st:=uD) l0 c0 k0;have key:∀base:Heap,FnOk l.prog w K mg base lN 7 fa (PySem.W.fnOf "law" "law" (gP uD) (cK uD) (aL uD) .none kV0 dc0 pm0 an0 cd0 ct0) ["_law_script"] (by1 K):=by intro base;exact law_fn (da6 T F0) main
 exact⟨_,λs v=>.of_eq rfl,λbase _ _=>key base⟩
theorem vJ{α:Type}(xs:List α)(k:Nat)(h:k<=xs.length):gH xs (some (k:Int)) none=xs.drop k:=by
 unfold gH;have e1:HT.sIx xs.length 0 (some (k:Int))=k:=by simp only[HT.sIx];rw[if_neg (by omega)];omega
 have e2:HT.sIx xs.length xs.length none=xs.length:=rfl;rw[e1,e2,List.take_of_length_le (by simp)]
theorem as4{α:Type}(xs:List α)(k:Nat):gH xs none (some (k:Int))=xs.take k:=by
 unfold gH;have e1:HT.sIx xs.length 0 none=0:=rfl;have e2:HT.sIx xs.length xs.length (some (k:Int))=min k xs.length:=by simp only[HT.sIx];rw[if_neg (by omega)];omega
 rw[e1,e2,List.drop_zero,Nat.sub_zero];rw[List.take_eq_take_iff];omega
structure Fm where
 first:Int
 span:Int
 names:List Str
 inks:List (Str×List Int)
 reigns:List (Str×Int×Int)
def dM(o:Bool)(p:Str×List Int):T:=.tup [.str p.1,.lst o (p.2.map .int)]
def eR(p:Str×Int×Int):T:=.tup [.str p.1,.int p.2.1,.int p.2.2]
def eV(o:Bool)(f:Fm):T:=.tup [.int f.first,.int (f.first+f.span),.lst o (f.names.map .str),.lst o (f.inks.map (dM o)),.lst o (f.reigns.map eR)]
def kL(w:Str):Bool:=decide (1<=(w.length:Int))&&(decide ((w.length:Int)<=8)&&w.cps.toList.all λc=>occ "abcdefghijklmnopqrstuvwxyz" ⟨#[c]⟩)
structure TabOk (xs:List Int):Prop where
 l1:1<=xs.length
 l60:xs.length<=60
 b:∀x∈xs,0<=x/\x<=1000000
 f:xs.Pairwise (λa b=>b<=a)
structure Gd (f:Fm):Prop where
 s0:0<=f.span
 s1:f.span<=300
 f0:-3000<=f.first
 f1:f.first+f.span<=3000
 n1:1<=f.names.length
 n8:f.names.length<=8
 nn:∀x∈f.names,kL x=true
 nd:f.names.Nodup
 i1:1<=f.inks.length
 i6:f.inks.length<=6
 ind:(f.inks.map (·.1)).Nodup
 inn:∀p∈f.inks,kL p.1=true/\TabOk p.2
 r1:1<=f.reigns.length
 r8:f.reigns.length<=8
 rnd:(f.reigns.map (·.1)).Nodup
 rn:∀p∈f.reigns,kL p.1=true/\-4000<=p.2.1/\p.2.1<=4000/\1<=p.2.2/\p.2.2<=100
theorem gO(l:List Int){i:Int}(h0:0<=i)(h1:i<l.length):∃v,atI (l.map T.int) i=some (.int v)/\v∈l:=by
 obtain⟨k,rfl⟩:=jI h0;have hk:k<l.length:=by omega
 exact⟨l[k],gI (by simp[hk]),List.getElem_mem hk⟩
theorem ch2(l:List Str){i:Nat}(h1:i<l.length):∃v,atI (l.map T.str) (0+(i:Int))=some (.str v)/\l[i]?=some v:=by rw[Int.zero_add];exact⟨l[i],gI (by simp[h1]),List.getElem?_eq_getElem h1⟩
theorem eJ(l:List (Str×List Int)):aR (l.map (dM false))=true:=rJ (λa=>by simp only[dM,dP,aR,mJ,Bool.not_false,Bool.and_self]) l
theorem wT(l:List (Str×List Int)):fS (l.map (dM true))=true:=qB (λa=>by simp only[dM,fJ,fS,sR,Bool.and_self]) l
theorem jN(o:Bool):∀l:List (Str×List Int),frzs (l.map (dM o))=l.map (dM false)
 |[]=>rfl
 |p::l=>by simp only[List.map_cons,frzs,jN o l,dM,frz,wN]
theorem eU(l:List (Str×Int×Int)):aR (l.map eR)=true:=rJ (λa=>rfl) l
theorem uG(l:List (Str×Int×Int)):fS (l.map eR)=true:=qB (λa=>rfl) l
theorem pJ(l:List (Str×Int×Int)):frzs (l.map eR)=l.map eR:=yP (λa=>rfl) l
theorem fQ{n:Nat}(h:n<=100000):n<=sizeLine:=Nat.le_trans h (by decide)
theorem el5{α:Type}(l:List α)(p:α->Bool):(l.map λc=>p c).all id=l.all p:=by
 induction l with
 |nil=>rfl
 |cons a l ih=>simp only[List.map_cons,List.all_cons,ih,id]
theorem oB{α:Type}{b:T->Fr->Option Fr}{c:Fr->Res Bool}{d:Fr->Res T}{ρ:Fr}{g f:α->T}:∀{l:List α},(∀a∈l,(match b (g a) ρ with|some ρ1=>(c ρ1).bind λk=>if k=true then d ρ1 else .no|none=>.no)=.ok (f a))->cF b c d ρ (l.map g)=.ok (l.map f)
 |[],_=>rfl
 |a::l,h=>by
  have h0:=h a List.mem_cons_self;have ih:=oB (l:=l) λu hu=>h u (List.mem_cons_of_mem _ hu);simp only[List.map_cons,cF];cases e:b (g a) ρ with
  |none=>rw[e]at h0;cases h0
  |some ρ1=>
   rw[e]at h0;simp only at h0⊢;cases e2:c ρ1 with
   |ok k=>
    rw[e2]at h0;simp only[oM]at h0⊢;cases k with
    |true=>rw[if_pos rfl]at h0⊢;rw[h0,ih];rfl
    |false=>rw[if_neg (by decide)]at h0;cases h0
   |ex x=>rw[e2]at h0;cases h0
   |no=>rw[e2]at h0;cases h0
theorem bq3(w s:Str)(m:Int)(hw:w.length<=100000):qE [.str w,.str s,.int m]=.ok (.bl (decide (1<=(w.length:Int))&&(decide ((w.length:Int)<=m)&&w.cps.toList.all λc=>occ s ⟨#[c]⟩))):=by
 unfold qE qY;have h2:w.cps.toList.length<=sizeLine:=by rw[<-uK];exact fQ hw
 have hc:cF (aJ 3) cT (aE (nP false) (aB 3) (aB 1)) [some (.str w),some (.str s),some (.int m),none] (w.cps.toList.map λc=>T.str ⟨#[c]⟩)=.ok ((w.cps.toList.map λc=>occ s ⟨#[c]⟩).map .bl):=by rw[List.map_map];exact eA λc _=>by walk_at "ev";rfl
 walk_at "ev";cases hA:decide (1<=(w.length:Int))with
 |false=>walk_at "ev"
 |true=>
  cases hB:decide ((w.length:Int)<=m)with
  |false=>walk_at "ev"
  |true=>walk_at "ev";rw[el5]
theorem ak1{w:Str}(h:kL w=true):w.length<=8:=by unfold kL at h;simp only[Bool.and_eq_true,decide_eq_true_iff]at h;omega
theorem cx4{w:Str}(h:kL w=true):tL [.str w]=.ok (.bl true):=by unfold tL vZ;have h1:=bq3 w "abcdefghijklmnopqrstuvwxyz" 8 (by have:=ak1 h;omega);rw[show(decide (1<=(w.length:Int))&&(decide ((w.length:Int)<=8)&&w.cps.toList.all λc=>occ "abcdefghijklmnopqrstuvwxyz" ⟨#[c]⟩))=true from h]at h1;walk_at "ev"
theorem rE(x l u:Int):cQ [.int x,.int l,.int u]=.ok (.bl (decide (l<=x)&&decide (x<=u))):=by
 have h:oJ [.int x]=.ok (.bl true):=by unfold oJ qM;walk_at "ev"
 unfold cQ kB;cases hA:decide (l<=x)with
 |true=>walk_at "ev"
 |false=>walk_at "ev"
theorem pK{x l u:Int}(h1:l<=x)(h2:x<=u):cQ [.int x,.int l,.int u]=.ok (.bl true):=by rw[rE,decide_eq_true h1,decide_eq_true h2];rfl
theorem dp6{α:Type}(l:List α):l.map (λ_=>T.bl true)=(l.map λ_=>true).map T.bl:=by rw[List.map_map];rfl
theorem uJ{α:Type}(o:Bool)(l:List α):oS false [.lst o (l.map λ_=>T.bl true)]=.ok (.bl true):=by rw[dp6,bu1];simp
theorem vQ{xs:List Int}{i:Nat}(h:i<xs.length):atI (xs.map T.int) (i:Int)=some (.int (xs.getD i 0)):=
 gI (by rw[List.getElem?_map,List.getElem?_eq_getElem h,List.getD_eq_getElem?_getD,List.getElem?_eq_getElem h];rfl)
theorem dy6{xs:List Int}(h:xs.Pairwise (λa b=>b<=a)){i:Nat}(hi:i+1<xs.length):xs.getD (i+1) 0<=xs.getD i 0:=by rw[List.pairwise_iff_getElem]at h;have:=h i (i+1) (by omega) hi (by omega);simpa[List.getD_eq_getElem?_getD,List.getElem?_eq_getElem hi,List.getElem?_eq_getElem (show i<xs.length by omega)]using this
theorem bu8(o:Bool){xs:List Int}(h:TabOk xs):qC [.lst o (xs.map .int)]=.ok (.bl true):=by
 unfold qC uA;obtain⟨h1,h60,hb,hf⟩:=h;have hc1:cF (aJ 1) cT (bT 3 cQ (aD (aB 1) (aD (dC (.int 0)) (aD (dC (.int 1000000)) aK)))) [some (.lst o (xs.map .int)),none,none] (xs.map .int)=.ok (xs.map λ_=>.bl true):=by refine eA λc hc=>?_;have:=pK (hb c hc).1 (hb c hc).2;walk_at "ev"
 have hc2:cF (aJ 2) cT (aE fW (aE aO (aB 0) (aB 2)) (aE aO (aB 0) (aE dF (aB 2) (dC (.int 1))))) [some (.lst o (xs.map .int)),none,none] (fA 1 ((xs.length:Int)-1).toNat)=.ok ((List.range (xs.length-1)).map λ_=>.bl true):=by
  unfold fA;rw[show((xs.length:Int)-1).toNat=xs.length-1 by omega];refine eA λi hi=>?_;have hi:=List.mem_range.mp hi;have a1:atI (xs.map T.int) (1+(i:Int))=some (.int (xs.getD (i+1) 0)):=by rw[show(1:Int)+(i:Int)=((i+1:Nat):Int) by omega];exact vQ (by omega)
  have a2:atI (xs.map T.int) (1+(i:Int)-1)=some (.int (xs.getD i 0)):=by rw[show(1:Int)+(i:Int)-1=(i:Int) by omega];exact vQ (by omega)
  have a3:=decide_eq_true (dy6 hf (i:=i) (by omega));walk_at "ev"
 have hl2:(fA 1 ((xs.length:Int)-1).toNat).length<=sizeLine:=by rw[kD];exact fQ (by omega)
 have k1:decide (1<=(xs.length:Int))=true:=decide_eq_true (by omega);have k2:decide ((xs.length:Int)<=60)=true:=decide_eq_true (by omega);have y1:=λo=>uJ o xs;have y2:=λo=>uJ o (List.range (xs.length-1));clear hb hf;walk_at "ev"
theorem bz9{b l:Int}(h1:-4000<=b)(h2:b<=4000)(h3:1<=l)(h4:l<=100):qF [.int b,.int l]=.ok (.bl true):=by unfold qF tV;have k1:=pK h1 h2;have k2:=pK h3 h4;walk_at "ev"
theorem ba6{a b:Int}(h1:-3000<=a)(h2:a<=b)(h3:b<=3000)(h4:b-a<=300):sP [.int a,.int b]=.ok (.bl true):=by unfold sP sK;have k1:=pK h1 (show a<=3000 by omega);have k2:=pK (show -3000<=b by omega) h3;have k3:decide (0<=b-a)=true:=decide_eq_true (by omega);have k4:decide (b-a<=300)=true:=decide_eq_true (by omega);walk_at "ev"
theorem wV{o:Bool}{ss:List Str}{l u:Int}(h1:l<=ss.length)(h2:(ss.length:Int)<=u)(h3:ss.length<=1000)(hn:∀x∈ss,kL x=true)(nd:ss.Nodup):mK [.lst o (ss.map .str),.int l,.int u]=.ok (.bl true):=by
 unfold mK sL;have hc:cF (aJ 3) cT (bT 1 tL (aD (aB 3) aK)) [some (.lst o (ss.map .str)),some (.int l),some (.int u),none] (ss.map .str)=.ok (ss.map λ_=>.bl true):=by refine eA λc hc=>?_;have:=cx4 (hn c hc);walk_at "ev"
 have k1:decide (l<=(ss.length:Int))=true:=decide_eq_true h1;have k2:decide ((ss.length:Int)<=u)=true:=decide_eq_true h2;have y1:=λo=>uJ o ss;have ls:=cr5 o nd h3;have l4:ss.length<=100000:=by omega
 clear hn nd;walk_at "ev";simp
theorem cc0{is:List (Str×List Int)}(h6:is.length<=6)(nd:(is.map (·.1)).Nodup)(ok:∀p∈is,kL p.1=true/\TabOk p.2):tW [.lst false (is.map (dM false))]=.ok (.bl true):=by
 unfold tW uE;have hc1:cF (eE (aY (aJ 1) (aY (aJ 2) eS))) cT (bG (aB 1)) [some (.lst false (is.map (dM false))),none,none] (is.map (dM false))=.ok ((is.map (·.1)).map .str):=by rw[List.map_map];exact oB λp _=>by simp only[dM];walk_at "ev";rfl
 have hc2:cF (eE (aY (aJ 1) (aY (aJ 2) eS))) cT (bT 1 qC (aD (aB 2) aK)) [some (.lst false (is.map (dM false))),none,none] (is.map (dM false))=.ok (is.map λ_=>.bl true):=by refine oB λp hp=>?_;simp only[dM];have:=bu8 false (ok p hp).2;walk_at "ev"
 have nm:=wV (o:=false) (ss:=is.map (·.1)) (l:=0) (u:=6) (by omega) (by simp;omega) (by simp;omega) (λx hx=>by obtain⟨p,hp,rfl⟩:=List.mem_map.mp hx;exact(ok p hp).1) nd;have y1:=λo=>uJ o is;have n1:=eJ is;have l4:is.length<=100000:=by omega
 clear ok nd;walk_at "ev"
theorem bu3{rs:List (Str×Int×Int)}(h8:rs.length<=8)(nd:(rs.map (·.1)).Nodup)(ok:∀p∈rs,kL p.1=true/\-4000<=p.2.1/\p.2.1<=4000/\1<=p.2.2/\p.2.2<=100):qV [.lst false (rs.map eR)]=.ok (.bl true):=by
 unfold qV rH;have hc1:cF (eE (aY (aJ 1) (aY (aJ 2) (aY (aJ 3) eS)))) cT (bG (aB 1)) [some (.lst false (rs.map eR)),none,none,none] (rs.map eR)=.ok ((rs.map (·.1)).map .str):=by rw[List.map_map];exact oB λp _=>by simp only[eR];walk_at "ev";rfl
 have hc2:cF (eE (aY (aJ 1) (aY (aJ 2) (aY (aJ 3) eS)))) cT (bT 2 qF (aD (aB 2) (aD (aB 3) aK))) [some (.lst false (rs.map eR)),none,none,none] (rs.map eR)=.ok (rs.map λ_=>.bl true):=by refine oB λp hp=>?_;simp only[eR];obtain⟨_,k1,k2,k3,k4⟩:=ok p hp;have:=bz9 k1 k2 k3 k4;walk_at "ev"
 have nm:=wV (o:=false) (ss:=rs.map (·.1)) (l:=0) (u:=8) (by omega) (by simp;omega) (by simp;omega) (λx hx=>by obtain⟨p,hp,rfl⟩:=List.mem_map.mp hx;exact(ok p hp).1) nd;have y1:=λo=>uJ o rs;have n1:=eU rs;have l4:rs.length<=100000:=by omega
 clear ok nd;walk_at "ev"
def bV(o:Bool)(f:Fm):T:=.ins o "Archive" ["first","present","letters","inks","reigns"] [.int f.first,.int (f.first+f.span),.lst o (f.names.map .str),.lst o (f.inks.map (dM o)),.lst o (f.reigns.map eR)]
theorem fi1:gE "first" []=none:=rfl
theorem fi2:gE "present" ["first"]=none:=by decide+kernel
theorem fi3:gE "letters" ["first","present"]=none:=by decide+kernel
theorem fi4:gE "inks" ["first","present","letters"]=none:=by decide+kernel
theorem fi5:gE "reigns" ["first","present","letters","inks"]=none:=by decide+kernel
theorem ct1:(["Archive"]:List Str).contains "Archive"=true:=by decide+kernel
theorem bb5{f:Fm}(g:Gd f):qW [.int f.first,.int (f.first+f.span),.lst false (f.names.map .str),.lst false (f.inks.map (dM false)),.lst false (f.reigns.map eR)]=.ok (bV true f):=by
 unfold qW kQ bV;have k1:=ba6 g.f0 (show f.first<=f.first+f.span by have:=g.s0;omega) g.f1 (by have:=g.s1;omega);have k2:=wV (o:=false) (l:=1) (u:=8) (ss:=f.names) (by have:=g.n1;omega) (by have:=g.n8;omega) (by have:=g.n8;omega) g.nn g.nd;have k3:=cc0 g.i6 g.ind g.inn;have k4:=bu3 g.r8 g.rnd g.rn;have n1:=eJ f.inks;have n2:=eU f.reigns;have z1:=jN false f.inks;have z2:=pJ f.reigns;have i1:=fi1;have i2:=fi2;have i3:=fi3;have i4:=fi4;have i5:=fi5;have c1:=ct1;have d0:∀x y z:T,cF (eE (aY (aJ 6) (aY (aJ 7) eS))) cT (pH (aD (bG (aB 6)) (aD (bP lR (aD (aB 7) aK)) aK))) [some x,some (.int f.first),some (.int (f.first+f.span)),some y,some (.lst false (f.inks.map (dM false))),some z,none,none,none,none] (f.inks.map (dM false))=.ok (f.inks.map (dM true)):=λx y z=>
  oB λp _=>by simp only[dM];walk_at "ev"
 have d1:∀x y z:T,cF (eE (aY (aJ 6) (aY (aJ 8) (aY (aJ 9) eS)))) cT (pH (aD (bG (aB 6)) (aD (bG (aB 8)) (aD (bG (aB 9)) aK)))) [some x,some (.int f.first),some (.int (f.first+f.span)),some y,some z,some (.lst false (f.reigns.map eR)),none,none,none,none] (f.reigns.map eR)=.ok (f.reigns.map eR):=λx y z=>
  oB λp _=>by simp only[eR];walk_at "ev"
 have l5:f.reigns.length<=100000:=by have:=g.r8;omega
 have l4:f.inks.length<=100000:=by have:=g.i6;omega
 clear g;have q1:decide (0<1000)=true:=rfl;have q2:decide (1<1000)=true:=rfl;have q3:decide (2<1000)=true:=rfl;have q4:decide (3<1000)=true:=rfl;have q5:decide (4<1000)=true:=rfl;walk_at "ev"
theorem gN(o:Bool)(f:Fm):frz (bV o f)=bV false f:=by simp only[bV,frz,frzs,ay0,jN,pJ]
theorem fE(f:Fm):dP (bV false f)=true:=by simp only[bV,dP,aR,dN,eJ,eU,Bool.not_false,Bool.and_self]
theorem cq7(f:Fm):fJ (bV true f)=true:=by simp only[bV,fJ,fS,xE,wT,uG,Bool.and_self]
theorem bs2(o:Bool)(f:Fm):kH ["Archive"] "first" (bV o f)=.ok (.int f.first):=by with_unfolding_all rfl
theorem ax4(o:Bool)(f:Fm):kH ["Archive"] "present" (bV o f)=.ok (.int (f.first+f.span)):=by with_unfolding_all rfl
theorem yX(o:Bool)(f:Fm):kH ["Archive"] "letters" (bV o f)=.ok (.lst o (f.names.map .str)):=by with_unfolding_all rfl
theorem ak7(o:Bool)(f:Fm):kH ["Archive"] "inks" (bV o f)=.ok (.lst o (f.inks.map (dM o))):=by with_unfolding_all rfl
theorem ac1(o:Bool)(f:Fm):kH ["Archive"] "reigns" (bV o f)=.ok (.lst o (f.reigns.map eR)):=by with_unfolding_all rfl
theorem jO{α:Type}(a:α)(l:List α):atI (a::l) 0=some a:=gI (j:=0) rfl
theorem fP{α:Type}(a b:α)(l:List α):atI (a::b::l) 1=some b:=gI (j:=1) rfl
theorem rP{α:Type}(a b c:α)(l:List α):atI (a::b::c::l) 2=some c:=gI (j:=2) rfl
theorem uP{α:Type}(a b c d:α)(l:List α):atI (a::b::c::d::l) 3=some d:=gI (j:=3) rfl
theorem ix4{α:Type}(a b c d e:α)(l:List α):atI (a::b::c::d::e::l) 4=some e:=gI (j:=4) rfl
def hiT:Option Int->T
 |none=>.non
 |some h=>.int h
def af4:List Str:=["Ink","Reign","Under","Between","After","Same","Within","Apart"]
def iE(o:Bool)(c:Str)(ls:List Int)(lo:Int)(hi:Option Int)(x:Str):T:=.ins o c ["spoken","low","high","text"] [.lst o (ls.map .int),.int lo,hiT hi,.str x]
theorem aa7(h:Option Int):dP (hiT h)=true/\fJ (hiT h)=true/\frz (hiT h)=hiT h:=by cases h<;>exact⟨rfl,rfl,rfl⟩
theorem cy7(h:Option Int):dP (hiT h)=true:=(aa7 h).1
theorem cy8(h:Option Int):fJ (hiT h)=true:=(aa7 h).2.1
theorem dd5(h:Option Int):frz (hiT h)=hiT h:=(aa7 h).2.2
theorem bt4(c:Str)(ls:List Int)(lo:Int)(hi:Option Int)(x:Str):fJ (iE true c ls lo hi x)=true:=by simp only[iE,fJ,fS,sR,cy8,Bool.and_self]
theorem dv7(o:Bool)(c:Str)(ls:List Int)(lo:Int)(hi:Option Int)(x:Str):frz (iE o c ls lo hi x)=iE false c ls lo hi x:=by simp only[iE,frz,frzs,wN,dd5]
theorem fj1:gE "spoken" []=none:=rfl
theorem fj2:gE "low" ["spoken"]=none:=by decide+kernel
theorem fj3:gE "high" ["spoken","low"]=none:=by decide+kernel
theorem fj4:gE "text" ["spoken","low","high"]=none:=by decide+kernel
theorem ct8:∀c∈af4,(["Ink","Reign","Under","Between","After","Same","Within","Apart"]:List Str).contains c=true:=by decide+kernel
theorem bu7{ys:List Str}(h:∀y∈ys,y.length<=2000000)(hl:ys.length<=8)(o:Bool):uB (.str " ") [.lst o (ys.map .str)]=.ok (.str (Txt.join " " ys)):=by
 rw[by7,if_pos];have hs:(ys.map (·.length)).sum<=ys.length*2000000:=by
  clear hl;induction ys with
  |nil=>simp
  |cons y ys ih=>have h1:=h y List.mem_cons_self;have h2:=ih λz hz=>h z (List.mem_cons_of_mem _ hz);simp only[List.map_cons,List.sum_cons,List.length_cons];omega
 have h1:(" ":Str).length=1:=by decide+kernel
 rw[h1];have:ys.length*2000000<=8*2000000:=Nat.mul_le_mul_right _ hl;omega
theorem wK(n:Str):∀ss:List Str,sF (.str n) (ss.map .str)=some (ss.map λs=>s==n)
 |[]=>rfl
 |s::ss=>by simp only[List.map_cons,sF,wK n ss];rfl
theorem bb8{n:Str}:∀{ss:List Str}{l:Nat},ss.Nodup->ss[l]?=some n->yR (ss.map λs=>s==n)=some l
 |[],l,_,h=>by simp at h
 |s::ss,0,_,h=>by simp at h;subst h;simp[yR]
 |s::ss,l+1,nd,h=>by
  rw[List.nodup_cons]at nd;simp only[List.getElem?_cons_succ]at h;have hne:(s==n)=false:=by simp;rintro rfl;exact nd.1 (List.mem_of_getElem? h)
  simp only[List.map_cons,hne,yR,bb8 nd.2 h];rfl
theorem da2{f:Fm}(g:Gd f){l:Nat}{n:Str}(h:f.names[l]?=some n)(o:Bool):xT (.lst o (f.names.map .str)) [.str n]=.ok (.int (l:Int)):=by simp only[xT,wK,bb8 g.nd h]
theorem cb8{ss:List Str}{n:Str}(h:n∈ss)(o:Bool):nP false (.str n) (.lst o (ss.map .str))=.ok (.bl true):=by
 have:(ss.map λs=>s==n).any id=true:=by rw[List.any_map,List.any_eq_true];exact⟨n,h,by simp⟩
 simp only[nP,wK,Bool.false_eq_true,if_false,this]
theorem cp6{ts:List T}{ys:List Str}{z:Str}(hn:aR ts=true)(hl:ts.length<=100000)(hx:∀a:Option T,cF (aJ 1) cT (bP oG (aD (aB 1) aK)) [a,none] ts=.ok (ys.map .str))(hj:uB (.str " ") [.lst true (ys.map .str)]=.ok (.str z)):zJ [.lst false ts]=.ok (.str z):=by unfold zJ zI;walk_at "ev"
theorem dj7{f:Fm}(g:Gd f){c w:Str}(hc:c∈af4){ps:List T}{ds:List T}{nl:List (Str×Nat)}{xs:List Str}{lo:Int}{hi:Option Int}(hp:aR ps=true)(hpl:ps.length<=4)(hk:kt_PARTS.lookup w=some (.tup ds))(hds:aR ds=true)
 (h7:∀a b d e h i:Option T,cF (eE (aY (aJ 7) (aY (aJ 8) eS))) (bF (aE dO (aB 8) (dC (.str "letter")))) (bG (aB 7)) [a,b,d,e,h,i,none,none,none,none] (iF ps ds)=.ok ((nl.map (·.1)).map .str))
 (hn:nl.length<=4)(hnl:∀p∈nl,f.names[p.2]?=some p.1)
 (hx:∀a:Option T,cF (aJ 1) cT (bP oG (aD (aB 1) aK)) [a,none] (.str w::ps)=.ok ((w::xs).map .str))(hxl:xs.length<=4)(hxb:∀y∈w::xs,y.length<=2000000):
 jA (bX (cO 10 [.ins true c [] [],bV false f,.str w,.lst false ps,.int lo,hiT hi]))=.ok (iE true c (nl.map λp=>(p.2:Int)) lo hi (Txt.join " " (w::xs))):=by
 unfold bX iE;have hl7:(iF ps ds).length<=sizeLine:=by rw[wO];exact fQ (by omega)
 have i1:=fj1;have i2:=fj2;have i3:=fj3;have i4:=fj4;have cc:=ct8 c hc;have fl:=yX false f;have h9:cF (aJ 9) cT (dBM at0 xT (cS (kH ["Archive"] "letters") (aB 1)) (aD (aB 9) aK)) [some (.ins true c [] []),some (bV false f),some (.str w),some (.lst false ps),some (.int lo),some (hiT hi),some (.lst true ((nl.map (·.1)).map .str)),none,none,none] ((nl.map (·.1)).map .str)=.ok ((nl.map λp=>(p.2:Int)).map .int):=by rw[List.map_map,List.map_map];refine eA (α:=Str×Nat) λp hp=>?_;have:=da2 g (hnl p hp) false;walk_at "ev";exact this
 have nh:=cy7 hi;have jn:=bu7 (ys:=w::xs) hxb (by simp;omega) true;have sp:=cp6 (ts:=.str w::ps) (by simp only[aR,dP,hp,Bool.and_self]) (by simp only[List.length_cons];omega) hx jn;have zp:=dB ps hp;clear hx jn;have np:=dN;have hxl2:1+xs.length<=sizeLine:=fQ (by omega);have hnn:(nl.map (·.1)).length<=100000:=by simp;omega
 have q1:decide (0<1000)=true:=rfl;have q2:decide (1<1000)=true:=rfl;have q3:decide (2<1000)=true:=rfl;have q4:decide (3<1000)=true:=rfl;clear g hnl hxb;walk_at "ev"
theorem ck4{a:T}{ts us:List T}(h:a∈iF ts us):∃(i:Nat)(t u:T),ts[i]?=some t/\us[i]?=some u/\a=.tup [t,u]:=by obtain⟨i,hi⟩:=List.getElem?_of_mem h;obtain⟨t,u,h1,h2,h3⟩:=au9 hi;exact⟨i,t,u,h1,h2,h3⟩
theorem cx0{ts:List T}{i:Nat}{t:T}(h:aR ts=true)(e:ts[i]?=some t):dP t=true:=by rw[sZ,List.all_eq_true]at h;exact h t (List.mem_of_getElem? e)
theorem tD{f:Fm}{w:Str}{ps:List T}{ds:List Str}(hk:kt_PARTS.lookup w=some (.tup (ds.map .str)))(hp:aR ps=true)(hl:ps.length=ds.length)(h4:ds.length<=4)
 (h:∀(i:Nat)(d:Str)(p:T),ds[i]?=some d->ps[i]?=some p->cV [bV false f,.str d,p]=.ok (.bl true)):dY [bV false f,.str w,.lst false ps]=.ok (.bl true):=by
 unfold dY mX;have na:=fE f;have za:=gN false f;have hc:cF (eE (aY (aJ 3) (aY (aJ 4) eS))) cT (bT 3 cV (aD (aB 0) (aD (aB 3) (aD (aB 4) aK)))) [some (bV false f),some (.str w),some (.lst false ps),none,none] (iF (ds.map .str) ps)=.ok ((iF (ds.map .str) ps).map λ_=>.bl true):=by
  have:=oB (b:=eE (aY (aJ 3) (aY (aJ 4) eS))) (c:=cT) (d:=bT 3 cV (aD (aB 0) (aD (aB 3) (aD (aB 4) aK)))) (ρ:=[some (bV false f),some (.str w),some (.lst false ps),none,none]) (g:=id) (f:=λ_=>T.bl true) (l:=iF (ds.map .str) ps) λa ha=>?_
  . rw[List.map_id]at this;exact this
  obtain⟨i,t,u,h1,h2,rfl⟩:=ck4 ha;rw[List.getElem?_map]at h1;cases e:ds[i]? with
  |none=>rw[e]at h1;cases h1
  |some d=>rw[e]at h1;cases h1;have k:=h i d u e h2;have nu:=cx0 hp h2;have zu:=wC u nu;simp only[id];clear h hk hp ha;walk_at "ev"
 have hs:(kt_PARTS.lookup w).isSome=true:=by rw[hk];rfl
 have e1:(!((ps.length:Int)==(ds.length:Int)))=false:=by rw[hl];simp
 have hpl:(iF (ds.map .str) ps).length<=sizeLine:=by rw[wO,List.length_map];exact fQ (by omega)
 have y:=λo=>uJ o (iF (ds.map .str) ps);have nd:=dN ds;clear h hl;walk_at "ev"
theorem nH:∀d∈(["ink","reign","dark","place","year","later","gap"]:List Str),(d=="letter")=false:=by decide+kernel
theorem bn9:∀d∈(["reign","dark","place","year","later","gap"]:List Str),(d=="ink")=false:=by decide+kernel
theorem dn7:∀d∈(["dark","place","year","later","gap"]:List Str),(d=="reign")=false:=by decide+kernel
theorem dL{f:Fm}{n:Str}(h:n∈f.names):cV [bV false f,.str "letter",.str n]=.ok (.bl true):=by unfold cV iY;have k:=cb8 h false;have fl:=yX false f;have e:(("letter":Str)=="letter")=true:=beq_self_eq_true _;walk_at "ev"
theorem bh8{f:Fm}(g:Gd f){n:Str}(h:n∈f.inks.map (·.1)):cV [bV false f,.str "ink",.str n]=.ok (.bl true):=by
 unfold cV iY;have fl:=ak7 false f;have e:(("ink":Str)=="ink")=true:=beq_self_eq_true _;have e1:=nH "ink" (by decide+kernel);have k:=cb8 h true;have b0:=@jO T;have l6:f.inks.length<=100000:=by have:=g.i6;omega
 have n1:=eJ f.inks;have hc:cF (aJ 3) cT (bG (aE aO (aB 3) (dC (.int 0)))) [some (bV false f),some (.str "ink"),some (.str n),none,none] (f.inks.map (dM false))=.ok ((f.inks.map (·.1)).map .str):=by rw[List.map_map];exact eA λp _=>by simp only[dM];walk_at "ev";rfl
 clear g h;walk_at "ev"
theorem ae1{f:Fm}(g:Gd f){n:Str}(h:n∈f.reigns.map (·.1)):cV [bV false f,.str "reign",.str n]=.ok (.bl true):=by
 unfold cV iY;have fl:=ac1 false f;have e:(("reign":Str)=="reign")=true:=beq_self_eq_true _;have e1:=nH "reign" (by decide+kernel);have e2:=bn9 "reign" (by decide+kernel);have k:=cb8 h true;have b0:=@jO T;have l6:f.reigns.length<=100000:=by have:=g.r8;omega
 have n1:=eU f.reigns;have hc:cF (aJ 4) cT (bG (aE aO (aB 4) (dC (.int 0)))) [some (bV false f),some (.str "reign"),some (.str n),none,none] (f.reigns.map eR)=.ok ((f.reigns.map (·.1)).map .str):=by rw[List.map_map];exact eA λp _=>by simp only[eR];walk_at "ev";rfl
 clear g h;walk_at "ev"
theorem gR{f:Fm}{d:Str}{lo hi i:Int}(hd:d∈(["dark","place","year","later","gap"]:List Str))(hk:kt_NUMBERS.lookup d=some (.tup [.int lo,.int hi]))(h1:lo<=i)(h2:i<=hi):cV [bV false f,.str d,.int i]=.ok (.bl true):=by unfold cV iY;have e1:=nH d (List.mem_cons_of_mem _ (List.mem_cons_of_mem _ hd));have e2:=bn9 d (List.mem_cons_of_mem _ hd);have e3:=dn7 d hd;have k:=pK h1 h2;have b0:=@jO T;have b1:=@fP T;walk_at "ev"
theorem uN:kt_NUMBERS.lookup ("dark":Str)=some (.tup [.int 0,.int 1000000]):=by with_unfolding_all rfl
theorem ax3:kt_NUMBERS.lookup ("place":Str)=some (.tup [.int 1,.int 100]):=by with_unfolding_all rfl
theorem uM:kt_NUMBERS.lookup ("year":Str)=some (.tup [.int (-4000),.int 4000]):=by with_unfolding_all rfl
theorem bl3:kt_NUMBERS.lookup ("later":Str)=some (.tup [.int 0,.int 300]):=by with_unfolding_all rfl
theorem xS:kt_NUMBERS.lookup ("gap":Str)=some (.tup [.int (-300),.int 300]):=by with_unfolding_all rfl
abbrev d_ink:List Str:=["letter","ink","dark","dark"]
abbrev d_reign:List Str:=["letter","reign","place"]
abbrev d_under:List Str:=["letter","reign"]
abbrev d_between:List Str:=["letter","year","year"]
abbrev d_two:List Str:=["letter","letter"]
abbrev d_within:List Str:=["letter","letter","later"]
abbrev d_apart:List Str:=["letter","letter","gap","gap"]
theorem yB:kt_PARTS.lookup ("ink":Str)=some (.tup (d_ink.map .str)):=by with_unfolding_all rfl
theorem rX:kt_PARTS.lookup ("reign":Str)=some (.tup (d_reign.map .str)):=by with_unfolding_all rfl
theorem zQ:kt_PARTS.lookup ("under":Str)=some (.tup (d_under.map .str)):=by with_unfolding_all rfl
theorem oH:kt_PARTS.lookup ("between":Str)=some (.tup (d_between.map .str)):=by with_unfolding_all rfl
theorem uW:kt_PARTS.lookup ("after":Str)=some (.tup (d_two.map .str)):=by with_unfolding_all rfl
theorem xY:kt_PARTS.lookup ("same":Str)=some (.tup (d_two.map .str)):=by with_unfolding_all rfl
theorem sY:kt_PARTS.lookup ("within":Str)=some (.tup (d_within.map .str)):=by with_unfolding_all rfl
theorem pG:kt_PARTS.lookup ("apart":Str)=some (.tup (d_apart.map .str)):=by with_unfolding_all rfl
theorem ci2:tb_MAKERS.lookup ("ink":Str)=some nK:=by with_unfolding_all rfl
theorem bg3:tb_MAKERS.lookup ("reign":Str)=some lJ:=by with_unfolding_all rfl
theorem cg5:tb_MAKERS.lookup ("under":Str)=some oI:=by with_unfolding_all rfl
theorem ae5:tb_MAKERS.lookup ("between":Str)=some iW:=by with_unfolding_all rfl
theorem ck6:tb_MAKERS.lookup ("after":Str)=some oN:=by with_unfolding_all rfl
theorem da3:tb_MAKERS.lookup ("same":Str)=some pF:=by with_unfolding_all rfl
theorem ch3:tb_MAKERS.lookup ("within":Str)=some mS:=by with_unfolding_all rfl
theorem ba3:tb_MAKERS.lookup ("apart":Str)=some lE:=by with_unfolding_all rfl
theorem co5{f:Fm}{w d1:Str}{ps ds:List T}{F:List T->Res T}{r:T}(hk:kt_PARTS.lookup w=some (.tup ds))(hp:aR ps=true)(hds:aR ds=true)(hd:dY [bV false f,.str w,.lst false ps]=.ok (.bl true))(h1:atI ds 1=some (.str d1))
 (h2:(d1=="letter")=false\/((d1=="letter")=true/\∃a b:Str,atI ps 0=some (.str a)/\atI ps 1=some (.str b)/\(a==b)=false))(hm:tb_MAKERS.lookup w=some F)(hF:F [bV false f,.lst false ps]=.ok r)(hc:fJ r=true):
 bS [bV false f,.str w,.lst false ps]=.ok r:=by
 unfold bS kF;have na:=fE f;have za:=gN false f;have zp:=dB ps hp;rcases h2 with h2|⟨h2,a,b,h3,h4,h5⟩
 . walk_at "ev"
 . walk_at "ev"
def pB(xs:List Int)(d e:Int)(j:Nat):Bool:=decide ((if xs.getD (min j (xs.length-1)) 0-d<0 then -(xs.getD (min j (xs.length-1)) 0-d)else xs.getD (min j (xs.length-1)) 0-d)<=e)
def fL(xs:List Int)(d e:Int)(n:Nat):List Int:=((List.range n).filter (pB xs d e)).map λ(j:Nat)=>(j:Int)
def cy0:List Int->T
 |[]=>.non
 |a::l=>.tup [.int a,.int ((a::l).getD l.length 0)]
theorem ap1(xs:List Int)(d e:Int)(n:Nat):fL xs d e (n+1)=fL xs d e n++(if pB xs d e n=true then [(n:Int)]else []):=by unfold fL;rw[List.range_succ,List.filter_append,List.map_append];congr 1;simp only[List.filter_cons,List.filter_nil];split<;>rfl
theorem yZ(xs:List Int)(d e:Int)(n m:Nat)(h:∀j,n<=j->j<n+m->pB xs d e j=false):fL xs d e (n+m)=fL xs d e n:=by
 induction m with
 |zero=>rfl
 |succ m ih=>rw[<-Nat.add_assoc,ap1,ih (λj h1 h2=>h j h1 (by omega)),h (n+m) (by omega) (by omega)];simp
theorem as1{xs:List Int}{d e:Int}{n:Nat}(h:pB xs d e n=true):∃l,fL xs d e (n+1)=l++[(n:Int)]:=⟨fL xs d e n,by rw[ap1,if_pos h]⟩
theorem ai5(xs:List Int)(d e:Int)(n:Nat):∀x∈fL xs d e n,x<n:=by intro x hx;unfold fL at hx;obtain⟨j,hj,rfl⟩:=List.mem_map.mp hx;have:=List.mem_range.mp (List.mem_filter.mp hj).1;omega
theorem as9(l:List Int)(z:Int):(l++[z]).getD l.length 0=z:=by rw[List.getD_eq_getElem?_getD,List.getElem?_append_right (Nat.le_refl _)];simp
theorem dp2(xs:List Int)(d e:Int)(G:Nat)(h0:0<xs.length)(a:Int)(l:List Int)(hh:fL xs d e (min (xs.length-1) G+1)=a::l):
 cy0 (fL xs d e (G+1))=.tup [.int a,.int (if(a::l).getD l.length 0=((xs.length-1:Nat):Int)then(G:Int)else(a::l).getD l.length 0)]:=by
 have hmem:(a::l).getD l.length 0∈a::l:=by rw[List.getD_eq_getElem?_getD,List.getElem?_eq_getElem (by simp)];exact List.getElem_mem _
 have hb:=ai5 xs d e (min (xs.length-1) G+1) _ (by rw[hh];exact hmem);rcases Nat.lt_or_ge (xs.length-1) G with hG|hG
 . rw[Nat.min_eq_left (by omega)]at hh hb;have same:∀j,xs.length-1<=j->pB xs d e j=pB xs d e (xs.length-1):=by intro j hj;unfold pB;rw[Nat.min_eq_right hj,Nat.min_self]
   cases hp:pB xs d e (xs.length-1)with
   |true=>
    have hG':pB xs d e G=true:=by rw[same G (by omega),hp]
    obtain⟨l1,h1⟩:=as1 hG';obtain⟨l2,h2⟩:=as1 hp;rw[hh]at h2;have pre:∀m,∃r,fL xs d e (xs.length-1+1+m)=a::l++r:=by
     intro m;induction m with
     |zero=>exact⟨[],by rw[Nat.add_zero,hh,List.append_nil]⟩
     |succ m ih=>obtain⟨r,hr⟩:=ih;rw[<-Nat.add_assoc,ap1,hr,List.append_assoc];exact⟨_,rfl⟩
    obtain⟨r,hr⟩:=pre (G+1-(xs.length-1+1));rw[show xs.length-1+1+(G+1-(xs.length-1+1))=G+1 by omega]at hr;have last:(a::l).getD l.length 0=((xs.length-1:Nat):Int):=by
     have:l.length=l2.length:=by have:=congrArg List.length h2;simp at this;exact this
     rw[h2,this,as9]
    rw[last,if_pos rfl,hr];rw[hr]at h1;show T.tup [.int a,.int ((a::(l++r)).getD (l++r).length 0)]=_;have h1':a::(l++r)=l1++[(G:Int)]:=h1;have hlen:(l++r).length=l1.length:=by have:=congrArg List.length h1';simp at this⊢;exact this
    rw[h1',hlen,as9]
   |false=>have hs:=yZ xs d e (xs.length-1+1) (G+1-(xs.length-1+1)) (λj h1 h2=>by rw[same j (by omega),hp]);rw[show xs.length-1+1+(G+1-(xs.length-1+1))=G+1 by omega,hh]at hs;rw[hs];have hz:fL xs d e (xs.length-1+1)=fL xs d e (xs.length-1):=yZ xs d e (xs.length-1) 1 (λj h1 h2=>by rw[show j=xs.length-1 by omega,hp]);have hb2:=ai5 xs d e (xs.length-1) _ (by rw[<-hz,hh];exact hmem);rw[if_neg (by omega)];rfl
 . rw[Nat.min_eq_right hG]at hh hb;rw[hh];show T.tup [.int a,.int ((a::l).getD l.length 0)]=_;have:(if(a::l).getD l.length 0=((xs.length-1:Nat):Int)then(G:Int)else(a::l).getD l.length 0)=(a::l).getD l.length 0:=by
    split
    . next h=>rw[h];rw[h]at hb;omega
    . rfl
   rw[this]
theorem ch8(xs:List Int)(d e:Int)(G:Nat)(h0:0<xs.length)(hh:fL xs d e (min (xs.length-1) G+1)=[]):fL xs d e (G+1)=[]:=by
 rcases Nat.lt_or_ge (xs.length-1) G with hG|hG
 . rw[Nat.min_eq_left (by omega)]at hh;have hp:pB xs d e (xs.length-1)=false:=by
    cases hp:pB xs d e (xs.length-1)with
    |false=>rfl
    |true=>obtain⟨l,h⟩:=as1 hp;rw[hh]at h;simp at h
   have hs:=yZ xs d e (xs.length-1+1) (G+1-(xs.length-1+1)) (λj h1 h2=>by
    have:pB xs d e j=pB xs d e (xs.length-1):=by unfold pB;rw[Nat.min_eq_right (by omega),Nat.min_self]
    rw[this,hp])
   rw[show xs.length-1+1+(G+1-(xs.length-1+1))=G+1 by omega,hh]at hs;exact hs
 . rw[Nat.min_eq_right hG]at hh;exact hh
theorem aq9(o:Bool)(xs:List Int)(d e:Int)(G:Nat)(h0:xs≠[])(hx:xs.length<=1000)(hG:G<=1000):pV [.lst o (xs.map .int),.int d,.int e,.int G]=.ok (cy0 (fL xs d e (G+1))):=by
 unfold pV wM;have hl:0<xs.length:=List.length_pos_iff.mpr h0;obtain⟨n,hn⟩:∃n,min (xs.length-1) G+1=n:=⟨_,rfl⟩;have e1:(if(G:Int)<(xs.length:Int)-1 then(G:Int)else(xs.length:Int)-1)+1=(n:Int):=by split<;>omega
 have k1:-(2^62)<=(n:Int)/\(n:Int)<2^62:=by omega
 have k2:(fA 0 (n:Int).toNat).length<=sizeLine:=by rw[kD];exact fQ (by omega)
 have hc:cF (aJ 7) (bF (aE fW (bP sG (aD (aE dF (aE aO (aB 0) (aB 7)) (aB 1)) aK)) (aB 2))) (bG (aB 7)) [some (.lst o (xs.map .int)),some (.int d),some (.int e),some (.int G),some (.int ((xs.length:Int)-1)),none,none,none] (fA 0 (n:Int).toNat)=.ok ((fL xs d e n).map .int):=by
  unfold fA fL;rw[Int.toNat_natCast,List.map_map];refine yK λi hi=>?_;have hi:=List.mem_range.mp hi;have a1:=vQ (xs:=xs) (i:=i) (by omega);have hp:pB xs d e i=decide ((if xs.getD i 0-d<0 then -(xs.getD i 0-d)else xs.getD i 0-d)<=e):=by unfold pB;rw[Nat.min_eq_left (by omega)]
  have z:(0:Int)+(i:Int)=(i:Int):=Int.zero_add _;refine⟨?_,λ_=>?_⟩
  . rw[hp];clear hp;walk_at "ev"
  . clear hp;walk_at "ev";rfl
 walk_at "ev";have hlast:((xs.length:Int)-1)=((xs.length-1:Nat):Int):=by omega
 cases hh:fL xs d e n with
 |nil=>rw[<-hn]at hh;have z1:=ch8 xs d e G hl hh;have z2:(((0:Nat):Int)==0)=true:=rfl;rw[z1];clear hh hn e1 hc z1 hlast;walk_at "ev";rfl
 |cons a l=>
  rw[<-hn]at hh;rw[dp2 xs d e G hl a l hh];have q1:atI ((a::l).map T.int) 0=some (.int a):=gI (j:=0) rfl;have q2:atI ((a::l).map T.int) ((((a::l).map T.int).length:Int)-1)=some (.int ((a::l).getD l.length 0)):=by have:=vQ (xs:=a::l) (i:=l.length) (by simp);rw[List.length_map,List.length_cons,show((l.length+1:Nat):Int)-1=(l.length:Int) by omega];exact this
  have q3:((((a::l).map T.int).length:Int)==0)=false:=by rw[List.length_map,List.length_cons,beq_eq_false_iff_ne];omega
  have q3':(((l.length+1:Nat):Int)==0)=false:=by rw[beq_eq_false_iff_ne];omega
  have q4:(2:Nat)<=sizeLine:=by decide
  have q5:aR ((a::l).map T.int)=true:=mJ _;clear hh hn e1 hc;generalize(a::l).map T.int=X at q1 q2 q3 q5⊢;generalize(a::l).getD l.length 0=z at q2⊢;cases hz:(z==((xs.length-1:Nat):Int))with
  |true=>have hz':z=((xs.length-1:Nat):Int):=eq_of_beq hz;rw[if_pos hz'];clear hz';walk_at "ev"
  |false=>
   have hz':¬z=((xs.length-1:Nat):Int):=by rw[beq_eq_false_iff_ne]at hz;exact hz
   rw[if_neg hz'];clear hz';walk_at "ev"
theorem ah0{α:Type}{b:T->Fr->Option Fr}{body:Fr->bO}{g r:α->T}{key:α->Str}{n:Str}(Iv:Fr->Prop)
 (hs:∀a ρ,Iv ρ->∃ρ1,b (g a) ρ=some ρ1/\(((key a==n)=true/\body ρ1=.rt (r a))\/((key a==n)=false/\∃ρ2,body ρ1=.nx ρ2/\Iv ρ2))):
 ∀{l:List α}{ρ:Fr}{a0:α},Iv ρ->l.find? (λa=>key a==n)=some a0->iI b body (l.map g) ρ=.rt (r a0)
 |[],ρ,a0,_,h=>by simp at h
 |a::l,ρ,a0,hi,h=>by
  obtain⟨ρ1,h1,h2⟩:=hs a ρ hi;rw[List.find?_cons]at h;simp only[List.map_cons,iI,h1];rcases h2 with⟨k,h2⟩|⟨k,ρ2,h2,h3⟩
  . rw[k]at h;cases h;rw[h2]
  . rw[k]at h;rw[h2];exact ah0 Iv hs h3 h
theorem af8{α:Type}{key:α->Str}:∀{l:List α}{a:α},(l.map key).Nodup->a∈l->l.find? (λx=>key x==key a)=some a
 |[],a,_,h=>by cases h
 |x::l,a,nd,h=>by
  rw[List.map_cons,List.nodup_cons]at nd;rw[List.find?_cons];rcases List.mem_cons.mp h with rfl|h
  . simp
  . have:(key x==key a)=false:=by simp;intro e;exact nd.1 (by rw[e];exact List.mem_map_of_mem h)
    rw[this];exact af8 nd.2 h
theorem bx7{f:Fm}(g:Gd f){p:Str×List Int}(hp:p∈f.inks):fN [bV false f,.str p.1]=.ok (.lst true (p.2.map .int)):=by
 unfold fN jL;have fl:=ak7 false f;have n1:=eJ f.inks;have key:∀o2 o3:Option T,iI (eE (aY (aJ 2) (aY (aJ 3) eS))) (dA (bF (aE dO (aB 2) (aB 1))) (bD [] (bP lR (aD (aB 3) aK))) bM) (f.inks.map (dM false)) [some (bV false f),some (.str p.1),o2,o3]=.rt (.lst true (p.2.map .int)):=λo2 o3=>by
  refine ah0 (key:=λq:Str×List Int=>q.1) (r:=λq:Str×List Int=>.lst true (q.2.map .int)) (λρ=>∃o2 o3,ρ=[some (bV false f),some (.str p.1),o2,o3]) ?_ ⟨o2,o3,rfl⟩ (af8 (key:=λq:Str×List Int=>q.1) g.ind hp);rintro a ρ ⟨o2,o3,rfl⟩;refine⟨[some (bV false f),some (.str p.1),some (.str a.1),some (.lst false (a.2.map .int))],rfl,?_⟩;cases e:(a.1==p.1)with
  |true=>exact .inl ⟨rfl,by walk_at "ev"⟩
  |false=>exact .inr ⟨rfl,[some (bV false f),some (.str p.1),some (.str a.1),some (.lst false (a.2.map .int))],by walk_at "ev",_,_,rfl⟩
 clear g;walk_at "ev"
theorem ak4{f:Fm}(g:Gd f){p:Str×Int×Int}(hp:p∈f.reigns):kR [bV false f,.str p.1]=.ok (eR p):=by
 unfold kR oK;have fl:=ac1 false f;have n1:=eU f.reigns;have b0:=@jO T;have key:∀o2:Option T,iI (aJ 2) (dA (bF (aE dO (aE aO (aB 2) (dC (.int 0))) (aB 1))) (bD [] (bG (aB 2))) bM) (f.reigns.map eR) [some (bV false f),some (.str p.1),o2]=.rt (eR p):=λo2=>by
  refine ah0 (key:=λq:Str×Int×Int=>q.1) (r:=λq:Str×Int×Int=>eR q) (λρ=>∃o2,ρ=[some (bV false f),some (.str p.1),o2]) ?_ ⟨o2,rfl⟩ (af8 (key:=λq:Str×Int×Int=>q.1) g.rnd hp);rintro a ρ ⟨o2,rfl⟩;refine⟨[some (bV false f),some (.str p.1),some (eR a)],rfl,?_⟩;simp only[eR];cases e:(a.1==p.1)with
  |true=>exact .inl ⟨rfl,by walk_at "ev"⟩
  |false=>exact .inr ⟨rfl,[some (bV false f),some (.str p.1),some (.tup [.str a.1,.int a.2.1,.int a.2.2])],by walk_at "ev",_,rfl⟩
 clear g;walk_at "ev"
theorem aj0{b l k:Int}(h1:1<=k)(h2:k<=l):iX [.int b,.int l,.int k]=.ok (.int (b+k-1)):=by unfold iX nV;have:=pK h1 h2;walk_at "ev"
theorem qZ{i:Int}(h1:-10000000<=i)(h2:i<=10000000):i.natAbs.log2<1920:=by
 by_cases e:i.natAbs=0
 . rw[e];decide
 . rw[Nat.log2_lt e];exact Nat.lt_of_lt_of_le (show i.natAbs<2^24 by omega) (Nat.pow_le_pow_right (by decide) (by decide))
theorem tF{i:Int}(h1:-1000000<=i)(h2:i<=1000000):(toString i:Str).length<=2000000:=by have:=PyProof.Rows.len_str_of_int i;omega
theorem iQ{f:Fm}(g:Gd f){l:Nat}{n:Str}(h:f.names[l]?=some n):n.length<=2000000:=by have:=ak1 (g.nn n (List.mem_of_getElem? h));omega
theorem eL:(("letter":Str)=="letter")=true:=beq_self_eq_true _
def cr8(f:Fm):List Str->List T->Prop
 |[],[]=>True
 |d::ds,p::ps=>cV [bV false f,.str d,p]=.ok (.bl true)/\cr8 f ds ps
 |_,_=>False
theorem rZ{f:Fm}:∀{ds:List Str}{ps:List T},cr8 f ds ps->∀(i:Nat)(d:Str)(p:T),ds[i]?=some d->ps[i]?=some p->cV [bV false f,.str d,p]=.ok (.bl true)
 |[],_,_,i,d,p,h,_=>by simp at h
 |_::_,[],h,_,_,_,_,_=>h.elim
 |d::ds,p::ps,h,0,_,_,e1,e2=>by cases e1;cases e2;exact h.1
 |d::ds,p::ps,h,i+1,_,_,e1,e2=>rZ h.2 i _ _ e1 e2
theorem tI{f:Fm}(g:Gd f){c w d1 x:Str}{ps:List T}{ds:List Str}(nl:List (Str×Nat))(xs:List Str){lo:Int}{hi:Option Int}{F:List T->Res T}(hk:kt_PARTS.lookup w=some (.tup (ds.map .str)))(hm:tb_MAKERS.lookup w=some F)(hl:ps.length=ds.length)(h4:ds.length<=4/\nl.length<=4/\xs.length<=4)(hp:aR ps=true)(hd:cr8 f ds ps)(hnl:∀p∈nl,f.names[p.2]?=some p.1)(hxb:∀y∈xs,y.length<=2000000)(h1:atI (ds.map .str) 1=some (T.str d1))
 (h2:(d1=="letter")=false\/((d1=="letter")=true/\∃a b:Str,atI ps 0=some (.str a)/\atI ps 1=some (.str b)/\(a==b)=false))
 (h7:∀a b d e h i:Option T,cF (eE (aY (aJ 7) (aY (aJ 8) eS))) (bF (aE dO (aB 8) (dC (.str "letter")))) (bG (aB 7)) [a,b,d,e,h,i,none,none,none,none] (iF ps (ds.map .str))=.ok ((nl.map (·.1)).map .str))
 (hx:∀a:Option T,cF (aJ 1) cT (bP oG (aD (aB 1) aK)) [a,none] (.str w::ps)=.ok ((w::xs).map .str))
 (hxx:x=Txt.join " " (w::xs))(hF:jA (bX (cO 10 [.ins true c [] [],bV false f,.str w,.lst false ps,.int lo,hiT hi]))=.ok (iE true c (nl.map λp=>(p.2:Int)) lo hi x)->fJ (iE true c (nl.map λp=>(p.2:Int)) lo hi x)=true->F [bV false f,.lst false ps]=.ok (iE true c (nl.map λp=>(p.2:Int)) lo hi x))
 (hc:c∈af4:=by decide+kernel)(hw:w.length<=2000000:=by decide+kernel):
 bS [bV false f,.str w,.lst false ps]=.ok (iE true c (nl.map λp=>(p.2:Int)) lo hi x):=by
 have e:=dj7 g hc (lo:=lo) (hi:=hi) hp (by omega) hk (dN ds) h7 h4.2.1 hnl hx h4.2.2 (List.forall_mem_cons.mpr ⟨hw,hxb⟩);have k:=bt4 c (nl.map λp=>(p.2:Int)) lo hi x;rw[<-hxx]at e;exact co5 hk hp (dN ds) (tD hk hp hl h4.1 (rZ hd)) h1 h2 hm (hF e k) k
theorem al1{f:Fm}{l:Nat}{n:Str}(h:f.names[l]?=some n):∀p∈[(n,l)],f.names[p.2]?=some p.1:=List.forall_mem_cons.mpr ⟨h,nofun⟩
theorem al2{f:Fm}{l m:Nat}{n k:Str}(h:f.names[l]?=some n)(h':f.names[m]?=some k):∀p∈[(n,l),(k,m)],f.names[p.2]?=some p.1:=List.forall_mem_cons.mpr ⟨h,al1 h'⟩
theorem xl{a:Str}{xs:List Str}(h:a.length<=2000000)(k:∀y∈xs,y.length<=2000000):∀y∈a::xs,y.length<=2000000:=List.forall_mem_cons.mpr ⟨h,k⟩
theorem x0:∀y∈([]:List Str),y.length<=2000000:=nofun
theorem xn{f:Fm}(g:Gd f){n:Str}(h:kL n=true):n.length<=2000000:=by have:=ak1 h;omega
local macro_rules | `(tactic| walk_at "7") => `(tactic| (intros; simp only [List.map_cons, List.map_nil, iF, List.zipWith_cons_cons, List.zipWith_nil_left, cF]; walk_at "ev"))
local macro_rules | `(tactic| walk_at "x") => `(tactic| (intros; simp only [cF]; walk_at "ev"))
theorem be9{f:Fm}(g:Gd f){l:Nat}{n:Str}(h:f.names[l]?=some n){lo hi:Int}(h1:-4000<=lo)(h2:lo<=hi)(h3:hi<=4000):
 ∀{x:Str},x=Txt.join " " (("between":Str)::[n,toString lo,toString hi])->bS [bV false f,.str "between",.lst false [.str n,.int lo,.int hi]]=.ok (iE true "Between" [(l:Int)] lo (some hi) x):=by
 intro x hxx;have e1:=eL;have e2:=nH "year" (by decide+kernel);have g_lo:=qZ (show -10000000<=lo by omega) (by omega);have g_hi:=qZ (show -10000000<=hi by omega) (by omega);refine tI g (c:="Between") (d1:="year") [(n,l)] [n,toString lo,toString hi] oH ae5 rfl ⟨by decide,by simp,by simp⟩ rfl ⟨dL (List.mem_of_getElem? h),gR (by decide+kernel) uM (by omega) (by omega),gR (by decide+kernel) uM (by omega) (by omega),trivial⟩ (al1 h) (xl (iQ g h)<|xl (tF (by omega) (by omega))<|xl (tF (by omega) (by omega))<|x0) (fP _ _ _) (.inl e2) (by walk_at "7") (by walk_at "x") hxx λhx cs=>?_;unfold iW iU;have hm:vB [bV false f,.str "between",.lst false [.str n,.int lo,.int hi],.int lo,.int hi]=.ok (iE true "Between" [(l:Int)] lo (some hi) x):=hx;have b0:=@jO T;have b1:=@fP T;have b2:=@rP T;have b3:=@uP T;have na:=fE f;have za:=gN false f;have k1:decide (hi<lo)=false:=decide_eq_false (by omega);clear hx;walk_at "ev"
theorem ci8{f:Fm}(g:Gd f){l m:Nat}{n k:Str}(h:f.names[l]?=some n)(h':f.names[m]?=some k)(hne:(n==k)=false):
 ∀{x:Str},x=Txt.join " " (("after":Str)::[n,k])->bS [bV false f,.str "after",.lst false [.str n,.str k]]=.ok (iE true "After" [(l:Int),(m:Int)] 1 none x):=by
 intro x hxx;have e1:=eL;refine tI g (c:="After") (d1:="letter") [(n,l),(k,m)] [n,k] uW ck6 rfl ⟨by decide,by simp,by simp⟩ rfl ⟨dL (List.mem_of_getElem? h),dL (List.mem_of_getElem? h'),trivial⟩ (al2 h h') (xl (iQ g h)<|xl (iQ g h')<|x0) (fP _ _ _) (.inr ⟨e1,n,k,jO _ _,fP _ _ _,hne⟩) (by walk_at "7") (by walk_at "x") hxx λhx cs=>?_;unfold oN oA;have hm:zG [bV false f,.str "after",.lst false [.str n,.str k],.int 1,.non]=.ok (iE true "After" [(l:Int),(m:Int)] 1 none x):=hx;have b0:=@jO T;have b1:=@fP T;have b2:=@rP T;have b3:=@uP T;have na:=fE f;have za:=gN false f;clear hx;walk_at "ev"
theorem dj3{f:Fm}(g:Gd f){l m:Nat}{n k:Str}(h:f.names[l]?=some n)(h':f.names[m]?=some k)(hne:(n==k)=false):
 ∀{x:Str},x=Txt.join " " (("same":Str)::[n,k])->bS [bV false f,.str "same",.lst false [.str n,.str k]]=.ok (iE true "Same" [(l:Int),(m:Int)] 0 (some 0) x):=by
 intro x hxx;have e1:=eL;refine tI g (c:="Same") (d1:="letter") [(n,l),(k,m)] [n,k] xY da3 rfl ⟨by decide,by simp,by simp⟩ rfl ⟨dL (List.mem_of_getElem? h),dL (List.mem_of_getElem? h'),trivial⟩ (al2 h h') (xl (iQ g h)<|xl (iQ g h')<|x0) (fP _ _ _) (.inr ⟨e1,n,k,jO _ _,fP _ _ _,hne⟩) (by walk_at "7") (by walk_at "x") hxx λhx cs=>?_;unfold pF pC;have hm:au0 [bV false f,.str "same",.lst false [.str n,.str k],.int 0,.int 0]=.ok (iE true "Same" [(l:Int),(m:Int)] 0 (some 0) x):=hx;have b0:=@jO T;have b1:=@fP T;have b2:=@rP T;have b3:=@uP T;have na:=fE f;have za:=gN false f;clear hx;walk_at "ev"
theorem cl1{f:Fm}(g:Gd f){l m:Nat}{n k:Str}(h:f.names[l]?=some n)(h':f.names[m]?=some k)(hne:(n==k)=false){hi:Int}(h1:0<=hi)(h2:hi<=300):
 ∀{x:Str},x=Txt.join " " (("within":Str)::[n,k,toString hi])->bS [bV false f,.str "within",.lst false [.str n,.str k,.int hi]]=.ok (iE true "Within" [(l:Int),(m:Int)] 0 (some hi) x):=by
 intro x hxx;have e1:=eL;have e2:=nH "later" (by decide+kernel);have g_hi:=qZ (show -10000000<=hi by omega) (by omega);refine tI g (c:="Within") (d1:="letter") [(n,l),(k,m)] [n,k,toString hi] sY ch3 rfl ⟨by decide,by simp,by simp⟩ rfl ⟨dL (List.mem_of_getElem? h),dL (List.mem_of_getElem? h'),gR (by decide+kernel) bl3 h1 h2,trivial⟩ (al2 h h') (xl (iQ g h)<|xl (iQ g h')<|xl (tF (by omega) (by omega))<|x0) (fP _ _ _) (.inr ⟨e1,n,k,jO _ _,fP _ _ _,hne⟩) (by walk_at "7") (by walk_at "x") hxx λhx cs=>?_;unfold mS mT;have hm:wZ [bV false f,.str "within",.lst false [.str n,.str k,.int hi],.int 0,.int hi]=.ok (iE true "Within" [(l:Int),(m:Int)] 0 (some hi) x):=hx;have b0:=@jO T;have b1:=@fP T;have b2:=@rP T;have b3:=@uP T;have na:=fE f;have za:=gN false f;clear hx;walk_at "ev"
theorem cp5{f:Fm}(g:Gd f){l m:Nat}{n k:Str}(h:f.names[l]?=some n)(h':f.names[m]?=some k)(hne:(n==k)=false){lo hi:Int}(h1:-300<=lo)(h2:lo<=hi)(h3:hi<=300):
 ∀{x:Str},x=Txt.join " " (("apart":Str)::[n,k,toString lo,toString hi])->bS [bV false f,.str "apart",.lst false [.str n,.str k,.int lo,.int hi]]=.ok (iE true "Apart" [(l:Int),(m:Int)] lo (some hi) x):=by
 intro x hxx;have e1:=eL;have e2:=nH "gap" (by decide+kernel);have g_lo:=qZ (show -10000000<=lo by omega) (by omega);have g_hi:=qZ (show -10000000<=hi by omega) (by omega);refine tI g (c:="Apart") (d1:="letter") [(n,l),(k,m)] [n,k,toString lo,toString hi] pG ba3 rfl ⟨by decide,by simp,by simp⟩ rfl ⟨dL (List.mem_of_getElem? h),dL (List.mem_of_getElem? h'),gR (by decide+kernel) xS (by omega) (by omega),gR (by decide+kernel) xS (by omega) (by omega),trivial⟩ (al2 h h') (xl (iQ g h)<|xl (iQ g h')<|xl (tF (by omega) (by omega))<|xl (tF (by omega) (by omega))<|x0) (fP _ _ _) (.inr ⟨e1,n,k,jO _ _,fP _ _ _,hne⟩) (by walk_at "7") (by walk_at "x") hxx λhx cs=>?_;unfold lE kS;have hm:yT [bV false f,.str "apart",.lst false [.str n,.str k,.int lo,.int hi],.int lo,.int hi]=.ok (iE true "Apart" [(l:Int),(m:Int)] lo (some hi) x):=hx;have b0:=@jO T;have b1:=@fP T;have b2:=@rP T;have b3:=@uP T;have na:=fE f;have za:=gN false f;have k1:decide (hi<lo)=false:=decide_eq_false (by omega);clear hx;walk_at "ev"
theorem cw7{f:Fm}(g:Gd f){l:Nat}{n:Str}(h:f.names[l]?=some n){p:Str×Int×Int}(hp:p∈f.reigns){k:Int}(h1:1<=k)(h2:k<=p.2.2):
 ∀{x:Str},x=Txt.join " " (("reign":Str)::[n,p.1,toString k])->bS [bV false f,.str "reign",.lst false [.str n,.str p.1,.int k]]=.ok (iE true "Reign" [(l:Int)] (p.2.1+k-1) (some (p.2.1+k-1)) x):=by
 intro x hxx;have e1:=eL;have h100:=(g.rn p hp).2.2.2.2;have e2:=nH "reign" (by decide+kernel);have e3:=nH "place" (by decide+kernel);have g_k:=qZ (show -10000000<=k by omega) (by omega);refine tI g (c:="Reign") (d1:="reign") [(n,l)] [n,p.1,toString k] rX bg3 rfl ⟨by decide,by simp,by simp⟩ rfl ⟨dL (List.mem_of_getElem? h),ae1 g (List.mem_map_of_mem hp),gR (by decide+kernel) ax3 h1 (by omega),trivial⟩ (al1 h) (xl (iQ g h)<|xl (xn g (g.rn p hp).1)<|xl (tF (by omega) (by omega))<|x0) (fP _ _ _) (.inl e2) (by walk_at "7") (by walk_at "x") hxx λhx cs=>?_;unfold lJ kN;have hm:yU [bV false f,.str "reign",.lst false [.str n,.str p.1,.int k],.int (p.2.1+k-1),.int (p.2.1+k-1)]=.ok (iE true "Reign" [(l:Int)] (p.2.1+k-1) (some (p.2.1+k-1)) x):=hx;have b0:=@jO T;have b1:=@fP T;have b2:=@rP T;have b3:=@uP T;have na:=fE f;have za:=gN false f;have k1:=ak4 g hp;have k2:=aj0 (b:=p.2.1) h1 h2;simp only[eR]at k1;clear hx;walk_at "ev"
theorem cg6{f:Fm}(g:Gd f){l:Nat}{n:Str}(h:f.names[l]?=some n){p:Str×Int×Int}(hp:p∈f.reigns):
 ∀{x:Str},x=Txt.join " " (("under":Str)::[n,p.1])->bS [bV false f,.str "under",.lst false [.str n,.str p.1]]=.ok (iE true "Under" [(l:Int)] p.2.1 (some (p.2.1+p.2.2-1)) x):=by
 intro x hxx;have e1:=eL;have e2:=nH "reign" (by decide+kernel);refine tI g (c:="Under") (d1:="reign") [(n,l)] [n,p.1] zQ cg5 rfl ⟨by decide,by simp,by simp⟩ rfl ⟨dL (List.mem_of_getElem? h),ae1 g (List.mem_map_of_mem hp),trivial⟩ (al1 h) (xl (iQ g h)<|xl (xn g (g.rn p hp).1)<|x0) (fP _ _ _) (.inl e2) (by walk_at "7") (by walk_at "x") hxx λhx cs=>?_;unfold oI nZ;have hm:yQ [bV false f,.str "under",.lst false [.str n,.str p.1],.int p.2.1,.int (p.2.1+p.2.2-1)]=.ok (iE true "Under" [(l:Int)] p.2.1 (some (p.2.1+p.2.2-1)) x):=hx;have b0:=@jO T;have b1:=@fP T;have b2:=@rP T;have b3:=@uP T;have na:=fE f;have za:=gN false f;have k1:=ak4 g hp;have k2:=aj0 (b:=p.2.1) (l:=p.2.2) (k:=p.2.2) (g.rn p hp).2.2.2.1 (Int.le_refl _);simp only[eR]at k1;clear hx;walk_at "ev"
theorem ca7:gE "table" ["first","present","letters","inks","reigns"]=none:=by decide+kernel
theorem dl1:tm_table.lookup ("Archive":Str)=some fN:=by with_unfolding_all rfl
theorem ai6{b:Bool}{f:Fm}{o:Fr->Res T}{r:Fr->Res (List T)}{ρ:Fr}{ts:List T}(ho:o ρ=.ok (bV b f))(hr:r ρ=.ok ts):qG 2 "table" tm_table o r ρ=tT 2 fN (bV b f::ts):=by simp only[qG,ho,hr,oM,bV,ca7,dl1]
local macro_rules | `(tactic| walk_at "7") => `(tactic| (intros; simp only [List.map_cons, List.map_nil, iF, List.zipWith_cons_cons, List.zipWith_nil_left, cF]; walk_at "ev"))
local macro_rules | `(tactic| walk_at "x") => `(tactic| (intros; simp only [cF]; walk_at "ev"))
theorem du9{f:Fm}(g:Gd f){l:Nat}{n:Str}(h:f.names[l]?=some n){p:Str×List Int}(hp:p∈f.inks){d e:Int}(h1:0<=d)(h2:d<=1000000)(h3:0<=e)(h4:e<=1000000){a z:Int}{r:List Int}(hh:fL p.2 d e (f.span.toNat+1)=a::r)(hz:(a::r).getD r.length 0=z):
 ∀{x:Str},x=Txt.join " " (("ink":Str)::[n,p.1,toString d,toString e])->bS [bV false f,.str "ink",.lst false [.str n,.str p.1,.int d,.int e]]=.ok (iE true "Ink" [(l:Int)] (f.first+f.span-z) (some (f.first+f.span-a)) x):=by
 intro x hxx;have e1:=eL;have e2:=nH "ink" (by decide+kernel);have e3:=nH "dark" (by decide+kernel);have g_d:=qZ (show -10000000<=d by omega) (by omega);have g_e:=qZ (show -10000000<=e by omega) (by omega);refine tI g (c:="Ink") (d1:="ink") [(n,l)] [n,p.1,toString d,toString e] yB ci2 rfl ⟨by decide,by simp,by simp⟩ rfl ⟨dL (List.mem_of_getElem? h),bh8 g (List.mem_map_of_mem hp),gR (by decide+kernel) uN (by omega) (by omega),gR (by decide+kernel) uN (by omega) (by omega),trivial⟩ (al1 h) (xl (iQ g h)<|xl (xn g (g.inn p hp).1)<|xl (tF (by omega) (by omega))<|xl (tF (by omega) (by omega))<|x0) (fP _ _ _) (.inl e2) (by clear hh hz;walk_at "7") (by clear hh hz;walk_at "x") hxx λhx cs=>?_;unfold nK nF;have hm:ai4 [bV false f,.str "ink",.lst false [.str n,.str p.1,.int d,.int e],.int (f.first+f.span-z),.int (f.first+f.span-a)]=.ok (iE true "Ink" [(l:Int)] (f.first+f.span-z) (some (f.first+f.span-a)) x):=hx;have b0:=@jO T;have b1:=@fP T;have b2:=@rP T;have b3:=@uP T;have na:=fE f;have za:=gN false f;have fp:=ax4 false f;have ff:=bs2 false f;have ht:=bx7 g hp;have hA:pV [.lst false (p.2.map .int),.int d,.int e,.int (f.first+f.span-f.first)]=.ok (.tup [.int a,.int z]):=by have:=aq9 false p.2 d e f.span.toNat (by have:=(g.inn p hp).2.l1;intro q;rw[q]at this;simp at this) (by have:=(g.inn p hp).2.l60;omega) (by have:=g.s1;omega);rw[hh]at this;simp only[cy0,hz]at this;rw[show f.first+f.span-f.first=(f.span.toNat:Int) by have:=g.s0;omega];exact this
 have hmt:qG 2 "table" tm_table (aB 0) (aD (aE aO (aB 1) (dC (.int 1))) aK) [some (bV false f),some (.lst false [.str n,.str p.1,.int d,.int e]),none]=.ok (.lst true (p.2.map .int)):=by rw[ai6 (b:=false) (f:=f) (ts:=[.str p.1]) rfl (by clear hA hm hx hh hz;walk_at "ev")];clear hA hm hx hh hz;walk_at "ev"
 clear hh hz;clear hx;walk_at "ev"
theorem er1(i:Nat):(2:Int)^(30*(i+1))=2^(30*i)*1073741824:=by rw[Nat.mul_add,Int.pow_add];rfl
theorem aw0{i j:Int}(h1:-(2^64)<i)(h2:i<2^64):mulOk i j:=.inl ⟨h1,h2⟩
theorem uS{i j:Int}(h1:-(2^64)<j)(h2:j<2^64):mulOk i j:=.inr (.inl ⟨h1,h2⟩)
theorem by0(c p:Int)(h0:0<=p)(h1:p<=1000):∃z,pE [.int c,.int p]=.ok (.int z)/\0<=z/\z<2^120:=by
 unfold pE pA;have k1:(0:Int)<998244341:=by decide
 have k2:(0:Int)<998244353:=by decide
 have k3:mulOk 7919 p:=aw0 (by decide) (by decide);have k4:-(2^62)<=(4:Int)/\(4:Int)<2^62:=by decide
 walk_at "ev";generalize hL:iI _ _ _ _=o;obtain⟨ρ',rfl,z,r,o4,o5,o6,rfl,hz0,hz1⟩:=pW (λi ρ=>∃(z r:Int)(o4 o5 o6:Option T),ρ=[some (.int c),some (.int p),some (.int z),some (.int r),o4,o5,o6]/\0<=z/\z<2^(30*i)) hL ⟨_,_,_,_,_,rfl,by decide,by decide⟩ (by
  rintro i t ρ et ⟨z,r,o4,o5,o6,rfl,hz0,hz1⟩;obtain⟨hi,rfl⟩:=pQ et;have hi':i<4:=hi;have q1:gQ r 4099:=⟨by decide,by decide⟩;have q2:mulOk (r%4099) 240007:=uS (by decide) (by decide);have q3:mulOk (r/4099) 89:=uS (by decide) (by decide);have q4:mulOk 1201 (0+(i:Int)):=aw0 (by decide) (by decide);have q5:mulOk z 998244353:=uS (by decide) (by decide);walk_at "ev";refine⟨_,_,_,_,_,rfl,?_,?_⟩
  . have h1:=Int.emod_nonneg (r%4099*240007+r/4099*89+1201*(0+(i:Int))+11) (show(998244353:Int)≠0 by decide);omega
  . have h2:=Int.emod_lt_of_pos (r%4099*240007+r/4099*89+1201*(0+(i:Int))+11) (show(0:Int)<998244353 by decide);rw[er1];omega)
 refine⟨z,by walk_at "ev",hz0,?_⟩;rw[kD]at hz1;exact hz1
theorem aj8{n:Nat}(h:n<=100000):n<sizeLine:=Nat.lt_of_le_of_lt h (by decide)
theorem yH(ns:List Int)(h63:ns.length<=63)(hb:∀n∈ns,Builtin.Int.intBits n<=1048576):∃ms:List Int,iO [.lst false (ns.map .int)]=.ok (.lst true (ms.map .int))/\ms.length=ns.length/\∀x∈ms,0<=x:=by
 unfold iO iL;have k0:(0:Nat)<=sizeLine:=Nat.zero_le _;have k1:¬(64:Int)<(ns.length:Int):=by omega
 have k2:-(2^62)<=(ns.length:Int)/\(ns.length:Int)<2^62:=by omega
 walk_at "ev";generalize hL:iI _ _ _ _=o;obtain⟨ρ',rfl,ms,o2,o3,o4,rfl,hl,hm⟩:=pW (λi ρ=>∃(ms:List Int)(o2 o3 o4:Option T),ρ=[some (.lst false (ns.map .int)),some (.lst true (ms.map .int)),o2,o3,o4]/\ms.length=i/\∀x∈ms,0<=x) hL ⟨[],_,_,_,rfl,rfl,cL⟩ (by
  rintro i t ρ et ⟨ms,o2,o3,o4,rfl,hl,hm⟩;obtain⟨hi,rfl⟩:=pQ et;rw[Int.toNat_natCast]at hi;have hat:atI (ns.map T.int) (0+(i:Int))=some (.int ns[i]):=by rw[Int.zero_add];exact gI (by rw[List.getElem?_map,List.getElem?_eq_getElem hi];rfl)
  have hbi:=hb ns[i] (List.getElem_mem hi);generalize ns[i]=c at hat hbi;obtain⟨c',ec⟩:∃c',(if c<0 then -c else c)=c':=⟨_,rfl⟩;have hc0:0<=c':=by split at ec<;>omega
  obtain⟨nb,hnb1,hnb2⟩:∃nb:Nat,nb<=1048576/\1048576<=nb:=⟨1048576,Nat.le_refl _,Nat.le_refl _⟩;have hcb:c'.natAbs<2^nb:=by
   have:c'.natAbs=c.natAbs:=by split at ec<;>omega
   rw[this];exact dc4 (Nat.le_trans hbi hnb2)
  obtain⟨z,hz,hz0,hz1⟩:=by0 c' (0+(i:Int)) (by omega) (by omega);have hml:i<sizeLine:=aj8 (by omega);walk_at "ev";generalize hW:vI _ _ _=o;obtain⟨ρ',m',rfl,⟨q,j,hq1,hj,hjm,hqb,rfl⟩,_⟩:=af9 (m:=nb+1) (λm ρ=>∃(q:Int)(j:Nat),1<=q/\2^j<=q.natAbs/\j+m=nb+1/\q.natAbs<2^(nb+20)/\ρ=[some (.lst false (ns.map .int)),some (.lst true (ms.map .int)),some (.int (0+(i:Int))),some (.int c'),some (.int q)]) hW ⟨1,0,by decide,by decide,by omega,Nat.one_lt_two_pow (by omega),rfl⟩ (by omega) (by
   rintro m ρ ⟨q,j,hq1,hj,hjm,hqb,rfl⟩;by_cases hle:q<=c'
   . have q1:av1 10 6:=⟨by decide,by decide,by decide⟩;have q2:mulOk q 1000000:=uS (by decide) (by decide);have e6:(10:Int)^(6:Int).toNat=1000000:=rfl;have hjn:j<nb:=by
      rcases Nat.lt_or_ge j nb with h|h
      . exact h
      . have h1:2^nb<=2^j:=Nat.pow_le_pow_right (by decide) h;omega
     walk_at "ev";refine⟨m-1,by omega,q*1000000,j+1,by omega,?_,by omega,?_,rfl⟩
     . rw[Nat.pow_succ];omega
     . have h1:q.natAbs<2^nb:=by omega
       rw[Nat.pow_add];have h2:(q*1000000).natAbs=q.natAbs*1000000:=by omega
       rw[h2];have h3:(1000000:Nat)<=2^20:=by decide
       exact Nat.lt_of_lt_of_le (Nat.mul_lt_mul_of_pos_right h1 (by decide)) (Nat.mul_le_mul_left _ h3)
   . walk_at "ev")
  have hmul:mulOk q z:=by refine .inr (.inr ?_);have b1:=br7 hqb;have b2:Builtin.Int.intBits z<=120:=br7 (by omega);omega
  walk_at "ev";refine⟨ms++[c'+q*z],_,_,_,by rw[List.map_append];rfl,by rw[List.length_append,hl];rfl,?_⟩;intro x hx;rcases List.mem_append.mp hx with hx|hx
  . exact hm x hx
  . rw[List.mem_singleton.mp hx];have:=Int.mul_nonneg (show 0<=q by omega) hz0;omega)
 refine⟨ms,by walk_at "ev",?_,hm⟩;rw[hl,kD,Int.toNat_natCast]
theorem cs0(a:Int):0<=a%998244353/\a%998244353<998244353:=⟨Int.emod_nonneg _ (by decide),Int.emod_lt_of_pos _ (by decide)⟩
theorem nT(n:Int)(m:Nat)(hm:m<=1000):∃xs:List Int,eH [.int n,.int m]=.ok (.lst true (xs.map .int))/\xs.length=m/\∀x∈xs,0<=x/\x<1000000000:=by
 unfold eH qD;have k0:(0:Nat)<=sizeLine:=Nat.zero_le _;have k1:gQ n 2:=⟨by decide,by decide⟩;have k2:(0:Int)<2:=by decide
 have k3:mulOk (m:Int) (1-n%2):=aw0 (by omega) (by omega);have k5:(0:Int)<998244341:=by decide
 obtain⟨q,hq,hqm⟩:∃q:Nat,(m:Int)*(1-n%2)=q/\q<=m:=by
  have:n%2=0\/n%2=1:=by omega
  rcases this with e|e
  . exact⟨m,by rw[e];omega,Nat.le_refl _⟩
  . exact⟨0,by rw[e];omega,Nat.zero_le _⟩
 have k4:-(2^62)<=(q:Int)/\(q:Int)<2^62:=by omega
 walk_at "ev";generalize hL:iI _ _ _ _=o;obtain⟨ρ',rfl,xs,r,o4,o5,rfl,hl,hb⟩:=pW (λi ρ=>∃(xs:List Int)(r:Int)(o4 o5:Option T),ρ=[some (.int n),some (.int m),some (.lst true (xs.map .int)),some (.int r),o4,o5,none,none,none]/\xs.length=i/\∀x∈xs,0<=x/\x<1000000000) hL ⟨[],_,_,_,rfl,rfl,cL⟩ (by
  rintro i t ρ et ⟨xs,r,o4,o5,rfl,hl,hb⟩;obtain⟨hi,rfl⟩:=pQ et;have hi':i<q:=by rwa[Int.toNat_natCast]at hi
  have e9:(10:Int)^(9:Int).toNat=1000000000:=rfl;have q1:av1 10 9:=⟨by decide,by decide,by decide⟩;have q2:gQ r 1000000000:=⟨by decide,by decide⟩;have q3:i<sizeLine:=aj8 (by omega);have hb2:=hb;clear et hL hi hb;walk_at "ev";refine⟨xs++[r%1000000000],_,_,_,by rw[List.map_append];rfl,by rw[List.length_append,hl];rfl,λx hx=>?_⟩;rcases List.mem_append.mp hx with hx|hx
  . exact hb2 x hx
  . rw[List.mem_singleton.mp hx];omega)
 have hl':xs.length<=m:=by rw[hl,kD,Int.toNat_natCast];exact hqm
 clear hl hL;walk_at "ev";generalize hr0:r%998244341+5=r0;generalize hW:vI _ _ _=o;obtain⟨ρ',m',rfl,⟨ys,r1,p4,p5,p6,p7,p8,rfl,hyl,hyb⟩,hend⟩:=af9 (m:=m-xs.length) (λk ρ=>∃(ys:List Int)(r1:Int)(p4 p5 p6 p7 p8:Option T),ρ=[some (.int n),some (.int m),some (.lst true (ys.map .int)),some (.int r1),p4,p5,p6,p7,p8]/\ys.length+k=m/\∀x∈ys,0<=x/\x<1000000000) hW ⟨xs,r0,_,_,_,_,_,rfl,by omega,hb⟩ (by omega) (by
  rintro k ρ ⟨ys,r1,p4,p5,p6,p7,p8,rfl,hyl,hyb⟩;cases hc:decide ((ys.length:Int)<(m:Int))with
  |false=>clear hW hb hyb;walk_at "ev"
  |true=>
   have hlt:ys.length<m:=by have:=of_decide_eq_true hc;omega
   have t2:-(2^62)<=(2:Int)/\(2:Int)<2^62:=by decide
   have hb2:=hb;clear hW hb hr0;have hyb2:=hyb;clear hyb;walk_at "ev";generalize hL:iI _ _ _ _=o;obtain⟨ρ',rfl,r2,a6,a7,a8,rfl,hr2⟩:=pW (λi ρ=>∃(r2:Int)(a6 a7 a8:Option T),ρ=[some (.int n),some (.int m),some (.lst true (ys.map .int)),some (.int r2),p4,p5,a6,a7,a8]/\(0<i->0<=r2/\r2<998244353)) hL ⟨r1,_,_,_,rfl,λh=>absurd h (Nat.lt_irrefl 0)⟩ (by
    rintro i t ρ et ⟨r2,a6,a7,a8,rfl,_⟩;obtain⟨hi,rfl⟩:=pQ et;have q1:gQ r2 4099:=⟨by decide,by decide⟩;have q2:mulOk (r2%4099) 240007:=uS (by decide) (by decide);have q3:mulOk (r2/4099) 89:=uS (by decide) (by decide);have q4:mulOk 1201 (ys.length:Int):=aw0 (by decide) (by decide);have q5:(0:Int)<998244353:=by decide
    clear et hL hi hyb2;walk_at "ev";exact⟨_,_,_,_,rfl,λ_=>cs0 _⟩)
   have hr2':=hr2 (by rw[kD];decide);have q6:gQ r2 5:=⟨by decide,by decide⟩;have q7:ys.length<sizeLine:=aj8 (by omega);clear hL hr2;walk_at "ev";refine⟨k-1,by omega,ys++[r2/5],_,_,_,_,_,_,by rw[List.map_append];rfl,by rw[List.length_append,List.length_singleton];omega,λx hx=>?_⟩;rcases List.mem_append.mp hx with hx|hx
   . exact hyb2 x hx
   . rw[List.mem_singleton.mp hx];omega)
 have hlen:ys.length=m:=by
  have:¬(ys.length:Int)<(m:Int):=by
   intro h;have hd:decide ((ys.length:Int)<(m:Int))=true:=decide_eq_true h;clear hW hb hyb;have:bF (aE ltT (bP eY (aD (aB 2) aK)) (aB 1)) [some (.int n),some (.int m),some (.lst true (ys.map .int)),some (.int r1),p4,p5,p6,p7,p8]=.ok true:=by walk_at "ev"
   rw[this]at hend;cases hend
  omega
 refine⟨ys,?_,hlen,hyb⟩;clear hW hb hyb hend hlen;walk_at "ev"
theorem bk7{α β:Type}(f:α->β)(xs:List α)(a b:Option Int):gH (xs.map f) a b=(gH xs a b).map f:=by unfold gH;rw[List.length_map,List.map_take,List.map_drop]
theorem dr0(ns:List Int)(k:Int):∃z,pO [.lst false (ns.map .int),.int k]=.ok (.int z)/\0<=z:=by
 unfold pO wP;have hc:=bk7 T.int ns (some k) (some (k+1));walk_at "ev";cases gH ns (some k) (some (k+1))with
 |nil=>exact⟨0,rfl,by decide⟩
 |cons a l=>exact⟨if a<0 then -a else a,rfl,by split<;>omega⟩
theorem dm5:∀c,c<123->97<=c->occ "abcdefghijklmnopqrstuvwxyz" ⟨#[c]⟩=true:=by decide+kernel
theorem bu4{w:Str}(h1:1<=w.cps.toList.length)(h8:w.cps.toList.length<=8)(hl:∀c∈w.cps.toList,97<=c/\c<123):kL w=true:=by unfold kL;rw[uK,decide_eq_true (by omega),decide_eq_true (by omega),Bool.true_and,Bool.true_and,List.all_eq_true];exact λc hc=>dm5 c (hl c hc).2 (hl c hc).1
def sg:Str:="qwertyuiopasdfghjklzxcvbnm"
theorem sg_ok:sg.cps.toList.length=26/\sg.cps.toList.Nodup/\∀c∈sg.cps.toList,97<=c/\c<123:=by decide+kernel
theorem av7(c k:Nat):(iN ⟨#[c]⟩ k).cps.toList=List.replicate k c:=by
 unfold iN;simp only;induction k with
 |zero=>rfl
 |succ k ih=>rw[List.replicate_succ,List.flatten_cons,List.replicate_succ,<-ih];rfl
theorem bk2{α:Type}{g:Nat->α}{m:Nat}(h:∀a b,a<m->b<m->g a=g b->a=b):((List.range m).map g).Nodup:=by rw[List.Nodup,List.pairwise_map];exact List.Pairwise.imp_of_mem (λha hb hne e=>hne (h _ _ (List.mem_range.mp ha) (List.mem_range.mp hb) e)) List.nodup_range
theorem db1{i:Int}:∃k:Nat,k<26/\(k:Int)=i%26/\atI sg.cps.toList (i%26)=some (sg.cps.toList.getD k 0):=by
 have h0:=Int.emod_nonneg i (show(26:Int)≠0 by decide);have h1:=Int.emod_lt_of_pos i (show(0:Int)<26 by decide);obtain⟨k,hk⟩:=jI h0;have hk2:k<sg.cps.toList.length:=by rw[sg_ok.1];omega
 exact⟨k,by omega,hk.symm,by rw[hk];exact gI (by rw[List.getElem?_eq_getElem hk2,List.getD_eq_getElem?_getD,List.getElem?_eq_getElem hk2];rfl)⟩
theorem cx9{k:Nat}(h:k<26):97<=sg.cps.toList.getD k 0/\sg.cps.toList.getD k 0<123:=by
 have hk2:k<sg.cps.toList.length:=by rw[sg_ok.1];omega
 rw[List.getD_eq_getElem?_getD,List.getElem?_eq_getElem hk2];exact sg_ok.2.2 _ (List.getElem_mem hk2)
theorem ds7{i j:Nat}(h:i<26)(h':j<26)(e:sg.cps.toList.getD i 0=sg.cps.toList.getD j 0):i=j:=by
 have hi:i<sg.cps.toList.length:=by rw[sg_ok.1];omega
 have hj:j<sg.cps.toList.length:=by rw[sg_ok.1];omega
 rw[List.getD_eq_getElem?_getD,List.getElem?_eq_getElem hi,List.getD_eq_getElem?_getD,List.getElem?_eq_getElem hj]at e;exact(List.getElem_inj sg_ok.2.1).mp e
def eightN:List Str:=["letter","years","fades","rules","ink","put","after","same"]
def yE(k:Nat):List Str:=eightN.drop k++eightN.take k
theorem cd9:∀k,k<8->(yE k).length=8/\(yE k).Nodup/\∀x∈yE k,kL x=true:=by decide+kernel
theorem dq8:("qwertyuiopasdfghjklzxcvbnm":Str).length<=sizeLine:=by decide+kernel
theorem du2(n:Int)(m:Nat)(hn:0<=n)(h1:1<=m)(h8:m<=8):∃ss:List Str,sQ [.int n,.int m]=.ok (.lst true (ss.map .str))/\ss.length=m/\(∀x∈ss,kL x=true)/\ss.Nodup:=by
 unfold sQ sW;have z1:=dq8;have d3:gQ n 3:=⟨by decide,by decide⟩;have hr0:0<=n/3:=by omega
 generalize hr:n/3=r at hr0;have k2:(fA 0 (m:Int).toNat).length<=sizeLine:=by rw[kD];exact fQ (by omega)
 have km:-(2^62)<=(m:Int)/\(m:Int)<2^62:=by omega
 cases c0:(n%3==0)with
 |true=>
  obtain⟨k,hk,_,hat⟩:=db1 (i:=r);have hb:=cx9 hk;generalize sg.cps.toList.getD k 0=c at hat hb;have hc:cF (aJ 7) cT (aE gK (aE aO (aB 2) (aE bQ (aB 3) (dC (.int 26)))) (aE bK (aB 7) (dC (.int 1)))) [some (.int n),some (.int m),some (.str "qwertyuiopasdfghjklzxcvbnm"),some (.int r),none,none,none,none] (fA 0 (m:Int).toNat)=.ok (((List.range m).map λk=>iN ⟨#[c]⟩ (k+1)).map .str):=by
   unfold fA;rw[Int.toNat_natCast,List.map_map];refine eA λi hi=>?_;have hi:=List.mem_range.mp hi;have q1:-(2^63)<=(0+(i:Int)+1)/\(0+(i:Int)+1)<2^62/\(⟨#[c]⟩:Str).length*(0+(i:Int)+1).toNat<=sizeLine:=⟨by omega,by omega,fQ (by show 1*_<=_;omega)⟩;have hat:atI ("qwertyuiopasdfghjklzxcvbnm":Str).cps.toList (r%26)=some c:=hat;clear hr;walk_at "ev";have e1:(0+(i:Int)+1).toNat=i+1:=by omega
   simp only[Function.comp,e1]
  clear hat;refine⟨(List.range m).map λk=>iN ⟨#[c]⟩ (k+1),by walk_at "ev",by simp,?_,?_⟩
  . intro x hx;obtain⟨k,hk,rfl⟩:=List.mem_map.mp hx;have hk:=List.mem_range.mp hk;refine bu4 (by rw[av7];simp) (by rw[av7];simp;omega) λc' hc'=>?_;rw[av7]at hc';rw[(List.mem_replicate.mp hc').2];exact hb
  . refine bk2 λa b _ _ e=>?_;have:=congrArg (λz:Str=>z.cps.toList.length) e;simp only[av7,List.length_replicate]at this;omega
 |false=>
  cases c1:(n%3==1)with
  |true=>
   have h0:=Int.emod_nonneg r (show(8:Int)≠0 by decide);have hl:=Int.emod_lt_of_pos r (show(0:Int)<8 by decide);obtain⟨k,hk⟩:=jI h0;have hk8:k<8:=by omega
   have e1:gH [T.str "letter",.str "years",.str "fades",.str "rules",.str "ink",.str "put",.str "after",.str "same"] (some (r%8)) none=(eightN.drop k).map .str:=by rw[hk];exact(vJ (eightN.map T.str) k (by show k<=8;omega)).trans List.map_drop.symm
   have e2:gH [T.str "letter",.str "years",.str "fades",.str "rules",.str "ink",.str "put",.str "after",.str "same"] none (some (r%8))=(eightN.take k).map .str:=by rw[hk];exact(as4 (eightN.map T.str) k).trans List.map_take.symm
   have l1:(eightN.drop k).length+(eightN.take k).length<=100000:=by simp[eightN];omega
   obtain⟨u1,u2,u3⟩:=cd9 k hk8;have e3:gH ((eightN.drop k).map T.str++(eightN.take k).map T.str) none (some (m:Int))=((yE k).take m).map .str:=by rw[as4,<-List.map_append,<-List.map_take];rfl
   have n1:aR ((eightN.drop k).map T.str++(eightN.take k).map T.str)=true:=by rw[<-List.map_append];exact dN _
   refine⟨(yE k).take m,by clear hk;walk_at "ev",by simp[u1];omega,λx hx=>u3 x (List.mem_of_mem_take hx),u2.sublist (List.take_sublist _ _)⟩
  |false=>
   have h0:=Int.emod_nonneg r (show(8:Int)≠0 by decide);have hl:=Int.emod_lt_of_pos r (show(0:Int)<8 by decide);obtain⟨sz,hsz⟩:=jI (show 0<=1+r%8 by omega);have hs8:1<=sz/\sz<=8:=by omega
   have hpos:(0:Int)<(sz:Int):=by omega
   have a0:=Int.emod_nonneg (r/8) (show(sz:Int)≠0 by omega);have a1:=Int.emod_lt_of_pos (r/8) hpos;obtain⟨at',hat'⟩:=jI a0;have hal:at'<sz:=by omega
   have hq0:0<=r/64:=by omega
   generalize hq:r/64=q at hq0;let ix:Nat->Nat:=λk=>((q+(k:Int))%26).toNat;have ixb:∀k,ix k<26:=λk=>by have h0:=Int.emod_nonneg (q+(k:Int)) (show(26:Int)≠0 by decide);have h1:=Int.emod_lt_of_pos (q+(k:Int)) (show(0:Int)<26 by decide);show(_:Int).toNat<26;omega
   let nm:Nat->Str:=λk=>iN "a" at'++⟨#[sg.cps.toList.getD (ix k) 0]⟩++iN "b" (sz-1-at');have codes:∀k,(nm k).cps.toList=List.replicate at' 97++[sg.cps.toList.getD (ix k) 0]++List.replicate (sz-1-at') 98:=λk=>by show(iN ⟨#[97]⟩ at'++⟨#[sg.cps.toList.getD (ix k) 0]⟩++iN ⟨#[98]⟩ (sz-1-at'):Str).cps.toList=_;rw[vR,vR,av7,av7]
   have hc:cF (aJ 7) cT (aE bK (aE bK (aE gK (dC (.str "a")) (aB 6)) (aE aO (aB 2) (aE bQ (aE bK (aE gL (aB 3) (dC (.int 64))) (aB 7)) (dC (.int 26))))) (aE gK (dC (.str "b")) (aE dF (aE dF (aB 5) (dC (.int 1))) (aB 6)))) [some (.int n),some (.int m),some (.str "qwertyuiopasdfghjklzxcvbnm"),some (.int r),none,some (.int sz),some (.int at'),none] (fA 0 (m:Int).toNat)=.ok (((List.range m).map nm).map .str):=by
    unfold fA;rw[Int.toNat_natCast,List.map_map];refine eA λi hi=>?_;have hi:=List.mem_range.mp hi;have la:("a":Str).length=1:=by decide+kernel
    have lb:("b":Str).length=1:=by decide+kernel
    have q1:-(2^63)<=(at':Int)/\(at':Int)<2^62/\("a":Str).length*(at':Int).toNat<=sizeLine:=⟨by omega,by omega,fQ (by rw[la];omega)⟩;have e2:((sz:Int)-1-(at':Int)).toNat=sz-1-at':=by omega
    have q5:(at':Int).toNat=at':=Int.toNat_natCast _;have q2:-(2^63)<=((sz:Int)-1-(at':Int))/\((sz:Int)-1-(at':Int))<2^62/\("b":Str).length*((sz:Int)-1-(at':Int)).toNat<=sizeLine:=⟨by omega,by omega,fQ (by rw[lb];omega)⟩;have d64:gQ r 64:=⟨by decide,by decide⟩;have hat:atI ("qwertyuiopasdfghjklzxcvbnm":Str).cps.toList ((q+(0+(i:Int)))%26)=some (sg.cps.toList.getD (ix i) 0):=by
     obtain⟨k,hk,hk2,h⟩:=db1 (i:=q+(0+(i:Int)));have:ix i=k:=by show((q+(i:Int))%26).toNat=k;rw[Int.zero_add]at hk2;omega
     rw[this];exact h
    have q3:(iN "a" at').length+(⟨#[sg.cps.toList.getD (ix i) 0]⟩:Str).length<=sizeLine:=fQ (by rw[at7,la];show at'*1+1<=_;omega);have q4:(iN "a" at'++(⟨#[sg.cps.toList.getD (ix i) 0]⟩:Str)).length+(iN "b" (sz-1-at')).length<=sizeLine:=fQ (by rw[bs8,at7,at7,la,lb];show at'*1+1+(sz-1-at')*1<=_;omega);have w1:(iN "a" (at':Int).toNat).length+(⟨#[sg.cps.toList.getD (ix i) 0]⟩:Str).length<=sizeLine:=by rw[q5];exact q3
    have w2:(iN "a" (at':Int).toNat++(⟨#[sg.cps.toList.getD (ix i) 0]⟩:Str)).length+(iN "b" ((sz:Int)-1-(at':Int)).toNat).length<=sizeLine:=by rw[q5,e2];exact q4
    clear codes ixb hr hat' e2 q5 q3 q4 hsz;walk_at "ev";simp only[Function.comp,nm];congr 3<;>first|(congr 1;omega)|omega
   refine⟨(List.range m).map nm,?_,by simp,?_,?_⟩
   . clear codes ixb;have d8:gQ r 8:=⟨by decide,by decide⟩;walk_at "ev"
   . intro x hx;obtain⟨k,hk,rfl⟩:=List.mem_map.mp hx;refine bu4 (by rw[codes];simp;omega) (by rw[codes];simp;omega) λc' hc'=>?_;rw[codes,List.mem_append,List.mem_append]at hc';rcases hc' with(h|h)|h
     . rw[(List.mem_replicate.mp h).2];decide
     . rw[List.mem_singleton.mp h];exact cx9 (ixb k)
     . rw[(List.mem_replicate.mp h).2];decide
   . refine bk2 λa b ha hb e=>?_;have e2:=congrArg (λz:Str=>z.cps.toList[at']?) e;simp only[codes,List.append_assoc,List.getElem?_append_right (show(List.replicate at' 97).length<=at' by simp),List.length_replicate,Nat.sub_self,List.cons_append,List.getElem?_cons_zero,Option.some.injEq]at e2;have e3:=ds7 (ixb a) (ixb b) e2;have e4:((q+(a:Int))%26).toNat=((q+(b:Int))%26).toNat:=e3;omega
theorem hp6:rY (.int 10) (.int 6)=.ok (.int 1000000):=by rw[cz3,ag4 (show av1 10 6 from⟨by decide,by decide,by decide⟩)];rfl
theorem li4{xs:List Int}(h:xs.length=4):∃a b c d,xs=[a,b,c,d]:=by
 match xs,h with
 |[a,b,c,d],_=>exact⟨a,b,c,d,rfl⟩
theorem dt0{zs:List Int}{i:Nat}{t:T}(h:(zs.map T.int)[i]?=some t):∃z,t=.int z/\z∈zs:=by
 rw[List.getElem?_map]at h;cases e:zs[i]? with
 |none=>rw[e]at h;cases h
 |some z=>rw[e]at h;cases h;exact⟨z,rfl,List.mem_of_getElem? e⟩
theorem bt6(n:Int)(most:Nat)(h1:1<=most)(h60:most<=60):∃ys:List Int,sV [.int n,.int most]=.ok (.lst true (ys.map .int))/\TabOk ys:=by
 unfold sV sN;obtain⟨xs,hx,hl,hb⟩:=nT n 4 (by decide);obtain⟨a,b,c,d,rfl⟩:=li4 hl;have hb2:=List.forall_mem_cons.mp hb;have hb3:=List.forall_mem_cons.mp hb2.2;have hb4:=List.forall_mem_cons.mp hb3.2;have hb5:=List.forall_mem_cons.mp hb4.2;clear hb hl;obtain⟨v,hv,mv⟩:=gO [1000000,100,a%(1000000+1)] (i:=b%3) (by omega) (by simp;omega);have vb:0<=v/\v<=1000000:=by simp at mv;omega
 obtain⟨w,hw,mw⟩:=gO [2,9,40,30011,1000000+1] (i:=d%5) (by omega) (by simp;omega);have wb:0<w:=by simp at mw;omega
 have m0:=Int.emod_nonneg c (show(most:Int)≠0 by omega);have m1:=Int.emod_lt_of_pos c (show(0:Int)<(most:Int) by omega);obtain⟨k,hk⟩:=jI (show 0<=1+c%(most:Int) by omega);obtain⟨zs,hz,zl,zb⟩:=nT (n/7) k (by omega);have hp:=hp6;have d7:gQ n 7:=⟨by decide,by decide⟩;have mp:(0:Int)<(most:Int):=by omega
 simp only[List.map_cons,List.map_nil]at hx hv hw;have b0:=@jO T;have b1:=@fP T;have b2:=@rP T;have b3:=@uP T;clear mv mw hb2 hb3 hb4 hb5;have zb2:=zb;clear zb;have hx':eH [.int n,.int 4]=.ok (.lst true [.int a,.int b,.int c,.int d]):=hx;clear hx;walk_at "ev";generalize hL:iI _ _ _ _=o;obtain⟨ρ',rfl,ys,e,o5,rfl,yl,yb,yf,he0,he1⟩:=pW (λi ρ=>∃(ys:List Int)(e:Int)(o5:Option T),ρ=[some (.int n),some (.int most),some (.lst true [.int a,.int b,.int c,.int d]),some (.int e),some (.lst true (ys.map .int)),o5]/\
  ys.length=i/\(∀y∈ys,e<=y/\y<=1000000)/\ys.Pairwise (λa b=>b<=a)/\0<=e/\e<=1000000) hL ⟨[],v,none,rfl,rfl,cL,List.Pairwise.nil,vb.1,vb.2⟩ (by
  rintro i t ρ et ⟨ys,e,o5,rfl,yl,yb,yf,he0,he1⟩;obtain⟨hi,et2⟩:=List.getElem?_eq_some_iff.mp et;rw[List.length_map]at hi;obtain⟨z,rfl,mz⟩:=dt0 et;have z0:=Int.emod_nonneg z (show w≠0 by omega);have hl:ys.length<=100000:=by omega
  clear hL et et2 zb2 mz hk hi zl;have yb2:=yb;clear yb;walk_at "ev";refine⟨ys++[e],_,_,by rw[List.map_append];rfl,by simp[yl],?_,?_,?_,?_⟩
  . intro x hx;rcases List.mem_append.mp hx with hx|hx
    . have:=yb2 x hx;split<;>omega
    . have hx:=List.mem_singleton.mp hx;subst hx;split<;>omega
  . rw[List.pairwise_append];refine⟨yf,by simp,λa ha b hb=>?_⟩;have hb:=List.mem_singleton.mp hb;subst hb;exact(yb2 a ha).1
  . split<;>omega
  . split<;>omega)
 rw[List.length_map]at yl;refine⟨ys,by clear hL yb;walk_at "ev",by omega,by omega,λx hx=>⟨Int.le_trans he0 (yb x hx).1,(yb x hx).2⟩,yf⟩
def sixR:List Str:=["rix","r","regina","king","kings","imperium"]
def RgB(p:Str×Int×Int):Prop:=-4000<=p.2.1/\p.2.1<=4000/\1<=p.2.2/\p.2.2<=100
theorem cb9(n first wide:Int)(f0:-3000<=first)(f1:first+wide<=3000)(w0:0<=wide):∃rs:List (Str×Int×Int),rG [.int n,.int first,.int wide]=.ok (.lst true (rs.map eR))/\rs.length<=6/\rs.map (·.1)=sixR.take rs.length/\∀p∈rs,RgB p:=by
 unfold rG qQ;obtain⟨xs,hx,hl,hb⟩:=nT n 18 (by decide);obtain⟨v,hv,mv⟩:=gO [1,6,n%7] (i:=n%3) (by omega) (by simp;omega);have vb:0<=v/\v<=6:=by simp at mv;omega
 simp only[List.map_cons,List.map_nil]at hv;clear mv;have hx':eH [.int n,.int 18]=.ok (.lst true (xs.map .int)):=hx;clear hx;have hb2:=hb;clear hb;walk_at "ev";generalize hL:iI _ _ _ _=o;obtain⟨ρ',rfl,rs,o6,o7,rfl,rl,rn,rb⟩:=pW (λi ρ=>∃(rs:List (Str×Int×Int))(o6 o7:Option T),ρ=[some (.int n),some (.int first),some (.int wide),some (.lst true [.str "rix",.str "r",.str "regina",.str "king",.str "kings",.str "imperium"]),some (.lst true (xs.map .int)),some (.lst true (rs.map eR)),o6,o7]/\
  rs.length=i/\rs.map (·.1)=sixR.take i/\∀p∈rs,RgB p) hL ⟨[],none,none,rfl,rfl,rfl,cL⟩ (by
  rintro i t ρ et ⟨rs,o6,o7,rfl,rl,rn,rb⟩;obtain⟨hi,rfl⟩:=pQ et;have hi':i<6:=by omega
  obtain⟨nm,hn,en⟩:=ch2 sixR (i:=i) (by show i<6;exact hi');obtain⟨p,hp,mp⟩:=gO xs (i:=3*(0+(i:Int))) (by omega) (by omega);obtain⟨q,hq,mq⟩:=gO xs (i:=3*(0+(i:Int))+1) (by omega) (by omega);obtain⟨r,hr,mr⟩:=gO xs (i:=3*(0+(i:Int))+2) (by omega) (by omega);obtain⟨w,hw,mw⟩:=gO [9,100] (i:=r%2) (by omega) (by simp;omega);have wb:0<w/\w<=100:=by simp at mw;omega
  have z0:=Int.emod_nonneg p (show wide+10≠0 by omega);have z1:=Int.emod_lt_of_pos p (show 0<wide+10 by omega);have z2:=Int.emod_nonneg q (show w≠0 by omega);have z3:=Int.emod_lt_of_pos q wb.1;simp only[List.map_cons,List.map_nil,sixR]at hn hw;have hl2:rs.length<=100000:=by omega
  have q1:mulOk 3 (0+(i:Int)):=do9 (by decide) (by decide);have rb2:=rb;clear hL et mw hb2 mp mq mr rb;walk_at "ev";refine⟨rs++[(nm,first-5+p%(wide+10),1+q%w)],_,_,by rw[List.map_append];rfl,by simp[rl],?_,?_⟩
  . rw[List.map_append,rn,List.take_succ,en];rfl
  . intro p hp;rcases List.mem_append.mp hp with hp|hp
    . exact rb2 p hp
    . have hp:=List.mem_singleton.mp hp;subst hp;unfold RgB;simp only;omega)
 rw[kD]at rl rn;refine⟨rs,by clear hL rb rn rl;walk_at "ev",by omega,?_,rb⟩;rw[rl];exact rn
def fiveI:List Str:=["gall","gal","soot","galls","sepiaink"]
theorem el0:∀k,k<=6->(("rex":Str)::(sixR.take k++[("re":Str)])).Nodup/\∀x∈("rex":Str)::(sixR.take k++[("re":Str)]),kL x=true:=by decide+kernel
theorem nameI:fiveI.Nodup/\∀x∈fiveI,kL x=true:=by decide+kernel
theorem dk9(ns:List Int)(wide:Int)(w0:5<=wide)(w1:wide<=300):∃f,tZ [.lst false (ns.map .int),.int wide,.int 8]=.ok (eV true f)/\Gd f:=by
 unfold tZ uF
 obtain⟨z,hz,z0⟩:=dr0 ns 0
 have d12:gQ z 12:=⟨by decide,by decide⟩
 obtain⟨xs,hx,xl,xb⟩:=nT (z/12) 16 (by decide)
 have ix:∀i:Nat,i<16->∃x,atI (xs.map T.int) (i:Int)=some (.int x)/\0<=x:=λi hi=>by
  obtain⟨v,hv,mv⟩:=gO xs (i:=(i:Int)) (by omega) (by omega)
  exact⟨v,hv,(xb v mv).1⟩
 obtain⟨x0,h0,p0⟩:=ix 0 (by decide)
 obtain⟨x1,h1,p1⟩:=ix 1 (by decide)
 obtain⟨x2,h2,p2⟩:=ix 2 (by decide)
 obtain⟨x3,h3,p3⟩:=ix 3 (by decide)
 obtain⟨x4,h4,p4⟩:=ix 4 (by decide)
 obtain⟨x5,h5,p5⟩:=ix 5 (by decide)
 obtain⟨x9,h9,p9⟩:=ix 9 (by decide)
 obtain⟨x10,h10,p10⟩:=ix 10 (by decide)
 obtain⟨x11,h11,p11⟩:=ix 11 (by decide)
 obtain⟨x12,h12,p12⟩:=ix 12 (by decide)
 obtain⟨x13,h13,p13⟩:=ix 13 (by decide)
 obtain⟨x14,h14,p14⟩:=ix 14 (by decide)
 replace h0:atI (xs.map T.int) 0=some (.int x0):=h0
 replace h1:atI (xs.map T.int) 1=some (.int x1):=h1
 replace h2:atI (xs.map T.int) 2=some (.int x2):=h2
 replace h3:atI (xs.map T.int) 3=some (.int x3):=h3
 replace h4:atI (xs.map T.int) 4=some (.int x4):=h4
 replace h5:atI (xs.map T.int) 5=some (.int x5):=h5
 replace h9:atI (xs.map T.int) 9=some (.int x9):=h9
 replace h10:atI (xs.map T.int) 10=some (.int x10):=h10
 replace h11:atI (xs.map T.int) 11=some (.int x11):=h11
 replace h12:atI (xs.map T.int) 12=some (.int x12):=h12
 replace h13:atI (xs.map T.int) 13=some (.int x13):=h13
 replace h14:atI (xs.map T.int) 14=some (.int x14):=h14
 have m0:=Int.emod_nonneg x0 (show 6001-wide≠0 by omega)
 have m1:=Int.emod_lt_of_pos x0 (show 0<6001-wide by omega)
 obtain⟨first,hf,mf⟩:=gO [x0%(6001-wide)-3000,-3000,3000-wide] (i:=x1%3) (by omega) (by simp;omega)
 have fb:-3000<=first/\first+wide<=3000:=by simp at mf;omega
 have m2:=Int.emod_nonneg x2 (show wide+1≠0 by omega)
 have m3:=Int.emod_lt_of_pos x2 (show 0<wide+1 by omega)
 obtain⟨span,hs,ms⟩:=gO [x2%(wide+1),wide] (i:=x1/3%2) (by omega) (by simp;omega)
 have sb:0<=span/\span<=wide:=by simp at ms;omega
 obtain⟨kn,hkn⟩:=jI (show 0<=1+x4%8 by omega)
 obtain⟨ss,en,sl,sn,sd⟩:=du2 x3 kn p3 (by omega) (by omega)
 obtain⟨im,hi,mi⟩:=gO [1+x5%3,5] (i:=x13%3/2) (by omega) (by simp;omega)
 have ib:1<=im/\im<=5:=by simp at mi;omega
 obtain⟨mo,hm,mm⟩:=gO [60,6] (i:=x5/3%2) (by omega) (by simp;omega)
 have mb:1<=mo/\mo<=60:=by simp at mm;omega
 obtain⟨mo',hmo⟩:=jI (show 0<=mo by omega)
 subst hmo
 obtain⟨rs,er,rl,rn,rb⟩:=cb9 x14 first wide fb.1 fb.2 (by omega)
 have cd:∀n:Int,gQ n 3:=λn=>⟨by decide,by decide⟩
 have cd2:∀n:Int,gQ n 2:=λn=>⟨by decide,by decide⟩
 have hx':eH [.int (z/12),.int 16]=.ok (.lst true (xs.map .int)):=hx
 have wp:(0:Int)<6001-wide:=by omega
 have wp2:(0:Int)<wide+1:=by omega
 have wp3:(0:Int)<wide+2:=by omega
 have xb2:=xb
 have rb2:=rb
 have sn2:=sn
 clear xb ix hx mf ms mi mm rb sn
 simp only[List.map_cons,List.map_nil]at hf hs hi hm
 walk_at "ev"
 generalize hL:iI _ _ _ _=o
 obtain⟨ρ',rfl,inks,o8,o9,rfl,il,inm,iok⟩:=pW (λi ρ=>∃(inks:List (Str×List Int))(o8 o9:Option T),ρ=[some (.lst false (ns.map .int)),some (.int wide),some (.int 8),some (.lst true (xs.map .int)),some (.int first),some (.int (first+span)),some (.lst true (ss.map .str)),some (.lst true (inks.map (dM true))),o8,o9,none]/\
  inks.length=i/\inks.map (·.1)=fiveI.take i/\∀p∈inks,TabOk p.2) hL ⟨[],none,none,rfl,rfl,rfl,cL⟩ (by
  rintro i t ρ et ⟨inks,o8,o9,rfl,il,inm,iok⟩
  obtain⟨hi',rfl⟩:=pQ et
  have hi5:i<5:=by omega
  obtain⟨nm,hn,en⟩:=ch2 fiveI (i:=i) (by show i<5;exact hi5)
  obtain⟨v,hv,mv⟩:=gO xs (i:=6+(0+(i:Int))%3) (by omega) (by omega)
  simp only[List.map_cons,List.map_nil,fiveI]at hn
  obtain⟨ys,hy,yok⟩:=bt6 (v+7919*((0+(i:Int))/3)) mo' (by omega) (by omega)
  have hl2:inks.length<=100000:=by omega
  have iok2:=iok
  have cl:fS (ys.map T.int)=true:=sR _
  clear hL et mv xb2 rb2 sn2 iok
  walk_at "ev"
  refine⟨inks++[(nm,ys)],_,_,by rw[List.map_append];rfl,by simp[il],?_,?_⟩
  . rw[List.map_append,inm,List.take_succ,en]
    rfl
  . intro p hp
    rcases List.mem_append.mp hp with hp|hp
    . exact iok2 p hp
    . have hp:=List.mem_singleton.mp hp
      subst hp
      exact yok)
 rw[kD]at il inm
 have q1:aR (rs.map eR)=true:=eU rs
 have q2:fS (rs.map eR)=true:=uG rs
 have l1:1+rs.length<=100000:=by omega
 have m4:=Int.emod_nonneg x11 (show wide+2≠0 by omega)
 have m5:=Int.emod_lt_of_pos x11 (show 0<wide+2 by omega)
 have l2:(rs.map eR).length+1<=100000:=by simp;omega
 have l3:rs.length+1<=100000:=by omega
 obtain⟨im',him⟩:∃im':Nat,im.toNat=im'/\im'<=5/\1<=im':=⟨_,rfl,by omega,by omega⟩
 rw[him.1]at il inm
 let r0:Str×Int×Int:=("rex",first-3+x9%7,1+x10%12)
 let r1:Str×Int×Int:=("re",(if first+x11%(wide+2)<4000 then first+x11%(wide+2)else 4000),1+x12%100)
 refine⟨⟨first,span,ss,inks,r0::(rs++[r1])⟩,?_,?_⟩
 . clear hL il inm iok sn2 rb2 xb2 rn
   walk_at "ev"
   simp only[eV,List.map_cons,List.map_append,List.map_nil,eR,r0,r1]
 . obtain⟨v1,v2⟩:=el0 rs.length rl
   have rnm:(r0::(rs++[r1])).map (·.1)=("rex":Str)::(sixR.take rs.length++[("re":Str)]):=by rw[List.map_cons,List.map_append,rn];rfl
   exact{
    s0:=sb.1
    s1:=by show span<=300;omega
    f0:=fb.1
    f1:=by show first+span<=3000;omega
    n1:=by show 1<=ss.length;omega
    n8:=by show ss.length<=8;omega
    nn:=sn2
    nd:=sd
    i1:=by show 1<=inks.length;omega
    i6:=by show inks.length<=6;omega
    ind:=by show(inks.map (·.1)).Nodup;rw[inm];exact nameI.1.sublist (List.take_sublist _ _)
    inn:=λp hp=>⟨nameI.2 _ (List.mem_of_mem_take (i:=im') (by rw[<-inm];exact List.mem_map_of_mem hp)),iok p hp⟩
    r1:=by show 1<=(r0::(rs++[r1])).length;simp
    r8:=by show(r0::(rs++[r1])).length<=8;simp;omega
    rnd:=by show((r0::(rs++[r1])).map (·.1)).Nodup;rw[rnm];exact v1
    rn:=λp hp=>⟨v2 _ (by rw[<-rnm];exact List.mem_map_of_mem hp),by
     rcases List.mem_cons.mp hp with rfl|hp
     . show -4000<=first-3+x9%7/\first-3+x9%7<=4000/\1<=1+x10%12/\1+x10%12<=100
       omega
     . rcases List.mem_append.mp hp with hp|hp
       . exact rb2 p hp
       . rw[List.mem_singleton.mp hp]
         show -4000<=(if first+x11%(wide+2)<4000 then first+x11%(wide+2)else 4000)/\(if first+x11%(wide+2)<4000 then first+x11%(wide+2)else 4000)<=4000/\1<=1+x12%100/\1+x12%100<=100
         refine⟨?_,?_,?_,?_⟩<;>(try split)<;>omega⟩}
theorem ix5{α:Type}(a b c d e f:α)(l:List α):atI (a::b::c::d::e::f::l) 5=some f:=gI (j:=5) rfl
theorem ix6{α:Type}(a b c d e f g:α)(l:List α):atI (a::b::c::d::e::f::g::l) 6=some g:=gI (j:=6) rfl
theorem li7{xs:List Int}(h:xs.length=7):∃a b c d e f g,xs=[a,b,c,d,e,f,g]:=by
 match xs,h with
 |[a,b,c,d,e,f,g],_=>exact⟨a,b,c,d,e,f,g,rfl⟩
theorem tK{α:Type}(g:α->T)(l:List α){i:Int}(h0:0<=i)(h1:i<l.length):∃v,atI (l.map g) i=some (g v)/\v∈l/\l[i.toNat]?=some v:=by
 obtain⟨k,rfl⟩:=jI h0;have hk:k<l.length:=by omega
 exact⟨l[k],gI (by simp[hk]),List.getElem_mem hk,by simp[hk]⟩
theorem rR(f:Fm):dP (eV false f)=true:=by simp only[eV,dP,aR,dN,eJ,eU,Bool.not_false,Bool.and_self]
theorem ad6(o:Bool)(f:Fm):frz (eV o f)=eV false f:=by simp only[eV,frz,frzs,ay0,jN,pJ]
inductive Wd (f:Fm):List T->Prop
 |ink {l:Nat} {n:Str} {p:Str×List Int} {d e:Int} (h:f.names[l]?=some n) (hp:p∈f.inks) (h1:0<=d) (h2:d<=1000000) (h3:0<=e) (h4:e<=1000000) (hh:fL p.2 d e (f.span.toNat+1)≠[]):Wd f [.str "ink",.str n,.str p.1,.int d,.int e]
 |reign {l:Nat} {n:Str} {p:Str×Int×Int} {k:Int} (h:f.names[l]?=some n) (hp:p∈f.reigns) (h1:1<=k) (h2:k<=p.2.2):Wd f [.str "reign",.str n,.str p.1,.int k]
 |under {l:Nat} {n:Str} {p:Str×Int×Int} (h:f.names[l]?=some n) (hp:p∈f.reigns):Wd f [.str "under",.str n,.str p.1]
 |between {l:Nat} {n:Str} {lo hi:Int} (h:f.names[l]?=some n) (h1:-4000<=lo) (h2:lo<=hi) (h3:hi<=4000):Wd f [.str "between",.str n,.int lo,.int hi]
 |after {l m:Nat} {n k:Str} (h:f.names[l]?=some n) (h':f.names[m]?=some k) (hne:(n==k)=false):Wd f [.str "after",.str n,.str k]
 |same {l m:Nat} {n k:Str} (h:f.names[l]?=some n) (h':f.names[m]?=some k) (hne:(n==k)=false):Wd f [.str "same",.str n,.str k]
 |within {l m:Nat} {n k:Str} {hi:Int} (h:f.names[l]?=some n) (h':f.names[m]?=some k) (hne:(n==k)=false) (h1:0<=hi) (h2:hi<=300):Wd f [.str "within",.str n,.str k,.int hi]
 |apart {l m:Nat} {n k:Str} {lo hi:Int} (h:f.names[l]?=some n) (h':f.names[m]?=some k) (hne:(n==k)=false) (h1:-300<=lo) (h2:lo<=hi) (h3:hi<=300):Wd f [.str "apart",.str n,.str k,.int lo,.int hi]
theorem cv8{xs:List Int}{d e:Int}{j n:Nat}(hj:j<n)(h:pB xs d e j=true):fL xs d e n≠[]:=by
 intro q;have:(j:Int)∈fL xs d e n:=by unfold fL;exact List.mem_map.mpr ⟨j,List.mem_filter.mpr ⟨List.mem_range.mpr hj,h⟩,rfl⟩
 rw[q]at this;cases this
theorem ce6{f:Fm}(g:Gd f){l:Nat}{n:Str}(hn:f.names[l]?=some n)(x0 x1 x2 x3 x4 x5 x6:Int):∃ws,qR [eV false f,.str n,.lst false [.int x0,.int x1,.int x2,.int x3,.int x4,.int x5,.int x6]]=.ok (.lst true ws)/\Wd f ws:=by
 unfold qR qJ;have b0:=@jO T;have b1:=@fP T;have b2:=@rP T;have b3:=@uP T;have b4:=@ix4 T;have b5:=@ix5 T;have nf:=rR f;have n1:=eJ f.inks;have n2:=eU f.reigns;simp only[eV]at nf⊢;have s0:=g.s0;have s1:=g.s1;have f0:=g.f0;have f1:=g.f1;have sp:(0:Int)<f.first+f.span-f.first+1:=by omega
 have sp3:(0:Int)<f.first+f.span-f.first+3:=by omega
 have sp2:(0:Int)<f.first+f.span-f.first+2:=by omega
 cases c0:(x1%4==0)with
 |true=>
  have i1:=g.i1;have il:(0:Int)<(f.inks.length:Int):=by omega
  obtain⟨p,hp,mp,_⟩:=tK (dM false) f.inks (i:=x2%(f.inks.length:Int)) (Int.emod_nonneg _ (by omega)) (Int.emod_lt_of_pos _ il);have tk:=(g.inn p mp).2;have j0:=Int.emod_nonneg x3 (show f.first+f.span-f.first+1≠0 by omega);have j1:=Int.emod_lt_of_pos x3 sp;obtain⟨j,hj⟩:=jI j0;have l1:=tk.l1;obtain⟨r,hr,mr,er⟩:=tK T.int p.2 (i:=if(p.2.length:Int)-1<x3%(f.first+f.span-f.first+1)then(p.2.length:Int)-1 else x3%(f.first+f.span-f.first+1)) (by split<;>omega) (by split<;>omega);have rb:=tk.b r mr;obtain⟨v,hv,mv⟩:=gO [0,0,1,-1,7,-30] (i:=x4%6) (by omega) (by simp;omega);have vb:-30<=v/\v<=7:=by simp at mv;omega
  obtain⟨w,hw,mw⟩:=gO [1,1,9] (i:=x4/6%3) (by omega) (by simp;omega);have wb:0<w/\w<=9:=by simp at mw;omega
  have w0:=Int.emod_nonneg x5 (show w≠0 by omega);have w1:=Int.emod_lt_of_pos x5 wb.1;have d6:gQ x4 6:=⟨by decide,by decide⟩;have hp6':=hp6;have np:dP (dM false p)=true:=by simp only[dM,dP,aR,mJ,Bool.not_false,Bool.and_self]
  simp only[List.map_cons,List.map_nil]at hv hw;simp only[dM]at hp np;have er2:p.2.getD (min j (p.2.length-1)) 0=r:=by
   have:(if(p.2.length:Int)-1<x3%(f.first+f.span-f.first+1)then(p.2.length:Int)-1 else x3%(f.first+f.span-f.first+1)).toNat=min j (p.2.length-1):=by split<;>omega
   rw[this]at er;rw[List.getD_eq_getElem?_getD,er];rfl
  have jb:j<f.span.toNat+1:=by omega
  clear mv mw g tk hj er;walk_at "ev";refine⟨_,rfl,.ink hn mp ?_ ?_ ?_ ?_ (cv8 jb ?_)⟩
  . split<;>(try split)<;>omega
  . split<;>(try split)<;>omega
  . split<;>split<;>(try split)<;>omega
  . split<;>split<;>(try split)<;>omega
  . unfold pB;rw[er2,decide_eq_true_iff];generalize(if _>(0:Int)then _ else(0:Int))=d;split<;>split<;>omega
 |false=>
  have r1:=g.r1;have rl:(0:Int)<(f.reigns.length:Int):=by omega
  obtain⟨p,hp,mp,_⟩:=tK eR f.reigns (i:=x2%(f.reigns.length:Int)) (Int.emod_nonneg _ (by omega)) (Int.emod_lt_of_pos _ rl);have rk:=(g.rn p mp).2;have np:dP (eR p)=true:=rfl;simp only[eR]at hp np;cases c1:(x1%4==1)with
  |true=>
   have w0:=Int.emod_nonneg x3 (show p.2.2≠0 by omega);have w1:=Int.emod_lt_of_pos x3 (show 0<p.2.2 by omega);have w2:0<p.2.2:=by omega
   clear g;walk_at "ev";exact⟨_,rfl,.reign hn mp (by omega) (by omega)⟩
  |false=>
   cases c2:(x1%4==2)with
   |true=>clear g;walk_at "ev";exact⟨_,rfl,.under hn mp⟩
   |false=>have w0:=Int.emod_nonneg x3 (show f.first+f.span-f.first+3≠0 by omega);have w1:=Int.emod_lt_of_pos x3 sp3;have w2:=Int.emod_nonneg x4 (show f.first+f.span-f.first+2≠0 by omega);have w3:=Int.emod_lt_of_pos x4 sp2;clear g;walk_at "ev";exact⟨_,rfl,.between hn (by omega) (by omega) (by omega)⟩
theorem bk3{f:Fm}(g:Gd f)(n far:Int)(h0:0<=far)(h3:far<=300):∃ws,rA [eV false f,.int n,.int far]=.ok (.lst true ws)/\Wd f ws:=by
 unfold rA qA;obtain⟨xs,hx,xl,xb⟩:=nT n 7 (by decide);obtain⟨x0,x1,x2,x3,x4,x5,x6,rfl⟩:=li7 xl;clear xb xl;have hx':eH [.int n,.int 7]=.ok (.lst true [.int x0,.int x1,.int x2,.int x3,.int x4,.int x5,.int x6]):=hx;clear hx;have b0:=@jO T;have b1:=@fP T;have b2:=@rP T;have b3:=@uP T;have b4:=@ix4 T;have b6:=@ix6 T;have nf:=rR f;have zf:=ad6 false f;have ni:=eJ f.inks;have nr:=eU f.reigns;have zi:=jN false f.inks;have zr:=pJ f.reigns;have n1:=g.n1;have nl:(0:Int)<(f.names.length:Int):=by omega
 have a0:=Int.emod_nonneg x0 (show(f.names.length:Int)≠0 by omega);have a1:=Int.emod_lt_of_pos x0 nl;obtain⟨nm,hn,mn,en⟩:=tK T.str f.names a0 a1;obtain⟨ws,hw,wd⟩:=ce6 g en x0 x1 x2 x3 x4 x5 x6;have nw:aR ws=true/\fS ws=true:=by cases wd<;>exact⟨rfl,rfl⟩
 simp only[eV]at nf zf hw⊢;by_cases hor:((f.names.length:Int)==1)=true\/decide (x6%8<3)=true
 . refine⟨ws,?_,wd⟩;have nw1:=nw.1;have nw2:=nw.2;clear wd en nw;cases ho:((f.names.length:Int)==1)with
   |true=>clear hor g;walk_at "ev"
   |false=>
    have ho2:decide (x6%8<3)=true:=by
     rcases hor with h|h
     . rw[ho]at h;cases h
     . exact h
    clear hor g;walk_at "ev"
 . have ho:((f.names.length:Int)==1)=false:=by
    cases h:((f.names.length:Int)==1)
    . rfl
    . exact absurd (.inl h) hor
   have ho2:decide (x6%8<3)=false:=by
    cases h:decide (x6%8<3)
    . rfl
    . exact absurd (.inr h) hor
   have hne1:¬(f.names.length:Int)=1:=by simpa using ho
   have n8:=g.n8;have nl1:(0:Int)<(f.names.length:Int)-1:=by omega
   have c0:=Int.emod_nonneg x2 (show(f.names.length:Int)-1≠0 by omega);have c1:=Int.emod_lt_of_pos x2 nl1;obtain⟨km,hk,mk,ek⟩:=tK T.str f.names (i:=(x0%(f.names.length:Int)+1+x2%((f.names.length:Int)-1))%(f.names.length:Int)) (Int.emod_nonneg _ (by omega)) (Int.emod_lt_of_pos _ nl);have hne:(nm==km)=false:=by
    rw[beq_eq_false_iff_ne];rintro rfl;obtain⟨i1,e1⟩:=List.getElem?_eq_some_iff.mp en;obtain⟨i2,e2⟩:=List.getElem?_eq_some_iff.mp ek;have:=(List.getElem_inj g.nd).mp (e1.trans e2.symm);generalize x0%(f.names.length:Int)=a at a0 a1 this;generalize x2%((f.names.length:Int)-1)=b at c0 c1 this;have h8:(f.names.length:Int)<=8:=by omega
    generalize(f.names.length:Int)=L at a1 c1 this nl;rcases Int.lt_or_le (a+1+b) L with h|h
    . rw[Int.emod_eq_of_lt (by omega) h]at this;omega
    . have hs:(a+1+b)%L=a+1+b-L:=by rw[<-Int.sub_emod_right (a+1+b) L];exact Int.emod_eq_of_lt (by omega) (by omega)
      rw[hs]at this;omega
   have fp:(0:Int)<far+1:=by omega
   have fp2:(0:Int)<2*far+1:=by omega
   clear hor wd nw hw hne1;cases k0:(x1%4==0)with
   |true=>clear g;walk_at "ev";exact⟨_,rfl,.after en ek hne⟩
   |false=>
    cases k1:(x1%4==1)with
    |true=>clear g;walk_at "ev";exact⟨_,rfl,.same en ek hne⟩
    |false=>
     have w0:=Int.emod_nonneg x3 (show far+1≠0 by omega);have w1:=Int.emod_lt_of_pos x3 fp;have w2:=Int.emod_nonneg x3 (show 2*far+1≠0 by omega);have w3:=Int.emod_lt_of_pos x3 fp2;have w4:=Int.emod_nonneg x4 (show far+1≠0 by omega);cases k2:(x1%4==2)with
     |true=>clear g;walk_at "ev";exact⟨_,rfl,.within en ek hne (by omega) (by omega)⟩
     |false=>clear g;walk_at "ev";exact⟨_,rfl,.apart en ek hne (by omega) (by split<;>omega) (by split<;>omega)⟩
theorem au2(x:Str):lS [.str x,.ty "int"]=.ok (.bl false):=by with_unfolding_all rfl
theorem dg1(x:Str):lS [.str x,.ty "str"]=.ok (.bl true):=by with_unfolding_all rfl
theorem do1(i:Int):lS [.int i,.ty "str"]=.ok (.bl false):=by with_unfolding_all rfl
inductive Pt:T->Prop
 |s (x:Str) (h:x.length<=2000000):Pt (.str x)
 |i (n:Int) (h1:-1000000<=n) (h2:n<=1000001):Pt (.int n)
def cH:T->List Str->Bool
 |.str n,ss=>decide (n∈ss)
 |_,_=>false
theorem bg5(i:Int):∀ss:List Str,sF (.int i) (ss.map .str)=some (ss.map λ_=>false)
 |[]=>rfl
 |s::ss=>by simp only[List.map_cons,sF,bg5 i ss];rfl
theorem pU{p:T}(hp:Pt p)(neg o:Bool)(ss:List Str):nP neg p (.lst o (ss.map .str))=.ok (.bl (if neg=true then !cH p ss else cH p ss)):=by
 cases hp with
 |s x h=>
  have e:(ss.map λs=>s==x).any id=decide (x∈ss):=by
   rw[Bool.eq_iff_iff,List.any_map,List.any_eq_true,decide_eq_true_iff];constructor
   . rintro⟨y,hy,e⟩;have:y=x:=by simpa using e
     exact this▸hy
   . exact λh=>⟨x,h,by simp⟩
  simp only[nP,wK,e,cH]
 |i n h1 h2=>
  have e:(ss.map λ_=>false).any id=false:=by rw[List.any_map,List.any_eq_false];exact λx _=>by simp
  simp only[nP,bg5,e,cH]
def gZ(lo hi:Int):T->Bool
 |.int i=>decide (lo<=i)&&decide (i<=hi)
 |_=>false
theorem bc3{p:T}(hp:Pt p)(lo hi:Int):cQ [p,.int lo,.int hi]=.ok (.bl (gZ lo hi p)):=by
 cases hp with
 |i n h1 h2=>exact rE n lo hi
 |s x h=>
  have h:oJ [.str x]=.ok (.bl false):=by unfold oJ qM;have q:=au2 x;walk_at "ev"
  unfold cQ kB;walk_at "ev";rfl
theorem Pt.own{p:T}(h:Pt p):dP p=true:=by cases h<;>rfl
theorem Pt.frz{p:T}(h:Pt p):TL.frz p=p:=by cases h<;>rfl
theorem Pts.own{ps:List T}(h:∀p∈ps,Pt p):aR ps=true:=by rw[sZ,List.all_eq_true];exact λp hp=>(h p hp).own
theorem oX{f:Fm}{p:T}(hp:Pt p):cV [bV false f,.str "letter",p]=.ok (.bl (cH p f.names)):=by unfold cV iY;have k:=pU hp false false f.names;have fl:=yX false f;have e:(("letter":Str)=="letter")=true:=beq_self_eq_true _;simp only[Bool.false_eq_true,if_false]at k;walk_at "ev"
theorem ci9{f:Fm}(g:Gd f){p:T}(hp:Pt p):cV [bV false f,.str "ink",p]=.ok (.bl (cH p (f.inks.map (·.1)))):=by
 unfold cV iY;have fl:=ak7 false f;have e:(("ink":Str)=="ink")=true:=beq_self_eq_true _;have e1:=nH "ink" (by decide+kernel);have k:=pU hp false true (f.inks.map (·.1));simp only[Bool.false_eq_true,if_false]at k;have b0:=@jO T;have l6:f.inks.length<=100000:=by have:=g.i6;omega
 have n1:=eJ f.inks;have hc:cF (aJ 3) cT (bG (aE aO (aB 3) (dC (.int 0)))) [some (bV false f),some (.str "ink"),some p,none,none] (f.inks.map (dM false))=.ok ((f.inks.map (·.1)).map .str):=by rw[List.map_map];exact eA λp _=>by simp only[dM];walk_at "ev";rfl
 clear g;walk_at "ev"
theorem aw5{f:Fm}(g:Gd f){p:T}(hp:Pt p):cV [bV false f,.str "reign",p]=.ok (.bl (cH p (f.reigns.map (·.1)))):=by
 unfold cV iY;have fl:=ac1 false f;have e:(("reign":Str)=="reign")=true:=beq_self_eq_true _;have e1:=nH "reign" (by decide+kernel);have e2:=bn9 "reign" (by decide+kernel);have k:=pU hp false true (f.reigns.map (·.1));simp only[Bool.false_eq_true,if_false]at k;have b0:=@jO T;have l6:f.reigns.length<=100000:=by have:=g.r8;omega
 have n1:=eU f.reigns;have hc:cF (aJ 4) cT (bG (aE aO (aB 4) (dC (.int 0)))) [some (bV false f),some (.str "reign"),some p,none,none] (f.reigns.map eR)=.ok ((f.reigns.map (·.1)).map .str):=by rw[List.map_map];exact eA λp _=>by simp only[eR];walk_at "ev";rfl
 clear g;walk_at "ev"
theorem mW{f:Fm}{d:Str}{lo hi:Int}{p:T}(hp:Pt p)(hd:d∈(["dark","place","year","later","gap"]:List Str))(hk:kt_NUMBERS.lookup d=some (.tup [.int lo,.int hi])):cV [bV false f,.str d,p]=.ok (.bl (gZ lo hi p)):=by unfold cV iY;have e1:=nH d (List.mem_cons_of_mem _ (List.mem_cons_of_mem _ hd));have e2:=bn9 d (List.mem_cons_of_mem _ hd);have e3:=dn7 d hd;have k:=bc3 hp lo hi;have zp:=hp.frz;have np:=hp.own;have b0:=@jO T;have b1:=@fP T;clear hd;walk_at "ev"
def cn0(f:Fm):List Str->List T->List Bool->Prop
 |[],[],[]=>True
 |d::ds,p::ps,b::bs=>cV [bV false f,.str d,p]=.ok (.bl b)/\cn0 f ds ps bs
 |_,_,_=>False
theorem bh2{f:Fm}{w:Str}{q:T}:∀(ds:List Str)(ps:List T)(bs:List Bool),aR ps=true->cn0 f ds ps bs->
 cF (eE (aY (aJ 3) (aY (aJ 4) eS))) cT (bT 3 cV (aD (aB 0) (aD (aB 3) (aD (aB 4) aK)))) [some (bV false f),some (.str w),some q,none,none] (iF (ds.map .str) ps)=.ok (bs.map .bl)
 |[],[],[],_,_=>rfl
 |d::ds,p::ps,b::bs,hn,h=>by simp only[aR,Bool.and_eq_true]at hn;have ih:=bh2 (w:=w) (q:=q) ds ps bs hn.2 h.2;have k:=h.1;have np:=hn.1;have zp:=wC p np;have na:=fE f;have za:=gN false f;clear h hn;simp only[List.map_cons,iF,List.zipWith_cons_cons,cF]at ih⊢;walk_at "ev"
theorem bb9{f:Fm}{w:Str}{ps:List T}{ds:List Str}{bs:List Bool}(hk:kt_PARTS.lookup w=some (.tup (ds.map .str)))(hp:aR ps=true)(hl:ps.length=ds.length)(h4:ds.length<=4)(h:cn0 f ds ps bs):dY [bV false f,.str w,.lst false ps]=.ok (.bl (bs.all id)):=by
 unfold dY mX;have hc:=bh2 (w:=w) (q:=.lst false ps) ds ps bs hp h;have hs:(kt_PARTS.lookup w).isSome=true:=by rw[hk];rfl
 have e1:(!((ps.length:Int)==(ds.length:Int)))=false:=by rw[hl];simp
 have hpl:(iF (ds.map .str) ps).length<=sizeLine:=by rw[wO,List.length_map];exact fQ (by omega)
 have nd:=dN ds;clear h hl;walk_at "ev"
theorem bd9{f:Fm}{w:Str}{ps:List T}(hk:kt_PARTS.lookup w=none):dY [bV false f,.str w,.lst false ps]=.ok (.bl false):=by unfold dY mX;walk_at "ev"
theorem cp1{f:Fm}{w:Str}{ps:List T}{ds:List Str}(hk:kt_PARTS.lookup w=some (.tup (ds.map .str)))(hl:ps.length≠ds.length):dY [bV false f,.str w,.lst false ps]=.ok (.bl false):=by
 unfold dY mX;have hs:(kt_PARTS.lookup w).isSome=true:=by rw[hk];rfl
 have e1:(!((ps.length:Int)==(ds.length:Int)))=true:=by rw[Bool.not_eq_true',beq_eq_false_iff_ne];omega
 have nd:=dN ds;clear hl;walk_at "ev"
abbrev ag7:Exc:=⟨"BadSaying",[]⟩
abbrev dq9:Exc:=⟨"NoAge",[]⟩
theorem dq3{f:Fm}{w:Str}{ps:List T}(hp:aR ps=true)(h:dY [bV false f,.str w,.lst false ps]=.ok (.bl false)):bS [bV false f,.str w,.lst false ps]=.ex ag7:=by unfold bS kF;have na:=fE f;have za:=gN false f;have zp:=dB ps hp;walk_at "ev"
theorem yS{f:Fm}{w:Str}{ds:List Str}{n:Str}{ps:List T}(hk:kt_PARTS.lookup w=some (.tup ((("letter":Str)::("letter":Str)::ds).map .str)))(hp:aR ps=true)(h:dY [bV false f,.str w,.lst false (.str n::.str n::ps)]=.ok (.bl true)):bS [bV false f,.str w,.lst false (.str n::.str n::ps)]=.ex ag7:=by unfold bS kF;have na:=fE f;have za:=gN false f;have zp:=dB ps hp;have e:=eL;have e2:(n==n)=true:=beq_self_eq_true _;have b0:=@jO T;have b1:=@fP T;have nd:=dN ds;simp only[List.map_cons]at hk;walk_at "ev"
theorem bv1{f:Fm}{w d1:Str}{ps ds:List T}{F:List T->Res T}{x:Exc}(hk:kt_PARTS.lookup w=some (.tup ds))(hp:aR ps=true)(hds:aR ds=true)(hd:dY [bV false f,.str w,.lst false ps]=.ok (.bl true))(h1:atI ds 1=some (.str d1))
 (h2:(d1=="letter")=false\/((d1=="letter")=true/\∃a b:Str,atI ps 0=some (.str a)/\atI ps 1=some (.str b)/\(a==b)=false))(hm:tb_MAKERS.lookup w=some F)(hF:F [bV false f,.lst false ps]=.ex x):
 bS [bV false f,.str w,.lst false ps]=.ex x:=by
 unfold bS kF;have na:=fE f;have za:=gN false f;have zp:=dB ps hp;rcases h2 with h2|⟨h2,a,b,h3,h4,h5⟩
 . walk_at "ev"
 . walk_at "ev"
abbrev kv1:List (Str×Str):=[("ink","ttnn"),("reign","ttn"),("under","tt"),("between","tnn"),("after","tt"),("same","tt")]
abbrev kv2:List (Str×Str):=[("within","ttn"),("apart","ttnn")]
def eT(w:Str):Str:=(kv1.lookup w).getD ((kv2.lookup w).getD "none")
def kb(ps:List T)(sh:Str)(i:Nat):Bool:=cN (ps.getD i .non)==((⟨#[sh.cps.toList.getD i 0]⟩:Str)=="t")
theorem bc5:∀w:Str,(eT w).length<=4:=by
 intro w;have h1:∀p∈kv1,p.2.length<=4:=by decide+kernel
 have h2:∀p∈kv2,p.2.length<=4:=by decide+kernel
 unfold eT;cases e:kv1.lookup w with
 |some x=>exact h1 _ (lP e)
 |none=>
  cases e2:kv2.lookup w with
  |some x=>exact h2 _ (lP e2)
  |none=>exact(by decide+kernel:("none":Str).length<=4)
theorem bt7(w:Str)(q:T):bz1 2 3 kv1 (aB 0) (yN kv2 (aB 0) (dC (.str "none"))) [some (.str w),some q,none,none,none]=.nx [some (.str w),some q,none,some (.str (eT w)),none]:=rfl
theorem dh2{w:Str}{ps:List T}(hp:∀p∈ps,Pt p)(hl:ps.length=(eT w).length)(hn:(eT w=="none")=false):cY [.str w,.lst false ps]=.ok (.bl ((List.range ps.length).all (kb ps (eT w)))):=by
 unfold cY oV;have h1:=bt7 w (.lst false ps);have h2:=bc5 w;have h3:(!((ps.length:Int)==((eT w).length:Int)))=false:=by rw[hl];simp
 have h4:(eT w).length<=sizeLine:=fQ (by omega);have n1:=Pts.own hp;have hc:cF (aJ 4) cT (aE dO (bP lS (aD (aE aO (aB 1) (aB 4)) (aD (dC (.ty "str")) aK))) (aE dO (aE aO (aB 3) (aB 4)) (dC (.str "t")))) [some (.str w),some (.lst false ps),none,some (.str (eT w)),none] (fA 0 (ps.length:Int).toNat)=.ok (((List.range ps.length).map (kb ps (eT w))).map .bl):=by
  unfold fA;rw[show(ps.length:Int).toNat=ps.length by omega,List.map_map];refine eA λi hi=>?_;have hi:=List.mem_range.mp hi;have a1:atI ps (0+(i:Int))=some (ps.getD i .non):=by rw[Int.zero_add];exact gI (by rw[List.getD_eq_getElem?_getD,List.getElem?_eq_getElem hi];rfl)
  have hi2:i<(eT w).cps.toList.length:=by rw[<-uK];omega
  have a2:atI (eT w).cps.toList (0+(i:Int))=some ((eT w).cps.toList.getD i 0):=by rw[Int.zero_add];exact gI (by rw[List.getD_eq_getElem?_getD,List.getElem?_eq_getElem hi2];rfl)
  have hpi:Pt (ps.getD i .non):=by rw[List.getD_eq_getElem?_getD,List.getElem?_eq_getElem hi];exact hp _ (List.getElem_mem hi)
  simp only[kb,Function.comp];clear hp h1 h2 h3 hl hn;generalize ps.getD i .non=p at*;cases hpi with
  |s x h=>have q:=dg1 x;clear h;walk_at "ev"
  |i n h1 h2=>have q:=do1 n;clear h1 h2;walk_at "ev"
 have ha:oS false [.lst true (((List.range ps.length).map (kb ps (eT w))).map .bl)]=.ok (.bl ((List.range ps.length).all (kb ps (eT w)))):=by rw[bu1,if_neg (by decide),List.all_map];rfl
 have el:ps.length<=sizeLine:=fQ (by omega);have hg:-2^62<=(ps.length:Int)/\(ps.length:Int)<2^62:=by omega
 have hL:(fA 0 (ps.length:Int).toNat).length<=sizeLine:=by unfold fA;rw[List.length_map,List.length_range];exact fQ (by omega)
 clear hp hl h2;walk_at "ev"
theorem ay9{w:Str}{ps:List T}(hp:∀p∈ps,Pt p)(hl:ps.length≠(eT w).length\/(eT w=="none")=true):cY [.str w,.lst false ps]=.ok (.bl false):=by
 unfold cY oV;have h1:=bt7 w (.lst false ps);have h2:=bc5 w;have h4:(eT w).length<=sizeLine:=fQ (by omega);cases h3:(!((ps.length:Int)==((eT w).length:Int)))with
 |true=>clear hp hl h2;walk_at "ev"
 |false=>
  have e:ps.length=(eT w).length:=by
   have:(ps.length:Int)=(eT w).length:=by simpa using h3
   omega
  have hl:=hl.resolve_left (λz=>z e);clear hp h2 e;walk_at "ev"
theorem vC{f:Fm}{w:Str}{ps:List T}(hp:aR ps=true)(h:cY [.str w,.lst false ps]=.ok (.bl false)):bJ [eV false f,.str w,.lst false ps]=.ok (.str "bad"):=by unfold bJ dR;have zp:=dB ps hp;have n2:=rR f;have n3:=eJ f.inks;have n4:=eU f.reigns;simp only[eV]at n2⊢;walk_at "ev"
theorem bs6{f:Fm}{w:Str}{p:T}{ps:List T}(hp:aR (p::ps)=true)(h:cY [.str w,.lst false (p::ps)]=.ok (.bl true))(hi:nP true p (.lst false (f.names.map .str))=.ok (.bl true)):bJ [eV false f,.str w,.lst false (p::ps)]=.ok (.str "bad"):=by unfold bJ dR;simp only[aR,Bool.and_eq_true]at hp;have zp:=dB ps hp.2;have zq:=wC p hp.1;have n0:=hp.2;have n1:=hp.1;have n2:=rR f;have n3:=eJ f.inks;have n4:=eU f.reigns;have b0:=@jO T;simp only[eV]at n2⊢;clear hp;walk_at "ev"
def ck0(p1:T)(p:Str×Int×Int):Bool:=match p1 with
 |.str r=>p.1==r
 |_=>false
def jE(f:Fm)(p1:T):List Int:=(f.reigns.filter (ck0 p1)).map (·.2.2)
theorem eu1(x:Str)(i:Int):dO (.str x) (.int i)=.ok (.bl false):=by with_unfolding_all rfl
theorem nL{f:Fm}{ps:List T}{p1:T}(hp:Pt p1)(h1:atI ps 1=some p1)(a b c d e h i:Option T):
 cF (aJ 10) (bF (aE dO (aE aO (aB 10) (dC (.int 0))) (aE aO (aB 2) (dC (.int 1))))) (bG (aE aO (aB 10) (dC (.int 2)))) [a,b,some (.lst false ps),c,d,e,h,i,none,none,none] (f.reigns.map eR)=.ok ((jE f p1).map .int):=by
 unfold jE;rw[List.map_map];refine yK (g:=eR) (f:=λp=>.int p.2.2) (p:=ck0 p1) λp _=>?_;have b0:=@jO T;have b2:=@rP T;simp only[eR];cases hp with
 |s x h=>
  clear h;constructor
  . walk_at "ev";rfl
  . intro _;walk_at "ev"
 |i n _ _=>
  have q:=λx=>eu1 x n;constructor
  . walk_at "ev";rfl
  . intro _;walk_at "ev"
theorem jF{a b:Fr->Res T}{ρ:Fr}{x y:Bool}(ha:a ρ=.ok (.bl x))(hb:b ρ=.ok (.bl y)):eX a b ρ=.ok (.bl (x&&y)):=by
 cases x
 . simp only[eX,ha,Res.bind,Bool.false_and]
 . simp only[eX,ha,hb,Res.bind,Bool.true_and]
theorem di6{a b:Fr->Res T}{ρ:Fr}{x y:Bool}(ha:a ρ=.ok (.bl x))(hb:x=true->b ρ=.ok (.bl y)):eX a b ρ=.ok (.bl (x&&y)):=by
 cases x
 . simp only[eX,ha,Res.bind,Bool.false_and]
 . simp only[eX,ha,hb rfl,Res.bind,Bool.true_and]
theorem cr4(o o':Bool)(l:List Int):kO (.lst o (l.map .int)) (.lst o' [])=.ok (.bl (!l.isEmpty)):=by
 cases l with
 |nil=>with_unfolding_all rfl
 |cons a l=>simp only[kO,tX,and_self,if_true,List.map_cons,cP,vA,List.length_cons,List.length_nil];rw[if_neg (by omega)];rfl
def mU:(Fr->Res T)->(Fr->Res T)->Fr->Res T:=eX
theorem aw(a b:Fr->Res T):eX a b=mU a b:=rfl
abbrev WQ(w:Str)(a b c d e f:Bool):Prop:=(w=="ink")=a/\(w=="reign")=b/\(w=="under")=c/\(w=="between")=d/\(w=="within")=e/\(w=="apart")=f
def vd(x:Bool):Str:=if x=true then "good" else "bad"
theorem jf{f:Fm}(g:Gd f):aR (f.inks.map (dM false))=true/\aR (f.reigns.map eR)=true/\f.reigns.length<=100000/\(∀(a:T) l,atI (a::l) 0=some a)/\(∀(a b:T) l,atI (a::b::l) 1=some b)/\(∀(a b c:T) l,atI (a::b::c::l) 2=some c)/\(∀(a b c d:T) l,atI (a::b::c::d::l) 3=some d)/\as3 [.bl true]=.ok (.int 1)/\as3 [.bl false]=.ok (.int 0)/\(∀l:List Int,aR (l.map T.int)=true):=
 ⟨eJ _,eU _,by have:=g.r8;omega,jO,fP,rP,uP,rfl,rfl,mJ⟩
section
variable {f : Fm} (g : Gd f) {n : Str} (hi : nP true (.str n) (.lst false (f.names.map .str)) = .ok (.bl false))
include g hi
theorem cg3{lo hh:Int}(hs:cY [.str "between",.lst false [.str n,.int lo,.int hh]]=.ok (.bl true))(h1:-1000000<=lo)(h2:lo<=1000001):bJ [eV false f,.str "between",.lst false [.str n,.int lo,.int hh]]=.ok (.str (vd (decide (-4000<=lo)&&(decide (lo<=hh)&&decide (hh<=4000))))):=by
 have lc:=nL (f:=f) (ps:=[.str n,.int lo,.int hh]) (.i lo h1 h2) (fP _ _ _);obtain⟨n3,n4,l8,b0,b1,b2,b3,i1,i0,n5⟩:=jf g;have hA:∀a b c d e h i j k:Option T,mU (aE fW (cS kW (dC (.int 4000))) (aE aO (aB 2) (dC (.int 1)))) (mU (aE fW (aE aO (aB 2) (dC (.int 1))) (aE aO (aB 2) (dC (.int 2)))) (aE fW (aE aO (aB 2) (dC (.int 2))) (dC (.int 4000)))) [a,b,some (.lst false [.str n,.int lo,.int hh]),c,d,e,h,i,j,k,none]=.ok (.bl (decide (-4000<=lo)&&(decide (lo<=hh)&&decide (hh<=4000)))):=by intros;clear lc;exact jF (by walk_at "ev") (jF (by walk_at "ev") (by walk_at "ev"))
 obtain⟨w1,w2,w3,w4,w5,w6⟩:WQ "between" false false false true false false:=by decide+kernel
 generalize jE f (.int lo)=L at lc;generalize(decide (-4000<=lo)&&(decide (lo<=hh)&&decide (hh<=4000)))=x at hA⊢;unfold bJ dR;simp only[eV,aw];clear g h1 h2;cases x<;>walk_at "ev"<;>rfl
theorem dy2{r:Str}(hr:r.length<=2000000)(hs:cY [.str "under",.lst false [.str n,.str r]]=.ok (.bl true)):bJ [eV false f,.str "under",.lst false [.str n,.str r]]=.ok (.str (vd (!(jE f (.str r)).isEmpty))):=by
 have lc:=nL (f:=f) (ps:=[.str n,.str r]) (.s r hr) (fP _ _ _);obtain⟨n3,n4,l8,b0,b1,b2,b3,i1,i0,n5⟩:=jf g;obtain⟨w1,w2,w3,w4,w5,w6⟩:WQ "under" false false true false false false:=by decide+kernel
 generalize jE f (.str r)=L at lc⊢;have hE:=λo=>cr4 o true L;generalize(!L.isEmpty)=x at hE⊢;unfold bJ dR;simp only[eV,aw];clear g hr;cases x<;>walk_at "ev"<;>rfl
theorem ds1{r:Str}{k:Int}(hr:r.length<=2000000)(hs:cY [.str "reign",.lst false [.str n,.str r,.int k]]=.ok (.bl true)):bJ [eV false f,.str "reign",.lst false [.str n,.str r,.int k]]=.ok (.str (vd (!(jE f (.str r)).isEmpty&&(decide (1<=k)&&decide (k<=(jE f (.str r)).headD 0))))):=by
 have lc:=nL (f:=f) (ps:=[.str n,.str r,.int k]) (.s r hr) (fP _ _ _);obtain⟨n3,n4,l8,b0,b1,b2,b3,i1,i0,n5⟩:=jf g;obtain⟨w1,w2,w3,w4,w5,w6⟩:WQ "reign" false true false false false false:=by decide+kernel
 have hA:∀a b c d e h i j:Option T,mU (aE kO (aB 8) (cR aK)) (mU (aE fW (dC (.int 1)) (aE aO (aB 2) (dC (.int 2)))) (aE fW (aE aO (aB 2) (dC (.int 2))) (aE aO (aB 8) (dC (.int 0))))) [a,b,some (.lst false [.str n,.str r,.int k]),c,d,e,h,i,some (.lst true ((jE f (.str r)).map .int)),j,none]=.ok (.bl (!(jE f (.str r)).isEmpty&&(decide (1<=k)&&decide (k<=(jE f (.str r)).headD 0)))):=by
  intros;clear lc;generalize jE f (.str r)=L;have hE:=λo=>cr4 o true L;refine di6 (by walk_at "ev") λhL=>?_;cases L with
  |nil=>cases hL
  |cons z L=>exact jF (by walk_at "ev") (by walk_at "ev";rfl)
 generalize(!(jE f (.str r)).isEmpty&&(decide (1<=k)&&decide (k<=(jE f (.str r)).headD 0)))=x at hA⊢;generalize jE f (.str r)=L at lc hA;unfold bJ dR;simp only[eV,aw];clear g hr;cases x<;>walk_at "ev"<;>rfl
theorem dt2{m:Str}(hm:m.length<=2000000)(hs:cY [.str "after",.lst false [.str n,.str m]]=.ok (.bl true)):bJ [eV false f,.str "after",.lst false [.str n,.str m]]=.ok (.str (vd (cH (.str m) f.names&&!(m==n)))):=by
 have lc:=nL (f:=f) (ps:=[.str n,.str m]) (.s m hm) (fP _ _ _);obtain⟨n3,n4,l8,b0,b1,b2,b3,i1,i0,n5⟩:=jf g;obtain⟨w1,w2,w3,w4,w5,w6⟩:WQ "after" false false false false false false:=by decide+kernel
 have hm2:=pU (.s m hm) false false f.names;simp only[Bool.false_eq_true,if_false]at hm2;have hA:∀a b c d h i j z:Option T,mU (aE (nP false) (aE aO (aB 2) (dC (.int 1))) (aB 5)) (aE kO (aE aO (aB 2) (dC (.int 1))) (aE aO (aB 2) (dC (.int 0)))) [a,b,some (.lst false [.str n,.str m]),c,d,some (.lst false (f.names.map .str)),h,i,j,z,none]=.ok (.bl (cH (.str m) f.names&&!(m==n))):=by intros;clear lc;exact jF (by walk_at "ev") (by walk_at "ev")
 generalize(cH (.str m) f.names&&!(m==n))=y at hA⊢;generalize jE f (.str m)=L at lc;unfold bJ dR;simp only[eV,aw];clear g hm hm2;cases y<;>walk_at "ev"<;>rfl
theorem df8{m:Str}(hm:m.length<=2000000)(hs:cY [.str "same",.lst false [.str n,.str m]]=.ok (.bl true)):bJ [eV false f,.str "same",.lst false [.str n,.str m]]=.ok (.str (vd (cH (.str m) f.names&&!(m==n)))):=by
 have lc:=nL (f:=f) (ps:=[.str n,.str m]) (.s m hm) (fP _ _ _);obtain⟨n3,n4,l8,b0,b1,b2,b3,i1,i0,n5⟩:=jf g;obtain⟨w1,w2,w3,w4,w5,w6⟩:WQ "same" false false false false false false:=by decide+kernel
 have hm2:=pU (.s m hm) false false f.names;simp only[Bool.false_eq_true,if_false]at hm2;have hA:∀a b c d h i j z:Option T,mU (aE (nP false) (aE aO (aB 2) (dC (.int 1))) (aB 5)) (aE kO (aE aO (aB 2) (dC (.int 1))) (aE aO (aB 2) (dC (.int 0)))) [a,b,some (.lst false [.str n,.str m]),c,d,some (.lst false (f.names.map .str)),h,i,j,z,none]=.ok (.bl (cH (.str m) f.names&&!(m==n))):=by intros;clear lc;exact jF (by walk_at "ev") (by walk_at "ev")
 generalize(cH (.str m) f.names&&!(m==n))=y at hA⊢;generalize jE f (.str m)=L at lc;unfold bJ dR;simp only[eV,aw];clear g hm hm2;cases y<;>walk_at "ev"<;>rfl
theorem cv7{m:Str}{k:Int}(hm:m.length<=2000000)(hs:cY [.str "within",.lst false [.str n,.str m,.int k]]=.ok (.bl true)):bJ [eV false f,.str "within",.lst false [.str n,.str m,.int k]]=.ok (.str (vd ((cH (.str m) f.names&&!(m==n))&&(decide (0<=k)&&decide (k<=300))))):=by
 have lc:=nL (f:=f) (ps:=[.str n,.str m,.int k]) (.s m hm) (fP _ _ _);obtain⟨n3,n4,l8,b0,b1,b2,b3,i1,i0,n5⟩:=jf g;obtain⟨w1,w2,w3,w4,w5,w6⟩:WQ "within" false false false false true false:=by decide+kernel
 have hm2:=pU (.s m hm) false false f.names;simp only[Bool.false_eq_true,if_false]at hm2;have hA:∀a b c d h i j z:Option T,mU (aE (nP false) (aE aO (aB 2) (dC (.int 1))) (aB 5)) (aE kO (aE aO (aB 2) (dC (.int 1))) (aE aO (aB 2) (dC (.int 0)))) [a,b,some (.lst false [.str n,.str m,.int k]),c,d,some (.lst false (f.names.map .str)),h,i,j,z,none]=.ok (.bl (cH (.str m) f.names&&!(m==n))):=by intros;clear lc;exact jF (by walk_at "ev") (by walk_at "ev")
 have hB:∀(a b c d e h i j:Option T)(y:Bool),mU (aB 9) (mU (aE fW (dC (.int 0)) (aE aO (aB 2) (dC (.int 2)))) (aE fW (aE aO (aB 2) (dC (.int 2))) (dC (.int 300)))) [a,b,some (.lst false [.str n,.str m,.int k]),c,d,e,h,i,j,some (.bl y),none]=.ok (.bl (y&&(decide (0<=k)&&decide (k<=300)))):=by intros;clear lc hA;exact jF (by walk_at "ev") (jF (by walk_at "ev") (by walk_at "ev"))
 generalize(cH (.str m) f.names&&!(m==n))=y at hA⊢;replace hB:=λa b c d e h i j=>hB a b c d e h i j y;generalize(y&&(decide (0<=k)&&decide (k<=300)))=x at hB⊢;generalize jE f (.str m)=L at lc;unfold bJ dR;simp only[eV,aw];clear g hm hm2;cases x<;>walk_at "ev"<;>rfl
theorem de3{m:Str}{lo hh:Int}(hm:m.length<=2000000)(hs:cY [.str "apart",.lst false [.str n,.str m,.int lo,.int hh]]=.ok (.bl true)):bJ [eV false f,.str "apart",.lst false [.str n,.str m,.int lo,.int hh]]=.ok (.str (vd ((cH (.str m) f.names&&!(m==n))&&(decide (-300<=lo)&&(decide (lo<=hh)&&decide (hh<=300)))))):=by
 have lc:=nL (f:=f) (ps:=[.str n,.str m,.int lo,.int hh]) (.s m hm) (fP _ _ _);obtain⟨n3,n4,l8,b0,b1,b2,b3,i1,i0,n5⟩:=jf g;obtain⟨w1,w2,w3,w4,w5,w6⟩:WQ "apart" false false false false false true:=by decide+kernel
 have hm2:=pU (.s m hm) false false f.names;simp only[Bool.false_eq_true,if_false]at hm2;have hA:∀a b c d h i j z:Option T,mU (aE (nP false) (aE aO (aB 2) (dC (.int 1))) (aB 5)) (aE kO (aE aO (aB 2) (dC (.int 1))) (aE aO (aB 2) (dC (.int 0)))) [a,b,some (.lst false [.str n,.str m,.int lo,.int hh]),c,d,some (.lst false (f.names.map .str)),h,i,j,z,none]=.ok (.bl (cH (.str m) f.names&&!(m==n))):=by intros;clear lc;exact jF (by walk_at "ev") (by walk_at "ev")
 have hB:∀(a b c d e h i j:Option T)(y:Bool),mU (aB 9) (mU (aE fW (cS kW (dC (.int 300))) (aE aO (aB 2) (dC (.int 2)))) (mU (aE fW (aE aO (aB 2) (dC (.int 2))) (aE aO (aB 2) (dC (.int 3)))) (aE fW (aE aO (aB 2) (dC (.int 3))) (dC (.int 300))))) [a,b,some (.lst false [.str n,.str m,.int lo,.int hh]),c,d,e,h,i,j,some (.bl y),none]=.ok (.bl (y&&(decide (-300<=lo)&&(decide (lo<=hh)&&decide (hh<=300))))):=by intros;clear lc hA;exact jF (by walk_at "ev") (jF (by walk_at "ev") (jF (by walk_at "ev") (by walk_at "ev")))
 generalize(cH (.str m) f.names&&!(m==n))=y at hA⊢;replace hB:=λa b c d e h i j=>hB a b c d e h i j y;generalize(y&&(decide (-300<=lo)&&(decide (lo<=hh)&&decide (hh<=300))))=x at hB⊢;generalize jE f (.str m)=L at lc;unfold bJ dR;simp only[eV,aw];clear g hm hm2;cases x<;>walk_at "ev"<;>rfl
end
theorem ak0{α:Type}{key:α->Str}:∀{l:List α}{a:α},(l.map key).Nodup->a∈l->l.filter (λx=>key x==key a)=[a]
 |[],a,_,h=>by cases h
 |x::l,a,nd,h=>by
  rw[List.map_cons,List.nodup_cons]at nd;rw[List.filter_cons];rcases List.mem_cons.mp h with rfl|h
  . have:l.filter (λx=>key x==key a)=[]:=by
     rw[List.filter_eq_nil_iff];intro y hy e;have e:key y=key a:=by simpa using e
     exact nd.1 (by rw[<-e];exact List.mem_map_of_mem hy)
    rw[this];simp
  . have:(key x==key a)=false:=by simp;intro e;exact nd.1 (by rw[e];exact List.mem_map_of_mem h)
    rw[this];exact ak0 nd.2 h
theorem ap9{α:Type}{key:α->Str}{r:Str}{l:List α}(h:r∉l.map key):l.filter (λx=>key x==r)=[]:=by
 rw[List.filter_eq_nil_iff];intro y hy e;have e:key y=r:=by simpa using e
 exact h (by rw[<-e];exact List.mem_map_of_mem hy)
theorem af3{α:Type}{b:T->Fr->Option Fr}{c:Fr->Res Bool}{d:Fr->Res T}{ρ:Fr}{g f:α->T}{p:α->Bool}:∀{l:List α},(∀a∈l,∃ρ1,b (g a) ρ=some ρ1/\c ρ1=.ok (p a)/\(p a=true->d ρ1=.ok (f a)))->cF b c d ρ (l.map g)=.ok ((l.filter p).map f)
 |[],_=>rfl
 |a::l,h=>by
  obtain⟨ρ1,h0,h1,h2⟩:=h a List.mem_cons_self;have ih:=af3 (b:=b) (c:=c) (d:=d) (ρ:=ρ) (g:=g) (f:=f) (p:=p) (l:=l) (λu hu=>h u (List.mem_cons_of_mem _ hu));cases hp:p a with
  |true=>simp only[List.map_cons,cF,h0,h1,hp,h2 hp,oM,if_true,List.filter_cons,ih]
  |false=>simp only[List.map_cons,cF,h0,h1,hp,oM,Bool.false_eq_true,if_false,List.filter_cons,ih]
theorem bp3{b:T->Fr->Option Fr}{body:Fr->bO}{r:T}{q:Nat->Bool}(Iv:Fr->Prop)
 (hs:∀(i:Nat) ρ,Iv ρ->∃ρ1,b (.int (0+(i:Int))) ρ=some ρ1/\((q i=true/\body ρ1=.rt r)\/(q i=false/\∃ρ2,body ρ1=.nx ρ2/\Iv ρ2))):
 ∀(l:List Nat){ρ:Fr},Iv ρ->(l.any q=true->iI b body (l.map λ(i:Nat)=>T.int (0+(i:Int))) ρ=.rt r)/\(l.any q=false->∃ρ',iI b body (l.map λ(i:Nat)=>T.int (0+(i:Int))) ρ=.nx ρ'/\Iv ρ')
 |[],ρ,hi=>⟨λh=>by simp at h,λ_=>⟨ρ,rfl,hi⟩⟩
 |a::l,ρ,hi=>by
  obtain⟨ρ1,h1,h2⟩:=hs a ρ hi;rw[List.any_cons];simp only[List.map_cons,iI,h1];rcases h2 with⟨k,h2⟩|⟨k,ρ2,h2,h3⟩
  . rw[h2,k];exact⟨λ_=>rfl,λh=>by simp at h⟩
  . rw[h2,k,Bool.false_or];exact bp3 Iv hs l h3
def tabs(f:Fm)(r:Str):List (List Int):=(f.inks.filter (λp=>p.1==r)).map (·.2)
theorem bd0{f:Fm}{n r:Str}{d e:Int}(a b c h i j:Option T):
 cF (eE (aY (aJ 9) (aY (aJ 10) eS))) (bF (aE dO (aB 9) (aE aO (aB 1) (dC (.int 1))))) (bG (aB 10)) [a,some (.lst false [.str n,.str r,.int d,.int e]),b,c,h,i,j,none,none,none,none] (f.inks.map (dM false))=.ok ((tabs f r).map λl=>.lst false (l.map .int)):=by
 unfold tabs;rw[List.map_map];refine af3 (g:=dM false) (f:=λp=>.lst false (p.2.map .int)) (p:=λp=>p.1==r) λp _=>?_;have b1:=@fP T;refine⟨[a,some (.lst false [.str n,.str r,.int d,.int e]),b,c,h,i,j,none,none,some (.str p.1),some (.lst false (p.2.map .int))],rfl,?_,λ_=>?_⟩
 . walk_at "ev"
 . walk_at "ev"
theorem ca9{f:Fm}(g:Gd f){n r:Str}{d e:Int}(h:r∉f.inks.map (·.1)):nM [eV false f,.lst false [.str n,.str r,.int d,.int e]]=.ok (.str "bad"):=by
 unfold nM sX;have hc:=bd0 (f:=f) (n:=n) (r:=r) (d:=d) (e:=e);have ht:tabs f r=[]:=by unfold tabs;rw[ap9 h];rfl
 rw[ht,List.map_nil]at hc;obtain⟨n3,n4,_,b0,b1,b2,b3,_,_,n5⟩:=jf g;have l6:f.inks.length<=100000:=by have:=g.i6;omega
 have q:∀o o':Bool,dO (.lst o []) (.lst o' [])=.ok (.bl true):=λo o'=>by with_unfolding_all rfl
 simp only[eV];clear g h ht;walk_at "ev"
def cj7(xs:List Int)(d e:Int)(n:Nat):Str:=if 0<=d/\d<=1000000/\0<=e/\e<=1000000 then if fL xs d e n≠[]then "good" else "age" else "bad"
theorem bj3(xs:List Int)(d e:Int)(n:Nat):(fL xs d e n≠[])↔(List.range n).any (pB xs d e)=true:=by
 unfold fL;rw[ne_eq,List.map_eq_nil_iff,List.filter_eq_nil_iff,List.any_eq_true];constructor
 . intro h;exact Classical.byContradiction λk=>h λa ha q=>k ⟨a,ha,q⟩
 . rintro⟨a,ha,q⟩ h;exact h a ha q
theorem cl9{f:Fm}(g:Gd f){n:Str}{p:Str×List Int}(hp:p∈f.inks){d e:Int}:nM [eV false f,.lst false [.str n,.str p.1,.int d,.int e]]=.ok (.str (cj7 p.2 d e (f.span.toNat+1))):=by
 unfold nM sX;have hc:=bd0 (f:=f) (n:=n) (r:=p.1) (d:=d) (e:=e);have ht:tabs f p.1=[p.2]:=by unfold tabs;rw[ak0 (key:=λq:Str×List Int=>q.1) g.ind hp];rfl
 rw[ht,List.map_cons,List.map_nil]at hc;obtain⟨n3,n4,_,b0,b1,b2,b3,_,_,n5⟩:=jf g;have l6:f.inks.length<=100000:=by have:=g.i6;omega
 have q:∀(o o':Bool)(t:T),dO (.lst o [t]) (.lst o' [])=.ok (.bl false):=λo o' t=>by with_unfolding_all rfl
 have c2:gH [T.str n,.str p.1,.int d,.int e] (some 2) none=[.int d,.int e]:=vJ [T.str n,.str p.1,.int d,.int e] 2 (by simp);have m1:∀o,mZ [.lst o [.int d,.int e]]=.ok (.int (if e<d then e else d)):=λo=>dz0 o d [e];have m2:∀o,yJ [.lst o [.int d,.int e]]=.ok (.int (if e>d then e else d)):=λo=>dg0 o d [e];have hp6:=hp6;have t0:=(g.inn p hp).2.l1;have body:∀(a b c h i j k o2 o3:Option T)(v:Int),(iI (aJ 8) (dA (bF (aE fW (bP sG (aD (aE dF (aE aO (aE aO (aB 7) (dC (.int 0))) (bP mZ (aD (aB 8) (aD (aE dF (bP eY (aD (aE aO (aB 7) (dC (.int 0))) aK)) (dC (.int 1))) aK)))) (aE aO (aB 1) (dC (.int 2)))) aK)) (aE aO (aB 1) (dC (.int 3))))) (bD [] (dC (.str "good"))) bM) (fA 0 (f.span.toNat+1)) [a,some (.lst false [.str n,.str p.1,.int d,.int e]),b,c,h,i,j,some (.lst true [.lst false (p.2.map .int)]),k,none,none]=.rt (.str "good")/\fL p.2 d e (f.span.toNat+1)≠[])\/∃z:Option T,iI (aJ 8) (dA (bF (aE fW (bP sG (aD (aE dF (aE aO (aE aO (aB 7) (dC (.int 0))) (bP mZ (aD (aB 8) (aD (aE dF (bP eY (aD (aE aO (aB 7) (dC (.int 0))) aK)) (dC (.int 1))) aK)))) (aE aO (aB 1) (dC (.int 2)))) aK)) (aE aO (aB 1) (dC (.int 3))))) (bD [] (dC (.str "good"))) bM) (fA 0 (f.span.toNat+1)) [a,some (.lst false [.str n,.str p.1,.int d,.int e]),b,c,h,i,j,some (.lst true [.lst false (p.2.map .int)]),k,none,none]=.nx [a,some (.lst false [.str n,.str p.1,.int d,.int e]),b,c,h,i,j,some (.lst true [.lst false (p.2.map .int)]),z,none,none]/\fL p.2 d e (f.span.toNat+1)=[]:=by
  intro a b c h i j k o2 o3 v;unfold fA;have key:=bp3 (b:=aJ 8) (body:=dA (bF (aE fW (bP sG (aD (aE dF (aE aO (aE aO (aB 7) (dC (.int 0))) (bP mZ (aD (aB 8) (aD (aE dF (bP eY (aD (aE aO (aB 7) (dC (.int 0))) aK)) (dC (.int 1))) aK)))) (aE aO (aB 1) (dC (.int 2)))) aK)) (aE aO (aB 1) (dC (.int 3))))) (bD [] (dC (.str "good"))) bM) (r:=.str "good") (q:=pB p.2 d e) (λρ=>∃z:Option T,ρ=[a,some (.lst false [.str n,.str p.1,.int d,.int e]),b,c,h,i,j,some (.lst true [.lst false (p.2.map .int)]),z,none,none]) ?_ (List.range (f.span.toNat+1)) ⟨k,rfl⟩
  . by_cases hh:fL p.2 d e (f.span.toNat+1)=[]
    . have h0:=mt (bj3 p.2 d e (f.span.toNat+1)).mpr (λz=>z hh);obtain⟨ρ',e1,z,e2⟩:=key.2 (by simpa using h0);rw[e2]at e1;exact .inr ⟨z,e1,hh⟩
    . exact .inl ⟨key.1 ((bj3 _ _ _ _).mp hh),hh⟩
  . rintro x ρ ⟨z,rfl⟩;refine⟨[a,some (.lst false [.str n,.str p.1,.int d,.int e]),b,c,h,i,j,some (.lst true [.lst false (p.2.map .int)]),some (.int (0+(x:Int))),none,none],rfl,?_⟩;have a1:atI (p.2.map T.int) (if(p.2.length:Int)-1<0+(x:Int)then(p.2.length:Int)-1 else 0+(x:Int))=some (.int (p.2.getD (min x (p.2.length-1)) 0)):=by rw[show(if(p.2.length:Int)-1<0+(x:Int)then(p.2.length:Int)-1 else 0+(x:Int))=((min x (p.2.length-1):Nat):Int) by split<;>omega];exact vQ (by omega)
    clear hc ht c2 m1 m2 g hp n3 n4;have hq:pB p.2 d e x=decide ((if p.2.getD (min x (p.2.length-1)) 0-d<0 then -(p.2.getD (min x (p.2.length-1)) 0-d)else p.2.getD (min x (p.2.length-1)) 0-d)<=e):=rfl;generalize p.2.getD (min x (p.2.length-1)) 0=v at*;cases hb:pB p.2 d e x with
    |true=>rw[hb]at hq;replace hq:=hq.symm;exact .inl ⟨rfl,by walk_at "ev"⟩
    |false=>rw[hb]at hq;replace hq:=hq.symm;exact .inr ⟨rfl,_,by walk_at "ev";rfl,_,rfl⟩
 have sp:f.first+f.span-f.first+1=((f.span.toNat+1:Nat):Int):=by have:=g.s0;omega
 have sq:((f.span.toNat+1:Nat):Int).toNat=f.span.toNat+1:=by omega
 have hg:-2^62<=((f.span.toNat+1:Nat):Int)/\((f.span.toNat+1:Nat):Int)<2^62:=by have:=g.s1;omega
 have hL:(fA 0 (f.span.toNat+1)).length<=sizeLine:=by unfold fA;rw[List.length_map,List.length_range];exact fQ (by have:=g.s1;omega)
 unfold cj7;by_cases h1:(if e<d then e else d)<0
 . have k1:=decide_eq_true h1;rw[if_neg (by split at h1<;>omega)];simp only[eV];clear g hp ht body h1 t0 sp sq hg;walk_at "ev"
 . have k1:=decide_eq_false h1;by_cases h2:1000000<(if e>d then e else d)
   . have k2:=decide_eq_true h2;rw[if_neg (by split at h2<;>omega)];simp only[eV];clear g hp ht body h1 h2 t0 sp sq hg;walk_at "ev"
   . have k2:=decide_eq_false h2;rw[if_pos (by split at h1<;>split at h2<;>omega)];generalize f.span.toNat+1=N at*;simp only[eV];have bd:=λa b c h i j k=>body a b c h i j k none none 0;clear body;clear g hp ht h1 h2 t0;by_cases hh:fL p.2 d e N=[]
     . have bd:=λa b c h i j k=>(bd a b c h i j k).resolve_left (λz=>z.2 hh);rw[if_neg (λz=>z hh)];obtain⟨z,ez,_⟩:=bd (some (.tup [.int f.first,.int (f.first+f.span),.lst false (f.names.map .str),.lst false (f.inks.map (dM false)),.lst false (f.reigns.map eR)])) (some (.int f.first)) (some (.int (f.first+f.span))) (some (.lst false (f.names.map .str))) (some (.lst false (f.inks.map (dM false)))) (some (.lst false (f.reigns.map eR))) none;clear bd hh;walk_at "ev"
     . have bd:=λa b c h i j k=>((bd a b c h i j k).resolve_right (λ⟨_,z⟩=>hh z.2)).1;rw[if_pos hh];clear hh;walk_at "ev"
theorem mH{f:Fm}{n:Str}(h:n∈f.names):∃l:Nat,f.names[l]?=some n:=List.getElem?_of_mem h
theorem cq1{f:Fm}{n:Str}(h:n∈f.names){lo hi:Int}(h1:-4000<=lo)(h1':lo<=4000)(h2:hi<lo)(h3:-4000<=hi):bS [bV false f,.str "between",.lst false [.str n,.int lo,.int hi]]=.ex ag7:=by refine bv1 (d1:="year") oH rfl (dN _) (tD oH rfl rfl (by decide) (rZ ⟨dL h,gR (by decide+kernel) uM (by omega) (by omega),gR (by decide+kernel) uM (by omega) (by omega),trivial⟩)) (fP _ _ _) (.inl (nH "year" (by decide+kernel))) ae5 ?_;unfold iW iU;have b1:=@fP T;have b2:=@rP T;have k1:decide (hi<lo)=true:=decide_eq_true h2;clear h h1 h1' h2 h3;walk_at "ev"
theorem dk4{f:Fm}{n m:Str}(h:n∈f.names)(h':m∈f.names)(hne:(n==m)=false){lo hi:Int}(h1:-300<=lo)(h1':lo<=300)(h2:hi<lo)(h3:-300<=hi):bS [bV false f,.str "apart",.lst false [.str n,.str m,.int lo,.int hi]]=.ex ag7:=by refine bv1 (d1:="letter") pG rfl (dN _) (tD pG rfl rfl (by decide) (rZ ⟨dL h,dL h',gR (by decide+kernel) xS (by omega) (by omega),gR (by decide+kernel) xS (by omega) (by omega),trivial⟩)) (fP _ _ _) (.inr ⟨eL,n,m,jO _ _,fP _ _ _,hne⟩) ba3 ?_;unfold lE kS;have b2:=@rP T;have b3:=@uP T;have k1:decide (hi<lo)=true:=decide_eq_true h2;clear h h' h1 h1' h2 h3;walk_at "ev"
theorem du3{f:Fm}(g:Gd f){n:Str}(h:n∈f.names){p:Str×Int×Int}(hp:p∈f.reigns){k:Int}(h1:1<=k)(h2:k<=100)(h3:p.2.2<k):bS [bV false f,.str "reign",.lst false [.str n,.str p.1,.int k]]=.ex ag7:=by
 refine bv1 (d1:="reign") rX rfl (dN _) (tD rX rfl rfl (by decide) (rZ ⟨dL h,ae1 g (List.mem_map_of_mem hp),gR (by decide+kernel) ax3 (by omega) (by omega),trivial⟩)) (fP _ _ _) (.inl (nH "reign" (by decide+kernel))) bg3 ?_;unfold lJ kN;have b1:=@fP T;have b2:=@rP T;have na:=fE f;have za:=gN false f;have hc:=ak4 g hp;have hy:iX [.int p.2.1,.int p.2.2,.int k]=.ok .non:=by unfold iX nV;have:=rE k 1 p.2.2;rw[decide_eq_true h1,decide_eq_false (by omega)]at this;clear h h1 h2 h3 hc;walk_at "ev"
 clear g h h1 h2 h3;simp only[eR]at hc;walk_at "ev"
theorem ek3{f:Fm}(g:Gd f){n:Str}(h:n∈f.names){p:Str×List Int}(hp:p∈f.inks){d e:Int}(h1:0<=d)(h2:d<=1000000)(h3:0<=e)(h4:e<=1000000)(hh:fL p.2 d e (f.span.toNat+1)=[]):bS [bV false f,.str "ink",.lst false [.str n,.str p.1,.int d,.int e]]=.ex dq9:=by
 refine bv1 (d1:="ink") yB rfl (dN _) (tD yB rfl rfl (by decide) (rZ ⟨dL h,bh8 g (List.mem_map_of_mem hp),gR (by decide+kernel) uN (by omega) (by omega),gR (by decide+kernel) uN (by omega) (by omega),trivial⟩)) (fP _ _ _) (.inl (nH "ink" (by decide+kernel))) ci2 ?_;unfold nK nF;have b1:=@fP T;have b2:=@rP T;have b3:=@uP T;have na:=fE f;have za:=gN false f;have fp:=ax4 false f;have ff:=bs2 false f;have ht:=bx7 g hp;have hA:pV [.lst false (p.2.map .int),.int d,.int e,.int (f.first+f.span-f.first)]=.ok .non:=by have:=aq9 false p.2 d e f.span.toNat (by have:=(g.inn p hp).2.l1;intro q;rw[q]at this;simp at this) (by have:=(g.inn p hp).2.l60;omega) (by have:=g.s1;omega);rw[hh]at this;simp only[cy0]at this;rw[show f.first+f.span-f.first=(f.span.toNat:Int) by have:=g.s0;omega];exact this
 clear h h1 h2 h3 h4 hh;have hmt:qG 2 "table" tm_table (aB 0) (aD (aE aO (aB 1) (dC (.int 1))) aK) [some (bV false f),some (.lst false [.str n,.str p.1,.int d,.int e]),none]=.ok (.lst true (p.2.map .int)):=by rw[ai6 (b:=false) (f:=f) (ts:=[.str p.1]) rfl (by clear hA;walk_at "ev")];clear hA;walk_at "ev"
 clear g;walk_at "ev"
theorem dx0{f:Fm}(g:Gd f){n r v:Str}{d e:Int}(hi:nP true (.str n) (.lst false (f.names.map .str))=.ok (.bl false))(hs:cY [.str "ink",.lst false [.str n,.str r,.int d,.int e]]=.ok (.bl true))(h:nM [eV false f,.lst false [.str n,.str r,.int d,.int e]]=.ok (.str v)):bJ [eV false f,.str "ink",.lst false [.str n,.str r,.int d,.int e]]=.ok (.str v):=by obtain⟨n3,n4,l8,b0,b1,b2,b3,i1,i0,n5⟩:=jf g;have w1:(("ink":Str)=="ink")=true:=beq_self_eq_true _;have z3:=jN false f.inks;have z4:=pJ f.reigns;unfold bJ dR;simp only[eV]at h⊢;clear g;walk_at "ev"
def txt:T->Str
 |.str x=>x
 |.int i=>toString i
 |_=>""
def Verdict(f:Fm)(w:Str)(ps:List T):Prop:=
 (bS [bV false f,.str w,.lst false ps]=.ex ag7/\bJ [eV false f,.str w,.lst false ps]=.ok (.str "bad"))\/
 (bS [bV false f,.str w,.lst false ps]=.ex dq9/\bJ [eV false f,.str w,.lst false ps]=.ok (.str "age"))\/
 ∃c ls lo hi,c∈af4/\bS [bV false f,.str w,.lst false ps]=.ok (iE true c ls lo hi (Txt.join " " (w::ps.map txt)))/\bJ [eV false f,.str w,.lst false ps]=.ok (.str "good")
theorem Verdict.bad{f:Fm}{w:Str}{ps:List T}{b:Bool}(hp:aR ps=true)(hd:dY [bV false f,.str w,.lst false ps]=.ok (.bl b))(hb:b=false)(hj:bJ [eV false f,.str w,.lst false ps]=.ok (.str "bad")):Verdict f w ps:=by subst hb;exact .inl ⟨dq3 hp hd,hj⟩
theorem nN{p:T}{ss:List Str}(h:cH p ss=true):cN p=true:=by
 cases p<;>simp[cH]at h⊢
 rfl
theorem nR{p:T}{lo hi:Int}(h:gZ lo hi p=true):cN p=false:=by
 cases p<;>simp[gZ]at h⊢
 rfl
theorem Pt.str{p:T}(hp:Pt p)(h:cN p=true):∃x:Str,p=.str x/\x.length<=2000000:=by
 cases hp with
 |s x k=>exact⟨x,rfl,k⟩
 |i n _ _=>cases h
theorem Pt.int{p:T}(hp:Pt p)(h:cN p=false):∃i:Int,p=.int i/\-1000000<=i/\i<=1000001:=by
 cases hp with
 |s x k=>cases h
 |i n a b=>exact⟨n,rfl,a,b⟩
theorem wR{f:Fm}{w:Str}{p0:T}{ps:List T}{ds:List Str}{bs:List Bool}(hp:∀p∈p0::ps,Pt p)(hk:kt_PARTS.lookup w=some (.tup ((("letter":Str)::ds).map .str)))(h4:ds.length<=3)(hl:ps.length=ds.length)(hsl:(eT w).length=ds.length+1)(hsn:(eT w=="none")=false)
 (hd:cn0 f ds ps bs)(hkind:cN p0=true->bs.all id=true->(List.range (p0::ps).length).all (kb (p0::ps) (eT w))=true)
 (hgo:(List.range (p0::ps).length).all (kb (p0::ps) (eT w))=true->cY [.str w,.lst false (p0::ps)]=.ok (.bl true)->cH p0 f.names=true->nP true p0 (.lst false (f.names.map .str))=.ok (.bl false)->dY [bV false f,.str w,.lst false (p0::ps)]=.ok (.bl (bs.all id))->Verdict f w (p0::ps)):Verdict f w (p0::ps):=by
 have hp0:=hp p0 List.mem_cons_self;have ho:=Pts.own hp;have hD:dY [bV false f,.str w,.lst false (p0::ps)]=.ok (.bl ((cH p0 f.names::bs).all id)):=bb9 hk ho (by simp[hl]) (by simp;omega) ⟨oX hp0,hd⟩;rw[List.all_cons]at hD;have hS:=dh2 hp (by rw[hsl,List.length_cons,hl]) hsn;cases hk2:(List.range (p0::ps).length).all (kb (p0::ps) (eT w))with
 |false=>
  rw[hk2]at hS;refine .bad ho hD ?_ (vC ho hS);cases hm:(id (cH p0 f.names)&&bs.all id)with
  |false=>rfl
  |true=>rw[Bool.and_eq_true]at hm;rw[hkind (nN hm.1) hm.2]at hk2;cases hk2
 |true=>
  rw[hk2]at hS;have hi:=pU hp0 true false f.names;rw[if_pos rfl]at hi;cases hm:cH p0 f.names with
  |false=>rw[hm]at hi hD;exact .bad ho hD rfl (bs6 ho hS hi)
  |true=>rw[hm]at hi hD;exact hgo hk2 hS hm hi hD
theorem fF{ps:List T}{sh:Str}{n i:Nat}(h:(List.range n).all (kb ps sh)=true)(hi:i<n):kb ps sh i=true:=List.all_eq_true.mp h i (List.mem_range.mpr hi)
theorem eo2{a:Bool}(h:(a==true)=true):a=true:=by cases a<;>first|rfl|cases h
theorem eh3{a:Bool}(h:(a==false)=true):a=false:=by cases a<;>first|rfl|cases h
theorem vK{ps:List T}{sh:Str}{p:T}{i:Nat}(hk:kb ps sh i=true)(e:kb ps sh i=(cN p==true)):cN p=true:=eo2 (e▸hk)
theorem kbF{ps:List T}{sh:Str}{p:T}{i:Nat}(hk:kb ps sh i=true)(e:kb ps sh i=(cN p==false)):cN p=false:=eh3 (e▸hk)
theorem aj1:eT "ink"="ttnn":=by with_unfolding_all rfl
theorem uZ:eT "reign"="ttn":=by with_unfolding_all rfl
theorem vL:eT "under"="tt":=by with_unfolding_all rfl
theorem qH:eT "between"="tnn":=by with_unfolding_all rfl
theorem vS:eT "after"="tt":=by with_unfolding_all rfl
theorem xM:eT "same"="tt":=by with_unfolding_all rfl
theorem tG:eT "within"="ttn":=by with_unfolding_all rfl
theorem vE:eT "apart"="ttnn":=by with_unfolding_all rfl
theorem wB{p q:T}{i:Nat}:kb [p,q] "tt" 0=(cN p==true)/\kb [p,q] "tt" 1=(cN q==true):=⟨by with_unfolding_all rfl,by with_unfolding_all rfl⟩
theorem kb_ttn{p q r:T}:kb [p,q,r] "ttn" 0=(cN p==true)/\kb [p,q,r] "ttn" 1=(cN q==true)/\kb [p,q,r] "ttn" 2=(cN r==false):=⟨by with_unfolding_all rfl,by with_unfolding_all rfl,by with_unfolding_all rfl⟩
theorem kb_tnn{p q r:T}:kb [p,q,r] "tnn" 0=(cN p==true)/\kb [p,q,r] "tnn" 1=(cN q==false)/\kb [p,q,r] "tnn" 2=(cN r==false):=⟨by with_unfolding_all rfl,by with_unfolding_all rfl,by with_unfolding_all rfl⟩
theorem kb_ttnn{p q r s:T}:kb [p,q,r,s] "ttnn" 0=(cN p==true)/\kb [p,q,r,s] "ttnn" 1=(cN q==true)/\kb [p,q,r,s] "ttnn" 2=(cN r==false)/\kb [p,q,r,s] "ttnn" 3=(cN s==false):=⟨by with_unfolding_all rfl,by with_unfolding_all rfl,by with_unfolding_all rfl,by with_unfolding_all rfl⟩
theorem k2{p q:T}(h1:cN p=true)(h2:cN q=true):(List.range [p,q].length).all (kb [p,q] "tt")=true:=by rw[show [p,q].length=2 from rfl,show List.range 2=[0,1] from rfl];simp only[List.all_cons,List.all_nil,(wB (i:=0) (p:=p) (q:=q)).1,(wB (i:=0) (p:=p) (q:=q)).2,h1,h2];rfl
theorem k3{p q r:T}(h1:cN p=true)(h2:cN q=true)(h3:cN r=false):(List.range [p,q,r].length).all (kb [p,q,r] "ttn")=true:=by rw[show [p,q,r].length=3 from rfl,show List.range 3=[0,1,2] from rfl];obtain⟨a,b,c⟩:=kb_ttn (p:=p) (q:=q) (r:=r);simp only[List.all_cons,List.all_nil,a,b,c,h1,h2,h3];rfl
theorem k3'{p q r:T}(h1:cN p=true)(h2:cN q=false)(h3:cN r=false):(List.range [p,q,r].length).all (kb [p,q,r] "tnn")=true:=by rw[show [p,q,r].length=3 from rfl,show List.range 3=[0,1,2] from rfl];obtain⟨a,b,c⟩:=kb_tnn (p:=p) (q:=q) (r:=r);simp only[List.all_cons,List.all_nil,a,b,c,h1,h2,h3];rfl
theorem k4{p q r s:T}(h1:cN p=true)(h2:cN q=true)(h3:cN r=false)(h4:cN s=false):(List.range [p,q,r,s].length).all (kb [p,q,r,s] "ttnn")=true:=by rw[show [p,q,r,s].length=4 from rfl,show List.range 4=[0,1,2,3] from rfl];obtain⟨a,b,c,d⟩:=kb_ttnn (p:=p) (q:=q) (r:=r) (s:=s);simp only[List.all_cons,List.all_nil,a,b,c,d,h1,h2,h3,h4];rfl
theorem sl2:(("tt":Str).length=2/\(("tt":Str)=="none")=false)/\(("ttn":Str).length=3/\(("ttn":Str)=="none")=false)/\(("tnn":Str).length=3/\(("tnn":Str)=="none")=false)/\(("ttnn":Str).length=4/\(("ttnn":Str)=="none")=false):=by decide+kernel
theorem bj8{f:Fm}(g:Gd f){p:Str×Int×Int}(hp:p∈f.reigns):jE f (.str p.1)=[p.2.2]:=by unfold jE;rw[show ck0 (.str p.1)=λq:Str×Int×Int=>q.1==p.1 from rfl,ak0 (key:=λq:Str×Int×Int=>q.1) g.rnd hp];rfl
theorem bn7{f:Fm}{r:Str}(h:r∉f.reigns.map (·.1)):jE f (.str r)=[]:=by unfold jE;rw[show ck0 (.str r)=λq:Str×Int×Int=>q.1==r from rfl,ap9 (key:=λq:Str×Int×Int=>q.1) h];rfl
theorem memT_str{n:Str}{ss:List Str}:(cH (.str n) ss=true↔n∈ss):=decide_eq_true_iff
section
variable {f : Fm} (g : Gd f) {ps : List T} (hp : ∀ p ∈ ps, Pt p)
include g hp
theorem wD{w:Str}{ds:List Str}(hk:kt_PARTS.lookup w=some (.tup (ds.map .str)))(hs:(eT w).length=ds.length)(h:ps.length≠ds.length):Verdict f w ps:=
 .bad (Pts.own hp) (cp1 hk h) rfl (vC (Pts.own hp) (ay9 hp (.inl (by omega))))
theorem dx2:Verdict f "under" ps:=by
 by_cases hl:ps.length=2
 . match ps,hl,hp with
   |[p,q],_,hp=>
    refine wR (ds:=["reign"]) (bs:=[cH q (f.reigns.map (·.1))]) hp zQ (by decide) rfl (by rw[vL];exact sl2.1.1) (by rw[vL];exact sl2.1.2) ⟨aw5 g (hp q (by simp)),trivial⟩ (λa b=>by rw[vL];exact k2 a (nN (by simpa using b))) λhk hS hm hi hD=>?_;rw[vL]at hk;obtain⟨n,rfl,ln⟩:=(hp p (by simp)).str (vK (fF hk (show 0<2 by decide)) (wB (i:=0)).1);obtain⟨r,rfl,lr⟩:=(hp q (by simp)).str (vK (fF hk (show 1<2 by decide)) (wB (i:=0)).2);have hn:=memT_str.mp hm;have J:=dy2 g hi lr hS;by_cases hr:r∈f.reigns.map (·.1)
    . obtain⟨p,hpm,rfl⟩:=List.mem_map.mp hr;obtain⟨l,el⟩:=mH hn;rw[bj8 g hpm]at J;exact .inr (.inr ⟨_,_,_,_,by decide+kernel,cg6 g el hpm rfl,J⟩)
    . rw[bn7 hr]at J;exact .bad rfl hD (by simp[cH,hr]) J
 . exact wD g hp zQ (by rw[vL];exact sl2.1.1) hl
theorem dv1:Verdict f "reign" ps:=by
 by_cases hl:ps.length=3
 . match ps,hl,hp with
   |[p,q,r],_,hp=>
    refine wR (ds:=["reign","place"]) (bs:=[cH q (f.reigns.map (·.1)),gZ 1 100 r]) hp rX (by decide) rfl (by rw[uZ];exact sl2.2.1.1) (by rw[uZ];exact sl2.2.1.2) ⟨aw5 g (hp q (by simp)),mW (hp r (by simp)) (by decide+kernel) ax3,trivial⟩ (λa b=>by rw[uZ];simp only[List.all_cons,List.all_nil,Bool.and_eq_true,id]at b;exact k3 a (nN b.1) (nR b.2.1)) λhk hS hm hi hD=>?_;rw[uZ]at hk;obtain⟨n,rfl,ln⟩:=(hp p (by simp)).str (vK (fF hk (show 0<3 by decide)) kb_ttn.1);obtain⟨x,rfl,lx⟩:=(hp q (by simp)).str (vK (fF hk (show 1<3 by decide)) kb_ttn.2.1);obtain⟨k,rfl,k1,k2⟩:=(hp r (by simp)).int (kbF (fF hk (show 2<3 by decide)) kb_ttn.2.2);have hn:=memT_str.mp hm;have J:=ds1 g hi (k:=k) lx hS;by_cases hr:x∈f.reigns.map (·.1)
    . obtain⟨p,hpm,rfl⟩:=List.mem_map.mp hr;obtain⟨l,el⟩:=mH hn;rw[bj8 g hpm]at J;have hb:=(g.rn p hpm).2;by_cases h1:1<=k/\k<=p.2.2
      . refine .inr (.inr ⟨_,_,_,_,by decide+kernel,cw7 g el hpm h1.1 h1.2 rfl,?_⟩);rw[J];simp[h1.1,h1.2,vd]
      . have J:bJ [eV false f,.str "reign",.lst false [.str n,.str p.1,.int k]]=.ok (.str "bad"):=by
         rw[J];have:(decide (1<=k)&&decide (k<=p.2.2))=false:=by simp;omega
         simp[this,vd]
        by_cases h2:1<=k/\k<=100
        . exact .inl ⟨du3 g hn hpm h2.1 h2.2 (by omega),J⟩
        . exact .bad rfl hD (by simp[gZ];omega) J
    . rw[bn7 hr]at J;exact .bad rfl hD (by simp[cH,hr]) J
 . exact wD g hp rX (by rw[uZ];exact sl2.2.1.1) hl
theorem cd3:Verdict f "between" ps:=by
 by_cases hl:ps.length=3
 . match ps,hl,hp with
   |[p,q,r],_,hp=>
    refine wR (ds:=["year","year"]) (bs:=[gZ (-4000) 4000 q,gZ (-4000) 4000 r]) hp oH (by decide) rfl (by rw[qH];exact sl2.2.2.1.1) (by rw[qH];exact sl2.2.2.1.2) ⟨mW (hp q (by simp)) (by decide+kernel) uM,mW (hp r (by simp)) (by decide+kernel) uM,trivial⟩ (λa b=>by rw[qH];simp only[List.all_cons,List.all_nil,Bool.and_eq_true,id]at b;exact k3' a (nR b.1) (nR b.2.1)) λhk hS hm hi hD=>?_;rw[qH]at hk;obtain⟨n,rfl,ln⟩:=(hp p (by simp)).str (vK (fF hk (show 0<3 by decide)) kb_tnn.1);obtain⟨lo,rfl,a1,a2⟩:=(hp q (by simp)).int (kbF (fF hk (show 1<3 by decide)) kb_tnn.2.1);obtain⟨hh,rfl,b1,b2⟩:=(hp r (by simp)).int (kbF (fF hk (show 2<3 by decide)) kb_tnn.2.2);have hn:=memT_str.mp hm;have J:=cg3 g hi hS a1 a2;by_cases h1:-4000<=lo/\lo<=hh/\hh<=4000
    . obtain⟨l,el⟩:=mH hn;refine .inr (.inr ⟨_,_,_,_,by decide+kernel,be9 g el h1.1 h1.2.1 h1.2.2 rfl,?_⟩);rw[J];simp[h1.1,h1.2.1,h1.2.2,vd]
    . have J:bJ [eV false f,.str "between",.lst false [.str n,.int lo,.int hh]]=.ok (.str "bad"):=by
       rw[J];have:(decide (-4000<=lo)&&(decide (lo<=hh)&&decide (hh<=4000)))=false:=by simp;omega
       simp[this,vd]
      by_cases h2:-4000<=lo/\lo<=4000/\-4000<=hh/\hh<=4000
      . exact .inl ⟨cq1 hn h2.1 h2.2.1 (by omega) (by omega),J⟩
      . exact .bad rfl hD (by simp[gZ];omega) J
 . exact wD g hp oH (by rw[qH];exact sl2.2.2.1.1) hl
end
section
variable {f : Fm} (g : Gd f) {ps : List T} (hp : ∀ p ∈ ps, Pt p)
include g hp
theorem dr2:Verdict f "after" ps:=by
 by_cases hl:ps.length=2
 . match ps,hl,hp with
   |[p,q],_,hp=>
    refine wR (ds:=["letter"]) (bs:=[cH q f.names]) hp uW (by decide) rfl (by rw[vS];exact sl2.1.1) (by rw[vS];exact sl2.1.2) ⟨oX (hp q (by simp)),trivial⟩ (λa b=>by rw[vS];exact k2 a (nN (by simpa using b))) λhk hS hm hi hD=>?_;rw[vS]at hk;obtain⟨n,rfl,ln⟩:=(hp p (by simp)).str (vK (fF hk (show 0<2 by decide)) (wB (i:=0)).1);obtain⟨m,rfl,lm⟩:=(hp q (by simp)).str (vK (fF hk (show 1<2 by decide)) (wB (i:=0)).2);have hn:=memT_str.mp hm;have J:=dt2 g hi lm hS;by_cases hr:m∈f.names
    . obtain⟨l,el⟩:=mH hn;obtain⟨l',el'⟩:=mH hr;by_cases e:n=m
      . subst e;have J:_=_:=J;rw[show(cH (.str n) f.names&&!(n==n))=false by simp]at J;have hD:_=_:=hD;rw[show([cH (.str n) f.names].all id)=true by simp[hm]]at hD;exact .inl ⟨yS (ds:=[]) uW rfl hD,J⟩
      . have e2:(n==m)=false:=by simpa using e
        have e3:(m==n)=false:=by simpa using λz=>e (Eq.symm z)
        rw[show(cH (.str m) f.names&&!(m==n))=true by simp[cH,hr,e3]]at J;exact .inr (.inr ⟨_,_,_,_,by decide+kernel,ci8 g el el' e2 rfl,J⟩)
    . rw[show(cH (.str m) f.names&&!(m==n))=false by simp[cH,hr]]at J;exact .bad rfl hD (by simp[cH,hr]) J
 . exact wD g hp uW (by rw[vS];exact sl2.1.1) hl
theorem ds5:Verdict f "same" ps:=by
 by_cases hl:ps.length=2
 . match ps,hl,hp with
   |[p,q],_,hp=>
    refine wR (ds:=["letter"]) (bs:=[cH q f.names]) hp xY (by decide) rfl (by rw[xM];exact sl2.1.1) (by rw[xM];exact sl2.1.2) ⟨oX (hp q (by simp)),trivial⟩ (λa b=>by rw[xM];exact k2 a (nN (by simpa using b))) λhk hS hm hi hD=>?_;rw[xM]at hk;obtain⟨n,rfl,ln⟩:=(hp p (by simp)).str (vK (fF hk (show 0<2 by decide)) (wB (i:=0)).1);obtain⟨m,rfl,lm⟩:=(hp q (by simp)).str (vK (fF hk (show 1<2 by decide)) (wB (i:=0)).2);have hn:=memT_str.mp hm;have J:=df8 g hi lm hS;by_cases hr:m∈f.names
    . obtain⟨l,el⟩:=mH hn;obtain⟨l',el'⟩:=mH hr;by_cases e:n=m
      . subst e;rw[show(cH (.str n) f.names&&!(n==n))=false by simp]at J;rw[show([cH (.str n) f.names].all id)=true by simp[hm]]at hD;exact .inl ⟨yS (ds:=[]) xY rfl hD,J⟩
      . have e2:(n==m)=false:=by simpa using e
        have e3:(m==n)=false:=by simpa using λz=>e (Eq.symm z)
        rw[show(cH (.str m) f.names&&!(m==n))=true by simp[cH,hr,e3]]at J;exact .inr (.inr ⟨_,_,_,_,by decide+kernel,dj3 g el el' e2 rfl,J⟩)
    . rw[show(cH (.str m) f.names&&!(m==n))=false by simp[cH,hr]]at J;exact .bad rfl hD (by simp[cH,hr]) J
 . exact wD g hp xY (by rw[xM];exact sl2.1.1) hl
theorem cn8:Verdict f "within" ps:=by
 by_cases hl:ps.length=3
 . match ps,hl,hp with
   |[p,q,r],_,hp=>
    refine wR (ds:=["letter","later"]) (bs:=[cH q f.names,gZ 0 300 r]) hp sY (by decide) rfl (by rw[tG];exact sl2.2.1.1) (by rw[tG];exact sl2.2.1.2) ⟨oX (hp q (by simp)),mW (hp r (by simp)) (by decide+kernel) bl3,trivial⟩ (λa b=>by rw[tG];simp only[List.all_cons,List.all_nil,Bool.and_eq_true,id]at b;exact k3 a (nN b.1) (nR b.2.1)) λhk hS hm hi hD=>?_;rw[tG]at hk;obtain⟨n,rfl,ln⟩:=(hp p (by simp)).str (vK (fF hk (show 0<3 by decide)) kb_ttn.1);obtain⟨m,rfl,lm⟩:=(hp q (by simp)).str (vK (fF hk (show 1<3 by decide)) kb_ttn.2.1);obtain⟨k,rfl,k1,k2⟩:=(hp r (by simp)).int (kbF (fF hk (show 2<3 by decide)) kb_ttn.2.2);have hn:=memT_str.mp hm;have J:=cv7 g hi (k:=k) lm hS;by_cases hr:m∈f.names/\0<=k/\k<=300
    . obtain⟨hr,h1,h2⟩:=hr;obtain⟨l,el⟩:=mH hn;obtain⟨l',el'⟩:=mH hr;by_cases e:n=m
      . subst e;rw[show(cH (.str n) f.names&&!(n==n))=false by simp,Bool.false_and]at J;rw[show([cH (.str n) f.names,gZ 0 300 (.int k)].all id)=true by simp[hm,gZ,h1,h2]]at hD;exact .inl ⟨yS (ds:=["later"]) sY rfl hD,J⟩
      . have e2:(n==m)=false:=by simpa using e
        have e3:(m==n)=false:=by simpa using λz=>e (Eq.symm z)
        rw[show(cH (.str m) f.names&&!(m==n))=true by simp[cH,hr,e3],decide_eq_true h1,decide_eq_true h2]at J;exact .inr (.inr ⟨_,_,_,_,by decide+kernel,cl1 g el el' e2 h1 h2 rfl,J⟩)
    . have hf:(cH (.str m) f.names&&(decide (0<=k)&&decide (k<=300)))=false:=by
       cases q:(cH (.str m) f.names&&(decide (0<=k)&&decide (k<=300)))with
       |false=>rfl
       |true=>simp only[Bool.and_eq_true,memT_str,decide_eq_true_iff]at q;exact absurd q hr
      rw[show(cH (.str m) f.names&&!(m==n)&&(decide (0<=k)&&decide (k<=300)))=false by rw[Bool.and_right_comm,hf,Bool.false_and]]at J;exact .bad rfl hD (by simp only[List.all_cons,List.all_nil,id,gZ,Bool.and_true];exact hf) J
 . exact wD g hp sY (by rw[tG];exact sl2.2.1.1) hl
theorem dc3:Verdict f "apart" ps:=by
 by_cases hl:ps.length=4
 . match ps,hl,hp with
   |[p,q,r,s],_,hp=>
    refine wR (ds:=["letter","gap","gap"]) (bs:=[cH q f.names,gZ (-300) 300 r,gZ (-300) 300 s]) hp pG (by decide) rfl (by rw[vE];exact sl2.2.2.2.1) (by rw[vE];exact sl2.2.2.2.2) ⟨oX (hp q (by simp)),mW (hp r (by simp)) (by decide+kernel) xS,mW (hp s (by simp)) (by decide+kernel) xS,trivial⟩ (λa b=>by rw[vE];simp only[List.all_cons,List.all_nil,Bool.and_eq_true,id]at b;exact k4 a (nN b.1) (nR b.2.1) (nR b.2.2.1)) λhk hS hm hi hD=>?_;rw[vE]at hk;obtain⟨n,rfl,ln⟩:=(hp p (by simp)).str (vK (fF hk (show 0<4 by decide)) kb_ttnn.1);obtain⟨m,rfl,lm⟩:=(hp q (by simp)).str (vK (fF hk (show 1<4 by decide)) kb_ttnn.2.1);obtain⟨lo,rfl,k1,k2⟩:=(hp r (by simp)).int (kbF (fF hk (show 2<4 by decide)) kb_ttnn.2.2.1);obtain⟨hh,rfl,k3,k4⟩:=(hp s (by simp)).int (kbF (fF hk (show 3<4 by decide)) kb_ttnn.2.2.2);have hn:=memT_str.mp hm;have J:=de3 g hi (lo:=lo) (hh:=hh) lm hS;by_cases hr:m∈f.names/\(-300<=lo/\lo<=300)/\-300<=hh/\hh<=300
    . obtain⟨hr,⟨h1,h2⟩,h3,h4⟩:=hr;obtain⟨l,el⟩:=mH hn;obtain⟨l',el'⟩:=mH hr;by_cases e:n=m
      . subst e;rw[show(cH (.str n) f.names&&!(n==n))=false by simp,Bool.false_and]at J;rw[show([cH (.str n) f.names,gZ (-300) 300 (.int lo),gZ (-300) 300 (.int hh)].all id)=true by simp[hm,gZ,h1,h2,h3,h4]]at hD;exact .inl ⟨yS (ds:=["gap","gap"]) pG rfl hD,J⟩
      . have e2:(n==m)=false:=by simpa using e
        have e3:(m==n)=false:=by simpa using λz=>e (Eq.symm z)
        rw[show(cH (.str m) f.names&&!(m==n))=true by simp[cH,hr,e3],decide_eq_true h1,decide_eq_true h4]at J;by_cases h5:lo<=hh
        . rw[decide_eq_true h5]at J;exact .inr (.inr ⟨_,_,_,_,by decide+kernel,cp5 g el el' e2 h1 h5 h4 rfl,J⟩)
        . rw[decide_eq_false h5]at J;exact .inl ⟨dk4 hn hr e2 h1 h2 (by omega) h3,J⟩
    . have J:bJ [eV false f,.str "apart",.lst false [.str n,.str m,.int lo,.int hh]]=.ok (.str "bad"):=by
       rw[J];cases q:(cH (.str m) f.names&&!(m==n)&&(decide (-300<=lo)&&(decide (lo<=hh)&&decide (hh<=300))))with
       |false=>rfl
       |true=>simp only[Bool.and_eq_true,memT_str,decide_eq_true_iff]at q;exact absurd ⟨q.1.1,⟨q.2.1,by omega⟩,by omega,q.2.2.2⟩ hr
      refine .bad rfl hD ?_ J;cases q:[cH (.str m) f.names,gZ (-300) 300 (.int lo),gZ (-300) 300 (.int hh)].all id with
      |false=>rfl
      |true=>simp only[List.all_cons,List.all_nil,id,gZ,Bool.and_eq_true,memT_str,decide_eq_true_iff]at q;exact absurd ⟨q.1,q.2.1,q.2.2.1⟩ hr
 . exact wD g hp pG (by rw[vE];exact sl2.2.2.2.1) hl
theorem eg3:Verdict f "ink" ps:=by
 by_cases hl:ps.length=4
 . match ps,hl,hp with
   |[p,q,r,s],_,hp=>
    refine wR (ds:=["ink","dark","dark"]) (bs:=[cH q (f.inks.map (·.1)),gZ 0 1000000 r,gZ 0 1000000 s]) hp yB (by decide) rfl (by rw[aj1];exact sl2.2.2.2.1) (by rw[aj1];exact sl2.2.2.2.2) ⟨ci9 g (hp q (by simp)),mW (hp r (by simp)) (by decide+kernel) uN,mW (hp s (by simp)) (by decide+kernel) uN,trivial⟩ (λa b=>by rw[aj1];simp only[List.all_cons,List.all_nil,Bool.and_eq_true,id]at b;exact k4 a (nN b.1) (nR b.2.1) (nR b.2.2.1)) λhk hS hm hi hD=>?_;rw[aj1]at hk;obtain⟨n,rfl,ln⟩:=(hp p (by simp)).str (vK (fF hk (show 0<4 by decide)) kb_ttnn.1);obtain⟨x,rfl,lm⟩:=(hp q (by simp)).str (vK (fF hk (show 1<4 by decide)) kb_ttnn.2.1);obtain⟨d,rfl,k1,k2⟩:=(hp r (by simp)).int (kbF (fF hk (show 2<4 by decide)) kb_ttnn.2.2.1);obtain⟨e,rfl,k3,k4⟩:=(hp s (by simp)).int (kbF (fF hk (show 3<4 by decide)) kb_ttnn.2.2.2);have hn:=memT_str.mp hm;by_cases hr:x∈f.inks.map (·.1)
    . obtain⟨p,hpm,rfl⟩:=List.mem_map.mp hr;obtain⟨l,el⟩:=mH hn;have J:=dx0 g hi hS (cl9 g hpm);unfold cj7 at J;by_cases h:0<=d/\d<=1000000/\0<=e/\e<=1000000
      . rw[if_pos h]at J;by_cases hh:fL p.2 d e (f.span.toNat+1)=[]
        . rw[if_neg (λz=>z hh)]at J;exact .inr (.inl ⟨ek3 g hn hpm h.1 h.2.1 h.2.2.1 h.2.2.2 hh,J⟩)
        . rw[if_pos hh]at J;obtain⟨a,t,et⟩:=List.exists_cons_of_ne_nil hh;exact .inr (.inr ⟨_,_,_,_,by decide+kernel,du9 g el hpm h.1 h.2.1 h.2.2.1 h.2.2.2 et rfl rfl,J⟩)
      . rw[if_neg h]at J;refine .bad rfl hD ?_ J;cases q:[cH (.str p.1) (f.inks.map (·.1)),gZ 0 1000000 (.int d),gZ 0 1000000 (.int e)].all id with
        |false=>rfl
        |true=>simp only[List.all_cons,List.all_nil,id,gZ,Bool.and_eq_true,memT_str,decide_eq_true_iff]at q;exact absurd ⟨q.2.1.1,q.2.1.2,q.2.2.1.1,q.2.2.1.2⟩ h
    . exact .bad rfl hD (by simp[cH,hr]) (dx0 g hi hS (ca9 g hr))
 . exact wD g hp yB (by rw[aj1];exact sl2.2.2.2.1) hl
theorem dz2(w:Str):Verdict f w ps:=by
 cases e:kt_PARTS.lookup w with
 |none=>
  have h1:∀p∈kv1,(kt_PARTS.lookup p.1).isSome=true:=by
   intro p hp;simp only[List.mem_cons,List.not_mem_nil,or_false]at hp;rcases hp with rfl|rfl|rfl|rfl|rfl|rfl
   . rw[yB];rfl
   . rw[rX];rfl
   . rw[zQ];rfl
   . rw[oH];rfl
   . rw[uW];rfl
   . rw[xY];rfl
  have h2:∀p∈kv2,(kt_PARTS.lookup p.1).isSome=true:=by
   intro p hp;simp only[List.mem_cons,List.not_mem_nil,or_false]at hp;rcases hp with rfl|rfl
   . rw[sY];rfl
   . rw[pG];rfl
  have hs:eT w="none":=by
   unfold eT;cases e1:kv1.lookup w with
   |some x=>have:=h1 _ (lP e1);rw[e]at this;cases this
   |none=>
    cases e2:kv2.lookup w with
    |some x=>have:=h2 _ (lP e2);rw[e]at this;cases this
    |none=>rfl
  exact .bad (Pts.own hp) (bd9 e) rfl (vC (Pts.own hp) (ay9 hp (.inr (by rw[hs];exact beq_self_eq_true _))))
 |some d=>
  have:=lP e;simp only[kt_PARTS,List.mem_cons,List.not_mem_nil,or_false,Prod.mk.injEq]at this;rcases this with⟨rfl,_⟩|⟨rfl,_⟩|⟨rfl,_⟩|⟨rfl,_⟩|⟨rfl,_⟩|⟨rfl,_⟩|⟨rfl,_⟩|⟨rfl,_⟩
  . exact eg3 g hp
  . exact dv1 g hp
  . exact dx2 g hp
  . exact cd3 g hp
  . exact dr2 g hp
  . exact ds5 g hp
  . exact cn8 g hp
  . exact dc3 g hp
end
theorem mE{c:Str}(fs:List (Str×V))(b:Nat->Bool)(h:[ki_BadArchive.lookup c,ki_BadSaying.lookup c,ki_NoAge.lookup c,ki_Stuck.lookup c,ki_NoYear.lookup c,ki_NoGap.lookup c,ki_TooMany.lookup c,ki_NoNumber.lookup c,ki_NoDating.lookup c,ki_BadRow.lookup c,ki_NoRow.lookup c,ki_NoName.lookup c]=[some (b 0),some (b 1),some (b 2),some (b 3),some (b 4),some (b 5),some (b 6),some (b 7),some (b 8),some (b 9),some (b 10),some (b 11)])(hA:ki_ArchiveError.lookup c=some true)(hV:ki_ValueError.lookup c=some true)
 (hc:∀o,al6 (.lst o [.bl (b 0),.bl (b 1),.bl (b 2),.bl (b 3),.bl (b 4),.bl (b 5),.bl (b 6),.bl (b 7),.bl (b 8),.bl (b 9),.bl (b 10),.bl (b 11)]) [.bl true]=.ok (.int 1)):bY [.err c fs]=.ok (.bl true):=by
 simp only[List.cons.injEq]at h;obtain⟨h0,h1,h2,h3,h4,h5,h6,h7,h8,h9,h10,h11,_⟩:=h;have k0:cM ki_BadArchive (.err c fs)=.ok (.bl (b 0)):=by simp only[cM,h0]
 have k1:cM ki_BadSaying (.err c fs)=.ok (.bl (b 1)):=by simp only[cM,h1]
 have k2:cM ki_NoAge (.err c fs)=.ok (.bl (b 2)):=by simp only[cM,h2]
 have k3:cM ki_Stuck (.err c fs)=.ok (.bl (b 3)):=by simp only[cM,h3]
 have k4:cM ki_NoYear (.err c fs)=.ok (.bl (b 4)):=by simp only[cM,h4]
 have k5:cM ki_NoGap (.err c fs)=.ok (.bl (b 5)):=by simp only[cM,h5]
 have k6:cM ki_TooMany (.err c fs)=.ok (.bl (b 6)):=by simp only[cM,h6]
 have k7:cM ki_NoNumber (.err c fs)=.ok (.bl (b 7)):=by simp only[cM,h7]
 have k8:cM ki_NoDating (.err c fs)=.ok (.bl (b 8)):=by simp only[cM,h8]
 have k9:cM ki_BadRow (.err c fs)=.ok (.bl (b 9)):=by simp only[cM,h9]
 have k10:cM ki_NoRow (.err c fs)=.ok (.bl (b 10)):=by simp only[cM,h10]
 have k11:cM ki_NoName (.err c fs)=.ok (.bl (b 11)):=by simp only[cM,h11]
 have kA:cM ki_ArchiveError (.err c fs)=.ok (.bl true):=by simp only[cM,hA]
 have kV:cM ki_ValueError (.err c fs)=.ok (.bl true):=by simp only[cM,hV]
 clear h0 h1 h2 h3 h4 h5 h6 h7 h8 h9 h10 h11 hA hV;unfold bY oF;walk_at "ev";rfl
theorem bq0(fs:List (Str×V)):bY [.err "BadArchive" fs]=.ok (.bl true):=mE fs (· ==0) (by decide+kernel) (by decide+kernel) (by decide+kernel) λ_=>by with_unfolding_all rfl
theorem ai0(fs:List (Str×V)):bY [.err "BadSaying" fs]=.ok (.bl true):=mE fs (· ==1) (by decide+kernel) (by decide+kernel) (by decide+kernel) λ_=>by with_unfolding_all rfl
theorem bm4(fs:List (Str×V)):bY [.err "NoAge" fs]=.ok (.bl true):=mE fs (· ==2) (by decide+kernel) (by decide+kernel) (by decide+kernel) λ_=>by with_unfolding_all rfl
theorem ch6(fs:List (Str×V)):bY [.err "Stuck" fs]=.ok (.bl true):=mE fs (· ==3) (by decide+kernel) (by decide+kernel) (by decide+kernel) λ_=>by with_unfolding_all rfl
theorem cg2(fs:List (Str×V)):bY [.err "NoYear" fs]=.ok (.bl true):=mE fs (· ==4) (by decide+kernel) (by decide+kernel) (by decide+kernel) λ_=>by with_unfolding_all rfl
theorem cz8(fs:List (Str×V)):bY [.err "NoGap" fs]=.ok (.bl true):=mE fs (· ==5) (by decide+kernel) (by decide+kernel) (by decide+kernel) λ_=>by with_unfolding_all rfl
theorem bt9(fs:List (Str×V)):bY [.err "TooMany" fs]=.ok (.bl true):=mE fs (· ==6) (by decide+kernel) (by decide+kernel) (by decide+kernel) λ_=>by with_unfolding_all rfl
theorem bn6(fs:List (Str×V)):bY [.err "NoNumber" fs]=.ok (.bl true):=mE fs (· ==7) (by decide+kernel) (by decide+kernel) (by decide+kernel) λ_=>by with_unfolding_all rfl
theorem be6(fs:List (Str×V)):bY [.err "NoDating" fs]=.ok (.bl true):=mE fs (· ==8) (by decide+kernel) (by decide+kernel) (by decide+kernel) λ_=>by with_unfolding_all rfl
theorem cs3(fs:List (Str×V)):bY [.err "BadRow" fs]=.ok (.bl true):=mE fs (· ==9) (by decide+kernel) (by decide+kernel) (by decide+kernel) λ_=>by with_unfolding_all rfl
theorem cu5(fs:List (Str×V)):bY [.err "NoRow" fs]=.ok (.bl true):=mE fs (· ==10) (by decide+kernel) (by decide+kernel) (by decide+kernel) λ_=>by with_unfolding_all rfl
theorem co1(fs:List (Str×V)):bY [.err "NoName" fs]=.ok (.bl true):=mE fs (· ==11) (by decide+kernel) (by decide+kernel) (by decide+kernel) λ_=>by with_unfolding_all rfl
theorem zS{c f:Str}{v:V}(hc:([c]:List Str).contains c=true):jC [c] f (.err c [(f,v)])=vT v:=by simp only[jC,hc,if_true];rw[show List.lookup f [(f,v)]=some v by simp[List.lookup]]
theorem dr9(n:Str)(y:Int):tS [.str n,.int y]=.ok (.bl true):=by
 unfold tS tY;have x_part:jC ["BadArchive"] "part" (.err "BadArchive" [("part",.str n)])=.ok (.str n):=zS (by decide+kernel);have x_year:jC ["NoYear"] "year" (.err "NoYear" [("year",.int y)])=.ok (.int y):=zS (by decide+kernel);have x_gap:jC ["NoGap"] "gap" (.err "NoGap" [("gap",.int y)])=.ok (.int y):=zS (by decide+kernel);have x_letter:jC ["TooMany"] "letter" (.err "TooMany" [("letter",.int y)])=.ok (.int y):=zS (by decide+kernel);have x_number:jC ["NoNumber"] "number" (.err "NoNumber" [("number",.int y)])=.ok (.int y):=zS (by decide+kernel);have x_row:jC ["BadRow"] "row" (.err "BadRow" [("row",.int y)])=.ok (.int y):=zS (by decide+kernel);have x_name:jC ["NoName"] "name" (.err "NoName" [("name",.str n)])=.ok (.str n):=zS (by decide+kernel);have hall:∀p∈([("BadArchive",[("part",.str n)]),("NoYear",[("year",.int y)]),("NoGap",[("gap",.int y)]),("TooMany",[("letter",.int y)]),("NoNumber",[("number",.int y)]),("BadRow",[("row",.int y)]),("BadSaying",[]),("NoAge",[]),("Stuck",[]),("NoDating",[]),("NoRow",[]),("NoName",[("name",.str n)])]:List (Str×List (Str×V))),bY [.err p.1 p.2]=.ok (.bl true):=List.forall_mem_cons.mpr ⟨bq0 _,List.forall_mem_cons.mpr ⟨cg2 _,List.forall_mem_cons.mpr ⟨cz8 _,List.forall_mem_cons.mpr ⟨bt9 _,List.forall_mem_cons.mpr ⟨bn6 _,List.forall_mem_cons.mpr ⟨cs3 _,List.forall_mem_cons.mpr ⟨ai0 _,List.forall_mem_cons.mpr ⟨bm4 _,List.forall_mem_cons.mpr ⟨ch6 _,List.forall_mem_cons.mpr ⟨be6 _,List.forall_mem_cons.mpr ⟨cu5 _,List.forall_mem_cons.mpr ⟨co1 _,nofun⟩⟩⟩⟩⟩⟩⟩⟩⟩⟩⟩⟩;have hc:∀r:Option T,cF (aJ 3) cT (bT 1 bY (aD (aB 3) aK)) [some (.str n),some (.int y),r,none] (List.map (λp:Str×List (Str×V)=>T.err p.1 p.2) _)=.ok (List.map (λ_=>.bl true) _):=λr=>eA λp hp=>by have:=hall p hp;clear hall;walk_at "ev"
 simp only[List.map_cons,List.map_nil]at hc;clear hall;have e1:(!(n==n))=false:=by simp
 have e2:(!(y==y))=false:=by simp
 have b0:=@jO T;have b1:=@fP T;have b2:=@rP T;have b3:=@uP T;have b4:=@ix4 T;have b5:=@ix5 T;have ha:oS false [.lst true ((List.replicate 12 true).map .bl)]=.ok (.bl true):=by rw[bu1,if_neg (by decide)];rfl
 simp only[List.replicate_succ,List.replicate_zero,List.map_cons,List.map_nil]at ha;walk_at "ev"
theorem co7:gE "shown" ["spoken","low","high","text"]=none:=by decide+kernel
theorem tm8:∀c∈af4,tm_shown.lookup c=some aV:=by intro c hc;simp only[af4,List.mem_cons,List.not_mem_nil,or_false]at hc;rcases hc with rfl|rfl|rfl|rfl|rfl|rfl|rfl|rfl<;>with_unfolding_all rfl
theorem m_shown{c:Str}(hc:c∈af4){ls:List Int}{lo:Int}{hi:Option Int}{x:Str}{o:Fr->Res T}{ρ:Fr}(ho:o ρ=.ok (iE true c ls lo hi x)):qG 1 "shown" tm_shown o aK ρ=.ok (.str x):=by
 have hF:aV [iE false c ls lo hi x]=.ok (.str x):=by
  unfold aV dG;have:kH ["Ink","Reign","Under","Between","After","Same","Within","Apart"] "text" (iE false c ls lo hi x)=.ok (.str x):=by have h:=ct8 c hc;simp only[kH,iE,h,if_true];with_unfolding_all rfl
  walk_at "ev"
 have hl:=tm8 c hc;have z:=dv7 true c ls lo hi x;have e:qG 1 "shown" tm_shown o aK ρ=tT 1 aV [iE true c ls lo hi x]:=by simp only[qG,ho,oM,iE,co7,hl];rfl
 rw[e];clear e ho hc hl;walk_at "ev"
theorem dv3{p:T}(h:Pt p)(n:Nat):vA n p p=some true:=by cases h<;>cases n<;>simp[vA,nJ]
theorem bf5(n:Nat):∀{ps:List T},(∀p∈ps,Pt p)->wU n ps ps=some (ps.map λ_=>true)
 |[],_=>by simp[wU]
 |p::ps,h=>by rw[wU,dv3 (h p List.mem_cons_self) n,bf5 n λq hq=>h q (List.mem_cons_of_mem _ hq)];rfl
theorem dr1{ps:List T}(h:∀p∈ps,Pt p)(o o':Bool):kO (.lst o ps) (.lst o' ps)=.ok (.bl false):=by simp only[kO,tX,and_self,if_true,cP,vA,bf5 _ h,Option.map_some,List.all_map];simp
theorem aa1{p:T}(h:Pt p):oG [p]=.ok (.str (txt p))/\(txt p).length<=2000000:=by
 cases h with
 |s x k=>exact⟨cj4 x,k⟩
 |i n h1 h2=>
  refine⟨?_,?_⟩
  . have:=qZ (show -10000000<=n by omega) (by omega);rw[cu3,ag4 this];rfl
  . show(toString n:Str).length<=2000000;have:=PyProof.Rows.len_str_of_int n;omega
theorem ct9(a:T)(l:List T):gH (a::l) (some 1) none=l:=vJ (a::l) 1 (by simp)
theorem eq4{w:Str}{ps:List T}(hw:w.length<=2000000)(hp:∀p∈ps,Pt p)(x0 x1 x2 x3 x4 x5 x6 x7:Option T):cF (aJ 8) cT (bP oG (aD (aB 8) aK)) [x0,x1,x2,x3,x4,x5,x6,x7,none] (.str w::ps)=.ok ((w::ps.map txt).map .str):=by
 have h2:∀p∈T.str w::ps,Pt p:=List.forall_mem_cons.mpr ⟨.s w hw,hp⟩;have:=eA (k:=8) (d:=bP oG (aD (aB 8) aK)) (ρ:=[x0,x1,x2,x3,x4,x5,x6,x7,none]) (g:=id) (f:=λp=>T.str (txt p)) (l:=T.str w::ps) λp hp=>by have:=(aa1 (h2 p hp)).1;simp only[id];clear h2 hp;walk_at "ev"
 rw[List.map_id]at this;rw[this,List.map_cons,List.map_cons,List.map_map];rfl
theorem c12:(["BadArchive","BadSaying","NoAge","Stuck","NoYear","NoGap","TooMany","NoNumber","NoDating","BadRow","NoRow","NoName"]:List Str).contains "BadSaying"=true/\(["BadArchive","BadSaying","NoAge","Stuck","NoYear","NoGap","TooMany","NoNumber","NoDating","BadRow","NoRow","NoName"]:List Str).contains "NoAge"=true:=by decide+kernel
theorem gba:((("bad":Str)=="good")=false/\(("bad":Str)=="age")=false)/\(("age":Str)=="good")=false/\(("age":Str)=="age")=true/\(("good":Str)=="good")=true:=by decide+kernel
theorem cs1(c:Str)(fs:List (Str×V)):xZ (.err c fs) .non=.ok (.bl false):=rfl
theorem bp7{f:Fm}(g:Gd f){w:Str}{ps:List T}(hw:w.length<=2000000)(hp:∀p∈ps,Pt p)(hl:ps.length<=6):oW [eV false f,bV false f,.lst false (.str w::ps)]=.ok (.bl true):=by
 have V:=dz2 g hp w;have n0:=Pts.own hp;have zp:=dB ps n0;have c1:=ct9 (T.str w) ps;have ns:=λo o'=>dr1 hp o o';have na:=fE f;have za:=gN false f;have nf:=rR f;have zf:=ad6 false f;have b0:=@jO T;have lw:(T.str w::ps).length<=100000:=by simp;omega
 have lp:ps.length<=100000:=by omega
 unfold oW sS;rcases V with⟨V,J⟩|⟨V,J⟩|⟨c,ls,lo,hi,hc,V,J⟩
 . have c2:=c12.1;have k:=ai0 [];have e1:=gba.1.1;have e2:=gba.1.2;have i1:=cs1 "BadSaying" [];have i2:cM ki_BadSaying (.err "BadSaying" [])=.ok (.bl true):=by with_unfolding_all rfl
   clear hp hl g;walk_at "ev"
 . have c2:=c12.2;have k:=bm4 [];have e1:=gba.2.1;have e2:=gba.2.2.1;have i1:=cs1 "NoAge" [];have i2:cM ki_NoAge (.err "NoAge" [])=.ok (.bl true):=by with_unfolding_all rfl
   clear hp hl g;walk_at "ev"
 . have e1:=gba.2.2.2;have tx:=eq4 hw hp;have cs:=bt4 c ls lo hi (Txt.join " " (w::ps.map txt));have hj:uB (.str " ") [.lst true ((w::ps.map txt).map .str)]=.ok (.str (Txt.join " " (w::ps.map txt))):=by refine bu7 ?_ (by simp;omega) true;refine List.forall_mem_cons.mpr ⟨hw,λy hy=>?_⟩;obtain⟨p,hpm,rfl⟩:=List.mem_map.mp hy;exact(aa1 (hp p hpm)).2
   generalize Txt.join " " (w::ps.map txt)=x at*;have sh:=λy0 y1 y2 y3 y4 y6 y7=>m_shown hc (ls:=ls) (lo:=lo) (hi:=hi) (x:=x) (o:=aB 5) (ρ:=[y0,y1,y2,y3,y4,some (iE true c ls lo hi x),y6,y7,none]) rfl;have ex:(x==x)=true:=by simp
   generalize(w::ps.map txt)=ys at tx hj;clear hp hl g hw hc;walk_at "ev"
def OkW(t:T):Prop:=∃o w ps,t=.lst o (.str w::ps)/\w.length<=2000000/\(∀p∈ps,Pt p)/\ps.length<=6
theorem bt1(l:List T){i:Int}(h0:0<=i)(h1:i<l.length):∃v,atI l i=some v/\v∈l:=by obtain⟨v,h,m,_⟩:=tK (λt:T=>t) l h0 h1;rw[List.map_id']at h;exact⟨v,h,m⟩
theorem bo1{A:List T}{x:T}(h:aR A=true)(hx:Pt x):aR (A++[x])=true:=by rw[sZ,List.all_append,<-sZ,h];simp[hx.own]
theorem bw1{A:List T}{x:T}(h:A.length<=10):(A++[x]).length<=20:=by simp;omega
theorem Pt.lit{x:Str}(h:x.length<=2000000:=by decide+kernel):Pt (.str x):=.s x h
section
variable {w : Str} {ps ws : List T} (ew : ws = .str w :: ps) (hw : w.length ≤ 2000000) (hp : ∀ p ∈ ps, Pt p) (h4 : ps.length ≤ 4)
include ew hw hp h4
theorem ag5(o:Bool){a:Nat}{x:T}(h1:1<=a)(hx:Pt x):OkW (.lst o (ws.take a++[x]++ws.drop (a+1))):=by
 obtain⟨b,rfl⟩:∃b,a=b+1:=⟨a-1,by omega⟩;refine⟨o,w,ps.take b++[x]++ps.drop (b+1),by rw[ew];rfl,hw,λp hp'=>?_,by simp;omega⟩;rcases List.mem_append.mp hp' with h|h
 . rcases List.mem_append.mp h with h|h
   . exact hp p (List.mem_of_mem_take h)
   . rw[List.mem_singleton.mp h];exact hx
 . exact hp p (List.mem_of_mem_drop h)
theorem dc9(o:Bool){a:Nat}(h1:1<=a):OkW (.lst o (ws.take a++ws.drop (a+1))):=by
 obtain⟨b,rfl⟩:∃b,a=b+1:=⟨a-1,by omega⟩;refine⟨o,w,ps.take b++ps.drop (b+1),by rw[ew];rfl,hw,λp hp'=>?_,by simp;omega⟩;rcases List.mem_append.mp hp' with h|h
 . exact hp p (List.mem_of_mem_take h)
 . exact hp p (List.mem_of_mem_drop h)
theorem cn4(o:Bool){x:T}(hx:Pt x):OkW (.lst o (ws++[x])):=by
 refine⟨o,w,ps++[x],by rw[ew];rfl,hw,λp hp'=>?_,by simp;omega⟩;rcases List.mem_append.mp hp' with h|h
 . exact hp p h
 . rw[List.mem_singleton.mp h];exact hx
theorem cp7(h2:2<=ps.length)(m:Int)(hm:0<=m):∃t,qU [.lst false ws,.int m]=.ok t/\OkW t:=by
 have hpw:∀p∈ws,Pt p:=by rw[ew];exact List.forall_mem_cons.mpr ⟨.s w hw,hp⟩
 have nw:=Pts.own hpw;have L:ws.length=ps.length+1:=by rw[ew];rfl
 have lp:(0:Int)<(ws.length:Int)-1:=by omega
 obtain⟨a,ha⟩:=jI (show 0<=1+m/8%((ws.length:Int)-1) by have:=Int.emod_nonneg (m/8) (show(ws.length:Int)-1≠0 by omega);omega);have a1:1<=a:=by have:=Int.emod_nonneg (m/8) (show(ws.length:Int)-1≠0 by omega);omega
 have a2:a<ws.length:=by have:=Int.emod_lt_of_pos (m/8) lp;omega
 have d8:gQ m 8:=⟨by decide,by decide⟩;have d10:gQ (m/8) 10:=⟨by decide,by decide⟩;have d2:gQ (m/8) 2:=⟨by decide,by decide⟩;have cA:=as4 ws a;have cB:gH ws (some ((a:Int)+1)) none=ws.drop (a+1):=vJ ws (a+1) (by omega);have nA:aR (ws.take a)=true:=Pts.own λp h=>hpw p (List.mem_of_mem_take h);have nB:aR (ws.drop (a+1))=true:=Pts.own λp h=>hpw p (List.mem_of_mem_drop h);have lA:(ws.take a).length<=10:=by rw[List.length_take];omega
 have lB:(ws.drop (a+1)).length<=10:=by rw[List.length_drop];omega
 have lW:ws.length<=10:=by omega
 unfold qU qN;cases k1:(m%8==1)with
 |true=>
  obtain⟨v,hv,mv⟩:=tK T.str ["Ink","inks","","before","apart ","under","same","after"] (i:=m/8%8) (Int.emod_nonneg _ (by decide)) (Int.emod_lt_of_pos _ (by decide));have hv2:v.length<=2000000:=(by decide+kernel:∀v∈(["Ink","inks","","before","apart ","under","same","after"]:List Str),v.length<=2000000) v mv.1;have c1:gH ws (some 1) none=ps:=by rw[ew];exact ct9 _ _
  have np:=Pts.own hp;refine⟨.lst true (.str v::ps),?_,true,v,ps,rfl,hv2,hp,by omega⟩;simp only[List.map_cons,List.map_nil]at hv;clear L hpw hp ew mv hv2 a1 a2 cA cB nA nB lA lB hw;walk_at "ev"
 |false=>
 cases k2:(m%8==2)with
 |true=>
  obtain⟨v,hv,mv⟩:=bt1 [.lst false (ws.take a++ws.drop (a+1)),.lst false (ws++[.int 1]),.lst false (ws++[.str "a"])] (i:=m/8/10%3) (Int.emod_nonneg _ (by decide)) (Int.emod_lt_of_pos _ (by decide));have n1:aR (ws.take a++ws.drop (a+1))=true:=Pts.own λp h=>(List.mem_append.mp h).elim (λh=>hpw p (List.mem_of_mem_take h)) (λh=>hpw p (List.mem_of_mem_drop h));have n2:aR (ws++[.int 1])=true:=Pts.own λp h=>(List.mem_append.mp h).elim (hpw p) (λh=>by rw[List.mem_singleton.mp h];exact .i 1 (by decide) (by decide));have n3:aR (ws++[.str "a"])=true:=Pts.own λp h=>(List.mem_append.mp h).elim (hpw p) (λh=>by rw[List.mem_singleton.mp h];exact .lit);have z1:=dB _ n1;have z2:=dB _ n2;have z3:=dB _ n3;have hv2:dP v=true/\OkW v:=by
   simp only[List.mem_cons,List.not_mem_nil,or_false]at mv;rcases mv with rfl|rfl|rfl
   . exact⟨by simp only[dP,n1];rfl,dc9 ew hw hp h4 _ a1⟩
   . exact⟨by simp only[dP,n2];rfl,cn4 ew hw hp h4 _ (.i 1 (by decide) (by decide))⟩
   . exact⟨by simp only[dP,n3];rfl,cn4 ew hw hp h4 _ .lit⟩
  refine⟨v,?_,hv2.2⟩;have nv:=hv2.1;clear L hpw hp ew mv hv2 a1 a2 hw;walk_at "ev"
 |false=>
 cases k3:(m%8==3)with
 |true=>
  obtain⟨p,hpa,pm⟩:=bt1 ws (i:=(a:Int)) (by omega) (by omega);have hpp:=hpw p pm;cases hpp with
  |s x hx=>refine⟨_,?_,ag5 ew hw hp h4 true (x:=.int 5) a1 (.i 5 (by decide) (by decide))⟩;have q:=au2 x;have nx:=bo1 nA (.i 5 (by decide) (by decide));have lx:=bw1 (x:=.int 5) lA;clear L hpw hp ew a1 a2 pm hx hw;walk_at "ev"
  |i n n1 n2=>have tx:=(aa1 (.i n n1 n2)).1;refine⟨_,?_,ag5 ew hw hp h4 true (x:=.str (txt (.int n))) a1 (.s _ (aa1 (.i n n1 n2)).2)⟩;have nx:=bo1 nA (.s _ (aa1 (.i n n1 n2)).2);have lx:=bw1 (x:=.str (txt (.int n))) lA;clear L hpw hp ew a1 a2 pm n1 n2 hw;walk_at "ev"
 |false=>
 cases k4:(m%8==4)with
 |true=>
  obtain⟨p,hpa,pm⟩:=bt1 ws (i:=1) (by decide) (by omega);obtain⟨v,hv,mv⟩:=bt1 [.str "nobody",.str "",p,.str "gall"] (i:=m/8/10%4) (Int.emod_nonneg _ (by decide)) (Int.emod_lt_of_pos _ (by decide));have hv2:Pt v:=by
   simp only[List.mem_cons,List.not_mem_nil,or_false]at mv;rcases mv with rfl|rfl|rfl|rfl
   . exact .lit
   . exact .lit
   . exact hpw _ pm
   . exact .lit
  refine⟨_,?_,ag5 ew hw hp h4 true (x:=v) a1 hv2⟩;have np:=(hpw p pm).own;have zp:=(hpw p pm).frz;have nv:=hv2.own;have zv:=hv2.frz;have nx:=bo1 nA hv2;have lx:=bw1 (x:=v) lA;clear L hpw hp ew a1 a2 pm hv2 mv hw;walk_at "ev"
 |false=>
 obtain⟨q,hq,qm⟩:∃q,atI ws (-1)=some q/\q∈ws:=by
  have e0:zX ws.length (-1)=some (ws.length-1):=by unfold zX;rw[if_neg (by decide),if_pos (by omega)];congr 1;omega
  refine⟨ws[ws.length-1],?_,List.getElem_mem _⟩;unfold atI;rw[e0];simp
 cases k5:decide (4<m%8)with
 |false=>refine⟨.lst false ws,?_,false,w,ps,by rw[ew],hw,hp,by omega⟩;clear L hpw hp ew a1 a2 qm hw;walk_at "ev"
 |true=>
  have hqp:=hpw q qm;cases hqp with
  |s x hx=>refine⟨.lst false ws,?_,false,w,ps,by rw[ew],hw,hp,by omega⟩;have q:=au2 x;clear L hpw hp ew a1 a2 qm hx hw;walk_at "ev"
  |i n n1 n2=>
   obtain⟨r,hr,rm⟩:∃q,atI ws (-2)=some q/\q∈ws:=by
    have e0:zX ws.length (-2)=some (ws.length-2):=by unfold zX;rw[if_neg (by decide),if_pos (by omega)];congr 1;omega
    refine⟨ws[ws.length-2],?_,List.getElem_mem _⟩;unfold atI;rw[e0];simp
   obtain⟨b,hb,b1,b2⟩:∃b:Bool,lS [r,.ty "int"]=.ok (.bl b)/\as3 [.bl b]=.ok (.int (if b=true then 1 else 0))/\dP r=true:=by
    cases hpw r rm with
    |s x _=>exact⟨false,au2 x,rfl,rfl⟩
    |i x _ _=>exact⟨true,bl7 x,rfl,rfl⟩
   obtain⟨v,hv,mv⟩:=gO [-1,0,1,1000000,1000000+1,300,301,-300,-301,4000,4001,-4000,-4001,100,101] (i:=m/8/2%15) (Int.emod_nonneg _ (by decide)) (Int.emod_lt_of_pos _ (by decide));have hvv:-1000000<=v/\v<=1000001:=(by decide:∀v∈([-1,0,1,1000000,1000000+1,300,301,-300,-301,4000,4001,-4000,-4001,100,101]:List Int),-1000000<=v/\v<=1000001) v mv;obtain⟨c,hc⟩:=jI (show 0<=(ws.length:Int)-1-m/8%2*(if b=true then 1 else 0) by split<;>omega);have c1:1<=c/\c<ws.length:=by split at hc<;>omega
   have cC:=as4 ws c;have cD:gH ws (some ((c:Int)+1)) none=ws.drop (c+1):=vJ ws (c+1) (by omega);have nC:aR (ws.take c)=true:=Pts.own λp h=>hpw p (List.mem_of_mem_take h);have nD:aR (ws.drop (c+1))=true:=Pts.own λp h=>hpw p (List.mem_of_mem_drop h);have lC:(ws.take c).length<=10:=by rw[List.length_take];omega
   have lD:(ws.drop (c+1)).length<=10:=by rw[List.length_drop];omega
   have hp6:=hp6;have nx:=bo1 nC (.i v hvv.1 hvv.2);have lx:=bw1 (x:=.int v) lC;have mo:mulOk (m/8%2) (if b=true then 1 else 0):=aw0 (by omega) (by omega);refine⟨_,?_,ag5 ew hw hp h4 true (x:=.int v) c1.1 (.i v hvv.1 hvv.2)⟩;simp only[List.map_cons,List.map_nil]at hv;clear L hpw hp ew a1 a2 qm rm n1 n2 hw hvv mv c1 cA cB nA nB lA lB;walk_at "ev"
end
theorem kX{p:T}{ps:List T}(h:Pt p)(k:∀q∈ps,Pt q):∀q∈p::ps,Pt q:=List.forall_mem_cons.mpr ⟨h,k⟩
theorem ea1{f:Fm}(g:Gd f){ws:List T}(h:Wd f ws):∃w ps,ws=.str w::ps/\w.length<=2000000/\(∀p∈ps,Pt p)/\2<=ps.length/\ps.length<=4:=by
 have hn:∀{l:Nat}{n:Str},f.names[l]?=some n->Pt (.str n):=λh=>.s _ (iQ g h);have hi:∀{p:Str×List Int},p∈f.inks->Pt (.str p.1):=λh=>.s _ (xn g (g.inn _ h).1);have hr:∀{p:Str×Int×Int},p∈f.reigns->Pt (.str p.1):=λh=>.s _ (xn g (g.rn _ h).1);cases h with
 |ink h hp h1 h2 h3 h4 hh=>exact⟨_,_,rfl,by decide+kernel,kX (hn h) (kX (hi hp) (kX (.i _ (by omega) (by omega)) (kX (.i _ (by omega) (by omega)) nofun))),by simp,by simp⟩
 |reign h hp h1 h2=>exact⟨_,_,rfl,by decide+kernel,kX (hn h) (kX (hr hp) (kX (.i _ (by omega) (by have:=(g.rn _ hp).2;omega)) nofun)),by simp,by simp⟩
 |under h hp=>exact⟨_,_,rfl,by decide+kernel,kX (hn h) (kX (hr hp) nofun),by simp,by simp⟩
 |between h h1 h2 h3=>exact⟨_,_,rfl,by decide+kernel,kX (hn h) (kX (.i _ (by omega) (by omega)) (kX (.i _ (by omega) (by omega)) nofun)),by simp,by simp⟩
 |after h h' hne=>exact⟨_,_,rfl,by decide+kernel,kX (hn h) (kX (hn h') nofun),by simp,by simp⟩
 |same h h' hne=>exact⟨_,_,rfl,by decide+kernel,kX (hn h) (kX (hn h') nofun),by simp,by simp⟩
 |within h h' hne h1 h2=>exact⟨_,_,rfl,by decide+kernel,kX (hn h) (kX (hn h') (kX (.i _ (by omega) (by omega)) nofun)),by simp,by simp⟩
 |apart h h' hne h1 h2 h3=>exact⟨_,_,rfl,by decide+kernel,kX (hn h) (kX (hn h') (kX (.i _ (by omega) (by omega)) (kX (.i _ (by omega) (by omega)) nofun))),by simp,by simp⟩
theorem main(ns:List Int)(h63:ns.length<=63)(hb:∀n∈ns,Builtin.Int.intBits n<=1048576):bb2 [.lst false (ns.map .int)]=.ok (.bl true):=by
 unfold bb2 ba2;obtain⟨ms,hms,ml,mp⟩:=yH ns h63 hb;obtain⟨z,hz,z0⟩:=dr0 ms 0;have d3:gQ z 3:=⟨by decide,by decide⟩;obtain⟨wide,hw,mw⟩:=gO [12,300,5] (i:=z%3) (by omega) (by simp;omega);have wb:5<=wide/\wide<=300:=by simp at mw;omega
 obtain⟨f,hf,g⟩:=dk9 ms wide wb.1 wb.2;have s0:=g.s0;have s1:=g.s1;obtain⟨far,hfar,mfar⟩:=gO [f.first+f.span-f.first,300,3] (i:=z/3%3) (by omega) (by simp;omega);have fb:0<=far/\far<=300:=by simp at mfar;omega
 have zf:=ad6 true f;have zf2:=ad6 false f;have nf:=rR f;have cf:fJ (eV true f)=true:=by simp only[eV,fJ,fS,xE,wT,uG,Bool.and_self]
 have ni:=eJ f.inks;have nr:=eU f.reigns;have zi:=jN true f.inks;have zr:=pJ f.reigns;have ci:=wT f.inks;have cr:=uG f.reigns;have ka:=bb5 g;have ca:=cq7 f;have za:=gN true f;have li:f.inks.length<=100000:=by have:=g.i6;omega
 have hc:∀x0 x1 x2 x3 x4 x6 x7 x8 x9 x10 x11:Option T,cF (eE (aY (aJ 12) (aY (aJ 13) eS))) cT (pH (aD (bG (aB 12)) (aD (bP lR (aD (aB 13) aK)) aK))) [x0,x1,x2,x3,x4,some (.lst false (f.inks.map (dM false))),x6,x7,x8,x9,x10,x11,none,none] (f.inks.map (dM false))=.ok (f.inks.map (dM true)):=λx0 x1 x2 x3 x4 x6 x7 x8 x9 x10 x11=>
  oB λp _=>by simp only[dM];walk_at "ev"
 simp only[List.map_cons,List.map_nil]at hw hfar;have lm:ms.length<=100000:=by omega
 have cm:=bk7 T.int ms (some 1) (some 25);have lc:(gH ms (some 1) (some 25)).length+1<=100000:=by unfold gH;simp only[List.length_take,List.length_drop];omega
 have zr2:=pJ f.reigns;clear mw mfar hb mp;have fm:eV false f=.tup [.int f.first,.int (f.first+f.span),.lst false (f.names.map .str),.lst false (f.inks.map (dM false)),.lst false (f.reigns.map eR)]:=rfl;walk_at "ev";have hfz:frzs (List.map T.int (gH ms (some 1) (some 25))++[T.int 5])=(gH ms (some 1) (some 25)++[5]).map T.int:=by rw[show List.map T.int (gH ms (some 1) (some 25))++[T.int 5]=(gH ms (some 1) (some 25)++[5]).map T.int by rw[List.map_append];rfl];exact wN _
 rw[hfz,if_pos (mJ _)];generalize gH ms (some 1) (some 25)++[5]=qs;clear hfz cm lc hc ka hf hw hz hms;simp only;generalize hL:iI _ _ _ _=o;obtain⟨ρ',rfl,x9,x10,x11,rfl⟩:=pW (λi ρ=>∃x9 x10 x11:Option T,ρ=[some (T.lst true (List.map T.int ms)),some (.tup [.int f.first,.int (f.first+f.span),.lst false (f.names.map .str),.lst false (f.inks.map (dM false)),.lst false (f.reigns.map eR)]),some (.int f.first),some (.int (f.first+f.span)),some (.lst false (f.names.map .str)),some (.lst false (f.inks.map (dM false))),some (.lst false (f.reigns.map eR)),some (bV true f),some (.int far),x9,x10,x11,none,none]) hL ⟨none,none,none,rfl⟩ (by
  rintro i t ρ et ⟨x9,x10,x11,rfl⟩;obtain⟨q,rfl,_⟩:=dt0 et;obtain⟨ws,h1,wd⟩:=bk3 g ((if q<0 then -q else q)/1000) far fb.1 fb.2;obtain⟨w,ps,ew,lw,hp,l2,l4⟩:=ea1 g wd;have q0:0<=(if q<0 then -q else q):=by split<;>omega
  obtain⟨t,ht,o,w',ps',rfl,lw',hp',l6⟩:=cp7 ew lw hp l4 l2 ((if q<0 then -q else q)%1000*7919+(if q<0 then -q else q)/1000) (by omega);have h2:=bp7 g lw' hp' l6;have hw:aR ws=true/\fS ws=true:=by cases wd<;>exact⟨rfl,rfl⟩
  have hw1:=hw.1;have hw2:=hw.2;have zw:=dB ws hw1;have np:=Pts.own hp';have zp:=dB ps' np;have dk:gQ (if q<0 then -q else q) 1000:=⟨by decide,by decide⟩;have mo:mulOk ((if q<0 then -q else q)%1000) 7919:=uS (by decide) (by decide);rw[fm]at h1 h2;have zi2:=jN false f.inks;clear hL et wd hw g fm zf zf2 ew lw hp l2 l4 lw' hp' l6 q0;walk_at "ev";exact⟨_,_,_,rfl⟩)
 obtain⟨n0,hn0,mn0⟩:=tK T.str f.names (i:=0) (by decide) (by have:=g.n1;omega);have k1:=dr9 n0 f.first;have k2:=bp7 g (w:="ink") (ps:=[.str n0,.str "gall",.int 1000000,.int 0]) (by decide+kernel) (kX (.s _ (xn g (g.nn _ mn0.1))) (kX .lit (kX (.i _ (by decide) (by decide)) (kX (.i _ (by decide) (by decide)) nofun)))) (by simp);have p6:(10:Int)^Int.toNat 6=1000000:=rfl;rw[fm]at k2;have zi2:=jN false f.inks;clear hL mn0 g fm zf zf2;walk_at "ev"
end Nk13
namespace PySem.W.Fast
def tw10010583866369019285:=Nat
def tw10029787161002140840:=Nat
def tw1004274398960704212:=Nat
def tw10051208144502540191:=Nat
def tw1005135676426239842:=Nat
def tw10075363253620116153:=Nat
def tw10143063657500829216:=Nat
def tw10143099973264788501:=Nat
def tw10153617549180780642:=Nat
def tw10164849418893595877:=Nat
def tw10168465281763907499:=Nat
def tw10190241738412337560:=Nat
def tw10196459637487909390:=Nat
def tw1019687998806467456:=Nat
def tw10205195987183417923:=Nat
def tw10221741652476543477:=Nat
def tw10274665956249595027:=Nat
def tw10297475935943260767:=Nat
def tw10303728750765873697:=Nat
def tw10313565550778451361:=Nat
def tw10370864912273472027:=Nat
def tw10398859221962042759:=Nat
def tw10398976461665833111:=Nat
def tw10409161218761315828:=Nat
def tw10409789040547621958:=Nat
def tw10416692119550032545:=Nat
def tw10416959136590993431:=Nat
def tw10417234515155420526:=Nat
def tw10491391099438638698:=Nat
def tw10495098711445992405:=Nat
def tw10531885876628838177:=Nat
def tw10540931465836205253:=Nat
def tw10610120889444129980:=Nat
def tw10625413634862880343:=Nat
def tw10631062776860700036:=Nat
def tw10651633510493779708:=Nat
def tw10684938542530077110:=Nat
def tw10697405875121983982:=Nat
def tw10735387848686073349:=Nat
def tw10755466435584397680:=Nat
def tw10773548902428279400:=Nat
def tw10780009466285459863:=Nat
def tw10810380022398197537:=Nat
def tw1082296018646132001:=Nat
def tw10832679340380444127:=Nat
def tw1083378510290326763:=Nat
def tw10968054409756917368:=Nat
def tw10968614522067191105:=Nat
def tw11037717658254207122:=Nat
def tw11090265099910783058:=Nat
def tw11092837782131307110:=Nat
def tw11098589786561551755:=Nat
def tw11105471950040158028:=Nat
def tw11117735489495990884:=Nat
def tw1118530683473657046:=Nat
def tw11200513526729060208:=Nat
def tw11221037348324372786:=Nat
def tw11320619715868446675:=Nat
def tw11337838170686057228:=Nat
def tw11339509269230348694:=Nat
def tw11349802901275919608:=Nat
def tw11424676427038678693:=Nat
def tw11518036773224009712:=Nat
def tw11542933564996172349:=Nat
def tw11547343779926822968:=Nat
def tw11570823424873072504:=Nat
def tw11583400795058463819:=Nat
def tw11588334770379830594:=Nat
def tw11625735945749642326:=Nat
def tw11639881452485614983:=Nat
def tw11645449695956595558:=Nat
def tw11661278748920173348:=Nat
def tw11688548341566348264:=Nat
def tw1171153959007721778:=Nat
def tw11719433350459102091:=Nat
def tw1174758070544343018:=Nat
def tw11748023342441870550:=Nat
def tw11807038002149232882:=Nat
def tw11849666841934322108:=Nat
def tw1188811506672185460:=Nat
def tw11909644381809362429:=Nat
def tw11917557952445965407:=Nat
def tw11956724863957591539:=Nat
def tw11976029482785197924:=Nat
def tw11988282403553274016:=Nat
def tw12004830194938789225:=Nat
def tw12007908593399118045:=Nat
def tw12020173826598399673:=Nat
def tw12024499050710601997:=Nat
def tw12094028255869797976:=Nat
def tw12103858910320678441:=Nat
def tw12123749206951683567:=Nat
def tw12136361225895500925:=Nat
def tw12148005024865294813:=Nat
def tw12160483175896664541:=Nat
def tw12165776443024130843:=Nat
def tw12170777556843098686:=Nat
def tw12209575471588689005:=Nat
def tw12232987075930602511:=Nat
def tw12233447916538774199:=Nat
def tw12241993190286213596:=Nat
def tw12251084666385488006:=Nat
def tw12275695583221004460:=Nat
def tw12279768748230460658:=Nat
def tw12319269975698388929:=Nat
def tw12341936442012502985:=Nat
def tw12348258957418458416:=Nat
def tw12385642381410473794:=Nat
def tw12413844525905574285:=Nat
def tw1241942857493447419:=Nat
def tw12422021426758370283:=Nat
def tw12445810730167687924:=Nat
def tw12470487922724052055:=Nat
def tw12483306548621413804:=Nat
def tw12495016669410449847:=Nat
def tw12500142590289353163:=Nat
def tw12519079755033435170:=Nat
def tw12535559889981294042:=Nat
def tw12543849056790102196:=Nat
def tw12547280604028392793:=Nat
def tw12562033807726185805:=Nat
def tw1259855947182782796:=Nat
def tw12612734339763820106:=Nat
def tw12625938871144317672:=Nat
def tw12645925420814321421:=Nat
def tw12814589913665915143:=Nat
def tw12972518678362546373:=Nat
def tw12978036410615795150:=Nat
def tw13013717143166406710:=Nat
def tw13026098171241824186:=Nat
def tw13028862868555633786:=Nat
def tw13063078916665445568:=Nat
def tw13067356052620763670:=Nat
def tw1308625195588359317:=Nat
def tw13118445064835722341:=Nat
def tw13141809242610126480:=Nat
def tw13152988620948734449:=Nat
def tw1316104037820298945:=Nat
def tw13171134599551037868:=Nat
def tw13187483515666489267:=Nat
def tw13193552159417497554:=Nat
def tw13205889829936022106:=Nat
def tw13218202572892412885:=Nat
def tw13254089407082680190:=Nat
def tw13256906570922648268:=Nat
def tw1334131886733878049:=Nat
def tw13355424525729527935:=Nat
def tw13395226373498844695:=Nat
def tw13406359470037679436:=Nat
def tw13448182111524884009:=Nat
def tw13473064456011713425:=Nat
def tw13475246538228902440:=Nat
def tw13535999247881242736:=Nat
def tw1356190806150538445:=Nat
def tw1356537685080511346:=Nat
def tw13591029184894404449:=Nat
def tw13607324950300056231:=Nat
def tw13607370278043665173:=Nat
def tw13608458916607021884:=Nat
def tw13612451580900915421:=Nat
def tw13637805117601865869:=Nat
def tw13677980143435054628:=Nat
def tw13681919551060990916:=Nat
def tw13683577089504765965:=Nat
def tw13706992422698110495:=Nat
def tw1373351996325174047:=Nat
def tw13780612112620863788:=Nat
def tw13796438537853628945:=Nat
def tw13841604410695591483:=Nat
def tw13861675679223075874:=Nat
def tw13889112751356500191:=Nat
def tw13945250305854270044:=Nat
def tw13950159559304009981:=Nat
def tw13959941312171552316:=Nat
def tw13976452511080136063:=Nat
def tw13983547372054257179:=Nat
def tw13987191832332260458:=Nat
def tw14039117083603760303:=Nat
def tw14119176059330047166:=Nat
def tw14124742430194712154:=Nat
def tw14130775714907574900:=Nat
def tw14165237491389149480:=Nat
def tw14183687809549809546:=Nat
def tw14237430253088940345:=Nat
def tw14293277448778793485:=Nat
def tw14311473827491966567:=Nat
def tw14330628861190644448:=Nat
def tw14368862348482410492:=Nat
def tw14371818995048606998:=Nat
def tw14382615902821210896:=Nat
def tw14392163854522748263:=Nat
def tw14413343895678988122:=Nat
def tw14444108284356865126:=Nat
def tw14467427104641332437:=Nat
def tw14522646812765046155:=Nat
def tw14535674360600285328:=Nat
def tw14538163908110142485:=Nat
def tw14568022674336424365:=Nat
def tw14579955652086339968:=Nat
def tw14582648909838418829:=Nat
def tw14622130598484639864:=Nat
def tw14639758554330240713:=Nat
def tw14677398889180783860:=Nat
def tw14733695027316097914:=Nat
def tw14754949196468772104:=Nat
def tw14787977692084808481:=Nat
def tw14812398069041173793:=Nat
def tw14815146171280617580:=Nat
def tw14846747858942393014:=Nat
def tw14859252493067440499:=Nat
def tw14871123624467328916:=Nat
def tw1488604083061741565:=Nat
def tw14911328387343306915:=Nat
def tw1493115139690786117:=Nat
def tw14948719639091542867:=Nat
def tw14965754930527414737:=Nat
def tw15050448863729067847:=Nat
def tw15081201578735731871:=Nat
def tw15104212945094380083:=Nat
def tw15109371211084916029:=Nat
def tw15142659123786077399:=Nat
def tw1516913450059945257:=Nat
def tw15239037808557045045:=Nat
def tw15269464380014743156:=Nat
def tw15273969433479853473:=Nat
def tw15293191017046725828:=Nat
def tw15334358503347740072:=Nat
def tw15338205929867012169:=Nat
def tw15364280803215719774:=Nat
def tw15375968373038510261:=Nat
def tw15404828041075931627:=Nat
def tw15460788690766808778:=Nat
def tw15493667238171385661:=Nat
def tw15542071760596938815:=Nat
def tw15542391801764928438:=Nat
def tw15571761591714594470:=Nat
def tw15589217934484837737:=Nat
def tw15606722972785618053:=Nat
def tw15609091307692806045:=Nat
def tw15714595913109105532:=Nat
def tw15730935440195874097:=Nat
def tw15789063164991182478:=Nat
def tw1580572358075326971:=Nat
def tw15812946792099930508:=Nat
def tw15818410715624259202:=Nat
def tw15845803507578725756:=Nat
def tw15894344737936252648:=Nat
def tw15913596058190707555:=Nat
def tw15943896377137156062:=Nat
def tw15970998406168805229:=Nat
def tw15971962060070413608:=Nat
def tw15980526026119752118:=Nat
def tw15989296196223809540:=Nat
def tw16005900846244074501:=Nat
def tw16010426652564923127:=Nat
def tw16012006593436896246:=Nat
def tw16017135366160457471:=Nat
def tw16019259764310850494:=Nat
def tw16035135432745311781:=Nat
def tw16045571588863542406:=Nat
def tw16088847425769957902:=Nat
def tw16135829758354252736:=Nat
def tw16154703730307071291:=Nat
def tw16166628305822657889:=Nat
def tw16178882806789431060:=Nat
def tw16183029518655450346:=Nat
def tw16230337214275465310:=Nat
def tw1623097602172259951:=Nat
def tw162574675184763516:=Nat
def tw16271888952800443934:=Nat
def tw16311609567546297327:=Nat
def tw16348903328492527636:=Nat
def tw16353831984905910351:=Nat
def tw16363130089230063168:=Nat
def tw16400042996943368634:=Nat
def tw1644431808898402032:=Nat
def tw16539525605903995202:=Nat
def tw16565188338062867208:=Nat
def tw16576205160954856320:=Nat
def tw1658588152576769710:=Nat
def tw16590279674351469935:=Nat
def tw1659897614190717895:=Nat
def tw16616055491254863132:=Nat
def tw16661146902198265446:=Nat
def tw16688940716193508009:=Nat
def tw16690733274735406170:=Nat
def tw16723220465777003535:=Nat
def tw16737486594509008403:=Nat
def tw1675663582707471514:=Nat
def tw16771279043042674766:=Nat
def tw16782064503885325593:=Nat
def tw16801122320967077878:=Nat
def tw16827349029348412116:=Nat
def tw16829583971938135640:=Nat
def tw16841692024707535488:=Nat
def tw16849707037896593648:=Nat
def tw1685295687568183072:=Nat
def tw16857659165016967704:=Nat
def tw1690653740455311896:=Nat
def tw16921378122176314515:=Nat
def tw1693719137900439240:=Nat
def tw1702816802815198309:=Nat
def tw17028643485359292243:=Nat
def tw17029115951967407348:=Nat
def tw1703282946134810731:=Nat
def tw17054532202418439466:=Nat
def tw17110980668429331984:=Nat
def tw17112172210107221261:=Nat
def tw17113205032616843746:=Nat
def tw17168802868365050437:=Nat
def tw17182613447193394834:=Nat
def tw17185782456241564488:=Nat
def tw17221875038949432197:=Nat
def tw17249325248335804028:=Nat
def tw17261310754007853715:=Nat
def tw172813655601708839:=Nat
def tw1730152006177818328:=Nat
def tw17327938659368977741:=Nat
def tw17358610823614938830:=Nat
def tw17360722824621724467:=Nat
def tw17423832524756480015:=Nat
def tw17451719952956038994:=Nat
def tw17469853378624039635:=Nat
def tw17493678672452959453:=Nat
def tw17505943166993129851:=Nat
def tw1752432116619093216:=Nat
def tw17566928616676772294:=Nat
def tw17614472513526121129:=Nat
def tw17632495285702876297:=Nat
def tw17655125339194145559:=Nat
def tw17662735946127988845:=Nat
def tw17695504656870465153:=Nat
def tw1770019999324576986:=Nat
def tw17734030033348834665:=Nat
def tw17757534851891020678:=Nat
def tw17758664823349383460:=Nat
def tw17767654090923197522:=Nat
def tw17767670502293349942:=Nat
def tw17786461739543621824:=Nat
def tw17829551822387505268:=Nat
def tw17843577097788951308:=Nat
def tw17852774349272885093:=Nat
def tw17888699798075264271:=Nat
def tw17894693148038829509:=Nat
def tw1794657520155348397:=Nat
def tw17954890562362850590:=Nat
def tw17977352541405938134:=Nat
def tw17990124317316068427:=Nat
def tw17995241491292923128:=Nat
def tw1800310568215148759:=Nat
def tw18022267516420923548:=Nat
def tw18025555547328277645:=Nat
def tw18053747432077143112:=Nat
def tw18071904973321601894:=Nat
def tw18124831972632434477:=Nat
def tw18131533774485767738:=Nat
def tw18152668144241768237:=Nat
def tw1820903289055486212:=Nat
def tw18250709722432946996:=Nat
def tw18271688144127703038:=Nat
def tw18288231867409483850:=Nat
def tw1829698339462123833:=Nat
def tw18325744170445427579:=Nat
def tw18366108802961377778:=Nat
def tw18377261740909936639:=Nat
def tw18377489400185105529:=Nat
def tw18377564054063796084:=Nat
def tw18397019526992479962:=Nat
def tw1880761102895899384:=Nat
def tw1964974119374298959:=Nat
def tw1973042000557044039:=Nat
def tw1973203894339351521:=Nat
def tw1978006050938776057:=Nat
def tw2005084312325730939:=Nat
def tw2017788113170462126:=Nat
def tw2022457945520330171:=Nat
def tw2071395376995928744:=Nat
def tw2098473080020635969:=Nat
def tw2106131506297336707:=Nat
def tw2116028950106096018:=Nat
def tw212222207552174069:=Nat
def tw213039912886968538:=Nat
def tw2156571735689412999:=Nat
def tw2158993714859024493:=Nat
def tw2170253344172808525:=Nat
def tw2186407287967278748:=Nat
def tw2287513726095718003:=Nat
def tw2312480406481682278:=Nat
def tw2317464982358175148:=Nat
def tw2319261133067843917:=Nat
def tw2386745746723730212:=Nat
def tw2402610584557145427:=Nat
def tw2416073776566901237:=Nat
def tw2436313762990173098:=Nat
def tw2440154872611415508:=Nat
def tw2482915593677056834:=Nat
def tw2533807830818308961:=Nat
def tw2547119694497161079:=Nat
def tw2553882173926048431:=Nat
def tw2564961581522670870:=Nat
def tw2594765768449502605:=Nat
def tw2600720462740409738:=Nat
def tw2628610830934164292:=Nat
def tw2648113968233910198:=Nat
def tw2654024607637288505:=Nat
def tw2661865258477377623:=Nat
def tw2738067115466585005:=Nat
def tw2765490264034166728:=Nat
def tw277972451798848808:=Nat
def tw2789976151094694930:=Nat
def tw2799274835015714762:=Nat
def tw281386629318780792:=Nat
def tw2852705655612896866:=Nat
def tw2855158472999663822:=Nat
def tw2864950960264164794:=Nat
def tw2881574993860384670:=Nat
def tw2882639692003266245:=Nat
def tw2903725976899026939:=Nat
def tw2938430352208427407:=Nat
def tw2942067256141051064:=Nat
def tw2943771800424100582:=Nat
def tw3011070998582764474:=Nat
def tw3032916939799064934:=Nat
def tw3049929109196928643:=Nat
def tw3059558402979103902:=Nat
def tw3060414662323675186:=Nat
def tw3114743891545043272:=Nat
def tw3157544536877800420:=Nat
def tw319431919267243540:=Nat
def tw32049700177068067:=Nat
def tw3239306783014965872:=Nat
def tw3264581519044226939:=Nat
def tw3279827602251777819:=Nat
def tw3296074417111256600:=Nat
def tw3298223999696097444:=Nat
def tw3308946138195711199:=Nat
def tw3328366519197044414:=Nat
def tw3348051688257086710:=Nat
def tw3355317191234467477:=Nat
def tw3435093835758888847:=Nat
def tw3454439015642195605:=Nat
def tw3476594808694861136:=Nat
def tw3478641963345856765:=Nat
def tw3489959811311835277:=Nat
def tw3566430979797034071:=Nat
def tw3602140492122323404:=Nat
def tw3617849550120956554:=Nat
def tw3629472663385037406:=Nat
def tw3670176915797026225:=Nat
def tw3702011427636115080:=Nat
def tw3741485246639520828:=Nat
def tw374853924010174530:=Nat
def tw3817009061684324524:=Nat
def tw3825339312554478318:=Nat
def tw3828360739626353002:=Nat
def tw3858413666635103872:=Nat
def tw3877439254437613237:=Nat
def tw3880700947983999563:=Nat
def tw395493239558472544:=Nat
def tw3980894246834023225:=Nat
def tw3989417320924489518:=Nat
def tw4012129311032906466:=Nat
def tw411101864573559468:=Nat
def tw4202973429149761076:=Nat
def tw4231351743849026328:=Nat
def tw429678285809613377:=Nat
def tw4308468362255848665:=Nat
def tw4309953583843898851:=Nat
def tw4310002890699098408:=Nat
def tw4316963981210777583:=Nat
def tw4333610629266882067:=Nat
def tw4352279149827548076:=Nat
def tw4437999007039940282:=Nat
def tw4491753480098806468:=Nat
def tw4496286443577161162:=Nat
def tw4563302994539314979:=Nat
def tw4589969515274211848:=Nat
def tw4625254330992258130:=Nat
def tw4644900299655402732:=Nat
def tw4652436147747355598:=Nat
def tw4710016496019891351:=Nat
def tw4715905488486115347:=Nat
def tw472939239294512761:=Nat
def tw4738995280358705507:=Nat
def tw476868338401605761:=Nat
def tw4789775660570296458:=Nat
def tw4806575959879392955:=Nat
def tw4820857973074895812:=Nat
def tw4836699685804987901:=Nat
def tw4856197158208986028:=Nat
def tw4857410736307271416:=Nat
def tw4861726359615994184:=Nat
def tw4873137917642214828:=Nat
def tw4912608908481398568:=Nat
def tw4923177095850604880:=Nat
def tw4934285909999801379:=Nat
def tw4939035904322387677:=Nat
def tw4940008389895981535:=Nat
def tw5002621044436851800:=Nat
def tw5027023737096058531:=Nat
def tw5038867636932750768:=Nat
def tw5041423843703889158:=Nat
def tw5098565280095808902:=Nat
def tw5108581386148183314:=Nat
def tw5116280484201991010:=Nat
def tw5121279386450223256:=Nat
def tw515776538332501661:=Nat
def tw5182974224322249656:=Nat
def tw5188217927450966980:=Nat
def tw5239426109349179699:=Nat
def tw5247372107064234869:=Nat
def tw528105006882344759:=Nat
def tw5351484168249922247:=Nat
def tw5367540836978839778:=Nat
def tw5402943627644570379:=Nat
def tw5407273023878776608:=Nat
def tw5510329150971328487:=Nat
def tw5529037040215322033:=Nat
def tw5563026867982721754:=Nat
def tw5579349654045524839:=Nat
def tw5620094819481758988:=Nat
def tw5674244054266958811:=Nat
def tw5701196899111092440:=Nat
def tw5754056301337878303:=Nat
def tw5755537275120649431:=Nat
def tw5779516984351370820:=Nat
def tw5811240312322268350:=Nat
def tw5815627179995726527:=Nat
def tw5836008151109220556:=Nat
def tw5843462403055518113:=Nat
def tw5847247069282408658:=Nat
def tw5876403682008557641:=Nat
def tw5877205999799671767:=Nat
def tw5943261820383047671:=Nat
def tw5945822437746276945:=Nat
def tw5993653346573951085:=Nat
def tw6023607574824052919:=Nat
def tw6026614267028811527:=Nat
def tw6111697239146254258:=Nat
def tw6134253950115062426:=Nat
def tw615903080193559953:=Nat
def tw6198545070128209663:=Nat
def tw6242686184727370870:=Nat
def tw6268425800399287946:=Nat
def tw6287704481920954453:=Nat
def tw6381844503151182325:=Nat
def tw6403373844658984083:=Nat
def tw6439581121969748825:=Nat
def tw6462359962294472507:=Nat
def tw6536421837271525510:=Nat
def tw6549309125150196533:=Nat
def tw6561363977597849245:=Nat
def tw6602687484587658087:=Nat
def tw6618295409401979223:=Nat
def tw66570649994394593:=Nat
def tw6678850399521661215:=Nat
def tw6721509424286086357:=Nat
def tw6725430156091620639:=Nat
def tw6727894055276200466:=Nat
def tw6737661323530392446:=Nat
def tw6749414977285567812:=Nat
def tw675032641980807011:=Nat
def tw6762087468166157270:=Nat
def tw6766917548832884790:=Nat
def tw6808047291900572402:=Nat
def tw6889816665553155804:=Nat
def tw6969449688811175750:=Nat
def tw6982500665741457182:=Nat
def tw6988446476748159883:=Nat
def tw7002151374145964687:=Nat
def tw7024993995742661867:=Nat
def tw702866342673083813:=Nat
def tw7050190597529576658:=Nat
def tw7110688881071168683:=Nat
def tw7114023807119023070:=Nat
def tw7120262308332790676:=Nat
def tw7133095113897352481:=Nat
def tw7155986959147969335:=Nat
def tw7193760313425224634:=Nat
def tw7194463387925415268:=Nat
def tw7244338087358777057:=Nat
def tw7262359671555164574:=Nat
def tw7268850995485407241:=Nat
def tw7272871722778390768:=Nat
def tw7331966330538578769:=Nat
def tw733270272852763756:=Nat
def tw7335039755139719983:=Nat
def tw7341518839313153294:=Nat
def tw7343690187801563546:=Nat
def tw7361511225063691508:=Nat
def tw7410916734322312517:=Nat
def tw7411082631869486064:=Nat
def tw7426080841937174103:=Nat
def tw7434219281969313483:=Nat
def tw7435299604106902283:=Nat
def tw7438921445624635525:=Nat
def tw7475266971841696301:=Nat
def tw7562031155424269713:=Nat
def tw7601571153395506468:=Nat
def tw7603998957320486843:=Nat
def tw7605982800197049290:=Nat
def tw7623024470084191448:=Nat
def tw7634855055556460316:=Nat
def tw765095312631354168:=Nat
def tw7657068440361154979:=Nat
def tw7662655288476998666:=Nat
def tw7664146766990393544:=Nat
def tw7670995537756541254:=Nat
def tw7679649771226713568:=Nat
def tw7699885838704258793:=Nat
def tw7700308508040393932:=Nat
def tw7730947813351712406:=Nat
def tw7766326027648253678:=Nat
def tw7768974092297294751:=Nat
def tw7778835728406397140:=Nat
def tw7886885421946965634:=Nat
def tw7899803065631767395:=Nat
def tw7902411727524636837:=Nat
def tw7931258556513840937:=Nat
def tw7984864053227989210:=Nat
def tw7986852779237303942:=Nat
def tw7996515414439411395:=Nat
def tw8013826508418584845:=Nat
def tw8038189981910294439:=Nat
def tw8054519013609901194:=Nat
def tw8062049520558802957:=Nat
def tw8097667506808116501:=Nat
def tw8105380013160650179:=Nat
def tw811086314815239457:=Nat
def tw8129018894587080887:=Nat
def tw8129632216448794532:=Nat
def tw8208569341649067025:=Nat
def tw8209940557676559846:=Nat
def tw8220131515581426623:=Nat
def tw8243257417231312284:=Nat
def tw8255959170615734438:=Nat
def tw8267161514555375430:=Nat
def tw8276331655087724297:=Nat
def tw8295211013854220284:=Nat
def tw8364922430693813899:=Nat
def tw8366349731230452828:=Nat
def tw8384517701029010148:=Nat
def tw8406228469067041325:=Nat
def tw8434738362204084969:=Nat
def tw8461564489814417694:=Nat
def tw8508784488491100134:=Nat
def tw8523021500326837076:=Nat
def tw8527589893659307764:=Nat
def tw8593925791846041247:=Nat
def tw8644732654026411869:=Nat
def tw8645742868658032368:=Nat
def tw867460346244804743:=Nat
def tw8710836539443016282:=Nat
def tw8725567769671528814:=Nat
def tw8728665057726254180:=Nat
def tw8740849557944420739:=Nat
def tw8816239289171206267:=Nat
def tw8822825309538592812:=Nat
def tw8838680363781161105:=Nat
def tw8880608187258774122:=Nat
def tw8931096371032161527:=Nat
def tw898014614059364005:=Nat
def tw89928079107849203:=Nat
def tw9008951313024104517:=Nat
def tw9016272066175757772:=Nat
def tw9092222051585023597:=Nat
def tw9115076323935807883:=Nat
def tw9124992810527879816:=Nat
def tw9130797952364715366:=Nat
def tw9150909271040262559:=Nat
def tw9187644070590572411:=Nat
def tw9197323569715388758:=Nat
def tw9205203048133177851:=Nat
def tw9208315803516896021:=Nat
def tw9219484516246866870:=Nat
def tw9255009347980955740:=Nat
def tw9255224897090331328:=Nat
def tw9260495136367167807:=Nat
def tw9461391533942777101:=Nat
def tw950433484270123466:=Nat
def tw9507615183614447955:=Nat
def tw9518881698278253088:=Nat
def tw9542145104319920596:=Nat
def tw9554803593043242966:=Nat
def tw9591232174416723290:=Nat
def tw9621126272741655680:=Nat
def tw9667954617637079055:=Nat
def tw9783861546420822381:=Nat
def tw9867779254104200906:=Nat
def tw9869334872137984461:=Nat
def tw9876766351810654207:=Nat
def tw9909822880857721460:=Nat
def tw9918615619817365203:=Nat
def tw9926635609365851262:=Nat
def tw9972194617705242041:=Nat
end PySem.W.Fast
open PySem PySem.W PyProof.Rows
set_option maxRecDepth 100000 in
set_option maxHeartbeats 0 in
theorem PySem.Challenge.cw_inkyears_k13_sayings_refused_holds : PySem.Challenge.rw_inkyears_k13_sayings_refused.Holds := by
 w_on;o_law;k_head;(case hw=>w_witness2)
 k_fill
 refine L2.ca8 (l:=PySem.Challenge.rw_inkyears_k13_sayings_refused) (k:=7) (x:="_law_script") rfl rfl ⟨rfl,by decide,by decide⟩ (λw h Y=>PySem.W.kIn_of Y) ?F
 case F=>
  intro w mg fa h KX G hmg
  refine' Nk13.dx9 (cn:=λx=>[(("Ink":Str),?c_Ink),(("Reign":Str),?c_Reign),(("Under":Str),?c_Under),(("Between":Str),?c_Between),(("After":Str),?c_After),(("Same":Str),?c_Same),(("Within":Str),?c_Within),(("Apart":Str),?c_Apart),(("Archive":Str),?c_Archive),(("BadArchive":Str),?c_BadArchive),(("BadSaying":Str),?c_BadSaying),(("NoAge":Str),?c_NoAge),(("Stuck":Str),?c_Stuck),(("NoYear":Str),?c_NoYear),(("NoGap":Str),?c_NoGap),(("TooMany":Str),?c_TooMany),(("NoNumber":Str),?c_NoNumber),(("NoDating":Str),?c_NoDating),(("BadRow":Str),?c_BadRow),(("NoRow":Str),?c_NoRow),(("NoName":Str),?c_NoName)].lookup x) (c_Ink:=?c_Ink) (c_Reign:=?c_Reign) (c_Under:=?c_Under) (c_Between:=?c_Between) (c_After:=?c_After) (c_Same:=?c_Same) (c_Within:=?c_Within) (c_Apart:=?c_Apart) (c_Archive:=?c_Archive) (c_BadArchive:=?c_BadArchive) (c_BadSaying:=?c_BadSaying) (c_NoAge:=?c_NoAge) (c_Stuck:=?c_Stuck) (c_NoYear:=?c_NoYear) (c_NoGap:=?c_NoGap) (c_TooMany:=?c_TooMany) (c_NoNumber:=?c_NoNumber) (c_NoDating:=?c_NoDating) (c_BadRow:=?c_BadRow) (c_NoRow:=?c_NoRow) (c_NoName:=?c_NoName) (c_ArchiveError:=?c_ArchiveError) KX G hmg ?a0 ?l0 ?c0 ?k0 ⟨?T0,?T1,?T2,?T3,?T4,?T5,?T6,?T7,?T8,?T9,?T10,?T11,?T12,?T13,?T14,?T15,?T16,?T17,?T18,?T19,?T20,?T21,?T22,?T23,?T24,?T25,?T26,?T27,?T28,?T29,?T30,?T31,?T32,?T33,?T34,?T35,?T36,?T37,?T38,?T39,?T40,?T41,?T42,?T43,?T44,?T45,?T46,?T47,?T48,?T49,?T50,?T51,?T52,?T53,?T54,?T55,?T56,?T57,?T58,?T59,?T60,?T61,?T62,?T63,?T64,?T65,?T66,?T67,?T68,?T69,?T70,?T71,?T72,?T73,?T74,?T75,?T76,?T77,?T78,?T79,?T80,?T81,?T82,?T83,?T84,?T85,?T86,?T87,?T88,?T89,?T90,?T91,?T92,?T93,?T94,?T95,?T96,?T97,?T98,?T99,?T100,?T101,?T102,?T103,?T104,?T105,?T106,?T107,?T108,?T109,?T110,?T111,?T112,?T113,?T114,?T115,?T116,?T117,?T118,?T119,?T120,?T121,?T122,?T123,?T124,?T125,?T126,?T127,?T128,?T129,?T130,?T131,?T132,?T133,?T134,?T135,?T136,?T137,?T138,?T139,?T140,?T141,?T142,?T143,?T144,?T145,?T146,?T147,?T148,?T149,?T150,?T151,?T152,?T153,?T154,?T155,?T156,?T157,?T158,?T159,?T160,?T161,?T162,?T163,?T164,?T165,?T166,?T167,?T168,?T169,?T170,?T171,?T172,?T173,?T174,?t0,?t1,?t2,?t3,?t4,?t5,?t6,?t7,?t8,?t9,?t10,?t11,?t12,?t13,?t14,?t15,?t16,?t17,?t18,?t19,?t20,?t21,?t22,?t23,?t24,?t25,?t26,?t27,?t28,?t29,?t30,?t31,?t32,?t33,?t34,?t35,?t36,?t37,?t38,?t39,?t40,?t41,?t42,?t43,?t44,?t45,?t46,?t47,?t48,?t49,?t50,?t51,?t52,?t53,?t54,?t55,?t56,?t57,?t58,?t59,?t60,?t61,?t62,?t63,?t64,?t65,?t66,?t67,?t68⟩ Nk13.main
  (case a0=>k_is);(case l0=>k_is);(case c0=>k_is);(case k0=>k_is)
  all_goals try(refine' L2.de6 KX G ?a ?l ?c ?k;(case a=>k_is);(case l=>k_is);(case c=>k_is);(case k=>k_is))
  all_goals try(refine' L2.dc2 KX G ?g ?mk ?a ?b ?kc ?l ?c ?k;(case g=>k_is);(case mk=>k_is);(case a=>k_is);(case b=>k_is);(case kc=>k_is);(case l=>k_is);(case c=>k_is);(case k=>k_is))
  all_goals try(refine' L2.dz1 ?a ?b ?l ?c ?k;(case a=>k_is);(case b=>k_is);(case l=>k_is);(case c=>k_is);(case k=>k_is))
  all_goals try exact PySem.W.mg_none_of KX G (by k_is)
  all_goals try(refine' L2.di8 KX G ?a ?r;(case a=>k_is);(case r=>exact⟨_,rfl⟩))
  case t60=>(refine' L2.ao7 KX G ?g ?l ?r ?nd ?sm;(case g=>k_is);(case l=>k_is);(case r=>exact .cons (.cons (.cons (.cons (.cons (.cons (.cons (.cons (.nil)))))))));(case nd=>decide+kernel);(case sm=>rfl))
  case T26=>(refine' L2.ao7 KX G ?g ?l ?r ?nd ?sm;(case g=>k_is);(case l=>k_is);(case r=>exact .cons (.cons (.cons (.cons (.cons (.nil))))));(case nd=>decide+kernel);(case sm=>rfl))
  case T27=>exact .cons (TL.kZ (by k_is) (.int (.int .nil)) (by decide)) (.cons (TL.kZ (by k_is) (.int (.int .nil)) (by decide)) (.cons (TL.kZ (by k_is) (.int (.int .nil)) (by decide)) (.cons (TL.kZ (by k_is) (.int (.int .nil)) (by decide)) (.cons (TL.kZ (by k_is) (.int (.int .nil)) (by decide)) (.nil)))))
  case T28=>(refine' L2.ao7 KX G ?g ?l ?r ?nd ?sm;(case g=>k_is);(case l=>k_is);(case r=>exact .cons (.cons (.cons (.cons (.cons (.cons (.cons (.cons (.nil)))))))));(case nd=>decide+kernel);(case sm=>rfl))
  case T29=>exact .cons (TL.kZ (by k_is) (.str (.str (.str (.str .nil)))) (by decide)) (.cons (TL.kZ (by k_is) (.str (.str (.str .nil))) (by decide)) (.cons (TL.kZ (by k_is) (.str (.str .nil)) (by decide)) (.cons (TL.kZ (by k_is) (.str (.str (.str .nil))) (by decide)) (.cons (TL.kZ (by k_is) (.str (.str .nil)) (by decide)) (.cons (TL.kZ (by k_is) (.str (.str .nil)) (by decide)) (.cons (TL.kZ (by k_is) (.str (.str (.str .nil))) (by decide)) (.cons (TL.kZ (by k_is) (.str (.str (.str (.str .nil)))) (by decide)) (.nil))))))))
  all_goals try exact L2.ez2 KX G (by k_is) rfl
  all_goals try exact L2.dq7 KX G (by k_is)
  all_goals try(refine' L2.df3 KX G ?gl ?eg ?sa ?no ?kc ?ia ?ib ?il ?ic ?ik;(case gl=>k_is);(case eg=>(refine' L2.ac7 ?a ?b ?c ?d ?e ?f ?g ?h;(case a=>with_unfolding_all rfl);(case b=>rfl);(case c=>k_is);(case d=>k_is);(case e=>k_is);(case f=>k_is);(case g=>k_is);(case h=>k_is)));(case sa=>k_is);(case no=>k_is);(case kc=>k_is);(case ia=>k_is);(case ib=>k_is);(case il=>k_is);(case ic=>k_is);(case ik=>k_is))
  all_goals try(refine' L2.di4 KX G ?gl ?eg ?kc ?ex;(case gl=>k_is);(case eg=>(refine' L2.ac7 ?a ?b ?c ?d ?e ?f ?g ?h;(case a=>with_unfolding_all rfl);(case b=>rfl);(case c=>k_is);(case d=>k_is);(case e=>k_is);(case f=>k_is);(case g=>k_is);(case h=>k_is)));(case kc=>k_is);(case ex=>first|with_unfolding_all rfl|k_is))
  all_goals try(refine' L2.dl3 KX G ?gl ?b ?t;(case gl=>k_is);(case b=>k_is);(case t=>k_is))
  case T30=>rfl
  case T32=>rfl
  case T34=>rfl
  case T36=>rfl
  case T38=>rfl
  case T40=>rfl
  case T42=>rfl
  case T44=>rfl
  case T46=>rfl
  case T85=>rfl
  case T88=>rfl
  case T91=>rfl
  case T94=>rfl
  case T97=>rfl
  case T100=>rfl
  case T103=>rfl
  case T106=>rfl
  case T109=>rfl
  case T112=>rfl
  case T115=>rfl
  case T118=>rfl
  all_goals try(refine' L2.ac7 ?a ?b ?c ?d ?e ?f ?g ?h;(case a=>with_unfolding_all rfl);(case b=>rfl);(case c=>k_is);(case d=>k_is);(case e=>k_is);(case f=>k_is);(case g=>k_is);(case h=>k_is))
  all_goals try(refine' L2.dq6 ?a ?b ?c ?d;(case a=>k_is);(case b=>k_is);(case c=>k_is);(case d=>k_is))
  all_goals try exact L2.cq8 (by k_is)
  all_goals try exact L2.ed0 (by k_is)
  all_goals try exact L2.de2 (by rfl)
  all_goals try((iterate 12 refine List.forall_mem_cons.mpr ⟨L2.ds4 (by rfl),?_⟩);exact nofun)
