import PyProof.Rows.All
import Wide.All
import OpenK.AllK
import Wide.FinOn
import Lean
import PyProof.EqAt
import PyProof.EqKinds
import PyProof.TupleCall
import PyProof.NeKinds
import PyProof.ZipIter
import PyProof.EnumMake
import PyProof.Rows.ZipGen
import PyProof.Rows.SetFrom
import PyProof.IsiNone
import KE.KRevSl
import PyProof.Rows.ListMul
import PyProof.ListRange
import PyProof.Rows.SumAny
import PySem.Challenge.RW_inkyears_k53_fewest_false
set_option Elab.async false
set_option compiler.extract_closed false
set_option linter.all false
set_option maxRecDepth 100000
set_option maxHeartbeats 4000000
abbrev A1:=PySem.W.Frag
def A2:=@List.getElem?_eq_getElem
def A3:=@List.mem_append
def A4:=@PySem.wpAny_bind
def A5:=@List.mem_cons_of_mem
def A6:=@List.getD_eq_getElem?_getD
def A7:=@List.mem_cons_self
def A8:=@List.size_toArray
def A9:=@PySem.Heap.get?_push_of_some
def B0:=@absurd
def B5:=@List.length_map
def B6:=@List.mem_append_right
abbrev B7:=PySem.Shared
def B8:=@List.map_cons
def B9:=@List.mem_cons
def C4:=@List.flatten_cons
def C5:=@List.mem_singleton
def C6:=@List.mem_of_getElem?
def C7:=@List.getElem?_eq_some_iff
def C8:=@PySem.Heap.lt_size
def C9:=@List.nodup_append
def D4:=@PySem.wpAny_pure
def D5:=@PySem.Heap.get?_push_size
def D6:=@Nat.le_refl
def D7:=@List.mem_append_left
def D8:=@List.length_cons
def D9:=@PySem.sizeLine_eq
def E1:=@Bool.false_ne_true
def E2:=@decide_eq_false
def E3:=@PySem.PassesOwn.never
def E4:=@List.getElem?_set_ne
def E5:=@if_neg
def E6:=@if_pos
def E7:=@List.length_append
def E8:=@Option.some.inj
def E9:=@List.nodup_cons
def F6:=@Nat.lt_of_lt_of_le
def F7:=@List.getElem?_map
def F8:=@decide_eq_true
abbrev F9:=PySem.Program
def G0:=@List.map_append
def G1:=@Bool.and_eq_true
def G2:=@List.set_cons_zero
def G3:=@List.set_cons_succ
def G4:=@List.nodup_nil
def G5:=@List.map_map
def G6:=@Nat.ne_of_lt
def G7:=@Int.emod_nonneg
def G8:=@List.lookup_cons
def G9:=@beq_eq_false_iff_ne
def H0:=@List.replicate_succ
def J0:=@List.mem_range
def J1:=@Array.length_toList
def J2:=@Nat.le_trans
def J3:=@List.all_eq_true
def J4:=@List.append_assoc
abbrev J5:=PySem.Around
def J6:=@Int.emod_lt_of_pos
def J7:=@Bool.and_self
def J8:=@PySem.F.plainAttrs_list
def J9:=@List.not_mem_nil
def K0:=@Int.toNat_natCast
def K1:=@List.mem_map
def K2:=@List.map_nil
def K3:=@List.append_nil
def K4:=@Option.map_eq_some_iff
def K5:=@List.cons_append
def K6:=@if_true
def K7:=@List.nil_append
def K8:=@PySem.wpAny_truthy_bool
def K9:=@List.getElem_mem
def L3:=@PyProof.Rows.callWith_type1
def L4:=@PySem.wpAny_field
def L5:=@List.length_range
def L6:=@List.getElem?_set_self
def L7:=@Nat.zero_le
def L8:=@Classical.byContradiction
def L9:=@beq_self_eq_true
def M0:=@PySem.F.called_set
def M1:=@List.eq_nil_iff_forall_not_mem
def M2:=@List.getElem?_cons_succ
def M3:=@PySem.Heap.size_push
def M4:=@List.length_take
def M5:=@PySem.wpAny_mono
def M6:=@congrArg
def M7:=@Ne.symm
def M8:=@List.getElem_toArray
def M9:=@PySem.F.type_list_extend
def N0:=@PySem.F.slot_list_extend
def N1:=@Nat.lt_irrefl
def N2:=@List.mem_map_of_mem
def N3:=@PySem.wpAny_newObj_type
def N4:=@Option.bind_eq_some_iff
def N5:=@List.getElem?_cons_zero
def N6:=@List.any_eq_true
def N7:=@List.zip_cons_cons
def N8:=@List.take_of_length_le
def N9:=@PySem.wpAny_seqItems
def O0:=@PySem.wpAny_callSpecial?_slot
def O1:=@if_false
def O2:=@List.mem_filter
def O3:=@List.length_set
def O4:=@Bool.eq_iff_iff
def O5:=@PySem.wpAny_setField_rec
def O6:=@PySem.wpAny_Call_Name_kw
def O7:=@PySem.wpAny_passesOwn
def O8:=@List.mem_of_mem_take
def O9:=@List.getElem?_append_right
def P0:=@List.mem_flatMap
def P1:=@PySem.mem_of_lookup
def P2:=@PyProof.Rows.F.plain_set_update_loop
def P3:=@List.getElem_of_mem
def P4:=@or_false
def P5:=@PySem.W.mg_of
def P6:=@PySem.F.slot_tuple_iterator_next
def P7:=@List.range_succ
def P8:=@List.foldl_cons
def P9:=@Nat.lt_of_le_of_lt
def Q0:=@Bool.false_eq_true
def Q1:=@Nat.zero_add
def Q2:=@List.sublist_cons_self
def Q3:=@Bool.not_false
def Q4:=@PyProof.Rows.slot_tuple_getitem
def Q5:=@beq_iff_eq
def Q6:=@Nat.lt_succ_self
def Q7:=@PySem.wpAny_pyIter_list
def Q8:=@List.forall_mem_cons
def Q9:=@PySem.Heap.get?_update_other
def R0:=@List.getElem?_range
def R1:=@PySem.wpAny_call_entry
def R3:=@PySem.call_meets
def R4:=@Nat.ne_of_gt
def R5:=@Int.zero_add
def R6:=@PySem.wpAny_holding
def R7:=@PySem.W.callWith_K
def R8:=@PySem.codeAny_mono
def R9:=@List.map_take
def S2:=@List.getElem?_take_of_lt
def S3:=@List.all_cons
def S4:=@Nat.min_eq_right
def S5:=@List.getElem?_replicate
def S6:=@List.any_toArray
def S7:=@List.range_succ_eq_map
def S8:=@Nat.min_eq_left
def S9:=@Bool.or_eq_true
def U0:=@List.getElem?_eq_none
def U1:=@List.mem_iff_getElem
def U2:=@List.length_pos_iff
def U3:=@PySem.wpAny_execs_nil
def U4:=@PySem.F.slot_zip_next
def U5:=@Bool.true_and
def U6:=@List.map_replicate
def U7:=@PySem.wpAny_updateSeq_pair
def U8:=@List.length_drop
def U9:=@List.of_mem_zip
def V0:=@List.forIn_cons
def V1:=@Array.getElem?_eq_some_iff
def V2:=@List.getElem?_append_left
def V3:=@List.sublist_append_left
def V4:=@Int.le_trans
def V5:=@Int.le_refl
def V6:=@PySem.wpAny_standAt
def V7:=@List.contains_cons
def V8{p:Prop}(h:p:=by omega):p:=h
def V9{p:Prop}(h:p:=by decide+kernel):p:=h
def W0{p:Prop}(h:p:=by simp):p:=h
def W1{p:Prop}(h:p:=by decide):p:=h
def W2{p:Prop}(h:p:=by walk_at "u"):p:=h
def W3{p:Prop}(h:p:=by with_unfolding_all rfl):p:=h
def W4{p:Prop}(h:p:=by walk_at "s"):p:=h
section
open PySem PySem.Spec PyProof.Rows
namespace L2
abbrev vZ:=Sum Int Str
def dl4:vZ->Value->Bool
 |.inl k,v=>Value.isInt k v
 |.inr x,v=>Value.isStrOf x v
def eq9(w:World):vZ->Int
 |.inl k=>hashInt k
 |.inr x=>hashStr w x
theorem jM:∀{k:vZ}{v:Value},dl4 k v=true->(∃i t,k=Sum.inl i/\v=Value.int i t)\/(∃x t,k=Sum.inr x/\v=Value.str x t)
 |.inl i,v,h=>by obtain⟨t,e⟩:=Value.isInt_shape (k:=i) (v:=v) h;exact .inl ⟨i,t,rfl,e⟩
 |.inr x,v,h=>by obtain⟨t,e⟩:=Value.isStrOf_shape (x:=x) (v:=v) h;exact .inr ⟨x,t,rfl,e⟩
def ej2(a b:Int):decide ((Sum.inl a:vZ)=Sum.inl b)=(a==b):=by
 by_cases e:a=b
 . subst e;simp
 . have h:¬(Sum.inl a:vZ)=Sum.inl b:=λq=>e (Sum.inl.inj q);rw[E2 h];exact(G9.mpr e).symm
def eb5(a b:Str):decide ((Sum.inr a:vZ)=Sum.inr b)=decide (a=b):=by
 by_cases e:a=b
 . subst e;simp
 . have h:¬(Sum.inr a:vZ)=Sum.inr b:=λq=>e (Sum.inr.inj q);rw[E2 h,E2 e]
def en4(a:Int)(b:Str):decide ((Sum.inl a:vZ)=Sum.inr b)=false:=E2 (λq=>nomatch q)
def er3(a:Str)(b:Int):decide ((Sum.inr a:vZ)=Sum.inl b)=false:=E2 (λq=>nomatch q)
def bj1(prog:F9)(w:World):PySem.KeyKind prog w vZ where
 is:=dl4
 hash:=eq9 w
 inj:=λv a b ha hb=>by
  rcases jM ha with⟨i,t,rfl,rfl⟩|⟨x,t,rfl,rfl⟩
  . rcases jM hb with⟨j,u,rfl,e⟩|⟨y,u,rfl,e⟩
    . injection e with e1 _;rw[e1]
    . exact nomatch e
  . rcases jM hb with⟨j,u,rfl,e⟩|⟨y,u,rfl,e⟩
    . exact nomatch e
    . injection e with e1 _;rw[e1]
 byValue:=λk v h=>by
  rcases jM h with⟨i,t,rfl,rfl⟩|⟨x,t,rfl,rfl⟩<;>rfl
 pyHash:=λhv h=>by
  rcases jM hv with⟨i,t,rfl,rfl⟩|⟨x,t,rfl,rfl⟩
  . exact wpAny_pyHash_int h
  . exact wpAny_pyHash_str h
 eqBool:=λhu hv h=>by
  rcases jM hu with⟨i,t,rfl,rfl⟩|⟨x,t,rfl,rfl⟩
  . rcases jM hv with⟨j,u,rfl,rfl⟩|⟨y,u,rfl,rfl⟩
    . rw[ej2]at h;exact wpAny_eqBool_int h
    . rw[en4]at h;exact SeqAt.EqAt.int_str i t y u _ _ _ _ h
  . rcases jM hv with⟨j,u,rfl,rfl⟩|⟨y,u,rfl,rfl⟩
    . rw[er3]at h;exact SeqAt.EqAt.str_int x t j u _ _ _ _ h
    . rw[eb5]at h;exact wpAny_eqBool_str h
 «strs»:=λk x t v h=>by
  rcases jM h with⟨i,u,rfl,e⟩|⟨y,u,rfl,e⟩
  . exact nomatch e
  . injection e with e1 _
    subst e1
    cases v<;>rfl
inductive V where
 |non|bl (b:Bool)|int (i:Int)|str (x:Str)|byt (b:Array UInt8)|flt (b:UInt64)|ref (a:Addr)|ty (n:String)
 deriving DecidableEq
def RelV:V->Value->Prop
 |.non,u=>u=Value.none
 |.bl b,u=>u=Value.bool b
 |.int i,u=>∃t,u=Value.int i t
 |.str x,u=>∃t,u=Value.str x t
 |.byt b,u=>∃t,u=Value.bytes b t
 |.flt b,u=>∃t,u=Value.float b t
 |.ref a,u=>u=Value.ref a
 |.ty n,u=>u=Value.type n
abbrev Vals:List V->List Value->Prop:=Paired RelV
theorem Vals.length(r:Vals xs us):xs.length=us.length:=Paired.length r
theorem Vals.get:∀{xs:List V}{us:List Value}{i:Nat}{x:V},Vals xs us->xs[i]?=some x->∃u,us[i]?=some u/\RelV x u
 |_,_,_,_,.nil,e=>by simp at e
 |_,_,0,_,.cons r _,e=>by simp at e;subst e;exact⟨_,rfl,r⟩
 |_,_,i+1,x,.cons _ t,e=>by obtain⟨u,h1,h2⟩:=Vals.get (i:=i) (x:=x) t (by simpa using e);exact⟨u,by simpa using h1,h2⟩
theorem Vals.set(r:RelV x u):∀{xs:List V}{us:List Value}(i:Nat),Vals xs us->Vals (xs.set i x) (us.set i u)
 |_,_,_,.nil=>.nil
 |_,_,0,.cons _ t=>.cons r t
 |_,_,i+1,.cons q t=>.cons q (Vals.set r i t)
theorem Vals.append:∀{xs ys:List V}{us ws:List Value},Vals xs us->Vals ys ws->Vals (xs++ys) (us++ws)
 |_,_,_,_,.nil,s=>s
 |_,_,_,_,.cons r t,s=>.cons r (Vals.append t s)
theorem Vals.take:∀{xs:List V}{us:List Value}(n:Nat),Vals xs us->Vals (xs.take n) (us.take n)
 |_,_,0,_=>.nil
 |_,_,_+1,.nil=>.nil
 |_,_,n+1,.cons r t=>.cons r (Vals.take n t)
theorem Vals.drop:∀{xs:List V}{us:List Value}(n:Nat),Vals xs us->Vals (xs.drop n) (us.drop n)
 |_,_,0,r=>r
 |_,_,_+1,.nil=>.nil
 |_,_,n+1,.cons _ t=>Vals.drop n t
def RelO:Option V->Option Value->Prop
 |some v,some u=>RelV v u
 |none,none=>True
 |_,_=>False
def KV{κ:Type}:List (κ×V)->List (κ×Value)->Prop:=Paired λ(p:κ×V)(q:κ×Value)=>p.1=q.1/\RelV p.2 q.2
def kV:vZ->V
 |.inl i=>.int i
 |.inr x=>.str x
inductive HO where
 |lst (xs:List V)
 |tup (xs:List V)
 |dK (kvs:List (vZ×V))|dT (kvs:List (List vZ×V))
 |set (S:Int->Bool) (n:Nat)
 |ins (C dx:Addr) (fs:List (Str×V))
 |own (x:Addr)
 |xd (fs:List (Str×V))
 |met (f x:Addr)
 |rng (lo hi:Int)
 |frz (o:Obj) (u:HO)
 |tbl (ps:Array Value)
 |ext (φ:Heap->Prop)
abbrev Hp:=Addr->Option HO
def upd(H:Hp)(a:Addr)(o:HO):Hp:=λb=>if b=a then some o else H b
def fR:upd H a o a=some o:=by unfold upd;rw[E6 rfl]
def cV(h:b≠a):upd H a o b=H b:=by unfold upd;rw[E5 h]
def jK{H:Hp}{a b:Addr}{o:HO}(h:H a=some o)(h':H b=none):a≠b:=by intro e;subst e;rw[h]at h';cases h'
section
variable(P:F9)(w:World)
def ObjOk(H:Hp)(h:Heap)(a:Addr):HO->Prop
 |.lst xs=>xs.length<=sizeLine/\∃(its:List Value)(n:Nat),Vals xs its/\h.get? a=some {cls:=.type "list",data:=.seq its.toArray n}
 |.tup xs=>xs.length<=sizeLine/\∃its:List Value,Vals xs its/\IsTup h a its.toArray
 |.dK kvs=>kvs.length<=sizeLine/\(a==sysModules)=false/\∃vs,KV kvs vs/\h.DictOf (bj1 P w) a vs
 |.dT kvs=>kvs.length<=sizeLine/\(a==sysModules)=false/\∃xs:List (List vZ×Addr×Value),
  Paired (λ(p:List vZ×V)(q:List vZ×Addr×Value)=>p.1=q.1/\H q.2.1=some (.tup (p.1.map kV))/\RelV p.2 q.2.2) kvs xs/\
  ∃o es ep,h.get? a=some o/\o.ExactDict/\o.data=.dict es ep/\es.toList=xs.map (entryOfKey (tupleKind (bj1 P w)))/\(xs.map (·.1)).Nodup
 |.set S n=>h.SetOf (intKind P w) a S n
 |.ins C dx fs=>H dx=some (.own a)/\fs.length<=1000/\dx≠a/\h.get? a=some (PySem.W.instObj C dx)/\
  ∃mA,h.Ns1 dx mA/\(∀f,RelO (fs.lookup f) (mA f))/\PySem.Within mA (fs.map (·.1))
 |.own _=>∃o,h.get? a=some o
 |.xd fs=>∃mA,h.Ns1 a mA/\∀f,RelO (fs.lookup f) (mA f)
 |.rng lo hi=>∃t u v,h.get? a=some {cls:=.type "range",data:=.fields #[.int lo t,.int hi u,.int 1 v]}
 |.frz o u=>h.get? a=some o/\ObjOk H h a u
 |.tbl ps=>h.get? a=some {cls:=.none,data:=.fields ps}
 |.met f x=>h.get? a=some (PySem.W.methodObj (.ref f) (.ref x))
 |.ext φ=>φ h/\(∃o,h.get? a=some o)/\∀h1 h2:Heap,φ h1->(∀o,h1.get? a=some o->h2.get? a=some o)->φ h2
def HOk(H:Hp)(h:Heap):Prop:=∀a o,H a=some o->ObjOk P w H h a o
end
section
variable{P:F9}{w:World}{H H':Hp}{h h':Heap}{a:Addr}{o:HO}
theorem ObjOk.lt(x:ObjOk P w H h a o):a<h.objs.size:=by
 cases o with
 |lst xs=>obtain⟨_,_,_,_,e⟩:=x;exact C8 e
 |tup xs=>obtain⟨_,_,_,p⟩:=x;exact p.lt
 |dK kvs=>obtain⟨_,_,_,_,o,_,_,e,_⟩:=x;exact C8 e
 |dT kvs=>obtain⟨_,_,_,_,o,_,_,e,_⟩:=x;exact C8 e
 |set S n=>obtain⟨o,_,_,_,e,_⟩:=x;exact C8 e
 |ins C dx fs=>obtain⟨_,_,_,e,_⟩:=x;exact C8 e
 |own y=>obtain⟨_,e⟩:=x;exact C8 e
 |xd fs=>obtain⟨_,⟨_,_,_,e,_⟩,_⟩:=x;exact C8 e
 |rng lo hi=>obtain⟨_,_,_,e⟩:=x;exact C8 e
 |frz ob u=>obtain⟨e,_⟩:=x;exact C8 e
 |tbl ps=>exact C8 (show h.get? a=some _ from x)
 |met f y=>exact C8 (show h.get? a=some _ from x)
 |ext φ=>obtain⟨_,⟨_,e⟩,_⟩:=x;exact C8 e
theorem Paired.mapP:∀{l₁:List α}{l₂:List β},Paired F l₁ l₂->(∀a b,F a b->G a b)->Paired G l₁ l₂
 |_,_,.nil,_=>.nil
 |_,_,.cons r t,f=>.cons (f _ _ r) (Paired.mapP t f)
theorem ObjOk.stay(x:ObjOk P w H h a o)(k:∀b u,(b=a\/H b=some (.own a))->h.get? b=some u->h'.get? b=some u)
 (ho:∀b,H b=some (.own a)->H' b=some (.own a))(ht:∀b xs,H b=some (.tup xs)->H' b=some (.tup xs)):ObjOk P w H' h' a o:=by
 induction o with
 |lst xs=>obtain⟨z,its,n,r,e⟩:=x;exact⟨z,its,n,r,k _ _ (.inl rfl) e⟩
 |tup xs=>obtain⟨z,its,r,ob,e,c⟩:=x;exact⟨z,its,r,ob,k _ _ (.inl rfl) e,c⟩
 |dK kvs=>obtain⟨z,y,vs,r,ob,es,ep,e,c⟩:=x;exact⟨z,y,vs,r,ob,es,ep,k _ _ (.inl rfl) e,c⟩
 |dT kvs=>obtain⟨z,y,xs,r,ob,es,ep,e,c⟩:=x;exact⟨z,y,xs,Paired.mapP r λp q z=>⟨z.1,ht _ _ z.2.1,z.2.2⟩,ob,es,ep,k _ _ (.inl rfl) e,c⟩
 |set S n=>obtain⟨ob,es,ep,t,e,c⟩:=x;exact⟨ob,es,ep,t,k _ _ (.inl rfl) e,c⟩
 |ins C dx fs=>obtain⟨d,z,ne,e,mA,⟨od,es,ep,e2,c⟩,r⟩:=x;exact⟨ho _ d,z,ne,k _ _ (.inl rfl) e,mA,⟨od,es,ep,k _ _ (.inr d) e2,c⟩,r⟩
 |own y=>obtain⟨ob,e⟩:=x;exact⟨ob,k _ _ (.inl rfl) e⟩
 |xd fs=>obtain⟨mA,⟨od,es,ep,e,c⟩,r⟩:=x;exact⟨mA,⟨od,es,ep,k _ _ (.inl rfl) e,c⟩,r⟩
 |rng lo hi=>obtain⟨t,u,v,e⟩:=x;exact⟨t,u,v,k _ _ (.inl rfl) e⟩
 |frz ob u ih=>obtain⟨e,q⟩:=x;exact⟨k _ _ (.inl rfl) e,ih q⟩
 |tbl ps=>have e:h.get? a=some {cls:=.none,data:=.fields ps}:=x;show h'.get? a=some {cls:=.none,data:=.fields ps};exact k a _ (.inl rfl) e
 |met f y=>have e:h.get? a=some (PySem.W.methodObj (.ref f) (.ref y)):=x;show h'.get? a=some (PySem.W.methodObj (.ref f) (.ref y));exact k a _ (.inl rfl) e
 |ext φ=>obtain⟨p,⟨o,e⟩,st⟩:=x;exact⟨st _ _ p λo q=>k _ _ (.inl rfl) q,⟨o,k _ _ (.inl rfl) e⟩,st⟩
theorem HOk.lt(x:HOk P w H h)(e:H a=some o):a<h.objs.size:=(x a o e).lt
theorem HOk.fresh(x:HOk P w H h)(e:h.objs.size<=a):H a=none:=by
 cases q:H a with
 |none=>rfl
 |some u=>exact B0 (F6 (x.lt q) e) (N1 _)
theorem HOk.kept(x:HOk P w H h)(k:∀b u,h.get? b=some u->h'.get? b=some u):HOk P w H h':=λa o e=>
 (x a o e).stay (λb u _ q=>k b u q) (λ_ q=>q) λ_ _ q=>q
def HOk.laid(x:HOk P w H h)(k:∀b u,h.get? b=some u->h'.get? b=some u)(hp:h.objs.size<=a)(new:ObjOk P w (upd H a o) h' a o):HOk P w (upd H a o) h':=λb u e=>by
 have hn:=x.fresh hp;by_cases hb:b=a
 . subst hb;rw[fR]at e;cases e;exact new
 . rw[cV hb]at e;exact(x b u e).stay (λc v _ q=>k c v q) (λc q=>by rw[cV (jK q hn)];exact q) λc xs q=>by rw[cV (jK q hn)];exact q
end
def Rd(H:Hp)(a:Addr)(u:HO):Prop:=H a=some u\/∃o,H a=some (.frz o u)
theorem Rd.ok(r:Rd H a u)(x:HOk P w H h):ObjOk P w H h a u:=by
 rcases r with r|⟨o,r⟩
 . exact x a u r
 . obtain⟨_,q⟩:=x a _ r;exact q
def Mut:Option HO->Prop
 |some (.lst _)=>True
 |some (.dK _)=>True
 |some (.dT _)=>True
 |some (.set _ _)=>True
 |some (.ins _ _ _)=>True
 |some (.ext _)=>True
 |_=>False
section
variable{P:F9}{w:World}{H:Hp}{h h':Heap}{x e:Addr}{o':HO}
def HOk.write(ok:HOk P w H h)(mu:Mut (H x))(he:e=x\/H e=some (.own x))(k:∀b u,b≠e->h.get? b=some u->h'.get? b=some u)(heo:∃u,h'.get? e=some u)
 (new:ObjOk P w (upd H x o') h' x o'):HOk P w (upd H x o') h':=λb u q=>by
 have nown:∀c y,H c=some (.own y)->c≠x:=λc y r z=>by subst z;rw[r]at mu;exact mu
 have ntup:∀c xs,H c=some (.tup xs)->c≠x:=λc xs r z=>by subst z;rw[r]at mu;exact mu
 by_cases hb:b=x
 . subst hb;rw[fR]at q;cases q;exact new
 . rw[cV hb]at q;by_cases hbe:b=e
   . have q':H b=some (.own x):=by
      rcases he with z|z
      . exact B0 (hbe.trans z) hb
      . rw[hbe];exact z
     rw[q]at q';cases q';obtain⟨v,hv⟩:=heo;exact⟨v,by rw[hbe];exact hv⟩
   . refine(ok b u q).stay (λc v hc r=>k c v ?_ r) (λc r=>by rw[cV (nown c b r)];exact r) λc xs r=>by rw[cV (ntup c xs r)];exact r
     rcases hc with rfl|hc
     . exact hbe
     . rintro rfl;rcases he with z|z
       . exact nown c b hc z
       . rw[hc]at z;cases z;exact hb rfl
end
structure Un (fs ex:List Addr) (H H':Hp) (h h':Heap):Prop where
 keep:∀b o,h.get? b=some o->H b=none->b∉fs->b∉ex->h'.get? b=some o
 slot:∀b o,h.get? b=some o->H b=none->b∈fs->b∉ex->∃sl,h'.get? b=some {o with slots:=sl}
 free:∀b o,h.get? b=some o->H b=none->b∉ex->H' b=none
 there:∀b o,h.get? b=some o->b∉ex->∃o',h'.get? b=some o'
 tups:∀b xs,H b=some (.tup xs)->H' b=some (.tup xs)
 frzs:∀b o u,H b=some (.frz o u)->H' b=some (.frz o u)
 tbls:∀b ps,H b=some (.tbl ps)->∃more,H' b=some (.tbl (ps++more))
section
variable{fs fs' ex ex':List Addr}{H H1 H2:Hp}{h h1 h2 h':Heap}{a x e:Addr}{o:HO}
def Un.any(u:Un fs ex H H1 h h1)(q:h.get? b=some ob)(n:H b=none)(hx:b∉ex):∃sl,h1.get? b=some {ob with slots:=sl}:=by
 by_cases hb:b∈fs
 . exact u.slot b ob q n hb hx
 . exact⟨ob.slots,u.keep b ob q n hb hx⟩
theorem Un.kept(k:∀b u,h.get? b=some u->h'.get? b=some u):Un fs ex H H h h':=
 ⟨λb ob q _ _ _=>k b ob q,λb ob q _ _ _=>⟨ob.slots,k b ob q⟩,λ_ _ _ n _=>n,λb ob q _=>⟨ob,k b ob q⟩,λ_ _ q=>q,λ_ _ _ q=>q,λ_ ps q=>⟨#[],by rw[q];simp⟩⟩
def Un.refl:Un fs ex H H h h:=Un.kept λ_ _ q=>q
def Un.laid(k:∀b u,h.get? b=some u->h'.get? b=some u)(hp:h.objs.size<=a)(hn:H a=none):Un fs ex H (upd H a o) h h' where
 keep:=λb u q _ _ _=>k b u q
 slot:=λb u q _ _ _=>⟨u.slots,k b u q⟩
 free:=λb u q n _=>by rw[cV (G6 (F6 (C8 q) hp))];exact n
 there:=λb u q _=>⟨u,k b u q⟩
 tups:=λb xs q=>by rw[cV (jK q hn)];exact q
 frzs:=λb u xs q=>by rw[cV (jK q hn)];exact q
 tbls:=λb ps q=>⟨#[],by rw[cV (jK q hn),q];simp⟩
def Un.write(mu:Mut (H x))(he:e=x\/H e=some (.own x))(k:∀b u,b≠e->h.get? b=some u->h'.get? b=some u)(heo:∃u,h'.get? e=some u):Un fs ex H (upd H x o) h h':=by
 have hx:∀b,H b=none->b≠x:=λb n z=>by subst z;rw[n]at mu;exact mu
 have hb:∀b,H b=none->b≠e:=λb n z=>by
  subst z;rcases he with r|r
  . exact hx b n r
  . rw[n]at r;cases r
 have hm:∀b u,H b=some u->¬Mut (some u)->b≠x:=λb u q nm z=>by subst z;rw[q]at mu;exact nm mu
 refine⟨λb u q n _ _=>k b u (hb b n) q,λb u q n _ _=>⟨u.slots,k b u (hb b n) q⟩,λb u q n _=>by rw[cV (hx b n)];exact n,λb u q _=>?_,
  λb xs q=>by rw[cV (hm b _ q λz=>z)];exact q,λb u xs q=>by rw[cV (hm b _ q λz=>z)];exact q,λb ps q=>⟨#[],by rw[cV (hm b _ q λz=>z),q];simp⟩⟩
 by_cases hbe:b=e
 . subst hbe;exact heo
 . exact⟨u,k b u hbe q⟩
end
def trk(h:Heap)(H:Hp):List Addr:=(List.range h.objs.size).filter λa=>(H a).isSome
def ay1(h:Heap)(H:Hp):Heap:=PySem.W.hideAll h (trk h H)
def cw7(h:Heap)(H:Hp):(ay1 h H).objs.size=h.objs.size:=PySem.W.hideAll_size _ _
def de3(e:h.get? b=some o)(n:H b=none):(ay1 h H).get? b=some o:=
 PySem.W.hideAll_get _ e λhm=>by have q:(H b).isSome=true:=(O2.mp hm).2;rw[n]at q;simp at q
theorem dr7(e:(ay1 h H).get? b=some o):h.get? b=some o/\H b=none:=by
 have e':h.get? b=some o:=PySem.W.of_hideAll (trk h H) e;refine⟨e',?_⟩;cases q:H b with
 |none=>rfl
 |some x=>have hm:b∈trk h H:=O2.mpr ⟨J0.mpr (C8 e'),by simp[q]⟩;have z:(ay1 h H).get? b=none:=PySem.W.hideAll_none (trk h H) hm;rw[z]at e;cases e
structure Mod (K:A1) (mg:Str->Option Value) (base:Heap):Prop where
 kin:K.In base
 glob:base.Ns mainGlobals mg
 blt:∃mb,base.Ns builtinsNs mb/\∀x:Str,x≠"__name__"->mb x=bootBuiltins x
 nolimit:base.NoLimit
structure Cx where
 prog:F9
 w:World
 K:A1
 mg:Str->Option Value
 base:Heap
 A:J5
 N:List Str
 s₀:B7
 H₀:Hp
 env:Env
 outer:List Env
 stack:List Env
 ex:List Addr
 fn:Str->Bool
 calm:Bool
 pn:List (Addr×Obj)
 xe:Value->B7->Prop
def zY(l:List Env):List Addr:=l.filterMap (·.frame)
abbrev Cx.fs(X:Cx):List Addr:=zY X.outer
def Vis(sc:Scope)(x:Str):Prop:=sc.names.lookup x=some .local\/sc.names.lookup x=some .cell\/sc.names.lookup x=some .free
def Loc(sc:Scope)(x:Str):Prop:=sc.names.lookup x=some .local\/sc.names.lookup x=some .cell
def fa0(env:Env)(h:Heap)(m:Str->Option Value)(x:Str)(u:Value):Prop:=
 (env.kindOf x=some .local/\m x=some u)\/((env.kindOf x=some .cell\/env.kindOf x=some .free)/\∃c,env.cells.lookup x=some c/\h.IsCell c (some u))
structure Cx.Ok (X:Cx):Prop where
 mod:Mod X.K X.mg X.base
 kind:X.env.scope.kind=.function
 glob:X.env.globals=mainGlobals
 blt:X.env.builtins=builtinsNs
 above:X.s₀.heap.objs.size<=X.env.locals
 inj:∀x y c,X.env.cells.lookup x=some c->X.env.cells.lookup y=some c->x=y
 has:∀x,(X.env.kindOf x=some .cell\/X.env.kindOf x=some .free)->∃c,X.env.cells.lookup x=some c
 cab:∀x c,X.fn x=true->X.env.cells.lookup x=some c->X.s₀.heap.objs.size<=c
 hd:X.calm=true->X.A.handled=none
 frames:X.A.frames=some X.stack
 stk:X.stack=X.outer\/(X.stack=X.env::X.outer/\X.env.frame=some X.env.locals)
 exf:∀b∈X.ex,b≠X.env.locals/\∀x c,X.env.cells.lookup x=some c->c≠b
 bs:∀b o,X.base.get? b=some o->X.s₀.heap.get? b=some o/\X.H₀ b=none
 bsz:X.base.objs.size<=X.s₀.heap.objs.size
 noex:∀b o,X.base.get? b=some o->b∉X.ex
 exfs:∀b∈X.ex,b∉X.fs
 funs:X.s₀.heap.FunFrames X.base X.outer
 frf:∀b∈X.fs,X.H₀ b=none
structure Inv (X:Cx) (pins:List (Addr×Obj)) (σ:List (Option V)) (H:Hp) (s:B7):Prop where
 ok:X.Ok
 os:s.os=X.s₀.os
 bare:AllBare s.gens
 base:Un X.fs X.ex X.H₀ H X.s₀.heap s.heap
 loc:∃m,s.heap.Ns X.env.locals m/\∀(i:Nat)(x:Str)(v:V),X.N[i]?=some x->σ[i]?=some (some v)->Vis X.env.scope x->∃u,RelV v u/\fa0 X.env s.heap m x u
 cell:∀x c,X.env.cells.lookup x=some c->∃v,s.heap.IsCell c v
 free:H X.env.locals=none
 freeC:∀x c,X.env.cells.lookup x=some c->H c=none
 pin:∀p∈X.pn++pins,s.heap.get? p.1=some p.2/\H p.1=none/\p.1≠X.env.locals/\p.1∉X.fs/\∀v,p.2.data≠ .cell v
 hok:HOk X.prog X.w H s.heap
 len:σ.length=X.N.length
section
variable{X:Cx}{pins:List (Addr × Obj)}{σ:List (Option V)}{H H':Hp}{s:B7}{h':Heap}
def Cx.Ok.nofr(ok:X.Ok)(e:X.base.get? b=some o):b∉X.fs:=λhb=>by have:=(ok.funs.mem hb).1;rw[e]at this;cases this
theorem Inv.bs(I:Inv X pins σ H s):∀b o,X.base.get? b=some o->s.heap.get? b=some o/\H b=none:=λb o e=>
 ⟨I.base.keep b o (I.ok.bs b o e).1 (I.ok.bs b o e).2 (I.ok.nofr e) (I.ok.noex b o e),I.base.free b o (I.ok.bs b o e).1 (I.ok.bs b o e).2 (I.ok.noex b o e)⟩
def Inv.bk(I:Inv X pins σ H s):∀b o,X.base.get? b=some o->s.heap.get? b=some o:=λb o e=>(I.bs b o e).1
theorem Inv.mod(I:Inv X pins σ H s):Mod X.K X.mg X.base:=I.ok.mod
def Inv.kIn(I:Inv X pins σ H s):X.K.In s.heap:=I.ok.mod.kin.keeps I.bk
def Inv.fr(I:Inv X pins σ H s):∃m,Fr X.base X.env.locals s.heap m:=
 let⟨m,hn,_⟩:=I.loc
 ⟨m,hn,I.bk,J2 I.ok.bsz I.ok.above⟩
theorem Inv.lt(I:Inv X pins σ H s):X.env.locals<s.heap.objs.size:=let⟨_,hn,_⟩:=I.loc;hn.lt
def Inv.sz(I:Inv X pins σ H s):X.s₀.heap.objs.size<=s.heap.objs.size:=J2 I.ok.above (Nat.le_of_lt I.lt)
def Inv.nofs(I:Inv X pins σ H s)(h:s.heap.objs.size<=a):a∉X.fs:=λhb=>by obtain⟨_,o,ho,_⟩:=I.ok.funs.mem hb;exact B0 (F6 (C8 ho) (J2 I.sz h)) (N1 _)
def Inv.cne(I:Inv X pins σ H s):∀x c,X.env.cells.lookup x=some c->c≠X.env.locals:=λx c e z=>by obtain⟨v,o,ho,hd⟩:=I.cell x c e;obtain⟨m,⟨o',es,ep,ho',hd',_⟩,_⟩:=I.loc;rw[z,ho']at ho;cases ho;rw[hd']at hd;cases hd
theorem Inv.funs(I:Inv X pins σ H s):s.heap.FunFrames X.base X.outer:=by
 have all:∀(l:List Env),(∀b∈zY l,b∈X.fs)->X.s₀.heap.FunFrames X.base l->s.heap.FunFrames X.base l:=by
  intro l;induction l with
  |nil=>intro _ _;trivial
  |cons env r ih=>intro hs hl;obtain⟨hk,⟨L,o,hf,hn,ho,hd⟩,hr⟩:=hl;have hL:L∈X.fs:=hs L (by unfold zY;rw[List.filterMap_cons,hf];exact A7);obtain⟨sl,e⟩:=I.base.slot L o ho (I.ok.frf L hL) hL λz=>I.ok.exfs L z hL;exact⟨hk,⟨L,_,hf,hn,e,hd⟩,ih (λb hb=>hs b (by unfold zY;rw[List.filterMap_cons,hf];exact A5 _ hb)) hr⟩
 exact all X.outer (λ_ hb=>hb) I.ok.funs
theorem Inv.stack(I:Inv X pins σ H s):s.heap.FunFrames X.base X.stack:=by
 rcases I.ok.stk with e|⟨e,hf⟩
 . rw[e];exact I.funs
 . rw[e];obtain⟨m,hn,_⟩:=I.loc;refine .cons (by rw[I.ok.kind];decide) hf hn ?_ I.funs;exact Heap.get?_none_of_le (J2 I.ok.bsz I.ok.above)
def Inv.stkSub(I:Inv X pins σ H s):∀b∈zY X.stack,b∈X.env.locals::X.fs:=λb hb=>by
 rcases I.ok.stk with e|⟨e,hf⟩
 . rw[e]at hb;exact A5 _ hb
 . rw[e]at hb;unfold zY at hb;rw[List.filterMap_cons,hf]at hb;exact hb
def Inv.stkFree(I:Inv X pins σ H s):∀b∈zY X.stack,H b=none:=λb hb=>by
 rcases B9.mp (I.stkSub b hb)with e|hb
 . rw[e];exact I.free
 . obtain⟨_,o,ho,_⟩:=I.ok.funs.mem hb;exact I.base.free b o ho (I.ok.frf b hb) λz=>I.ok.exfs b z hb
def Inv.step{g':Array GenState}{t':Nat}{d':Drawn}{ch:List Addr}(I:Inv X pins σ H s)
 (hch:∀b∈ch,(b∈X.ex\/X.s₀.heap.objs.size<=b)/\b≠X.env.locals/\(∀x c,X.env.cells.lookup x=some c->c≠b)/\∀p∈X.pn++pins,p.1≠b)
 (keep:∀b o,b≠X.env.locals->b∉X.fs->b∉ch->s.heap.get? b=some o->H b=none->h'.get? b=some o)
 (slot:∀b o,b≠X.env.locals->b∈X.fs->b∉ch->s.heap.get? b=some o->H b=none->∃sl,h'.get? b=some {o with slots:=sl})(free:∀b o,b∉ch->s.heap.get? b=some o->H b=none->H' b=none)
 (there:∀b o,b∉ch->s.heap.get? b=some o->∃o',h'.get? b=some o')
 (tups:∀b xs,H b=some (.tup xs)->H' b=some (.tup xs))(frzs:∀b o u,H b=some (.frz o u)->H' b=some (.frz o u))(tbls:∀b ps,H b=some (.tbl ps)->∃more,H' b=some (.tbl (ps++more)))
 (ns:∀m,s.heap.Ns X.env.locals m->h'.Ns X.env.locals m)(hok:HOk X.prog X.w H' h')(hg:AllBare g'):
 Inv X pins σ H' {s with heap:=h',gens:=g',drawn:=d',toks:=t'}:=by
 have neL:∀b o,X.s₀.heap.get? b=some o->b≠X.env.locals:=λb o e=>G6 (F6 (C8 e) I.ok.above);have neC:∀b o,X.s₀.heap.get? b=some o->b∉X.ex->b∉ch:=λb o e hx hb=>by
  rcases(hch b hb).1 with z|z
  . exact hx z
  . exact B0 (F6 (C8 e) z) (N1 _)
 have cellK:∀x c,X.env.cells.lookup x=some c->∀v,s.heap.IsCell c v->h'.IsCell c v:=λx c e v ⟨o,ho,hd⟩=>by
  have nch:c∉ch:=λz=>(hch c z).2.2.1 x c e rfl;by_cases hc:c∈X.fs
  . obtain⟨sl,q⟩:=slot c o (I.cne x c e) hc nch ho (I.freeC x c e);exact⟨_,q,hd⟩
  . exact⟨o,keep c o (I.cne x c e) hc nch ho (I.freeC x c e),hd⟩
 refine⟨I.ok,I.os,hg,⟨λb o e n hb hx=>?_,λb o e n hb hx=>?_,λb o e n hx=>?_,λb o e hx=>?_,λb xs e=>tups b xs (I.base.tups b xs e),λb o xs e=>frzs b o xs (I.base.frzs b o xs e),λb ps e=>?_⟩,?_,λx c e=>?_,?_,λx c e=>?_,λp hp=>?_,hok,I.len⟩
 . exact keep b o (neL b o e) hb (neC b o e hx) (I.base.keep b o e n hb hx) (I.base.free b o e n hx)
 . obtain⟨sl,e1⟩:=I.base.slot b o e n hb hx;obtain⟨sl',e2⟩:=slot b _ (neL b o e) hb (neC b o e hx) e1 (I.base.free b o e n hx);exact⟨sl',e2⟩
 . obtain⟨o',e1⟩:=I.base.there b o e hx;exact free b o' (neC b o e hx) e1 (I.base.free b o e n hx)
 . obtain⟨o',e1⟩:=I.base.there b o e hx;exact there b o' (neC b o e hx) e1
 . obtain⟨m1,e1⟩:=I.base.tbls b ps e;obtain⟨m2,e2⟩:=tbls b _ e1;exact⟨m1++m2,by rw[e2,Array.append_assoc]⟩
 . obtain⟨m,hn,hl⟩:=I.loc;refine⟨m,ns m hn,λi x v e1 e2 e3=>?_⟩;obtain⟨u,r,l⟩:=hl i x v e1 e2 e3;refine⟨u,r,?_⟩;rcases l with l|⟨k,c,e,z⟩
   . exact .inl l
   . exact .inr ⟨k,c,e,cellK x c e _ z⟩
 . obtain⟨v,z⟩:=I.cell x c e;exact⟨v,cellK x c e v z⟩
 . obtain⟨m,⟨o,_,_,ho,_⟩,_⟩:=I.loc;exact free _ o (λz=>(hch _ z).2.1 rfl) ho I.free
 . obtain⟨v,o,ho,hd⟩:=I.cell x c e;exact free c o (λz=>(hch c z).2.2.1 x c e rfl) ho (I.freeC x c e)
 . obtain⟨e,n,ne,nf,d⟩:=I.pin p hp;have nch:p.1∉ch:=λz=>(hch p.1 z).2.2.2 p hp rfl;exact⟨keep p.1 p.2 ne nf nch e n,free p.1 p.2 nch e n,ne,nf,d⟩
def Inv.un{t':Nat}(I:Inv X pins σ H s)(u:Un X.fs [] H H' s.heap h')(hok:HOk X.prog X.w H' h'):Inv X pins σ H' {s with heap:=h',toks:=t'}:=by obtain⟨m,⟨o,es,ep,ho,r⟩,_⟩:=id I.loc;obtain⟨sl,hL⟩:=u.any ho I.free W0;exact I.step (g':=s.gens) (d':=s.drawn) (ch:=[]) (λ_ z=>nomatch z) (λb o _ hb _ e n=>u.keep b o e n hb W0) (λb o _ hb _ e n=>u.slot b o e n hb W0) (λb o _ e n=>u.free b o e n W0) (λb o _ e=>u.there b o e W0) u.tups u.frzs u.tbls (λm' hm=>by obtain⟨o',es',ep',ho',r'⟩:=hm;rw[ho]at ho';cases ho';exact⟨_,es',ep',hL,r'⟩) hok I.bare
def Inv.call{g':Array GenState}{t':Nat}{d':Drawn}{ch:List Addr}(I:Inv X pins σ H s)(u:Un (zY X.stack) ch H H' s.heap h')(hok:HOk X.prog X.w H' h')(hg:AllBare g')
 (hch:∀b∈ch,(b∈X.ex\/X.s₀.heap.objs.size<=b)/\b≠X.env.locals/\(∀x c,X.env.cells.lookup x=some c->c≠b)/\∀p∈X.pn++pins,p.1≠b):
 Inv X pins σ H' {s with heap:=h',gens:=g',drawn:=d',toks:=t'}:=by
 obtain⟨m,⟨o,es,ep,ho,r⟩,_⟩:=id I.loc;obtain⟨sl,hL⟩:=u.any ho I.free λz=>(hch _ z).2.1 rfl;exact I.step (ch:=ch) hch (λb o hL hb hc e n=>u.keep b o e n (λz=>(B9.mp (I.stkSub b z)).elim hL hb) hc) (λb o _ _ hc e n=>u.any e n hc) (λb o hc e n=>u.free b o e n hc) (λb o hc e=>u.there b o e hc) u.tups u.frzs u.tbls (λm' hm=>by obtain⟨o',es',ep',ho',r'⟩:=hm;rw[ho]at ho';cases ho';exact⟨_,es',ep',hL,r'⟩) hok hg
def Inv.turned{t':Nat}{it:Addr}(I:Inv X pins σ H s)(k:∀b o,b≠it->s.heap.get? b=some o->h'.get? b=some o)(hn:H it=none)(hL:it≠X.env.locals)
 (h1:it∈X.ex\/X.s₀.heap.objs.size<=it)(h2:∀x c,X.env.cells.lookup x=some c->c≠it)(h3:∀p∈X.pn++pins,p.1≠it):Inv X pins σ H {s with heap:=h',toks:=t'}:=by
 have nit:∀b u,H b=some u->b≠it:=λb u e z=>by rw[z,hn]at e;cases e
 refine I.step (g':=s.gens) (d':=s.drawn) (ch:=[it]) (λb hb=>?_) (λb o _ _ hc e _=>k b o (λz=>hc (by simp[z])) e) (λb o _ _ hc e _=>⟨o.slots,k b o (λz=>hc (by simp[z])) e⟩) (λ_ _ _ _ n=>n)
  (λb o hc e=>⟨o,k b o (λz=>hc (by simp[z])) e⟩) (λ_ _ e=>e) (λ_ _ _ e=>e) (λb ps e=>⟨#[],by rw[e];simp⟩) (λm hm=>?_) (λb u e=>?_) I.bare
 . have e:b=it:=by simpa using hb
   subst e;exact⟨h1,hL,h2,h3⟩
 . obtain⟨o,es,ep,ho,r⟩:=hm;exact⟨o,es,ep,k _ o (M7 hL) ho,r⟩
 . refine(I.hok b u e).stay (λc v hc q=>k c v ?_ q) (λ_ q=>q) λ_ _ q=>q;rcases hc with z|z
   . rw[z];exact nit b u e
   . exact nit c _ z
def Inv.tok(I:Inv X pins σ H s)(t:Nat):Inv X pins σ H {s with toks:=t}:=I.un (h':=s.heap) (t':=t) Un.refl I.hok
theorem Inv.kept(I:Inv X pins σ H s)(k:∀b u,s.heap.get? b=some u->h'.get? b=some u):Inv X pins σ H {s with heap:=h',toks:=t'}:=I.un (Un.kept k) (I.hok.kept k)
theorem Inv.laid(I:Inv X pins σ H s)(k:∀b u,s.heap.get? b=some u->h'.get? b=some u)(hp:s.heap.objs.size<=a)(new:ObjOk X.prog X.w (upd H a o) h' a o):
 Inv X pins σ (upd H a o) {s with heap:=h',toks:=t'}:=I.un (Un.laid k hp (I.hok.fresh hp)) (I.hok.laid k hp new)
theorem Inv.write(I:Inv X pins σ H s)(mu:Mut (H x))(he:e=x\/H e=some (.own x))(k:∀b u,b≠e->s.heap.get? b=some u->h'.get? b=some u)(heo:∃u,h'.get? e=some u)
 (new:ObjOk X.prog X.w (upd H x o) h' x o):Inv X pins σ (upd H x o) {s with heap:=h',toks:=t'}:=I.un (Un.write mu he k heo) (I.hok.write mu he k heo new)
def Inv.weak(I:Inv X pins σ H s)(hl:σ'.length=σ.length)(w:∀(i:Nat) v,σ'[i]?=some (some v)->σ[i]?=some (some v)):Inv X pins σ' H s:=
 ⟨I.ok,I.os,I.bare,I.base,let⟨m,hn,hl'⟩:=I.loc;⟨m,hn,λi x v e1 e2 e3=>hl' i x v e1 (w i v e2) e3⟩,I.cell,I.free,I.freeC,I.pin,I.hok,hl.trans I.len⟩
def Inv.pins_of(I:Inv X pins σ H s)(h:∀p∈pins',s.heap.get? p.1=some p.2/\H p.1=none/\p.1≠X.env.locals/\p.1∉X.fs/\∀v,p.2.data≠ .cell v):Inv X pins' σ H s:=
 ⟨I.ok,I.os,I.bare,I.base,I.loc,I.cell,I.free,I.freeC,λp hp=>(A3.mp hp).elim (λz=>I.pin p (D7 _ z)) (h p),I.hok,I.len⟩
def be8{N:List Str}(hN:N.Nodup){i j:Nat}{x:Str}(a:N[i]?=some x)(b:N[j]?=some x):i=j:=by obtain⟨h1,e1⟩:=C7.mp a;obtain⟨h2,e2⟩:=C7.mp b;exact(List.getElem_inj hN).mp (e1.trans e2.symm)
def bf3{M:Model}{A:J5}{E:Value->B7->Prop}{i:Nat}{x:Str}{v:V}{u:Value}{Q:Unit->B7->Prop}(I:Inv X pins σ H s)(hN:X.N.Nodup)(hi:X.N[i]?=some x)(hx:Loc X.env.scope x)(r:RelV v u)
 (h:∀s',Inv X pins (σ.set i (some v)) H s'->(∃a,Heap.SameBut a s.heap s'.heap/\(a=X.env.locals\/X.env.cells.lookup x=some a))->Q () s')(hf:X.fn x=true\/X.env.scope.names.lookup x=some .local:=by first|exact .inl rfl|exact .inr rfl|assumption):wpAny M A (storeName X.env x u) Q E s:=by
 obtain⟨m,hn,hl⟩:=id I.loc;have hcls:(X.env.scope.kind==.class||(X.env.scope.kind==.module&&X.env.locals !=X.env.globals))=false:=by rw[I.ok.kind];rfl
 have hiσ:i<σ.length:=by rw[I.len];exact(C7.mp hi).1
 have cne:=I.cne;have tracked:∀{a:Addr}{h':Heap},(∃o,s.heap.get? a=some o/\H a=none)->Heap.SameBut a s.heap h'->HOk X.prog X.w H h':=λ{a h'} ha hs b ob e=>by
  obtain⟨_,_,hfree⟩:=ha;refine(I.hok b ob e).stay (λc w' hc q=>(hs.2 c ?_).trans q) (λ_ q=>q) λ_ _ q=>q;rintro rfl;rcases hc with rfl|hc
  . rw[hfree]at e;cases e
  . rw[hfree]at hc;cases hc
 rcases hx with hk|hk
 . refine wpAny_storeName_local hk hn (λh' hn' hs=>?_) hcls;obtain⟨oL,_,_,hoL,_⟩:=id hn;refine h _ ⟨I.ok,I.os,I.bare,⟨λb o e n hb hx=>?_,λb o e n hb hx=>?_,I.base.free,λb o e hx=>?_,I.base.tups,I.base.frzs,I.base.tbls⟩,⟨_,hn',λj y v' e1 e2 e3=>?_⟩,λy c e=>?_,I.free,I.freeC,λp hp=>?_,tracked ⟨oL,hoL,I.free⟩ hs,by simpa using I.len⟩ ⟨_,hs,.inl rfl⟩
   . exact(hs.2 b (G6 (F6 (C8 e) I.ok.above))).trans (I.base.keep b o e n hb hx)
   . obtain⟨sl,e1⟩:=I.base.slot b o e n hb hx;exact⟨sl,(hs.2 b (G6 (F6 (C8 e) I.ok.above))).trans e1⟩
   . obtain⟨o',e1⟩:=I.base.there b o e hx;exact⟨o',(hs.2 b (G6 (F6 (C8 e) I.ok.above))).trans e1⟩
   . by_cases hj:j=i
     . subst hj;rw[hi]at e1;cases e1;rw[L6 hiσ]at e2;cases e2;exact⟨u,r,.inl ⟨hk,W0⟩⟩
     . rw[E4 (M7 hj)]at e2;obtain⟨u',r',q⟩:=hl j y v' e1 e2 e3;refine⟨u',r',?_⟩;rcases q with⟨k,e⟩|⟨k,c,e,z⟩
       . refine .inl ⟨k,?_⟩;have:y≠x:=λe=>hj (be8 hN e1 (e▸hi));simp[this,e]
       . exact .inr ⟨k,c,e,z.sameBut hs (cne y c e)⟩
   . obtain⟨w',z⟩:=I.cell y c e;exact⟨w',z.sameBut hs (cne y c e)⟩
   . obtain⟨e,n,ne,nf,d⟩:=I.pin p hp;exact⟨(hs.2 p.1 ne).trans e,n,ne,nf,d⟩
 . have hfn:X.fn x=true:=by
    rcases hf with z|z
    . exact z
    . rw[z]at hk;cases hk
   obtain⟨c,hc⟩:=I.ok.has x (.inl hk);obtain⟨w',z⟩:=I.cell x c hc;refine wpAny_storeName_cell I.ok.kind hk hc z (λh' hc' hs=>?_);obtain⟨oc,hoc,hocd⟩:=id z;refine h {s with heap:=h'} ⟨I.ok,I.os,I.bare,⟨λb o e n hb hx=>?_,λb o e n hb hx=>?_,I.base.free,λb o e hx=>?_,I.base.tups,I.base.frzs,I.base.tbls⟩,⟨m,hn.sameBut hs (M7 (cne x c hc)),λj y v' e1 e2 e3=>?_⟩,λy c' e=>?_,I.free,I.freeC,λp hp=>?_,tracked ⟨oc,hoc,I.freeC x c hc⟩ hs,by simpa using I.len⟩ ⟨c,hs,.inr hc⟩
   . exact(hs.2 b (G6 (F6 (C8 e) (I.ok.cab x c hfn hc)))).trans (I.base.keep b o e n hb hx)
   . obtain⟨sl,e1⟩:=I.base.slot b o e n hb hx;exact⟨sl,(hs.2 b (G6 (F6 (C8 e) (I.ok.cab x c hfn hc)))).trans e1⟩
   . obtain⟨o',e1⟩:=I.base.there b o e hx;exact⟨o',(hs.2 b (G6 (F6 (C8 e) (I.ok.cab x c hfn hc)))).trans e1⟩
   . by_cases hj:j=i
     . subst hj;rw[hi]at e1;cases e1;rw[L6 hiσ]at e2;cases e2;exact⟨u,r,.inr ⟨.inl hk,c,hc,hc'⟩⟩
     . rw[E4 (M7 hj)]at e2;obtain⟨u',r',q⟩:=hl j y v' e1 e2 e3;refine⟨u',r',?_⟩;rcases q with q|⟨k,c',e,z'⟩
       . exact .inl q
       . refine .inr ⟨k,c',e,z'.sameBut hs ?_⟩;rintro rfl;exact hj (be8 hN e1 (I.ok.inj _ _ _ e hc▸hi))
   . by_cases hcc:c'=c
     . subst hcc;exact⟨_,hc'⟩
     . obtain⟨w2,z2⟩:=I.cell y c' e;exact⟨w2,z2.sameBut hs hcc⟩
   . obtain⟨e,n,ne,nf,d⟩:=I.pin p hp;refine⟨(hs.2 p.1 ?_).trans e,n,ne,nf,d⟩;intro q;rw[q,hoc]at e;have q':oc=p.2:=E8 e;exact d w' (by rw[<-q'];exact hocd)
def bh7(I:Inv X pins σ H s)(hN:X.N.Nodup)(hi:X.N[i]?=some x)(hx:Loc X.env.scope x)(r:RelV v u)
 (h:∀s',Inv X pins (σ.set i (some v)) H s'->Q () s')(hf:X.fn x=true\/X.env.scope.names.lookup x=some .local:=by first|exact .inl rfl|exact .inr rfl|assumption):wpAny M A (storeName X.env x u) Q E s:=
 bf3 I hN hi hx r (λs' I' _=>h s' I') hf
def Inv.call'(I:Inv X pins σ H s)(ho:s'.os=s.os)(u:Un (zY X.stack) ch H H' s.heap s'.heap)(hok:HOk X.prog X.w H' s'.heap)(hg:AllBare s'.gens)
 (hch:∀b∈ch,(b∈X.ex\/X.s₀.heap.objs.size<=b)/\b≠X.env.locals/\(∀x c,X.env.cells.lookup x=some c->c≠b)/\∀p∈X.pn++pins,p.1≠b):Inv X pins σ H' s':=by
 obtain⟨h',g',d',t',o'⟩:=s';have e:o'=s.os:=ho;subst e;exact I.call (g':=g') (t':=t') (d':=d') u hok hg hch
end
abbrev XK:=Value->Option Addr->Hp->Prop
abbrev St:=List (Option V)
abbrev VK:=V->Hp->Prop
abbrev TE:=St->Hp->VK->Prop
abbrev TT:=St->Hp->(Bool->Hp->Prop)->Prop
abbrev TA:=St->Hp->(List V->Hp->Prop)->Prop
structure as6 where
 nx:St->Hp->Prop
 rt:VK
 bk:St->Hp->Prop:=λ_ _=>False
 ct:St->Hp->Prop:=λ_ _=>False
abbrev TS:=as6->St->Hp->Prop
def EP(X:Cx)(pins:List (Addr×Obj))(σ:St)(Q:VK)(u:Value)(s':B7):Prop:=∃v H',Inv X pins σ H' s'/\RelV v u/\Q v H'
def TP(X:Cx)(pins:List (Addr×Obj))(σ:St)(Q:Bool->Hp->Prop)(b:Bool)(s':B7):Prop:=∃H',Inv X pins σ H' s'/\Q b H'
def AP(X:Cx)(pins:List (Addr×Obj))(σ:St)(Q:List V->Hp->Prop)(us:List Value)(s':B7):Prop:=∃vs H',Inv X pins σ H' s'/\Vals vs us/\Q vs H'
def SP(X:Cx)(pins:List (Addr×Obj))(D:as6)(f:Flow)(s':B7):Prop:=
 match f with
 |.next=>∃σ' H',Inv X pins σ' H' s'/\D.nx σ' H'
 |.brk=>∃σ' H',Inv X pins σ' H' s'/\D.bk σ' H'
 |.cont=>∃σ' H',Inv X pins σ' H' s'/\D.ct σ' H'
 |.ret u=>∃v σ' H',Inv X pins σ' H' s'/\RelV v u/\D.rt v H'
def PE(X:Cx)(e:Expr)(t:TE):Prop:=
 ∀⦃pins:List (Addr×Obj)⦄ (s:B7)(σ:St)(H:Hp)(Q:VK),Inv X pins σ H s->t σ H Q->wpAny (model X.prog X.w) X.A (eval e X.env) (EP X pins σ Q) X.xe s
def PT(X:Cx)(e:Expr)(t:TT):Prop:=
 ∀⦃pins:List (Addr×Obj)⦄ (s:B7)(σ:St)(H:Hp)(Q:Bool->Hp->Prop),Inv X pins σ H s->t σ H Q->wpAny (model X.prog X.w) X.A (isTrue e X.env (eval e X.env)) (TP X pins σ Q) X.xe s
def PW(X:Cx)(e:Expr)(t:TT):Prop:=
 ∀⦃whole:Sem Value⦄ (pins:List (Addr×Obj))(s:B7)(σ:St)(H:Hp)(Q:Bool->Hp->Prop),Inv X pins σ H s->t σ H Q->wpAny (model X.prog X.w) X.A (isTrue e X.env whole) (TP X pins σ Q) X.xe s
def PW.pt(h:PW X e t):PT X e t:=λ_ s σ H Q I q=>h _ s σ H Q I q
def PA(X:Cx)(es:List Expr)(t:TA):Prop:=
 ∀⦃pos:Pos⦄ (pins:List (Addr×Obj))(s:B7)(σ:St)(H:Hp)(Q:List V->Hp->Prop),Inv X pins σ H s->t σ H Q->wpAny (model X.prog X.w) X.A (spliced (backTo pos (starEach es X.env))) (AP X pins σ Q) X.xe s
def PS(X:Cx)(st:Stmt)(t:TS):Prop:=
 ∀⦃pins:List (Addr×Obj)⦄ (s:B7)(σ:St)(H:Hp)(D:as6),Inv X pins σ H s->t D σ H->wpAny (model X.prog X.w) X.A (exec st X.env) (SP X pins D) X.xe s
def PSs(X:Cx)(st:List Stmt)(t:TS):Prop:=
 ∀⦃pins:List (Addr×Obj)⦄ (s:B7)(σ:St)(H:Hp)(D:as6),Inv X pins σ H s->t D σ H->wpAny (model X.prog X.w) X.A (execs st X.env) (SP X pins D) X.xe s
def kU(h:wpAny M A t Q E s)(hQ:∀a s,Q a s->Q' a s):wpAny M A t Q' E s:=M5 h hQ λ_ _ x=>x
section
variable{α:Type}{M:Model}{A:J5}{E:Value->B7->Prop}{s:B7}{X:Cx}{pins:List (Addr × Obj)}{σ:St}
def jH{t:Sem Value}{Q:VK}{Q':Value->B7->Prop}(h:wpAny M A t (EP X pins σ Q) E s)(k:∀v s x H,Inv X pins σ H s->RelV x v->Q x H->Q' v s):wpAny M A t Q' E s:=kU h λ_ _ ⟨_,_,I,r,q⟩=>k _ _ _ _ I r q
def xW{t:Sem (List Value)}{Q:List V->Hp->Prop}{Q':List Value->B7->Prop}(h:wpAny M A t (AP X pins σ Q) E s)(k:∀v s x H,Inv X pins σ H s->Vals x v->Q x H->Q' v s):wpAny M A t Q' E s:=kU h λ_ _ ⟨_,_,I,r,q⟩=>k _ _ _ _ I r q
def thT{t:Sem Bool}{Q:Bool->Hp->Prop}{Q':Bool->B7->Prop}(h:wpAny M A t (TP X pins σ Q) E s)(k:∀b s H,Inv X pins σ H s->Q b H->Q' b s):wpAny M A t Q' E s:=kU h λ_ _ ⟨_,I,q⟩=>k _ _ _ I q
def thH{t:Sem α}{Q:Hp->Prop}{Q':α->B7->Prop}(h:wpAny M A t (λ_ s'=>∃H',Inv X pins σ H' s'/\Q H') E s)(k:∀b s H,Inv X pins σ H s->Q H->Q' b s):wpAny M A t Q' E s:=kU h λ_ _ ⟨_,I,q⟩=>k _ _ _ I q
def thG{t:Sem α}{Q:St->Hp->Prop}{Q':α->B7->Prop}(h:wpAny M A t (λ_ s'=>∃σ' H',Inv X pins σ' H' s'/\Q σ' H') E s)(k:∀b s σ' H,Inv X pins σ' H s->Q σ' H->Q' b s):wpAny M A t Q' E s:=kU h λ_ _ ⟨_,_,I,q⟩=>k _ _ _ _ I q
end
section
variable{X:Cx}
def xI(i:Nat):TE:=λσ H Q=>∃v,σ[i]?=some (some v)/\Q v H
def tC(v:V):TE:=λ_ H Q=>Q v H
def ee0(hN:X.N[i]?=some x)(hv:Vis X.env.scope x)(hd:(x==("__debug__":Str))=false:=by decide)(hcd:(x==("__classdict__":Str))=false:=by decide):PE X (.Name x pos) (xI i):=by
 intro pins s σ H Q I h;obtain⟨v,e,h⟩:=h;obtain⟨m,hn,hl⟩:=I.loc;obtain⟨u,r,l⟩:=hl i x v hN e hv;have bU:EP X pins σ Q u s:=⟨v,H,I,r,h⟩;rcases l with⟨hk,hm⟩|⟨hk,c,hc,hcell⟩
 . exact wpAny_Name (wpAny_loadName_local I.ok.kind hk hn hm bU) hd
 . rcases hk with hk|hk
   . exact wpAny_Name (wpAny_loadName_cell I.ok.kind hk hc hcell bU) hd
   . exact wpAny_Name (wpAny_loadName_free I.ok.kind hk hc hcell bU hcd) hd
def aG{i j pos}:PE X (.Constant (.int i) j pos) (tC (.int i)):=λ_ _ _ H _ I h=>wpAny_Constant_int ⟨.int i,H,I.tok _,⟨_,rfl⟩,h⟩
def fE{b j pos}:PE X (.Constant (.bool b) j pos) (tC (.bl b)):=λ_ _ _ H _ I h=>Constant_bool ⟨.bl b,H,I,rfl,h⟩
def dH{j pos}:PE X (.Constant .none j pos) (tC .non):=λ_ _ _ H _ I h=>Constant_none ⟨.non,H,I,rfl,h⟩
def bV{x j pos}:PE X (.Constant (.str x) j pos) (tC (.str x)):=λ_ _ _ H _ I h=>Calls.Constant_str ⟨.str x,H,I.tok _,⟨_,rfl⟩,h⟩
def Gl(X:Cx)(x:Str):Prop:=X.env.kindOf x=some .globalImplicit
def zX(I:Inv X pins σ H s)(hg:Gl X x)(hm:X.mg x=some u)(h:Q u s)
 (hd:(x==("__debug__":Str))=false:=by decide):wpAny (model X.prog X.w) X.A (eval (.Name x pos) X.env) Q E s:=
 Calls.Name_function_global I.ok.kind hg (Calls.loadGlobal_global (by rw[I.ok.glob];exact I.mod.glob.keeps I.bk) hm h) hd
def tJ(I:Inv X pins σ H s)(hg:Gl X x)(hm:X.mg x=none)(hv:bootBuiltins x=some u)(h:Q u s)
 (hn:x≠"__name__":=by decide)(hd:(x==("__debug__":Str))=false:=by decide):wpAny (model X.prog X.w) X.A (eval (.Name x pos) X.env) Q E s:=by
 obtain⟨mb,h1,h2⟩:=I.mod.blt;exact Calls.Name_function_global I.ok.kind hg (Calls.loadGlobal_builtin (by rw[I.ok.glob];exact I.mod.glob.keeps I.bk) hm (by rw[I.ok.blt];exact h1.keeps I.bk) ((h2 x hn).trans hv) h) hd
def dj6(hg:Gl X x)(hm:X.mg x=some u)(r:RelV v u)(hd:(x==("__debug__":Str))=false:=by decide):PE X (.Name x pos) (tC v):=
 λ_ _ _ H _ I h=>zX I hg hm ⟨v,H,I,r,h⟩ hd
def du7(hg:Gl X x)(hm:X.mg x=none)(hv:bootBuiltins x=some u)(r:RelV v u)(hn:x≠"__name__":=by decide)(hd:(x==("__debug__":Str))=false:=by decide):PE X (.Name x pos) (tC v):=
 λ_ _ _ H _ I h=>tJ I hg hm hv ⟨v,H,I,r,h⟩ hn hd
variable{a b:Expr}{ta tb:TE}{pos:Pos}
def PC(X:Cx)(op:CmpOp)(a b:Expr)(t:TE):Prop:=
 ∀⦃pins:List (Addr×Obj)⦄ (s:B7)(σ:St)(H:Hp)(Q:VK),Inv X pins σ H s->t σ H Q->
  wpAny (model X.prog X.w) X.A (eval a X.env) (λv s₁=>wpAny (model X.prog X.w) X.A (eval b X.env) (λu s₂=>wpAny (model X.prog X.w) X.A (compareOp op v u) (EP X pins σ Q) X.xe s₂) X.xe s₁) X.xe s
def tB(t:TE):TT:=λσ H Q=>t σ H λx H1=>∃c,x=.bl c/\Q c H1
def ek1(h:PC X op a b t)(h1:behindInMarks op b=false:=by first|exact fg0 _ W1 W1|rfl):PT X (.Compare a [op] [b] pos) (tB t):=by intro pins s σ H Q I hw;refine wpAny_isTrue_Compare1 (kU (h s σ H _ I hw) λv s1 h1=>kU h1 λu s2 h2=>jH h2 λc s3 x H1 I1 r1 q1=>?_) h1;obtain⟨d,rfl,q⟩:=q1;cases r1;exact K8 ⟨H1,I1,q⟩
variable{tA tB':TT}{rest:List Expr}
def ej5(t u:TT):TT:=λσ H Q=>t σ H λc H1=>if c=true then u σ H1 Q else Q false H1
def tOr(t u:TT):TT:=λσ H Q=>t σ H λc H1=>if c=true then Q true H1 else u σ H1 Q
def ei2(t:TT):TT:=λσ H Q=>t σ H λc H1=>Q (!c) H1
theorem mJ(ha:PT X a tA):PW X (.BoolOp .And [a] pos) tA:=by
 intro wh pins s σ H Q I h;refine isTrue_and (kU (ha s σ H Q I h) λc s1 e=>?_);cases c with
 |true=>exact isTrue_and_nil e
 |false=>exact e
theorem lI(ha:PT X a tA):PW X (.BoolOp .Or [a] pos) tA:=by
 intro wh pins s σ H Q I h;refine isTrue_or (kU (ha s σ H Q I h) λc s1 e=>?_);cases c with
 |false=>exact isTrue_or_nil e
 |true=>exact e
theorem oU(ha:PT X a tA)(hb:PW X (.BoolOp .And (b::rest) pos) tB'):PW X (.BoolOp .And (a::b::rest) pos) (ej5 tA tB'):=by
 intro wh pins s σ H Q I h;refine isTrue_and (thT (ha s σ H _ I h) λc s1 H1 I1 q1=>?_);cases c with
 |true=>exact hb pins s1 σ H1 Q I1 q1
 |false=>exact⟨H1,I1,q1⟩
theorem jW(ha:PT X a tA)(hb:PW X (.BoolOp .Or (b::rest) pos) tB'):PW X (.BoolOp .Or (a::b::rest) pos) (tOr tA tB'):=by
 intro wh pins s σ H Q I h;refine isTrue_or (thT (ha s σ H _ I h) λc s1 H1 I1 q1=>?_);cases c with
 |true=>exact⟨H1,I1,q1⟩
 |false=>exact hb pins s1 σ H1 Q I1 q1
def dE(ha:PT X a tA):PT X (.UnaryOp .Not a pos) (ei2 tA):=by intro pins s σ H Q I h;exact isTrue_not (ha s σ H (λc H1=>Q (!c) H1) I h)
def dw4(ta tb:TE):TE:=λσ H Q=>ta σ H λx H1=>∃c,x=.bl c/\if c=true then tb σ H1 Q else Q (.bl false) H1
def db5(ta:TE):TE:=λσ H Q=>ta σ H λx H1=>∃c,x=.bl c/\Q (.bl (!c)) H1
def xC{op}(h:PE X a t):PE X (.BoolOp op [a] pos) t:=λpins s σ H Q I hw=>BoolOp_one (h s σ H Q I hw)
theorem xX(ha:PE X a ta)(hb:PE X (.BoolOp .And (b::rest) pos) tb):PE X (.BoolOp .And (a::b::rest) pos) (dw4 ta tb):=by
 intro pins s σ H Q I h;refine BoolOp_and (jH (ha s σ H _ I h) λv s1 x H1 I1 r1 q1=>?_);obtain⟨c,rfl,q1⟩:=q1;cases r1;refine K8 ?_;cases c with
 |true=>exact hb s1 σ H1 Q I1 q1
 |false=>exact⟨.bl false,H1,I1,rfl,q1⟩
def br5(ha:PE X a ta):PE X (.UnaryOp .Not a pos) (db5 ta):=by intro pins s σ H Q I h;refine UnaryOp_ (jH (ha s σ H _ I h) λv s1 x H1 I1 r1 q1=>?_);obtain⟨c,rfl,q1⟩:=q1;cases r1;exact not_of (K8 ⟨.bl (!c),H1,I1,rfl,q1⟩)
def tIf(t:TT)(ta tb:TE):TE:=λσ H Q=>t σ H λc H1=>if c=true then ta σ H1 Q else tb σ H1 Q
theorem tY(hc:PT X c tA)(ha:PE X a ta)(hb:PE X b tb):PE X (.IfExp c a b pos) (tIf tA ta tb):=by
 intro pins s σ H Q I h;refine wpAny_IfExp (thT (hc s σ H _ I h) λd s1 H1 I1 q1=>?_);cases d with
 |true=>exact ha s1 σ H1 Q I1 q1
 |false=>exact hb s1 σ H1 Q I1 q1
end
def SqL(K:A1)(H:Hp)(a:Addr)(xs:List V):Prop:=
 Rd H a (.lst xs)\/
  ∃(o:Obj)(its:Array Value)(n:Nat),K.lookup a=some o/\o.cls=.type "list"/\o.dict=none/\o.data=.seq its n/\its.size<=sizeLine/\Vals xs its.toList
def SqT(K:A1)(H:Hp)(a:Addr)(xs:List V):Prop:=
 Rd H a (.tup xs)\/
  ∃(o:Obj)(its:Array Value)(n:Nat),K.lookup a=some o/\o.cls=.type "tuple"/\o.data=.seq its n/\its.size<=sizeLine/\Vals xs its.toList
def er9:Value->Option V
 |.none=>some .non
 |.bool b=>some (.bl b)
 |.int i _=>some (.int i)
 |.str x _=>some (.str x)
 |.bytes b _=>some (.byt b)
 |.float b _=>some (.flt b)
 |.ref a=>some (.ref a)
 |.type n=>some (.ty n)
 |_=>none
theorem RelV.abs(r:RelV x u):er9 u=some x:=by
 cases x with
 |non=>cases r;rfl
 |bl _=>cases r;rfl
 |int _=>obtain⟨t,rfl⟩:=r;rfl
 |str _=>obtain⟨t,rfl⟩:=r;rfl
 |byt _=>obtain⟨t,rfl⟩:=r;rfl
 |flt _=>obtain⟨t,rfl⟩:=r;rfl
 |ref _=>cases r;rfl
 |ty _=>cases r;rfl
def RelV.inj(r:RelV x u)(q:RelV y u):x=y:=E8 (r.abs.symm.trans q.abs)
theorem Vals.inj:∀{xs ys:List V}{us:List Value},Vals xs us->Vals ys us->xs=ys
 |_,_,_,.nil,.nil=>rfl
 |_,_,_,.cons r t,.cons r' t'=>by rw[r.inj r',Vals.inj t t']
section
variable{X:Cx}{pins:List (Addr × Obj)}{σ:St}{H:Hp}{s:B7}{a:Addr}{xs ys:List V}
def SqL.of{K:A1}(h:H a=some (.lst xs)):SqL K H a xs:=.inl (.inl h)
def SqT.of{K:A1}(h:H a=some (.tup xs)):SqT K H a xs:=.inl (.inl h)
def Inv.list(I:Inv X pins σ H s)(h:SqL X.K H a xs):∃its:List Value,Vals xs its/\PlainL s.heap a its.toArray/\xs.length<=sizeLine:=by
 rcases h with h|⟨o,its,n,hk,hc,hd,hs,hz,r⟩
 . obtain⟨z,its,n,r,e⟩:=h.ok I.hok;exact⟨its,r,⟨_,n,e,rfl,rfl,rfl⟩,z⟩
 . refine⟨its.toList,r,⟨o,n,I.kIn a o hk,hc,hd,by simpa using hs⟩,?_⟩;have e:=r.length;simp only[Array.length_toList]at e;omega
def Inv.tuple(I:Inv X pins σ H s)(h:SqT X.K H a xs):∃its:List Value,Vals xs its/\IsTup s.heap a its.toArray/\xs.length<=sizeLine:=by
 rcases h with h|⟨o,its,n,hk,hc,hs,hz,r⟩
 . obtain⟨z,its,r,p⟩:=h.ok I.hok;exact⟨its,r,p,z⟩
 . refine⟨its.toList,r,⟨o,I.kIn a o hk,hc,n,by simpa using hs⟩,?_⟩;have e:=r.length;simp only[Array.length_toList]at e;omega
def Inv.list_inj(I:Inv X pins σ H s)(h:SqL X.K H a xs)(h':SqL X.K H a ys):xs=ys:=by
 obtain⟨its,r,⟨o,n,e,_,_,d⟩,_⟩:=I.list h;obtain⟨its',r',⟨o',n',e',_,_,d'⟩,_⟩:=I.list h';rw[e]at e';cases e';rw[d]at d';injection d' with d1 _;have:its=its':=by simpa using M6 Array.toList d1
 subst this;exact r.inj r'
def Inv.tuple_inj(I:Inv X pins σ H s)(h:SqT X.K H a xs)(h':SqT X.K H a ys):xs=ys:=by
 obtain⟨its,r,⟨o,e,_,n,d⟩,_⟩:=I.tuple h;obtain⟨its',r',⟨o',e',_,n',d'⟩,_⟩:=I.tuple h';rw[e]at e';cases e';rw[d]at d';injection d' with d1 _;have:its=its':=by simpa using M6 Array.toList d1
 subst this;exact r.inj r'
end
abbrev Cx.wish(X:Cx)(E:Value->B7->Prop):Cx:={X with xe:=E}
abbrev Cx.nox(X:Cx):Cx:=X.wish λ_ _=>False
theorem Cx.Ok.wish{X:Cx}(ok:X.Ok)(E:Value->B7->Prop):(X.wish E).Ok:=
 ⟨ok.mod,ok.kind,ok.glob,ok.blt,ok.above,ok.inj,ok.has,ok.cab,ok.hd,ok.frames,ok.stk,ok.exf,ok.bs,ok.bsz,ok.noex,ok.exfs,ok.funs,ok.frf⟩
def Cx.Ok.unwish{X:Cx}{E:Value->B7->Prop}(ok:(X.wish E).Ok):X.Ok:=
 ⟨ok.mod,ok.kind,ok.glob,ok.blt,ok.above,ok.inj,ok.has,ok.cab,ok.hd,ok.frames,ok.stk,ok.exf,ok.bs,ok.bsz,ok.noex,ok.exfs,ok.funs,ok.frf⟩
section
variable{X:Cx}{pins:List (Addr × Obj)}{σ:St}{H:Hp}{s:B7}{E:Value->B7->Prop}
theorem Inv.wish(I:Inv X pins σ H s)(E:Value->B7->Prop):Inv (X.wish E) pins σ H s:=⟨I.ok.wish E,I.os,I.bare,I.base,I.loc,I.cell,I.free,I.freeC,I.pin,I.hok,I.len⟩
theorem Inv.unwish(I:Inv (X.wish E) pins σ H s):Inv X pins σ H s:=⟨I.ok.unwish,I.os,I.bare,I.base,I.loc,I.cell,I.free,I.freeC,I.pin,I.hok,I.len⟩
theorem SP.unwish(h:SP (X.wish E) pins D f s'):SP X pins D f s':=by
 cases f with
 |next=>obtain⟨σ',H',I,q⟩:=h;exact⟨σ',H',I.unwish,q⟩
 |brk=>obtain⟨σ',H',I,q⟩:=h;exact⟨σ',H',I.unwish,q⟩
 |cont=>obtain⟨σ',H',I,q⟩:=h;exact⟨σ',H',I.unwish,q⟩
 |ret u=>obtain⟨v,σ',H',I,r,q⟩:=h;exact⟨v,σ',H',I.unwish,r,q⟩
theorem PSs.nox{st:List Stmt}{t:TS}(h:PSs X.nox st t):PSs X st t:=λpins s σ H D I hw=>
 M5 (h s σ H D (I.wish _) hw) (λ_ _ q=>q.unwish) λ_ _ z=>False.elim z
end
section
variable{X:Cx}{st:Stmt}{rest:List Stmt}{t u:TS}{e:Expr}{te:TE}{pos:Pos}
def de5:TS:=λD σ H=>D.nx σ H
def er2(t u:TS):TS:=λD σ H=>t {D with nx:=u D} σ H
def bG:PSs X [] de5:=λ_ _ σ H _ I h=>U3 ⟨σ,H,I,h⟩
theorem aJ(h1:PS X st t)(h2:PSs X rest u):PSs X (st::rest) (er2 t u):=by
 intro pins s σ H D I h;refine wpAny_execs_cons (kU (h1 s σ H {D with nx:=u D} I h) λf s1 q=>?_);cases f with
 |next=>obtain⟨σ',H',I',q⟩:=q;exact h2 s1 σ' H' D I' q
 |ret v=>exact q
 |brk=>exact q
 |cont=>exact q
theorem aK(h1:PS X st t):PSs X [st] t:=by
 intro pins s σ H D I h;refine wpAny_execs_cons (kU (h1 s σ H D I h) λf s1 q=>?_);cases f with
 |next=>exact U3 q
 |ret v=>exact q
 |brk=>exact q
 |cont=>exact q
def Inv.quiet(I:Inv X pins σ H s):interactive X.env=false:=by simp[interactive,I.ok.kind]
def bk5(te:TE):TS:=λD σ H=>te σ H λ_ H1=>D.nx σ H1
def dU(he:PE X e te)(hs:swapsWith e none pos.line X.env=pure false:=by rfl):PS X (.Expr e pos) (bk5 te):=by intro pins s σ H D I h;exact wpAny_Expr_any (jH (he s σ H _ I h) λv s1 x H1 I1 r1 q1=>⟨σ,H1,I1,q1⟩) I.quiet hs
def da3(te:TE):TS:=λD σ H=>te σ H D.rt
def aV(he:PE X e te):PS X (.Return (some e) pos) (da3 te):=by intro pins s σ H D I h;exact wpAny_Return_some (jH (he s σ H _ I h) λv s1 x H1 I1 r1 q1=>⟨x,σ,H1,I1,r1,q1⟩)
def eq1(c:TT)(t u:TS):TS:=λD σ H=>c σ H λb H1=>if b=true then t D σ H1 else u D σ H1
theorem bP(hc:PT X c tc)(ha:PSs X a t)(hb:PSs X b u):PS X (.If c a b pos) (eq1 tc t u):=by
 intro pins s σ H D I h;refine wpAny_If (thT (hc s σ H _ I h) λd s1 H1 I1 q1=>?_);cases d with
 |true=>exact ha s1 σ H1 D I1 q1
 |false=>exact hb s1 σ H1 D I1 q1
end
abbrev TG:=V->St->Hp->(St->Hp->Prop)->Prop
abbrev TGs:=List V->St->Hp->(St->Hp->Prop)->Prop
def PG(X:Cx)(target:Expr)(t:TG):Prop:=
 ∀⦃pins:List (Addr×Obj)⦄ (s:B7)(σ:St)(H:Hp)(v:V)(u:Value)(Q:St->Hp->Prop),Inv X pins σ H s->RelV v u->t v σ H Q->
  wpAny (model X.prog X.w) X.A (assign target X.env u) (λ_ s'=>∃σ' H',Inv X pins σ' H' s'/\Q σ' H') X.xe s
def PGs(X:Cx)(ts:List Expr)(t:TGs):Prop:=
 ∀⦃pins:List (Addr×Obj)⦄ (s:B7)(σ:St)(H:Hp)(vs:List V)(us:List Value)(Q:St->Hp->Prop),Inv X pins σ H s->Vals vs us->t vs σ H Q->
  wpAny (model X.prog X.w) X.A (assignInOrder ((assignEach ts X.env).map (·.2)) us) (λ_ s'=>∃σ' H',Inv X pins σ' H' s'/\Q σ' H') X.xe s
abbrev ef5:=V->V->V->Hp->(Hp->Prop)->Prop
def ec3(X:Cx)(t:ef5):Prop:=
 ∀⦃pins:List (Addr×Obj)⦄ (s:B7)(σ:St)(H:Hp)(o i v:V)(ov iv u:Value)(Q:Hp->Prop),Inv X pins σ H s->RelV o ov->RelV i iv->RelV v u->t o i v H Q->
  wpAny (model X.prog X.w) X.A (setItem ov iv u) (λ_ s'=>∃H',Inv X pins σ H' s'/\Q H') X.xe s
section
variable{X:Cx}{pos:Pos}
def yH(i:Nat):TG:=λv σ H Q=>Q (σ.set i (some v)) H
def da8(hN:X.N.Nodup)(hi:X.N[i]?=some x)(hx:Loc X.env.scope x)(hf:X.fn x=true\/X.env.scope.names.lookup x=some .local:=by first|exact .inl rfl|exact .inr rfl|assumption):PG X (.Name x pos) (yH i):=by intro pins s σ H v u Q I r h;exact wpAny_assign_Name (bh7 I hN hi hx r (λs' I'=>⟨_,H,I',h⟩) hf)
def du1:TGs:=λvs σ H Q=>vs=[]/\Q σ H
def av8(t:TG)(u:TGs):TGs:=λvs σ H Q=>∃v r,vs=v::r/\t v σ H λσ' H'=>u r σ' H' Q
def fY:PGs X [] du1:=by intro pins s σ H vs us Q I r h;obtain⟨e,h⟩:=h;subst e;cases r;exact assignInOrder_nil ⟨σ,H,I,h⟩
theorem bK(h1:PG X e t)(h2:PGs X es u)
 (hs:(assignEach (e::es) X.env).map (·.2)=assign e X.env::(assignEach es X.env).map (·.2):=by rfl):PGs X (e::es) (av8 t u):=by
 intro pins s σ H vs us Q I r h;obtain⟨v,vr,e1,h⟩:=h;subst e1;cases r with
 |cons r rr=>rw[hs];refine assignInOrder_cons (thG (h1 s σ H _ _ _ I r h) λ_ s1 σ1 H1 I1 q1=>?_);exact h2 s1 σ1 H1 _ _ Q I1 rr q1
def cz3(K:A1)(n:Nat)(t:TGs):TG:=λv σ H Q=>∃a xs,v=.ref a/\SqT K H a xs/\xs.length=n/\t xs σ H Q
def ef3(hc:X.calm=true)(h:PGs X es t)
 (hn:(assignEach es X.env).length=n:=by rfl)(hst:(assignEach es X.env).findIdx? (·.1)=none:=by rfl):PG X (.Tuple es k pos) (cz3 X.K n t):=by
 intro pins s σ H v u Q I r hw;obtain⟨a,xs,e1,hq,hl,hw⟩:=hw;subst e1;cases r;obtain⟨its,rv,ht,hz⟩:=I.tuple hq;refine assign_Tuple_tuple (I.ok.hd hc) ht (by simp[hn,<-hl,rv.length]) hst λh' hx=>?_;have I1:Inv X pins σ H {s with heap:=h'}:=I.kept (t':=s.toks) λb o e=>hx b o (G6 (C8 e)) e;exact h _ σ H xs _ Q I1 (by simpa using rv) hw
def ea4(to ti:TE)(t:ef5):TG:=λv σ H Q=>to σ H λo H1=>ti σ H1 λi H2=>t o i v H2 λH3=>Q σ H3
def bp6(ho:PE X o to)(hi:PE X i ti)(hs:ec3 X t)
 (ha:∀v,assign (.Subscript o i pos) X.env v=(do
  let ov<-holding [v] (eval o X.env);let iv<-holding [v,ov] (eval i X.env)
  standAt pos
  holding [v,ov,iv] (setItem ov iv v)
  release [v,ov,iv] []):=by intro _;rfl):PG X (.Subscript o i pos) (ea4 to ti t):=by
 intro pins s σ H v u Q I r h;rw[ha];refine A4 (R6 (jH (ho s σ H _ I h) λov s1 x H1 I1 r1 q1=>?_));refine A4 (R6 (jH (hi s1 σ H1 _ I1 q1) λiv s2 y H2 I2 r2 q2=>?_));refine A4 (V6 (A4 (R6 (thH (hs s2 σ H2 x y v ov iv u _ I2 r1 r2 r q2) λ_ s3 H3 I3 q3=>?_))));exact wpAny_release ⟨σ,H3,I3,q3⟩
def be0(te:TE)(g:TG):TS:=λD σ H=>te σ H λx H1=>g x σ H1 D.nx
def ap0(he:PE X e te)(hg:PG X tg g)(hs:swapsWithSole [tg] e pos.line X.env=pure false:=by rfl)(hw:swappedStores [tg] e X.env=pure none:=by rfl)
 (h1:(assignEach [tg] X.env).map (·.2)=[assign tg X.env]:=by rfl):PS X (.Assign [tg] e pos) (be0 te g):=by
 intro pins s σ H D I h;refine wpAny_Assign_stores (jH (he s σ H _ I h) λv s1 x H1 I1 r1 q1=>?_) hs hw;rw[h1];exact kU (hg s1 σ H1 x v _ I1 r1 q1) λ_ s2 q=>q
def ea0(hN:X.N.Nodup)(hi:X.N[i]?=some x)(hx:Loc X.env.scope x)(he:PE X e te)(hs:swapsWith e (some (.Name x pos')) pos.line X.env=pure false:=by rfl)(hf:X.fn x=true\/X.env.scope.names.lookup x=some .local:=by first|exact .inl rfl|exact .inr rfl|assumption):
 PS X (.Assign [.Name x pos'] e pos) (be0 te (yH i)):=by
 intro pins s σ H D I h;refine wpAny_Assign_Name (jH (he s σ H _ I h) λv s1 y H1 I1 r1 q1=>?_) hs;exact bh7 I1 hN hi hx r1 (λs2 I2=>⟨_,H1,I2,q1⟩) hf
end
section
variable{X:Cx}{pos:Pos}
def ct5(c:TT)(tb:TS):TS:=λD σ H=>∃W:Nat->St->Hp->Prop,(∃m,W m σ H)/\∀m σ H,W m σ H->
 c σ H λb H1=>if b=true then∃N:St->Hp->Prop,(∀σ' H',N σ' H'->∃m',m'<m/\W m' σ' H')/\tb {D with nx:=N,ct:=N,bk:=D.nx} σ H1 else D.nx σ H1
theorem cr9(hp:PassesOwn (model X.prog X.w) X.A X.env X.xe)(hc:PT X c tc)(hb:PSs X body tb):PS X (.While c body [] pos) (ct5 tc tb):=by
 intro pins s σ H D I h;obtain⟨W,⟨m0,w0⟩,turn⟩:=h;refine wpAny_While (codeAny_whileLoop (λn s'=>∃σ' H',Inv X pins σ' H' s'/\W n σ' H') ?_ m0 ⟨σ,H,I,w0⟩);rintro n s1 ⟨σ1,H1,I1,w1⟩;refine O7 hp (thT (hc s1 σ1 H1 _ I1 (turn n σ1 H1 w1)) λb s2 H2 I2 q2=>?_);cases b with
 |true=>
  obtain⟨N,hN,q2⟩:=q2;rw[E6 rfl];refine O7 hp (kU (hb s2 σ1 H2 _ I2 q2) λf s3 q3=>?_);cases f with
  |next=>obtain⟨σ3,H3,I3,n3⟩:=q3;obtain⟨m',hm,w3⟩:=hN σ3 H3 n3;exact⟨m',hm,σ3,H3,I3,w3⟩
  |cont=>obtain⟨σ3,H3,I3,n3⟩:=q3;obtain⟨m',hm,w3⟩:=hN σ3 H3 n3;exact⟨m',hm,σ3,H3,I3,w3⟩
  |brk=>exact q3
  |ret v=>exact q3
 |false=>rw[E5 E1];exact U3 ⟨σ1,H2,I2,q2⟩
end
structure It where
 go:Nat->Hp->Prop
 yld:Nat->Hp->V->Hp->Prop
 stop:Nat->Hp->Prop
def uD(X:Cx)(pins:List (Addr×Obj))(H:Hp)(b:Addr):Prop:=
 H b=none/\b≠X.env.locals/\b∉X.fs/\(b∈X.ex\/X.s₀.heap.objs.size<=b)/\(∀x c,X.env.cells.lookup x=some c->c≠b)/\∀p∈X.pn++pins,p.1≠b
def Inv.fpOk(I:Inv X pins σ H s)(hb:s.heap.objs.size<=b)(hn:H' b=none):uD X pins H' b:=by
 refine⟨hn,R4 (F6 I.lt hb),I.nofs hb,.inr (J2 I.sz hb),λx c e z=>?_,λp hp z=>?_⟩
 . obtain⟨v,q⟩:=I.cell x c e;exact B0 (F6 q.lt (by rw[z];exact hb)) (N1 _)
 . exact B0 (F6 (C8 (I.pin p hp).1) (by rw[z];exact hb)) (N1 _)
structure am3 (P:F9) (w:World) (K:A1) (tg:Expr) (J:It) (fp:List Addr) (it:Addr) (tn:Nat->Heap->Prop):Prop where
 mem:it∈fp
 obj:∀i h,tn i h->∀b∈fp,∃o,h.get? b=some o/\∀v,o.data≠ .cell v
 keep:∀i h h',tn i h->(∀b∈fp,∀o,h.get? b=some o->h'.get? b=some o)->tn i h'
 item:∀(X:Cx),X.prog=P->X.w=w->X.K=K->X.calm=true->∀(i:Nat)(pins:List (Addr×Obj))(s:B7)(σ:St)(H:Hp)(E:Value->B7->Prop),Inv X pins σ H s->(∀b∈fp,uD X pins H b)->tn i s.heap->J.go i H->
  wpAny (model P w) X.A (pyNext (.ref it)) (λr s1=>∃u,r=some u/\
   wpAny (model P w) X.A (letOwnedTupleGo tg (.ref it) u) (λ_ s2=>∃x H',Inv X pins σ H' s2/\RelV x u/\J.yld i H x H'/\tn (i+1) s2.heap/\∀b∈fp,H' b=none) E s1) E s
 done:∀(X:Cx),X.prog=P->X.w=w->X.K=K->X.calm=true->∀(i:Nat)(pins:List (Addr×Obj))(s:B7)(σ:St)(H:Hp)(E:Value->B7->Prop),Inv X pins σ H s->(∀b∈fp,uD X pins H b)->tn i s.heap->J.stop i H->
  wpAny (model P w) X.A (pyNext (.ref it)) (λr s1=>r=none/\Inv X pins σ H s1) E s
 self:∀(A:J5)(i:Nat)(s:B7)(Q:Value->B7->Prop)(E:Value->B7->Prop),tn i s.heap->Q (.ref it) s->wpAny (model P w) A (pyIter (.ref it)) Q E s
abbrev TI:=St->Hp->(It->Hp->Prop)->Prop
def PIE(X:Cx)(pins:List (Addr×Obj))(σ:St)(tg:Expr)(R:It->Hp->Prop)(itv:Value)(s2:B7):Prop:=
 ∃(it:Addr)(fp:List Addr)(tn:Nat->Heap->Prop)(J:It)(H':Hp),itv=.ref it/\Inv X pins σ H' s2/\am3 X.prog X.w X.K tg J fp it tn/\tn 0 s2.heap/\(∀b∈fp,uD X pins H' b)/\R J H'
def PI(X:Cx)(tg iter:Expr)(wi:TI):Prop:=
 ∀⦃pins:List (Addr×Obj)⦄ (s:B7)(σ:St)(H:Hp)(R:It->Hp->Prop),Inv X pins σ H s->wi σ H R->
  wpAny (model X.prog X.w) X.A (eval iter X.env) (λv s1=>wpAny (model X.prog X.w) X.A (pyIter v) (PIE X pins σ tg R) X.xe s1) X.xe s
def cc4 (ho : s.heap.get? it = some o) (hc : o.cls = .type n) (hd : o.data = .fields vs)
    (hn : ["enumerate", "zip", "dict_itemiterator", "dict_reverseitemiterator", "odict_iterator", "itertools.zip_longest", "itertools.pairwise"].contains n = false) (hQ : Q () s) : wpAny M A (letOwnedTupleGo tg (.ref it) u) Q E s := by
  unfold letOwnedTupleGo
  cases tg <;> first
    | exact D4 hQ
    | (cases u <;> first
        | exact D4 hQ
        | (refine A4 (wpAny_load ho ?_)
           rw [hc, hd]
           show wpAny M A (if (["enumerate", "zip", "dict_itemiterator", "dict_reverseitemiterator", "odict_iterator", "itertools.zip_longest", "itertools.pairwise"].contains n && vs[0]? == some (rawInt _)) = true then _ else _) Q E s
           rw [E5 (by intro h; rw [hn, Bool.false_and] at h; cases h)]
           exact D4 hQ))
def Itl(K:A1)(a:Addr):It:=
 ⟨λi H=>∃xs x,SqL K H a xs/\xs[i]?=some x,λi H x H'=>H'=H/\∀xs,SqL K H a xs->xs[i]?=some x,λi H=>∃xs,SqL K H a xs/\xs.length<=i⟩
def Itt(K:A1)(a:Addr):It:=
 ⟨λi H=>∃xs x,SqT K H a xs/\xs[i]?=some x,λi H x H'=>H'=H/\∀xs,SqT K H a xs->xs[i]?=some x,λi H=>∃xs,SqT K H a xs/\xs.length<=i⟩
def Itr(lo:Int)(n:Nat):It:=⟨λi _=>i<n,λi H x H'=>H'=H/\x=.int (lo+i),λi _=>n<=i⟩
def cr5{P:F9}{w:World}{K:A1}{tg:Expr}(a it:Addr):am3 P w K tg (Itl K a) [it] it (λi h=>h.IsListIter it a i) where
 mem:=W0
 obj:=λi h st b hb=>by
  have e:b=it:=by simpa using hb
  subst e;obtain⟨o,e,c,d⟩:=st;exact⟨o,e,λv z=>by rw[d]at z;cases z⟩
 keep:=λi h h' st k=>st.at λo e=>k it W0 o e
 item:=by intro X hP hw hK hc i pins s σ H E I hf st hg;subst hP hw hK;obtain⟨xs,x,hq,hx⟩:=hg;obtain⟨its,rv,p,hz⟩:=I.list hq;obtain⟨u,hu,ru⟩:=rv.get hx;obtain⟨f0,f1,f2,f3,f4,f5⟩:=hf it W0;refine wpAny_pyNext_list_item st p.isList (x:=u) (by simpa using hu) λh' st' sb=>?_;have I1:Inv X pins σ H {s with heap:=h'}:=I.turned (t':=s.toks) (λb o hb e=>(sb.2 b hb).trans e) f0 f1 f3 f4 f5;obtain⟨o,e,c,d⟩:=id st';exact⟨u,rfl,cc4 (s:={s with heap:=h'}) e c d W1 ⟨x,H,I1,ru,⟨rfl,λys hy=>by rw[I.list_inj hy hq];exact hx⟩,st',λb hb=>(hf b hb).1⟩⟩
 done:=by intro X hP hw hK hc i pins s σ H E I hf st hg;subst hP hw hK;obtain⟨xs,hq,hx⟩:=hg;obtain⟨its,rv,p,hz⟩:=I.list hq;obtain⟨f0,f1,f2,f3,f4,f5⟩:=hf it W0;have hl:=rv.length;exact wpAny_pyNext_list_end (I.ok.hd hc) st p.isList (by simp;omega) λh' eb=>⟨rfl,I.turned (t':=s.toks) (λb o hb e=>eb b o hb e) f0 f1 f3 f4 f5⟩
 self:=λ_ _ _ _ _ st h=>wpAny_pyIter_listiter st h
def cq3{P:F9}{w:World}{K:A1}{tg:Expr}(a it:Addr):am3 P w K tg (Itt K a) [it] it (λi h=>h.IsTupleIter it a i) where
 mem:=W0
 obj:=λi h st b hb=>by
  have e:b=it:=by simpa using hb
  subst e;obtain⟨o,e,c,d⟩:=st;exact⟨o,e,λv z=>by rw[d]at z;cases z⟩
 keep:=λi h h' st k=>st.at λo e=>k it W0 o e
 item:=by intro X hP hw hK hc i pins s σ H E I hf st hg;subst hP hw hK;obtain⟨xs,x,hq,hx⟩:=hg;obtain⟨its,rv,p,hz⟩:=I.tuple hq;obtain⟨u,hu,ru⟩:=rv.get hx;obtain⟨f0,f1,f2,f3,f4,f5⟩:=hf it W0;refine wpAny_pyNext_tuple_item st (show s.heap.IsTuple a its.toArray from p) (x:=u) (by simpa using hu) λh' st' sb=>?_;have I1:Inv X pins σ H {s with heap:=h'}:=I.turned (t':=s.toks) (λb o hb e=>(sb.2 b hb).trans e) f0 f1 f3 f4 f5;obtain⟨o,e,c,d⟩:=id st';exact⟨u,rfl,cc4 (s:={s with heap:=h'}) e c d W1 ⟨x,H,I1,ru,⟨rfl,λys hy=>by rw[I.tuple_inj hy hq];exact hx⟩,st',λb hb=>(hf b hb).1⟩⟩
 done:=by intro X hP hw hK hc i pins s σ H E I hf st hg;subst hP hw hK;obtain⟨xs,hq,hx⟩:=hg;obtain⟨its,rv,p,hz⟩:=I.tuple hq;obtain⟨f0,f1,f2,f3,f4,f5⟩:=hf it W0;have hl:=rv.length;exact wpAny_pyNext_tuple_end (I.ok.hd hc) st (show s.heap.IsTuple a its.toArray from p) (by simp;omega) λh' eb=>⟨rfl,I.turned (t':=s.toks) (λb o hb e=>eb b o hb e) f0 f1 f3 f4 f5⟩
 self:=λ_ _ _ _ _ st h=>wpAny_pyIter_tupleiter st h
def cp2{P:F9}{w:World}{K:A1}{tg:Expr}(it:Addr)(lo:Int)(n:Nat):am3 P w K tg (Itr lo n) [it] it (λi h=>IsRangeIter h it (lo+(i:Nat)*1) ((n:Int)-(i:Nat)) 1) where
 mem:=W0
 obj:=λi h st b hb=>by
  have e:b=it:=by simpa using hb
  subst e;exact⟨_,st,λv z=>by have z':Data.fields _=Data.cell v:=z;cases z'⟩
 keep:=λi h h' st k=>k it W0 _ st
 item:=by intro X hP hw hK hc i pins s σ H E I hf st hg;subst hP hw hK;obtain⟨f0,f1,f2,f3,f4,f5⟩:=hf it W0;have W:=Walks.range (prog:=X.prog) (w:=X.w) (I.ok.hd hc) it lo 1 n;refine W.item i s _ _ hg st λv h' tk hv st' kk=>?_;obtain⟨t,rfl⟩:=hv;have I1:Inv X pins σ H {s with heap:=h',toks:=tk}:=I.turned (λb o hb e=>kk b o (by simpa using hb) e) f0 f1 f3 f4 f5;refine⟨_,rfl,cc4 (s:={s with heap:=h',toks:=tk}) (n:="range_iterator") st' rfl rfl W1 ⟨.int (lo+i),H,I1,⟨t,?_⟩,⟨rfl,rfl⟩,st',λb hb=>(hf b hb).1⟩⟩;rw[Int.mul_one]
 done:=by intro X hP hw hK hc i pins s σ H E I hf st hg;subst hP hw hK;obtain⟨f0,f1,f2,f3,f4,f5⟩:=hf it W0;exact wpAny_pyNext_range_end (I.ok.hd hc) st (by have:n<=i:=hg;omega) λh' eb=>⟨rfl,I.turned (t':=s.toks) (λb o hb e=>eb b o hb e) f0 f1 f3 f4 f5⟩
 self:=λ_ _ _ _ _ st h=>wpAny_pyIter_rangeiter st h
section
variable{X:Cx}{tg:Expr}
def by5{pins:List (Addr×Obj)}{σ:St}{H:Hp}{s:B7}{R:It->Hp->Prop}{E:Value->B7->Prop}{lo hi:Int}{t u v:Tok}{tk:Nat}(I:Inv X pins σ H s)(h1:-(2^62)<=lo)(h2:lo<2^62)(h3:-(2^62)<=hi)(h4:hi<2^62)
 (q:R (Itr lo (hi-lo).toNat) H):wpAny (model X.prog X.w) X.A (pyIter (.ref s.heap.objs.size)) (PIE X pins σ tg R) E {s with heap:=s.heap.push {cls:=.type "range",data:=.fields #[.int lo t,.int hi u,.int 1 v]},toks:=tk}:=by
 refine wpAny_pyIter_range (IsRange.new ..) (small_one h1 h2 h3 h4) ?_;have I1:Inv X pins σ H {s with heap:=s.heap.push {cls:=.type "range",data:=.fields #[.int lo t,.int hi u,.int 1 v]},toks:=tk}:=I.kept λb o e=>A9 _ e;refine⟨(s.heap.push {cls:=.type "range",data:=.fields #[.int lo t,.int hi u,.int 1 v]}).objs.size,[(s.heap.push {cls:=.type "range",data:=.fields #[.int lo t,.int hi u,.int 1 v]}).objs.size],_,_,H,rfl,
  I1.kept (t':=tk) λb o e=>A9 _ e,cp2 _ lo (hi-lo).toNat,?_,λb hb=>?_,q⟩
 . have e1:lo+((0:Nat):Int)*1=lo:=W0
   have e2:(((hi-lo).toNat:Nat):Int)-((0:Nat):Int)=Builtin.Range.rangeSize lo hi 1:=by rw[rangeSize_one];split<;>omega
   show IsRangeIter _ _ (lo+((0:Nat):Int)*1) ((((hi-lo).toNat:Nat):Int)-((0:Nat):Int)) 1;rw[e1,e2];exact D5 _ rfl
 . have e:b=(s.heap.push {cls:=.type "range",data:=.fields #[.int lo t,.int hi u,.int 1 v]}).objs.size:=by simpa using hb
   subst e;exact I1.fpOk (D6 _) (I1.hok.fresh (D6 _))
def dj5(ta:TA):TI:=λσ H R=>ta σ H λvs H1=>∃j:Int,vs=[.int j]/\-(2^62)<=j/\j<2^62/\R (Itr 0 j.toNat) H1
def dk5(ta:TA):TI:=λσ H R=>ta σ H λvs H1=>∃i j:Int,vs=[.int i,.int j]/\(-(2^62)<=i/\i<2^62/\-(2^62)<=j/\j<2^62)/\R (Itr i (j-i).toNat) H1
theorem fQ{a:Expr}{ta:TA}{p pos:Pos}(hg:Gl X "range")(hm:X.mg "range"=none)(ha:PA X [a] ta)(hs:starEach [a] X.env=[(false,eval a X.env)]:=by rfl):PI X tg (.Call (.Name "range" p) [a] [] pos) (dj5 ta):=by
 intro pins s σ H R I h;refine Call_ (tJ I hg hm boot_range (L3 (xW (ha pins s σ H _ I h) λus s1 vs H1 I1 r1 q1=>?_) hs rfl));obtain⟨j,e,q1,q2,q⟩:=q1;subst e;cases r1 with
 |cons r rr=>cases rr;obtain⟨t,rfl⟩:=r;exact call_range_1 (by5 I1 V8 V8 q1 q2 (by simpa using q))
theorem ao4(hg:Gl X "range")(hm:X.mg "range"=none)(ha:PA X [a,b] ta)(hs:starEach [a,b] X.env=[(false,eval a X.env),(false,eval b X.env)]:=by rfl)(hs2:starEach [b] X.env=[(false,eval b X.env)]:=by rfl):
 PI X tg (.Call (.Name "range" p) [a,b] [] pos) (dk5 ta):=by
 intro pins s σ H R I h;refine Call_ (tJ I hg hm boot_range (L3 (xW (ha pins s σ H _ I h) λus s1 vs H1 I1 r1 q1=>?_) (by rw[hs,hs2]) (by rw[hs2];rfl)));obtain⟨i,j,e,⟨q1,q2,q3,q4⟩,q⟩:=q1;subst e;cases r1 with
 |cons r rr=>
  cases rr with
  |cons r' rr=>cases rr;obtain⟨t,rfl⟩:=r;obtain⟨t',rfl⟩:=r';exact call_range_2 (by5 I1 q1 q2 q3 q4 q)
def dr2(wi:TI)(g:TG)(tb:TS):TS:=λD σ H=>wi σ H λJ H1=>∃W:Nat->Nat->St->Hp->Prop,(∃m,W 0 m σ H1)/\∀i m σ H,W i m σ H->
 (J.stop i H/\D.nx σ H)\/(J.go i H/\∃N:St->Hp->Prop,(∀σ' H',N σ' H'->∃m',m'<m/\W (i+1) m' σ' H')/\∀x H',J.yld i H x H'->g x σ H' λσ2 H2=>tb {D with nx:=N,ct:=N,bk:=D.nx} σ2 H2)
def ai0(fp:List Addr)(h:Heap):List (Addr×Obj):=fp.filterMap λb=>(h.get? b).map λo=>(b,o)
def wB(hb:b∈fp)(e:h.get? b=some o):(b,o)∈ai0 fp h:=List.mem_filterMap.mpr ⟨b,hb,by rw[e];rfl⟩
theorem cn7(hp:p∈ai0 fp h):p.1∈fp/\h.get? p.1=some p.2:=by
 obtain⟨b,hb,e⟩:=List.mem_filterMap.mp hp;cases q:h.get? b with
 |none=>rw[q]at e;cases e
 |some o=>rw[q]at e;have e':(b,o)=p:=E8 e;subst e';exact⟨hb,q⟩
def Inv.pinned(I:Inv X pins σ H s)(hf:∀b∈fp,uD X pins H b)(ho:∀b∈fp,∃o,s.heap.get? b=some o/\∀v,o.data≠ .cell v):Inv X (pins++ai0 fp s.heap) σ H s:=
 I.pins_of λp hp=>(A3.mp hp).elim (λz=>I.pin p (B6 _ z)) λz=>by obtain⟨hb,e⟩:=cn7 z;obtain⟨f0,f1,f2,_⟩:=hf p.1 hb;obtain⟨o,e',d⟩:=ho p.1 hb;rw[e]at e';cases e';exact⟨e,f0,f1,f2,d⟩
def Inv.unpinned(I:Inv X (pins++pl) σ H s):Inv X pins σ H s:=I.pins_of λp hp=>I.pin p (B6 _ (D7 _ hp))
def fI(hp:PassesOwn (model X.prog X.w) X.A X.env X.xe)(hc:X.calm=true)(hi:PI X tg iter wi)(hg:PG X tg g)(hb:PSs X body tb)
 (hs:∀x,foldedSetIterable iter X.env x=pure x:=by intro _;rfl):PS X (.For tg iter body [] pos) (dr2 wi g tb):=by
 intro pins s σ H D I h;refine wpAny_For (kU (hi s σ H _ I h) λv s1 h1=>kU h1 λitv s2 h2=>?_) hs;obtain⟨it,fp,tn,J,H2,e,I2,T,st2,f2,W,⟨m0,w0⟩,turn⟩:=h2;subst e;have stat:∀{H':Hp},(∀b∈fp,H' b=none)->∀b∈fp,uD X pins H' b:=λhn b hb=>⟨hn b hb,(f2 b hb).2⟩;refine codeAny_forLoop_any (λn s'=>∃i σ' H',Inv X pins σ' H' s'/\tn i s'.heap/\(∀b∈fp,H' b=none)/\W i n σ' H') ?_ m0 ⟨0,σ,H2,I2,st2,λb hb=>(f2 b hb).1,w0⟩;rintro n s3 ⟨i,σ3,H3,I3,st3,fr3,w3⟩;rcases turn i n σ3 H3 w3 with⟨stop,qn⟩|⟨go,N,hN,step⟩
 . refine O7 hp (kU (T.done X rfl rfl rfl hc i pins s3 σ3 H3 X.xe I3 (stat fr3) st3 stop) λr s4 ⟨hr,I4⟩=>?_);subst hr;exact U3 ⟨σ3,H3,I4,qn⟩
 . refine O7 hp (kU (T.item X rfl rfl rfl hc i pins s3 σ3 H3 X.xe I3 (stat fr3) st3 go) λr s4 ⟨u,hr,h4⟩=>?_);subst hr;refine O7 hp (kU h4 λ_ s5 ⟨x,H5,I5,r5,y5,st5,fr5⟩=>?_);have I5':=I5.pinned (stat fr5) (T.obj _ _ st5);refine O7 hp (thG (hg s5 σ3 H5 x u _ I5' r5 (step x H5 y5)) λ_ s6 σ6 H6 I6 q6=>?_);refine O7 hp (kU (hb s6 σ6 H6 _ I6 q6) λf s7 q7=>?_);have again:∀{σ7:St}{H7:Hp},Inv X (pins++ai0 fp s5.heap) σ7 H7 s7->N σ7 H7->∃m,m<n/\∃i σ' H',Inv X pins σ' H' s7/\tn i s7.heap/\(∀b∈fp,H' b=none)/\W i m σ' H':=λ{σ7 H7} I7 n7=>by obtain⟨m',hm,w7⟩:=hN σ7 H7 n7;refine⟨m',hm,i+1,σ7,H7,I7.unpinned,T.keep _ _ _ st5 λb hb o e=>(I7.pin (b,o) (B6 _ (B6 _ (wB hb e)))).1,λb hb=>?_,w7⟩;obtain⟨o,e,d⟩:=T.obj _ _ st5 b hb;exact(I7.pin (b,o) (B6 _ (B6 _ (wB hb e)))).2.1
   cases f with
   |next=>obtain⟨σ7,H7,I7,n7⟩:=q7;exact again I7 n7
   |cont=>obtain⟨σ7,H7,I7,n7⟩:=q7;exact again I7 n7
   |brk=>obtain⟨σ7,H7,I7,q7⟩:=q7;exact⟨σ7,H7,I7.unpinned,q7⟩
   |ret v=>obtain⟨x7,σ7,H7,I7,r7,q7⟩:=q7;exact⟨x7,σ7,H7,I7.unpinned,r7,q7⟩
end
abbrev R2:=V->V->Hp->VK->Prop
def OpR(X:Cx)(f:Value->Value->Sem Value)(r:R2):Prop:=
 ∀⦃pins:List (Addr×Obj)⦄ (s:B7)(σ:St)(H:Hp)(x y:V)(v u:Value)(Q:VK),Inv X pins σ H s->RelV x v->RelV y u->r x y H Q->
  wpAny (model X.prog X.w) X.A (f v u) (EP X pins σ Q) X.xe s
def UnR(X:Cx)(f:Value->Sem Value)(r:V->Hp->VK->Prop):Prop:=
 ∀⦃pins:List (Addr×Obj)⦄ (s:B7)(σ:St)(H:Hp)(x:V)(v:Value)(Q:VK),Inv X pins σ H s->RelV x v->r x H Q->
  wpAny (model X.prog X.w) X.A (f v) (EP X pins σ Q) X.xe s
def CallR(X:Cx)(f:Value)(r:List V->Hp->VK->Prop):Prop:=
 ∀⦃pins:List (Addr×Obj)⦄ (s:B7)(σ:St)(H:Hp)(xs:List V)(us:List Value)(Q:VK),Inv X pins σ H s->Vals xs us->r xs H Q->
  wpAny (model X.prog X.w) X.A (call f us) (EP X pins σ Q) X.xe s
def et9(X:Cx)(r:V->Hp->(Bool->Hp->Prop)->Prop):Prop:=
 ∀⦃pins:List (Addr×Obj)⦄ (s:B7)(σ:St)(H:Hp)(x:V)(v:Value)(Q:Bool->Hp->Prop),Inv X pins σ H s->RelV x v->r x H Q->
  wpAny (model X.prog X.w) X.A (truthy v) (TP X pins σ Q) X.xe s
def tOp(r:R2)(ta tb:TE):TE:=λσ H Q=>ta σ H λx H1=>tb σ H1 λy H2=>r x y H2 Q
def tUn(r:V->Hp->VK->Prop)(ta:TE):TE:=λσ H Q=>ta σ H λx H1=>r x H1 Q
def rI(C:Int->Int->Prop)(g:Int->Int->V):R2:=λx y H Q=>∃i j,x=.int i/\y=.int j/\C i j/\Q (g i j) H
def xU(g:Int->Int->V):R2:=λx y H Q=>∃i j,x=.int i/\y=.int j/\Q (g i j) H
def rU(g:Int->V):V->Hp->VK->Prop:=λx H Q=>∃i,x=.int i/\Q (g i) H
section
variable{X:Cx}{a b c:Expr}{ta tb tc:TE}{pos:Pos}
def dt1(ha:PE X a ta)(hb:PE X b tb){pins:List (Addr×Obj)}{s:B7}{σ:St}{H:Hp}{R:V->V->Hp->Prop}(I:Inv X pins σ H s)
 (h:ta σ H λx H1=>tb σ H1 λy H2=>R x y H2){Q:Value->B7->Prop}{f:Value->Value->Sem Value}
 (hf:∀v u s2 x y H2,Inv X pins σ H2 s2->RelV x v->RelV y u->R x y H2->wpAny (model X.prog X.w) X.A (f v u) Q X.xe s2):
 wpAny (model X.prog X.w) X.A (eval a X.env) (λv s₁=>wpAny (model X.prog X.w) X.A (eval b X.env) (λu s₂=>wpAny (model X.prog X.w) X.A (f v u) Q X.xe s₂) X.xe s₁) X.xe s:=by
 refine jH (ha s σ H _ I h) λv s1 x H1 I1 r1 q1=>?_;refine jH (hb s1 σ H1 _ I1 q1) λu s2 y H2 I2 r2 q2=>?_;exact hf v u s2 x y H2 I2 r1 r2 q2
def aN{op:Operator}{r:R2}(ho:OpR X (binaryOp op) r)(ha:PE X a ta)(hb:PE X b tb):PE X (.BinOp a op b pos) (tOp r ta tb):=by intro pins s σ H Q I h;exact wpAny_BinOp (dt1 ha hb I h λv u s2 x y H2 I2 rx ry q=>ho s2 σ H2 x y v u Q I2 rx ry q)
def qL(ho:UnR X (unaryOp op) r)(ha:PE X a ta):PE X (.UnaryOp op a pos) (tUn r ta):=by intro pins s σ H Q I h;exact UnaryOp_ (jH (ha s σ H _ I h) λv s1 x H1 I1 r1 q1=>ho s1 σ H1 x v Q I1 r1 q1)
def opI{f:Value->Value->Sem Value}{C:Int->Int->Prop}{g:Int->Int->Int}
 (rule:∀(i j:Int)(t u:Tok)(s:B7)(Q:Value->B7->Prop)(E:Value->B7->Prop),C i j->Q (.int (g i j) s.toks) {s with toks:=s.toks+1}->wpAny (model X.prog X.w) X.A (f (.int i t) (.int j u)) Q E s):
 OpR X f (rI C λi j=>.int (g i j)):=by
 intro pins s σ H x y v u Q I rx ry h;obtain⟨i,j,rfl,rfl,hc,q⟩:=h;obtain⟨t,rfl⟩:=rx;obtain⟨t',rfl⟩:=ry;exact rule i j t t' s _ _ hc ⟨.int (g i j),H,I.tok _,⟨_,rfl⟩,q⟩
def ez0{f:Value->Value->Sem Value}{g:Int->Int->Int}
 (rule:∀(i j:Int)(t u:Tok)(s:B7)(Q:Value->B7->Prop)(E:Value->B7->Prop),Q (.int (g i j) s.toks) {s with toks:=s.toks+1}->wpAny (model X.prog X.w) X.A (f (.int i t) (.int j u)) Q E s):
 OpR X f (xU λi j=>.int (g i j)):=by
 intro pins s σ H x y v u Q I rx ry h;obtain⟨i,j,rfl,rfl,q⟩:=h;obtain⟨t,rfl⟩:=rx;obtain⟨t',rfl⟩:=ry;exact rule i j t t' s _ _ ⟨.int (g i j),H,I.tok _,⟨_,rfl⟩,q⟩
def cn4{f:Value->Value->Sem Value}{g:Int->Int->Bool}
 (rule:∀(i j:Int)(t u:Tok)(s:B7)(Q:Value->B7->Prop)(E:Value->B7->Prop),Q (.bool (g i j)) s->wpAny (model X.prog X.w) X.A (f (.int i t) (.int j u)) Q E s):
 OpR X f (xU λi j=>.bl (g i j)):=by
 intro pins s σ H x y v u Q I rx ry h;obtain⟨i,j,rfl,rfl,q⟩:=h;obtain⟨t,rfl⟩:=rx;obtain⟨t',rfl⟩:=ry;exact rule i j t t' s _ _ ⟨.bl (g i j),H,I,rfl,q⟩
def zV(i j:Int):Prop:=0<j/\j<1073741824
def at3(i j:Int):Prop:=0<=j/\j<=1000000/\i.natAbs<2^64
def op_add:OpR X (binaryOp .Add) (xU λi j=>.int (i+j)):=ez0 λ_ _ _ _ _ _ _ q=>add_int q
def cQ:OpR X (binaryOp .Sub) (xU λi j=>.int (i-j)):=ez0 λ_ _ _ _ _ _ _ q=>sub_int q
def gP:OpR X (binaryOp .FloorDiv) (rI zV λi j=>.int (i/j)):=opI λi j _ _ _ _ _ hc q=>by have h1:(0:Int)<j:=hc.1;have h2:j<1073741824:=hc.2;exact floordiv_int V8 (by rw[Int.fdiv_eq_ediv_of_nonneg i V8];exact q) (.inl (PyProof.noPylong_small V8))
def bX:OpR X (binaryOp .Mod) (rI (λ_ j=>0<j) λi j=>.int (i%j)):=opI λi j _ _ _ _ _ hc q=>by have h1:(0:Int)<j:=hc;exact mod_int' V8 (by rw[Int.fmod_eq_emod_of_nonneg i V8];exact q)
def bz7:OpR X (binaryOp .Pow) (rI at3 λi j=>.int (i^j.toNat)):=opI λ_ _ _ _ _ _ _ hc q=>pow_int_small hc.1 hc.2.1 hc.2.2 q
def unI{f:Value->Sem Value}{g:Int->Int}
 (rule:∀(i:Int)(t:Tok)(s:B7)(Q:Value->B7->Prop)(E:Value->B7->Prop),Q (.int (g i) s.toks) {s with toks:=s.toks+1}->wpAny (model X.prog X.w) X.A (f (.int i t)) Q E s):
 UnR X f (rU λi=>.int (g i)):=by
 intro pins s σ H x v Q I rx h;obtain⟨i,rfl,q⟩:=h;obtain⟨t,rfl⟩:=rx;exact rule i t s _ _ ⟨.int (g i),H,I.tok _,⟨_,rfl⟩,q⟩
def nE:UnR X (unaryOp .USub) (rU λi=>.int (-i)):=unI λ_ _ _ _ _ q=>neg_int q
end
def dd0:V->V->Bool
 |.non,.non=>true|.non,.int _=>true|.int _,.non=>true|.non,.bl _=>true|.bl _,.non=>true|.non,.str _=>true|.str _,.non=>true
 |.int _,.int _=>true|.bl _,.bl _=>true|.str _,.str _=>true|.byt _,.byt _=>true
 |.int _,.str _=>true|.str _,.int _=>true|.bl _,.str _=>true|.str _,.bl _=>true
 |_,_=>false
def rEq:R2:=λx y H Q=>dd0 x y=true/\Q (.bl (decide (x=y))) H
def rNe:R2:=λx y H Q=>dd0 x y=true/\Q (.bl (!decide (x=y))) H
def bp1:decide (V.int i=V.int j)=(i==j):=by rw[O4];simp
def bx7:decide (V.bl i=V.bl j)=(i==j):=by rw[O4];simp
def bb1:decide (V.str i=V.str j)=(i==j):=by rw[O4];simp
def cz1:decide (V.byt i=V.byt j)=(i.toList==j.toList):=by rw[O4];cases i;cases j;simp
section
variable{X:Cx}{a b c:Expr}{ta tb tc:TE}{pos:Pos}
def dJ(I:Inv X pins σ H s)(q:Q (.bl k) H)(e:k=k'):EP X pins σ Q (.bool k') s:=by subst e;exact⟨.bl k,H,I,rfl,q⟩
theorem el6:OpR X (compareOp .Eq) rEq:=by
 intro pins s σ H x y v u Q I rx ry h;obtain⟨hs,q⟩:=h;cases x with
 |non=>
  cases rx;cases y with
  |non=>cases ry;exact PySem.EqNone.eq_none_none (dJ I q W0)
  |bl j=>cases ry;exact PySem.EqNone.eq_none_bool (dJ I q W0)
  |int j=>obtain⟨t',rfl⟩:=ry;exact PySem.EqNone.eq_none_int (dJ I q W0)
  |str j=>obtain⟨t',rfl⟩:=ry;exact PySem.EqNone.eq_none_str (dJ I q W0)
  |_=>exact B0 (show false=true from hs) E1
 |bl i=>
  cases rx;cases y with
  |non=>cases ry;exact PySem.EqNone.eq_bool_none (dJ I q W0)
  |bl j=>cases ry;exact eq_bool (dJ I q bx7)
  |str j=>obtain⟨t',rfl⟩:=ry;exact PySem.EqMixed.eq_bool_str (dJ I q W0)
  |_=>exact B0 (show false=true from hs) E1
 |int i=>
  obtain⟨t,rfl⟩:=rx;cases y with
  |non=>cases ry;exact PySem.EqNone.eq_int_none (dJ I q W0)
  |int j=>obtain⟨t',rfl⟩:=ry;exact eq_int (dJ I q bp1)
  |str j=>obtain⟨t',rfl⟩:=ry;exact PySem.EqMixed.eq_int_str (dJ I q W0)
  |_=>exact B0 (show false=true from hs) E1
 |str i=>
  obtain⟨t,rfl⟩:=rx;cases y with
  |non=>cases ry;exact PySem.EqNone.eq_str_none (dJ I q W0)
  |bl j=>cases ry;exact PySem.EqMixed.eq_str_bool (dJ I q W0)
  |int j=>obtain⟨t',rfl⟩:=ry;exact PySem.EqMixed.eq_str_int (dJ I q W0)
  |str j=>obtain⟨t',rfl⟩:=ry;exact eq_str (dJ I q bb1)
  |_=>exact B0 (show false=true from hs) E1
 |byt i=>
  obtain⟨t,rfl⟩:=rx;cases y with
  |byt j=>obtain⟨t',rfl⟩:=ry;exact PySem.W.eq_bytes (dJ I q cz1)
  |_=>exact B0 (show false=true from hs) E1
 |_=>cases y<;>exact B0 (show false=true from hs) E1
theorem et5:OpR X (compareOp .NotEq) rNe:=by
 intro pins s σ H x y v u Q I rx ry h;obtain⟨hs,q⟩:=h;cases x with
 |non=>
  cases rx;cases y with
  |non=>cases ry;exact PySem.EqNone.ne_none_none (dJ I q W0)
  |bl j=>cases ry;exact PySem.EqNone.ne_none_bool (dJ I q W0)
  |int j=>obtain⟨t',rfl⟩:=ry;exact PySem.EqNone.ne_none_int (dJ I q W0)
  |str j=>obtain⟨t',rfl⟩:=ry;exact PySem.EqNone.ne_none_str (dJ I q W0)
  |_=>exact B0 (show false=true from hs) E1
 |bl i=>
  cases rx;cases y with
  |non=>cases ry;exact PySem.EqNone.ne_bool_none (dJ I q W0)
  |bl j=>cases ry;exact ne_bool (dJ I q (M6 not bx7))
  |str j=>obtain⟨t',rfl⟩:=ry;exact PySem.EqMixed.ne_bool_str (dJ I q W0)
  |_=>exact B0 (show false=true from hs) E1
 |int i=>
  obtain⟨t,rfl⟩:=rx;cases y with
  |non=>cases ry;exact PySem.EqNone.ne_int_none (dJ I q W0)
  |int j=>obtain⟨t',rfl⟩:=ry;exact ne_int (dJ I q (M6 not bp1))
  |str j=>obtain⟨t',rfl⟩:=ry;exact PySem.EqMixed.ne_int_str (dJ I q W0)
  |_=>exact B0 (show false=true from hs) E1
 |str i=>
  obtain⟨t,rfl⟩:=rx;cases y with
  |non=>cases ry;exact PySem.EqNone.ne_str_none (dJ I q W0)
  |bl j=>cases ry;exact PySem.EqMixed.ne_str_bool (dJ I q W0)
  |int j=>obtain⟨t',rfl⟩:=ry;exact PySem.EqMixed.ne_str_int (dJ I q W0)
  |str j=>obtain⟨t',rfl⟩:=ry;exact ne_str (dJ I q (M6 not bb1))
  |_=>exact B0 (show false=true from hs) E1
 |byt i=>
  obtain⟨t,rfl⟩:=rx;cases y with
  |byt j=>obtain⟨t',rfl⟩:=ry;exact PySem.W.ne_bytes (dJ I q (M6 not cz1))
  |_=>exact B0 (show false=true from hs) E1
 |_=>cases y<;>exact B0 (show false=true from hs) E1
def wR:OpR X (compareOp .Lt) (xU λi j=>.bl (decide (i<j))):=cn4 λ_ _ _ _ _ _ _ q=>lt_int q
def mT:OpR X (compareOp .LtE) (xU λi j=>.bl (decide (i<=j))):=cn4 λ_ _ _ _ _ _ _ q=>le_int q
def yG:OpR X (compareOp .Gt) (xU λi j=>.bl (decide (j<i))):=cn4 λ_ _ _ _ _ _ _ q=>gt_int q
def dx4:OpR X (compareOp .GtE) (xU λi j=>.bl (decide (j<=i))):=cn4 λ_ _ _ _ _ _ _ q=>ge_int q
def cf7:OpR X (compareOp .In) (λx y H Q=>∃i j,x=.str i/\y=.str j/\Q (.bl (!(Builtin.Str.occurrences j i 0 j.length 1).isEmpty)) H):=by intro pins s σ H x y v u Q I rx ry h;obtain⟨i,j,rfl,rfl,q⟩:=h;obtain⟨t,rfl⟩:=rx;obtain⟨t',rfl⟩:=ry;exact in_str (dJ I q rfl)
def ep2:OpR X (compareOp .Is) (λx y H Q=>y=.non/\Q (.bl (decide (x=.non))) H):=by
 intro pins s σ H x y v u Q I rx ry h;obtain⟨rfl,q⟩:=h;cases ry;refine is_none_gen (dJ I q ?_);cases x<;>first
  |(cases rx;rfl)
  |(obtain⟨t,rfl⟩:=rx;rfl)
def uF:OpR X (compareOp .IsNot) (λx y H Q=>y=.non/\Q (.bl (!decide (x=.non))) H):=by
 intro pins s σ H x y v u Q I rx ry h;obtain⟨rfl,q⟩:=h;cases ry;refine isnot_none_gen (dJ I q ?_);cases x<;>first
  |(cases rx;rfl)
  |(obtain⟨t,rfl⟩:=rx;rfl)
def OpR.or(h:OpR X f r)(h':OpR X f r'):OpR X f (λx y H Q=>r x y H Q\/r' x y H Q):=by
 intro pins s σ H x y v u Q I rx ry q;rcases q with q|q
 . exact h s σ H x y v u Q I rx ry q
 . exact h' s σ H x y v u Q I rx ry q
def vQ(b:Expr)(h:op≠ .In:=by decide)(h2:op≠ .NotIn:=by decide):behindInMarks op b=false:=by
 have e1:(op==CmpOp.In)=false:=by cases op<;>first|rfl|exact B0 rfl h
 have e2:(op==CmpOp.NotIn)=false:=by cases op<;>first|rfl|exact B0 rfl h2
 cases b<;>simp[behindInMarks,e1,e2]
def kO{op:CmpOp}{r:R2}(ho:OpR X (compareOp op) r)(ha:PE X a ta)(hb:PE X b tb)(hm:behindInMarks op b=false):PE X (.Compare a [op] [b] pos) (tOp r ta tb):=by intro pins s σ H Q I h;exact wpAny_Compare1 (dt1 ha hb I h λv u s2 x y H2 I2 rx ry q=>ho s2 σ H2 x y v u Q I2 rx ry q) hm
def bm5(t:TE):TT:=λσ H Q=>t σ H λx H'=>∃k,x=.bl k/\Q k H'
def ac5(ho:OpR X (compareOp op) r)(ha:PE X a ta)(hb:PE X b tb)(hm:behindInMarks op b=false):PT X (.Compare a [op] [b] pos) (bm5 (tOp r ta tb)):=by
 intro pins s σ H Q I h;refine wpAny_isTrue_Compare1 (jH (ha s σ H _ I h) λv s1 x H1 I1 r1 q1=>jH (hb s1 σ H1 _ I1 q1) λu s2 y H2 I2 r2 q2=>
  jH (ho s2 σ H2 x y v u _ I2 r1 r2 q2) λc s3 z H3 I3 r3 qq=>?_) hm
 obtain⟨k,e,q3⟩:=qq;subst e;cases r3;exact K8 ⟨H3,I3,q3⟩
def bu6(r r':R2)(ta tb tc:TE):TE:=λσ H Q=>ta σ H λx H1=>tb σ H1 λy H2=>r x y H2 λz H3=>∃k,z=.bl k/\
 (if k=true then tc σ H3 λw' H4=>r' y w' H4 Q else Q (.bl false) H3)
theorem al6(ho:OpR X (compareOp op) r)(ho':OpR X (compareOp op') r')(ha:PE X a ta)(hb:PE X b tb)(hc:PE X c tc)
 (hm:lastMarks [op,op'] [b,c]=false:=by with_unfolding_all rfl):PE X (.Compare a [op,op'] [b,c] pos) (bu6 r r' ta tb tc):=by
 intro pins s σ H Q I h;refine Compare_chain (jH (ha s σ H _ I h) λv s1 x H1 I1 r1 q1=>chain_link (jH (hb s1 σ H1 _ I1 q1) λu s2 y H2 I2 r2 q2=>
  jH (ho s2 σ H2 x y v u _ I2 r1 r2 q2) λd s3 z H3 I3 r3 qq=>?_)) hm
 obtain⟨k,e,q3⟩:=qq;subst e;cases r3;refine K8 ?_;cases k with
 |false=>exact ite_ff ⟨.bl false,H3,I3,rfl,q3⟩
 |true=>exact ite_tt (chain_last (kU (hc s3 σ H3 _ I3 q3) λw' s4 ⟨z',H4,I4,r4,q4⟩=>ho' s4 σ H4 y z' u w' Q I4 r2 r4 q4))
theorem as1(ho:OpR X (compareOp op) r)(ho':OpR X (compareOp op') r')(ha:PE X a ta)(hb:PE X b tb)(hc:PE X c tc)
 (hm:lastMarks [op,op'] [b,c]=false:=by with_unfolding_all rfl):PT X (.Compare a [op,op'] [b,c] pos) (bm5 (bu6 r r' ta tb tc)):=by
 intro pins s σ H Q I h;refine isTrue_chain (jH (ha s σ H _ I h) λv s1 x H1 I1 r1 q1=>test_link (jH (hb s1 σ H1 _ I1 q1) λu s2 y H2 I2 r2 q2=>
  jH (ho s2 σ H2 x y v u _ I2 r1 r2 q2) λd s3 z H3 I3 r3 qq=>?_)) hm
 obtain⟨k,e,q3⟩:=qq;subst e;cases r3;refine K8 ?_;cases k with
 |false=>obtain⟨k',e',q'⟩:=q3;cases e';exact ite_ff ⟨H3,I3,q'⟩
 |true=>refine ite_tt (test_last (kU (hc s3 σ H3 _ I3 q3) λw' s4 ⟨z',H4,I4,r4,q4⟩=>kU (ho' s4 σ H4 y z' u w' _ I4 r2 r4 q4) λd' s5 ⟨z2,H5,I5,r5,k2,e2,q5⟩=>?_));subst e2;cases r5;exact K8 ⟨H5,I5,q5⟩
def bh8(K:A1)(x:V)(H:Hp)(k:Bool):Prop:=
 match x with
 |.non=>k=false
 |.bl b=>k=b
 |.int i=>k=(i !=0)
 |.str y=>y.length<=sizeLine/\k=((y.length:Int) !=0)
 |.byt y=>y.size<=sizeLine/\k=((y.size:Int) !=0)
 |.ref p=>(∃xs,SqL K H p xs/\k=!xs.isEmpty)\/(∃xs,SqT K H p xs/\k=!xs.isEmpty)\/∃kvs,H p=some (.dK kvs)/\k=!kvs.isEmpty
 |_=>False
def ci3(r:KV kvs vs):(!vs.isEmpty)=!kvs.isEmpty:=by cases r<;>rfl
def at8(r:Vals xs its):(!its.toArray.isEmpty)=!xs.isEmpty:=by cases r<;>simp
def aa1:(sizeLine:Nat)<2^63:=by rw[D9];decide
theorem dr9:et9 X (λx H Q=>∃k,bh8 X.K x H k/\Q k H):=by
 intro pins s σ H x v Q I rx h;obtain⟨k,e,q⟩:=h;have hl:=aa1;have hs:sizeLine=16777216:=D9;cases x with
 |non=>cases rx;have e':k=false:=e;subst e';exact truthy_none ⟨H,I,q⟩
 |bl b=>cases rx;have e':k=b:=e;subst e';exact K8 ⟨H,I,q⟩
 |int i=>obtain⟨t,rfl⟩:=rx;have e':k=(i !=0):=e;subst e';exact PySem.P.truthy_int ⟨H,I,q⟩
 |str y=>obtain⟨t,rfl⟩:=rx;obtain⟨hy,e'⟩:y.length<=sizeLine/\k=((y.length:Int) !=0):=e;subst e';exact PySem.P.truthy_str V8 ⟨H,I.tok _,q⟩
 |byt y=>obtain⟨t,rfl⟩:=rx;obtain⟨hy,e'⟩:y.size<=sizeLine/\k=((y.size:Int) !=0):=e;subst e';exact PySem.W.truthy_bytes V8 ⟨H,I.tok _,q⟩
 |ref p=>
  cases rx;have e':(∃xs,SqL X.K H p xs/\k=!xs.isEmpty)\/(∃xs,SqT X.K H p xs/\k=!xs.isEmpty)\/∃kvs,H p=some (.dK kvs)/\k=!kvs.isEmpty:=e;rcases e' with⟨xs,hx,e'⟩|⟨xs,hx,e'⟩|⟨kvs,hx,e'⟩
  . subst e';obtain⟨its,r,pl,hz⟩:=I.list hx;have hlen:=r.length;exact wpAny_truthy_list pl.isList (by simp only[List.size_toArray];omega) ⟨H,I.tok _,by rw[at8 r];exact q⟩
  . subst e';obtain⟨its,r,pl,hz⟩:=I.tuple hx;have hlen:=r.length;exact truthy_tuple pl (by simp only[List.size_toArray];omega) ⟨H,I.tok _,by rw[at8 r];exact q⟩
  . subst e';obtain⟨hz,hS,vs,r,m⟩:kvs.length<=sizeLine/\(p==sysModules)=false/\∃vs,KV kvs vs/\s.heap.DictOf (bj1 X.prog X.w) p vs:=I.hok p _ hx;have hlen:kvs.length=vs.length:=Paired.length r;exact wpAny_truthy_dict hS m V8 ⟨H,I.tok _,by rw[ci3 r];exact q⟩
 |_=>exact(show False from e).elim
def cn9(ha:PE X a ta)(he:∀whole,isTrue a X.env whole=(do let v<-whole;standAt a.pos;holding [v] (truthy v))):
 PT X a (λσ H Q=>ta σ H λx H'=>∃k,bh8 X.K x H' k/\Q k H'):=by
 intro pins s σ H Q I h;exact isTrue_plain (jH (ha s σ H _ I h) λv s1 x H1 I1 r1 q1=>dr9 s1 σ H1 x v Q I1 r1 q1) (he _)
def op_add_str:OpR X (binaryOp .Add) (λx y H Q=>∃i j,x=.str i/\y=.str j/\i.length+j.length<=sizeLine/\Q (.str (i++j)) H):=by intro pins s σ H x y v u Q I rx ry h;obtain⟨i,j,rfl,rfl,hz,q⟩:=h;obtain⟨t,rfl⟩:=rx;obtain⟨t',rfl⟩:=ry;exact add_str (λt' tk=>⟨.str (i++j),H,I.tok _,⟨_,rfl⟩,q⟩) hz
theorem ay7(r:Vals [x] us):∃u,us=[u]/\RelV x u:=by
 cases r with
 |cons r1 r2=>cases r2;exact⟨_,rfl,r1⟩
theorem cz2(r:Vals [x,y] us):∃u w',us=[u,w']/\RelV x u/\RelV y w':=by
 cases r with
 |cons r1 r2=>
  cases r2 with
  |cons r3 r4=>cases r4;exact⟨_,_,rfl,r1,r3⟩
def dz0:CallR X (.builtin "abs") (λxs H Q=>∃i,xs=[.int i]/\Q (.int (if i<0 then -i else i)) H):=by intro pins s σ H xs us Q I r h;obtain⟨i,rfl,q⟩:=h;obtain⟨u,rfl,t,rfl⟩:=ay7 r;exact call_abs_int λu tk=>⟨.int (if i<0 then -i else i),H,I.tok _,⟨_,rfl⟩,q⟩
def cn8(hc:X.calm=true):CallR X (.builtin "max") (λxs H Q=>∃i j,xs=[.int i,.int j]/\Q (.int (if j>i then j else i)) H):=by
 intro pins s σ H xs us Q I r h;obtain⟨i,j,rfl,q⟩:=h;obtain⟨u,w',rfl,⟨t,rfl⟩,⟨t',rfl⟩⟩:=cz2 r;refine max_two_ints (I.ok.hd hc) λh' tk k=>⟨_,H,I.kept k,?_,q⟩;by_cases hj:j>i
 . rw[E6 hj,E6 hj];exact⟨_,rfl⟩
 . rw[E5 hj,E5 hj];exact⟨_,rfl⟩
def cv6(hc:X.calm=true):CallR X (.builtin "min") (λxs H Q=>∃i j,xs=[.int i,.int j]/\Q (.int (if j<i then j else i)) H):=by
 intro pins s σ H xs us Q I r h;obtain⟨i,j,rfl,q⟩:=h;obtain⟨u,w',rfl,⟨t,rfl⟩,⟨t',rfl⟩⟩:=cz2 r;refine min_two_ints (I.ok.hd hc) λh' tk k=>⟨_,H,I.kept k,?_,q⟩;by_cases hj:j<i
 . rw[E6 hj,E6 hj];exact⟨_,rfl⟩
 . rw[E5 hj,E5 hj];exact⟨_,rfl⟩
def bs6:CallR X (.type "str") (λxs H Q=>∃i,xs=[.int i]/\i.natAbs.log2<1920/\Q (.str (toString i)) H):=by intro pins s σ H xs us Q I r h;obtain⟨i,rfl,hz,q⟩:=h;obtain⟨u,rfl,t,rfl⟩:=ay7 r;exact PySem.P.str_of_int hz ⟨.str _,H,I.tok _,⟨_,rfl⟩,q⟩
def ed2(K:A1)(x:V)(H:Hp)(n:Nat):Prop:=
 match x with
 |.str y=>y.length<=sizeLine/\n=y.length
 |.byt y=>y.size<=sizeLine/\n=y.size
 |.ref p=>(∃xs,SqL K H p xs/\n=xs.length)\/∃xs,SqT K H p xs/\n=xs.length
 |_=>False
theorem dh0:CallR X (.builtin "len") (λxs H Q=>∃x n,xs=[x]/\ed2 X.K x H n/\Q (.int n) H):=by
 intro pins s σ H xs us Q I r h;obtain⟨x,n,rfl,e,q⟩:=h;obtain⟨u,rfl,rx⟩:=ay7 r;have hl:=aa1;have hs:sizeLine=16777216:=D9;cases x with
 |str y=>obtain⟨t,rfl⟩:=rx;obtain⟨hy,e'⟩:y.length<=sizeLine/\n=y.length:=e;subst e';exact len_str V8 ⟨.int _,H,I.tok _,⟨_,rfl⟩,q⟩
 |byt y=>obtain⟨t,rfl⟩:=rx;obtain⟨hy,e'⟩:y.size<=sizeLine/\n=y.size:=e;subst e';exact PySem.W.len_bytes V8 ⟨.int _,H,I.tok _,⟨_,rfl⟩,q⟩
 |ref p=>
  cases rx;have e':(∃xs,SqL X.K H p xs/\n=xs.length)\/∃xs,SqT X.K H p xs/\n=xs.length:=e;rcases e' with⟨xs,hx,e'⟩|⟨xs,hx,e'⟩
  . subst e';obtain⟨its,r',pl,hz⟩:=I.list hx;have hlen:=r'.length;exact Calls.call_len_list pl.isList (by simp only[List.size_toArray];omega) ⟨.int xs.length,H,I.tok _,⟨_,by simp only[List.size_toArray];rw[hlen]⟩,q⟩
  . subst e';obtain⟨its,r',pl,hz⟩:=I.tuple hx;have hlen:=r'.length;exact len_tuple pl (by simp only[List.size_toArray];omega) ⟨.int xs.length,H,I.tok _,⟨_,by simp only[List.size_toArray];rw[hlen]⟩,q⟩
 |_=>exact(show False from e).elim
def ca0:CallR X (.builtin "divmod") (λxs H Q=>∃i j,xs=[.int i,.int j]/\zV i j/\∀p,H p=none->Q (.ref p) (upd H p (.tup [.int (i/j),.int (i%j)]))):=by intro pins s σ H xs us Q I r h;obtain⟨i,j,rfl,⟨h1,h2⟩,q⟩:=h;obtain⟨u,w',rfl,⟨t,rfl⟩,⟨t',rfl⟩⟩:=cz2 r;refine divmod_int V8 ?_ (.inl (PyProof.noPylong_small V8));rw[Int.fdiv_eq_ediv_of_nonneg i V8,Int.fmod_eq_emod_of_nonneg i V8];have hn:H s.heap.objs.size=none:=I.hok.fresh (D6 _);refine⟨.ref s.heap.objs.size,_,?_,rfl,q _ hn⟩;refine I.laid (λb o e=>A9 _ e) (D6 _) ⟨by simp only[List.length_cons,List.length_nil];rw[D9];decide,[.int (i/j) s.toks,.int (i%j) (s.toks+1)],.cons ⟨_,rfl⟩ (.cons ⟨_,rfl⟩ .nil),?_⟩;exact⟨_,D5 s.heap rfl,rfl,0,rfl⟩
end
structure ObjM (h:Heap) (x dx C:Addr) (mA:Str->Option Value):Prop where
 obj:h.get? x=some (PySem.W.instObj C dx)
 ns:h.Ns1 dx mA
 ne:dx≠x
def cy5{h:Heap}{dx:Addr}{mA:Str->Option Value}(n:h.Ns1 dx mA):∃od,h.get? dx=some od/\∀name,PySem.W.lookIn name od=some (mA name):=by
 obtain⟨o,es,ep,ho,hd,hk,_,hm⟩:=n;refine⟨o,ho,λname=>?_⟩;have e:=hm name;unfold nsFind findBy at e;rw[<-Array.find?_toList]at e;unfold PySem.W.lookIn;rw[hd];dsimp only;split
 . rename_i y q;rw[q]at e;exact M6 some e
 . rename_i q;rw[q]at e;have a:es.toList.any (·.refKey)=false:=by rw[List.any_eq_false];intro y hy;obtain⟨z,t,hkey⟩:=hk y (Array.mem_toList_iff.mp hy);simp[DictEntry.refKey,hkey]
   have a':¬es.toList.any (·.refKey)=true:=by rw[a];exact E1
   rw[E5 a'];exact M6 some e
def ObjM.look(I:ObjM h x dx C mA):∃od,PySem.W.InstAt h x (PySem.W.instObj C dx) C (some od)/\∀name,PySem.W.lookIn name od=some (mA name):=
 let⟨od,ho,hl⟩:=cy5 I.ns
 ⟨od,⟨I.obj,rfl,rfl,ho⟩,hl⟩
section
variable{prog:F9}{w:World}{A:J5}{E:Value->B7->Prop}{s:B7}{K:A1}{x dx C f:Addr}{mA:Str->Option Value}{name:Str}{v:Value}
def di8(X:K.In s.heap)(I:ObjM s.heap x dx C mA)(hg:PySem.W.plainGet K C name=true)(hh:PySem.W.hasDictIn K C=true)
 (ha:PySem.W.findIn K (.ref C) name=some none)(hv:mA name=some v)(hv':PySem.W.handedIn v=true)(h:Q v {s with toks:=s.toks+1}):
 wpAny (model prog w) A (getAttr (.ref x) name expr) Q E s:=by
 obtain⟨od,J,hl⟩:=I.look;exact PySem.W.get_value X J (PySem.W.plainGet_of hg).1 (PySem.W.findObj_own hh ha rfl (by rw[hl,hv])) hv' h
def cp9(X:K.In s.heap)(I:ObjM s.heap x dx C mA)(hg:PySem.W.plainGet K C name=true)
 (hf:PySem.W.findIn K (.ref C) name=some (some (.ref f)))(ht:PySem.W.isFn K (.ref f)=true)(hv:mA name=none)(h:Q (.ref f,[.ref x]) s):
 wpAny (model prog w) A (getMethod (.ref x) name pl) Q E s:=by
 obtain⟨od,J,hl⟩:=I.look;exact PySem.W.method_fn X J (PySem.W.plainGet_of hg).1 (PySem.W.plainGet_of hg).2 hf (Q5.mp ht) (by show(PySem.W.lookIn name od).map (·.isSome)=some false;rw[hl,hv];rfl) h
def do8(X:K.In s.heap)(I:ObjM s.heap x dx C mA)
 (hs:PySem.W.findIn K (.ref C) "__setattr__"=some (some (.builtin "object.__setattr__")))(hp:PySem.W.plainOver K C=true)(ht:PySem.W.takerIn K C name=some none)(hh:PySem.W.hasDictIn K C=true)
 (hw:PySem.Within mA ns)(hsz:ns.length<=sizeLine)
 (h:∀h',ObjM h' x dx C (λy=>if y=name then some v else mA y)->Heap.SameBut dx s.heap h'->Q () {s with heap:=h',toks:=s.toks+2}):
 wpAny (model prog w) A (setAttr (.ref x) name v) Q E s:=by
 obtain⟨od,J,hl⟩:=I.look;refine PySem.W.set_plain X J hs (PySem.W.osa_open (s:={s with toks:=s.toks+1}) (r:=none) X J hp ht λb=>?_);obtain⟨cd,hc,hd'⟩:=PySem.W.any_some hh;have hx:s.heap.get? x=some ⟨.ref C,some dx,.plain,#[]⟩:=I.obj;refine A4 (D4 (A4 (A4 (wpAny_loadPart hx (A4 (PySem.W.Looks.here (s:={s with toks:=s.toks+1}) (PySem.W.looks_clsIn X hc) ?_))))));rw[hd'];refine D4 (a:=some dx) (A4 (D4 (A4 ?_)));refine wpAny_nsSet1 (s:={s with toks:=s.toks+1}) I.ns λh' hn2 hs2=>?_;obtain⟨oD,esD,epD,hoD,hdD,hcD⟩:=hn2.count (PySem.Within.cons name v hw);refine A4 (wpAny_lookBehind hoD (by rw[hdD];exact pastItsLine_dict (J2 hcD (by rw[D8];omega))) ?_);exact D4 (h _ ⟨(hs2.2 _ (M7 I.ne)).trans I.obj,hn2,I.ne⟩ hs2)
def dv0(X:K.In s.heap)(hm:PySem.W.makesIn K C=true)
 (hi:PySem.W.findIn K (.ref C) "__init__"=some (some (.ref f)))(hf:PySem.W.typeIn K (.ref f)=some (.type "function"))
 (h:codeAny (model prog w) (A.under (.builtin "type.__call__" ⟨.ref C::vs,kw⟩)) (.call (.ref f) ⟨.ref (s.heap.objs.size+1)::vs,kw⟩) (PySem.W.InitBack (s.heap.objs.size+1) R)
  {s with heap:=(s.heap.push PySem.W.emptyDict).push (PySem.W.instObj C s.heap.objs.size)}):
 codeAny (model prog w) A (.call (.ref C) ⟨vs,kw⟩) R s:=by
 obtain⟨hh,g,d,t,os⟩:=s;exact PySem.W.make_core (PySem.W.makes_of X hm) (PySem.W.looks_findIn X hi) (λself=>PySem.W.bind_fn X self hf) (.inl rfl) h
end
def mB(f:Str)(v:V):List (Str×V)->List (Str×V)
 |[]=>[(f,v)]
 |(g,x)::r=>if g=f then(g,v)::r else(g,x)::mB f v r
theorem ak5(f g:Str)(v:V):∀fs:List (Str×V),(mB f v fs).lookup g=if g=f then some v else fs.lookup g
 |[]=>by
  show List.lookup g [(f,v)]=_;by_cases h:g=f
  . have hb:(g==f)=true:=Q5.mpr h;simp only[List.lookup,hb,if_pos h]
  . have hb:(g==f)=false:=G9.mpr h;simp only[List.lookup,hb,if_neg h]
 |(k,x)::r=>by
  have ih:=ak5 f g v r;rw[show mB f v ((k,x)::r)=(if k=f then(k,v)::r else(k,x)::mB f v r) from rfl];by_cases hk:k=f
  . rw[E6 hk];by_cases h:g=k
    . have hb:(g==k)=true:=Q5.mpr h;simp only[List.lookup,hb,if_pos (h.trans hk)]
    . have hb:(g==k)=false:=G9.mpr h;simp only[List.lookup,hb,if_neg (λe:g=f=>h (e.trans hk.symm))]
  . rw[E5 hk];by_cases h:g=k
    . have hb:(g==k)=true:=Q5.mpr h;simp only[List.lookup,hb,if_neg (λe:g=f=>hk (h.symm.trans e))]
    . have hb:(g==k)=false:=G9.mpr h;simp only[List.lookup,hb];exact ih
theorem as3(f:Str)(v:V):∀fs:List (Str×V),f∈(mB f v fs).map (·.1)/\∀g,g∈fs.map (·.1)->g∈(mB f v fs).map (·.1)
 |[]=>⟨by simp[mB],λg h=>by simp at h⟩
 |(k,x)::r=>by
  obtain⟨i1,i2⟩:=as3 f v r;rw[show mB f v ((k,x)::r)=(if k=f then(k,v)::r else(k,x)::mB f v r) from rfl];by_cases hk:k=f
  . rw[E6 hk];subst hk;exact⟨W0,λg h=>by simpa using h⟩
  . rw[E5 hk];refine⟨?_,λg h=>?_⟩
    . rw[B8];exact A5 _ i1
    . rw[B8]at h⊢;rcases B9.mp h with e|e
      . exact B9.mpr (.inl e)
      . exact A5 _ (i2 g e)
theorem aa6(f:Str)(v:V):∀fs:List (Str×V),(mB f v fs).length<=fs.length+1
 |[]=>by simp[mB]
 |(k,x)::r=>by
  have ih:=aa6 f v r;rw[show mB f v ((k,x)::r)=(if k=f then(k,v)::r else(k,x)::mB f v r) from rfl];by_cases hk:k=f
  . rw[E6 hk,D8,D8];omega
  . rw[E5 hk,D8,D8];omega
theorem RelO.some_of(r:RelO (some v) o):∃u,o=some u/\RelV v u:=by
 cases o with
 |none=>exact(show False from r).elim
 |some u=>exact⟨u,rfl,r⟩
theorem RelO.none_of(r:RelO none o):o=none:=by
 cases o with
 |none=>rfl
 |some u=>exact(show False from r).elim
theorem cx8(r:RelV v u):PySem.W.handedIn u=true:=by
 cases v with
 |non=>cases(show u=Value.none from r);rfl
 |bl b=>cases(show u=Value.bool b from r);rfl
 |int i=>obtain⟨t,e⟩:=(show∃t,u=Value.int i t from r);cases e;rfl
 |str x=>obtain⟨t,e⟩:=(show∃t,u=Value.str x t from r);cases e;rfl
 |byt b=>obtain⟨t,e⟩:=(show∃t,u=Value.bytes b t from r);cases e;rfl
 |flt b=>obtain⟨t,e⟩:=(show∃t,u=Value.float b t from r);cases e;rfl
 |ref a=>cases(show u=Value.ref a from r);rfl
 |ty n=>cases(show u=Value.type n from r);rfl
section
variable{P:F9}{w:World}{H H':Hp}{h h':Heap}{a C dx:Addr}{fs fs':List (Str × V)}
def bn0(hok:HOk P w H h)(e:H a=some (.ins C dx fs)):∃mA,ObjM h a dx C mA/\(∀f,RelO (fs.lookup f) (mA f))/\PySem.Within mA (fs.map (·.1))/\fs.length<=1000/\H dx=some (.own a):=by obtain⟨d,z,ne,ob,mA,n,r,q⟩:=(show ObjOk P w H h a (.ins C dx fs) from hok a _ e);exact⟨mA,⟨ob,n,ne⟩,r,q,z,d⟩
end
structure Cls (K:A1) (C:Addr):Prop where
 pg:PySem.W.plainGet K C Str.empty=true
 hd:PySem.W.hasDictIn K C=true
 po:PySem.W.plainOver K C=true
 sa:PySem.W.findIn K (.ref C) "__setattr__"=some (some (.builtin "object.__setattr__"))
def Cls.get{K:A1}{C:Addr}(c:Cls K C)(f:Str):PySem.W.plainGet K C f=true:=c.pg
def NoAttr(K:A1)(C:Addr)(f:Str):Prop:=PySem.W.findIn K (.ref C) f=some none
def NoAttr.taker{K:A1}{C:Addr}{f:Str}(n:NoAttr K C f):PySem.W.takerIn K C f=some none:=by unfold PySem.W.takerIn;rw[show PySem.W.findIn K (.ref C) f=some none from n];rfl
structure dq3 (K:A1) (C:Addr) (m:Str) (f:Addr):Prop where
 at_:PySem.W.findIn K (.ref C) m=some (some (.ref f))
 fn:PySem.W.isFn K (.ref f)=true
 kp:PySem.W.keepIn K (.ref f)=true
section
variable{X:Cx}{pins:List (Addr × Obj)}{σ:St}{H:Hp}{s:B7}{a C dx:Addr}{fs:List (Str × V)}{f:Str}{v:V}{A:J5}{E:Value->B7->Prop}
def cf4(I:Inv X pins σ H s)(e:H a=some (.ins C dx fs))(c:Cls X.K C)(n:NoAttr X.K C f)(l:fs.lookup f=some v)
 (h:∀u s',Inv X pins σ H s'->RelV v u->Q u s'):wpAny (model X.prog X.w) A (getAttr (.ref a) f b) Q E s:=by
 obtain⟨mA,O,r,_,_,_⟩:=bn0 I.hok e;obtain⟨u,hu,ru⟩:=RelO.some_of (v:=v) (o:=mA f) (by rw[<-l];exact r f);exact di8 I.kIn O (c.get f) c.hd n hu (cx8 ru) (h u _ (I.tok _) ru)
def at7(I:Inv X pins σ H s)(e:H a=some (.ins C dx fs))(c:Cls X.K C)(k:dq3 X.K C m g)(l:fs.lookup m=none)
 (h:Q (.ref g,[.ref a]) s):wpAny (model X.prog X.w) A (getMethod (.ref a) m pl) Q E s:=by
 obtain⟨mA,O,r,_,_,_⟩:=bn0 I.hok e;have hn:mA m=none:=RelO.none_of (by rw[<-l];exact r m);exact cp9 I.kIn O (c.get m) k.at_ k.fn hn h
def co2(I:Inv X pins σ H s)(e:H a=some (.ins C dx fs))(c:Cls X.K C)(n:NoAttr X.K C f)(hl:fs.length<1000)(ry:RelV y u)
 (h:∀s',Inv X pins σ (upd H a (.ins C dx (mB f y fs))) s'->Q () s'):wpAny (model X.prog X.w) A (setAttr (.ref a) f u) Q E s:=by
 obtain⟨mA,O,r,wi,_,ho⟩:=bn0 I.hok e;have hz:(fs.map (·.1)).length<=sizeLine:=by rw[B5,D9];omega
 refine do8 I.kIn O c.sa c.po n.taker c.hd wi hz λh' O' sb=>h _ ?_;have hd:∃o,h'.get? dx=some o:=let⟨o,_,_,e',_⟩:=O'.ns;⟨o,e'⟩
 refine I.write (x:=a) (e:=dx) (by rw[e];exact True.intro) (.inr ho) (λb q hb z=>(sb.2 b hb).trans z) hd ?_;refine⟨by rw[cV O.ne];exact ho,?_,O.ne,O'.obj,_,O'.ns,λg=>?_,λg hg=>?_⟩
 . have:=aa6 f y fs;omega
 . show RelO ((mB f y fs).lookup g) (if g=f then some u else mA g);rw[ak5];by_cases q:g=f
   . rw[E6 q,E6 q];exact ry
   . rw[E5 q,E5 q];exact r g
 . by_cases q:g=f
   . rw[q];exact(as3 f y fs).1
   . refine(as3 f y fs).2 g (wi g λz=>hg ?_);show(if g=f then some u else mA g)=none;rw[E5 q];exact z
def Inv.made(I:Inv X pins σ H s):Inv X pins σ (upd (upd H s.heap.objs.size (.own (s.heap.objs.size+1))) (s.heap.objs.size+1) (.ins C s.heap.objs.size []))
 {s with heap:=(s.heap.push PySem.W.emptyDict).push (PySem.W.instObj C s.heap.objs.size)}:=by
 have e1:(s.heap.push PySem.W.emptyDict).get? s.heap.objs.size=some PySem.W.emptyDict:=D5 s.heap rfl;have e2:((s.heap.push PySem.W.emptyDict).push (PySem.W.instObj C s.heap.objs.size)).get? (s.heap.objs.size+1)=some (PySem.W.instObj C s.heap.objs.size):=by have:=D5 (s.heap.push PySem.W.emptyDict) (o:=PySem.W.instObj C s.heap.objs.size) rfl;rwa[M3]at this
 have e3:(s.heap.push PySem.W.emptyDict).Ns s.heap.objs.size (λ_=>none):=⟨PySem.W.emptyDict,#[],_,e1,rfl,(λe he=>B0 he W0),λ_=>rfl⟩;have I1:=I.laid (a:=s.heap.objs.size) (o:=.own (s.heap.objs.size+1)) (h':=s.heap.push PySem.W.emptyDict) (t':=s.toks) (λb u q=>A9 _ q) (D6 _) ⟨_,e1⟩;refine I1.laid (a:=s.heap.objs.size+1) (o:=.ins C s.heap.objs.size []) (t':=s.toks) (λb u q=>A9 _ q) (Nat.le_of_eq (M3 _ _)) ?_;have ne:s.heap.objs.size≠s.heap.objs.size+1:=G6 (Q6 _);refine⟨by rw[cV ne,fR],L7 _,ne,e2,λ_=>none,(Heap.Ns1.of_empty e3).at λo q=>A9 _ q,λ_=>True.intro,λy hy=>B0 rfl hy⟩
def dr8(hb:attributeBase e f env (eval e env)=eval e env)
 (h:wpAny (model prog w) A (eval e env) (λo s₁=>wpAny (model prog w) A (getAttr o f true) Q E s₁) E s):wpAny (model prog w) A (eval (.Attribute e f pos) env) Q E s:=
 Attribute_any_ h (by rw[arm_eval_Attribute,hb])
end
def dq1(K:A1)(ta:TE)(f:Str):TE:=λσ H Q=>ta σ H λx H1=>∃a C dx fs v,x=.ref a/\H1 a=some (.ins C dx fs)/\Cls K C/\NoAttr K C f/\fs.lookup f=some v/\Q v H1
def du0(K:A1)(ta tv:TE)(f:Str):TS:=λD σ H=>tv σ H λy H1=>ta σ H1 λx H2=>∃a C dx fs,x=.ref a/\H2 a=some (.ins C dx fs)/\Cls K C/\NoAttr K C f/\fs.length<1000/\
 D.nx σ (upd H2 a (.ins C dx (mB f y fs)))
section
variable{X:Cx}{o e value:Expr}{f:Str}{pos pos' tpos:Pos}{ta tv:TE}
def ev3(he:PE X e ta)(hb:attributeBase e f X.env (eval e X.env)=eval e X.env):PE X (.Attribute e f pos) (dq1 X.K ta f):=by intro pins s σ H Q I h;refine dr8 hb (jH (he s σ H _ I h) λu s1 x H1 I1 rx qq=>?_);obtain⟨a,C,dx,fs,v,ex,ea,c,n,l,q⟩:=qq;subst ex;obtain rfl:u=Value.ref a:=rx;exact cf4 I1 ea c n l λu' s2 I2 ru=>⟨v,H1,I2,ru,q⟩
def eq4(ha:PE X o ta)(hv:PE X value tv)(hs:swapsWith value (some (.Attribute o f pos')) pos.line X.env=pure false):PS X (.Assign [.Attribute o f pos'] value pos) (du0 X.K ta tv f):=by intro pins s σ H D I h;refine plainObj_wpAny_Assign_Attribute (jH (hv s σ H _ I h) λu s1 y H1 I1 ry q=>jH (ha s1 σ H1 _ I1 q) λov s2 x H2 I2 rx qq=>?_) hs;obtain⟨a,C,dx,fs,ex,ea,c,n,l,q2⟩:=qq;subst ex;obtain rfl:ov=Value.ref a:=rx;exact co2 I2 ea c n l ry λs3 I3=>⟨σ,_,I3,q2⟩
end
section
variable{X:Cx}{pins:List (Addr × Obj)}{σ:St}{H:Hp}{s:B7}{A:J5}{E:Value->B7->Prop}{Q:Value->B7->Prop}{c:Value}{b:Bool}
end
structure Room (k:Nat) (A:J5):Prop where
 hd:A.handled=none
 dp:A.depth+3*k+5<recursionLimit
 un:A.units+16*k+200<cLine
def Room.mono(r:Room k A)(h:j<=k):Room j A:=⟨r.hd,by have:=r.dp;omega,by have:=r.un;omega⟩
theorem Room.deeper(r:Room (k+1) A)(env:Env):Room k (A.deeper env):=
 ⟨r.hd,by have:=r.dp;show A.depth+1+3*k+5<_;omega,by have:=r.un;show A.units+3+16*k+200<_;omega⟩
def cc3{A:J5}{C:Addr}{us:List Value}{kw:List (Str×Value)}:(A.under (.builtin "type.__call__" ⟨.ref C::us,kw⟩)).depth=A.depth+1:=by first|rfl|simp[Around.under,Code.weight,Code.isCreation,Code.isGuard,Code.isCaller,Code.frames,Code.isFrame,guardIds]
def cr2{A:J5}{C:Addr}{us:List Value}{kw:List (Str×Value)}:(A.under (.builtin "type.__call__" ⟨.ref C::us,kw⟩)).units=A.units+1:=by first|rfl|simp[Around.under,Code.cUnits,Code.frames,Code.isFrame]
def Room.make(r:Room (k+1) A)(C:Addr)(us:List Value)(kw:List (Str×Value)):Room k (A.under (.builtin "type.__call__" ⟨.ref C::us,kw⟩)):=
 ⟨r.hd,by have:=r.dp;rw[cc3];omega,by have:=r.un;rw[cr2];omega⟩
theorem Room.depth(r:Room k A):A.depth<recursionLimit:=by have:=r.dp;omega
theorem Room.units(r:Room k A):A.units+64<cLine:=by have:=r.un;omega
def Room.units0(r:Room k A):A.units<cLine:=by have:=r.un;omega
def az1:TA:=λ_ H Q=>Q [] H
def wS(ta:TE)(tr:TA):TA:=λσ H Q=>ta σ H λx H1=>tr σ H1 λxs H2=>Q (x::xs) H2
section
variable{X:Cx}{e:Expr}{es:List Expr}{te:TE}{t:TA}{pos:Pos}
def kH:PA X [] az1:=λ_ _ _ _ H Q I h=>Calls.spliced_nil ⟨[],H,I,.nil,h⟩
def aF(ha:PE X e te)(hr:PA X es t)(hs:starEach (e::es) X.env=(false,eval e X.env)::starEach es X.env:=by rfl):PA X (e::es) (wS te t):=by intro pos pins s σ H Q I h;rw[hs];show wpAny _ _ (spliced ((false,eval e X.env)::backTo pos (starEach es X.env))) _ _ s;refine Calls.spliced_cons (jH (ha s σ H _ I h) λu s1 x H1 I1 r1 q1=>?_);exact xW (hr pins s1 σ H1 _ I1 q1) λus s2 xs H2 I2 r2 q2=>⟨x::xs,H2,I2,.cons r1 r2,q2⟩
def er4(t:TA):TE:=λσ H Q=>t σ H λxs H1=>xs.length<=sizeLine/\∀p,H1 p=none->Q (.ref p) (upd H1 p (.tup xs))
def es3(t:TA):TE:=λσ H Q=>t σ H λxs H1=>xs.length<=sizeLine/\∀p,H1 p=none->Q (.ref p) (upd H1 p (.lst xs))
def bT{x1}(h:PA X es t):PE X (.Tuple es x1 pos) (er4 t):=by intro pins s σ H Q I hq;refine wpAny_Tuple_spliced (xW (h pins s σ H _ I hq) λus s1 xs H1 I1 r ⟨z,q⟩=>⟨by rw[<-r.length];exact z,?_⟩);have hf:H1 s1.heap.objs.size=none:=I1.hok.fresh (D6 _);refine⟨.ref s1.heap.objs.size,upd H1 s1.heap.objs.size (.tup xs),I1.laid (t':=s1.toks) (λb u e=>A9 _ e) (D6 _) ?_,rfl,q _ hf⟩;exact⟨z,us,r,⟨_,D5 _ rfl,rfl,_,rfl⟩⟩
def cT(h:PA X es t):PE X (.List es pos) (es3 t):=by intro pins s σ H Q I hq;refine wpAny_List_spliced (xW (h pins s σ H _ I hq) λus s1 xs H1 I1 r ⟨z,q⟩=>⟨by rw[<-r.length];exact z,?_⟩);have hf:H1 s1.heap.objs.size=none:=I1.hok.fresh (D6 _);refine⟨.ref s1.heap.objs.size,upd H1 s1.heap.objs.size (.lst xs),I1.laid (t':=s1.toks) (λb u e=>A9 _ e) (D6 _) ?_,rfl,q _ hf⟩;exact⟨z,us,0,r,D5 _ rfl⟩
end
abbrev Sp:=List V->Hp->VK->XK->Prop
abbrev CXT:=List Env->Hp->B7->XK->Value->B7->Prop
structure Env0 (P:F9) (w:World) (K:A1) (mg:Str->Option Value) (base:Heap) (A:J5) (outer:List Env) (s:B7) (H:Hp):Prop where
 frames:A.frames=some outer
 mod:Mod K mg base
 bs:∀b o,base.get? b=some o->s.heap.get? b=some o/\H b=none
 bsz:base.objs.size<=s.heap.objs.size
 funs:s.heap.FunFrames base outer
 frf:∀b∈zY outer,H b=none
 hok:HOk P w H s.heap
 bare:AllBare s.gens
def CE(outer:List Env)(P:F9)(w:World)(H:Hp)(s:B7)(Q:VK)(u:Value)(s':B7):Prop:=
 ∃v H',s'.os=s.os/\AllBare s'.gens/\Un (zY outer) [] H H' s.heap s'.heap/\HOk P w H' s'.heap/\RelV v u/\Q v H'
def CR(CX:CXT)(outer:List Env)(P:F9)(w:World)(H:Hp)(s:B7)(Q:VK)(E:XK)(r:Result)(s':B7):Prop:=
 match r with
 |.ok (.ret u)=>CE outer P w H s Q u s'
 |.ok _=>False
 |.error e=>CX outer H s E e s'
structure FnOk (P:F9) (w:World) (K:A1) (mg:Str->Option Value) (base:Heap) (CX:CXT) (k:Nat) (f:Addr) (fd:FuncData) (ps:List Str) (sp:Sp):Prop where
 len:∀vs H Q E,sp vs H Q E->vs.length=ps.length
 run:∀(A:J5)(outer:List Env)(s:B7)(H:Hp)(args:Args)(us:List Value)(vs:List V)(Q:VK)(E:XK),Room k A->Env0 P w K mg base A outer s H->BindsTo s fd args (ps.zip us)->Vals vs us->sp vs H Q E->
  codeAny (model P w) A (.call (.ref f) args) (CR CX outer P w H s Q E) s
theorem FnOk.mono{P:F9}{w:World}{K:A1}{mg:Str->Option Value}{base:Heap}{CX:CXT}{j k:Nat}{f:Addr}{fd:FuncData}{ps:List Str}{sp:Sp}(F:FnOk P w K mg base CX j f fd ps sp)(h:j<=k):
 FnOk P w K mg base CX k f fd ps sp:=⟨F.len,λA outer s H args us vs Q E hr=>F.run A outer s H args us vs Q E (hr.mono h)⟩
def FnOk.imp{P:F9}{w:World}{K:A1}{mg:Str->Option Value}{base:Heap}{CX:CXT}{k:Nat}{f:Addr}{fd:FuncData}{ps:List Str}{sp sp':Sp}(F:FnOk P w K mg base CX k f fd ps sp)
 (h:∀vs H Q E,sp' vs H Q E->sp vs H Q E):FnOk P w K mg base CX k f fd ps sp':=
 ⟨λvs H Q E q=>F.len vs H Q E (h _ _ _ _ q),λA outer s H args us vs Q E hr he hb hv hs=>F.run A outer s H args us vs Q E hr he hb hv (h _ _ _ _ hs)⟩
def Env0.make{P:F9}{w:World}{K:A1}{mg:Str->Option Value}{base:Heap}{A:J5}{outer:List Env}{s:B7}{H:Hp}(e:Env0 P w K mg base A outer s H)(C:Addr)(us:List Value)(kw:List (Str×Value)):
 Env0 P w K mg base (A.under (.builtin "type.__call__" ⟨.ref C::us,kw⟩)) outer s H:=⟨by first|exact e.frames|(simpa[Around.under,Code.envs,Code.isFrame,pushEnvs]using e.frames),e.mod,e.bs,e.bsz,e.funs,e.frf,e.hok,e.bare⟩
section
variable{X:Cx}{pins:List (Addr × Obj)}{σ:St}{H:Hp}{s s':B7}
def Inv.env0(I:Inv X pins σ H s):Env0 X.prog X.w X.K X.mg X.base X.A X.stack s H:=
 ⟨I.ok.frames,I.ok.mod,I.bs,J2 I.ok.bsz I.sz,I.stack,I.stkFree,I.hok,I.bare⟩
def Inv.after(I:Inv X pins σ H s)(h:CE X.stack X.prog X.w H s Q u s'):EP X pins σ Q u s':=by obtain⟨v,H',os,bare,un,hok,r,q⟩:=h;obtain⟨hh,g,d,t,os'⟩:=s';obtain rfl:os'=s.os:=os;exact⟨v,H',I.call (h':=hh) (g':=g) (d':=d) (t':=t) (ch:=[]) un hok bare (λb z=>B0 z W0),r,q⟩
end
def eg6(sp:Sp)(dvs:List V)(E:XK)(t:TA):TE:=λσ H Q=>t σ H λvs H1=>sp (vs++dvs) H1 Q E
def cw3(C:Addr)(sp:Sp)(dvs:List V)(E:XK)(t:TA):TE:=λσ H Q=>t σ H λvs H1=>∀x dx,H1 x=none->H1 dx=none->dx≠x->
 sp (.ref x::(vs++dvs)) (upd (upd H1 dx (.own x)) x (.ins C dx [])) (λv H2=>v=.non/\Q (.ref x) H2) E
def Binds(K:A1)(fd:FuncData)(ps:List Str)(ds:List Value):Prop:=
 ∀(s:B7)(us:List Value),K.In s.heap->(us++ds).length=ps.length->BindsTo s fd ⟨us,[]⟩ (ps.zip (us++ds))
def Binds.all{K:A1}{fd:FuncData}{ps:List Str}(h:∀us:List Value,us.length=ps.length->bindArgs fd ⟨us,[]⟩=pure (ps.zip us)):Binds K fd ps []:=λs us _ hl=>by rw[K3]at hl⊢;exact .of_eq (h us hl)
def aa3(CX:CXT)(X:Cx)(E:XK):Prop:=∀(pins:List (Addr×Obj))(σ:St)(H:Hp)(s:B7)(e:Value)(s':B7),Inv X pins σ H s->CX X.stack H s E e s'->X.xe e s'
section
variable{X:Cx}{CX:CXT}{k:Nat}{f C:Addr}{fd:FuncData}{ps:List Str}{sp:Sp}{dvs:List V}{ds:List Value}{E:XK}{x m:Str}{p pos apos:Pos}{e o:Expr}{es:List Expr}{ta:TE}{t:TA}
theorem an8(F:FnOk X.prog X.w X.K X.mg X.base CX k f fd ps sp)(hr:Room k X.A)(hb:Binds X.K fd ps ds)(hd:Vals dvs ds)(hx:aa3 CX X E)
 (I:Inv X pins σ H s)(r:Vals vs us)(h:sp (vs++dvs) H Q E):wpAny (model X.prog X.w) X.A (call (.ref f) us) (EP X pins σ Q) X.xe s:=by
 have r2:Vals (vs++dvs) (us++ds):=r.append hd;have hl:(us++ds).length=ps.length:=by rw[<-r2.length];exact F.len _ _ _ _ h
 refine wpAny_call (R8 (F.run X.A X.stack s H ⟨us,[]⟩ (us++ds) (vs++dvs) Q E hr I.env0 (hb s us I.kIn hl) r2 h) λr s' hq=>?_);cases r with
 |error e=>exact hx pins σ H s e s' I hq
 |ok fl=>
  cases fl with
  |ret u=>exact I.after hq
  |next=>exact False.elim hq
  |brk=>exact False.elim hq
  |cont=>exact False.elim hq
def dv7(F:FnOk X.prog X.w X.K X.mg X.base CX k f fd ps sp)(hr:Room k X.A)(hg:Gl X x)(hm:X.mg x=some (.ref f))(hk:PySem.W.keepIn X.K (.ref f)=true)(hb:Binds X.K fd ps ds)(hd:Vals dvs ds)(hx:aa3 CX X E)
 (ha:PA X (e::es) t)(hdb:(x==("__debug__":Str))=false:=by decide)(he:starEach (e::es) X.env=(false,eval e X.env)::starEach es X.env:=by rfl)(hpl:(backTo pos (starEach es X.env)).any (·.1)=false:=by rfl):
 PE X (.Call (.Name x p) (e::es) [] pos) (eg6 sp dvs E t):=by
 intro pins s σ H Q I h;refine O6 (zX I hg hm ?_ hdb);refine R7 (h₀:=X.base) I.ok.mod.kin hk (xW (ha pins s σ H _ I h) λus s1 vs H1 I1 r q=>⟨I1.kIn,?_⟩) he hpl;exact an8 F hr hb hd hx I1 r q
structure Mk (K:A1) (C f:Addr):Prop where
 makes:PySem.W.makesIn K C=true
 init:PySem.W.findIn K (.ref C) "__init__"=some (some (.ref f))
 fn:PySem.W.isFn K (.ref f)=true
 kp:PySem.W.keepIn K (.ref C)=true
theorem dk2(M:Mk X.K C f)(F:FnOk X.prog X.w X.K X.mg X.base CX k f fd ps sp)(hr:Room (k+1) X.A)(hb:Binds X.K fd ps ds)(hd:Vals dvs ds)
 (hx:aa3 CX X E)(I:Inv X pins σ H s)(r:Vals vs us)
 (h:∀x dx,H x=none->H dx=none->dx≠x->sp (.ref x::(vs++dvs)) (upd (upd H dx (.own x)) x (.ins C dx [])) (λv H2=>v=.non/\Q (.ref x) H2) E):
 wpAny (model X.prog X.w) X.A (call (.ref C) us) (EP X pins σ Q) X.xe s:=by
 have hq:=h (s.heap.objs.size+1) s.heap.objs.size (I.hok.fresh (Nat.le_succ _)) (I.hok.fresh (D6 _)) (G6 (Q6 _));have I2:=Inv.made (C:=C) I;have r2:Vals (V.ref (s.heap.objs.size+1)::(vs++dvs)) (Value.ref (s.heap.objs.size+1)::(us++ds)):=.cons rfl (r.append hd);have hl:(Value.ref (s.heap.objs.size+1)::us++ds).length=ps.length:=by have e:=r2.length;rw[F.len _ _ _ _ hq]at e;exact e.symm
 refine wpAny_call (dv0 (f:=f) I.kIn M.makes M.init (Q5.mp M.fn) (R8 (F.run _ X.stack _ _ ⟨Value.ref (s.heap.objs.size+1)::us,[]⟩ (Value.ref (s.heap.objs.size+1)::(us++ds)) _ _ E (hr.make C us [])
  (I2.env0.make C us []) (hb _ (Value.ref (s.heap.objs.size+1)::us) I2.kIn hl) r2 hq) λr s' hq'=>?_))
 cases r with
 |error e=>exact hx pins σ _ _ e s' I2 hq'
 |ok fl=>
  cases fl with
  |ret u=>obtain⟨v,H',I3,rv,ev,q3⟩:=I2.after hq';subst ev;exact⟨rv,⟨V.ref (s.heap.objs.size+1),H',I3,rfl,q3⟩⟩
  |next=>exact False.elim hq'
  |brk=>exact False.elim hq'
  |cont=>exact False.elim hq'
def dk9(M:Mk X.K C f)(F:FnOk X.prog X.w X.K X.mg X.base CX k f fd ps sp)(hr:Room (k+1) X.A)(hg:Gl X x)(hm:X.mg x=some (.ref C))(hb:Binds X.K fd ps ds)(hd:Vals dvs ds)(hx:aa3 CX X E)
 (ha:PA X (e::es) t)(hdb:(x==("__debug__":Str))=false:=by decide)(he:starEach (e::es) X.env=(false,eval e X.env)::starEach es X.env:=by rfl)(hpl:(backTo pos (starEach es X.env)).any (·.1)=false:=by rfl):
 PE X (.Call (.Name x p) (e::es) [] pos) (cw3 C sp dvs E t):=by
 intro pins s σ H Q I h;refine O6 (zX I hg hm ?_ hdb);refine R7 (h₀:=X.base) I.ok.mod.kin M.kp (xW (ha pins s σ H _ I h) λus s1 vs H1 I1 r q=>⟨I1.kIn,?_⟩) he hpl;exact dk2 M F hr hb hd hx I1 r q
end
section
variable{X:Cx}{CX:CXT}{k:Nat}{f C:Addr}{fd:FuncData}{ps ks:List Str}{sp:Sp}{E:XK}{x m:Str}{p pos apos kpos:Pos}{e o:Expr}{es:List Expr}{kws:List Keyword}{te ta:TE}{t tk:TA}{nm:Option Str}
variable{g:List Value->List Value->List Value}{gV:List V->List V->List V}
end
structure bB (N P:List Str) (sc:Scope):Prop where
 kind:sc.kind=.function
 co:sc.isCoroutine=false
 gen:sc.isGenerator=false
 nd:N.Nodup
 pre:N.take P.length=P
 par:∀x∈P,sc.names.lookup x=some .local\/sc.names.lookup x=some .cell
 nofree:∀y∈sc.names,y.2≠ .free
theorem ba3{kindOf:Str->Option NameKind}{x:Str}:∀{binds:List (Str×Value)}{m:Str->Option Value},(∀v,(x,v)∉binds)->bindL kindOf binds m x=m x
 |[],_,_=>rfl
 |(n,v)::r,m,h=>by
  unfold bindL;rw[ba3 λw hw=>h w (A5 _ hw)];split
  . have:x≠n:=by rintro rfl;exact h v A7
    simp[this]
  . rfl
theorem be3{kindOf:Str->Option NameKind}{x:Str}:∀{binds:List (Str×Value)}{m:Str->Option Value},(∀v,(x,v)∉binds)->bindC kindOf binds m x=m x
 |[],_,_=>rfl
 |(n,v)::r,m,h=>by
  unfold bindC;rw[be3 λw hw=>h w (A5 _ hw)];split
  . rfl
  . have:x≠n:=by rintro rfl;exact h v A7
    simp[this]
theorem bs2{kindOf:Str->Option NameKind}{x:Str}{v:Value}:∀{P:List Str}{vs:List Value}{i:Nat}{m:Str->Option Value},P.Nodup->P[i]?=some x->vs[i]?=some v->kindOf x=some .local->
 bindL kindOf (P.zip vs) m x=some v
 |[],_,_,_,_,h,_,_=>by simp at h
 |_::_,[],_,_,_,_,h,_=>by simp at h
 |p::P,w::vs,0,m,nd,h1,h2,hk=>by simp at h1 h2;subst h1;subst h2;show bindL kindOf ((p,w)::P.zip vs) m p=_;unfold bindL;rw[ba3 λv hv=>(E9.mp nd).1 (U9 hv).1,E6 hk];simp
 |p::P,w::vs,i+1,m,nd,h1,h2,hk=>by show bindL kindOf ((p,w)::P.zip vs) m x=_;unfold bindL;exact bs2 (i:=i) (E9.mp nd).2 (by simpa using h1) (by simpa using h2) hk
theorem bg3{kindOf:Str->Option NameKind}{x:Str}{v:Value}:∀{P:List Str}{vs:List Value}{i:Nat}{m:Str->Option Value},P.Nodup->P[i]?=some x->vs[i]?=some v->kindOf x≠some .local->
 bindC kindOf (P.zip vs) m x=some v
 |[],_,_,_,_,h,_,_=>by simp at h
 |_::_,[],_,_,_,_,h,_=>by simp at h
 |p::P,w::vs,0,m,nd,h1,h2,hk=>by simp at h1 h2;subst h1;subst h2;show bindC kindOf ((p,w)::P.zip vs) m p=_;unfold bindC;rw[be3 λv hv=>(E9.mp nd).1 (U9 hv).1,E5 hk];simp
 |p::P,w::vs,i+1,m,nd,h1,h2,hk=>by show bindC kindOf ((p,w)::P.zip vs) m x=_;unfold bindC;exact bg3 (i:=i) (E9.mp nd).2 (by simpa using h1) (by simpa using h2) hk
def start(N:List Str)(vs:List V):St:=vs.map some++List.replicate (N.length-vs.length) none
def nU(CX:CXT)(P:F9)(w:World)(K:A1)(mg:Str->Option Value)(base:Heap)(N:List Str)(qual:Str)(scope:Scope)(f:Addr)(cd:Value)(A:J5)(outer:List Env)(s:B7)(H:Hp)(E:XK):Cx where
 prog:=P
 w:=w
 K:=K
 mg:=mg
 base:=base
 A:=A.deeper (envOfC qual scope s.heap.objs.size f cd)
 N:=N
 s₀:=s
 H₀:=H
 env:=envOfC qual scope s.heap.objs.size f cd
 outer:=outer
 stack:=envOfC qual scope s.heap.objs.size f cd::outer
 ex:=[]
 calm:=true
 fn:=λ_=>true
 pn:=[]
 xe:=λe s'=>wpAny (model P w) (A.deeper (envOfC qual scope s.heap.objs.size f cd)) (leaving (envOfC qual scope s.heap.objs.size f cd) e) (λ_ s''=>CX outer H s E e s'') (λe' s''=>CX outer H s E e' s'') s'
def bd6{sc:Scope}{n:Nat}{x:Str}(h:sc.names.lookup x=some .cell):∃c,(cellsFrom n sc.names []).lookup x=some c:=by have q:=PySem.W.cellsFrom_some sc.names n [] (.inl h);exact Option.isSome_iff_exists.mp q
def cj8{CX:CXT}{P:F9}{w:World}{K:A1}{mg:Str->Option Value}{base:Heap}{N ps:List Str}{qual:Str}{scope:Scope}{f:Addr}{cd:Value}{A:J5}{outer:List Env}{s s1:B7}{H:Hp}{E:XK}{us:List Value}{vs:List V}
 (S:bB N ps scope)(hd:A.handled=none)(e0:Env0 P w K mg base A outer s H)(hl:vs.length=ps.length)(r:Vals vs us)
 (x:InCallC s s.heap.objs.size (bindL (envOfC qual scope s.heap.objs.size f cd).kindOf (ps.zip us) λ_=>none) (cellsFrom (s.heap.objs.size+1) scope.names []) (bindC (envOfC qual scope s.heap.objs.size f cd).kindOf (ps.zip us) λ_=>none) s1):
 Inv (nU CX P w K mg base N qual scope f cd A outer s H E) [] (start N vs) H s1:=by
 have hpl:ps.length<=N.length:=by have:=M6 List.length S.pre;rw[M4]at this;omega
 obtain⟨h1,tk,rfl,hk⟩:=x.done;have noA:∀b:Addr,b∉(nU CX P w K mg base N qual scope f cd A outer s H E).ex:=λb z=>B0 (show b∈([]:List Addr) from z) W0;refine⟨⟨e0.mod,S.kind,rfl,rfl,D6 _,λy z c h1 h2=>?_,λy hy=>?_,λy c _ h=>?_,λ_=>hd,Around.frames_deeper e0.frames,.inr ⟨rfl,rfl⟩,λb z=>B0 z (noA b),e0.bs,e0.bsz,λb _ _=>noA b,λb z=>B0 z (noA b),e0.funs,e0.frf⟩,
  rfl,e0.bare,Un.kept hk,⟨_,x.toInCall.ns,λi y v h1 h2 h3=>?_⟩,λy c h=>⟨_,x.cell y c h⟩,e0.hok.fresh (D6 _),λy c h=>?_,λp hp=>B0 (show p∈([]:List (Addr×Obj)) from hp) W0,e0.hok.kept hk,?_⟩
 . exact name_of_addr x.apart (P1 h1) (P1 h2)
 . have hy:scope.names.lookup y=some .cell\/scope.names.lookup y=some .free:=hy;rcases hy with hy|hy
   . exact bd6 hy
   . exact B0 rfl (S.nofree _ (P1 hy))
 . exact Nat.le_of_lt (x.above y c (P1 h))
 . have hi:i<vs.length:=by
    unfold start at h2;by_cases hi:i<vs.length
    . exact hi
    . rw[O9 (by simpa using hi)]at h2;rw[S5]at h2;split at h2<;>cases h2
   have ha:vs[i]?=some v:=by
    unfold start at h2;rw[V2 (by simpa using hi),F7]at h2;cases e:vs[i]? with
    |none=>rw[e]at h2;cases h2
    |some a=>rw[e]at h2;cases h2;rfl
   obtain⟨u,hu,rv⟩:=r.get ha;have hp:ps[i]?=some y:=by rw[<-S.pre,S2 V8];exact h1
   have ndP:ps.Nodup:=by rw[<-S.pre];exact S.nd.sublist (List.take_sublist _ _)
   refine⟨u,rv,?_⟩;rcases S.par y (C6 hp)with k|k
   . exact .inl ⟨k,bs2 ndP hp hu k⟩
   . obtain⟨c,e⟩:=bd6 (n:=s.heap.objs.size+1) k;refine .inr ⟨.inl k,c,e,?_⟩;have q:=x.cell y c e;rw[bg3 ndP hp hu (by show scope.names.lookup y≠_;rw[k];decide)]at q;exact q
 . exact e0.hok.fresh (Nat.le_of_lt (x.above y c (P1 h)))
 . unfold start;show _=N.length;rw[E7,B5,List.length_replicate];omega
theorem es8{CX:CXT}{P:F9}{w:World}{K:A1}{mg:Str->Option Value}{base:Heap}{k:Nat}{f:Addr}{name qual:Str}{params:Arguments}{body:List Stmt}{scope:Scope}{dV kV doc pm cdv ct oc:Value}{an od:Option Addr}
 {osl:Array (Option Value)}{N ps:List Str}{sp:Sp}(lk:K.lookup f=some ⟨oc,od,.func (PySem.W.fnOf name qual params body scope dV kV doc pm an cdv ct),osl⟩)(hcd:PySem.W.codeIn K cdv qual=true)(S:bB N ps scope)
 (len:∀vs H Q E,sp vs H Q E->vs.length=ps.length)
 (hbody:∀(A:J5)(outer:List Env)(s:B7)(H:Hp)(vs:List V)(Q:VK)(E:XK),Room k (A.deeper (envOfC qual scope s.heap.objs.size f cdv))->sp vs H Q E->
  ∃t,PSs (nU CX P w K mg base N qual scope f cdv A outer s H E) body t/\t {nx:=λ_ H'=>Q .non H',rt:=Q} (start N vs) H):
 FnOk P w K mg base CX (k+1) f (PySem.W.fnOf name qual params body scope dV kV doc pm an cdv ct) ps sp:=by
 refine⟨len,λA outer s H args us vs Q E hr e0 hb r hsp=>?_⟩;have hl:=len _ _ _ _ hsp;have KX:K.In s.heap:=e0.mod.kin.keeps λb o e=>(e0.bs b o e).1;have lim:s.heap.NoLimit:=e0.mod.nolimit.keeps λb o e=>(e0.bs b o e).1;have hkind:∀y∈ps.zip us,scope.names.lookup y.1=some .local\/(scope.names.lookup y.1=some .cell/\((cellsFrom (s.heap.objs.size+1) scope.names []).lookup y.1).isSome=true):=λ⟨n,v⟩ hy=>by
  rcases S.par n (U9 hy).1 with q|q
  . exact .inl q
  . exact .inr ⟨q,PySem.W.cellsFrom_some _ _ _ (.inl q)⟩
 refine codeAny_call_function hr.depth (KX _ _ lk) rfl S.co S.gen rfl (PySem.W.codeRec_of KX hcd) (hb _ _ _ _ ?_);refine wpAny_newFunctionEnv_cells S.kind hkind λenv he s1 x=>?_;subst he;refine⟨lim.keeps x.toInCall.keep,codeAny_func ?_⟩;obtain⟨t,ht,hq⟩:=hbody A outer s H vs Q E (hr.deeper _) hsp;have I:Inv (nU CX P w K mg base N qual scope f cdv A outer s H E) [] (start N vs) H s1:=cj8 S hr.hd e0 hl r x;refine M5 (ht s1 (start N vs) H _ I hq) (λfl s' hs=>?_) λe s' hs=>hs;have bU:∀{σ':St}{H':Hp}{v:V}{u:Value},Inv (nU CX P w K mg base N qual scope f cdv A outer s H E) [] σ' H' s'->RelV v u->Q v H'->CE outer P w H s Q u s':=
  λ{σ' H' v u} J rv q=>⟨v,H',J.os,J.bare,J.base,J.hok,rv,q⟩
 cases fl with
 |ret u=>obtain⟨v,σ',H',J,rv,q⟩:=hs;exact bU J rv q
 |next=>obtain⟨σ',H',J,q⟩:=hs;exact bU (v:=V.non) (u:=Value.none) J rfl q
 |brk=>obtain⟨_,_,_,q⟩:=hs;exact False.elim q
 |cont=>obtain⟨_,_,_,q⟩:=hs;exact False.elim q
section
variable{X:Cx}{x:Str}{p pos:Pos}{e:Expr}{es:List Expr}{t:TA}{id T:String}{r:List V->Hp->VK->Prop}
def tCB(r:List V->Hp->VK->Prop)(t:TA):TE:=λσ H Q=>t σ H λvs H1=>r vs H1 Q
def aR(hc:CallR X (.builtin id) r)(hg:Gl X x)(hm:X.mg x=none)(hv:bootBuiltins x=some (.builtin id))(ha:PA X (e::es) t)(hn:x≠"__name__":=by decide)(hdb:(x==("__debug__":Str))=false:=by decide)
 (he:starEach (e::es) X.env=(false,eval e X.env)::starEach es X.env:=by rfl)(hpl:(backTo pos (starEach es X.env)).any (·.1)=false:=by rfl):PE X (.Call (.Name x p) (e::es) [] pos) (tCB r t):=by
 intro pins s σ H Q I h;refine O6 (tJ I hg hm hv ?_ hn hdb);exact PyProof.Rows.callWith_builtin1 (xW (ha pins s σ H _ I h) λus s1 vs H1 I1 r1 q1=>hc s1 σ H1 vs us Q I1 r1 q1) he hpl
def jS(hc:CallR X (.type T) r)(hg:Gl X x)(hm:X.mg x=none)(hv:bootBuiltins x=some (.type T))(ha:PA X (e::es) t)(hn:x≠"__name__":=by decide)(hdb:(x==("__debug__":Str))=false:=by decide)
 (he:starEach (e::es) X.env=(false,eval e X.env)::starEach es X.env:=by rfl)(hpl:(backTo pos (starEach es X.env)).any (·.1)=false:=by rfl):PE X (.Call (.Name x p) (e::es) [] pos) (tCB r t):=by
 intro pins s σ H Q I h;refine O6 (tJ I hg hm hv ?_ hn hdb);exact L3 (xW (ha pins s σ H _ I h) λus s1 vs H1 I1 r1 q1=>hc s1 σ H1 vs us Q I1 r1 q1) he hpl
end
end L2
namespace HT
open PySem PyProof.Rows
def lexLt:List Int->List Int->Bool
 |[],[]=>false
 |[],_::_=>true
 |_::_,[]=>false
 |x::xs,y::ys=>if x=y then lexLt xs ys else decide (x<y)
theorem lexLt_cons(x y:Int)(xs ys:List Int):lexLt (x::xs) (y::ys)=if x=y then lexLt xs ys else decide (x<y):=rfl
theorem lexLt_nil_nil:lexLt [] []=false:=rfl
theorem lexLt_nil_cons(y:Int)(ys:List Int):lexLt [] (y::ys)=true:=rfl
theorem lexLt_cons_nil(x:Int)(xs:List Int):lexLt (x::xs) []=false:=rfl
def eqAt_int(A:J5)(s:B7)(a:Int)(t:Tok)(c:Int)(u:Tok):∃e,SeqAt.EqAt A s (.int a t) (.int c u) e/\(e=true↔a=c):=
 ⟨(a==c),SeqAt.EqAt.int_int a t c u,W0⟩
def rcLt_int(A:J5)(s:B7)(a:Int)(t:Tok)(c:Int)(u:Tok)(prog:F9)(w:World)(E:Value->B7->Prop)(Q:Value->B7->Prop)(h:Q (.bool (decide (a<c))) s):
 wpAny (model prog w) A (richCompare .Lt (.int a t) (.int c u)) Q E s:=
 (PyProof.Rows.lt_int h:wpAny (model prog w) A (compareOp .Lt (.int a t) (.int c u)) Q E s)
section
open PySem.SeqAt
open PySem.AutoSeq1 (wpAny_loadPart')
open PySem.MeetsSeq PySem.MeetsSeq2 PySem.MeetsSeq3
def tuple_lt_ints(l b:Addr)(items items2:Array Value)(n n2:Nat)(dd dd2:Option Addr)(sl sl2:Array (Option Value))(ns ms:List Int)(hi:IntsAre items.toList ns)(hj:IntsAre items2.toList ms):
 Meets (Builtin.«tuple.__lt__» ⟨[.ref l,.ref b],[]⟩)
  (λ_ R s=>s.heap.get? l=some {cls:=.type "tuple",dict:=dd,data:=.seq items n,slots:=sl}/\s.heap.get? b=some {cls:=.type "tuple",dict:=dd2,data:=.seq items2 n2,slots:=sl2}/\
   R (.ok (.ret (.bool (lexLt ns ms)))) s):=
 .of_wp λprog w A R s h=>by
  obtain⟨hp,g,d,tk,os⟩:=s;obtain⟨hl,hb,h⟩:=h;have f2:=AutoSeq1.sub_tuple_tuple;have z1:items.size=ns.length:=by rw[<-hi.length];simp
  have z2:items2.size=ms.length:=by rw[<-hj.length];simp
  wp_walk using wpAny_loadPart' hl,wpAny_loadPart' hb,wpAny_forIn_list _ (λrest b s'=>b.1=none/\s'=⟨hp,g,d,tk,os⟩/\∃(vs ws:List Value)(ns' ms':List Int),rest=vs.zip ws/\
   IntsAre vs ns'/\IntsAre ws ms'/\ns'.length+items2.size=ms'.length+items.size/\R (.ok (.ret (.bool (lexLt ns' ms')))) ⟨hp,g,d,tk,os⟩) _
  case turn=>
   rintro⟨y,x⟩ rest b s' ⟨hb',rfl,vs,ws,ns',ms',hz,hvi,hwi,hlen,hR⟩;cases hvi with
   |nil=>rw[List.zip_nil_left]at hz;cases hz
   |cons a t hvi'=>
    cases hwi with
    |nil=>rw[List.zip_nil_right]at hz;cases hz
    |cons c u hwi'=>
     rw[N7]at hz;injection hz with hyx hrest;injection hyx with hy hx;subst hy hx;rw[lexLt_cons]at hR;simp only[List.length_cons]at hlen;obtain⟨e,he,hiff⟩:=eqAt_int A.in1 ⟨hp,g,d,tk,os⟩ a t c u;refine A4 (he prog w _ _ ?_);cases e with
     |true=>
      rw[E6 (hiff.mp rfl)]at hR
      wp_walk
      exact⟨rfl,rfl,_,_,_,_,hrest,hvi',hwi',V8,hR⟩
     |false=>
      rw[E5 (λq=>B0 (hiff.mpr q) E1)]at hR;have hri:=rcLt_int A.in1 ⟨hp,g,d,tk,os⟩ a t c u prog w
      wp_walk using hri
      exact⟨_,rfl,by simpa using hR⟩
  case fin=>
   rintro⟨b1,b2⟩ s' ⟨hb',rfl,vs,ws,ns',ms',hz,hvi,hwi,hlen,hR⟩;simp only at hb';subst hb';have hv:lexLt ns' ms'=decide (items.size<items2.size):=by
    cases hvi with
    |nil=>
     cases hwi with
     |nil=>simp only[List.length_nil]at hlen;rw[lexLt_nil_nil];exact(E2 V8).symm
     |cons c u hw=>simp only[List.length_nil,List.length_cons]at hlen;rw[lexLt_nil_cons];exact(F8 V8).symm
    |cons a t hv=>
     cases hwi with
     |nil=>simp only[List.length_nil,List.length_cons]at hlen;rw[lexLt_cons_nil];exact(E2 V8).symm
     |cons c u hw=>rw[N7]at hz;cases hz
   rw[hv]at hR
   wp_walk
   exact⟨_,rfl,by simpa[Builtin.Tuple.tupleCompareSizes]using hR⟩
  case h=>
   exact⟨rfl,rfl,items.toList,items2.toList,ns,ms,rfl,hi,hj,V8,h⟩
end
section
variable{prog:F9}{w:World}{A:J5}{E:Value->B7->Prop}{s:B7}
def lt_tupInts(hl:IsTup s.heap l items)(hb:IsTup s.heap b items2)(hi:IntsAre items.toList ns)(hj:IntsAre items2.toList ms)
 (hu:A.units<cLine)(h:Q (.bool (lexLt ns ms)) s):wpAny (model prog w) A (compareOp .Lt (.ref l) (.ref b)) Q E s:=by
 obtain⟨⟨cls,dd,data,sl⟩,ho,hc,n,hd⟩:=id hl;obtain⟨⟨cls2,dd2,data2,sl2⟩,ho2,hc2,n2,hd2⟩:=id hb;simp only at hc hd hc2 hd2;subst hc hd hc2 hd2;exact richCompare_meets_room (op:=.Lt) ⟨_,ho,rfl⟩ ⟨_,ho2,rfl⟩ PySem.F.slot_tuple_lt PySem.F.entry_tuple_lt (PySem.F.args_tuple_lt_2 _ _) (tuple_lt_ints l b items items2 n n2 dd dd2 sl sl2 ns ms hi hj)
  ⟨ho,ho2,show Value.bool (lexLt ns ms)≠Value.notImplemented/\Q (.bool (lexLt ns ms)) s from⟨(λx=>nomatch x),h⟩⟩ hu
def cat_tup(ht:IsTup s.heap t vs.toArray)(hb:IsTup s.heap b ws.toArray)(hv:vs≠[])
 (h1:ws=[]->Q (.ref t) s)(h2:ws≠[]->Q (.ref s.heap.objs.size) {s with heap:=s.heap.push {cls:=.type "tuple",data:=.seq (vs++ws).toArray}})
 (hsz:vs.length+ws.length<=sizeLine):wpAny (model prog w) A (binaryOp .Add (.ref t) (.ref b)) Q E s:=by
 obtain⟨⟨cls,dd,data,sl⟩,ho,hc,n,hd⟩:=id ht;obtain⟨⟨cls2,dd2,data2,sl2⟩,ho2,hc2,n2,hd2⟩:=id hb;simp only at hc hd hc2 hd2;subst hc hd hc2 hd2;have e:vs.toArray++ws.toArray=(vs++ws).toArray:=W0
 by_cases hw:ws=[]
 . exact concat_meets ⟨_,ho,rfl⟩ ⟨_,ho2,rfl⟩ noFill_tuple_add seq_tuple_add PySem.F.slot_tuple_add PySem.F.entry_tuple_add (PySem.F.args_tuple_add_2 _ _)
    (tuple_addW1 t b vs.toArray ws.toArray n n2 dd dd2 sl sl2 (by simpa using hv) (by simp[hw])) ⟨ho,ho2,h1 hw⟩
 . refine concat_meets ⟨_,ho,rfl⟩ ⟨_,ho2,rfl⟩ noFill_tuple_add seq_tuple_add PySem.F.slot_tuple_add PySem.F.entry_tuple_add (PySem.F.args_tuple_add_2 _ _)
    (tuple_addW2 t b vs.toArray ws.toArray n n2 dd dd2 sl sl2 (by simpa using hv) (by simpa using hw) (by rw[A8,A8];exact hsz)) ⟨ho,ho2,?_⟩
   rw[e];exact h2 hw
def sIx(n d:Nat):Option Int->Nat
 |none=>d
 |some v=>if v<0 then(v+(n:Int)).toNat else min v.toNat n
theorem sIx_none(n d:Nat):sIx n d none=d:=rfl
theorem sIx_le(n d:Nat)(hd:d<=n)(o:Option Int):sIx n d o<=n:=by
 cases o with
 |none=>exact hd
 |some v=>
  show(if v<0 then(v+(n:Int)).toNat else min v.toNat n)<=n;by_cases hv:v<0
  . rw[E6 hv];omega
  . rw[E5 hv];exact Nat.min_le_right _ _
def clip_eq(v:Int)(n d:Nat):(if v<0 then max (v+(n:Int)) 0 else min v (n:Int))=((sIx n d (some v):Nat):Int):=by
 show(if v<0 then max (v+(n:Int)) 0 else min v (n:Int))=(((if v<0 then(v+(n:Int)).toNat else min v.toNat n):Nat):Int);by_cases hv:v<0
 . simp only[if_pos hv];omega
 . simp only[if_neg hv];omega
def adjust_gen(lo hi:Option Int)(n:Nat):Builtin.Slice.sliceAdjust lo hi 1 (n:Int)=(((sIx n 0 lo:Nat):Int),((sIx n n hi:Nat):Int)):=by
 have h1:¬((1:Int)<0):=V8
 unfold Builtin.Slice.sliceAdjust;simp only[h1,if_false];refine Prod.ext ?_ ?_
 . cases lo with
   |none=>rfl
   |some v=>exact clip_eq v n 0
 . cases hi with
   |none=>rfl
   |some v=>exact clip_eq v n n
def places_gen(i j:Nat):Builtin.Slice.slicePlaces (i:Int) (j:Int) 1=j-i:=by
 unfold Builtin.Slice.slicePlaces;have h1:(1:Int)>0:=V8
 simp only[h1,if_true,Int.ediv_one];split<;>omega
theorem slicePart_(p:IsPart v o)(h:Q o s):wpAny (model prog w) A (Builtin.Slice.slicePartIndex v) Q E s:=by
 cases p with
 |none=>exact slicePart_none h
 |int i t=>exact slicePart_int h
def sliceApplied_gen{sl:Addr}{vl vu:Value}{lo hi:Option Int}{n:Nat}{Q:Int×Int×Nat->B7->Prop}(hs:s.heap.IsSliceOf sl vl vu .none)(pl:IsPart vl lo)(pu:IsPart vu hi)
 (h:Q (((sIx n 0 lo:Nat):Int),1,sIx n n hi-sIx n 0 lo) s):wpAny (model prog w) A (Builtin.Slice.sliceApplied (.ref sl) (pure (n:Int))) Q E s:=by
 obtain⟨os,hos,hcs,hds⟩:=id hs;unfold Builtin.Slice.sliceApplied Builtin.Slice.sliceFields;refine A4 (A4 (L4 hos hds (x:=vl) rfl (A4 (L4 hos hds (x:=vu) rfl (A4 (L4 hos hds (x:=.none) rfl (D4 ?_)))))));refine A4 (slicePart_none ?_);show wpAny _ _ (if((1:Int)==0)=true then _ else _) _ _ s;rw[E5 W1];refine A4 (slicePart_ pl (A4 (slicePart_ pu (A4 (D4 ?_)))));show wpAny _ _ (match Builtin.Slice.sliceAdjust lo hi 1 (n:Int)with|(lo,hi)=>pure (lo,(1:Int),Builtin.Slice.slicePlaces lo hi 1)) _ _ s;rw[adjust_gen lo hi n];show wpAny _ _ (pure (((sIx n 0 lo:Nat):Int),(1:Int),Builtin.Slice.slicePlaces ((sIx n 0 lo:Nat):Int) ((sIx n n hi:Nat):Int) 1)) _ _ s;rw[places_gen];exact D4 h
def pick_gen(xs:Array Value)(i k:Nat):((List.range k).filterMap λ(m:Nat)=>xs[((i:Int)+(m:Int)*1).toNat]?).toArray=((xs.toList.drop i).take k).toArray:=by
 have e:(λ(m:Nat)=>xs[((i:Int)+(m:Int)*1).toNat]?)=λm=>xs[i+m]?:=by
  funext m;have:((i:Int)+(m:Int)*1).toNat=i+m:=V8
  rw[this]
 rw[e];have:=pick_run xs i k;rw[List.filterMap_map]at this;have e2:((λx=>xs[x]?)∘λx=>i+x)=λm=>xs[i+m]?:=rfl;rw[e2]at this;rw[this]
def getItem_tuple_cut{t sl:Addr}{items:Array Value}{vl vu:Value}{lo hi:Option Int}{Q:Value->B7->Prop}(ht:IsTup s.heap t items)(hs:s.heap.IsSliceOf sl vl vu .none)(pl:IsPart vl lo)(pu:IsPart vu hi)
 (hw:¬(sIx items.size 0 lo=0/\sIx items.size items.size hi=items.size))
 (h:Q (.ref s.heap.objs.size) {s with heap:=s.heap.push {cls:=.type "tuple",data:=.seq ((items.toList.drop (sIx items.size 0 lo)).take (sIx items.size items.size hi-sIx items.size 0 lo)).toArray}})
 (hsz:items.size<=sizeLine):wpAny (model prog w) A (getItem (.ref t) (.ref sl)) Q E s:=by
 have htake:sizeOk (.seq ((items.toList.drop (sIx items.size 0 lo)).take (sIx items.size items.size hi-sIx items.size 0 lo)).toArray):=by show((items.toList.drop (sIx items.size 0 lo)).take (sIx items.size items.size hi-sIx items.size 0 lo)).toArray.size<=sizeLine;rw[A8,M4,U8,J1];omega
 have hj:sIx items.size items.size hi<=items.size:=sIx_le _ _ (D6 _) hi;obtain⟨os,hos,hcs,hds⟩:=id hs;have hTs:s.TypeIs (.ref sl) "slice":=⟨os,hos,hcs⟩;unfold getItem;try with_reducible refine R6 ?_
 first|refine A4 (D4 ?_)|skip
 refine A4 (wpAny_sequenceKey ht.typeIs W1 ?_);refine A4 (O0 (name:=Str.ofString "__getitem__") ht.typeIs Q4
  (R1 Q4 ht.typeIs entry_tuple_getitem ?_ (args_tuple_getitem _ _)))
 show wpAny _ _ (Builtin.Tuple.tupleItemsOf (.ref t)>>=_) _ _ s;refine A4 (tupleItemsOf_ ht ?_);refine A4 (wpAny_typeOf hTs ?_);rw[E6 W1];refine A4 (sliceApplied_gen hs pl pu ?_);have hno:¬((((sIx items.size 0 lo:Nat):Int)==0&&(1:Int)==1&&(sIx items.size items.size hi-sIx items.size 0 lo)==items.size)=true):=by intro q;rw[G1,G1]at q;have q1:((sIx items.size 0 lo:Nat):Int)=0:=eq_of_beq q.1.1;have q2:sIx items.size items.size hi-sIx items.size 0 lo=items.size:=eq_of_beq q.2;exact hw ⟨V8,V8⟩
 show wpAny _ _ (if(((sIx items.size 0 lo:Nat):Int)==0&&(1:Int)==1&&(sIx items.size items.size hi-sIx items.size 0 lo)==items.size)=true then _ else _) _ _ s;rw[E5 hno,pick_gen];first
  |exact A4 (m:=Builtin.Tuple.tupleExact _) (N3 (D4 ⟨_,rfl,D4 h⟩) htake)
  |exact A4 (m:=Builtin.Tuple.tupleExact _) (N3 (A4 (D4 (D4 ⟨_,rfl,D4 h⟩))) htake)
  |exact A4 (A4 (m:=Builtin.Tuple.tupleExact _) (N3 (D4 (D4 ⟨_,rfl,D4 h⟩)) htake))
  |exact A4 (A4 (m:=Builtin.Tuple.tupleExact _) (N3 (D4 ⟨_,rfl,D4 h⟩) htake))
end
end HT
namespace L2
abbrev TO:=St->Hp->(Option Int->Hp->Prop)->Prop
def PO(X:Cx)(e:Option Expr)(t:TO):Prop:=
 ∀⦃pins:List (Addr×Obj)⦄ (s:B7)(σ:St)(H:Hp)(Q:Option Int->Hp->Prop),Inv X pins σ H s->t σ H Q->
  wpAny (model X.prog X.w) X.A (evalPart e X.env) (λu s'=>∃o H',Inv X pins σ H' s'/\IsPart u o/\Q o H') X.xe s
def bu1:TO:=λ_ H Q=>Q none H
def cs3(t:TE):TO:=λσ H Q=>t σ H λx H1=>∃i,x=.int i/\Q (some i) H1
theorem tR:∀{us:List Value},Vals (ns.map V.int) us->IntsAre us ns:=by
 induction ns with
 |nil=>intro us r;rw[K2]at r;cases r;exact .nil
 |cons n ns ih=>
  intro us r;rw[B8]at r;cases r with
  |cons r1 r2=>obtain⟨t,e⟩:=r1;subst e;exact .cons n t (ih r2)
section
variable{X:Cx}{e:Expr}{te:TE}{lo hi:Option Expr}{tl th:TO}{pos p2:Pos}
def pA:PO X none bu1:=by intro pins s σ H Q I h;rw[evalPart_none];exact D4 ⟨none,H,I,.none,h⟩
def kP(h:PE X e te):PO X (some e) (cs3 te):=by intro pins s σ H Q I hw;rw[evalPart_some];refine jH (h s σ H _ I hw) λu s1 x H1 I1 r1 q1=>?_;obtain⟨i,rfl,q⟩:=q1;obtain⟨t,rfl⟩:=r1;exact⟨some i,H1,I1,.int i t,q⟩
def SlR(X:Cx)(r:V->Option Int->Option Int->Hp->VK->Prop):Prop:=
 ∀⦃pins:List (Addr×Obj)⦄ (s:B7)(σ:St)(H:Hp)(x:V)(v vl vu:Value)(lo hi:Option Int)(sl:Addr)(Q:VK),Inv X pins σ H s->RelV x v->s.heap.IsSliceOf sl vl vu .none->IsPart vl lo->IsPart vu hi->r x lo hi H Q->
  ∃T id,typeLookup (.type T) "__getitem__"=pure (some (.builtin id))/\s.TypeIs v T/\wpAny (model X.prog X.w) X.A (getItem v (.ref sl)) (EP X pins σ Q) X.xe s
def SlR.or(h:SlR X r)(h':SlR X r'):SlR X (λx lo hi H Q=>r x lo hi H Q\/r' x lo hi H Q):=by
 intro pins s σ H x v vl vu lo hi sl Q I rx hs pl pu q;rcases q with q|q
 . exact h s σ H x v vl vu lo hi sl Q I rx hs pl pu q
 . exact h' s σ H x v vl vu lo hi sl Q I rx hs pl pu q
def tSl(r:V->Option Int->Option Int->Hp->VK->Prop)(te:TE)(tl th:TO):TE:=λσ H Q=>te σ H λx H1=>tl σ H1 λl H2=>th σ H2 λu H3=>r x l u H3 Q
def kT(hr:SlR X r)(he:PE X e te)(hl:PO X lo tl)(hu:PO X hi th):PE X (.Subscript e (.Slice lo hi none p2) pos) (tSl r te tl th):=by intro pins s σ H Q I h;refine Subscript_ (jH (he s σ H _ I h) λv s1 x H1 I1 r1 q1=>?_);refine wpAny_Slice (kU (hl s1 σ H1 _ I1 q1) λvl s2 ⟨l,H2,I2,pl,q2⟩=>kU (hu s2 σ H2 _ I2 q2) λvu s3 ⟨u,H3,I3,pu,q3⟩=>?_);rw[evalPart_none];refine D4 ?_;have I4:Inv X pins σ H3 {s3 with heap:=s3.heap.push {cls:=.type "slice",data:=.fields #[vl,vu,.none]}}:=I3.kept (t':=s3.toks) λb ob q=>A9 _ q;obtain⟨T,id,hT,ht,hg⟩:=hr {s3 with heap:=s3.heap.push {cls:=.type "slice",data:=.fields #[vl,vu,.none]}} σ H3 x v vl vu l u s3.heap.objs.size Q I4 r1 (Heap.IsSliceOf.new ..) pl pu q3;show wpAny (model X.prog X.w) X.A (subscriptTail e (.Slice lo hi none p2) v (.ref s3.heap.objs.size)) (EP X pins σ Q) X.xe {s3 with heap:=s3.heap.push {cls:=.type "slice",data:=.fields #[vl,vu,.none]}};exact tail_any (ops:=[.ref s3.heap.objs.size,v]) ht hT hg W3
def zW(xs:List V)(lo hi:Option Int):List V:=(xs.drop (HT.sIx xs.length 0 lo)).take (HT.sIx xs.length xs.length hi-HT.sIx xs.length 0 lo)
def aw5(xs:List V)(lo hi:Option Int):(zW xs lo hi).length<=xs.length:=by unfold zW;rw[M4,U8];omega
def ej1(K:A1):V->Option Int->Option Int->Hp->VK->Prop:=λx lo hi H Q=>∃a xs,x=.ref a/\SqT K H a xs/\
 ¬(HT.sIx xs.length 0 lo=0/\HT.sIx xs.length xs.length hi=xs.length)/\∀p,H p=none->Q (.ref p) (upd H p (.tup (zW xs lo hi)))
def ev0:SlR X (ej1 X.K):=by
 intro pins s σ H x v vl vu lo hi sl Q I rx hs pl pu h;obtain⟨a,xs,rfl,hx,hw,q⟩:=h;cases rx;obtain⟨its,r,ht,hz⟩:=I.tuple hx;have hlen:its.toArray.size=xs.length:=by rw[A8];exact r.length.symm
 refine⟨"tuple",_,Q4.lookup,ht.typeIs,?_⟩;refine HT.getItem_tuple_cut ht hs pl pu (by rw[hlen];exact hw) ?_ (by rw[hlen];exact hz);rw[hlen];refine⟨.ref s.heap.objs.size,_,I.laid (t':=s.toks) (o:=.tup (zW xs lo hi)) (λb ob q=>A9 _ q) (D6 _) ?_,rfl,q _ (I.hok.fresh (D6 _))⟩;exact⟨J2 (aw5 xs lo hi) hz,_,(r.drop (HT.sIx xs.length 0 lo)).take (HT.sIx xs.length xs.length hi-HT.sIx xs.length 0 lo),IsTup.new _ _⟩
def ds1(K:A1):R2:=λx y H Q=>∃a b ns ms,x=.ref a/\y=.ref b/\SqT K H a (ns.map V.int)/\SqT K H b (ms.map V.int)/\Q (.bl (HT.lexLt ns ms)) H
def eb2(hu:X.A.units<cLine):OpR X (compareOp .Lt) (ds1 X.K):=by intro pins s σ H x y v u Q I rx ry h;obtain⟨a,b,ns,ms,rfl,rfl,ha,hb,q⟩:=h;cases rx;cases ry;obtain⟨its,r1,p1,_⟩:=I.tuple ha;obtain⟨its2,r2,p2,_⟩:=I.tuple hb;have i1:IntsAre its.toArray.toList ns:=tR r1;have i2:IntsAre its2.toArray.toList ms:=tR r2;exact HT.lt_tupInts p1 p2 i1 i2 hu ⟨.bl (HT.lexLt ns ms),H,I,rfl,q⟩
def dq5(K:A1):R2:=λx y H Q=>∃a b xs ys,x=.ref a/\y=.ref b/\SqT K H a xs/\SqT K H b ys/\xs≠[]/\xs.length+ys.length<=sizeLine/\
 (ys=[]->Q (.ref a) H)/\(ys≠[]->∀p,H p=none->Q (.ref p) (upd H p (.tup (xs++ys))))
theorem Vals.nil_iff(r:Vals xs us):us=[]↔xs=[]:=by
 cases r with
 |nil=>simp
 |cons _ _=>simp
def dc6:OpR X (binaryOp .Add) (dq5 X.K):=by intro pins s σ H x y v u Q I rx ry h;obtain⟨a,b,xs,ys,rfl,rfl,ha,hb,hx,hz,q1,q2⟩:=h;cases rx;cases ry;obtain⟨its,r1,p1,_⟩:=I.tuple ha;obtain⟨its2,r2,p2,_⟩:=I.tuple hb;refine HT.cat_tup p1 p2 (λz=>hx (r1.nil_iff.mp z)) (λz=>⟨.ref a,H,I,rfl,q1 (r2.nil_iff.mp z)⟩) (λz=>?_) (by rw[<-r1.length,<-r2.length];exact hz);refine⟨.ref s.heap.objs.size,_,I.laid (t':=s.toks) (o:=.tup (xs++ys)) (λb ob q=>A9 _ q) (D6 _) ?_,rfl,q2 (λw=>z (r2.nil_iff.mpr w)) _ (I.hok.fresh (D6 _))⟩;exact⟨by rw[E7];exact hz,_,r1.append r2,IsTup.new _ _⟩
end
def qG(n:Nat)(i:Int):Option Nat:=if 0<=i then(if i<n then some i.toNat else none)else if -(n:Int)<=i then some (i+n).toNat else none
def atI{α:Type}(xs:List α)(i:Int):Option α:=(qG xs.length i).bind λj=>xs[j]?
def br0(h:qG n i=some j):seqIndex? i n=some j/\j<n/\-(n:Int)<=i/\i<n:=by
 unfold qG at h;by_cases h0:0<=i
 . rw[E6 h0]at h;by_cases h1:i<n
   . rw[E6 h1]at h;have e:i.toNat=j:=E8 h;exact⟨by rw[seqIndex_of h0 h1,e],V8,V8,h1⟩
   . rw[E5 h1]at h;cases h
 . rw[E5 h0]at h;by_cases h1:-(n:Int)<=i
   . rw[E6 h1]at h;have e:(i+n).toNat=j:=E8 h;exact⟨by rw[seqIndex_neg V8 h1,e],V8,h1,V8⟩
   . rw[E5 h1]at h;cases h
theorem bu0(h:atI xs i=some v):∃j,seqIndex? i xs.length=some j/\xs[j]?=some v/\j<xs.length/\-(xs.length:Int)<=i/\i<xs.length:=by
 unfold atI at h;cases e:qG xs.length i with
 |none=>rw[e]at h;cases h
 |some j=>rw[e]at h;obtain⟨h1,h2,h3,h4⟩:=br0 e;exact⟨j,h1,h,h2,h3,h4⟩
def gR{α:Type}{xs:List α}{j:Nat}{v:α}(h:xs[j]?=some v):atI xs (j:Int)=some v:=by
 have hj:j<xs.length:=(C7.mp h).1;have e:qG xs.length (j:Int)=some j:=by unfold qG;rw[E6 V8,E6 V8];simp
 unfold atI;rw[e];exact h
def cg2(b:Expr):Prop:=∀o i,subscripted b false o i=operate [o,i] (getItem o i)
def IxR(X:Cx)(r:R2):Prop:=
 ∀(value slice:Expr)(pins:List (Addr×Obj))(s:B7)(σ:St)(H:Hp)(x y:V)(v u:Value)(Q:VK),Inv X pins σ H s->RelV x v->RelV y u->r x y H Q->
  subscripted slice false v u=operate [v,u] (getItem v u)->wpAny (model X.prog X.w) X.A (subscriptTail value slice v u) (EP X pins σ Q) X.xe s
def MtR(X:Cx)(id:String)(r:V->List V->Hp->VK->Prop):Prop:=
 ∀⦃pins:List (Addr×Obj)⦄ (s:B7)(σ:St)(H:Hp)(x:V)(xs:List V)(v:Value)(us:List Value)(Q:VK),Inv X pins σ H s->RelV x v->Vals xs us->r x xs H Q->
  wpAny (model X.prog X.w) X.A (call (.builtin id) (v::us)) (EP X pins σ Q) X.xe s
section
variable{X:Cx}{a b:Expr}{ta tb:TE}{pos:Pos}
def IxR.or(h:IxR X r)(h':IxR X r'):IxR X (λx y H Q=>r x y H Q\/r' x y H Q):=by
 intro value slice pins s σ H x y v u Q I rx ry q hs;rcases q with q|q
 . exact h value slice pins s σ H x y v u Q I rx ry q hs
 . exact h' value slice pins s σ H x y v u Q I rx ry q hs
def et7(hr:IxR X r)(ha:PE X a ta)(hb:PE X b tb)(hs:cg2 b):PE X (.Subscript a b pos) (tOp r ta tb):=by intro pins s σ H Q I h;exact Subscript_ (dt1 ha hb I h λv u s2 x y H2 I2 rx ry q=>hr a b pins s2 σ H2 x y v u Q I2 rx ry q (hs _ _))
def es0(K:A1):R2:=λx y H Q=>∃p xs i v,x=.ref p/\y=.int i/\SqL K H p xs/\atI xs i=some v/\Q v H
def dz9(K:A1):R2:=λx y H Q=>∃p xs i v,x=.ref p/\y=.int i/\SqT K H p xs/\atI xs i=some v/\Q v H
def eh3:R2:=λx y H Q=>∃z i c,x=.str z/\y=.int i/\z.length<=sizeLine/\atI z.cps.toList i=some c/\Q (.str ⟨#[c]⟩) H
def ix_list:IxR X (es0 X.K):=by
 intro value slice pins s σ H x y v u Q I rx ry h hs;obtain⟨p,xs,i,z,rfl,rfl,hq,he,q⟩:=h;cases rx;obtain⟨t,rfl⟩:=ry;obtain⟨its,r,pl,hz⟩:=I.list hq;obtain⟨j,h1,h2,h3,h4,h5⟩:=bu0 he;obtain⟨w,ew,rw'⟩:=r.get h2;have hl:=r.length;have hn:=aa1;have bU:EP X pins σ Q w s:=⟨z,H,I,rw',q⟩;by_cases h0:0<=i
 . have hj:i.toNat=j:=by rw[seqIndex_of h0 h5]at h1;exact E8 h1
   exact item_listR pl.isList h0 V8 (by rw[hj];simpa using ew) bU hs
 . have hj:(i+(its.toArray.size:Int)).toNat=j:=by rw[seqIndex_neg V8 h4]at h1;rw[A8,<-hl];exact E8 h1
   exact subscriptTail_builtinR (x:=w) pl.isList.typeIs slot_list_getitem.lookup
    (wpAny_getItem_list_neg (Q:=λr s'=>r=w/\EP X pins σ Q r s') pl.isList V8 (by rw[A8]<;>omega) V8 (by rw[hj];simpa using ew) ⟨rfl,bU⟩) hs
def ix_tup:IxR X (dz9 X.K):=by
 intro value slice pins s σ H x y v u Q I rx ry h hs;obtain⟨p,xs,i,z,rfl,rfl,hq,he,q⟩:=h;cases rx;obtain⟨t,rfl⟩:=ry;obtain⟨its,r,pl,hz⟩:=I.tuple hq;obtain⟨j,h1,h2,h3,h4,h5⟩:=bu0 he;obtain⟨w,ew,rw'⟩:=r.get h2;have hl:=r.length;have hn:=aa1;have bU:EP X pins σ Q w s:=⟨z,H,I,rw',q⟩;exact subscriptTail_builtinR (x:=w) pl.typeIs slot_tuple_getitem.lookup
  (getItem_tuple (j:=j) (Q:=λr s'=>r=w/\EP X pins σ Q r s') pl V8 V8 (by rw[A8,<-hl];exact h1) (by simpa using ew) ⟨rfl,bU⟩) hs
def ec0:IxR X eh3:=by
 intro value slice pins s σ H x y v u Q I rx ry h hs;obtain⟨z,i,c,rfl,rfl,hz,he,q⟩:=h;obtain⟨t,rfl⟩:=rx;obtain⟨t',rfl⟩:=ry;obtain⟨j,h1,h2,h3,h4,h5⟩:=bu0 he;have hl:z.cps.toList.length=z.length:=by simp[Str.length]
 rw[hl]at h1 h4 h5;have hn:=aa1;exact tail_any (typeIs_str s z t) slot_str_getitem.lookup (getItem_str (c:=c) (by have e1:decide (i< -(2^63:Int))=false:=E2 V8;have e2:decide (i>=2^63)=false:=E2 V8;rw[e1,e2,Bool.or_false]) (by rw[h1];simpa using h2) ⟨.str ⟨#[c]⟩,H,I.tok _,⟨_,rfl⟩,q⟩) hs
def rIx(K:A1):R2:=λx y H Q=>es0 K x y H Q\/dz9 K x y H Q\/eh3 x y H Q
def ek4:IxR X (rIx X.K):=ix_list.or (ix_tup.or ec0)
def cd3(its:List Value)(n j:Nat)(u:Value):Obj.mapSeq (·.setIfInBounds j u) {cls:=.type "list",data:=.seq its.toArray n}={cls:=.type "list",data:=.seq (its.set j u).toArray n}:=by simp[Obj.mapSeq]
theorem Inv.lst{pins:List (Addr×Obj)}{σ:St}{H:Hp}{s:B7}{p:Addr}{xs:List V}(I:Inv X pins σ H s)(h:H p=some (.lst xs)):
 ∃(its:List Value)(n:Nat),Vals xs its/\s.heap.get? p=some {cls:=.type "list",data:=.seq its.toArray n}/\xs.length<=sizeLine:=by
 obtain⟨z,its,n,r,e⟩:=I.hok p _ h;exact⟨its,n,r,e,z⟩
def Inv.lstUpd{pins:List (Addr×Obj)}{σ:St}{H:Hp}{s:B7}{p:Addr}{xs ys:List V}{its its':List Value}{n n':Nat}{f:Obj->Obj}(I:Inv X pins σ H s)(h:H p=some (.lst xs))
 (ho:s.heap.get? p=some {cls:=.type "list",data:=.seq its.toArray n})(hf:f {cls:=.type "list",data:=.seq its.toArray n}={cls:=.type "list",data:=.seq its'.toArray n'})(r:Vals ys its')(hz:ys.length<=sizeLine)(t:Nat):
 Inv X pins σ (upd H p (.lst ys)) {s with heap:=s.heap.update p f,toks:=t}:=by
 have e:(s.heap.update p f).get? p=some {cls:=.type "list",data:=.seq its'.toArray n'}:=by rw[Heap.get?_update_self f ho (by rw[hf]<;>rfl),hf]
 refine I.write (x:=p) (e:=p) (by rw[h];trivial) (.inl rfl) (λb u hb q=>(Q9 _ _ (M7 hb)).trans q) ⟨_,e⟩ ?_;exact⟨hz,its',n',r,e⟩
def dc5:V->V->V->Hp->(Hp->Prop)->Prop:=λo i v H Q=>∃p xs k j,o=.ref p/\i=.int k/\H p=some (.lst xs)/\qG xs.length k=some j/\Q (upd H p (.lst (xs.set j v)))
def ax6:ec3 X dc5:=by
 intro pins s σ H o i v ov iv u Q I ro ri rv h;obtain⟨p,xs,k,j,rfl,rfl,hp,hj,q⟩:=h;cases ro;obtain⟨t,rfl⟩:=ri;obtain⟨its,n,r,ho,hz⟩:=I.lst hp;obtain⟨h1,h2,h3,h4⟩:=br0 hj;have hl:=r.length;have hn:=aa1;have I':Inv X pins σ (upd H p (.lst (xs.set j v))) {s with heap:=s.heap.update p (Obj.mapSeq (·.setIfInBounds j u))}:=
  I.lstUpd hp ho (cd3 its n j u) (r.set rv j) (by rw[O3];exact hz) s.toks
 by_cases h0:0<=k
 . have hk:k.toNat=j:=by rw[seqIndex_of h0 h4]at h1;exact E8 h1
   exact PySem.W.ki_setAt ho h0 V8 (by rw[A8,<-hl];exact h4) (by rw[hk];exact⟨_,I',q⟩)
 . have hk:(k+(its.toArray.size:Int)).toNat=j:=by rw[seqIndex_neg V8 h3]at h1;rw[A8,<-hl];exact E8 h1
   exact PySem.W.ki_setBack ho V8 (by rw[A8,<-hl];exact h3) V8 (by rw[hk];exact⟨_,I',q⟩)
def bm7(lo hi:Option Int)(n:Nat):(sliceBounds lo hi none n).1=((HT.sIx n 0 lo:Nat):Int)/\(sliceBounds lo hi none n).2.1=((HT.sIx n n hi:Nat):Int)/\(sliceBounds lo hi none n).2.2=1:=by
 refine⟨?_,?_,rfl⟩
 . cases lo with
   |none=>simp[sliceBounds,HT.sIx]
   |some i=>
    simp only[sliceBounds,HT.sIx,Option.getD_none,show(1:Int)>0 by decide,if_true];by_cases h:i<0
    . simp only[h,if_true]<;>omega
    . simp only[h,if_false]<;>omega
 . cases hi with
   |none=>simp[sliceBounds,HT.sIx]
   |some i=>
    simp only[sliceBounds,HT.sIx,Option.getD_none,show(1:Int)>0 by decide,if_true];by_cases h:i<0
    . simp only[h,if_true]<;>omega
    . simp only[h,if_false]<;>omega
def bh4(its:List Value)(lo hi:Option Int):slicePick its.toArray lo hi none=((its.drop (HT.sIx its.length 0 lo)).take (HT.sIx its.length its.length hi-HT.sIx its.length 0 lo)).toArray:=by obtain⟨h1,h2,h3⟩:=bm7 lo hi its.toArray.size;unfold slicePick;rw[h1,h2,h3];simp only[sliceRange_one,pick_run,List.size_toArray]<;>rfl
def ef1(K:A1):V->Option Int->Option Int->Hp->VK->Prop:=λx lo hi H Q=>∃a xs,x=.ref a/\SqL K H a xs/\∀p,H p=none->Q (.ref p) (upd H p (.lst (zW xs lo hi)))
def dq8:SlR X (ef1 X.K):=by intro pins s σ H x v vl vu lo hi sl Q I rx hs pl pu h;obtain⟨a,xs,rfl,hx,q⟩:=h;cases rx;obtain⟨its,r,ht,hz⟩:=I.list hx;have hlen:=r.length;refine⟨"list",_,slot_list_getitem.lookup,ht.isList.typeIs,?_⟩;refine wpAny_getItem_list_slice ht.isList hs pl pu .none W0 ?_ (by rw[A8]<;>omega);rw[bh4,<-hlen];refine⟨.ref s.heap.objs.size,_,I.laid (t':=s.toks) (o:=.lst (zW xs lo hi)) (λb ob q=>A9 _ q) (D6 _) ?_,rfl,q _ (I.hok.fresh (D6 _))⟩;exact⟨J2 (aw5 xs lo hi) hz,_,0,(r.drop (HT.sIx xs.length 0 lo)).take (HT.sIx xs.length xs.length hi-HT.sIx xs.length 0 lo),D5 _ rfl⟩
def uV:V->Bool
 |.non=>true
 |.bl _=>true
 |.int _=>true
 |.str _=>true
 |_=>false
def eqV:V->V->Bool
 |.non,.non=>true
 |.bl a,.bl b=>a==b
 |.bl a,.int b=>(if a then 1 else 0)==b
 |.int a,.bl b=>a==(if b then 1 else 0)
 |.int a,.int b=>a==b
 |.str a,.str b=>a==b
 |_,_=>false
theorem ce7(ry:RelV y u)(rx:RelV x v)(fy:uV y=true)(fx:uV x=true):SeqAt.EqAt A s u v (eqV y x):=by
 cases y with
 |non=>
  cases ry;cases x with
  |non=>cases rx;exact SeqAt.EqAt.same _
  |bl b=>cases rx;exact SeqAt.EqAt.none_bool b
  |int b=>obtain⟨t,rfl⟩:=rx;exact SeqAt.EqAt.none_int b t
  |str b=>obtain⟨t,rfl⟩:=rx;exact SeqAt.EqAt.none_str b t
  |_=>exact B0 (show false=true from fx) E1
 |bl a=>
  cases ry;cases x with
  |non=>cases rx;exact SeqAt.EqAt.bool_none a
  |bl b=>cases rx;exact SeqAt.EqAt.bool_bool a b
  |int b=>obtain⟨t,rfl⟩:=rx;exact SeqAt.EqAt.bool_int a b t
  |str b=>obtain⟨t,rfl⟩:=rx;exact SeqAt.EqAt.bool_str a b t
  |_=>exact B0 (show false=true from fx) E1
 |int a=>
  obtain⟨t',rfl⟩:=ry;cases x with
  |non=>cases rx;exact SeqAt.EqAt.int_none a t'
  |bl b=>cases rx;exact SeqAt.EqAt.int_bool a t' b
  |int b=>obtain⟨t,rfl⟩:=rx;exact SeqAt.EqAt.int_int a t' b t
  |str b=>obtain⟨t,rfl⟩:=rx;exact SeqAt.EqAt.int_str a t' b t
  |_=>exact B0 (show false=true from fx) E1
 |str a=>
  obtain⟨t',rfl⟩:=ry;cases x with
  |non=>cases rx;exact SeqAt.EqAt.str_none a t'
  |bl b=>cases rx;exact SeqAt.EqAt.str_bool a t' b
  |int b=>obtain⟨t,rfl⟩:=rx;exact SeqAt.EqAt.str_int a t' b t
  |str b=>obtain⟨t,rfl⟩:=rx;exact SeqAt.EqAt.str_str a t' b t
  |_=>exact B0 (show false=true from fx) E1
 |_=>exact B0 (show false=true from fy) E1
def bq5:OpR X (compareOp .NotIn) (λx y H Q=>∃i j,x=.str i/\y=.str j/\Q (.bl (!(!(Builtin.Str.occurrences j i 0 j.length 1).isEmpty))) H):=by intro pins s σ H x y v u Q I rx ry h;obtain⟨i,j,rfl,rfl,q⟩:=h;obtain⟨t,rfl⟩:=rx;obtain⟨t',rfl⟩:=ry;exact notIn_str ⟨.bl _,H,I,rfl,q⟩
def CallR.or(h:CallR X f r)(h':CallR X f r'):CallR X f (λxs H Q=>r xs H Q\/r' xs H Q):=by
 intro pins s σ H xs us Q I rs q;rcases q with q|q
 . exact h s σ H xs us Q I rs q
 . exact h' s σ H xs us Q I rs q
def bi8:CallR X (.type "list") (λxs H Q=>∃p ys,xs=[.ref p]/\(SqL X.K H p ys\/SqT X.K H p ys)/\∀l,H l=none->Q (.ref l) (upd H l (.lst ys))):=by
 intro pins s σ H xs us Q I r h;obtain⟨p,ys,rfl,hq,q⟩:=h;obtain⟨u,rfl,rx⟩:=ay7 r;cases rx;have bU:∀(its:List Value),Vals ys its->ys.length<=sizeLine->∀(h':Heap)(c':Nat),(∀b o',s.heap.get? b=some o'->h'.get? b=some o')->
  h'.get? s.heap.objs.size=some {cls:=.type "list",dict:=none,data:=.seq its.toArray c',slots:=#[]}->EP X pins σ Q (.ref s.heap.objs.size) {s with heap:=h'}:=λits r' hz h' c' kp e=>
  ⟨.ref s.heap.objs.size,_,I.laid (t':=s.toks) kp (D6 _) (show ObjOk X.prog X.w _ h' _ (.lst ys) from⟨hz,its,c',r',e⟩),rfl,q _ (I.hok.fresh (D6 _))⟩
 rcases hq with hq|hq
 . obtain⟨its,r',pl,hz⟩:=I.list hq;have hlen:=r'.length;obtain⟨o,ho,hc,n,hd⟩:=pl.isList;exact call_list_seq p (.inl rfl) ho hc hd (λh' c' kp e=>bU its r' hz h' c' kp e) (by simp only[List.size_toArray]<;>omega)
 . obtain⟨its,r',pl,hz⟩:=I.tuple hq;have hlen:=r'.length;obtain⟨o,ho,hc,n,hd⟩:=pl;exact call_list_seq p (.inr rfl) ho hc hd (λh' c' kp e=>bU its r' hz h' c' kp e) (by simp only[List.size_toArray]<;>omega)
def tyV(K:A1)(T:String)(x:V)(H:Hp):Prop:=match x with
 |.str _=>T="str"
 |.int _=>T="int"
 |.ref p=>(T="list"/\∃xs,SqL K H p xs)\/(T="tuple"/\∃o,K.lookup p=some o/\o.cls=.type "tuple"/\o.dict=none)\/
  (T="dict"/\((∃kvs,H p=some (.dK kvs))\/∃kvs,H p=some (.dT kvs)))\/(T="set"/\∃S n,H p=some (.set S n))
 |_=>False
theorem cs5(I:Inv X pins σ H s)(r:RelV x v)(ty:tyV X.K T x H):
 s.TypeIs v T/\∀a,v=.ref a->∃ob,s.heap.get? a=some ob/\ob.dict=none:=by
 cases x with
 |str z=>obtain⟨t,rfl⟩:=r;cases(show T="str" from ty);exact⟨typeIs_str s z t,λ_ e=>nomatch e⟩
 |int i=>obtain⟨t,rfl⟩:=r;cases(show T="int" from ty);exact⟨typeIs_int s i t,λ_ e=>nomatch e⟩
 |ref p=>
  cases r;rcases ty with⟨rfl,xs,hq⟩|⟨rfl,o,hk,hc,hd⟩|⟨rfl,hk⟩|⟨rfl,S,n,hk⟩
  . obtain⟨its,_,pl,_⟩:=I.list hq;refine⟨pl.isList.typeIs,λa e=>?_⟩;cases e;obtain⟨o,n,e,c,hd,_⟩:=pl;exact⟨o,e,hd⟩
  . refine⟨⟨o,I.kIn p o hk,hc⟩,λa e=>?_⟩;cases e;exact⟨o,I.kIn _ o hk,hd⟩
  . have z:∃o,s.heap.get? p=some o/\o.ExactDict:=by
     rcases hk with⟨kvs,hk⟩|⟨kvs,hk⟩
     . obtain⟨_,_,_,_,o,_,_,e,ex,_⟩:=I.hok p _ hk;exact⟨o,e,ex⟩
     . obtain⟨_,_,_,_,o,_,_,e,ex,_⟩:=I.hok p _ hk;exact⟨o,e,ex⟩
    obtain⟨o,e,ex⟩:=z;refine⟨⟨o,e,ex.1⟩,λa e2=>?_⟩;cases e2;exact⟨o,e,ex.2.1⟩
  . obtain⟨o,_,_,_,e,ex,_⟩:=I.hok p _ hk;refine⟨⟨o,e,ex.1⟩,λa e2=>?_⟩;cases e2;exact⟨o,e,ex.2.1⟩
 |_=>exact False.elim ty
def fu0(K:A1)(T:String)(r:V->List V->Hp->VK->Prop)(to:TE):TE:=λσ H Q=>to σ H λx H1=>tyV K T x H1/\r x [] H1 Q
def tBM(K:A1)(T:String)(r:V->List V->Hp->VK->Prop)(to:TE)(t:TA):TE:=λσ H Q=>to σ H λx H1=>tyV K T x H1/\t σ H1 λxs H2=>r x xs H2 Q
variable{o e:Expr}{es:List Expr}{to:TE}{t:TA}{name:Str}{apos cpos:Pos}{T id:String}{r:V->List V->Hp->VK->Prop}
def eg0(pa:PlainAttrs T)(slot:Slot T name id)(hty:typeOf (.builtin id)=pure (.type "method_descriptor"))(hm:MtR X id r)(ho:PE X o to)
 (hbase:attributeBase o name X.env (eval o X.env)=eval o X.env:=by rfl)(hline:(apos.endLine==cpos.line)=true:=by rfl):PE X (.Call (.Attribute o name apos) [] [] cpos) (fu0 X.K T r to):=by
 intro pins s σ H Q I h;refine wpAny_Call_method0_late hbase hline (jH (ho s σ H _ I h) λv s1 x H1 I1 r1 qq=>?_);obtain⟨ty,q1⟩:=qq;obtain⟨h1,h2⟩:=cs5 I1 r1 ty;exact⟨T,id,pa,slot,hty,h1,h2,Calls.callWith_builtin rfl (PySem.evalArgs_none (hm s1 σ H1 x [] v [] Q I1 r1 .nil q1))⟩
def ei9(pa:PlainAttrs T)(slot:Slot T name id)(hty:typeOf (.builtin id)=pure (.type "method_descriptor"))(hm:MtR X id r)(ho:PE X o to)(ha:PA X (e::es) t)
 (hbase:attributeBase o name X.env (eval o X.env)=eval o X.env:=by rfl)
 (hfew:((backTo cpos (starEach (e::es) X.env)).all (λx=>!x.1)&&(backToKw cpos (keywordEach [] X.env)).all (λx=>x.1.isSome)
  &&decide ((e::es).length+([]:List Keyword).length+(if([]:List Keyword).isEmpty then 0 else 1)<30))=true:=by rfl)
 (hline:(apos.endLine==cpos.line)=true:=by rfl)(hs:starEach (e::es) X.env=(false,eval e X.env)::starEach es X.env:=by rfl)(hplain:(backTo cpos (starEach es X.env)).any (·.1)=false:=by rfl):
 PE X (.Call (.Attribute o name apos) (e::es) [] cpos) (tBM X.K T r to t):=by
 intro pins s σ H Q I h;refine wpAny_Call_method_late hbase hfew hline rfl (jH (ho s σ H _ I h) λv s1 x H1 I1 r1 qq=>?_);obtain⟨ty,q1⟩:=qq;obtain⟨h1,h2⟩:=cs5 I1 r1 ty;refine⟨T,id,pa,slot,hty,h1,h2,?_⟩;have hA:=@ha cpos pins s1 σ H1 _ I1 q1;rw[hs]at hA⊢;refine Calls.callWith_builtin (by show(false||(backTo cpos (starEach es X.env)).any (·.1))=false;rw[hplain]<;>rfl) (Calls.evalArgs_plain ?_);exact xW hA λus s2 vs H2 I2 r2 q2=>hm s2 σ H2 x vs v us Q I2 r1 r2 q2
/- xs.append(e), list.index on a module's tuple .. are MtR facts of 06m -/
end
def MtM(X:Cx)(id:String)(r:V->List V->Hp->VK->Prop):Prop:=
 ∀(pins:List (Addr×Obj))(s:B7)(σ:St)(H:Hp)(x:V)(xs:List V)(v:Value)(us:List Value)(Q:VK),Inv X pins σ H s->RelV x v->Vals xs us->r x xs H Q->
  wpAny (model X.prog X.w) X.A (call (.builtin id) (v::us)) (EP X pins σ Q) X.xe s
theorem Vals.cns{x:V}{xs:List V}{us:List Value}(h:Vals (x::xs) us):∃u r,us=u::r/\RelV x u/\Vals xs r:=by
 cases h with
 |cons r t=>exact⟨_,_,rfl,r,t⟩
theorem Vals.one{x:V}{us:List Value}(h:Vals [x] us):∃u,us=[u]/\RelV x u:=by obtain⟨u,r,rfl,a,t⟩:=h.cns;cases t;exact⟨u,rfl,a⟩
def Vals.two{x y:V}{us:List Value}(h:Vals [x,y] us):∃u v,us=[u,v]/\RelV x u/\RelV y v:=by obtain⟨u,r,rfl,a,t⟩:=h.cns;obtain⟨v,rfl,b⟩:=t.one;exact⟨u,v,rfl,a,b⟩
theorem Vals.zero:∀{us:List Value},Vals [] us->us=[]
 |_,.nil=>rfl
section
variable{X:Cx}{pins:List (Addr × Obj)}{σ:St}{H:Hp}{s:B7}{l b:Addr}{xs ys zs:List V}
def Inv.lset{its its':List Value}{n:Nat}{f:Array Value->Array Value}{t':Nat}(I:Inv X pins σ H s)(hH:H l=some (.lst xs))
 (e:s.heap.get? l=some {cls:=.type "list",data:=.seq its.toArray n})(hf:f its.toArray=its'.toArray)(hv:Vals ys its')(hz:ys.length<=sizeLine):
 Inv X pins σ (upd H l (.lst ys)) {s with heap:=s.heap.update l (Obj.mapSeq f),toks:=t'}:=by
 have q:=PySem.IsL.update e f;rw[hf]at q;refine I.write (x:=l) (e:=l) (by rw[hH];exact trivial) (.inl rfl) (λb' u hb hu=>(Q9 s.heap (Obj.mapSeq f) (M7 hb)).trans hu) ⟨_,q⟩ ?_;exact⟨hz,its',_,hv,q⟩
def Inv.lnew(I:Inv X pins σ H s)(hv:Vals ys its)(hz:ys.length<=sizeLine):
 Inv X pins σ (upd H s.heap.objs.size (.lst ys)) {s with heap:=s.heap.push {cls:=.type "list",data:=.seq its.toArray},toks:=t'}:=
 I.laid (λ_ _ q=>A9 _ q) (D6 _) ⟨hz,its,0,hv,D5 _ rfl⟩
theorem Inv.fresh(I:Inv X pins σ H s):H s.heap.objs.size=none:=I.hok.fresh (D6 _)
def Inv.lstM(I:Inv X pins σ H s)(hH:H l=some (.lst xs)):xs.length<=sizeLine/\∃(its:List Value)(n:Nat),Vals xs its/\xs.length=its.length/\s.heap.get? l=some {cls:=.type "list",data:=.seq its.toArray n}:=by obtain⟨z,its,n,r,e⟩:=I.hok l _ hH;exact⟨z,its,n,r,r.length,e⟩
def ds2(h:n<=sizeLine):Builtin.List.listTooLong n=false:=by unfold Builtin.List.listTooLong;exact E2 V8
end
section
variable{X:Cx}
def be1:V->List V->Hp->VK->Prop:=λx vs H Q=>∃l xs y,x=.ref l/\vs=[y]/\H l=some (.lst xs)/\xs.length<sizeLine/\Q .non (upd H l (.lst (xs++[y])))
def cd6:MtM X "list.append" be1:=by intro pins s σ H x vs v us Q I rx rv h;obtain⟨l,xs,y,rfl,rfl,hH,hz,q⟩:=h;cases rx;obtain⟨u,rfl,ru⟩:=rv.one;obtain⟨z,its,n,r,hl,e⟩:=I.lstM hH;refine R3 F.slot_list_append ⟨_,e,rfl⟩ F.entry_list_append (F.args_list_append_2 _ _) (PySem.list_append l its.toArray n u (by rw[A8];omega)) ⟨e,?_⟩;refine⟨.non,_,I.lset (its':=its++[u]) hH e W0 (r.append (.cons ru .nil)) ?_,rfl,q⟩;rw[E7,List.length_singleton];omega
def cu1:V->List V->Hp->VK->Prop:=λx vs H Q=>∃l b xs zs,x=.ref l/\vs=[.ref b]/\H l=some (.lst xs)/\H b=some (.lst zs)/\xs.length+zs.length<=sizeLine/\Q .non (upd H l (.lst (xs++zs)))
def vO:MtM X "list.extend" cu1:=by
 intro pins s σ H x vs v us Q I rx rv h;obtain⟨l,b,xs,zs,rfl,rfl,hH,hB,hz,q⟩:=h;cases rx;obtain⟨u,rfl,ru⟩:=rv.one;cases ru;obtain⟨z,its,n,r,hl,e⟩:=I.lstM hH;obtain⟨z2,its2,n2,r2,hl2,e2⟩:=I.lstM hB;have hsz:its.toArray.size+its2.toArray.size<=sizeLine:=by rw[A8,A8];omega
 have hlong:¬(!its.toArray.isEmpty&&Builtin.List.listTooLong (its.toArray.size+its2.toArray.size))=true:=by rw[ds2 hsz,Bool.and_false];exact E1
 refine R3 F.slot_list_extend ⟨_,e,rfl⟩ F.entry_list_extend (F.args_list_extend_2 _ _)
  (AutoSeq1.list_extend_list_list_0 l its.toArray n b its2.toArray n2 hlong (by rw[A8];omega) V8) ⟨e,e2,?_⟩
 refine⟨.non,_,I.lset (its':=its++its2) hH e W0 (r.append r2) ?_,rfl,q⟩;rw[E7];omega
def cs6:V->List V->Hp->VK->Prop:=λx vs H Q=>∃l xs,x=.ref l/\vs=[]/\H l=some (.lst xs)/\Q .non (upd H l (.lst []))
def cv9:MtM X "list.clear" cs6:=by intro pins s σ H x vs v us Q I rx rv h;obtain⟨l,xs,rfl,rfl,hH,q⟩:=h;cases rx;have hus:=rv.zero;subst hus;obtain⟨z,its,n,r,hl,e⟩:=I.lstM hH;refine R3 F.slot_list_clear ⟨_,e,rfl⟩ F.entry_list_clear (F.args_list_clear_1 _) (AutoSeq1.list_clear_list_0 l its.toArray n (by rw[A8];omega)) ⟨e,?_⟩;exact⟨.non,_,I.lset (its':=[]) (ys:=[]) hH e rfl .nil (L7 _),rfl,q⟩
theorem di6(xs:List α)(k:Nat):(List.replicate k xs).flatten.length=k*xs.length:=by
 induction k with
 |zero=>simp
 |succ k ih=>rw[H0,C4,E7,ih,Nat.succ_mul,Nat.add_comm]
end
section
variable{prog:F9}{w:World}{A:J5}{E:Value->B7->Prop}{s:B7}
set_option maxRecDepth 100000 in
end
section
variable{X:Cx}
end
end L2
namespace Att
open PySem PySem.W PySem.Calls PyProof.Rows
theorem ints_of_wellAll:∀(ns:List Int)(vs:List Value),WellAll P h vs (ns.map WData.int)->IntsAre vs ns:=by
 intro ns;induction ns with
 |nil=>intro vs w;rw[K2]at w;cases w;exact .nil
 |cons n ns ih=>
  intro vs w;rw[B8]at w;cases w with
  |cons a b=>cases a;exact .cons _ _ (ih _ b)
theorem script_of{l:OpenLaw}{n:Nat}(hn:l.most=some n){P:Params}{h:Heap}{args:List WData}{vals:List Value}
 (hpre:l.row.toRowW.claim.pre args=true)(hwl:WellAll P h vals args):
 ∃a vs ns,vals=[Value.ref a]/\args=[WData.list (ns.map WData.int)]/\h.get? a=some {cls:=.type "list",data:=.seq vs.toArray}/\IntsAre vs ns/\ns.length<=n:=by
 have hsh:WShape.hasAll [] args [.list .int]=true:=(pre_splitW hpre).1;have hc:l.pre.holds [] {args:=args}=true:=(pre_splitW hpre).2;obtain⟨d,r,rfl,h1,h2⟩:=hasAllW_cons hsh;obtain rfl:=hasAllW_nil h2;obtain⟨xs,rfl,h3⟩:=hasW_list h1;obtain⟨ns,rfl⟩:=items_int h3;have hlen:ns.length<=n:=by
  unfold OpenLaw.pre at hc;have h4:(WTm.not (.lt (.lit (.int (n:Int))) (.len (.arg 0)))).holds [] {args:=[.list (ns.map .int)]}=true:=by have h4:=(holds_andW hc).1;rw[hn]at h4;exact h4
  have h5:=condW_of h4 (w_not (w_lt w_lit (w_len_list (w_arg rfl))));rw[B5]at h5;refine Nat.le_of_not_lt λq=>?_;have q':(n:Int)<((ns.length:Nat):Int):=V8
  first
   |(rw[F8 q']at h5;exact B0 h5 W1)
   |(simp at h5;omega)
 cases hwl with
 |cons w1 w2=>
  cases w2;cases w1 with
  |list ho hall=>exact⟨_,_,ns,rfl,rfl,ho,ints_of_wellAll ns _ hall,hlen⟩
def post_true(l:OpenLaw)(args:List WData):l.row.toRowW.claim.post args (.bool true) args=true:=
 postW_of (r:=l.row.toRowW) (X:=(true==true))
  (show WShape.has [] (.bool true) .bool=true by first|rfl|decide|simp[WShape.has,WShape.arms,WShape.armsAll])
  (show(WTm.eq .res (.lit (.bool true))).value [] {args:=args,res:=some (.bool true),after:=args}=some (.bool (true==true)) from w_eq_bool (w_res rfl) w_lit) rfl
section
variable{prog:F9}{w:World}{A:J5}{E:Value->B7->Prop}{s:B7}{K:Frag}
end
end Att
namespace L2
theorem br3:∀{vs:List Value}{ns:List Int},IntsAre vs ns->Vals (ns.map V.int) vs
 |_,_,.nil=>.nil
 |_,_,.cons n t h=>.cons ⟨t,rfl⟩ (br3 h)
def eb0(H:Hp):Prop:=∀b,H b=none\/∃o xs,H b=some (.frz o (.lst xs))
theorem cj9{P:F9}{w:World}{K:A1}{mg mb:Str->Option Value}{CX:CXT}{k:Nat}{fa a:Addr}{fd:FuncData}{x:Str}{sp:Sp}{s₁:B7}{vs:List Value}{ns:List Int}
 (KX:K.In s₁.heap)(hns:s₁.heap.Ns mainGlobals mg)(hb:s₁.heap.Ns builtinsNs mb)(hbb:∀x:Str,x≠"__name__"->mb x=bootBuiltins x)(hlim:s₁.heap.NoLimit)(hg:s₁.gens=#[])
 (ha:s₁.heap.get? a=some {cls:=.type "list",data:=.seq vs.toArray})(hi:IntsAre vs ns)(hl:ns.length<=sizeLine)(hr:Room k callerA)
 (F:∀base:Heap,K.In base->base.Ns mainGlobals mg->FnOk P w K mg base CX k fa fd [x] sp)(hbind:∀(s:B7)(u:Value),BindsTo s fd ⟨[u],[]⟩ [(x,u)])
 (hsp:∀H:Hp,eb0 H->SqL K H a (ns.map V.int)->sp [.ref a] H (λv _=>v=.bl true) λ_ _ _=>False)
 (hCX:∀H e s',CX [] H s₁ (λ_ _ _=>False) e s'->False):
 codeAny (model P w) callerA (.call (.ref fa) ⟨[.ref a],[]⟩) (λr s'=>r=.ok (.ret (.bool true))/\OldK s₁.heap s'.heap/\s'.os=s₁.os/\AllBare s'.gens) s₁:=by
 have rv:=br3 hi;have lenV:=hi.length;have core:∀H:Hp,eb0 H->SqL K H a (ns.map V.int)->HOk P w H s₁.heap->(∀b,H b≠none->b=a)->(H a≠none->K.lookup a=none)->
  codeAny (model P w) callerA (.call (.ref fa) ⟨[.ref a],[]⟩) (λr s'=>r=.ok (.ret (.bool true))/\OldK s₁.heap s'.heap/\s'.os=s₁.os/\AllBare s'.gens) s₁:=by
  intro H hO hS hok hA hK;have base_of:∀{b:Addr}{o:Obj},s₁.heap.get? b=some o->H b=none->(ay1 s₁.heap H).get? b=some o:=λe n=>de3 e n;have noA:∀{b:Addr}{o:Obj}{es:Array DictEntry}{ep:Nat},s₁.heap.get? b=some o->o.data=.dict es ep->H b=none:=λ{b o es ep} e d=>by
   cases q:H b with
   |none=>rfl
   |some u=>have e':b=a:=hA b (by rw[q];simp);subst e';rw[ha]at e;cases e;have d':Data.seq vs.toArray _=Data.dict es ep:=d;cases d'
  have nsK:∀{b:Addr}{m:Str->Option Value},s₁.heap.Ns b m->(ay1 s₁.heap H).Ns b m:=λ{b m} ⟨o,es,ep,e,d,r⟩=>⟨o,es,ep,base_of e (noA e d),d,r⟩;have hKb:K.In (ay1 s₁.heap H):=λb o e=>base_of (KX b o e) (by
   cases q:H b with
   |none=>rfl
   |some u=>have e':b=a:=hA b (by rw[q];simp);subst e';rw[hK (by rw[q];simp)]at e;cases e)
  have hM:Mod K mg (ay1 s₁.heap H):=⟨hKb,nsK hns,⟨mb,nsK hb,hbb⟩,let⟨mc,h1,h2⟩:=hlim;⟨mc,nsK h1,h2⟩⟩;have e0:Env0 P w K mg (ay1 s₁.heap H) callerA [] s₁ H:=⟨rfl,hM,λb o e=>dr7 e,Nat.le_of_eq (cw7 _ _),trivial,λb hb=>B0 (show b∈([]:List Addr) from hb) W0,hok,.of_eq hg⟩;refine R8 ((F _ hKb (nsK hns)).run callerA [] s₁ H ⟨[.ref a],[]⟩ [.ref a] [.ref a] _ _ hr e0 (hbind s₁ (.ref a)) (.cons rfl .nil) (hsp H hO hS)) λr s' h=>?_;cases r with
  |error e=>exact(hCX H e s' h).elim
  |ok fl=>
   cases fl with
   |next=>exact False.elim h
   |brk=>exact False.elim h
   |cont=>exact False.elim h
   |ret u=>
    obtain⟨v,H',os,bare,un,hok',r',q⟩:=h;have q':v=.bl true:=q;subst q';obtain rfl:u=Value.bool true:=r';refine⟨rfl,OldK.of_keep λb o e=>?_,os,bare⟩;cases q:H b with
    |none=>exact un.keep b o e q (by intro z;exact B0 (show b∈([]:List Addr) from z) W0) W0
    |some u=>
     rcases hO b with z|⟨ob,xs,z⟩
     . rw[q]at z;cases z
     . have z2:=un.frzs b ob _ z;obtain⟨e1,_⟩:=hok b _ z;obtain⟨e2,_⟩:=hok' b _ z2;rw[e]at e1;cases e1;exact e2
 cases hk:K.lookup a with
 |some o=>have e:=KX a o hk;rw[ha]at e;cases e;refine core (λ_=>none) (λ_=>.inl rfl) (.inr ⟨_,vs.toArray,_,hk,rfl,rfl,rfl,by rw[A8,lenV];exact hl,by simpa using rv⟩) (λb u z=>by have z':(none:Option HO)=some u:=z;cases z') (λb z=>B0 rfl z) λz=>B0 rfl z
 |none=>
  refine core (λb=>if b=a then some (.frz {cls:=.type "list",data:=.seq vs.toArray} (.lst (ns.map V.int)))else none) (λb=>?_) (.inl (.inr ⟨{cls:=.type "list",data:=.seq vs.toArray},E6 rfl⟩)) (λb u z=>?_) (λb z=>?_) λ_=>hk
  . by_cases hb:b=a
    . exact .inr ⟨_,_,E6 hb⟩
    . exact .inl (E5 hb)
  . by_cases hb:b=a
    . have z':=(E6 hb).symm.trans z;cases z';subst hb;exact⟨ha,by rw[B5];exact hl,vs,_,rv,ha⟩
    . have z':=(E5 hb).symm.trans z;cases z'
  . by_cases hb:b=a
    . exact hb
    . exact B0 (E5 hb) z
def ar0(s:Stmt)(j:Nat):Stmt:=match s with
 |.ClassDef _ _ _ body _ _ _ _ _ _ _=>body.getD j (.Pass ⟨0,0,0,0⟩)
 |_=>.Pass ⟨0,0,0,0⟩
def kQ(s:Stmt):Arguments:=match s with
 |.FunctionDef _ a _ _ _ _ _ _ _ _=>a
 |_=>{posonlyargs:=[],args:=[],vararg:=none,kwonlyargs:=[],kw_defaults:=[],kwarg:=none,defaults:=[]}
def eM(s:Stmt):List Stmt:=match s with
 |.FunctionDef _ _ b _ _ _ _ _ _ _=>b
 |_=>[]
def aO(s:Stmt):Scope:=match s with
 |.FunctionDef _ _ _ _ _ _ sc _ _ _=>sc
 |_=>{kind:=.function,names:=[],isGenerator:=false,isCoroutine:=false}
abbrev lH:CXT:=λ_ _ _ _ _ _=>False
abbrev E0:XK:=λ_ _ _=>False
def av7:aa3 lH X E0:=λ_ _ _ _ _ _ _ h=>h.elim
structure Fun (K:A1) (x qual:Str) (st:Stmt) (f:Addr) (fd:FuncData):Prop where
 ex:∃(oc:Value)(od:Option Addr)(kV doc pm:Value)(an:Option Addr)(cdv ct:Value)(osl:Array (Option Value)),
  fd=PySem.W.fnOf x qual (kQ st) (eM st) (aO st) .none kV doc pm an cdv ct/\K.lookup f=some ⟨oc,od,.func fd,osl⟩/\PySem.W.codeIn K cdv qual=true
 kp:PySem.W.keepIn K (.ref f)=true
section
variable{P:F9}{w:World}{K:A1}{mg:Str->Option Value}{base:Heap}
theorem Fun.ok{x qual:Str}{st:Stmt}{f:Addr}{fd:FuncData}{N ps:List Str}{k:Nat}{sp:Sp}(F:Fun K x qual st f fd)(S:bB N ps (aO st))(len:∀vs H Q E,sp vs H Q E->vs.length=ps.length)
 (hbody:∀(cdv:Value)(A:J5)(outer:List Env)(s:B7)(H:Hp)(vs:List V)(Q:VK)(E:XK),Room k (A.deeper (envOfC qual (aO st) s.heap.objs.size f cdv))->sp vs H Q E->
  ∃t,PSs (nU lH P w K mg base N qual (aO st) f cdv A outer s H E).nox (eM st) t/\t {nx:=λ_ H'=>Q .non H',rt:=Q} (start N vs) H):FnOk P w K mg base lH (k+1) f fd ps sp:=by
 obtain⟨oc,od,kV,doc,pm,an,cdv,ct,osl,rfl,lk,hcd⟩:=F.ex;refine es8 lk hcd S len λA outer s H vs Q E hr hsp=>?_;obtain⟨t,h,q⟩:=hbody cdv A outer s H vs Q E hr hsp;exact⟨t,h.nox,q⟩
def Fun.binds{x qual:Str}{st:Stmt}{f:Addr}{fd:FuncData}{ps:List Str}(F:Fun K x qual st f fd)
 (h:∀(kV doc pm:Value)(an:Option Addr)(cdv ct:Value)(us:List Value),us.length=ps.length->bindArgs (PySem.W.fnOf x qual (kQ st) (eM st) (aO st) .none kV doc pm an cdv ct) ⟨us,[]⟩=pure (ps.zip us)):Binds K fd ps []:=by
 obtain⟨oc,od,kV,doc,pm,an,cdv,ct,osl,rfl,lk,hcd⟩:=F.ex;exact .all (h kV doc pm an cdv ct)
def ae9{x qual:Str}{st:Stmt}{f:Addr}{oc:Value}{od an:Option Addr}{osl:Array (Option Value)}{kV doc pm cdv ct:Value}(l:K.lookup f=some ⟨oc,od,.func (PySem.W.fnOf x qual (kQ st) (eM st) (aO st) .none kV doc pm an cdv ct),osl⟩)
 (c:PySem.W.codeIn K cdv qual=true)(k:PySem.W.keepIn K (.ref f)=true):Fun K x qual st f (PySem.W.fnOf x qual (kQ st) (eM st) (aO st) .none kV doc pm an cdv ct):=⟨⟨oc,od,kV,doc,pm,an,cdv,ct,osl,rfl,l,c⟩,k⟩
end
section
variable{X:Cx}
def pv(i:Nat)(hN:X.N[i]?=some x:=by rfl)(hv:Vis X.env.scope x:=by first|exact Or.inl rfl|exact Or.inr (Or.inl rfl)|exact Or.inr (Or.inr rfl))(hd:(x==("__debug__":Str))=false:=by decide)
 (hcd:(x==("__classdict__":Str))=false:=by decide):PE X (.Name x pos) (xI i):=ee0 hN hv hd hcd
end
def Same(H H':Hp):Prop:=∀b o,H b=some o->H' b=some o
def Same.refl(H:Hp):Same H H:=λ_ _ h=>h
theorem Same.trans(a:Same H H1)(b:Same H1 H2):Same H H2:=λc o h=>b c o (a c o h)
theorem Same.free(e:Same H H')(h:H' l=Option.none):H l=Option.none:=by
 cases q:H l with
 |none=>rfl
 |some o=>rw[e l o q]at h;cases h
def Same.seq{K:A1}{H H':Hp}{a:Addr}{xs:List V}(e:Same H H')(h:SqL K H a xs):SqL K H' a xs:=by
 rcases h with(h|⟨o,h⟩)|h
 . exact .inl (.inl (e _ _ h))
 . exact .inl (.inr ⟨o,e _ _ h⟩)
 . exact .inr h
def ed5:R2:=λx y H Q=>∃i j,x=.int i/\y=.int j/\IntMulOk i j/\Q (.int (i*j)) H
section
variable{X:Cx}
def op_mulB:OpR X (binaryOp .Mult) ed5:=by intro pins s σ H x y v u Q I rx ry h;obtain⟨i,j,rfl,rfl,hc,q⟩:=h;obtain⟨t,rfl⟩:=rx;obtain⟨t',rfl⟩:=ry;exact mul_int ⟨.int (i*j),H,I.tok _,⟨_,rfl⟩,q⟩ hc
def TyN(K:A1)(H:Hp)(x:V)(tx:String):Prop:=match x with
 |.int _=>tx="int"
 |.bl _=>tx="bool"
 |.str _=>tx="str"
 |.ref p=>(tx="list"/\∃xs,SqL K H p xs)\/(tx="tuple"/\∃xs,SqT K H p xs)
 |_=>False
inductive iX:String->String->Bool->Prop where
 |int_int:iX "int" "int" true
 |int_bool:iX "int" "bool" false
 |int_str:iX "int" "str" false
 |int_list:iX "int" "list" false
 |int_tuple:iX "int" "tuple" false
 |bool_int:iX "bool" "int" true
 |bool_bool:iX "bool" "bool" true
 |bool_str:iX "bool" "str" false
 |bool_list:iX "bool" "list" false
 |bool_tuple:iX "bool" "tuple" false
 |str_int:iX "str" "int" false
 |str_bool:iX "str" "bool" false
 |str_str:iX "str" "str" true
 |str_list:iX "str" "list" false
 |str_tuple:iX "str" "tuple" false
 |list_int:iX "list" "int" false
 |list_bool:iX "list" "bool" false
 |list_str:iX "list" "str" false
 |list_list:iX "list" "list" true
 |list_tuple:iX "list" "tuple" false
 |tuple_int:iX "tuple" "int" false
 |tuple_bool:iX "tuple" "bool" false
 |tuple_str:iX "tuple" "str" false
 |tuple_list:iX "tuple" "list" false
 |tuple_tuple:iX "tuple" "tuple" true
theorem dc2:CallR X (.builtin "isinstance") (λxs H Q=>∃x T tx b,xs=[x,.ty T]/\TyN X.K H x tx/\iX tx T b/\Q (.bl b) H):=by
 intro pins s σ H xs us Q I r h;obtain⟨x,T,tx,b,rfl,ht,ho,q⟩:=h;obtain⟨u,v,rfl,rx,rT⟩:=r.two;obtain rfl:v=Value.type T:=rT;have fin1:EP X pins σ Q (.bool b) s:=⟨.bl b,H,I,rfl,q⟩;have fin2:EP X pins σ Q (.bool b) {s with toks:=s.toks+1}:=⟨.bl b,H,I.tok _,rfl,q⟩;cases x with
 |int i=>
  obtain⟨t,rfl⟩:=rx;have ht:tx="int":=ht;cases ho with
  |int_int=>exact IsiPair.int_int fin1
  |int_bool=>exact IsiPair.int_bool fin2
  |int_str=>exact IsiPair.int_str fin2
  |int_list=>exact IsiPair.int_list fin2
  |int_tuple=>exact IsiPair.int_tuple fin2
  |bool_int=>exact B0 ht V9
  |bool_bool=>exact B0 ht V9
  |bool_str=>exact B0 ht V9
  |bool_list=>exact B0 ht V9
  |bool_tuple=>exact B0 ht V9
  |str_int=>exact B0 ht V9
  |str_bool=>exact B0 ht V9
  |str_str=>exact B0 ht V9
  |str_list=>exact B0 ht V9
  |str_tuple=>exact B0 ht V9
  |list_int=>exact B0 ht V9
  |list_bool=>exact B0 ht V9
  |list_str=>exact B0 ht V9
  |list_list=>exact B0 ht V9
  |list_tuple=>exact B0 ht V9
  |tuple_int=>exact B0 ht V9
  |tuple_bool=>exact B0 ht V9
  |tuple_str=>exact B0 ht V9
  |tuple_list=>exact B0 ht V9
  |tuple_tuple=>exact B0 ht V9
 |bl i=>
  cases rx;have ht:tx="bool":=ht;cases ho with
  |int_int=>exact B0 ht V9
  |int_bool=>exact B0 ht V9
  |int_str=>exact B0 ht V9
  |int_list=>exact B0 ht V9
  |int_tuple=>exact B0 ht V9
  |bool_int=>exact IsiPair.bool_int fin1
  |bool_bool=>exact IsiPair.bool_bool fin1
  |bool_str=>exact IsiPair.bool_str fin2
  |bool_list=>exact IsiPair.bool_list fin2
  |bool_tuple=>exact IsiPair.bool_tuple fin2
  |str_int=>exact B0 ht V9
  |str_bool=>exact B0 ht V9
  |str_str=>exact B0 ht V9
  |str_list=>exact B0 ht V9
  |str_tuple=>exact B0 ht V9
  |list_int=>exact B0 ht V9
  |list_bool=>exact B0 ht V9
  |list_str=>exact B0 ht V9
  |list_list=>exact B0 ht V9
  |list_tuple=>exact B0 ht V9
  |tuple_int=>exact B0 ht V9
  |tuple_bool=>exact B0 ht V9
  |tuple_str=>exact B0 ht V9
  |tuple_list=>exact B0 ht V9
  |tuple_tuple=>exact B0 ht V9
 |str i=>
  obtain⟨t,rfl⟩:=rx;have ht:tx="str":=ht;cases ho with
  |int_int=>exact B0 ht V9
  |int_bool=>exact B0 ht V9
  |int_str=>exact B0 ht V9
  |int_list=>exact B0 ht V9
  |int_tuple=>exact B0 ht V9
  |bool_int=>exact B0 ht V9
  |bool_bool=>exact B0 ht V9
  |bool_str=>exact B0 ht V9
  |bool_list=>exact B0 ht V9
  |bool_tuple=>exact B0 ht V9
  |str_int=>exact IsiPair.str_int fin2
  |str_bool=>exact IsiPair.str_bool fin2
  |str_str=>exact IsiPair.str_str fin1
  |str_list=>exact IsiPair.str_list fin2
  |str_tuple=>exact IsiPair.str_tuple fin2
  |list_int=>exact B0 ht V9
  |list_bool=>exact B0 ht V9
  |list_str=>exact B0 ht V9
  |list_list=>exact B0 ht V9
  |list_tuple=>exact B0 ht V9
  |tuple_int=>exact B0 ht V9
  |tuple_bool=>exact B0 ht V9
  |tuple_str=>exact B0 ht V9
  |tuple_list=>exact B0 ht V9
  |tuple_tuple=>exact B0 ht V9
 |ref p=>
  cases rx;have ht:(tx="list"/\∃xs,SqL X.K H p xs)\/(tx="tuple"/\∃xs,SqT X.K H p xs):=ht;rcases ht with⟨ht,ys,hq⟩|⟨ht,ys,hq⟩
  . obtain⟨its,rv,⟨o,n,e,c,d,dt⟩,hz⟩:=I.list hq;cases ho with
    |int_int=>exact B0 ht V9
    |int_bool=>exact B0 ht V9
    |int_str=>exact B0 ht V9
    |int_list=>exact B0 ht V9
    |int_tuple=>exact B0 ht V9
    |bool_int=>exact B0 ht V9
    |bool_bool=>exact B0 ht V9
    |bool_str=>exact B0 ht V9
    |bool_list=>exact B0 ht V9
    |bool_tuple=>exact B0 ht V9
    |str_int=>exact B0 ht V9
    |str_bool=>exact B0 ht V9
    |str_str=>exact B0 ht V9
    |str_list=>exact B0 ht V9
    |str_tuple=>exact B0 ht V9
    |list_int=>exact IsiPair.list_int e c fin2
    |list_bool=>exact IsiPair.list_bool e c fin2
    |list_str=>exact IsiPair.list_str e c fin2
    |list_list=>exact IsiPair.list_list e c fin1
    |list_tuple=>exact IsiPair.list_tuple e c fin2
    |tuple_int=>exact B0 ht V9
    |tuple_bool=>exact B0 ht V9
    |tuple_str=>exact B0 ht V9
    |tuple_list=>exact B0 ht V9
    |tuple_tuple=>exact B0 ht V9
  . obtain⟨its,rv,⟨o,e,c,n,d⟩,hz⟩:=I.tuple hq;cases ho with
    |int_int=>exact B0 ht V9
    |int_bool=>exact B0 ht V9
    |int_str=>exact B0 ht V9
    |int_list=>exact B0 ht V9
    |int_tuple=>exact B0 ht V9
    |bool_int=>exact B0 ht V9
    |bool_bool=>exact B0 ht V9
    |bool_str=>exact B0 ht V9
    |bool_list=>exact B0 ht V9
    |bool_tuple=>exact B0 ht V9
    |str_int=>exact B0 ht V9
    |str_bool=>exact B0 ht V9
    |str_str=>exact B0 ht V9
    |str_list=>exact B0 ht V9
    |str_tuple=>exact B0 ht V9
    |list_int=>exact B0 ht V9
    |list_bool=>exact B0 ht V9
    |list_str=>exact B0 ht V9
    |list_list=>exact B0 ht V9
    |list_tuple=>exact B0 ht V9
    |tuple_int=>exact IsiPair.tuple_int e c fin2
    |tuple_bool=>exact IsiPair.tuple_bool e c fin2
    |tuple_str=>exact IsiPair.tuple_str e c fin2
    |tuple_list=>exact IsiPair.tuple_list e c fin2
    |tuple_tuple=>exact IsiPair.tuple_tuple e c fin1
 |_=>exact(show False from ht).elim
theorem zM:∀{bs:List Bool}{us:List Value}{i:Nat}{u:Value},Vals (bs.map V.bl) us->us[i]?=some u->∃b,bs[i]?=some b/\u=.bool b
 |[],_,_,_,.nil,e=>by simp at e
 |b::bs,_,0,_,.cons r _,e=>by simp at e;subst e;exact⟨b,rfl,r⟩
 |b::bs,_,i+1,_,.cons _ t,e=>by obtain⟨c,h1,h2⟩:=zM (i:=i) t (by simpa using e);exact⟨c,by simpa using h1,h2⟩
def cw8(bs:List Bool):((List.range bs.length).all λi=>(bs[i]?).getD true)=bs.all id:=by
 rw[O4,J3,J3];constructor
 . intro h b hb;obtain⟨i,hi,e⟩:=U1.mp hb;have q:=h i (J0.mpr hi);rw[A2 hi,e]at q;exact q
 . intro h i hi;have hi':=J0.mp hi;rw[A2 hi'];exact h _ (K9 hi')
def ce8(bs:List Bool):((List.range bs.length).any λi=>(bs[i]?).getD true)=bs.any id:=by
 rw[O4,N6,N6];constructor
 . rintro⟨i,hi,q⟩;have hi':=J0.mp hi;rw[A2 hi']at q;exact⟨_,K9 hi',q⟩
 . rintro⟨b,hb,q⟩;obtain⟨i,hi,e⟩:=U1.mp hb;refine⟨i,J0.mpr hi,?_⟩;rw[A2 hi,e];exact q
def ap3{s:B7}{h':Heap}{o:Obj}(hk:∀b x,b∉[s.heap.objs.size]->(s.heap.push o).get? b=some x->h'.get? b=some x):∀b x,s.heap.get? b=some x->h'.get? b=some x:=
 λb x e=>hk b x (λhm=>by rw[C5.mp hm]at e;exact N1 _ (C8 e)) (A9 _ e)
def dp0(hc:X.calm=true):CallR X (.builtin "all") (λxs H Q=>∃(p:Addr)(bs:List Bool),xs=[.ref p]/\SqL X.K H p (bs.map V.bl)/\Q (.bl (bs.all id)) H):=by
 intro pins s σ H xs us Q I r h;obtain⟨p,bs,rfl,hq,q⟩:=h;obtain⟨u,rfl,r1⟩:=r.one;obtain rfl:u=Value.ref p:=r1;obtain⟨its,rv,pl,hz⟩:=I.list hq;have hl:=pl.isList;have hlen:bs.length=its.length:=by have:=rv.length;rwa[B5]at this
 have hlt:p<s.heap.objs.size:=by obtain⟨_,_,e,_⟩:=pl;exact C8 e
 refine call_all_walk (Q7 hl ?_);refine⟨s.heap.objs.size,[s.heap.objs.size,p],[s.heap.objs.size],its.toArray.size,_,_,λi=>(bs[i]?).getD true,rfl,Walks.list (A:=X.A.in1) (I.ok.hd hc) _ p (G6 hlt) its.toArray,
  ⟨⟨_,D5 _ rfl,rfl,rfl⟩,hl.push _⟩,λi v s' Q' E' hP hQ=>?_,λh' tk hk=>?_⟩
 . obtain⟨b,e,rfl⟩:=zM rv (i:=i) (u:=v) (by simpa using hP);simp only[e,Option.getD_some]at hQ;exact K8 hQ
 . have e:((List.range its.toArray.size).all λi=>(bs[i]?).getD true)=bs.all id:=by rw[A8,<-hlen];exact cw8 bs
   rw[e];exact⟨.bl _,H,I.kept (ap3 hk),rfl,q⟩
def de2(hc:X.calm=true):CallR X (.builtin "any") (λxs H Q=>∃(p:Addr)(bs:List Bool),xs=[.ref p]/\SqL X.K H p (bs.map V.bl)/\Q (.bl (bs.any id)) H):=by
 intro pins s σ H xs us Q I r h;obtain⟨p,bs,rfl,hq,q⟩:=h;obtain⟨u,rfl,r1⟩:=r.one;obtain rfl:u=Value.ref p:=r1;obtain⟨its,rv,pl,hz⟩:=I.list hq;have hl:=pl.isList;have hlen:bs.length=its.length:=by have:=rv.length;rwa[B5]at this
 have hlt:p<s.heap.objs.size:=by obtain⟨_,_,e,_⟩:=pl;exact C8 e
 refine call_any_walk (Q7 hl ?_);refine⟨s.heap.objs.size,[s.heap.objs.size,p],[s.heap.objs.size],its.toArray.size,_,_,λi=>(bs[i]?).getD true,rfl,Walks.list (A:=X.A.in1) (I.ok.hd hc) _ p (G6 hlt) its.toArray,
  ⟨⟨_,D5 _ rfl,rfl,rfl⟩,hl.push _⟩,λi v s' Q' E' hP hQ=>?_,λh' tk hk=>?_⟩
 . obtain⟨b,e,rfl⟩:=zM rv (i:=i) (u:=v) (by simpa using hP);simp only[e,Option.getD_some]at hQ;exact K8 hQ
 . have e:((List.range its.toArray.size).any λi=>(bs[i]?).getD true)=bs.any id:=by rw[A8,<-hlen];exact ce8 bs
   rw[e];exact⟨.bl _,H,I.kept (ap3 hk),rfl,q⟩
end
structure dQ (P:F9) (w:World) (K:A1) (mg:Str->Option Value) (base:Heap) (k:Nat) (x:Str) (ps:List Str) (sp:Sp):Prop where
 ex:∃f fd,FnOk P w K mg base lH k f fd ps sp/\mg x=some (.ref f)/\PySem.W.keepIn K (.ref f)=true/\Binds K fd ps []
def cm4(sp:Sp)(t:TA):TE:=λσ H Q=>t σ H λvs H1=>sp vs H1 Q E0
section
variable{X:Cx}
def ek5(d:dQ X.prog X.w X.K X.mg X.base k x ps sp)(hr:Room k X.A)(ha:PA X (e::es) t)(hg:Gl X x:=by rfl)
 (hdb:(x==("__debug__":Str))=false:=by decide)(he:starEach (e::es) X.env=(false,eval e X.env)::starEach es X.env:=by rfl)(hpl:(backTo pos (starEach es X.env)).any (·.1)=false:=by rfl):
 PE X (.Call (.Name x p) (e::es) [] pos) (cm4 sp t):=by
 obtain⟨f,fd,F,hm,hk,hb⟩:=d.ex;intro pins s σ H Q I h;have e1:(λvs H1=>sp (vs++[]) H1 Q E0)=λvs H1=>sp vs H1 Q E0:=by funext vs H1;rw[K3]
 refine dv7 F hr hg hm hk hb .nil av7 ha hdb he hpl s σ H Q I ?_;show t σ H λvs H1=>sp (vs++[]) H1 Q E0;rw[e1];exact h
end
end L2
namespace Att
open PySem PySem.W PySem.Calls PyProof.Rows
theorem weight_mem:∀(ns:List Int)(n:Int),n∈ns->WData.weight (.int n)<=WData.weightAll (ns.map WData.int)
 |m::ns,n,h=>by
  rw[B8];simp only[WData.weightAll];rcases B9.mp h with rfl|h
  . omega
  . have:=weight_mem ns n h;omega
def bits_of{ns:List Int}(h:WData.layableAll [.list (ns.map WData.int)]=true):∀n∈ns,Builtin.Int.intBits n<=1048576:=by
 intro n hn;have h1:WData.layable (.list (ns.map WData.int))=true:=by have h2:([WData.list (ns.map WData.int)].all WData.layable)=true:=h;rw[S3,G1]at h2;exact h2.1
 unfold WData.layable at h1;rw[G1]at h1;have h3:=of_decide_eq_true h1.2;have h4:=weight_mem ns n hn;have h5:WData.weight (.int n)=Builtin.Int.intBits n:=by unfold WData.weight Builtin.Int.intBits;rfl
 have h6:WData.weight (.list (ns.map WData.int))=WData.weightAll (ns.map WData.int):=by
  conv=>lhs;unfold WData.weight
 rw[h6]at h3;rw[h5]at h4;have h7:(2:Nat)^20=1048576:=W1
 omega
def attach_callB{l:OpenLaw}{n:Nat}{q:F9}{loose:List Str}{XP:(Str->Option Value)->Heap->Prop}{YP:World->Heap->Prop}{d:DefRec}
 (hn:l.most=some n)(hdf:d.params.defaults=[])
 (call:∀(w:World)(s₀ s₁:B7)(mg mb:Str->Option Value)(fa:Addr)(o:Obj)(pm cd doc:Value)(a:Addr)(vs:List Value)(ns:List Int),
  Ground q loose [] XP w s₀ mg mb s₁.heap->YP w s₁.heap->
  s₁.heap.get? fa=some o->o.data=.func (docDef d.name d.params d.body d.scope pm cd doc)->s₁.heap.CodeRec cd d.name->mg d.name=some (.ref fa)->
  s₁.heap.get? a=some {cls:=.type "list",data:=.seq vs.toArray}->IntsAre vs ns->ns.length<=n->s₁.gens=#[]->(∀n∈ns,Builtin.Int.intBits n<=1048576)->
  codeAny (model l.prog w) callerA (.call (.ref fa) ⟨[.ref a],[]⟩) (λr s'=>r=.ok (.ret (.bool true))/\OldK s₁.heap s'.heap/\s'.os=s₁.os/\AllBare s'.gens) s₁):
 WalkO q loose XP YP l.row.toRowW d [] (λf vs=>PySem.call f vs):=by
 intro w s₀ s₁ mg mb G Y fa o pm cd doc dV kV ho hd hcd hD hmg hg args vals as hpre hlay hrd hwl hlo;obtain rfl:dV=.none:=Dflts.none hD hdf;obtain rfl:kV=.none:=Dflts.noKw hD;obtain⟨a,vs,ns,rfl,rfl,hobj,hints,hlen⟩:=script_of hn hpre hwl;refine enter_call (R8 (call w s₀ s₁ mg mb fa o pm cd doc a vs ns G Y ho (fd_plain hd) hcd hmg hobj hints hlen hg (bits_of hlay)) λr s' hq=>?_);obtain⟨rfl,h2,h3,h4⟩:=hq;exact⟨.inl ⟨.bool true,.bool true,[],rfl,λ_=>rfl,.bool true,post_true l _,λ_=>⟨List.Pairwise.nil,λ_ hm=>(nomatch hm)⟩⟩,h2,h3,h4⟩
end Att
namespace L2
def SqS(K:A1)(H:Hp)(a:Addr)(xs:List V):Prop:=
 Rd H a (.lst xs)\/
  ∃(o:Obj)(its:Array Value)(n:Nat),K.lookup a=some o/\o.cls=.type "list"/\o.dict=none/\o.slots=#[]/\o.data=.seq its n/\its.size<=sizeLine/\Vals xs its.toList
def SqS.sq{K:A1}{H:Hp}{a:Addr}{xs:List V}(h:SqS K H a xs):SqL K H a xs:=by
 rcases h with h|⟨o,its,n,h1,h2,h3,_,h5,h6,h7⟩
 . exact .inl h
 . exact .inr ⟨o,its,n,h1,h2,h3,h5,h6,h7⟩
def Inv.listS(I:Inv X pins σ H s)(h:SqS X.K H a xs):∃(its:List Value)(n:Nat),Vals xs its/\s.heap.get? a=some {cls:=.type "list",data:=.seq its.toArray n}/\xs.length<=sizeLine:=by
 rcases h with h|⟨o,its,n,hk,hc,hd,hsl,hs,hz,r⟩
 . obtain⟨z,its,n,r,e⟩:=h.ok I.hok;exact⟨its,n,r,e,z⟩
 . have e:=I.kIn a o hk;obtain⟨cls,dict,data,slots⟩:=o;simp only at hc hd hsl hs;subst hc hd hsl hs;refine⟨its.toList,n,r,by simpa using e,?_⟩;have:=r.length;simp only[Array.length_toList]at this;omega
def bg5(K:A1):Sp:=λvs H Q _=>∃(a:Addr)(ns:List Int),vs=[.ref a]/\SqS K H a (ns.map V.int)/\ns.length<=63/\(∀n∈ns,Builtin.Int.intBits n<=1048576)/\∀H',Q (.bl true) H'
def dx1{l:PySem.W.OpenLaw}{k:Nat}{q:F9}{loose:List Str}{XP:(Str->Option Value)->Heap->Prop}{YP:World->Heap->Prop}{d:DefRec}{K:Params->A1}{x:Str}
 (hn:l.most=some 63)(hdf:d.params.defaults=[])(hr:Room k callerA)
 (hY:∀(w:World)(h:Heap),YP w h->(K w.params).In h)
 (F:∀(w:World)(mg:Str->Option Value)(fa:Addr)(h:Heap),(K w.params).In h->h.Ns mainGlobals mg->mg d.name=some (.ref fa)->
  ∃fd:FuncData,(∀(s:B7)(u:Value),BindsTo s fd ⟨[u],[]⟩ [(x,u)])/\
   ∀base:Heap,(K w.params).In base->base.Ns mainGlobals mg->FnOk l.prog w (K w.params) mg base lH k fa fd [x] (bg5 (K w.params))):
 PySem.W.WalkO q loose XP YP l.row.toRowW d [] (λf vs=>PySem.call f vs):=by
 refine Att.attach_callB hn hdf λw s₀ s₁ mg mb fa o pm cd doc a vs ns G Y ho hd hcd hmg hobj hints hlen hg hbits=>?_;have KX:=hY w _ Y;obtain⟨fd,hb,hF⟩:=F w mg fa _ KX G.T.g hmg;have hS':∀{H:Hp},SqL (K w.params) H a (ns.map V.int)->SqS (K w.params) H a (ns.map V.int):=λ{H} h=>by
  rcases h with h|⟨o,its,n,h1,h2,h3,h5,h6,h7⟩
  . exact .inl h
  . have e:=KX a o h1;rw[hobj]at e;cases e;exact .inr ⟨_,its,n,h1,h2,h3,rfl,h5,h6,h7⟩
 exact cj9 KX G.T.g G.T.b G.T.builtins G.T.nolimit hg hobj hints (J2 hlen W1) hr hF hb (λH hO hS=>⟨a,ns,rfl,hS' hS,hlen,hbits,λ_=>rfl⟩) λH e s' h=>h
abbrev oM(X:Cx)(scope:Scope)(cl:List (Str×Addr))(C:Addr)(s₀:B7)(H₀:Hp)(ex:List Addr):Cx:=
 {X with s₀:=s₀,H₀:=H₀,env:=compEnvC scope cl C X.env,outer:=X.stack,ex:=ex,fn:=λ_=>false,pn:=[],xe:=λ_ _=>False}
def iL(cells:List (Str×Addr)):List (Str×NameKind)->List (Str×Addr)->List (Str×Addr)
 |[],acc=>acc
 |(n,k)::r,acc=>if(k==.free)=true then iL cells r ((n,(cells.lookup n).getD 0)::acc)else iL cells r acc
theorem an1:∀(names:List (Str×NameKind))(acc:List (Str×Addr)),(∀x∈names,x.2=.free->∃c,env.cells.lookup x.1=some c)->
 (forIn names acc λ(x:Str×NameKind)(cs:List (Str×Addr))=>(if(x.2==.free)=true then(do let c<-cellOf env x.1;pure (ForInStep.yield ((x.1,c)::cs)))else pure (ForInStep.yield cs):Sem (ForInStep (List (Str×Addr)))))=(pure (iL env.cells names acc):Sem (List (Str×Addr)))
 |[],acc,_=>rfl
 |(n,k)::r,acc,h=>by
  rw[V0];have hr:∀x∈r,x.2=.free->∃c,env.cells.lookup x.1=some c:=λx hx=>h x (A5 _ hx);by_cases hk:(k==NameKind.free)=true
  . obtain⟨c,hc⟩:=h (n,k) A7 (by simpa using hk);have e1:cellOf env n=pure c:=by unfold cellOf;rw[hc]
    simp only[hk,if_true,e1,pure_bind];have e2:iL env.cells ((n,k)::r) acc=iL env.cells r ((n,c)::acc):=by
     conv=>lhs;unfold iL
     rw[E6 hk,hc];all_goals rfl
    rw[e2];exact an1 r _ hr
  . simp only[hk,if_false,pure_bind];have e2:iL env.cells ((n,k)::r) acc=iL env.cells r acc:=by
     conv=>lhs;unfold iL
     rw[E5 hk]
    rw[e2];exact an1 r _ hr
def ao1 (h : ∀ x ∈ scope.names, x.2 = .free → ∃ c, env.cells.lookup x.1 = some c) : closureFor scope env = pure (iL env.cells scope.names []) := by
  have q := an1 (env := env) scope.names [] h
  unfold closureFor
  have e : (forIn scope.names ([] : List (Str × Addr)) fun (x : Str × NameKind) (r : List (Str × Addr)) =>
      (match x with
      | (name, kind) => if (kind == NameKind.free) = true then (do let c ← cellOf env name; pure (ForInStep.yield ((name, c) :: r))) else pure (ForInStep.yield r) : Sem (ForInStep (List (Str × Addr))))) = pure (iL env.cells scope.names []) := q
  first
    | (show (do let r ← (forIn scope.names ([] : List (Str × Addr)) _); pure r) = _; erw [e]; rfl)
    | (simp only [bind_pure]; exact e)
    | exact e
theorem xD:∀(names:List (Str×NameKind))(acc:List (Str×Addr)),(∀x∈names,x.2=.free->∃c,cells.lookup x.1=some c)->(∀y c,acc.lookup y=some c->cells.lookup y=some c)->
 ∀y c,(iL cells names acc).lookup y=some c->cells.lookup y=some c
 |[],_,_,ha=>ha
 |(n,k)::r,acc,h,ha=>by
  have hr:∀x∈r,x.2=.free->∃c,cells.lookup x.1=some c:=λx hx=>h x (A5 _ hx);unfold iL;by_cases hk:(k==NameKind.free)=true
  . rw[E6 hk];obtain⟨c,hc⟩:=h (n,k) A7 (by simpa using hk);refine xD r _ hr λy d e=>?_;rw[G8]at e;cases q:y==n with
    |true=>
     rw[q]at e;have e':(cells.lookup n).getD 0=d:=E8 e;have yn:y=n:=by simpa using q
     subst yn;have hc':cells.lookup y=some c:=hc;rw[hc']at e'⊢;exact M6 some e'
    |false=>rw[q]at e;exact ha y d e
  . rw[E5 hk];exact xD r acc hr ha
theorem xO:∀(names:List (Str×NameKind))(acc:List (Str×Addr))(y:Str),(∃c,acc.lookup y=some c)->∃c,(iL cells names acc).lookup y=some c
 |[],_,_,h=>h
 |(n,k)::r,acc,y,h=>by
  unfold iL;split
  . refine xO r _ y ?_;rw[G8];cases q:y==n with
    |true=>exact⟨_,rfl⟩
    |false=>exact h
  . exact xO r acc y h
theorem wQ:∀(names:List (Str×NameKind))(acc:List (Str×Addr))(y:Str),(y,NameKind.free)∈names->∃c,(iL cells names acc).lookup y=some c
 |(n,k)::r,acc,y,h=>by
  unfold iL;rcases B9.mp h with e|h
  . have e1:y=n:=M6 Prod.fst e;have e2:NameKind.free=k:=M6 Prod.snd e;subst e1;subst e2;rw[E6 (by rfl)];refine xO r _ y ?_;rw[G8,L9];exact⟨_,rfl⟩
  . split
    . exact wQ r _ y h
    . exact wQ r _ y h
theorem ah0{env:Env}{x:Str}:∀(names:List (Str×NameKind)),
 (names.map λ(n,k)=>if(k==NameKind.free&&env.scope.kind==.function&&env.kindOf n==some .cell)then(n,NameKind.cell)else(n,k)).lookup x
  =(names.lookup x).map λk=>if(k==NameKind.free&&env.scope.kind==.function&&env.kindOf x==some .cell)=true then NameKind.cell else k
 |[]=>rfl
 |(n,k)::r=>by
  have ih:=ah0 (env:=env) (x:=x) r;show List.lookup x ((if(k==NameKind.free&&env.scope.kind==.function&&env.kindOf n==some .cell)=true then(n,NameKind.cell)else(n,k))::_)=_;rw[G8 (a:=x) (as:=r)];cases hx:x==n with
  |true=>
   have e:x=n:=by simpa using hx
   subst e;by_cases hc:(k==NameKind.free&&env.scope.kind==.function&&env.kindOf x==some .cell)=true
   . rw[E6 hc,G8,L9];show some NameKind.cell=some (if _ then _ else _);rw[E6 hc]
   . rw[E5 hc,G8,L9];show some k=some (if _ then _ else _);rw[E5 hc]
  |false=>
   by_cases hc:(k==NameKind.free&&env.scope.kind==.function&&env.kindOf n==some .cell)=true
   . rw[E6 hc,G8,hx];exact ih
   . rw[E5 hc,G8,hx];exact ih
theorem au5:∀{names:List (Str×NameKind)},names.lookup x=some k->(x,k)∈names
 |(n,k')::r,h=>by
  rw[G8]at h;cases hx:x==n with
  |true=>
   rw[hx]at h;have e:x=n:=by simpa using hx
   subst e;cases h;exact A7
  |false=>rw[hx]at h;exact A5 _ (au5 h)
structure CScope (X:Cx) (ks:List Nat) (scope:Scope):Prop where
 kind:scope.kind=.function
 cell:∀y∈scope.names,y.2≠ .cell
 names:∀y∈scope.names,y.2=.local->scope.names.lookup y.1=some .local
 freeB:(scope.names.all λy=>!(y.2==NameKind.free)||(X.env.kindOf y.1==some NameKind.cell||X.env.kindOf y.1==some NameKind.free))=true
 slotsB:(X.N.zipIdx.all λp=>!(scope.names.lookup p.1==some NameKind.local)||ks.contains p.2)=true
theorem CScope.free(S:CScope X ks scope):∀y∈scope.names,y.2=.free->X.env.kindOf y.1=some .cell\/X.env.kindOf y.1=some .free:=λy hy hk=>by have h:=J3.mp S.freeB y hy;rw[hk]at h;simpa using h
def CScope.slots(S:CScope X ks scope):∀p∈X.N.zipIdx,scope.names.lookup p.1=some .local->p.2∈ks:=λp hp hk=>by have h:=J3.mp S.slotsB p hp;rw[hk]at h;simpa using h
def clr:List Nat->St->St
 |[],σ=>σ
 |k::ks,σ=>clr ks (σ.set k none)
theorem tS:∀(ks:List Nat)(σ:St),(clr ks σ).length=σ.length
 |[],_=>rfl
 |k::ks,σ=>by show(clr ks (σ.set k none)).length=_;rw[tS ks,O3]
theorem bg1:∀(ks:List Nat)(σ:St){i:Nat}{v:V},(clr ks σ)[i]?=some (some v)->σ[i]?=some (some v)/\i∉ks
 |[],_,_,_,h=>⟨h,J9⟩
 |k::ks,σ,i,v,h=>by
  obtain⟨h1,h2⟩:=bg1 ks (σ.set k none) h;by_cases e:i=k
  . subst e;rw[List.getElem?_set_self']at h1;cases q:σ[i]? with
    |none=>rw[q]at h1;cases h1
    |some o=>rw[q]at h1;cases h1
  . rw[E4 (M7 e)]at h1;exact⟨h1,λz=>(B9.mp z).elim e h2⟩
def PIf(Y:Cx)(ifs:List Expr)(t:TT):Prop:=
 ∀⦃pins:List (Addr×Obj)⦄ (s:B7)(σ:St)(H:Hp)(Q:Bool->Hp->Prop),Inv Y pins σ H s->t σ H Q->
  wpAny (model Y.prog Y.w) Y.A (forIn ifs true λc r=>if r=true then do let ok<-isTrue c Y.env (eval c Y.env);pure (ForInStep.yield ok)else pure (ForInStep.yield r)) (TP Y pins σ Q) Y.xe s
def eo1:TT:=λ_ H Q=>Q true H
def cZ:PIf Y [] eo1:=λ_ _ _ H _ I h=>wpAny_tests_nil ⟨H,I,h⟩
def wX(h:PT Y c t):PIf Y [c] t:=λpins s σ H Q I q=>wpAny_tests_one (h s σ H Q I q)
theorem cl8(I:Nat->B7->Prop)
 (turn:∀n s,I n s->wpAny (model prog w) A (pyNext it) (λr s₁=>match r with
  |none=>R (.ok .next) s₁
  |some v=>wpAny (model prog w) A (letOwnedTupleGo target it v) (λ_ s₁'=>wpAny (model prog w) A (assign target env v) (λ_ s₂=>
   wpAny (model prog w) A (forIn ifs true λc r=>if r=true then do let ok<-isTrue c env (eval c env);pure (ForInStep.yield ok)else pure (ForInStep.yield r)) (λok s₃=>
    if ok=true then wpAny (model prog w) A (eval elt env) (λx s₄=>
     wpAny (model prog w) A (call (.builtin "list.append") [acc,x]) (λ_ s₅=>∃m,m<n/\I m s₅) (λ_ _=>False) s₄) (λ_ _=>False) s₃
    else∃m,m<n/\I m s₃) (λ_ _=>False) s₂) (λ_ _=>False) s₁') (λ_ _=>False) s₁) (λ_ _=>False) s)
 (n:Nat)(h:I n s):
 codeAny (model prog w) A (.compLoop (.ListComp elt [⟨target,iter,ifs,0⟩] scope pos) 0 it acc env) R s:=by
 refine codeAny_loop rfl I (λn s hI=>?_) n h;show wpAny _ A ((compTurn (.ListComp elt [⟨target,iter,ifs,0⟩] scope pos) 0 it acc env).onRaise (λx=>do noteFrame x env;theTreesLotGoes x)) _ _ s;refine wpAny_noted ?_;rw[compTurn_list];refine A4 (V6 (A4 (M5 (turn n s hI) (λr s₁ h₁=>?_) λ_ _ h'=>h'.elim)));cases r with
 |none=>exact D4 h₁
 |some v=>
  refine A4 (M5 h₁ (λ_ s₁' h₁'=>?_) λ_ _ h'=>h'.elim);refine A4 (M5 h₁' (λ_ s₂ h₂=>A4 (M5 h₂ (λok s₃ h₃=>?_) λ_ _ h'=>h'.elim)) λ_ _ h'=>h'.elim);cases ok with
  |false=>exact D4 ⟨rfl,h₃⟩
  |true=>exact A4 (A4 (M5 h₃ (λx s₄ h₄=>A4 (M5 h₄ (λ_ s₅ h₅=>D4 (D4 ⟨rfl,h₅⟩)) λ_ _ h'=>h'.elim)) λ_ _ h'=>h'.elim))
def Inv.track(I:Inv X pins σ H s)(hn:H D=none)(hl:X.s₀.heap.objs.size<=D)(hL:D≠X.env.locals)
 (hc:∀x c,X.env.cells.lookup x=some c->c≠D)(hp:∀p∈X.pn++pins,p.1≠D)(e:s.heap.get? D=some {cls:=.type "list",data:=.seq its.toArray n})(rv:Vals ys its)(hz:ys.length<=sizeLine):
 Inv X pins σ (upd H D (.lst ys)) s:=by
 have old:∀b o,X.s₀.heap.get? b=some o->b≠D:=λb o q z=>by subst z;exact B0 (F6 (C8 q) hl) (N1 _)
 have ne:∀b o,H b=some o->b≠D:=λb o q=>jK q hn;refine⟨I.ok,I.os,I.bare,⟨I.base.keep,I.base.slot,λb o q n' hx=>?_,I.base.there,λb xs q=>?_,λb o u q=>?_,λb ps q=>?_⟩,I.loc,I.cell,?_,λx c q=>?_,λp q=>?_,λb u q=>?_,I.len⟩
 . rw[cV (old b o q)];exact I.base.free b o q n' hx
 . have z:=I.base.tups b xs q;rw[cV (ne _ _ z)];exact z
 . have z:=I.base.frzs b o u q;rw[cV (ne _ _ z)];exact z
 . obtain⟨more,z⟩:=I.base.tbls b ps q;exact⟨more,by rw[cV (ne _ _ z)];exact z⟩
 . rw[cV (M7 hL)];exact I.free
 . rw[cV (hc x c q)];exact I.freeC x c q
 . obtain⟨h1,h2,h3⟩:=I.pin p q;exact⟨h1,by rw[cV (hp p q)];exact h2,h3⟩
 . by_cases hb:b=D
   . subst hb;rw[fR]at q;cases q;exact⟨hz,its,n,rv,e⟩
   . rw[cV hb]at q;exact(I.hok b u q).stay (λc v _ z=>z) (λc z=>by rw[cV (ne _ _ z)];exact z) λc xs z=>by rw[cV (ne _ _ z)];exact z
def Ext(ks:List Nat)(σ σ2:St):Prop:=σ2.length=σ.length/\∀(i:Nat)(v:V),(clr ks σ)[i]?=some (some v)->σ2[i]?=some (some v)
def CGo(ks:List Nat)(g:TG)(tc:TT)(te:TE)(σ:St)(F:Addr->Hp->Prop)(J:It)(H1:Hp):Prop:=
 ∃W:Nat->Nat->List V->Hp->Prop,(∃m,W 0 m [] H1)/\∀i m ys H,W i m ys H->
  (J.stop i H/\∀D,H D=none->F D (upd H D (.lst ys)))\/
  (J.go i H/\ys.length<sizeLine/\∃N:List V->Hp->Prop,(∀ys' H',N ys' H'->∃m',m'<m/\W (i+1) m' ys' H')/\∀x H',J.yld i H x H'->g x (clr ks σ) H' λσ2 H2=>Ext ks σ σ2/\tc σ2 H2 λb H3=>
   if b=true then te σ2 H3 λv H4=>N (ys++[v]) H4 else N ys H3)
def cr3(ks:List Nat)(wi:TI)(g:TG)(tc:TT)(te:TE):TE:=λσ H Q=>wi σ H (CGo ks g tc te σ λD H'=>Q (.ref D) H')
def aq6(k:Nat)(ks:List Nat)(wi:TI)(g:TG)(tc:TT)(te:TE):TS:=λD σ H=>wi σ H (CGo ks g tc te σ λa H'=>D.nx (σ.set k (some (.ref a))) H')
section
variable{X:Cx}
def cx1{tg iter elt:Expr}{ifs:List Expr}{scope:Scope}{pos:Pos}{ks:List Nat}{g:TG}{tc:TT}{te:TE}{F:Addr->Hp->Prop}{RR:Value->Addr->Result->B7->Prop}{E:Value->B7->Prop}
 {pins:List (Addr×Obj)}{σ:St}{s2:B7}{itv:Value}(S:CScope X ks scope)(hc:X.calm=true)
 (hg:∀cl C s₀ H₀ ex,PG (oM X scope cl C s₀ H₀ ex) tg g)(hi:∀cl C s₀ H₀ ex,PIf (oM X scope cl C s₀ H₀ ex) ifs tc)(he:∀cl C s₀ H₀ ex,PE (oM X scope cl C s₀ H₀ ex) elt te)
 (h:PIE X pins σ tg (CGo ks g tc te σ F) itv s2)
 (hRR:∀D C s' H',Inv X pins σ H' s'->(∃m,s'.heap.Ns C m)->uD X pins H' C->F D H'->RR (.ref D) C (.ok .next) s'):
 wpAny (model X.prog X.w) X.A (newList []) (λacc s₃=>wpAny (model X.prog X.w) X.A (newFunctionEnv scope X.env.globals (iL X.env.cells scope.names []) [] X.env.qual none .none (some X.env)) (λcenv s₄=>
  codeAny (model X.prog X.w) X.A (.compStart (.ListComp elt [⟨tg,iter,ifs,0⟩] scope pos) 0 itv acc {cenv with scope:=relabel scope X.env}) (RR acc cenv.locals) s₄) E s₃) E s2:=by
 obtain⟨it,fp,tn,J,H2,rfl,I2,T,st2,f2,W,⟨m0,w0⟩,turn⟩:=h
 refine N3 (wpAny_newFunctionEnv S.cell (by intro y hy;simp at hy) (λh₁ hns₁ hsb₁=>?_) S.kind)
 dsimp only at hns₁ hsb₁⊢
 have hD2:s2.heap.get? s2.heap.objs.size=none:=Heap.get?_none_of_le (D6 _)
 have nD:H2 s2.heap.objs.size=none:=I2.hok.fresh (D6 _)
 have I3:Inv X pins σ H2 {s2 with heap:=s2.heap.push {cls:=.type "list",dict:=none,data:=.seq ([]:List Value).toArray}}:=I2.kept (t':=s2.toks) λb o e=>A9 _ e
 have eD3:(s2.heap.push {cls:=.type "list",dict:=none,data:=.seq ([]:List Value).toArray}).get? s2.heap.objs.size=some {cls:=.type "list",dict:=none,data:=.seq ([]:List Value).toArray}:=D5 _ rfl
 have hsz3:(s2.heap.push {cls:=.type "list",dict:=none,data:=.seq ([]:List Value).toArray}).objs.size=s2.heap.objs.size+1:=M3 _ _
 have fD:=I2.fpOk (b:=s2.heap.objs.size) (D6 _) nD
 have fplt:∀b∈fp,b<s2.heap.objs.size:=λb hb=>by
  obtain⟨o,e,_⟩:=T.obj _ _ st2 b hb
  exact C8 e
 have hDfp:s2.heap.objs.size∉fp:=λz=>N1 _ (fplt _ z)
 generalize hs3:({s2 with heap:=s2.heap.push {cls:=.type "list",dict:=none,data:=.seq ([]:List Value).toArray}}:B7)=s3 at I3
 generalize hDD:s2.heap.objs.size=D at*
 have s3h:s3.heap=s2.heap.push {cls:=.type "list",dict:=none,data:=.seq ([]:List Value).toArray}:=by rw[<-hs3]
 rw[<-s3h]at hns₁ hsb₁ eD3 hsz3
 have fC:=I3.fpOk (H':=H2) (b:=s3.heap.objs.size) (D6 _) (I3.hok.fresh (D6 _))
 have old:∀b o,s3.heap.get? b=some o->h₁.get? b=some o:=λb o e=>hsb₁.extBut b o (G6 (C8 e)) (A9 _ e)
 generalize hCC:s3.heap.objs.size=C at*
 have hDltC:D<C:=by rw[hsz3];exact Q6 _
 have hDC:D≠C:=G6 hDltC
 have hclos:=ao1 (env:=X.env) (scope:=scope) λx hx hk=>I2.ok.has x.1 (S.free x hx hk)
 have csound:∀y c,(iL X.env.cells scope.names []).lookup y=some c->X.env.cells.lookup y=some c:=
  xD scope.names [] (λx hx hk=>I2.ok.has x.1 (S.free x hx hk)) λy c e=>by cases e
 generalize hcl:iL X.env.cells scope.names []=cl at*
 have kin:∀y,(compEnvC scope cl C X.env).kindOf y=(scope.names.lookup y).map λk=>if(k==NameKind.free&&X.env.scope.kind==.function&&X.env.kindOf y==some .cell)=true then NameKind.cell else k:=λy=>ah0 scope.names
 have isFree:∀y,((compEnvC scope cl C X.env).kindOf y=some .cell\/(compEnvC scope cl C X.env).kindOf y=some .free)->(y,NameKind.free)∈scope.names:=λy hy=>by
  rw[kin y]at hy
  cases q:scope.names.lookup y with
  |none=>
   rw[q]at hy
   rcases hy with z|z<;>cases z
  |some k=>
   rw[q]at hy
   have hm:=au5 q
   cases k with
   |free=>exact hm
   |cell=>exact B0 rfl (S.cell _ hm)
   |_=>
    rcases hy with z|z
    . exact B0 (E8 z) W0
    . exact B0 (E8 z) W0
 have neFs:∀b,uD X pins H2 b->b∉zY X.stack:=λb f z=>by
  rcases B9.mp (I2.stkSub b z)with e|e
  . exact f.2.1 e
  . exact f.2.2.1 e
 have exs:∀b∈D::fp,uD X pins H2 b:=λb hb=>by
  rcases B9.mp hb with e|e
  . rw[e];exact fD
  . exact f2 b e
 have exlt:∀b∈D::fp,b<C:=λb hb=>by
  rcases B9.mp hb with e|e
  . rw[e];exact hDltC
  . exact Nat.lt_trans (fplt b e) hDltC
 have okY:(oM X scope cl C s3 H2 (D::fp)).Ok:=
  {
   mod:=I2.ok.mod,kind:=S.kind,glob:=I2.ok.glob,blt:=I2.ok.blt,above:=Nat.le_of_eq hCC
   inj:=λx y c h1 h2=>I2.ok.inj x y c (csound _ _ h1) (csound _ _ h2)
   has:=λy hy=>by
    have z:=wQ (cells:=X.env.cells) scope.names [] y (isFree y hy)
    rw[hcl]at z
    exact z
   cab:=λ_ _ z=>by cases z
   hd:=I2.ok.hd,frames:=I2.ok.frames,stk:=.inl rfl
   exf:=λb hb=>⟨G6 (exlt b hb),λx c e z=>(exs b hb).2.2.2.2.1 x c (csound _ _ e) z⟩
   bs:=I3.bs
   bsz:=J2 I2.ok.bsz I3.sz
   noex:=λb o e hb=>by
    rcases(exs b hb).2.2.2.1 with z|z
    . exact I2.ok.noex b o e z
    . exact B0 (F6 (C8 e) (J2 I2.ok.bsz z)) (N1 _)
   exfs:=λb hb=>neFs b (exs b hb)
   funs:=I3.stack
   frf:=I3.stkFree}
 have outP:∀p∈X.pn++pins,p.1≠C/\p.1∉zY X.stack/\p.1≠D:=λp hp=>by
  obtain⟨e,n,ne,nf,d⟩:=I2.pin p hp
  have lt:p.1<D:=by rw[<-hDD];exact C8 e
  refine⟨G6 (Nat.lt_trans lt hDltC),λz=>?_,G6 lt⟩
  rcases B9.mp (I2.stkSub p.1 z)with q|q
  . exact ne q
  . exact nf q
 have I4:Inv (oM X scope cl C s3 H2 (D::fp)) (X.pn++pins) (clr ks σ) H2 {s3 with heap:=h₁,toks:=s3.toks+([]:List (Str×Value)).length}:=by
  refine⟨okY,rfl,I3.bare,Un.kept old,⟨_,hns₁,λi x v e1 e2 e3=>?_⟩,λx c e=>?_,?_,λx c e=>?_,λp hp=>?_,I3.hok.kept old,?_⟩
  . obtain⟨e2,nk⟩:=bg1 ks σ e2
    have hv:(compEnvC scope cl C X.env).kindOf x=some .cell\/(compEnvC scope cl C X.env).kindOf x=some .free:=by
     rcases e3 with z|z|z
     . exfalso
       have z':(compEnvC scope cl C X.env).kindOf x=some .local:=z
       rw[kin x]at z'
       have hm:(x,i)∈X.N.zipIdx:=by
        rw[List.mem_zipIdx_iff_getElem?]
        exact e1
       refine nk (S.slots (x,i) hm ?_)
       show scope.names.lookup x=some .local
       cases q:scope.names.lookup x with
       |none=>rw[q]at z';cases z'
       |some k=>
        rw[q]at z'
        have z2:=E8 z'
        cases k with
        |«local»=>rfl
        |free=>
         exfalso
         dsimp only at z2
         split at z2<;>cases z2
        |_=>exact B0 z2 W0
     . exact .inl z
     . exact .inr z
    have hf:=isFree x hv
    have hX:=S.free (x,.free) hf rfl
    obtain⟨m,hn,hl⟩:=I3.loc
    obtain⟨u,r,lk⟩:=hl i x v e1 e2 (by rcases hX with z|z;exact .inr (.inl z);exact .inr (.inr z))
    refine⟨u,r,.inr ⟨hv,?_⟩⟩
    have z:=wQ (cells:=X.env.cells) scope.names [] x hf
    rw[hcl]at z
    obtain⟨c,hcx⟩:=z
    rcases lk with⟨kl,_⟩|⟨_,c',e',z'⟩
    . have hX':X.env.kindOf x=some .cell\/X.env.kindOf x=some .free:=hX
      rw[kl]at hX'
      rcases hX' with z|z<;>cases z
    . have q:=csound x c hcx
      rw[e']at q
      cases q
      obtain⟨o,ho,hd⟩:=z'
      exact⟨c,hcx,o,old _ _ ho,hd⟩
  . obtain⟨v,o,ho,hd⟩:=I3.cell x c (csound x c e)
    exact⟨v,o,old _ _ ho,hd⟩
  . exact I3.hok.fresh (Nat.le_of_eq hCC)
  . exact I3.freeC x c (csound x c e)
  . have hp':p∈X.pn++pins:=hp
    obtain⟨e,n,ne,nf,d⟩:=I3.pin p hp'
    exact⟨old _ _ e,n,(outP p hp').1,(outP p hp').2.1,d⟩
  . rw[tS]
    exact I3.len
 have fpY:∀{pl:List (Addr×Obj)}{H':Hp},(∀p∈pl,p.1∉fp)->(∀b∈fp,H' b=none)->∀b∈fp,uD (oM X scope cl C s3 H2 (D::fp)) ((X.pn++pins)++pl) H' b:=λ{pl H'} hpl hn b hb=>by
  have f:=f2 b hb
  refine⟨hn b hb,G6 (exlt b (A5 _ hb)),neFs b f,.inl (A5 _ hb),λx c e z=>f.2.2.2.2.1 x c (csound x c e) z,λp hp=>?_⟩
  have hp':p∈(X.pn++pins)++pl:=hp
  rcases A3.mp hp' with q|q
  . exact f.2.2.2.2.2 p q
  . exact λz=>hpl p q (by rw[z];exact hb)
 have start:∀s₅:B7,s₅={s3 with heap:=h₁,toks:=s3.toks+([]:List (Str×Value)).length}->
  codeAny (model X.prog X.w) X.A (.compLoop (.ListComp elt [⟨tg,iter,ifs,0⟩] scope pos) 0 (.ref it) (.ref D) (compEnvC scope cl C X.env)) (RR (.ref D) C) s₅:=by
  rintro s₅ rfl
  refine cl8 (λn s'=>∃i H' ys its nn,Inv (oM X scope cl C s3 H2 (D::fp)) (X.pn++pins) (clr ks σ) H' s'/\tn i s'.heap/\(∀b∈fp,H' b=none)/\H' D=none/\s'.heap.get? D=some {cls:=.type "list",data:=.seq its nn}/\Vals ys its.toList/\ys.length<=sizeLine/\W i n ys H') ?_ m0
   ⟨0,H2,[],#[],0,I4,T.keep _ _ _ st2 (λb hb o e=>old _ _ (by rw[s3h];exact A9 _ e)),λb hb=>(f2 b hb).1,nD,old _ _ eD3,.nil,L7 _,w0⟩
  rintro n s6 ⟨i,H6,ys,its,nn,I6,st6,fr6,nD6,eD6,rv6,hz6,w6⟩
  have I6':Inv (oM X scope cl C s3 H2 (D::fp)) ((X.pn++pins)++[(D,{cls:=.type "list",data:=.seq its nn})]) (clr ks σ) H6 s6:=I6.pins_of λp hp=>(A3.mp hp).elim (λz=>I6.pin p (B6 _ z)) λz=>by
   obtain rfl:=C5.mp z
   exact⟨eD6,nD6,hDC,neFs D fD,λv q=>by cases q⟩
  have plD:∀p∈[((D,{cls:=.type "list",data:=.seq its nn}):Addr×Obj)],p.1∉fp:=λp hp=>by
   obtain rfl:=C5.mp hp
   exact hDfp
  rcases turn i n ys H6 w6 with⟨stop,bU⟩|⟨go,hz,N,hN,step⟩
  . refine kU (T.done (oM X scope cl C s3 H2 (D::fp)) rfl rfl rfl hc i _ s6 (clr ks σ) H6 _ I6' (fpY plD fr6) st6 stop) λr s7 ⟨hr,I7⟩=>?_
    subst hr
    have IX:Inv X pins σ H6 s7:=I3.call' (ch:=D::fp) I7.os I7.base I7.hok I7.bare λb hb=>⟨(exs b hb).2.2.2.1,(exs b hb).2.1,(exs b hb).2.2.2.2.1,(exs b hb).2.2.2.2.2⟩
    have eD7:=(I7.pin (D,{cls:=.type "list",data:=.seq its nn}) (B6 _ (B6 _ (C5.mpr rfl)))).1
    have rv7:Vals ys its.toList:=rv6
    have IT:Inv X pins σ (upd H6 D (.lst ys)) s7:=IX.track (its:=its.toList) (n:=nn) nD6 (by
     have:=I2.sz
     omega) fD.2.1 fD.2.2.2.2.1 fD.2.2.2.2.2 (by simpa using eD7) rv7 hz6
    obtain⟨m7,hn7,_⟩:=I7.loc
    refine hRR D C s7 _ IT ⟨m7,hn7⟩ ⟨?_,fC.2⟩ (bU D nD6)
    rw[cV (M7 hDC)]
    exact I7.free
  . refine kU (T.item (oM X scope cl C s3 H2 (D::fp)) rfl rfl rfl hc i _ s6 (clr ks σ) H6 _ I6' (fpY plD fr6) st6 go) λr s7 ⟨u,hr,h7⟩=>?_
    subst hr
    refine kU h7 λ_ s8 ⟨x,H8,I8,r8,y8,st8,fr8⟩=>?_
    have I8':=I8.pinned (fpY plD fr8) (T.obj _ _ st8)
    refine thG (hg cl C s3 H2 (D::fp) s8 (clr ks σ) H8 x u _ I8' r8 (step x H8 y8)) λ_ s9 σ9 H9 I9 qq=>?_
    obtain⟨hE,q9⟩:=qq
    refine thT (hi cl C s3 H2 (D::fp) s9 σ9 H9 _ I9 q9) λok s10 H10 I10 q10=>?_
    have memD:(D,({cls:=.type "list",data:=.seq its nn}:Obj))∈([]:List (Addr×Obj))++(((X.pn++pins)++[(D,{cls:=.type "list",data:=.seq its nn})])++ai0 fp s8.heap):=B6 _ (D7 _ (B6 _ (C5.mpr rfl)))
    have keepT:∀{σ':St}{H':Hp}{s':B7},Inv (oM X scope cl C s3 H2 (D::fp)) (((X.pn++pins)++[(D,{cls:=.type "list",data:=.seq its nn})])++ai0 fp s8.heap) σ' H' s'->tn (i+1) s'.heap/\(∀b∈fp,H' b=none):=λ{σ' H' s'} I'=>
     ⟨T.keep _ _ _ st8 λb hb o e=>(I'.pin (b,o) (B6 _ (B6 _ (wB hb e)))).1,λb hb=>by
      obtain⟨o,e,d⟩:=T.obj _ _ st8 b hb
      exact(I'.pin (b,o) (B6 _ (B6 _ (wB hb e)))).2.1⟩
    cases ok with
    |false=>
     obtain⟨m',hm,w10⟩:=hN ys H10 q10
     obtain⟨k1,k2⟩:=keepT I10
     obtain⟨p1,p2,_⟩:=I10.pin _ memD
     exact⟨m',hm,i+1,H10,ys,its,nn,I10.unpinned.unpinned.weak (by rw[tS];exact hE.1.symm) hE.2,k1,k2,p2,p1,rv6,hz6,w10⟩
    |true=>
     refine jH (he cl C s3 H2 (D::fp) s10 σ9 H10 _ I10 q10) λvv s11 v H11 I11 r11 n11=>?_
     obtain⟨m',hm,w11⟩:=hN _ _ n11
     obtain⟨k1,k2⟩:=keepT I11
     obtain⟨p1,p2,_⟩:=I11.pin _ memD
     have hlen:ys.length=its.size:=by have:=rv6.length;simpa using this
     refine R3 PySem.F.slot_list_append ⟨_,p1,rfl⟩ PySem.F.entry_list_append (PySem.F.args_list_append_2 _ _) (PySem.list_append D its nn vv V8) ⟨p1,?_⟩
     have q:=PySem.IsL.update p1 λxs=>xs.push vv
     refine⟨m',hm,i+1,H11,ys++[v],its.push vv,_,(I11.unpinned.unpinned.weak (by rw[tS];exact hE.1.symm) hE.2).turned (λb o hb e=>(Q9 _ _ (M7 hb)).trans e) p2 hDC (.inl A7) (λx c e z=>fD.2.2.2.2.1 x c (csound x c e) z) (λp hp=>(outP p hp).2.2),?_,k2,p2,q,?_,?_,w11⟩
     . refine T.keep _ _ _ k1 λb hb o e=>(Q9 _ _ ?_).trans e
       intro z
       exact hDfp (by rw[z];exact hb)
     . have:(its.push vv).toList=its.toList++[vv]:=W0
       rw[this]
       exact rv6.append (.cons r11 .nil)
     . rw[E7,List.length_singleton]
       omega
 have hCC':(s2.heap.push {cls:=.type "list",dict:=none,data:=.seq ([]:List Value).toArray}).objs.size=C:=by rw[<-s3h];exact hCC
 rw[hCC']
 exact codeAny_compStart_list (start _ (by rw[<-hs3])) (T.self _ 0 _ _ _ (T.keep _ _ _ st2 (λb hb o e=>old _ _ (by rw[s3h];exact A9 _ e))) (start _ (by rw[<-hs3])))
def dh6(S:CScope X ks scope)(hc:X.calm=true)(hit:PI X tg iter wi)
 (hg:∀cl C s₀ H₀ ex,PG (oM X scope cl C s₀ H₀ ex) tg g)(hi:∀cl C s₀ H₀ ex,PIf (oM X scope cl C s₀ H₀ ex) ifs tc)(he:∀cl C s₀ H₀ ex,PE (oM X scope cl C s₀ H₀ ex) elt te)
 (hs:∀x,foldedSetIterable iter X.env x=pure x:=by intro _;rfl):PE X (.ListComp elt [⟨tg,iter,ifs,0⟩] scope pos) (cr3 ks wi g tc te):=by
 intro pins s σ H Q I h;rw[eval_ListComp];refine wpAny_comprehension_free (use:=none) rfl hs (ao1 λx hx hk=>I.ok.has x.1 (S.free x hx hk)) S.kind S.names (kU (hit s σ H _ I h) λv s1 h1=>kU h1 λitv s2 h2=>?_);refine cx1 (RR:=λacc C=>compPost (model X.prog X.w) X.A X.xe none (EP X pins σ Q) acc C) S hc hg hi he h2 ?_;rintro D C s' H' I' ⟨m,hn⟩ f q;exact⟨m,hn,λh'' sb=>⟨.ref D,H',I'.turned (t':=s'.toks) (λb o hb e=>(sb.2 b hb).trans e) f.1 f.2.1 f.2.2.2.1 f.2.2.2.2.1 f.2.2.2.2.2,rfl,q⟩⟩
def cu2(hN:X.N.Nodup)(hi':X.N[i]?=some y)(hy:Loc X.env.scope y)
 (S:CScope X ks scope)(hc:X.calm=true)(hit:PI X tg iter wi)
 (hg:∀cl C s₀ H₀ ex,PG (oM X scope cl C s₀ H₀ ex) tg g)(hi:∀cl C s₀ H₀ ex,PIf (oM X scope cl C s₀ H₀ ex) ifs tc)(he:∀cl C s₀ H₀ ex,PE (oM X scope cl C s₀ H₀ ex) elt te)
 (hsw:swapsWith (.ListComp elt [⟨tg,iter,ifs,0⟩] scope pos) (some (.Name y py)) spos.line X.env=pure true:=by rfl)
 (hs:∀x,foldedSetIterable iter X.env x=pure x:=by intro _;rfl)(hf:X.fn y=true\/X.env.scope.names.lookup y=some .local:=by first|exact .inl rfl|exact .inr rfl|assumption):
 PS X (.Assign [.Name y py] (.ListComp elt [⟨tg,iter,ifs,0⟩] scope pos) spos) (aq6 i ks wi g tc te):=by
 intro pins s σ H D I h;rw[exec_Assign_Name_used _ _ _ _ hsw];refine A4 (V6 (A4 ?_));show wpAny _ X.A (do let _<-comprehension (.ListComp elt [⟨tg,iter,ifs,0⟩] scope pos) scope X.env _ (newList []) false (eval iter X.env) (some (assign (.Name y py) X.env))) _ _ s;refine A4 (M5 (wpAny_comprehension_free (use:=some (assign (.Name y py) X.env)) (Q:=λ_ s'=>SP X pins D .next s') rfl hs (ao1 λx hx hk=>I.ok.has x.1 (S.free x hx hk)) S.kind S.names
  (kU (hit s σ H _ I h) λv s1 h1=>kU h1 λitv s2 h2=>?_)) (λ_ s' hq=>D4 (D4 hq)) λ_ _ e=>e)
 refine cx1 (RR:=λacc C=>compPost (model X.prog X.w) X.A X.xe (some (assign (.Name y py) X.env)) (λ_ s'=>SP X pins D .next s') acc C) S hc hg hi he h2 ?_;rintro L C s' H' I' ⟨m,hn⟩ f q;show wpAny _ _ (assign (.Name y py) X.env (.ref L)) _ _ s';refine wpAny_assign_Name (bf3 (v:=.ref L) I' hN hi' hy rfl (λs'' I'' hh=>?_) hf);obtain⟨a,sb,ha⟩:=hh;have hCa:C≠a:=by
  rcases ha with e|e
  . rw[e];exact f.2.1
  . exact λz=>f.2.2.2.2.1 y a e z.symm
 exact⟨m,hn.sameBut sb hCa,λh'' sb'=>⟨_,H',I''.turned (t':=s''.toks) (λb o hb e=>(sb'.2 b hb).trans e) f.1 f.2.1 f.2.2.2.1 f.2.2.2.2.1 f.2.2.2.2.2,q⟩⟩
end
section
variable{X:Cx}
def cu5(hc:X.calm=true):CallR X (.builtin "max") (λxs H Q=>∃(p:Addr)(ns:List Int),xs=[.ref p]/\SqL X.K H p (ns.map V.int)/\ns≠[]/\∀M,M∈ns->(∀a∈ns,a<=M)->Q (.int M) H):=by
 intro pins s σ H xs us Q I r h;obtain⟨p,ns,rfl,hp,hne,q⟩:=h;obtain⟨u,rfl,ru⟩:=r.one;obtain rfl:u=Value.ref p:=ru;obtain⟨its,rv,pl,_⟩:=I.list hp;have hi:IntsAre its ns:=tR rv;have hl:=pl.isList;obtain⟨xs,e⟩:=hi.allInts.items;have hns:ns=xs.toList.map (·.1):=by rw[<-hi.numsOf,<-nums_intItems,<-e]
 have hsz:0<xs.size:=by have h3:=U2.mpr hne;rw[hns,B5,J1]at h3;exact h3
 rw[e]at hl;refine max_intList (I.ok.hd hc) hl hsz λv h' tk hv hk=>?_;obtain⟨t,rfl⟩:=intItems_at hv;obtain⟨h1,h2⟩:=argBest_gt (numAt xs) (xs.size-1);refine⟨.int _,H,I.kept hk,⟨t,rfl⟩,q _ ?_ λa ha=>?_⟩
 . rw[hns,numAt_eq];exact getD_mem (by rw[B5,J1];omega)
 . rw[hns]at ha;obtain⟨j,hj,rfl⟩:=mem_getD ha;rw[B5,J1]at hj;rw[<-numAt_eq];exact h2 j V8
def cl5(hc:X.calm=true):CallR X (.builtin "min") (λxs H Q=>∃(p:Addr)(ns:List Int),xs=[.ref p]/\SqL X.K H p (ns.map V.int)/\ns≠[]/\∀M,M∈ns->(∀a∈ns,M<=a)->Q (.int M) H):=by
 intro pins s σ H xs us Q I r h;obtain⟨p,ns,rfl,hp,hne,q⟩:=h;obtain⟨u,rfl,ru⟩:=r.one;obtain rfl:u=Value.ref p:=ru;obtain⟨its,rv,pl,_⟩:=I.list hp;have hi:IntsAre its ns:=tR rv;have hl:=pl.isList;obtain⟨xs,e⟩:=hi.allInts.items;have hns:ns=xs.toList.map (·.1):=by rw[<-hi.numsOf,<-nums_intItems,<-e]
 have hsz:0<xs.size:=by have h3:=U2.mpr hne;rw[hns,B5,J1]at h3;exact h3
 rw[e]at hl;refine min_intList (I.ok.hd hc) hl hsz λv h' tk hv hk=>?_;obtain⟨t,rfl⟩:=intItems_at hv;obtain⟨h1,h2⟩:=argBest_lt (numAt xs) (xs.size-1);refine⟨.int _,H,I.kept hk,⟨t,rfl⟩,q _ ?_ λa ha=>?_⟩
 . rw[hns,numAt_eq];exact getD_mem (by rw[B5,J1];omega)
 . rw[hns]at ha;obtain⟨j,hj,rfl⟩:=mem_getD ha;rw[B5,J1]at hj;rw[<-numAt_eq];exact h2 j V8
end
section
variable{X:Cx}
end
def Its(z:Str):It:=⟨λi _=>i<z.cps.size,λi H x H'=>H'=H/\∃c,z.cps[i]?=some c/\x=.str ⟨#[c]⟩,λi _=>z.cps.size<=i⟩
def cn6(hQ:Q () s):wpAny M A (letOwnedTupleGo tg (.ref it) (.str x t)) Q E s:=by unfold letOwnedTupleGo;cases tg<;>exact D4 hQ
def ct3{P:F9}{w:World}{K:A1}{tg:Expr}(it:Addr)(z:Str)(t:Tok):am3 P w K tg (Its z) [it] it (λi h=>h.IsStrIter it "str_ascii_iterator" z t i) where
 mem:=W0
 obj:=λi h st b hb=>by
  have e:b=it:=by simpa using hb
  subst e;obtain⟨o,e,c,d⟩:=st;exact⟨o,e,λv q=>by rw[d]at q;cases q⟩
 keep:=λi h h' st k=>let⟨o,e,r⟩:=st;⟨o,k it W0 o e,r⟩
 item:=by intro X hP hw hK hc i pins s σ H E I hf st hg;subst hP hw hK;obtain⟨f0,f1,f2,f3,f4,f5⟩:=hf it W0;have hg':i<z.cps.size:=hg;refine wpAny_pyNext_ascii_item st (c:=z.cps[i]) (by simp[hg']) λh' hit' hs'=>?_;have I1:Inv X pins σ H {s with heap:=h',toks:=s.toks+1}:=I.turned (λb o hb e=>hs'.extBut b o hb e) f0 f1 f3 f4 f5;exact⟨_,rfl,cn6 ⟨.str ⟨#[z.cps[i]]⟩,H,I1,⟨_,rfl⟩,⟨rfl,_,by simp[hg'],rfl⟩,hit',λb hb=>(hf b hb).1⟩⟩
 done:=by intro X hP hw hK hc i pins s σ H E I hf st hg;subst hP hw hK;obtain⟨f0,f1,f2,f3,f4,f5⟩:=hf it W0;have hg':z.cps.size<=i:=hg;exact wpAny_pyNext_ascii_end (I.ok.hd hc) st (by simp[hg']) λh' he'=>⟨rfl,I.turned (t':=s.toks) (λb o hb e=>he' b o hb e) f0 f1 f3 f4 f5⟩
 self:=λ_ _ _ _ _ st h=>wpAny_pyIter_striter_ascii st h
def cp5{P:F9}{w:World}{K:A1}{tg:Expr}(it:Addr)(z:Str)(t:Tok):am3 P w K tg (Its z) [it] it (λi h=>h.IsStrIter it "str_iterator" z t i) where
 mem:=W0
 obj:=λi h st b hb=>by
  have e:b=it:=by simpa using hb
  subst e;obtain⟨o,e,c,d⟩:=st;exact⟨o,e,λv q=>by rw[d]at q;cases q⟩
 keep:=λi h h' st k=>let⟨o,e,r⟩:=st;⟨o,k it W0 o e,r⟩
 item:=by intro X hP hw hK hc i pins s σ H E I hf st hg;subst hP hw hK;obtain⟨f0,f1,f2,f3,f4,f5⟩:=hf it W0;have hg':i<z.cps.size:=hg;refine wpAny_pyNext_wide_item st (c:=z.cps[i]) (by simp[hg']) λh' hit' hs'=>?_;have I1:Inv X pins σ H {s with heap:=h',toks:=s.toks+1}:=I.turned (λb o hb e=>hs'.extBut b o hb e) f0 f1 f3 f4 f5;exact⟨_,rfl,cn6 ⟨.str ⟨#[z.cps[i]]⟩,H,I1,⟨_,rfl⟩,⟨rfl,_,by simp[hg'],rfl⟩,hit',λb hb=>(hf b hb).1⟩⟩
 done:=by intro X hP hw hK hc i pins s σ H E I hf st hg;subst hP hw hK;obtain⟨f0,f1,f2,f3,f4,f5⟩:=hf it W0;have hg':z.cps.size<=i:=hg;exact wpAny_pyNext_wide_end (I.ok.hd hc) st (by simp[hg']) λh' he'=>⟨rfl,I.turned (t':=s.toks) (λb o hb e=>he' b o hb e) f0 f1 f3 f4 f5⟩
 self:=λ_ _ _ _ _ st h=>wpAny_pyIter_striter_wide st h
section
variable{X:Cx}
def eq3:V->Option Int->Option Int->Hp->VK->Prop:=λx lo hi H Q=>∃z,x=.str z/\z.length<=sizeLine/\Q (.str (Txt.slice z lo hi)) H
theorem eg1:SlR X eq3:=by
 intro pins s σ H x v vl vu lo hi sl Q I rx hs pl pu h;obtain⟨z,rfl,hz,q⟩:=h;obtain⟨t,rfl⟩:=rx;refine⟨"str",_,F.slot_str_getitem.lookup,typeIs_str s z t,?_⟩;obtain⟨o,e,c,d⟩:=hs;have go:∀(l u:Option (Int×Tok)),vl=partValue l->vu=partValue u->lo=l.map (·.1)->hi=u.map (·.1)->wpAny (model X.prog X.w) X.A (getItem (.str z t) (.ref sl)) (EP X pins σ Q) X.xe s:=by
  rintro l u rfl rfl rfl rfl;refine wpAny_getItem_str_slice (l:=l) (u:=u) (st:=none) ⟨o,e,c,d⟩ rfl ?_;unfold sliceMade;unfold Txt.slice at q;have e1:((((none:Option (Int×Tok)).map (·.1)).getD 1==1&&(slicePicked z l u none).length==z.length)=true)=(((1:Int)==1&&(Builtin.Str.strSliceIndices (l.map (·.1)) (u.map (·.1)) 1 z.length).length==z.length)=true):=rfl;split
  . rename_i hh;rw[E6 (e1▸hh)]at q;exact⟨.str z,H,I,⟨t,rfl⟩,q⟩
  . rename_i hh;rw[E5 (e1▸hh)]at q;refine⟨J2 (J2 (List.length_filterMap_le _ _) (sliceIndices_le _ _ _)) hz,.str _,H,I.tok _,⟨_,rfl⟩,q⟩
 cases pl with
 |none=>
  cases pu with
  |none=>exact go none none rfl rfl rfl rfl
  |int j u=>exact go none (some (j,u)) rfl rfl rfl rfl
 |int i t'=>
  cases pu with
  |none=>exact go (some (i,t')) none rfl rfl rfl rfl
  |int j u=>exact go (some (i,t')) (some (j,u)) rfl rfl rfl rfl
theorem bx2:∀{ys:List Str}{us:List Value},Vals (ys.map V.str) us->StrsAre us ys
 |[],_,.nil=>.nil
 |y::ys,_,.cons r t=>by obtain⟨k,rfl⟩:=r;exact .cons _ _ (bx2 t)
def cm2(K:A1):V->List V->Hp->VK->Prop:=λx vs H Q=>∃(z:Str)(p:Addr)(ys:List Str),x=.str z/\vs=[.ref p]/\SqL K H p (ys.map V.str)/\(ys.map (·.length)).sum+ys.length*z.length<=16777216/\Q (.str (Txt.join z ys)) H
def do9:MtR X "str.join" (cm2 X.K):=by intro pins s σ H x xs v us Q I rx rv h;obtain⟨z,p,ys,rfl,rfl,hp,hz,q⟩:=h;obtain⟨t,rfl⟩:=rx;obtain⟨u,rfl,ru⟩:=rv.one;obtain rfl:u=Value.ref p:=ru;obtain⟨its,r,pl,_⟩:=I.list hp;exact join_list pl.isList (by simpa using bx2 r) hz λt' k=>⟨.str _,H,I.tok _,⟨_,rfl⟩,q⟩
end
section
variable{X:Cx}
def eb8:R2:=λx y H Q=>∃i j,x=.str i/\y=.str j/\i.length+j.length<=sizeLine/\Q (.str (i++j)) H
def el2(K:A1):List V->Hp->VK->Prop:=λxs H Q=>∃x n,xs=[x]/\ed2 K x H n/\Q (.int n) H
def ew4:List V->Hp->VK->Prop:=λxs H Q=>∃i,xs=[.int i]/\Q (.int (if i<0 then -i else i)) H
def cs0:List V->Hp->VK->Prop:=λxs H Q=>∃i j,xs=[.int i,.int j]/\zV i j/\∀p,H p=none->Q (.ref p) (upd H p (.tup [.int (i/j),.int (i%j)]))
def ev9(K:A1):List V->Hp->VK->Prop:=λxs H Q=>∃x T tx b,xs=[x,.ty T]/\TyN K H x tx/\iX tx T b/\Q (.bl b) H
def eu2(K:A1):List V->Hp->VK->Prop:=λxs H Q=>∃(p:Addr)(bs:List Bool),xs=[.ref p]/\SqL K H p (bs.map V.bl)/\Q (.bl (bs.all id)) H
def et0(K:A1):List V->Hp->VK->Prop:=λxs H Q=>∃(p:Addr)(bs:List Bool),xs=[.ref p]/\SqL K H p (bs.map V.bl)/\Q (.bl (bs.any id)) H
def eo5:List V->Hp->VK->Prop:=λxs H Q=>∃i j,xs=[.int i,.int j]/\Q (.int (if j>i then j else i)) H
def ei8:List V->Hp->VK->Prop:=λxs H Q=>∃i j,xs=[.int i,.int j]/\Q (.int (if j<i then j else i)) H
def el8(K:A1):List V->Hp->VK->Prop:=λxs H Q=>∃(p:Addr)(ns:List Int),xs=[.ref p]/\SqL K H p (ns.map V.int)/\ns≠[]/\∀M,M∈ns->(∀a∈ns,a<=M)->Q (.int M) H
def ez5(K:A1):List V->Hp->VK->Prop:=λxs H Q=>∃(p:Addr)(ns:List Int),xs=[.ref p]/\SqL K H p (ns.map V.int)/\ns≠[]/\∀M,M∈ns->(∀a∈ns,M<=a)->Q (.int M) H
def dt3(K:A1):List V->Hp->VK->Prop:=λxs H Q=>eo5 xs H Q\/el8 K xs H Q
def dw1(K:A1):List V->Hp->VK->Prop:=λxs H Q=>ei8 xs H Q\/ez5 K xs H Q
def ck7(hc:X.calm=true:=by rfl):CallR X (.builtin "max") (dt3 X.K):=(cn8 hc).or (cu5 hc)
def cn5(hc:X.calm=true:=by rfl):CallR X (.builtin "min") (dw1 X.K):=(cv6 hc).or (cl5 hc)
def qS(hm:X.mg x=none)(hv:bootBuiltins x=some (.type ty))(hg:Gl X x:=by rfl)(hn:x≠"__name__":=by decide)(hd:(x==("__debug__":Str))=false:=by decide):PE X (.Name x pos) (tC (.ty ty)):=
 du7 (v:=.ty ty) hg hm hv rfl hn hd
def xF(mg:Str->Option Value)(x:Str)(v:V):Prop:=∃u,mg x=some u/\RelV v u
def kI(h:xF X.mg x v)(hg:Gl X x:=by rfl)(hd:(x==("__debug__":Str))=false:=by decide):PE X (.Name x pos) (tC v):=by obtain⟨u,hm,r⟩:=h;exact dj6 hg hm r hd
end
def cJ:bootBuiltins "len"=some (.builtin "len"):=PySem.boot_len
def bs7:bootBuiltins "abs"=some (.builtin "abs"):=V9
def cp6:bootBuiltins "divmod"=some (.builtin "divmod"):=V9
def fH:bootBuiltins "isinstance"=some (.builtin "isinstance"):=V9
def oP:bootBuiltins "all"=some (.builtin "all"):=V9
def cd8:bootBuiltins "any"=some (.builtin "any"):=V9
def aq3:bootBuiltins "max"=some (.builtin "max"):=V9
def xA:bootBuiltins "min"=some (.builtin "min"):=V9
def eu0:bootBuiltins "sum"=some (.builtin "sum"):=V9
def co8:bootBuiltins "int"=some (.type "int"):=V9
def cc2:bootBuiltins "bool"=some (.type "bool"):=V9
def ej0:bootBuiltins "str"=some (.type "str"):=V9
def jZ:bootBuiltins "list"=some (.type "list"):=V9
def ac2:bootBuiltins "tuple"=some (.type "tuple"):=V9
section
variable{t u:TS}{D:as6}{σ:St}{H:Hp}{te ta tb tc:TE}{g:TG}{i:Nat}{v:V}{Q:VK}{c:TT}{K:A1}{r r':R2}
end
structure eK (K:A1) (mg:Str->Option Value) (x:Str) (st:Stmt):Prop where
 ex:∃f fd,Fun K x x st f fd/\mg x=some (.ref f)
def ei4{K:A1}{h:Heap}{mg:Str->Option Value}(X:K.In h)(G:h.Ns mainGlobals mg){x:Str}{st:Stmt}{f:Addr}{oc:Value}{od an:Option Addr}{osl:Array (Option Value)}{kV doc pm cdv ct:Value}
 (a:PySem.W.nsIn K mainGlobals x=some (some (.ref f)))(l:K.lookup f=some ⟨oc,od,.func (PySem.W.fnOf x x (kQ st) (eM st) (aO st) .none kV doc pm an cdv ct),osl⟩)
 (c:PySem.W.codeIn K cdv x=true)(k:PySem.W.keepIn K (.ref f)=true):eK K mg x st:=⟨f,_,ae9 l c k,P5 X G a⟩
def ej4{K:A1}{h:Heap}{mg:Str->Option Value}(X:K.In h)(G:h.Ns mainGlobals mg){x:Str}{v:V}{u:Value}(a:PySem.W.nsIn K mainGlobals x=some (some u))(r:RelV v u):xF mg x v:=⟨u,P5 X G a,r⟩
section
variable{P:F9}{w:World}{K:A1}{mg:Str->Option Value}{base:Heap}
end
def cj4(h:Builtin.Int.intBits a+Builtin.Int.intBits b<=134217728):IntMulOk a b:=by
 have e:(2:Nat)^27=134217728:=W1
 have h:Builtin.Int.intTooBig (Builtin.Int.intBits a+Builtin.Int.intBits b)=false:=by unfold Builtin.Int.intTooBig bitsLine;exact E2 V8
 unfold IntMulOk;rw[h];simp
def da9(h1:-(2^64)<b)(h2:b<2^64):IntMulOk a b:=IntMulOk.of_right (intBits_le_64 h1 h2)
def df7(h1:-(2^64)<a)(h2:a<2^64):IntMulOk a b:=IntMulOk.of_left (intBits_le_64 h1 h2)
def SI(k:Bool)(h:Heap)(it l:Addr)(i:Nat):Prop:=∃o,h.get? it=some o/\o.cls=.type (cond k "tuple_iterator" "list_iterator")/\o.data=.fields #[.ref l,.int i 0]
def SQ(k:Bool)(h:Heap)(l:Addr)(us:Array Value):Prop:=∃o,h.get? l=some o/\o.cls=.type (cond k "tuple" "list")/\∃n,o.data=.seq us n
def SI.at(x:SI k h it l i)(e:∀o,h.get? it=some o->h'.get? it=some o):SI k h' it l i:=by obtain⟨o,ho,r⟩:=x;exact⟨o,e o ho,r⟩
def SQ.at(x:SQ k h l us)(e:∀o,h.get? l=some o->h'.get? l=some o):SQ k h' l us:=by obtain⟨o,ho,r⟩:=x;exact⟨o,e o ho,r⟩
section
variable{prog:F9}{w:World}{A:J5}{E:Value->B7->Prop}{s:B7}
theorem ai4(hit:SI k s.heap it l i)(hl:SQ k s.heap l us)(hx:us[i]?=some x)
 (hQ:∀h',SI k h' it l (i+1)->Heap.SameBut it s.heap h'->Q x {s with heap:=h'}):wpAny (model prog w) A (Builtin.SmallTypes.nextOf (.ref it)) Q E s:=by
 cases k with
 |false=>exact wpAny_nextOf_list_item hit hl hx hQ
 |true=>
  obtain⟨o,ho,hc,hd⟩:=hit;obtain⟨ol,hol,_,nl,hdl⟩:=hl;have hT:s.TypeIs (.ref it) "tuple_iterator":=⟨o,ho,hc⟩;unfold Builtin.SmallTypes.nextOf;refine A4 (O0 (name:=Str.ofString "__next__") hT P6 (R1 P6 hT F.entry_tuple_iterator_next ?_ (F.args_tuple_iterator_next_1 _)))
  (show wpAny _ _ (field (.ref it) 0>>=_) _ _ s);refine A4 (L4 ho hd (x:=.ref l) rfl ?_)
  (show wpAny _ _ (if(Value.ref l==Value.none)=true then _ else _) _ _ s);rw[E5 (show¬((Value.ref l==Value.none)=true) from E1)]
  (show wpAny _ _ (field (.ref it) 1>>=_) _ _ s);refine A4 (L4 ho hd (x:=.int i 0) rfl ?_)
  (show wpAny _ _ (seqItems? (.ref l)>>=_) _ _ s);refine A4 (N9 hol hdl ?_)
  simp only[Int.toNat_natCast,hx];refine A4 (wpAny_setField ho hd W0 (D4 ⟨x,rfl,D4 (hQ _ ?_ (Heap.SameBut.update ..))⟩));refine⟨_,Heap.get?_update_self _ ho (Obj.isFreed_of_fields (Obj.data_mapFields hd _)),(Obj.cls_mapFields ..).trans hc,?_⟩;rw[Obj.data_mapFields hd];simp[rawInt]
theorem ba8(hh:A.handled=none)(hit:SI k s.heap it l i)(hl:SQ k s.heap l us)(hx:us[i]?=none)
 (hE:∀h' e,Heap.ExtBut it s.heap h'->(∃o,h'.get? e=some o/\o.cls=.type "StopIteration")->E (.ref e) {s with heap:=h'}):wpAny (model prog w) A (Builtin.SmallTypes.nextOf (.ref it)) Q E s:=by
 cases k with
 |false=>exact wpAny_nextOf_list_end hh hit hl hx hE
 |true=>
  obtain⟨o,ho,hc,hd⟩:=hit;obtain⟨ol,hol,_,nl,hdl⟩:=hl;have hT:s.TypeIs (.ref it) "tuple_iterator":=⟨o,ho,hc⟩;unfold Builtin.SmallTypes.nextOf;refine A4 (O0 (name:=Str.ofString "__next__") hT P6 (R1 P6 hT F.entry_tuple_iterator_next ?_ (F.args_tuple_iterator_next_1 _)))
  (show wpAny _ _ (field (.ref it) 0>>=_) _ _ s);refine A4 (L4 ho hd (x:=.ref l) rfl ?_)
  (show wpAny _ _ (if(Value.ref l==Value.none)=true then _ else _) _ _ s);rw[E5 (show¬((Value.ref l==Value.none)=true) from E1)]
  (show wpAny _ _ (field (.ref it) 1>>=_) _ _ s);refine A4 (L4 ho hd (x:=.int i 0) rfl ?_)
  (show wpAny _ _ (seqItems? (.ref l)>>=_) _ _ s);refine A4 (N9 hol hdl ?_)
  simp only[Int.toNat_natCast,hx];refine A4 (wpAny_rule (A4 (wpAny_setField ho hd W0 ?_)))
  (show wpAny _ _ (newExc (.type "StopIteration") []>>=_) _ _ _);refine A4 ?_;simp only[newExc,newTuple]
  refine A4 (N3 ?_ (by size_fits));refine A4 (m:=firstArgMember _ _) (wpAny_of_eq (a:=Value.none) (by first|rfl|(simp only[firstArgMember];rfl)) ?_);refine N3 ?_ (by size_fits);simp only[raiseNew];refine A4 (wpAny_handled ?_);first|rw[show A.in1.handled=none from hh]|rw[hh]
  refine A4 (D4 (wpAny_throw ?_));exact hE _ _ (((Heap.SameBut.update ..).extBut.push _).push _) ⟨_,D5 _ rfl,rfl⟩
theorem bf8(hl:SQ k s.heap l us)
 (hQ:Q (.ref s.heap.objs.size) {s with heap:=s.heap.push {cls:=.type (cond k "tuple_iterator" "list_iterator"),data:=.fields #[.ref l,.int 0 0]}}):wpAny (model prog w) A (pyIter (.ref l)) Q E s:=by
 cases k with
 |false=>exact Q7 hl hQ
 |true=>exact wpAny_pyIter_tuple hl hQ
def cz9{k1 k2:Bool}{z TI TO i1 i2 l1 l2:Addr}{i:Nat}{us vs:Array Value}{x y a b:Value}{Q:Option Value->B7->Prop}(D:ZipApart z TI TO i1 i2 l1 l2)
 (hz:IsZip s.heap z TI TO .none)(hTI:IsPair s.heap TI (.ref i1) (.ref i2))(hTO:IsPair s.heap TO a b)(n1:SI k1 s.heap i1 l1 i)(n2:SI k2 s.heap i2 l2 i)(q1:SQ k1 s.heap l1 us)(q2:SQ k2 s.heap l2 vs)(hx:us[i]?=some x)(hy:vs[i]?=some y)
 (hQ:∀h',IsZip h' z TI TO (rawInt s.heap.objs.size)->IsPair h' TO x y->SI k1 h' i1 l1 (i+1)->SI k2 h' i2 l2 (i+1)->IsPair h' s.heap.objs.size x y->
  (∀c o,c≠z->c≠TO->c≠i1->c≠i2->s.heap.get? c=some o->h'.get? c=some o)->Q (some (.ref s.heap.objs.size)) {s with heap:=h'}):
 wpAny (model prog w) A (pyNext (.ref z)) Q E s:=by
 have hT:s.TypeIs (.ref z) "zip":=⟨_,hz,rfl⟩;unfold pyNext;refine A4 (wpAny_attempt (O0 (name:=Str.ofString "__next__") hT U4 (R1 U4 hT F.entry_zip_next ?_ (F.args_zip_next_1 _))))
 (show wpAny _ _ (field (.ref z) 2>>=_) _ _ _);refine A4 (L4 hz rfl (x:=.bool false) rfl ?_)
 (show wpAny _ _ (field (.ref z) 3>>=_) _ _ _);refine A4 (L4 hz rfl (x:=.ref TI) rfl ?_)
 refine A4 (N9 hTI rfl ?_);(show wpAny _ _ (Builtin.SmallTypes.ownedTupleIsFree (.ref z)>>=_) _ _ _)
 refine A4 ?_;unfold Builtin.SmallTypes.ownedTupleIsFree;refine A4 (L4 hz rfl (x:=.none) rfl (D4 ?_));simp only[if_true];refine A4 (wpAny_rule ?_);refine A4 (L4 hz rfl (x:=.ref TO) rfl ?_);refine A4 (O5 hz W0 λh₁ hz₁ g1=>?_);replace hz₁:IsZip h₁ z TI TO .ellipsis:=hz₁;refine A4 ?_;simp only[List.zipIdx_cons,List.zipIdx_nil,List.forIn_cons,List.forIn_nil];refine A4 (A4 (wpAny_onRaise ?_));(show wpAny _ _ (Builtin.SmallTypes.nextOf (.ref i1)>>=_) _ _ _)
 refine A4 (ai4 (n1.at λo e=>g1.extBut _ _ D.i1z e) (q1.at λo e=>g1.extBut _ _ D.l1z e) hx λh₂ n1' g2=>D4 ?_);have t2:IsPair h₂ TO a b:=g2.extBut _ _ D.TOi1 (g1.extBut _ _ D.TOz hTO);refine A4 (N9 t2 rfl ?_);refine A4 (U7 t2 λh₃ t3 g3=>?_);replace t3:IsPair h₃ TO x b:=t3;refine A4 (wpAny_letGo (D4 ?_));refine A4 (A4 (wpAny_onRaise ?_));(show wpAny _ _ (Builtin.SmallTypes.nextOf (.ref i2)>>=_) _ _ _)
 refine A4 (ai4 (n2.at λo e=>g3.extBut _ _ D.TOi2.symm (g2.extBut _ _ D.i12.symm (g1.extBut _ _ D.i2z e))) (q2.at λo e=>g3.extBut _ _ D.l2TO (g2.extBut _ _ D.l2i1 (g1.extBut _ _ D.l2z e))) hy λh₄ n2' g4=>D4 ?_);have t4:IsPair h₄ TO x b:=g4.extBut _ _ D.TOi2 t3;refine A4 (N9 t4 rfl ?_);refine A4 (U7 t4 λh₅ t5 g5=>?_);replace t5:IsPair h₅ TO x y:=t5;refine A4 (wpAny_letGo (D4 (D4 ?_)));refine A4 (N9 t5 rfl ?_);refine A4 (wpAny_newTuple ?_);have hsz:h₅.objs.size=s.heap.objs.size:=by rw[g5.1,g4.1,g3.1,g2.1,g1.1]
 have z5:IsZip h₅ z TI TO .ellipsis:=g5.extBut _ _ D.TOz.symm (g4.extBut _ _ D.i2z.symm (g3.extBut _ _ D.TOz.symm (g2.extBut _ _ D.i1z.symm hz₁)));have m1:SI k1 h₅ i1 l1 (i+1):=n1'.at λo e=>g5.extBut _ _ D.TOi1.symm (g4.extBut _ _ D.i12 (g3.extBut _ _ D.TOi1.symm e));have m2:SI k2 h₅ i2 l2 (i+1):=n2'.at λo e=>g5.extBut _ _ D.TOi2.symm e;have zlt:z<h₅.objs.size:=C8 z5
 (show wpAny _ _ (Builtin.SmallTypes.ownedTupleHandOut (.ref z) (.ref h₅.objs.size)>>=_) _ _ _);refine A4 ?_;unfold Builtin.SmallTypes.ownedTupleHandOut
 have z6:IsZip (h₅.push {cls:=.type "tuple",data:=.seq #[x,y]}) z TI TO .ellipsis:=A9 _ z5;refine A4 (O5 z6 W0 λh₇ z7 g7=>?_);replace z7:IsZip h₇ z TI TO (rawInt h₅.objs.size):=z7;refine O5 z7 W0 λh₈ z8 g8=>?_;replace z8:IsZip h₈ z TI TO (rawInt h₅.objs.size):=z8;have up:∀c o,c≠z->h₅.get? c=some o->h₈.get? c=some o:=λc o c1 e=>g8.extBut _ _ c1 (g7.extBut _ _ c1 (A9 _ e));have t8:IsPair h₈ h₅.objs.size x y:=g8.extBut _ _ (R4 zlt) (g7.extBut _ _ (R4 zlt) (D5 _ rfl));rw[hsz]at z8 t8;refine D4 ⟨_,rfl,?_⟩
 (show wpAny _ _ _ _ _ _);refine D4 ?_
 show Q (some (.ref h₅.objs.size)) _;rw[hsz];refine hQ h₈ z8 (up _ _ D.TOz t5) (m1.at λo e=>up _ o D.i1z e) (m2.at λo e=>up _ o D.i2z e) t8 λc o c1 c2 c3 c4 e=>up c o c1 ?_;exact g5.extBut _ _ c2 (g4.extBut _ _ c4 (g3.extBut _ _ c2 (g2.extBut _ _ c3 (g1.extBut _ _ c1 e))))
theorem du3{k1 k2:Bool}{z TI TO i1 i2 l1 l2:Addr}{i:Nat}{us vs:Array Value}{a b:Value}{Q:Option Value->B7->Prop}(hh:A.handled=none)(D:ZipApart z TI TO i1 i2 l1 l2)
 (hz:IsZip s.heap z TI TO .none)(hTI:IsPair s.heap TI (.ref i1) (.ref i2))(hTO:IsPair s.heap TO a b)(n1:SI k1 s.heap i1 l1 i)(n2:SI k2 s.heap i2 l2 i)(q1:SQ k1 s.heap l1 us)(q2:SQ k2 s.heap l2 vs)(hend:us[i]?=none\/vs[i]?=none)
 (hQ:∀h',(∀c o,c≠z->c≠TO->c≠i1->c≠i2->s.heap.get? c=some o->h'.get? c=some o)->Q none {s with heap:=h'}):
 wpAny (model prog w) A (pyNext (.ref z)) Q E s:=by
 have hT:s.TypeIs (.ref z) "zip":=⟨_,hz,rfl⟩;unfold pyNext;have bU:∀h' e,(∀c o,c≠z->c≠TO->c≠i1->c≠i2->s.heap.get? c=some o->h'.get? c=some o)->(∃o,h'.get? e=some o/\o.cls=.type "StopIteration")->
  wpAny (model prog w) A (do if(<-isInstance (.ref e) (.type "StopIteration"))=true then pure none else throw (.ref e)) Q E {s with heap:=h'}:=λh' e hk ⟨o,ho,hc⟩=>
  A4 (wpAny_isInstance (T:="StopIteration") (b:=true) ⟨o,ho,hc⟩ isSubtype_stop (D4 (hQ _ hk)))
 refine A4 (wpAny_attempt (O0 (name:=Str.ofString "__next__") hT U4 (R1 U4 hT F.entry_zip_next ?_ (F.args_zip_next_1 _))))
 (show wpAny _ _ (field (.ref z) 2>>=_) _ _ _);refine A4 (L4 hz rfl (x:=.bool false) rfl ?_)
 (show wpAny _ _ (field (.ref z) 3>>=_) _ _ _);refine A4 (L4 hz rfl (x:=.ref TI) rfl ?_)
 refine A4 (N9 hTI rfl ?_);(show wpAny _ _ (Builtin.SmallTypes.ownedTupleIsFree (.ref z)>>=_) _ _ _)
 refine A4 ?_;unfold Builtin.SmallTypes.ownedTupleIsFree;refine A4 (L4 hz rfl (x:=.none) rfl (D4 ?_));simp only[if_true];refine A4 (wpAny_rule ?_);refine A4 (L4 hz rfl (x:=.ref TO) rfl ?_);refine A4 (O5 hz W0 λh₁ hz₁ g1=>?_);replace hz₁:IsZip h₁ z TI TO .ellipsis:=hz₁;refine A4 ?_;simp only[List.zipIdx_cons,List.zipIdx_nil,List.forIn_cons,List.forIn_nil];refine A4 (A4 (wpAny_onRaise ?_));(show wpAny _ _ (Builtin.SmallTypes.nextOf (.ref i1)>>=_) _ _ _)
 have p1:SI k1 h₁ i1 l1 i:=n1.at λo e=>g1.extBut _ _ D.i1z e;have p2:SQ k1 h₁ l1 us:=q1.at λo e=>g1.extBut _ _ D.l1z e;cases hx:us[i]? with
 |none=>
  refine A4 (ba8 hh p1 p2 hx λh₂ e g2 he=>?_);obtain⟨oe,hoe,hce⟩:=he;have z2:IsZip h₂ z TI TO .ellipsis:=g2 _ _ D.i1z.symm hz₁;have hez:e≠z:=λq=>by subst q;rw[z2]at hoe;cases hoe;simp at hce
  refine O5 z2 W0 λh₃ _ g3=>?_;exact bU h₃ e (λc o c1 _ c3 _ q=>g3.extBut _ _ c1 (g2 _ _ c3 (g1.extBut _ _ c1 q))) ⟨oe,g3.extBut _ _ hez hoe,hce⟩
 |some x=>
  have hy:vs[i]?=none:=by
   rcases hend with h|h
   . rw[hx]at h;cases h
   . exact h
  refine A4 (ai4 p1 p2 hx λh₂ n1' g2=>D4 ?_);have t2:IsPair h₂ TO a b:=g2.extBut _ _ D.TOi1 (g1.extBut _ _ D.TOz hTO);refine A4 (N9 t2 rfl ?_);refine A4 (U7 t2 λh₃ t3 g3=>?_);refine A4 (wpAny_letGo (D4 ?_));refine A4 (A4 (wpAny_onRaise ?_));(show wpAny _ _ (Builtin.SmallTypes.nextOf (.ref i2)>>=_) _ _ _)
  refine A4 (ba8 hh (n2.at λo e=>g3.extBut _ _ D.TOi2.symm (g2.extBut _ _ D.i12.symm (g1.extBut _ _ D.i2z e))) (q2.at λo e=>g3.extBut _ _ D.l2TO (g2.extBut _ _ D.l2i1 (g1.extBut _ _ D.l2z e))) hy λh₄ e g4 he=>?_);obtain⟨oe,hoe,hce⟩:=he;have z4:IsZip h₄ z TI TO .ellipsis:=g4 _ _ D.i2z.symm (g3.extBut _ _ D.TOz.symm (g2.extBut _ _ D.i1z.symm hz₁));have hez:e≠z:=λq=>by subst q;rw[z4]at hoe;cases hoe;simp at hce
  refine O5 z4 W0 λh₅ _ g5=>?_;exact bU h₅ e (λc o c1 c2 c3 c4 q=>g5.extBut _ _ c1 (g4 _ _ c4 (g3.extBut _ _ c2 (g2.extBut _ _ c3 (g1.extBut _ _ c1 q))))) ⟨oe,g5.extBut _ _ hez hoe,hce⟩
end
abbrev itO(k:Bool)(l:Addr):Obj:={cls:=.type (cond k "tuple_iterator" "list_iterator"),data:=.fields #[.ref l,.int 0 0]}
abbrev zA(k1:Bool)(h:Heap)(l1:Addr):Heap:=h.push (itO k1 l1)
abbrev zB(k1 k2:Bool)(h:Heap)(l1 l2:Addr):Heap:=(zA k1 h l1).push (itO k2 l2)
abbrev zC(k1 k2:Bool)(h:Heap)(l1 l2:Addr):Heap:=(zB k1 k2 h l1 l2).push {cls:=.type "tuple",data:=.seq #[.ref h.objs.size,.ref (zA k1 h l1).objs.size]}
abbrev zD(k1 k2:Bool)(h:Heap)(l1 l2:Addr):Heap:=(zC k1 k2 h l1 l2).push {cls:=.type "tuple",data:=.seq #[.none,.none]}
abbrev zE(k1 k2:Bool)(h:Heap)(l1 l2:Addr):Heap:=(zD k1 k2 h l1 l2).push {cls:=.type "zip",data:=.fields #[.none,.bool false,.bool false,.ref (zB k1 k2 h l1 l2).objs.size,.ref (zC k1 k2 h l1 l2).objs.size]}
def dt7(k1 k2:Bool)(l1 l2:Addr)(us vs:Array Value):
 Meets (Builtin.«zip.__new__» ⟨[.type "zip",.ref l1,.ref l2],[]⟩) (λ_ R s=>SQ k1 s.heap l1 us/\SQ k2 s.heap l2 vs/\R (.ok (.ret (.ref (zD k1 k2 s.heap l1 l2).objs.size))) {s with heap:=zE k1 k2 s.heap l1 l2}):=
 .of_wp λprog w A R s h=>by
  obtain⟨hp,g,d,tk,os⟩:=s;obtain⟨hl1,hl2,h⟩:=h;have hsub:=sub_zip;have a1:SQ k1 (Shared.heap ⟨hp,g,d,tk,os⟩) l1 us:=hl1;have a2:SQ k2 (Shared.heap ⟨hp.push (itO k1 l1),g,d,tk,os⟩) l2 vs:=SQ.at hl2 λo e=>A9 _ e
  wp_walk using bf8 a1,bf8 a2
  exact⟨_,rfl,h⟩
section
variable{prog:F9}{w:World}{A:J5}{E:Value->B7->Prop}{s:B7}
def de1(hl1:SQ k1 s.heap l1 us)(hl2:SQ k2 s.heap l2 vs)
 (h:∀h',IsZip h' (s.heap.objs.size+4) (s.heap.objs.size+2) (s.heap.objs.size+3) .none->IsPair h' (s.heap.objs.size+2) (.ref s.heap.objs.size) (.ref (s.heap.objs.size+1))->IsPair h' (s.heap.objs.size+3) .none .none->
  SI k1 h' s.heap.objs.size l1 0->SI k2 h' (s.heap.objs.size+1) l2 0->(∀c o,s.heap.get? c=some o->h'.get? c=some o)->Q (.ref (s.heap.objs.size+4)) {s with heap:=h'}):
 wpAny (model prog w) A (call (.type "zip") [.ref l1,.ref l2]) Q E s:=by
 refine callType_new F.called_zip W1 (F.typeCall_zip_2 _ _) (F.newCall_zip_2 _ _) (λobj=>F.args_object_init_3 obj _ _) F.entry_zip_new (dt7 k1 k2 l1 l2 us vs) ⟨hl1,hl2,?_⟩;have z1:(zA k1 s.heap l1).objs.size=s.heap.objs.size+1:=M3 ..
 have z2:(zB k1 k2 s.heap l1 l2).objs.size=s.heap.objs.size+2:=(M3 ..).trans (by rw[z1]);have z3:(zC k1 k2 s.heap l1 l2).objs.size=s.heap.objs.size+3:=(M3 ..).trans (by rw[z2]);have z4:(zD k1 k2 s.heap l1 l2).objs.size=s.heap.objs.size+4:=(M3 ..).trans (by rw[z3]);have u1:∀c o,(zA k1 s.heap l1).get? c=some o->(zE k1 k2 s.heap l1 l2).get? c=some o:=λc o e=>A9 _ (A9 _ (A9 _ (A9 _ e)));have u2:∀c o,(zB k1 k2 s.heap l1 l2).get? c=some o->(zE k1 k2 s.heap l1 l2).get? c=some o:=λc o e=>A9 _ (A9 _ (A9 _ e));have g5:(zE k1 k2 s.heap l1 l2).get? (zD k1 k2 s.heap l1 l2).objs.size=some _:=D5 _ rfl;have g4:(zE k1 k2 s.heap l1 l2).get? (zC k1 k2 s.heap l1 l2).objs.size=some _:=A9 _ (D5 _ rfl);have g3:(zE k1 k2 s.heap l1 l2).get? (zB k1 k2 s.heap l1 l2).objs.size=some _:=A9 _ (A9 _ (D5 _ rfl));have g2:(zE k1 k2 s.heap l1 l2).get? (zA k1 s.heap l1).objs.size=some _:=u2 _ _ (D5 _ rfl);have g1:(zE k1 k2 s.heap l1 l2).get? s.heap.objs.size=some _:=u1 _ _ (D5 _ rfl);show _/\_;rw[z2,z3,z4]at g5;rw[z1,z2]at g3;rw[z3]at g4;rw[z1]at g2;rw[z4];exact⟨⟨_,g5,rfl⟩,h _ g5 g3 g4 ⟨_,g1,rfl,rfl⟩ ⟨_,g2,rfl,rfl⟩ λc o x=>u1 c o (A9 _ x)⟩
end
def SqK(k:Bool)(K:A1)(H:Hp)(l:Addr)(xs:List V):Prop:=cond k (SqT K H l xs) (SqL K H l xs)
section
variable{X:Cx}{pins:List (Addr × Obj)}{σ:St}{H:Hp}{s:B7}{l:Addr}{xs ys:List V}
theorem Inv.row(I:Inv X pins σ H s)(h:SqK k X.K H l xs):∃its:List Value,Vals xs its/\SQ k s.heap l its.toArray/\xs.length<=sizeLine:=by
 cases k with
 |false=>obtain⟨its,r,p,z⟩:=I.list h;exact⟨its,r,p.isList,z⟩
 |true=>obtain⟨its,r,p,z⟩:=I.tuple h;exact⟨its,r,p,z⟩
theorem Inv.row_inj(I:Inv X pins σ H s)(h:SqK k X.K H l xs)(h':SqK k X.K H l ys):xs=ys:=by
 cases k with
 |false=>exact I.list_inj h h'
 |true=>exact I.tuple_inj h h'
def Inv.turnedL{t':Nat}{fp:List Addr}{h':Heap}(I:Inv X pins σ H s)(k:∀b o,b∉fp->s.heap.get? b=some o->h'.get? b=some o)(hf:∀b∈fp,uD X pins H b):Inv X pins σ H {s with heap:=h',toks:=t'}:=by
 have nit:∀b u,H b=some u->b∉fp:=λb u e z=>by rw[(hf b z).1]at e;cases e
 refine I.step (g':=s.gens) (d':=s.drawn) (ch:=fp) (λb hb=>?_) (λb o _ _ hc e _=>k b o hc e) (λb o _ _ hc e _=>⟨o.slots,k b o hc e⟩) (λ_ _ _ _ n=>n)
  (λb o hc e=>⟨o,k b o hc e⟩) (λ_ _ e=>e) (λ_ _ _ e=>e) (λb ps e=>⟨#[],by rw[e];simp⟩) (λm hm=>?_) (λb u e=>?_) I.bare
 . obtain⟨_,f1,_,f3,f4,f5⟩:=hf b hb;exact⟨f3,f1,f4,f5⟩
 . obtain⟨o,es,ep,ho,r⟩:=hm;exact⟨o,es,ep,k _ o (λz=>(hf _ z).2.1 rfl) ho,r⟩
 . refine(I.hok b u e).stay (λc v hc q=>k c v ?_ q) (λ_ q=>q) λ_ _ q=>q;rcases hc with z|z
   . rw[z];exact nit b u e
   . exact nit c _ z
def Inv.paired{h':Heap}{t':Nat}{fp:List Addr}{x y:V}{u v:Value}(I:Inv X pins σ H s)(rx:RelV x u)(ry:RelV y v)(hf:∀b∈fp,uD X pins H b)(hl:∀b∈fp,b<s.heap.objs.size)
 (hp:h'.get? s.heap.objs.size=some {cls:=.type "tuple",data:=.seq #[u,v]})(k:∀b o,b∉fp->s.heap.get? b=some o->h'.get? b=some o):
 Inv X pins σ (upd H s.heap.objs.size (.tup [x,y])) {s with heap:=h',toks:=t'}/\∀b∈fp,upd H s.heap.objs.size (.tup [x,y]) b=none:=by
 have I0:Inv X pins σ (upd H s.heap.objs.size (.tup [x,y])) {s with heap:=s.heap.push {cls:=.type "tuple",data:=.seq #[u,v]},toks:=t'}:=
  I.laid (λ_ _ q=>A9 _ q) (D6 _) ⟨(show(2:Nat)<=sizeLine by decide),[u,v],.cons rx (.cons ry .nil),⟨_,D5 _ rfl,rfl,_,rfl⟩⟩
 have hn:∀b∈fp,upd H s.heap.objs.size (.tup [x,y]) b=none:=λb hb=>by rw[cV (G6 (hl b hb))];exact(hf b hb).1
 refine⟨I0.turnedL (fp:=fp) (h':=h') (t':=t') (λb o hb e=>?_) λb hb=>⟨hn b hb,(hf b hb).2⟩,hn⟩;rcases Heap.get?_push_cases e with⟨rfl,rfl⟩|e
 . exact hp
 . exact k b o hb e
end
def Itz(K:A1)(k1 k2:Bool)(l1 l2:Addr):It:=
 ⟨λi H=>∃xs ys x y,SqK k1 K H l1 xs/\SqK k2 K H l2 ys/\xs[i]?=some x/\ys[i]?=some y,
  λi H v H'=>∃p,H p=none/\v=.ref p/\∀xs ys,SqK k1 K H l1 xs->SqK k2 K H l2 ys->∃x y,xs[i]?=some x/\ys[i]?=some y/\H'=upd H p (.tup [x,y]),
  λi H=>∃xs ys,SqK k1 K H l1 xs/\SqK k2 K H l2 ys/\(xs.length<=i\/ys.length<=i)⟩
def Ite(K:A1)(l:Addr):It:=
 ⟨λi H=>∃xs x,SqL K H l xs/\xs[i]?=some x,λi H v H'=>∃p,H p=none/\v=.ref p/\∀xs,SqL K H l xs->∃x,xs[i]?=some x/\H'=upd H p (.tup [.int i,x]),λi H=>∃xs,SqL K H l xs/\xs.length<=i⟩
def dv3{P:F9}{w:World}{K:A1}{es:List Expr}{n:Nat}{pos:Pos}{k1 k2:Bool}{z TI TO i1 i2 l1 l2:Addr}(D:ZipApart z TI TO i1 i2 l1 l2):
 am3 P w K (.Tuple es n pos) (Itz K k1 k2 l1 l2) [z,TI,TO,i1,i2] z (λi h=>IsZip h z TI TO .none/\IsPair h TI (.ref i1) (.ref i2)/\(∃a b,IsPair h TO a b)/\SI k1 h i1 l1 i/\SI k2 h i2 l2 i) where
 mem:=W0
 obj:=λi h st b hb=>by
  obtain⟨hz,hTI,⟨a,c,hTO⟩,n1,n2⟩:=st;simp only[List.mem_cons,List.not_mem_nil,or_false]at hb;rcases hb with rfl|rfl|rfl|rfl|rfl
  . exact⟨_,hz,λv e=>nomatch e⟩
  . exact⟨_,hTI,λv e=>nomatch e⟩
  . exact⟨_,hTO,λv e=>nomatch e⟩
  . obtain⟨o,e,_,d⟩:=n1;exact⟨o,e,λv q=>by rw[d]at q;cases q⟩
  . obtain⟨o,e,_,d⟩:=n2;exact⟨o,e,λv q=>by rw[d]at q;cases q⟩
 keep:=λi h h' st k=>by obtain⟨hz,hTI,⟨a,c,hTO⟩,n1,n2⟩:=st;exact⟨k z W0 _ hz,k TI W0 _ hTI,⟨a,c,k TO W0 _ hTO⟩,n1.at λo e=>k i1 W0 o e,n2.at λo e=>k i2 W0 o e⟩
 item:=by
  intro X hP hw hK hc i pins s σ H E I hf st hg;subst hP hw hK;obtain⟨hz,hTI,⟨a,b,hTO⟩,n1,n2⟩:=st;obtain⟨xs,ys,x,y,hq1,hq2,hx,hy⟩:=hg;obtain⟨its,r1,p1,_⟩:=I.row hq1;obtain⟨jts,r2,p2,_⟩:=I.row hq2;obtain⟨u,hu,ru⟩:=r1.get hx;obtain⟨v,hv,rv⟩:=r2.get hy;refine cz9 D hz hTI hTO n1 n2 p1 p2 (x:=u) (y:=v) (by simpa using hu) (by simpa using hv) λh' a1 a2 a3 a4 a5 kk=>⟨_,rfl,wpAny_letOwnedTupleGo_zip a1 λh2 b1 gg=>?_⟩;have lts:∀b∈[z,TI,TO,i1,i2],b<s.heap.objs.size:=λb hb=>by
   simp only[List.mem_cons,List.not_mem_nil,or_false]at hb;rcases hb with rfl|rfl|rfl|rfl|rfl
   . exact C8 hz
   . exact C8 hTI
   . exact C8 hTO
   . obtain⟨o,e,_⟩:=n1;exact C8 e
   . obtain⟨o,e,_⟩:=n2;exact C8 e
  have zne:s.heap.objs.size≠z:=R4 (lts z W0);obtain⟨I1,hn⟩:=I.paired (t':=s.toks) ru rv hf lts (gg.extBut _ _ zne a5) (λc o hc e=>gg.extBut _ _ (λq=>hc (by simp[q])) (kk c o (λq=>hc (by simp[q])) (λq=>hc (by simp[q])) (λq=>hc (by simp[q])) (λq=>hc (by simp[q])) e));refine⟨.ref s.heap.objs.size,_,I1,rfl,⟨_,I.fresh,rfl,λxs' ys' q1 q2=>⟨x,y,by rw[I.row_inj q1 hq1];exact hx,by rw[I.row_inj q2 hq2];exact hy,rfl⟩⟩,⟨b1,?_,⟨u,v,?_⟩,?_,?_⟩,hn⟩
  . exact gg.extBut _ _ D.TIz (kk _ _ D.TIz D.TITO D.TIi1 D.TIi2 hTI)
  . exact gg.extBut _ _ D.TOz a2
  . exact a3.at λo e=>gg.extBut _ _ D.i1z e
  . exact a4.at λo e=>gg.extBut _ _ D.i2z e
 done:=by intro X hP hw hK hc i pins s σ H E I hf st hg;subst hP hw hK;obtain⟨hz,hTI,⟨a,b,hTO⟩,n1,n2⟩:=st;obtain⟨xs,ys,hq1,hq2,hx⟩:=hg;obtain⟨its,r1,p1,_⟩:=I.row hq1;obtain⟨jts,r2,p2,_⟩:=I.row hq2;have e1:=r1.length;have e2:=r2.length;exact du3 (I.ok.hd hc) D hz hTI hTO n1 n2 p1 p2 (hx.imp (λq=>by simp;omega) (λq=>by simp;omega)) λh' kk=>⟨rfl,I.turnedL (t':=s.toks) (λc o hc e=>kk c o (λq=>hc (by simp[q])) (λq=>hc (by simp[q])) (λq=>hc (by simp[q])) (λq=>hc (by simp[q])) e) hf⟩
 self:=λ_ _ _ _ _ st h=>wpAny_pyIter_zip st.1 h
def cc6{P:F9}{w:World}{K:A1}{es:List Expr}{n:Nat}{pos:Pos}{e it l:Addr}(ne:e≠it):
 am3 P w K (.Tuple es n pos) (Ite K l) [e,it] e (λi h=>(∃old,IsEnum h e it (i:Nat) old)/\h.IsListIter it l i) where
 mem:=W0
 obj:=λi h st b hb=>by
  obtain⟨⟨old,he⟩,n1⟩:=st;simp only[List.mem_cons,List.not_mem_nil,or_false]at hb;rcases hb with rfl|rfl
  . exact⟨_,he,λv q=>nomatch q⟩
  . obtain⟨o,e,_,d⟩:=n1;exact⟨o,e,λv q=>by rw[d]at q;cases q⟩
 keep:=λi h h' st k=>by obtain⟨⟨old,he⟩,n1⟩:=st;exact⟨⟨old,k e W0 _ he⟩,n1.at λo q=>k it W0 o q⟩
 item:=by
  intro X hP hw hK hc i pins s σ H E I hf st hg;subst hP hw hK;obtain⟨⟨old,he⟩,n1⟩:=st;obtain⟨xs,x,hq,hx⟩:=hg;obtain⟨its,r1,p1,_⟩:=I.list hq;obtain⟨u,hu,ru⟩:=r1.get hx;refine wpAny_pyNext_enum_item he n1 p1.isList (x:=u) (by simpa using hu) ne λh' a1 a2 a3 a4 kk=>⟨_,rfl,wpAny_letOwnedTupleGo_enum a1 λh2 b1 gg=>?_⟩;have lts:∀b∈[e,it],b<s.heap.objs.size:=λb hb=>by
   simp only[List.mem_cons,List.not_mem_nil,or_false]at hb;rcases hb with rfl|rfl
   . exact C8 he
   . obtain⟨o,e,_⟩:=n1;exact C8 e
  have zne:s.heap.objs.size≠e:=R4 (lts e W0);obtain⟨I1,hn⟩:=I.paired (t':=s.toks+1) (x:=.int (i:Nat)) (u:=.int (i:Nat) s.toks) ⟨_,rfl⟩ ru hf lts (gg.extBut _ _ zne a3) (λc o hc q=>gg.extBut _ _ (λz=>hc (by simp[z])) (kk c o (λz=>hc (by simp[z])) (λz=>hc (by simp[z])) q));exact⟨.ref s.heap.objs.size,_,I1,rfl,⟨_,I.fresh,rfl,λxs' q1=>⟨x,by rw[I.list_inj q1 hq];exact hx,rfl⟩⟩,⟨⟨u,b1⟩,a2.at λo q=>gg.extBut _ _ (M7 ne) q⟩,hn⟩
 done:=by intro X hP hw hK hc i pins s σ H E I hf st hg;subst hP hw hK;obtain⟨⟨old,he⟩,n1⟩:=st;obtain⟨xs,hq,hx⟩:=hg;obtain⟨its,r1,p1,_⟩:=I.list hq;have e1:=r1.length;obtain⟨f0,f1,f2,f3,f4,f5⟩:=hf it W0;exact wpAny_pyNext_enum_end (I.ok.hd hc) he n1 p1.isList (by simp;omega) λh' eb=>⟨rfl,I.turned (t':=s.toks) (λb o hb q=>eb b o hb q) f0 f1 f3 f4 f5⟩
 self:=λ_ _ _ _ _ st h=>by obtain⟨⟨old,he⟩,_⟩:=st;exact wpAny_pyIter_enum he h
def dg2:bootBuiltins "zip"=some (.type "zip"):=V9
def cj7:bootBuiltins "enumerate"=some (.type "enumerate"):=V9
section
variable{X:Cx}
def dy0(K:A1)(ta:TA):TI:=λσ H R=>ta σ H λvs H1=>∃k1 k2 l1 l2,vs=[.ref l1,.ref l2]/\(∃xs,SqK k1 K H1 l1 xs)/\(∃ys,SqK k2 K H1 l2 ys)/\R (Itz K k1 k2 l1 l2) H1
def cy3(K:A1)(ta:TA):TI:=λσ H R=>ta σ H λvs H1=>∃l,vs=[.ref l]/\(∃xs,SqL K H1 l xs)/\R (Ite K l) H1
theorem en2{es:List Expr}{n:Nat}{tpos:Pos}{a b:Expr}{ta:TA}{p pos:Pos}(hg:Gl X "zip")(hm:X.mg "zip"=none)(ha:PA X [a,b] ta)(hs:starEach [a,b] X.env=[(false,eval a X.env),(false,eval b X.env)]:=by rfl)(hs2:starEach [b] X.env=[(false,eval b X.env)]:=by rfl):
 PI X (.Tuple es n tpos) (.Call (.Name "zip" p) [a,b] [] pos) (dy0 X.K ta):=by
 intro pins s σ H R I h;refine Call_ (tJ I hg hm dg2 (L3 (xW (ha pins s σ H _ I h) λus s1 vs H1 I1 r1 q1=>?_) (by rw[hs,hs2]) (by rw[hs2];rfl)));obtain⟨k1,k2,l1,l2,e,⟨xs,hq1⟩,⟨ys,hq2⟩,q⟩:=q1;subst e;cases r1 with
 |cons r rr=>
  cases rr with
  |cons r' rr=>
   cases rr;cases r;cases r';obtain⟨its,r1,p1,_⟩:=I1.row hq1;obtain⟨jts,r2,p2,_⟩:=I1.row hq2;refine de1 p1 p2 λh' a1 a2 a3 a4 a5 kk=>wpAny_pyIter_zip a1 ?_;have c1:l1<s1.heap.objs.size:=by obtain⟨_,z,_⟩:=p1;exact C8 z
   have c2:l2<s1.heap.objs.size:=by obtain⟨_,z,_⟩:=p2;exact C8 z
   refine⟨_,_,_,_,H1,rfl,I1.kept (t':=s1.toks) kk,dv3 (zipApart_new c1 c2),⟨a1,a2,⟨_,_,a3⟩,a4,a5⟩,λc hc=>?_,q⟩;have le:s1.heap.objs.size<=c:=by simp only[List.mem_cons,List.not_mem_nil,or_false]at hc;rcases hc with rfl|rfl|rfl|rfl|rfl<;>omega
   exact I1.fpOk le (I1.hok.fresh le)
theorem dm8{es:List Expr}{n:Nat}{tpos:Pos}{a:Expr}{ta:TA}{p pos:Pos}(hg:Gl X "enumerate")(hm:X.mg "enumerate"=none)(ha:PA X [a] ta)(hs:starEach [a] X.env=[(false,eval a X.env)]:=by rfl):
 PI X (.Tuple es n tpos) (.Call (.Name "enumerate" p) [a] [] pos) (cy3 X.K ta):=by
 intro pins s σ H R I h;refine Call_ (tJ I hg hm cj7 (L3 (xW (ha pins s σ H _ I h) λus s1 vs H1 I1 r1 q1=>?_) hs rfl));obtain⟨l,e,⟨xs,hq1⟩,q⟩:=q1;subst e;cases r1 with
 |cons r rr=>
  cases rr;cases r;obtain⟨its,r1,p1,_⟩:=I1.list hq1;refine call_enumerate_list p1.isList λh' a1 a2 a3 kk=>wpAny_pyIter_enum a1 ?_;refine⟨_,_,_,_,H1,rfl,I1.kept (t':=s1.toks) kk,cc6 (e:=s1.heap.objs.size+1) (it:=s1.heap.objs.size) (Nat.succ_ne_self _),⟨⟨_,a1⟩,a2⟩,λc hc=>?_,q⟩;have le:s1.heap.objs.size<=c:=by simp only[List.mem_cons,List.not_mem_nil,or_false]at hc;rcases hc with rfl|rfl<;>omega
  exact I1.fpOk le (I1.hok.fresh le)
end
def uS(σ:List Str)(x:Str):List Str:=if σ.any (· ==x)=true then σ else σ++[x]
def mV(val:Nat->Str)(i:Nat):List Str:=((List.range i).map val).foldl uS []
def ai3(val:Nat->Str)(i:Nat):mV val (i+1)=uS (mV val i) (val i):=by unfold mV;rw[P7,G0,List.foldl_append];rfl
theorem bt5(val:Nat->Str):∀i,(mV val i).length<=i
 |0=>D6 _
 |i+1=>by
  rw[ai3];unfold uS;have ih:=bt5 val i;split
  . omega
  . simp;omega
def co7(σ:List Str)(v k:Str):(uS σ v).any (· ==k)=(σ.any (· ==k)||decide (k=v)):=by
 unfold uS;by_cases h:σ.any (· ==v)=true
 . rw[E6 h];by_cases e:k=v
   . subst e;rw[h];simp
   . simp[e]
 . rw[E5 h,List.any_append];by_cases e:k=v
   . subst e;simp
   . have hb:(v==k)=false:=by simpa using(λh':v=k=>e h'.symm)
     simp[hb,e]
def cr8(σ:List Str)(v:Str):(uS σ v).length=if σ.any (· ==v)then σ.length else σ.length+1:=by unfold uS;split<;>simp
section
variable{prog:F9}{w:World}{A:J5}{R:Result->B7->Prop}{I:Addr}{fp wr:List Addr}{G:Array GenState->Array GenState->Prop}{n:Nat}{P:Nat->Value->Prop}{St:Nat->B7->Prop}
theorem ds3(W:WalksS prog w A.in1 I fp wr G n P St)(S:Addr)(hS:S∉fp)(val:Nat->Str)(hval:∀i v,P i v->∃t,v=.str (val i) t)(hb:n+1<scanBound):
 ∀(k i:Nat)(s:B7),n-i=k->i<=n->St i s->s.heap.SetOf (strKind prog w) S (λx=>(mV val i).any (· ==x)) (mV val i).length->
  (∀s',Moved (S::wr) G s s'->s'.heap.SetOf (strKind prog w) S (λx=>(mV val n).any (· ==x)) (mV val n).length->R (.ok (.ret .none)) s')->
  codeAny (model prog w) A (.builtin "set.update.loop" ⟨[.ref S,.ref I],[]⟩) R s:=by
 have hw:S∉wr:=λh=>hS (W.sub _ h);have sub:∀b∈wr,b∈S::wr:=λb hb=>A5 _ hb;intro k;induction k with
 |zero=>
  intro i s hk hi st hs hR;obtain rfl:i=n:=V8
  refine codeAny_builtin PyProof.Rows.F.entry_set_update_loop ?_;rw[Around.under_plainId P2 _]
  (show wpAny _ A.in1 (pyNext (.ref I)>>=_) _ _ s);refine A4 (W.done s _ _ st λs' hm=>?_)
  (show wpAny _ A.in1 (ret Value.none) _ _ s');refine D4 (hR s' (hm.mono sub) ?_)
  obtain⟨o,es,ep,t,ho,r⟩:=hs;exact⟨o,es,ep,t,hm.heap S _ hw ho,r⟩
 |succ k ih=>
  intro i s hk hi st hs hR;have lt:i<n:=V8
  refine codeAny_builtin PyProof.Rows.F.entry_set_update_loop ?_;rw[Around.under_plainId P2 _]
  (show wpAny _ A.in1 (pyNext (.ref I)>>=_) _ _ s);refine A4 (W.item i s _ _ lt st λv s' hP st' hm=>?_)
  obtain⟨t,rfl⟩:=hval i v hP;have hs':s'.heap.SetOf (strKind prog w) S (λx=>(mV val i).any (· ==x)) (mV val i).length:=by obtain⟨o,es,ep,tb,ho,r⟩:=hs;exact⟨o,es,ep,tb,hm.heap S _ hw ho,r⟩
  (show wpAny _ A.in1 (holding [Value.str (val i) t] (setAdd S (.str (val i) t))>>=_) _ _ s');refine A4 (R6 ?_);unfold setAdd
  refine R6 ?_;refine A4 ((strKind prog w).pyHash (k:=val i) (strKind_is _ _ _ _) ?_);have room:(mV val i).length+1<scanBound:=by have:=bt5 val i;omega
  refine wpAny_setAddHashed_of (knd:=strKind prog w) (s:={s' with toks:=s'.toks+1}) (strKind_is _ _ _ _) rfl hs' room λh' hsb hS2=>?_;have hi':h'.SetOf (strKind prog w) S (λx=>(mV val (i+1)).any (· ==x)) (mV val (i+1)).length:=SetOf_congr hS2 (λx=>by rw[ai3,co7]) (by rw[ai3,cr8]);refine D4 ⟨plainId_quiet P2 _,ih (i+1) _ V8 lt (W.frame _ s' _ _ st' (Nat.le_succ _) λb hb o e=>?_) hi' λs'' hm'' hS''=>?_⟩
  . exact(hsb.2 b (λh:b=S=>hS (by rw[<-h];exact hb))).trans e
  . refine hR s'' (Moved.trans W.gtrans ((hm.mono sub).then_heap (Nat.le_succ _) λb o hb e=>?_) hm'') hS'';exact(hsb.2 b (λh:b=S=>hb (by rw[h];exact A7))).trans e
end
section
variable{prog:F9}{w:World}{A:J5}{E:Value->B7->Prop}{s:B7}
abbrev mY(led:Bool):Obj:={cls:=.type "set",dict:=none,data:=.set #[] 0 (.fresh 0 0 led)}
set_option maxHeartbeats 3200000 in
theorem bx3(hh:A.handled=none)(hl:s.heap.IsList l us)(hv:∀(i:Nat) v,us[i]?=some v->∃t,v=.str (val i) t)(hb:us.size+1<scanBound)
 (h:∀(h':Heap)(tk:Nat),h'.SetOf (strKind prog w) s.heap.objs.size (λx=>(mV val us.size).any (· ==x)) (mV val us.size).length->(∀b o,b<s.heap.objs.size->s.heap.get? b=some o->h'.get? b=some o)->Q (.ref s.heap.objs.size) {s with heap:=h',toks:=tk}):
 wpAny (model prog w) A (call (.type "set") [.ref l]) Q E s:=by
 obtain⟨c,tl,hmro⟩:=M0.mro;have hmade:=M0.made;have hsub:=M0.sub;refine wpAny_call (codeAny_of_tree ?_);(show wpAny _ _ (callAny (.type "set") _) _ _ _)
 refine D4 ⟨Code.quiet_builtin _ V9,codeAny_builtin PySem.F.entry_type_call ?_⟩;rw[Around.under_plain (weight_type_call_type "set" [.ref l] []) rfl];have h1:=M0.notType;have h2:=M0.canCreate;have hct:=PySem.F.typeCall_set_1 (.ref l)
 (repeat(any_goals(first|assumption|wp_step)))
 refine R8 (code_set_new_1 (.ref l) (E:=E) (Q₁:=λobj s₁=>∃led:Bool,obj=.ref s.heap.objs.size/\s₁={s with heap:=s.heap.push (mY led)}) λled=>⟨led,rfl,rfl⟩) λr s₁ hr=>?_;cases r with
 |error e=>exact hr
 |ok fl=>
  cases fl with
  |ret obj=>
   obtain⟨led,rfl,rfl⟩:=hr;have hS:(s.heap.push (mY led)).get? s.heap.objs.size=some (mY led):=D5 _ rfl;have hT:Shared.TypeIs {s with heap:=s.heap.push (mY led)} (.ref s.heap.objs.size) "set":=⟨_,hS,rfl⟩;have hli:=M0.init.lookup;have hbi:=M0.init.bind (.ref s.heap.objs.size)
   (repeat(any_goals(first|assumption|wp_step)))
   refine R8 (codeAny_call_builtin (R:=wants (λr s₂=>r=.none/\∃h' tk,s₂={s with heap:=h',toks:=tk}/\h'.SetOf (strKind prog w) s.heap.objs.size (λx=>(mV val us.size).any (· ==x)) (mV val us.size).length/\
    (∀b o,b<s.heap.objs.size->s.heap.get? b=some o->h'.get? b=some o)) E) M0.init.plain PySem.F.entry_set_init (check_set_init_1 hT ?_)) λr₂ s₂ hr₂=>?_
   . obtain⟨ol,hol,hcl,nl,hdl⟩:=hl;obtain⟨ocls,odict,odata,oslots⟩:=ol;simp only at hcl hdl;subst hcl;subst hdl;have hol':(s.heap.push (mY led)).get? l=some {cls:=.type "list",dict:=odict,data:=.seq us nl,slots:=oslots}:=A9 _ hol;have hsls:=PySem.F.sub_list_set;have hslf:=PySem.F.sub_list_frozenset;have hne:(Value.type "list"==Value.type "dict")=false:=W1
     have hl1:(s.heap.push (mY led)).IsList l us:=⟨_,hol',rfl,nl,rfl⟩;unfold Builtin.«set.__init__» noKeywords Builtin.Frozenset.updateFrom;generalize hPI:pyIter=PI;wp_walk;subst hPI
     refine Q7 hl1 ?_;refine A4 (wpAny_runValue ?_);have hlS:l<s.heap.objs.size:=C8 hol;have hh3:A.in1.in1.in1.handled=none:=by simp[hh]
     have hneI:l≠(s.heap.push (mY led)).objs.size:=by rw[M3];exact G6 (Nat.lt_succ_of_lt hlS)
     have hSf:s.heap.objs.size∉[(s.heap.push (mY led)).objs.size,l]:=by rw[M3];simp only[List.mem_cons,List.not_mem_nil,or_false,not_or];exact⟨G6 (Q6 _),R4 hlS⟩
     refine ds3 ((Walks.list hh3 _ l hneI us).toS) s.heap.objs.size hSf val hv hb (us.size-0) 0 _ V8 (L7 _) ⟨⟨_,D5 _ rfl,rfl,rfl⟩,(hl1.push _)⟩ ?hS0 ?hR;case hS0=>exact SetOf_congr ((setObjOf_fresh (knd:=strKind prog w) led).setOf (A9 _ hS) (by unfold scanBound;omega)) (λ_=>rfl) rfl
     case hR=>
      intro s' hm hS';obtain⟨h',g',d',tk',os'⟩:=s';obtain rfl:g'=s.gens:=hm.gens;obtain rfl:d'=s.drawn:=hm.drawn;obtain rfl:os'=s.os:=hm.os
      (show wpAny _ _ _ _ _ _);refine D4 ?_;(show wpAny _ _ (ret Value.none) _ _ _)
      refine D4 ⟨rfl,h',tk',rfl,hS',λb o hb e=>?_⟩;have hb2:b≠(s.heap.push (mY led)).objs.size:=by rw[M3];exact G6 (Nat.lt_succ_of_lt hb)
      exact hm.heap b o (by simp only[List.mem_cons,List.not_mem_nil,or_false,not_or];exact⟨G6 hb,hb2⟩) (A9 _ (A9 _ e))
   . cases r₂ with
     |error e=>exact hr₂
     |ok fl₂=>
      cases fl₂ with
      |ret r=>
       obtain⟨rfl,h',tk,rfl,hS',hk'⟩:=hr₂
       (repeat(any_goals(first|assumption|wp_step)))
       exact h _ _ hS' hk'
      |_=>exact hr₂
  |_=>exact hr
end
end L2
namespace TL
open L2
inductive T where
 |non|bl (b:Bool)|int (i:Int)|str (x:Str)|ty (n:String)
 |lst (o:Bool) (xs:List T)
 |tup (xs:List T)
 |ins (o:Bool) (c:Str) (ns:List Str) (xs:List T)
mutual
def frz:T->T
 |.lst _ xs=>.lst false (frzs xs)
 |.tup xs=>.tup (frzs xs)
 |.ins _ c ns xs=>.ins false c ns (frzs xs)
 |.non=>.non
 |.bl b=>.bl b
 |.int i=>.int i
 |.str x=>.str x
 |.ty n=>.ty n
def frzs:List T->List T
 |[]=>[]
 |t::ts=>frz t::frzs ts
end
mutual
def cB:T->Bool
 |.lst o xs=>!o&&aW xs
 |.tup xs=>aW xs
 |.ins o _ _ xs=>!o&&aW xs
 |.non=>true
 |.bl _=>true
 |.int _=>true
 |.str _=>true
 |.ty _=>true
def aW:List T->Bool
 |[]=>true
 |t::ts=>cB t&&aW ts
end
mutual
def cM:T->Bool
 |.lst o xs=>o&&bZ xs
 |.tup xs=>bZ xs
 |.ins o _ _ xs=>o&&bZ xs
 |.non=>true
 |.bl _=>true
 |.int _=>true
 |.str _=>true
 |.ty _=>true
def bZ:List T->Bool
 |[]=>true
 |t::ts=>cM t&&bZ ts
end
theorem vS:∀ts,aW ts=ts.all cB
 |[]=>rfl
 |t::ts=>by simp[aW,vS ts]
theorem an4:∀ts,bZ ts=ts.all cM
 |[]=>rfl
 |t::ts=>by simp[bZ,an4 ts]
mutual
theorem bb3:∀t,cB t=true->frz t=t
 |.lst o xs,h=>by simp only[cB,Bool.and_eq_true,Bool.not_eq_true']at h;rw[frz,dR xs h.2,h.1]
 |.tup xs,h=>by simp only[cB]at h;rw[frz,dR xs h]
 |.ins o _ _ xs,h=>by simp only[cB,Bool.and_eq_true,Bool.not_eq_true']at h;rw[frz,dR xs h.2,h.1]
 |.non,_=>rfl
 |.bl _,_=>rfl
 |.int _,_=>rfl
 |.str _,_=>rfl
 |.ty _,_=>rfl
theorem dR:∀ts,aW ts=true->frzs ts=ts
 |[],_=>rfl
 |t::ts,h=>by simp only[aW,Bool.and_eq_true]at h;rw[frzs,bb3 t h.1,dR ts h.2]
end
structure Exc where
 c:Str
 ns:List Str
 xs:List T
inductive Res (α:Type) where
 |ok (a:α)|ex (x:Exc)|no
def Res.bind{α β:Type}:Res α->(α->Res β)->Res β
 |.ok a,f=>f a
 |.ex x,_=>.ex x
 |.no,_=>.no
abbrev Fr:=List (Option T)
inductive bO where
 |nx (ρ:Fr)|rt (t:T)|rm (ρ:Fr) (t:T)|bk (ρ:Fr)|ct (ρ:Fr)|ex (x:Exc)|no
def sZ:HO->Bool
 |.tup _=>true
 |.frz _ _=>true
 |_=>false
def FzL(K:A1)(H:Hp)(Z:Addr->Prop)(a:Addr)(xs:List V):Prop:=
 (H a=some (.lst xs)/\Z a)\/(∃o,H a=some (.frz o (.lst xs)))\/
  ∃(o:Obj)(its:Array Value)(n:Nat),K.lookup a=some o/\o.cls=.type "list"/\o.dict=none/\o.slots=#[]/\o.data=.seq its n/\its.size<=sizeLine/\Vals xs its.toList
def FzL.sqS{K:A1}{H:Hp}{Z:Addr->Prop}{a:Addr}{xs:List V}(h:FzL K H Z a xs):SqS K H a xs:=by
 rcases h with⟨h,_⟩|⟨o,h⟩|h
 . exact .inl (.inl h)
 . exact .inl (.inr ⟨o,h⟩)
 . exact .inr h
theorem FzL.sq{K:A1}{H:Hp}{Z:Addr->Prop}{a:Addr}{xs:List V}(h:FzL K H Z a xs):SqL K H a xs:=h.sqS.sq
section
variable(K:A1)(cn:Str->Option Addr)
mutual
def Rep(H:Hp)(Z:Addr->Prop):T->V->List Addr->Prop
 |.non,v,A=>v=.non/\A=[]
 |.bl b,v,A=>v=.bl b/\A=[]
 |.int i,v,A=>v=.int i/\A=[]
 |.str x,v,A=>v=.str x/\A=[]
 |.ty n,v,A=>v=.ty n/\A=[]
 |.lst true ts,v,A=>∃a vs B,v=.ref a/\A=a::B/\H a=some (.lst vs)/\Reps H Z ts vs B
 |.lst false ts,v,A=>∃a vs,v=.ref a/\A=[]/\FzL K H Z a vs/\Reps H Z ts vs []
 |.tup ts,v,A=>∃a vs,v=.ref a/\SqT K H a vs/\Reps H Z ts vs A
 |.ins true c ns ts,v,A=>∃a C dx vs B,v=.ref a/\A=a::B/\cn c=some C/\H a=some (.ins C dx (ns.zip vs))/\ns.length=vs.length/\Reps H Z ts vs B
 |.ins false c ns ts,v,A=>∃a C dx vs,v=.ref a/\A=[]/\cn c=some C/\H a=some (.ins C dx (ns.zip vs))/\Z a/\ns.length=vs.length/\Reps H Z ts vs []
def Reps(H:Hp)(Z:Addr->Prop):List T->List V->List Addr->Prop
 |[],vs,A=>vs=[]/\A=[]
 |t::ts,vs,A=>∃v r B C,vs=v::r/\A=B++C/\Rep H Z t v B/\Reps H Z ts r C
end
end
section
variable{K:A1}{cn:Str->Option Addr}{H H':Hp}{Z Z':Addr->Prop}
def FzL.keep(h:FzL K H Z a xs)(hk:∀a o,H a=some o->(Z a\/sZ o=true)->H' a=some o)(hz:∀a,Z a->Z' a):FzL K H' Z' a xs:=by
 rcases h with⟨h,z⟩|⟨o,h⟩|h
 . exact .inl ⟨hk _ _ h (.inl z),hz _ z⟩
 . exact .inr (.inl ⟨o,hk _ _ h (.inr rfl)⟩)
 . exact .inr (.inr h)
def SqT.keep(h:SqT K H a xs)(hk:∀a o,H a=some o->sZ o=true->H' a=some o):SqT K H' a xs:=by
 rcases h with(h|⟨o,h⟩)|h
 . exact .inl (.inl (hk _ _ h rfl))
 . exact .inl (.inr ⟨o,hk _ _ h rfl⟩)
 . exact .inr h
mutual
theorem Rep.keep:∀(t:T){v:V}{A:List Addr},Rep K cn H Z t v A->(∀a o,H a=some o->(a∈A\/Z a\/sZ o=true)->H' a=some o)->(∀a,Z a->Z' a)->Rep K cn H' Z' t v A
 |.non,_,_,h,_,_=>by simpa only[Rep]using h
 |.bl _,_,_,h,_,_=>by simpa only[Rep]using h
 |.int _,_,_,h,_,_=>by simpa only[Rep]using h
 |.str _,_,_,h,_,_=>by simpa only[Rep]using h
 |.ty _,_,_,h,_,_=>by simpa only[Rep]using h
 |.lst true ts,v,A,h,hk,hz=>by simp only[Rep]at h⊢;obtain⟨a,vs,B,rfl,rfl,e,r⟩:=h;exact⟨a,vs,B,rfl,rfl,hk a _ e (.inl A7),Reps.keep ts r (λb o q c=>hk b o q (c.imp_left (A5 _))) hz⟩
 |.lst false ts,v,A,h,hk,hz=>by simp only[Rep]at h⊢;obtain⟨a,vs,rfl,rfl,e,r⟩:=h;exact⟨a,vs,rfl,rfl,e.keep (λb o q c=>hk b o q (.inr c)) hz,Reps.keep ts r hk hz⟩
 |.tup ts,v,A,h,hk,hz=>by simp only[Rep]at h⊢;obtain⟨a,vs,rfl,e,r⟩:=h;exact⟨a,vs,rfl,SqT.keep e (λb o q c=>hk b o q (.inr (.inr c))),Reps.keep ts r hk hz⟩
 |.ins true c ns ts,v,A,h,hk,hz=>by simp only[Rep]at h⊢;obtain⟨a,C,dx,vs,B,rfl,rfl,hc,e,l,r⟩:=h;exact⟨a,C,dx,vs,B,rfl,rfl,hc,hk a _ e (.inl A7),l,Reps.keep ts r (λb o q c=>hk b o q (c.imp_left (A5 _))) hz⟩
 |.ins false c ns ts,v,A,h,hk,hz=>by simp only[Rep]at h⊢;obtain⟨a,C,dx,vs,rfl,rfl,hc,e,z,l,r⟩:=h;exact⟨a,C,dx,vs,rfl,rfl,hc,hk a _ e (.inr (.inl z)),hz a z,l,Reps.keep ts r hk hz⟩
theorem Reps.keep:∀(ts:List T){vs:List V}{A:List Addr},Reps K cn H Z ts vs A->(∀a o,H a=some o->(a∈A\/Z a\/sZ o=true)->H' a=some o)->(∀a,Z a->Z' a)->Reps K cn H' Z' ts vs A
 |[],_,_,h,_,_=>by simpa only[Reps]using h
 |t::ts,vs,A,h,hk,hz=>by simp only[Reps]at h⊢;obtain⟨v,r,B,C,rfl,rfl,h1,h2⟩:=h;exact⟨v,r,B,C,rfl,rfl,Rep.keep t h1 (λb o q c=>hk b o q (c.imp_left (D7 _))) hz,Reps.keep ts h2 (λb o q c=>hk b o q (c.imp_left (B6 _))) hz⟩
end
def Rep.same(h:Rep K cn H Z t v A)(s:Same H H')(hz:∀a,Z a->Z' a):Rep K cn H' Z' t v A:=Rep.keep t h (λa o q _=>s a o q) hz
def Reps.same(h:Reps K cn H Z t v A)(s:Same H H')(hz:∀a,Z a->Z' a):Reps K cn H' Z' t v A:=Reps.keep t h (λa o q _=>s a o q) hz
def ch7(h:H a=some o)(h':H b=some o')(i:sZ o=true)(i':sZ o'=false):a≠b:=by rintro rfl;rw[h]at h';cases h';rw[i]at i';cases i'
theorem Rep.upd(h:Rep K cn H Z t v A)(ha:H a=some o)(hi:sZ o=false)(hA:a∉A)(hZ:¬Z a):Rep K cn (L2.upd H a o') Z t v A:=
 Rep.keep t h (λb u q c=>by
  rw[cV]
  . exact q
  . rcases c with c|c|c
    . rintro rfl;exact hA c
    . rintro rfl;exact hZ c
    . exact ch7 q ha c hi) (λ_ z=>z)
theorem Reps.upd(h:Reps K cn H Z t v A)(ha:H a=some o)(hi:sZ o=false)(hA:a∉A)(hZ:¬Z a):Reps K cn (L2.upd H a o') Z t v A:=
 Reps.keep t h (λb u q c=>by
  rw[cV]
  . exact q
  . rcases c with c|c|c
    . rintro rfl;exact hA c
    . rintro rfl;exact hZ c
    . exact ch7 q ha c hi) (λ_ z=>z)
mutual
theorem Rep.frz:∀(t:T){v:V}{A:List Addr},Rep K cn H Z t v A->(∀a,Z a->Z' a)->(∀a∈A,Z' a)->Rep K cn H Z' (frz t) v []
 |.non,_,_,h,_,_=>by simp only[Rep,TL.frz]at h⊢;exact⟨h.1,trivial⟩
 |.bl _,_,_,h,_,_=>by simp only[Rep,TL.frz]at h⊢;exact⟨h.1,trivial⟩
 |.int _,_,_,h,_,_=>by simp only[Rep,TL.frz]at h⊢;exact⟨h.1,trivial⟩
 |.str _,_,_,h,_,_=>by simp only[Rep,TL.frz]at h⊢;exact⟨h.1,trivial⟩
 |.ty _,_,_,h,_,_=>by simp only[Rep,TL.frz]at h⊢;exact⟨h.1,trivial⟩
 |.lst true ts,v,A,h,hz,hA=>by simp only[Rep,TL.frz]at h⊢;obtain⟨a,vs,B,rfl,rfl,e,r⟩:=h;exact⟨a,vs,rfl,trivial,.inl ⟨e,hA a A7⟩,Reps.frz ts r hz λb hb=>hA b (A5 _ hb)⟩
 |.lst false ts,v,A,h,hz,hA=>by simp only[Rep,TL.frz]at h⊢;obtain⟨a,vs,rfl,rfl,e,r⟩:=h;exact⟨a,vs,rfl,trivial,e.keep (λ_ _ q _=>q) hz,Reps.frz ts r hz hA⟩
 |.tup ts,v,A,h,hz,hA=>by simp only[Rep,TL.frz]at h⊢;obtain⟨a,vs,rfl,e,r⟩:=h;exact⟨a,vs,rfl,e,Reps.frz ts r hz hA⟩
 |.ins true c ns ts,v,A,h,hz,hA=>by simp only[Rep,TL.frz]at h⊢;obtain⟨a,C,dx,vs,B,rfl,rfl,hc,e,l,r⟩:=h;exact⟨a,C,dx,vs,rfl,trivial,hc,e,hA a A7,l,Reps.frz ts r hz λb hb=>hA b (A5 _ hb)⟩
 |.ins false c ns ts,v,A,h,hz,hA=>by simp only[Rep,TL.frz]at h⊢;obtain⟨a,C,dx,vs,rfl,rfl,hc,e,z,l,r⟩:=h;exact⟨a,C,dx,vs,rfl,trivial,hc,e,hz a z,l,Reps.frz ts r hz hA⟩
theorem Reps.frz:∀(ts:List T){vs:List V}{A:List Addr},Reps K cn H Z ts vs A->(∀a,Z a->Z' a)->(∀a∈A,Z' a)->Reps K cn H Z' (frzs ts) vs []
 |[],_,_,h,_,_=>by simp only[Reps,TL.frzs]at h⊢;exact⟨h.1,trivial⟩
 |t::ts,vs,A,h,hz,hA=>by simp only[Reps,TL.frzs]at h⊢;obtain⟨v,r,B,C,rfl,rfl,h1,h2⟩:=h;exact⟨v,r,[],[],rfl,rfl,Rep.frz t h1 hz λb hb=>hA b (D7 _ hb),Reps.frz ts h2 hz λb hb=>hA b (B6 _ hb)⟩
end
mutual
theorem Rep.any:∀(t:T){v:V}{A:List Addr},cM t=true->Rep K cn H Z t v A->Rep K cn H Z' t v A
 |.non,_,_,_,h=>by simpa only[Rep]using h
 |.bl _,_,_,_,h=>by simpa only[Rep]using h
 |.int _,_,_,_,h=>by simpa only[Rep]using h
 |.str _,_,_,_,h=>by simpa only[Rep]using h
 |.ty _,_,_,_,h=>by simpa only[Rep]using h
 |.lst true ts,v,A,c,h=>by simp only[Rep,cM,Bool.true_and]at h c⊢;obtain⟨a,vs,B,rfl,rfl,e,r⟩:=h;exact⟨a,vs,B,rfl,rfl,e,Reps.any ts c r⟩
 |.lst false ts,v,A,c,h=>by simp[cM]at c
 |.tup ts,v,A,c,h=>by simp only[Rep,cM]at h c⊢;obtain⟨a,vs,rfl,e,r⟩:=h;exact⟨a,vs,rfl,e,Reps.any ts c r⟩
 |.ins true cc ns ts,v,A,c,h=>by simp only[Rep,cM,Bool.true_and]at h c⊢;obtain⟨a,C,dx,vs,B,rfl,rfl,hc,e,l,r⟩:=h;exact⟨a,C,dx,vs,B,rfl,rfl,hc,e,l,Reps.any ts c r⟩
 |.ins false cc ns ts,v,A,c,h=>by simp[cM]at c
theorem Reps.any:∀(ts:List T){vs:List V}{A:List Addr},bZ ts=true->Reps K cn H Z ts vs A->Reps K cn H Z' ts vs A
 |[],_,_,_,h=>by simpa only[Reps]using h
 |t::ts,vs,A,c,h=>by simp only[Reps,bZ,Bool.and_eq_true]at h c⊢;obtain⟨v,r,B,C,rfl,rfl,h1,h2⟩:=h;exact⟨v,r,B,C,rfl,rfl,Rep.any t c.1 h1,Reps.any ts c.2 h2⟩
end
mutual
theorem Rep.bare:∀(t:T){v:V}{A:List Addr},cB t=true->Rep K cn H Z t v A->A=[]
 |.non,_,_,_,h=>by simp only[Rep]at h;exact h.2
 |.bl _,_,_,_,h=>by simp only[Rep]at h;exact h.2
 |.int _,_,_,_,h=>by simp only[Rep]at h;exact h.2
 |.str _,_,_,_,h=>by simp only[Rep]at h;exact h.2
 |.ty _,_,_,_,h=>by simp only[Rep]at h;exact h.2
 |.lst true ts,v,A,c,h=>by simp[cB]at c
 |.lst false ts,v,A,c,h=>by simp only[Rep]at h;obtain⟨a,vs,rfl,rfl,e,r⟩:=h;rfl
 |.tup ts,v,A,c,h=>by simp only[Rep,cB]at h c;obtain⟨a,vs,rfl,e,r⟩:=h;exact Reps.bare ts c r
 |.ins true cc ns ts,v,A,c,h=>by simp[cB]at c
 |.ins false cc ns ts,v,A,c,h=>by simp only[Rep]at h;obtain⟨a,C,dx,vs,rfl,rfl,_⟩:=h;rfl
theorem Reps.bare:∀(ts:List T){vs:List V}{A:List Addr},aW ts=true->Reps K cn H Z ts vs A->A=[]
 |[],_,_,_,h=>by simp only[Reps]at h;exact h.2
 |t::ts,vs,A,c,h=>by simp only[Reps,aW,Bool.and_eq_true]at h c;obtain⟨v,r,B,C,rfl,rfl,h1,h2⟩:=h;rw[Rep.bare t c.1 h1,Reps.bare ts c.2 h2];rfl
end
mutual
theorem Rep.dom:∀(t:T){v:V}{A:List Addr},Rep K cn H Z t v A->∀a∈A,∃o,H a=some o/\sZ o=false
 |.non,_,_,h=>by simp only[Rep]at h;rw[h.2];intro a ha;cases ha
 |.bl _,_,_,h=>by simp only[Rep]at h;rw[h.2];intro a ha;cases ha
 |.int _,_,_,h=>by simp only[Rep]at h;rw[h.2];intro a ha;cases ha
 |.str _,_,_,h=>by simp only[Rep]at h;rw[h.2];intro a ha;cases ha
 |.ty _,_,_,h=>by simp only[Rep]at h;rw[h.2];intro a ha;cases ha
 |.lst true ts,v,A,h=>by
  simp only[Rep]at h;obtain⟨a,vs,B,rfl,rfl,e,r⟩:=h;intro b hb;rcases B9.mp hb with rfl|hb
  . exact⟨_,e,rfl⟩
  . exact Reps.dom ts r b hb
 |.lst false ts,v,A,h=>by simp only[Rep]at h;obtain⟨a,vs,rfl,rfl,e,r⟩:=h;intro a ha;cases ha
 |.tup ts,v,A,h=>by simp only[Rep]at h;obtain⟨a,vs,rfl,e,r⟩:=h;exact Reps.dom ts r
 |.ins true cc ns ts,v,A,h=>by
  simp only[Rep]at h;obtain⟨a,C,dx,vs,B,rfl,rfl,hc,e,l,r⟩:=h;intro b hb;rcases B9.mp hb with rfl|hb
  . exact⟨_,e,rfl⟩
  . exact Reps.dom ts r b hb
 |.ins false cc ns ts,v,A,h=>by simp only[Rep]at h;obtain⟨a,C,dx,vs,rfl,rfl,_⟩:=h;intro a ha;cases ha
theorem Reps.dom:∀(ts:List T){vs:List V}{A:List Addr},Reps K cn H Z ts vs A->∀a∈A,∃o,H a=some o/\sZ o=false
 |[],_,_,h=>by simp only[Reps]at h;rw[h.2];intro a ha;cases ha
 |t::ts,vs,A,h=>by
  simp only[Reps]at h;obtain⟨v,r,B,C,rfl,rfl,h1,h2⟩:=h;intro a ha;rcases A3.mp ha with ha|ha
  . exact Rep.dom t h1 a ha
  . exact Reps.dom ts h2 a ha
end
theorem Reps.length:∀(ts:List T){vs:List V}{A:List Addr},Reps K cn H Z ts vs A->vs.length=ts.length
 |[],_,_,h=>by simp only[Reps]at h;rw[h.1];rfl
 |t::ts,vs,A,h=>by simp only[Reps]at h;obtain⟨v,r,B,C,rfl,rfl,h1,h2⟩:=h;simp[Reps.length ts h2]
theorem Reps.get:∀(ts:List T){vs:List V}{A:List Addr}{i:Nat}{t:T},Reps K cn H Z ts vs A->ts[i]?=some t->∃v B,vs[i]?=some v/\Rep K cn H Z t v B/\(∀b∈B,b∈A)/\B.Sublist A
 |[],_,_,_,_,h,e=>by simp at e
 |t::ts,vs,A,0,t',h,e=>by simp only[Reps]at h;obtain⟨v,r,B,C,rfl,rfl,h1,h2⟩:=h;simp at e;subst e;exact⟨v,B,rfl,h1,λb hb=>D7 _ hb,V3 _ _⟩
 |t::ts,vs,A,i+1,t',h,e=>by simp only[Reps]at h;obtain⟨v,r,B,C,rfl,rfl,h1,h2⟩:=h;obtain⟨v',B',e1,e2,e3,e4⟩:=Reps.get ts (i:=i) h2 (by simpa using e);exact⟨v',B',by simpa using e1,e2,λb hb=>B6 _ (e3 b hb),e4.trans (List.sublist_append_right _ _)⟩
theorem Reps.append:∀(ts:List T){us:List T}{vs ws:List V}{A B:List Addr},Reps K cn H Z ts vs A->Reps K cn H Z us ws B->Reps K cn H Z (ts++us) (vs++ws) (A++B)
 |[],us,vs,ws,A,B,h,h'=>by simp only[Reps]at h;obtain⟨rfl,rfl⟩:=h;exact h'
 |t::ts,us,vs,ws,A,B,h,h'=>by simp only[Reps,List.cons_append]at h⊢;obtain⟨v,r,C,D,rfl,rfl,h1,h2⟩:=h;exact⟨v,r++ws,C,D++B,rfl,W0,h1,Reps.append ts h2 h'⟩
theorem Reps.one(h:Rep K cn H Z t v B):Reps K cn H Z [t] [v] B:=by simp only[Reps];exact⟨v,[],B,[],rfl,W0,h,rfl,rfl⟩
def Reps.nil:Reps K cn H Z [] [] []:=by simp[Reps]
theorem Reps.take:∀(n:Nat)(ts:List T){vs:List V},Reps K cn H Z ts vs []->Reps K cn H Z (ts.take n) (vs.take n) []
 |0,ts,vs,h=>by simp[Reps]
 |n+1,[],vs,h=>by simp only[Reps]at h;obtain⟨rfl,_⟩:=h;simp[Reps]
 |n+1,t::ts,vs,h=>by
  simp only[Reps]at h;obtain⟨v,r,B,C,rfl,e,h1,h2⟩:=h;have eb:B=[]/\C=[]:=by simpa using e.symm
  obtain⟨rfl,rfl⟩:=eb;simp only[List.take_succ_cons,Reps];exact⟨v,r.take n,[],[],rfl,rfl,h1,Reps.take n ts h2⟩
theorem Reps.drop:∀(n:Nat)(ts:List T){vs:List V},Reps K cn H Z ts vs []->Reps K cn H Z (ts.drop n) (vs.drop n) []
 |0,ts,vs,h=>h
 |n+1,[],vs,h=>by simp only[Reps]at h;obtain⟨rfl,_⟩:=h;simp[Reps]
 |n+1,t::ts,vs,h=>by
  simp only[Reps]at h;obtain⟨v,r,B,C,rfl,e,h1,h2⟩:=h;have eb:B=[]/\C=[]:=by simpa using e.symm
  obtain⟨rfl,rfl⟩:=eb;simpa using Reps.drop n ts h2
end
open L2
abbrev St:=L2.St
def bb7(h:H p=none)(o:HO):Same H (L2.upd H p o):=λb u q=>by rw[cV (jK q h)];exact q
def dZ{α:Type}{P:α->Prop}:∀b∈([]:List α),P b:=λ_ h=>nomatch h
def Slot(K:A1)(cn:Str->Option Addr)(H:Hp)(Z:Addr->Prop)(o:Option T)(w:Option V)(A:List Addr):Prop:=
 match o with
 |none=>A=[]
 |some t=>∃v,w=some v/\Rep K cn H Z t v A
def Slots(K:A1)(cn:Str->Option Addr)(H:Hp)(Z:Addr->Prop):Fr->St->List (List Addr)->Prop
 |[],σ,As=>σ=[]/\As=[]
 |o::ρ,σ,As=>∃w σ' A As',σ=w::σ'/\As=A::As'/\Slot K cn H Z o w A/\Slots K cn H Z ρ σ' As'
abbrev iP:=List (Nat×V)
structure Frm (Jn:iP) (K:A1) (cn:Str->Option Addr) (H:Hp) (Z:Addr->Prop) (ρ:Fr) (σ:St) (As:List (List Addr)):Prop where
 sl:Slots K cn H Z ρ σ As
 nd:As.flatten.Nodup
 nz:∀a∈As.flatten,¬Z a
 zi:∀a,Z a->H a≠none
 pn:∀p∈Jn,σ[p.1]?=some (some p.2)
structure Ev (As:List (List Addr)) (H:Hp) (Z:Addr->Prop) (As':List (List Addr)) (H':Hp) (Z':Addr->Prop):Prop where
 keep:∀a o,H a=some o->a∉As.flatten->H' a=some o
 own:∀a∈As'.flatten,a∈As.flatten\/H a=none
 zz:∀a,Z a->Z' a
 zn:∀a,Z' a->Z a\/a∈As.flatten\/H a=none
 dom:∀a,H' a=none->H a=none
def Ev.refl:Ev As H Z As H Z:=
 ⟨λ_ _ h _=>h,λ_ h=>.inl h,λ_ h=>h,λ_ h=>.inl h,λ_ h=>h⟩
theorem Ev.trans(a:Ev As H Z As1 H1 Z1)(b:Ev As1 H1 Z1 As2 H2 Z2):Ev As H Z As2 H2 Z2 where
 keep:=λx o h n=>b.keep x o (a.keep x o h n) λq=>by
  rcases a.own x q with q|q
  . exact n q
  . rw[h]at q;cases q
 own:=λx h=>by
  rcases b.own x h with q|q
  . exact a.own x q
  . exact .inr (a.dom x q)
 zz:=λx h=>b.zz x (a.zz x h)
 zn:=λx h=>by
  rcases b.zn x h with q|q|q
  . exact a.zn x q
  . exact .inr (a.own x q)
  . exact .inr (.inr (a.dom x q))
 dom:=λx h=>a.dom x (b.dom x h)
structure Post (K:A1) (cn:Str->Option Addr) (As:List (List Addr)) (H:Hp) (Z:Addr->Prop) (mv:List Nat) (H':Hp) (Z':Addr->Prop) (t:T) (v:V) (B:List Addr):Prop where
 same:Same H H'
 zz:∀a,Z a->Z' a
 zn:∀a,Z' a->Z a\/H a=none
 zi:∀a,Z' a->H' a≠none
 rep:Rep K cn H' Z' t v B
 nd:B.Nodup
 bz:∀b∈B,¬Z' b
 bn:∀b∈B,H b=none\/∃i∈mv,b∈As.getD i []
structure PostB (K:A1) (cn:Str->Option Addr) (H:Hp) (Z:Addr->Prop) (H':Hp) (Z':Addr->Prop) (t:T) (v:V) (B:List Addr):Prop where
 same:Same H H'
 zz:∀a,Z a->Z' a
 zn:∀a,Z' a->Z a\/H a=none
 zi:∀a,Z' a->H' a≠none
 rep:Rep K cn H' Z' t v B
structure er8 (K:A1) (cn:Str->Option Addr) (As:List (List Addr)) (H:Hp) (Z:Addr->Prop) (x:Exc) (C:Addr) (a:Option Addr) (H':Hp) (Z':Addr->Prop):Prop where
 ev:Ev As H Z [] H' Z'
 cls:cn x.c=some C
 zi:∀a,Z' a->H' a≠none
 flds:∃dx vs,a=some dx/\H' dx=some (.xd (x.ns.zip vs))/\x.ns.length=vs.length/\Reps K cn H' Z' x.xs vs []
section
variable(Jn:iP)(K:A1)(cn:Str->Option Addr)(E:XK)
def WpX(As:List (List Addr))(H:Hp)(Z:Addr->Prop)(x:Exc):Prop:=∀C a H' Z',er8 K cn As H Z x C a H' Z'->E (.ref C) a H'
def WpE(As:List (List Addr))(H:Hp)(Z:Addr->Prop)(mv:List Nat)(Q:VK):Res T->Prop
 |.ok t=>∀v H' Z' B,Post K cn As H Z mv H' Z' t v B->Q v H'
 |.ex x=>WpX K cn E As H Z x
 |.no=>False
def WpB(As:List (List Addr))(H:Hp)(Z:Addr->Prop)(Q:VK):Res T->Prop
 |.ok t=>∀v H' Z' B,PostB K cn H Z H' Z' t v B->Q v H'
 |.ex x=>WpX K cn E As H Z x
 |.no=>False
structure PostT (H:Hp) (Z:Addr->Prop) (H':Hp) (Z':Addr->Prop):Prop where
 same:Same H H'
 zz:∀a,Z a->Z' a
 zn:∀a,Z' a->Z a\/H a=none
 zi:∀a,Z' a->H' a≠none
def WpT(As:List (List Addr))(H:Hp)(Z:Addr->Prop)(Q:Bool->Hp->Prop):Res Bool->Prop
 |.ok b=>∀H' Z',PostT H Z H' Z'->Q b H'
 |.ex x=>WpX K cn E As H Z x
 |.no=>False
structure es5 (As:List (List Addr)) (H:Hp) (Z:Addr->Prop) (t:T) (v:V) (H':Hp) (Z':Addr->Prop) (B:List Addr):Prop where
 ev:Ev As H Z [B] H' Z'
 rep:Rep K cn H' Z' t v B
 nd:B.Nodup
 bz:∀b∈B,¬Z' b
 zi:∀a,Z' a->H' a≠none
def Wp(As:List (List Addr))(H:Hp)(Z:Addr->Prop)(D:as6):bO->Prop
 |.nx ρ=>∀σ' As' H' Z',Frm Jn K cn H' Z' ρ σ' As'->Ev As H Z As' H' Z'->D.nx σ' H'
 |.bk ρ=>∀σ' As' H' Z',Frm Jn K cn H' Z' ρ σ' As'->Ev As H Z As' H' Z'->D.bk σ' H'
 |.ct ρ=>∀σ' As' H' Z',Frm Jn K cn H' Z' ρ σ' As'->Ev As H Z As' H' Z'->D.ct σ' H'
 |.rt t=>∀v H' Z' B,es5 K cn As H Z t v H' Z' B->D.rt v H'
 |.rm ρ t=>∀v σ' As' H' Z',Frm Jn K cn H' Z' ρ σ' As'->Ev As H Z As' H' Z'->Rep K cn H' Z' t v []->D.rt v H'
 |.ex x=>WpX K cn E As H Z x
 |.no=>False
def RE(mv:List Nat)(te:TE)(d:Fr->Res T):Prop:=∀As H Z ρ σ,Frm Jn K cn H Z ρ σ As->∀Q,WpE K cn E As H Z mv Q (d ρ)->te σ H Q
def RB(te:TE)(d:Fr->Res T):Prop:=∀As H Z ρ σ,Frm Jn K cn H Z ρ σ As->∀Q,WpB K cn E As H Z Q (d ρ)->te σ H Q
def RT(tt:TT)(d:Fr->Res Bool):Prop:=∀As H Z ρ σ,Frm Jn K cn H Z ρ σ As->∀Q,WpT K cn E As H Z Q (d ρ)->tt σ H Q
def RS(ts:TS)(d:Fr->bO):Prop:=∀As H Z ρ σ,Frm Jn K cn H Z ρ σ As->∀D,Wp Jn K cn E As H Z D (d ρ)->ts D σ H
end
section
variable{Jn:iP}{K:A1}{cn:Str->Option Addr}{E:XK}{As As1:List (List Addr)}{H H1:Hp}{Z Z1:Addr->Prop}{ρ:Fr}{σ:St}
theorem WpX.ev(h:WpX K cn E As H Z x)(e:Ev As H Z As1 H1 Z1):WpX K cn E As1 H1 Z1 x:=λC a H' Z' p=>h C a H' Z' ⟨e.trans p.ev,p.cls,p.zi,p.flds⟩
theorem Wp.ev(h:Wp Jn K cn E As H Z D o)(e:Ev As H Z As1 H1 Z1):Wp Jn K cn E As1 H1 Z1 D o:=by
 cases o with
 |nx ρ=>exact λσ' As' H' Z' f q=>h σ' As' H' Z' f (e.trans q)
 |bk ρ=>exact λσ' As' H' Z' f q=>h σ' As' H' Z' f (e.trans q)
 |ct ρ=>exact λσ' As' H' Z' f q=>h σ' As' H' Z' f (e.trans q)
 |rt t=>exact λv H' Z' B p=>h v H' Z' B ⟨e.trans p.ev,p.rep,p.nd,p.bz,p.zi⟩
 |rm ρ t=>exact λv σ' As' H' Z' f q r=>h v σ' As' H' Z' f (e.trans q) r
 |ex x=>exact WpX.ev h e
 |no=>exact h
structure Mo (H:Hp) (Z:Addr->Prop) (H':Hp) (Z':Addr->Prop):Prop where
 same:Same H H'
 zz:∀a,Z a->Z' a
 zn:∀a,Z' a->Z a\/H a=none
 zi:∀a,Z' a->H' a≠none
def Mo.ev(m:Mo H Z H' Z'):Ev As H Z As H' Z':=
 ⟨λa o h _=>m.same a o h,λ_ h=>.inl h,m.zz,λa h=>(m.zn a h).imp_right .inr,λa h=>m.same.free h⟩
theorem Mo.trans(a:Mo H Z H1 Z1)(b:Mo H1 Z1 H2 Z2):Mo H Z H2 Z2:=
 ⟨a.same.trans b.same,λx h=>b.zz x (a.zz x h),λx h=>by
  rcases b.zn x h with q|q
  . exact a.zn x q
  . exact .inr (a.same.free q),b.zi⟩
def Frm.mo0(F:Frm Jn K cn H Z ρ σ As):Mo H Z H Z:=⟨Same.refl _,λ_ h=>h,λ_ h=>.inl h,F.zi⟩
def Post.mo(p:Post K cn As H Z mv H' Z' t v B):Mo H Z H' Z':=⟨p.same,p.zz,p.zn,p.zi⟩
def PostB.mo(p:PostB K cn H Z H' Z' t v B):Mo H Z H' Z':=⟨p.same,p.zz,p.zn,p.zi⟩
def PostT.mo(p:PostT H Z H' Z'):Mo H Z H' Z':=⟨p.same,p.zz,p.zn,p.zi⟩
def Mo.postT(p:Mo H Z H' Z'):PostT H Z H' Z':=⟨p.same,p.zz,p.zn,p.zi⟩
theorem Slot.mo(h:Slot K cn H Z o w A)(s:Same H H')(hz:∀a,Z a->Z' a):Slot K cn H' Z' o w A:=by
 cases o with
 |none=>exact h
 |some t=>obtain⟨v,e,r⟩:=h;exact⟨v,e,r.same s hz⟩
theorem Slots.mo(s:Same H H')(hz:∀a,Z a->Z' a):∀{ρ:Fr}{σ:St}{As:List (List Addr)},Slots K cn H Z ρ σ As->Slots K cn H' Z' ρ σ As
 |[],_,_,h=>h
 |o::ρ,_,_,h=>by obtain⟨w,σ',A,As',rfl,rfl,h1,h2⟩:=h;exact⟨w,σ',A,As',rfl,rfl,h1.mo s hz,Slots.mo s hz h2⟩
theorem Slots.dom:∀{ρ:Fr}{σ:St}{As:List (List Addr)},Slots K cn H Z ρ σ As->∀a∈As.flatten,∃o,H a=some o/\sZ o=false
 |[],_,_,h,a,ha=>by obtain⟨rfl,rfl⟩:=h;simp at ha
 |o::ρ,_,_,h,a,ha=>by
  obtain⟨w,σ',A,As',rfl,rfl,h1,h2⟩:=h;rw[C4,A3]at ha;rcases ha with ha|ha
  . cases o with
    |none=>have:A=[]:=h1;subst this;cases ha
    |some t=>obtain⟨v,e,r⟩:=h1;exact r.dom t a ha
  . exact Slots.dom h2 a ha
theorem Frm.mo(F:Frm Jn K cn H Z ρ σ As)(m:Mo H Z H' Z'):Frm Jn K cn H' Z' ρ σ As:=by
 refine⟨F.sl.mo m.same m.zz,F.nd,λa ha z=>?_,m.zi,F.pn⟩;rcases m.zn a z with q|q
 . exact F.nz a ha q
 . obtain⟨o,e,_⟩:=F.sl.dom a ha;rw[e]at q;cases q
theorem WpE.mo(F:Frm Jn K cn H Z ρ σ As)(h:WpE K cn E As H Z mv Q r)(m:Mo H Z H' Z'):WpE K cn E As H' Z' mv Q r:=by
 cases r with
 |ok t=>exact λv H2 Z2 B p=>h v H2 Z2 B ⟨m.same.trans p.same,λa q=>p.zz a (m.zz a q),(m.trans p.mo).zn,p.zi,p.rep,p.nd,p.bz,λb hb=>(p.bn b hb).imp_left m.same.free⟩
 |ex x=>exact WpX.ev h m.ev
 |no=>exact h
theorem WpT.mo(h:WpT K cn E As H Z Q r)(m:Mo H Z H' Z'):WpT K cn E As H' Z' Q r:=by
 cases r with
 |ok b=>exact λH2 Z2 p=>h H2 Z2 (m.trans p.mo).postT
 |ex x=>exact WpX.ev h m.ev
 |no=>exact h
theorem Slots.get:∀{ρ:Fr}{σ:St}{As:List (List Addr)}{i:Nat}{t:T},Slots K cn H Z ρ σ As->ρ[i]?=some (some t)->∃v,σ[i]?=some (some v)/\Rep K cn H Z t v (As.getD i [])
 |[],_,_,_,_,h,e=>by simp at e
 |o::ρ,_,_,0,t,h,e=>by obtain⟨w,σ',A,As',rfl,rfl,h1,h2⟩:=h;simp at e;subst e;obtain⟨v,rfl,r⟩:=h1;exact⟨v,rfl,r⟩
 |o::ρ,_,_,i+1,t,h,e=>by obtain⟨w,σ',A,As',rfl,rfl,h1,h2⟩:=h;obtain⟨v,e1,e2⟩:=Slots.get (i:=i) h2 (by simpa using e);exact⟨v,by simpa using e1,by simpa using e2⟩
theorem Slots.set(r:Rep K cn H Z t v B):∀{ρ:Fr}{σ:St}{As:List (List Addr)}(i:Nat),Slots K cn H Z ρ σ As->Slots K cn H Z (ρ.set i (some t)) (σ.set i (some v)) (As.set i B)
 |[],_,_,_,h=>by obtain⟨rfl,rfl⟩:=h;exact⟨rfl,rfl⟩
 |o::ρ,_,_,0,h=>by obtain⟨w,σ',A,As',rfl,rfl,h1,h2⟩:=h;exact⟨some v,σ',B,As',rfl,rfl,⟨v,rfl,r⟩,h2⟩
 |o::ρ,_,_,i+1,h=>by obtain⟨w,σ',A,As',rfl,rfl,h1,h2⟩:=h;exact⟨w,σ'.set i (some v),A,As'.set i B,rfl,rfl,h1,Slots.set r i h2⟩
theorem Slots.kill:∀{ρ:Fr}{σ:St}{As:List (List Addr)}(i:Nat),Slots K cn H Z ρ σ As->Slots K cn H Z (ρ.set i none) σ (As.set i [])
 |[],_,_,_,h=>by obtain⟨rfl,rfl⟩:=h;exact⟨rfl,rfl⟩
 |o::ρ,_,_,0,h=>by obtain⟨w,σ',A,As',rfl,rfl,h1,h2⟩:=h;exact⟨w,σ',[],As',rfl,rfl,rfl,h2⟩
 |o::ρ,_,_,i+1,h=>by obtain⟨w,σ',A,As',rfl,rfl,h1,h2⟩:=h;exact⟨w,σ',A,As'.set i [],rfl,rfl,h1,Slots.kill i h2⟩
theorem Slots.kill2(o:Option V):∀{ρ:Fr}{σ:St}{As:List (List Addr)}(i:Nat),Slots K cn H Z ρ σ As->Slots K cn H Z (ρ.set i none) (σ.set i o) (As.set i [])
 |[],_,_,_,h=>by obtain⟨rfl,rfl⟩:=h;exact⟨rfl,rfl⟩
 |o::ρ,_,_,0,h=>by obtain⟨w,σ',A,As',rfl,rfl,h1,h2⟩:=h;exact⟨_,σ',[],As',rfl,rfl,rfl,h2⟩
 |o::ρ,_,_,i+1,h=>by obtain⟨w,σ',A,As',rfl,rfl,h1,h2⟩:=h;exact⟨w,_,A,As'.set i [],rfl,rfl,h1,Slots.kill2 _ i h2⟩
theorem dM:∀{As:List (List Addr)}{i:Nat},a∈(As.set i B).flatten->a∈B\/a∈As.flatten
 |[],_,h=>by simp at h
 |A::As,0,h=>by rw[G2,C4,A3]at h;rw[C4,A3];exact h.imp_right .inr
 |A::As,i+1,h=>by
  rw[G3,C4,A3]at h;rw[C4,A3];rcases h with h|h
  . exact .inr (.inl h)
  . exact(dM h).imp_right .inr
theorem nN(hB:B.Nodup):∀{As:List (List Addr)}{i:Nat},As.flatten.Nodup->(∀b∈B,b∈As.flatten->b∈As.getD i [])->(As.set i B).flatten.Nodup
 |[],_,h,_=>h
 |A::As,0,h,d=>by rw[C4,C9]at h;rw[G2,C4,C9];refine⟨hB,h.2.1,λb hb c hc e=>?_⟩;subst e;have q:=d b hb (by rw[C4,A3];exact .inr hc);exact h.2.2 b (by simpa using q) b hc rfl
 |A::As,i+1,h,d=>by
  rw[C4,C9]at h;rw[G3,C4,C9];have d':∀b∈B,b∈As.flatten->b∈As.getD i []:=λb hb hc=>by have q:=d b hb (by rw[C4,A3];exact .inr hc);simpa using q
  refine⟨h.1,nN hB h.2.1 d',λa ha c hc e=>?_⟩;subst e;rcases dM hc with q|q
  . have z:=d a q (by rw[C4,A3];exact .inl ha);have z':a∈As.getD i []:=by simpa using z
    have z2:a∈As.flatten:=by
     rw[A6]at z';cases e:As[i]? with
     |none=>rw[e]at z';cases z'
     |some C=>rw[e]at z';exact List.mem_flatten.mpr ⟨C,C6 e,z'⟩
    exact h.2.2 a ha a z2 rfl
  . exact h.2.2 a ha a q rfl
theorem bA(h:a∈As.getD i []):a∈As.flatten:=by
 rw[A6]at h;cases e:As[i]? with
 |none=>rw[e]at h;cases h
 |some C=>rw[e]at h;exact List.mem_flatten.mpr ⟨C,C6 e,h⟩
def qM(Jn:iP)(i:Nat):Bool:=Jn.all λp=>!(p.1==i)
def ah4(h:qM Jn i=true)(o:Option V)(q:∀p∈Jn,σ[p.1]?=some (some p.2)):∀p∈Jn,(σ.set i o)[p.1]?=some (some p.2):=λp hp=>by unfold qM at h;rw[J3]at h;have:=h p hp;rw[E4 (by intro z;simp[z]at this)];exact q p hp
theorem Frm.set(F:Frm Jn K cn H Z ρ σ As)(r:Rep K cn H Z t v B)(nd:B.Nodup)(bz:∀b∈B,¬Z b)(i:Nat)(fr:∀b∈B,b∈As.flatten->b∈As.getD i [])(hJ:qM Jn i=true):Frm Jn K cn H Z (ρ.set i (some t)) (σ.set i (some v)) (As.set i B):=
 ⟨F.sl.set r i,nN nd F.nd fr,λa ha=>(dM ha).elim (bz a) (F.nz a),F.zi,ah4 hJ _ F.pn⟩
theorem Frm.kill(F:Frm Jn K cn H Z ρ σ As)(i:Nat):Frm Jn K cn H Z (ρ.set i none) σ (As.set i []):=
 ⟨F.sl.kill i,nN G4 F.nd (λb hb=>by cases hb),λa ha=>(dM ha).elim (λq=>by cases q) (F.nz a),F.zi,F.pn⟩
def kills:List Nat->Fr->Fr
 |[],ρ=>ρ
 |i::is,ρ=>kills is (ρ.set i none)
def gB:List Nat->List (List Addr)->List (List Addr)
 |[],As=>As
 |i::is,As=>gB is (As.set i [])
theorem Frm.kills(mv:List Nat):∀{ρ:Fr}{As:List (List Addr)},Frm Jn K cn H Z ρ σ As->Frm Jn K cn H Z (TL.kills mv ρ) σ (gB mv As):=by
 induction mv with
 |nil=>exact λF=>F
 |cons i is ih=>exact λF=>ih (F.kill i)
theorem gA:∀{As:List (List Addr)},a∈(gB mv As).flatten->a∈As.flatten:=by
 induction mv with
 |nil=>exact λh=>h
 |cons i is ih=>exact λh=>(dM (ih h)).elim (λq=>by cases q) id
theorem rS:∀{As:List (List Addr)},As.flatten.Nodup->i∈mv->a∈As.getD i []->a∉(gB mv As).flatten:=by
 induction mv with
 |nil=>exact λ_ h=>by cases h
 |cons j js ih=>
  intro As nd hi ha hm;by_cases e:i=j
  . subst e;have h1:=gA (mv:=js) (As:=As.set i []) hm;have:∀{As:List (List Addr)}{i:Nat},As.flatten.Nodup->a∈As.getD i []->a∉(As.set i []).flatten:=by
     intro As;induction As with
     |nil=>intro i _ h;simp at h
     |cons A As ih2=>
      intro i nd h hm;rw[C4,C9]at nd;cases i with
      |zero=>rw[G2,C4,K7]at hm;exact nd.2.2 a (by simpa using h) a hm rfl
      |succ i=>
       rw[G3,C4,A3]at hm;have h':a∈As.getD i []:=by simpa using h
       rcases hm with hm|hm
       . exact nd.2.2 a hm a (bA h') rfl
       . exact ih2 nd.2.1 h' hm
    exact this nd ha h1
  . have hi':i∈js:=(B9.mp hi).resolve_left e;refine ih (As:=As.set j []) (nN G4 nd (λb hb=>by cases hb)) hi' ?_ hm;rw[A6,E4 (M7 e),<-A6];exact ha
def yZ(i:Nat)(ρ:Fr):Fr:=match ρ[i]? with
 |some (some t)=>ρ.set i (some (frz t))
 |_=>ρ
theorem Frm.frz(F:Frm Jn K cn H Z ρ σ As)(i:Nat):∃Z' As',Frm Jn K cn H Z' (yZ i ρ) σ As'/\Ev As H Z As' H Z':=by
 unfold yZ;cases e:ρ[i]? with
 |none=>exact⟨Z,As,F,Ev.refl⟩
 |some o=>
  cases o with
  |none=>exact⟨Z,As,F,Ev.refl⟩
  |some t=>
   obtain⟨v,es,r⟩:=F.sl.get e;let Z':Addr->Prop:=λa=>Z a\/a∈As.getD i [];have hz:∀a,Z a->Z' a:=λa h=>.inl h;have r':Rep K cn H Z' (TL.frz t) v []:=Rep.frz t r hz λa ha=>.inr ha;have sl:Slots K cn H Z' (ρ.set i (some (TL.frz t))) (σ.set i (some v)) (As.set i []):=(F.sl.mo (Same.refl _) hz).set r' i;have es2:σ.set i (some v)=σ:=by
    apply List.ext_getElem?;intro j;by_cases ej:i=j
    . subst ej;rw[List.getElem?_set_self',es];rfl
    . rw[E4 ej]
   rw[es2]at sl;refine⟨Z',As.set i [],⟨sl,nN G4 F.nd (λb hb=>by cases hb),λa ha z=>?_,λa z=>?_,F.pn⟩,⟨λ_ _ h _=>h,λa ha=>?_,hz,λa z=>?_,λ_ h=>h⟩⟩
   . rcases z with z|z
     . exact(dM ha).elim (λq=>by cases q) (λq=>F.nz a q z)
     . exact rS (mv:=[i]) F.nd A7 z ha
   . rcases z with z|z
     . exact F.zi a z
     . obtain⟨o,q,_⟩:=F.sl.dom a (bA z);rw[q];exact λh=>by cases h
   . exact .inl ((dM ha).elim (λq=>by cases q) id)
   . rcases z with z|z
     . exact .inl z
     . exact .inr (.inl (bA z))
end
open L2
section
variable{Jn:iP}{K:A1}{cn:Str->Option Addr}{E:XK}
theorem WpB.wpE(w:WpB K cn E As H Z Q r):WpE K cn E As H Z mv Q r:=by
 cases r with
 |ok t=>exact λv H' Z' B p=>w v H' Z' B ⟨p.same,p.zz,p.zn,p.zi,p.rep⟩
 |ex x=>exact w
 |no=>exact w
def RE.rb(h:RE Jn K cn E mv te d):RB Jn K cn E te d:=λAs H Z ρ σ F Q w=>h As H Z ρ σ F Q w.wpE
def aB(i:Nat):Fr->Res T:=λρ=>match ρ[i]? with
 |some (some t)=>.ok t
 |_=>.no
theorem eo2(i:Nat):RB Jn K cn E (xI i) (aB i):=λAs H Z ρ σ F Q w=>by
 unfold aB at w;cases e:ρ[i]? with
 |none=>rw[e]at w;exact False.elim w
 |some o=>
  rw[e]at w;cases o with
  |none=>exact False.elim w
  |some t=>obtain⟨v,es,r⟩:=F.sl.get e;exact⟨v,es,w v H Z _ ⟨Same.refl _,λ_ h=>h,λ_ h=>.inl h,F.zi,r⟩⟩
theorem ev7(i:Nat):RE Jn K cn E [i] (xI i) (aB i):=λAs H Z ρ σ F Q w=>by
 unfold aB at w;cases e:ρ[i]? with
 |none=>rw[e]at w;exact False.elim w
 |some o=>
  rw[e]at w;cases o with
  |none=>exact False.elim w
  |some t=>
   obtain⟨v,es,r⟩:=F.sl.get e;refine⟨v,es,w v H Z _ ⟨Same.refl _,λ_ h=>h,λ_ h=>.inl h,F.zi,r,?_,λb hb=>F.nz b (bA hb),λb hb=>.inr ⟨i,A7,hb⟩⟩⟩;have nd:=F.nd;rw[A6];cases q:As[i]? with
   |none=>exact G4
   |some C=>exact List.Nodup.sublist (List.sublist_flatten_of_mem (C6 q)) nd
def aP(d:Fr->Res T):Fr->Res T:=λρ=>(d ρ).bind λt=>if cB t=true then .ok t else .no
theorem RB.chk(h:RB Jn K cn E te d):RE Jn K cn E [] te (aP d):=λAs H Z ρ σ F Q w=>h As H Z ρ σ F Q (by
 unfold aP at w;cases e:d ρ with
 |ok t=>
  rw[e]at w;intro v H' Z' B p;by_cases c:cB t=true
  . simp only[Res.bind,if_pos c]at w;have:=p.rep.bare t c;subst this;exact w v H' Z' [] ⟨p.same,p.zz,p.zn,p.zi,p.rep,G4,dZ,dZ⟩
  . simp only[Res.bind,if_neg c]at w;exact False.elim w
 |ex x=>rw[e]at w;exact w
 |no=>rw[e]at w;exact w)
def bo6(d:Fr->Res T):Fr->Res T:=λρ=>(d ρ).bind λt=>.ok (frz t)
theorem RE.frz{te:TE}{d:Fr->Res T}(h:RE Jn K cn E [] te d):RE Jn K cn E [] te (bo6 d):=λAs H Z ρ σ F Q w=>h As H Z ρ σ F Q (by
 unfold bo6 at w;cases e:d ρ with
 |ok t=>
  rw[e]at w;intro v H' Z' B p;refine w v H' (λa=>Z' a\/a∈B) [] ⟨p.same,λa h=>.inl (p.zz a h),λa h=>?_,λa h=>?_,Rep.frz t p.rep (λa h=>.inl h) (λa h=>.inr h),G4,dZ,dZ⟩
  . rcases h with h|h
    . exact p.zn a h
    . rcases p.bn a h with q|⟨i,q,_⟩
      . exact .inr q
      . cases q
  . rcases h with h|h
    . exact p.zi a h
    . obtain⟨o,q,_⟩:=p.rep.dom t a h;rw[q];exact(λz=>nomatch z)
 |ex x=>rw[e]at w;exact w
 |no=>rw[e]at w;exact w)
def dC(t:T):Fr->Res T:=λ_=>.ok t
def ba7(h:∀H Z,Rep K cn H Z t v []):RE Jn K cn E [] (tC v) (dC t):=λAs H Z ρ σ F Q w=>
 w v H Z [] ⟨Same.refl _,λ_ h=>h,λ_ h=>.inl h,F.zi,h H Z,G4,dZ,dZ⟩
def ew0:RE Jn K cn E [] (tC (.int i)) (dC (.int i)):=ba7 λH Z=>by simp[Rep]
def ei3:RE Jn K cn E [] (tC (.str i)) (dC (.str i)):=ba7 λH Z=>by simp[Rep]
def eo7:RE Jn K cn E [] (tC (.bl i)) (dC (.bl i)):=ba7 λH Z=>by simp[Rep]
def es4:RE Jn K cn E [] (tC .non) (dC .non):=ba7 λH Z=>by simp[Rep]
def eb6:RE Jn K cn E [] (tC (.ty n)) (dC (.ty n)):=ba7 λH Z=>by simp[Rep]
def nX(K:A1)(cn:Str->Option Addr)(r:R2)(f:T->T->Res T):Prop:=
 ∀(E:XK)(As:List (List Addr))(H:Hp)(Z:Addr->Prop)(t u:T)(x y:V)(A B:List Addr)(Q:VK),(∀a,Z a->H a≠none)->Rep K cn H Z t x A->Rep K cn H Z u y B->WpE K cn E As H Z [] Q (f t u)->r x y H Q
def aE(f:T->T->Res T)(a b:Fr->Res T):Fr->Res T:=λρ=>(a ρ).bind λx=>(b ρ).bind λy=>f x y
theorem ew7(hr:nX K cn r f)(ha:RB Jn K cn E ta a)(hb:RB Jn K cn E tb b):RE Jn K cn E [] (tOp r ta tb) (aE f a b):=λAs H Z ρ σ F Q w=>by
 unfold aE at w;refine ha As H Z ρ σ F _ ?_;cases e:a ρ with
 |ok t=>
  rw[e]at w;intro v H1 Z1 B p;refine hb As H1 Z1 ρ σ (F.mo p.mo) _ ?_;simp only[Res.bind]at w;cases e2:b ρ with
  |ok u=>rw[e2]at w;intro v2 H2 Z2 B2 p2;exact hr E As H2 Z2 t u v v2 B B2 Q p2.zi (p.rep.same p2.same p2.zz) p2.rep (w.mo F (p.mo.trans p2.mo))
  |ex x=>rw[e2]at w;exact WpX.ev w p.mo.ev
  |no=>rw[e2]at w;exact w
 |ex x=>rw[e]at w;exact w
 |no=>rw[e]at w;exact w
def fV(f:T->Res T)(a:Fr->Res T):Fr->Res T:=λρ=>(a ρ).bind f
def R1R(K:A1)(cn:Str->Option Addr)(r:V->Hp->VK->Prop)(f:T->Res T):Prop:=
 ∀(E:XK)(As:List (List Addr))(H:Hp)(Z:Addr->Prop)(t:T)(x:V)(A:List Addr)(Q:VK),(∀a,Z a->H a≠none)->Rep K cn H Z t x A->WpE K cn E As H Z [] Q (f t)->r x H Q
theorem ee6(hr:R1R K cn r f)(ha:RB Jn K cn E ta a):RE Jn K cn E [] (tUn r ta) (fV f a):=λAs H Z ρ σ F Q w=>by
 unfold fV at w;refine ha As H Z ρ σ F _ ?_;cases e:a ρ with
 |ok t=>rw[e]at w;exact λv H1 Z1 B p=>hr E As H1 Z1 t v B Q p.zi p.rep (WpE.mo F w p.mo)
 |ex x=>rw[e]at w;exact w
 |no=>rw[e]at w;exact w
def oS(f g:T->T->Res T)(a b c:Fr->Res T):Fr->Res T:=λρ=>(a ρ).bind λx=>(b ρ).bind λy=>(f x y).bind λk=>match k with
 |.bl true=>(c ρ).bind λz=>g y z
 |.bl false=>.ok (.bl false)
 |_=>.no
theorem WpE.bl(w:WpE K cn E As H Z [] Q (.ok (.bl b)))(zi:∀a,Z a->H a≠none):Q (.bl b) H:=
 w (.bl b) H Z [] ⟨Same.refl _,λ_ h=>h,λ_ h=>.inl h,zi,by simp[Rep],G4,dZ,dZ⟩
theorem co9(hr:nX K cn r f)(hr':nX K cn r' g)(ha:RB Jn K cn E ta a)(hb:RB Jn K cn E tb b)(hc:RB Jn K cn E tc c):RE Jn K cn E [] (bu6 r r' ta tb tc) (oS f g a b c):=λAs H Z ρ σ F Q w=>by
 unfold oS at w;refine ha As H Z ρ σ F _ ?_;cases e:a ρ with
 |ok t=>
  rw[e]at w;intro v H1 Z1 B p;refine hb As H1 Z1 ρ σ (F.mo p.mo) _ ?_;simp only[Res.bind]at w;cases e2:b ρ with
  |ok u=>
   rw[e2]at w;intro v2 H2 Z2 B2 p2;refine hr E As H2 Z2 t u v v2 B B2 _ p2.zi (p.rep.same p2.same p2.zz) p2.rep ?_;simp only at w;cases e3:f t u with
   |ok k=>
    rw[e3]at w;intro v3 H3 Z3 B3 p3;have m3:=(p.mo.trans p2.mo).trans p3.mo;cases k with
    |bl k=>
     have q:=p3.rep;simp only[Rep]at q;obtain⟨rfl,rfl⟩:=q;refine⟨k,rfl,?_⟩;cases k with
     |true=>
      rw[E6 rfl];refine hc As H3 Z3 ρ σ (F.mo m3) _ ?_;simp only at w;cases e4:c ρ with
      |ok z=>rw[e4]at w;intro v4 H4 Z4 B4 p4;exact hr' E As H4 Z4 u z v2 v4 B2 B4 Q p4.zi (p2.rep.same (p3.same.trans p4.same) (λa h=>p4.zz a (p3.zz a h))) p4.rep (WpE.mo F w (m3.trans p4.mo))
      |ex x=>rw[e4]at w;exact WpX.ev w m3.ev
      |no=>rw[e4]at w;exact w
     |false=>rw[E5 W1];exact WpE.bl (WpE.mo F w m3) p3.zi
    |_=>exact False.elim w
   |ex x=>rw[e3]at w;exact WpX.ev w (p.mo.trans p2.mo).ev
   |no=>rw[e3]at w;exact w
  |ex x=>rw[e2]at w;exact WpX.ev w p.mo.ev
  |no=>rw[e2]at w;exact w
 |ex x=>rw[e]at w;exact w
 |no=>rw[e]at w;exact w
def uR(a b:Fr->Res T):Fr->Res T:=λρ=>(a ρ).bind λx=>match x with
 |.bl true=>b ρ
 |.bl false=>.ok (.bl false)
 |_=>.no
def fo0(a b:Fr->Res T):Fr->Res T:=λρ=>(a ρ).bind λx=>match x with
 |.bl true=>.ok (.bl true)
 |.bl false=>b ρ
 |_=>.no
def at4(a:Fr->Res T):Fr->Res T:=λρ=>(a ρ).bind λx=>match x with
 |.bl b=>.ok (.bl (!b))
 |_=>.no
theorem dl6(ha:RB Jn K cn E ta a)(hb:RE Jn K cn E [] tb b):RE Jn K cn E [] (dw4 ta tb) (uR a b):=λAs H Z ρ σ F Q w=>by
 unfold uR at w;refine ha As H Z ρ σ F _ ?_;cases e:a ρ with
 |ok t=>
  rw[e]at w;intro v H1 Z1 B p;cases t with
  |bl k=>
   have q:=p.rep;simp only[Rep]at q;obtain⟨rfl,rfl⟩:=q;refine⟨k,rfl,?_⟩;cases k with
   |true=>rw[E6 rfl];exact hb As H1 Z1 ρ σ (F.mo p.mo) Q (WpE.mo F w p.mo)
   |false=>rw[E5 W1];exact WpE.bl (WpE.mo F w p.mo) p.zi
  |_=>exact False.elim w
 |ex x=>rw[e]at w;exact w
 |no=>rw[e]at w;exact w
theorem dt6(ha:RB Jn K cn E ta a):RE Jn K cn E [] (db5 ta) (at4 a):=λAs H Z ρ σ F Q w=>by
 unfold at4 at w;refine ha As H Z ρ σ F _ ?_;cases e:a ρ with
 |ok t=>
  rw[e]at w;intro v H1 Z1 B p;cases t with
  |bl k=>have q:=p.rep;simp only[Rep]at q;obtain⟨rfl,rfl⟩:=q;exact⟨k,rfl,WpE.bl (WpE.mo F w p.mo) p.zi⟩
  |_=>exact False.elim w
 |ex x=>rw[e]at w;exact w
 |no=>rw[e]at w;exact w
def yJ(c:Fr->Res Bool)(a b:Fr->Res T):Fr->Res T:=λρ=>(c ρ).bind λk=>if k=true then a ρ else b ρ
theorem ed7(hc:RT Jn K cn E tt c)(ha:RE Jn K cn E [] ta a)(hb:RE Jn K cn E [] tb b):RE Jn K cn E [] (tIf tt ta tb) (yJ c a b):=λAs H Z ρ σ F Q w=>by
 unfold yJ at w;refine hc As H Z ρ σ F _ ?_;cases e:c ρ with
 |ok k=>
  rw[e]at w;intro H1 Z1 p;simp only[Res.bind]at w;split
  . next h=>rw[E6 h]at w;exact ha As H1 Z1 ρ σ (F.mo p.mo) Q (WpE.mo F w p.mo)
  . next h=>rw[E5 h]at w;exact hb As H1 Z1 ρ σ (F.mo p.mo) Q (WpE.mo F w p.mo)
 |ex x=>rw[e]at w;exact w
 |no=>rw[e]at w;exact w
def toB:T->Res Bool
 |.bl b=>.ok b
 |_=>.no
def aU(a:Fr->Res T):Fr->Res Bool:=λρ=>(a ρ).bind toB
theorem ce1(ha:RB Jn K cn E ta a):RT Jn K cn E (bm5 ta) (aU a):=λAs H Z ρ σ F Q w=>by
 unfold aU at w;refine ha As H Z ρ σ F _ ?_;cases e:a ρ with
 |ok t=>
  rw[e]at w;intro v H1 Z1 B p;cases t with
  |bl k=>have q:=p.rep;simp only[Rep]at q;obtain⟨rfl,rfl⟩:=q;exact⟨k,rfl,w H1 Z1 p.mo.postT⟩
  |_=>exact False.elim w
 |ex x=>rw[e]at w;exact w
 |no=>rw[e]at w;exact w
def zL:T->Res Bool
 |.non=>.ok false
 |.bl b=>.ok b
 |.int i=>.ok (i !=0)
 |.str x=>if x.length<=sizeLine then .ok ((x.length:Int) !=0)else .no
 |.lst _ xs=>.ok (!xs.isEmpty)
 |.tup xs=>.ok (!xs.isEmpty)
 |_=>.no
def dS(a:Fr->Res T):Fr->Res Bool:=λρ=>(a ρ).bind zL
theorem Reps.isEmpty(r:Reps K cn H Z ts vs A):vs.isEmpty=ts.isEmpty:=by have h:=Reps.length ts r;cases ts<;>cases vs<;>simp_all
theorem dc9(r:Rep K cn H Z t v B)(h:zL t=.ok k):bh8 K v H k:=by
 cases t with
 |non=>simp only[Rep]at r;obtain⟨rfl,_⟩:=r;cases h;rfl
 |bl b=>simp only[Rep]at r;obtain⟨rfl,_⟩:=r;cases h;rfl
 |int b=>simp only[Rep]at r;obtain⟨rfl,_⟩:=r;cases h;rfl
 |str b=>
  simp only[Rep]at r;obtain⟨rfl,_⟩:=r;simp only[zL]at h;split at h
  . cases h;exact⟨by assumption,rfl⟩
  . cases h
 |lst o xs=>
  cases h;cases o with
  |true=>simp only[Rep]at r;obtain⟨a,vs,B,rfl,rfl,e,r⟩:=r;exact .inl ⟨vs,SqL.of e,by rw[r.isEmpty]⟩
  |false=>simp only[Rep]at r;obtain⟨a,vs,rfl,rfl,e,r⟩:=r;exact .inl ⟨vs,e.sq,by rw[r.isEmpty]⟩
 |tup xs=>cases h;simp only[Rep]at r;obtain⟨a,vs,rfl,e,r⟩:=r;exact .inr (.inl ⟨vs,e,by rw[r.isEmpty]⟩)
 |ty _=>cases h
 |ins _ _ _ _=>cases h
def cf8(h:zL t=.ex x):False:=by cases t<;>simp only[zL]at h<;>first|cases h|(split at h<;>cases h)
theorem eo3(ha:RB Jn K cn E ta a):RT Jn K cn E (λσ H Q=>ta σ H λx H'=>∃k,bh8 K x H' k/\Q k H') (dS a):=λAs H Z ρ σ F Q w=>by
 unfold dS at w;refine ha As H Z ρ σ F _ ?_;cases e:a ρ with
 |ok t=>
  rw[e]at w;intro v H1 Z1 B p;simp only[Res.bind]at w;cases e2:zL t with
  |ok k=>rw[e2]at w;exact⟨k,dc9 p.rep e2,w H1 Z1 p.mo.postT⟩
  |ex x=>exact(cf8 e2).elim
  |no=>rw[e2]at w;exact w.elim
 |ex x=>rw[e]at w;exact w
 |no=>rw[e]at w;exact w
def eO(c:Fr->Res Bool):Fr->Res Bool:=λρ=>(c ρ).bind λk=>.ok (!k)
def jT(c d:Fr->Res Bool):Fr->Res Bool:=λρ=>(c ρ).bind λk=>if k=true then d ρ else .ok false
def kX(c d:Fr->Res Bool):Fr->Res Bool:=λρ=>(c ρ).bind λk=>if k=true then .ok true else d ρ
theorem eq0(hc:RT Jn K cn E tt c):RT Jn K cn E (ei2 tt) (eO c):=λAs H Z ρ σ F Q w=>by
 unfold eO at w;refine hc As H Z ρ σ F _ ?_;cases e:c ρ with
 |ok k=>rw[e]at w;exact λH1 Z1 p=>w H1 Z1 p
 |ex x=>rw[e]at w;exact w
 |no=>rw[e]at w;exact w
theorem ey3(hc:RT Jn K cn E tt c)(hd:RT Jn K cn E uu d):RT Jn K cn E (ej5 tt uu) (jT c d):=λAs H Z ρ σ F Q w=>by
 unfold jT at w;refine hc As H Z ρ σ F _ ?_;cases e:c ρ with
 |ok k=>
  rw[e]at w;intro H1 Z1 p;cases k with
  |true=>rw[E6 rfl];exact hd As H1 Z1 ρ σ (F.mo p.mo) Q (WpT.mo w p.mo)
  |false=>rw[E5 W1];exact w H1 Z1 p
 |ex x=>rw[e]at w;exact w
 |no=>rw[e]at w;exact w
theorem em8(hc:RT Jn K cn E tt c)(hd:RT Jn K cn E uu d):RT Jn K cn E (tOr tt uu) (kX c d):=λAs H Z ρ σ F Q w=>by
 unfold kX at w;refine hc As H Z ρ σ F _ ?_;cases e:c ρ with
 |ok k=>
  rw[e]at w;intro H1 Z1 p;cases k with
  |false=>rw[E5 W1];exact hd As H1 Z1 ρ σ (F.mo p.mo) Q (WpT.mo w p.mo)
  |true=>rw[E6 rfl];exact w H1 Z1 p
 |ex x=>rw[e]at w;exact w
 |no=>rw[e]at w;exact w
end
open L2
section
variable{Jn:iP}{K:A1}{cn:Str->Option Addr}{E:XK}
structure ew6 (K:A1) (cn:Str->Option Addr) (As:List (List Addr)) (H:Hp) (Z:Addr->Prop) (mv:List Nat) (H':Hp) (Z':Addr->Prop) (ts:List T) (vs:List V) (B:List Addr):Prop where
 mo:Mo H Z H' Z'
 rep:Reps K cn H' Z' ts vs B
 nd:B.Nodup
 bz:∀b∈B,¬Z' b
 bn:∀b∈B,H b=none\/∃i∈mv,b∈As.getD i []
def WpA(K:A1)(cn:Str->Option Addr)(E:XK)(As:List (List Addr))(H:Hp)(Z:Addr->Prop)(mv:List Nat)(Q:List V->Hp->Prop):Res (List T)->Prop
 |.ok ts=>∀vs H' Z' B,ew6 K cn As H Z mv H' Z' ts vs B->Q vs H'
 |.ex x=>WpX K cn E As H Z x
 |.no=>False
def fc0(K:A1)(cn:Str->Option Addr)(E:XK)(As:List (List Addr))(H:Hp)(Z:Addr->Prop)(Q:List V->Hp->Prop):Res (List T)->Prop
 |.ok ts=>∀vs H' Z' B,Mo H Z H' Z'->Reps K cn H' Z' ts vs B->Q vs H'
 |.ex x=>WpX K cn E As H Z x
 |.no=>False
def RA(Jn:iP)(K:A1)(cn:Str->Option Addr)(E:XK)(mv:List Nat)(ta:TA)(d:Fr->Res (List T)):Prop:=∀As H Z ρ σ,Frm Jn K cn H Z ρ σ As->∀Q,WpA K cn E As H Z mv Q (d ρ)->ta σ H Q
def RAB(Jn:iP)(K:A1)(cn:Str->Option Addr)(E:XK)(ta:TA)(d:Fr->Res (List T)):Prop:=∀As H Z ρ σ,Frm Jn K cn H Z ρ σ As->∀Q,fc0 K cn E As H Z Q (d ρ)->ta σ H Q
def aI:Fr->Res (List T):=λ_=>.ok []
def aD(a:Fr->Res T)(r:Fr->Res (List T)):Fr->Res (List T):=λρ=>(a ρ).bind λt=>(r ρ).bind λts=>.ok (t::ts)
def ex1:RA Jn K cn E [] az1 aI:=λAs H Z ρ σ F Q w=>w [] H Z [] ⟨F.mo0,Reps.nil,G4,dZ,dZ⟩
def dl8:RAB Jn K cn E az1 aI:=λAs H Z ρ σ F Q w=>w [] H Z [] F.mo0 Reps.nil
theorem xM{As:List (List Addr)}{a:Addr}:∀{i j:Nat},As.flatten.Nodup->a∈As.getD i []->a∈As.getD j []->i=j:=by
 induction As with
 |nil=>intro i j _ h;simp at h
 |cons A As ih=>
  intro i j nd h1 h2;rw[C4,C9]at nd;cases i with
  |zero=>
   cases j with
   |zero=>rfl
   |succ j=>exact B0 rfl (nd.2.2 a (by simpa using h1) a (bA (by simpa using h2)))
  |succ i=>
   cases j with
   |zero=>exact B0 rfl (nd.2.2 a (by simpa using h2) a (bA (by simpa using h1)))
   |succ j=>exact M6 (· +1) (ih (i:=i) (j:=j) nd.2.1 (by simpa using h1) (by simpa using h2))
theorem dn7{mv mw:List Nat}{te:TE}{tr:TA}{a:Fr->Res T}{r:Fr->Res (List T)}(ha:RE Jn K cn E mv te a)(hr:RA Jn K cn E mw tr r)(hd:(mv.all λi=>!mw.contains i)=true:=by rfl):RA Jn K cn E (mv++mw) (wS te tr) (aD a r):=λAs H Z ρ σ F Q w=>by
 unfold aD at w;refine ha As H Z ρ σ F _ ?_;cases e:a ρ with
 |ok t=>
  rw[e]at w;intro v H1 Z1 B p;refine hr As H1 Z1 ρ σ (F.mo p.mo) _ ?_;simp only[Res.bind]at w;cases e2:r ρ with
  |ok ts=>
   rw[e2]at w;intro vs H2 Z2 B2 p2;refine w (v::vs) H2 Z2 (B++B2) ⟨p.mo.trans p2.mo,?_,?_,?_,?_⟩
   . simp only[Reps];exact⟨v,vs,B,B2,rfl,rfl,p.rep.same p2.mo.same p2.mo.zz,p2.rep⟩
   . rw[C9];refine⟨p.nd,p2.nd,λb hb c hc z=>?_⟩;subst z;obtain⟨o,ho,_⟩:=p.rep.dom t b hb;rcases p2.bn b hc with q|⟨j,hj,q⟩
     . rw[ho]at q;cases q
     . rcases p.bn b hb with z|⟨i,hi,z⟩
       . obtain⟨o',ho',_⟩:=F.sl.dom b (bA q);rw[ho']at z;cases z
       . have eij:=xM F.nd z q;subst eij;have hh:=J3.mp hd i hi;simp at hh;exact hh hj
   . intro b hb;rcases A3.mp hb with hb|hb
     . intro z;rcases p2.mo.zn b z with z|z
       . exact p.bz b hb z
       . obtain⟨o,ho,_⟩:=p.rep.dom t b hb;rw[ho]at z;cases z
     . exact p2.bz b hb
   . intro b hb;rcases A3.mp hb with hb|hb
     . exact(p.bn b hb).imp_right λ⟨i,hi,z⟩=>⟨i,D7 _ hi,z⟩
     . rcases p2.bn b hb with z|⟨i,hi,z⟩
       . exact .inl (p.same.free z)
       . exact .inr ⟨i,B6 _ hi,z⟩
  |ex x=>rw[e2]at w;exact WpX.ev w p.mo.ev
  |no=>rw[e2]at w;exact w
 |ex x=>rw[e]at w;exact w
 |no=>rw[e]at w;exact w
theorem dh2(ha:RB Jn K cn E te a)(hr:RAB Jn K cn E tr r):RAB Jn K cn E (wS te tr) (aD a r):=λAs H Z ρ σ F Q w=>by
 unfold aD at w;refine ha As H Z ρ σ F _ ?_;cases e:a ρ with
 |ok t=>
  rw[e]at w;intro v H1 Z1 B p;refine hr As H1 Z1 ρ σ (F.mo p.mo) _ ?_;simp only[Res.bind]at w;cases e2:r ρ with
  |ok ts=>rw[e2]at w;intro vs H2 Z2 B2 m2 r2;refine w (v::vs) H2 Z2 (B++B2) (p.mo.trans m2) ?_;simp only[Reps];exact⟨v,vs,B,B2,rfl,rfl,p.rep.same m2.same m2.zz,r2⟩
  |ex x=>rw[e2]at w;exact WpX.ev w p.mo.ev
  |no=>rw[e2]at w;exact w
 |ex x=>rw[e]at w;exact w
 |no=>rw[e]at w;exact w
def eI(r:Fr->Res (List T)):Fr->Res T:=λρ=>(r ρ).bind λts=>if ts.length<=sizeLine then .ok (.lst true ts)else .no
def cD(r:Fr->Res (List T)):Fr->Res T:=λρ=>(r ρ).bind λts=>if ts.length<=sizeLine then .ok (.tup ts)else .no
def Mo.new(o:HO)(hp:H p=none)(zi:∀a,Z a->H a≠none):Mo H Z (L2.upd H p o) Z:=
 ⟨bb7 hp o,λ_ h=>h,λ_ h=>.inl h,λa h=>by
  by_cases e:a=p
  . subst e;rw[fR];exact(λz=>nomatch z)
  . rw[cV e];exact zi a h⟩
theorem en1(h:RA Jn K cn E mv ta r):RE Jn K cn E mv (es3 ta) (eI r):=λAs H Z ρ σ F Q w=>by
 unfold eI at w;refine h As H Z ρ σ F _ ?_;cases e:r ρ with
 |ok ts=>
  rw[e]at w;intro vs H1 Z1 B p;simp only[Res.bind]at w;split at w
  . next hl=>
    refine⟨by rw[Reps.length ts p.rep];exact hl,λq hq=>?_⟩;have hZ:¬Z1 q:=λz=>p.mo.zi q z hq;have m:=Mo.new (.lst vs) hq p.mo.zi;refine w (.ref q) _ Z1 (q::B) ⟨(p.mo.trans m).same,(p.mo.trans m).zz,(p.mo.trans m).zn,m.zi,?_,?_,?_,?_⟩
    . simp only[Rep];exact⟨q,vs,B,rfl,rfl,fR,p.rep.same m.same m.zz⟩
    . refine E9.mpr ⟨λhb=>?_,p.nd⟩;obtain⟨o,ho,_⟩:=Reps.dom ts p.rep q hb;rw[ho]at hq;cases hq
    . intro b hb;rcases B9.mp hb with rfl|hb
      . exact hZ
      . exact p.bz b hb
    . intro b hb;rcases B9.mp hb with rfl|hb
      . exact .inl (p.mo.same.free hq)
      . exact p.bn b hb
  . exact w.elim
 |ex x=>rw[e]at w;exact w
 |no=>rw[e]at w;exact w
theorem eb4(h:RA Jn K cn E mv ta r):RE Jn K cn E mv (er4 ta) (cD r):=λAs H Z ρ σ F Q w=>by
 unfold cD at w;refine h As H Z ρ σ F _ ?_;cases e:r ρ with
 |ok ts=>
  rw[e]at w;intro vs H1 Z1 B p;simp only[Res.bind]at w;split at w
  . next hl=>
    refine⟨by rw[Reps.length ts p.rep];exact hl,λq hq=>?_⟩;have m:=Mo.new (.tup vs) hq p.mo.zi;refine w (.ref q) _ Z1 B ⟨(p.mo.trans m).same,(p.mo.trans m).zz,(p.mo.trans m).zn,m.zi,?_,p.nd,p.bz,p.bn⟩;simp only[Rep];exact⟨q,vs,rfl,SqT.of fR,p.rep.same m.same m.zz⟩
  . exact w.elim
 |ex x=>rw[e]at w;exact w
 |no=>rw[e]at w;exact w
def yC(K:A1)(cn:Str->Option Addr)(r:List V->Hp->VK->Prop)(f:List T->Res T):Prop:=
 ∀(E:XK)(As:List (List Addr))(H:Hp)(Z:Addr->Prop)(ts:List T)(xs:List V)(A:List Addr)(Q:VK),(∀a,Z a->H a≠none)->Reps K cn H Z ts xs A->WpE K cn E As H Z [] Q (f ts)->r xs H Q
def bN(f:List T->Res T)(r:Fr->Res (List T)):Fr->Res T:=λρ=>(r ρ).bind f
theorem eg8(hr:yC K cn r f)(ha:RAB Jn K cn E ta a):RE Jn K cn E [] (tCB r ta) (bN f a):=λAs H Z ρ σ F Q w=>by
 unfold bN at w;refine ha As H Z ρ σ F _ ?_;cases e:a ρ with
 |ok ts=>rw[e]at w;exact λvs H1 Z1 B m p=>hr E As H1 Z1 ts vs B Q m.zi p (WpE.mo F w m)
 |ex x=>rw[e]at w;exact w
 |no=>rw[e]at w;exact w
def RMR(K:A1)(cn:Str->Option Addr)(ty:String)(r:V->List V->Hp->VK->Prop)(f:T->List T->Res T):Prop:=
 ∀(E:XK)(As:List (List Addr))(H:Hp)(Z:Addr->Prop)(t:T)(ts:List T)(x:V)(xs:List V)(A B:List Addr)(Q:VK),(∀a,Z a->H a≠none)->Rep K cn H Z t x A->Reps K cn H Z ts xs B->WpE K cn E As H Z [] Q (f t ts)->r x xs H Q
def dBM(ok:T->Bool)(f:T->List T->Res T)(o:Fr->Res T)(r:Fr->Res (List T)):Fr->Res T:=λρ=>(o ρ).bind λt=>if ok t=true then(r ρ).bind λts=>f t ts else .no
def bm6:T->Bool
 |.str _=>true
 |_=>false
def aa8:T->Bool
 |.lst _ _=>true
 |_=>false
theorem ck6(h:bm6 t=true)(r:Rep K cn H Z t v B):tyV K "str" v H:=by
 cases t with
 |str x=>simp only[Rep]at r;obtain⟨rfl,_⟩:=r;rfl
 |_=>cases h
theorem Rep.lstSq(r:Rep K cn H Z (.lst o ts) v B):∃a vs C,v=.ref a/\SqS K H a vs/\Reps K cn H Z ts vs C/\C.Sublist B:=by
 cases o with
 |true=>simp only[Rep]at r;obtain⟨a,vs,C,rfl,rfl,e,r⟩:=r;exact⟨a,vs,C,rfl,.inl (.inl e),r,Q2 _ _⟩
 |false=>simp only[Rep]at r;obtain⟨a,vs,rfl,rfl,e,r⟩:=r;exact⟨a,vs,[],rfl,e.sqS,r,List.Sublist.slnil⟩
theorem ck8(h:aa8 t=true)(r:Rep K cn H Z t v B):tyV K "list" v H:=by
 cases t with
 |lst o xs=>obtain⟨a,vs,C,rfl,s,_⟩:=r.lstSq;exact .inl ⟨rfl,vs,s.sq⟩
 |_=>cases h
theorem dn4(hty:∀{H:Hp}{Z:Addr->Prop}{t:T}{v:V}{B:List Addr},ok t=true->Rep K cn H Z t v B->tyV K ty v H)(hr:RMR K cn ty r f)
 (ho:RB Jn K cn E to o)(ha:RAB Jn K cn E ta a):RE Jn K cn E [] (tBM K ty r to ta) (dBM ok f o a):=λAs H Z ρ σ F Q w=>by
 unfold dBM at w;refine ho As H Z ρ σ F _ ?_;cases e:o ρ with
 |ok t=>
  rw[e]at w;intro v H1 Z1 B p;simp only[Res.bind]at w;split at w
  . next hok=>
    refine⟨hty hok p.rep,ha As H1 Z1 ρ σ (F.mo p.mo) _ ?_⟩;cases e2:a ρ with
    |ok ts=>rw[e2]at w;exact λvs H2 Z2 B2 m r2=>hr E As H2 Z2 t ts v vs B B2 Q m.zi (p.rep.same m.same m.zz) r2 (WpE.mo F w (p.mo.trans m))
    |ex x=>rw[e2]at w;exact WpX.ev w p.mo.ev
    |no=>rw[e2]at w;exact w
  . exact w.elim
 |ex x=>rw[e]at w;exact w
 |no=>rw[e]at w;exact w
def bR(K:A1)(cn:Str->Option Addr)(n:Nat)(F:List T->Res T):Sp:=λvs H Q E=>vs.length=n/\∃ts Z,(∀a,Z a->H a≠none)/\Reps K cn H Z ts vs []/\WpE K cn E [] H Z [] Q (F ts)
def aX(n:Nat)(F:List T->Res T)(r:Fr->Res (List T)):Fr->Res T:=λρ=>(r ρ).bind λts=>if ts.length=n then match F (frzs ts)with
 |.ok t=>if(cM t||aW ts)=true then .ok t else .no
 |_=>.no else .no
theorem ee2(ha:RAB Jn K cn E ta a):RE Jn K cn E [] (cm4 (bR K cn n G) ta) (aX n G a):=λAs H Z ρ σ F Q w=>by
 unfold aX at w;refine ha As H Z ρ σ F _ ?_;cases e:a ρ with
 |ok ts=>
  rw[e]at w;intro vs H1 Z1 B m r1;simp only[Res.bind]at w;split at w
  . next hn=>
    refine⟨by rw[Reps.length ts r1,hn],frzs ts,(λa=>Z1 a\/a∈B),λa h=>?_,Reps.frz ts r1 (λa h=>.inl h) (λa h=>.inr h),?_⟩
    . rcases h with h|h
      . exact m.zi a h
      . obtain⟨o,q,_⟩:=Reps.dom ts r1 a h;rw[q];exact(λz=>nomatch z)
    cases e2:G (frzs ts)with
    |ok t=>
     rw[e2]at w;intro v H2 Z2 C p;simp only at w;split at w
     . next hc=>
       rw[S9]at hc;have bn:∀b∈C,H1 b=none:=λb hb=>(p.bn b hb).resolve_right (λ⟨i,hi,_⟩=>by cases hi);by_cases hcl:cM t=true
       . refine w v H2 Z1 C ⟨m.same.trans p.same,m.zz,λa h=>m.zn a h,λa h=>?_,Rep.any t hcl p.rep,p.nd,λb hb z=>?_,λb hb=>.inl (m.same.free (bn b hb))⟩
         . intro q;exact m.zi a h (p.same.free q)
         . exact m.zi b z (bn b hb)
       . have hno:=hc.resolve_left hcl;have hB:=Reps.bare ts hno r1;subst hB;refine w v H2 Z2 C ⟨m.same.trans p.same,λa h=>p.zz a (.inl (m.zz a h)),λa h=>?_,p.zi,p.rep,p.nd,p.bz,λb hb=>.inl (m.same.free (bn b hb))⟩;rcases p.zn a h with(h|h)|h
         . exact m.zn a h
         . cases h
         . exact .inr (m.same.free h)
     . exact w.elim
    |ex x=>rw[e2]at w;exact w.elim
    |no=>rw[e2]at w;exact w.elim
  . exact w.elim
 |ex x=>rw[e]at w;exact w
 |no=>rw[e]at w;exact w
def WpO(K:A1)(cn:Str->Option Addr)(E:XK)(As:List (List Addr))(H:Hp)(Z:Addr->Prop)(Q:Option Int->Hp->Prop):Res (Option Int)->Prop
 |.ok o=>∀H' Z',Mo H Z H' Z'->Q o H'
 |.ex x=>WpX K cn E As H Z x
 |.no=>False
def RO(Jn:iP)(K:A1)(cn:Str->Option Addr)(E:XK)(t:TO)(d:Fr->Res (Option Int)):Prop:=∀As H Z ρ σ,Frm Jn K cn H Z ρ σ As->∀Q,WpO K cn E As H Z Q (d ρ)->t σ H Q
def lD:Fr->Res (Option Int):=λ_=>.ok none
def toI:T->Res (Option Int)
 |.int i=>.ok (some i)
 |_=>.no
def kK(a:Fr->Res T):Fr->Res (Option Int):=λρ=>(a ρ).bind toI
def dy5:RO Jn K cn E bu1 lD:=λAs H Z ρ σ F Q w=>w H Z F.mo0
theorem dn6(ha:RB Jn K cn E te a):RO Jn K cn E (cs3 te) (kK a):=λAs H Z ρ σ F Q w=>by
 unfold kK at w;refine ha As H Z ρ σ F _ ?_;cases e:a ρ with
 |ok t=>
  rw[e]at w;intro v H1 Z1 B p;cases t with
  |int i=>have q:=p.rep;simp only[Rep]at q;obtain⟨rfl,rfl⟩:=q;exact⟨i,rfl,w H1 Z1 p.mo⟩
  |_=>exact False.elim w
 |ex x=>rw[e]at w;exact w
 |no=>rw[e]at w;exact w
def RSR(K:A1)(cn:Str->Option Addr)(r:V->Option Int->Option Int->Hp->VK->Prop)(f:T->Option Int->Option Int->Res T):Prop:=
 ∀(E:XK)(As:List (List Addr))(H:Hp)(Z:Addr->Prop)(t:T)(x:V)(A:List Addr)(lo hi:Option Int)(Q:VK),(∀a,Z a->H a≠none)->Rep K cn H Z t x A->WpE K cn E As H Z [] Q (f t lo hi)->r x lo hi H Q
def vY(f:T->Option Int->Option Int->Res T)(a:Fr->Res T)(l h:Fr->Res (Option Int)):Fr->Res T:=λρ=>(a ρ).bind λt=>(l ρ).bind λlo=>(h ρ).bind λhi=>f t lo hi
theorem er6(hr:RSR K cn r f)(ha:RB Jn K cn E te a)(hl:RO Jn K cn E tl l)(hh:RO Jn K cn E th h):RE Jn K cn E [] (tSl r te tl th) (vY f a l h):=λAs H Z ρ σ F Q w=>by
 unfold vY at w;refine ha As H Z ρ σ F _ ?_;cases e:a ρ with
 |ok t=>
  rw[e]at w;intro v H1 Z1 B p;refine hl As H1 Z1 ρ σ (F.mo p.mo) _ ?_;simp only[Res.bind]at w;cases e2:l ρ with
  |ok lo=>
   rw[e2]at w;intro H2 Z2 m2;have m12:=p.mo.trans m2;refine hh As H2 Z2 ρ σ (F.mo m12) _ ?_;simp only at w;cases e3:h ρ with
   |ok hi=>rw[e3]at w;intro H3 Z3 m3;exact hr E As H3 Z3 t v B lo hi Q m3.zi (p.rep.same (m2.same.trans m3.same) λa h=>m3.zz a (m2.zz a h)) (WpE.mo F w (m12.trans m3))
   |ex x=>rw[e3]at w;exact WpX.ev w m12.ev
   |no=>rw[e3]at w;exact w
  |ex x=>rw[e2]at w;exact WpX.ev w p.mo.ev
  |no=>rw[e2]at w;exact w
 |ex x=>rw[e]at w;exact w
 |no=>rw[e]at w;exact w
end
open L2
section
variable{Jn:iP}{K:A1}{cn:Str->Option Addr}{E:XK}
def SqF(fz k:Bool)(K:A1)(H:Hp)(Z:Addr->Prop)(l:Addr)(xs:List V):Prop:=cond k (SqT K H l xs) (if fz=true then FzL K H Z l xs else SqL K H l xs)
def kL(ts us:List T):List T:=List.zipWith (λt u=>T.tup [t,u]) ts us
def ax4(ts:List T):List T:=List.zipWith (λi t=>T.tup [.int (i:Nat),t]) (List.range ts.length) ts
def Src(K:A1)(cn:Str->Option Addr)(fz:Bool)(H:Hp)(Z:Addr->Prop)(J:It)(ts:List T):Prop:=
 (∃a vs,J=Itl K a/\(if fz=true then FzL K H Z a vs else SqL K H a vs)/\Reps K cn H Z ts vs [])\/
 (∃a vs,J=Itt K a/\SqT K H a vs/\Reps K cn H Z ts vs [])\/
 (∃(lo:Int)(n:Nat),J=Itr lo n/\ts=(List.range n).map λi=>T.int (lo+(i:Nat)))\/
 (∃z:Str,J=Its z/\ts=z.cps.toList.map λc=>T.str ⟨#[c]⟩)\/
 (∃k1 k2 l1 l2 vs ws us us',J=Itz K k1 k2 l1 l2/\SqF fz k1 K H Z l1 vs/\SqF fz k2 K H Z l2 ws/\Reps K cn H Z us vs []/\Reps K cn H Z us' ws []/\ts=kL us us')\/
 (∃l vs us,J=Ite K l/\SqF fz false K H Z l vs/\Reps K cn H Z us vs []/\ts=ax4 us)
theorem bx0(h:if fz=true then FzL K H Z a vs else SqL K H a vs):SqL K H a vs:=by
 cases fz with
 |true=>rw[E6 rfl]at h;exact h.sq
 |false=>rw[E5 W1]at h;exact h
theorem SqF.sq(h:SqF fz k K H Z l xs):SqK k K H l xs:=by
 cases k with
 |true=>exact h
 |false=>exact bx0 h
theorem bk3:∀{us us':List T}{i:Nat},(kL us us')[i]?=some t->∃t1 t2,us[i]?=some t1/\us'[i]?=some t2/\t=.tup [t1,t2]:=by
 intro us us' i h;unfold kL at h;rw[List.getElem?_zipWith]at h;cases h1:us[i]? with
 |none=>rw[h1]at h;cases h
 |some t1=>
  cases h2:us'[i]? with
  |none=>rw[h1,h2]at h;cases h
  |some t2=>rw[h1,h2]at h;exact⟨t1,t2,rfl,rfl,(E8 h).symm⟩
def al4(us us':List T):(kL us us').length=min us.length us'.length:=by simp[kL]
def bl3(us:List T):(ax4 us).length=us.length:=by simp[ax4]
theorem bw2{t:T}{us:List T}{i:Nat}(h:(ax4 us)[i]?=some t):∃t2,us[i]?=some t2/\t=.tup [.int i,t2]:=by
 unfold ax4 at h;rw[List.getElem?_zipWith]at h;cases h2:us[i]? with
 |none=>rw[h2]at h;cases q:(List.range us.length)[i]?<;>rw[q]at h<;>cases h
 |some t2=>have hi:=(C7.mp h2).1;rw[h2,R0 hi]at h;exact⟨t2,rfl,(E8 h).symm⟩
def bj6(ex:x=.ref p)(hp:H p=some (.tup [v1,v2]))(h1:Rep K cn H Z t1 v1 [])(h2:Rep K cn H Z t2 v2 []):Rep K cn H Z (.tup [t1,t2]) x []:=by simp only[Rep];refine⟨p,[v1,v2],ex,SqT.of hp,?_⟩;simp only[Reps];exact⟨v1,[v2],[],[],rfl,rfl,h1,v2,[],[],[],rfl,rfl,h2,rfl,rfl⟩
def Src.turn{fz:Bool}{H:Hp}{Z:Addr->Prop}{J:It}{ts:List T}{i:Nat}{t:T}(h:Src K cn fz H Z J ts)(zi:∀a,Z a->H a≠none)(e:ts[i]?=some t):J.go i H/\∀x H',J.yld i H x H'->Mo H Z H' Z/\Rep K cn H' Z t x []:=by
 have m0:Mo H Z H Z:=⟨Same.refl _,λ_ h=>h,λ_ h=>.inl h,zi⟩;rcases h with⟨a,vs,rfl,hs,r⟩|⟨a,vs,rfl,hs,r⟩|⟨lo,n,rfl,rfl⟩|⟨z,rfl,rfl⟩|⟨k1,k2,l1,l2,vs,ws,us,us',rfl,q1,q2,r1,r2,rfl⟩|⟨l,vs,us,rfl,q1,r1,rfl⟩
 . obtain⟨v,B,ev,rv,hB,_⟩:=Reps.get ts r e;have hs:=bx0 hs;have eB:B=[]:=M1.mpr λb hb=>by cases hB b hb
   subst eB;refine⟨⟨vs,v,hs,ev⟩,λx H' ⟨e1,e2⟩=>⟨e1▸m0,?_⟩⟩;subst e1;have:=e2 vs hs;rw[ev]at this;cases this;exact rv
 . obtain⟨v,B,ev,rv,hB,_⟩:=Reps.get ts r e;have eB:B=[]:=M1.mpr λb hb=>by cases hB b hb
   subst eB;refine⟨⟨vs,v,hs,ev⟩,λx H' ⟨e1,e2⟩=>⟨e1▸m0,?_⟩⟩;subst e1;have:=e2 vs hs;rw[ev]at this;cases this;exact rv
 . rw[F7]at e;cases q:(List.range n)[i]? with
   |none=>rw[q]at e;cases e
   |some j=>rw[q]at e;obtain⟨h1,h2⟩:=C7.mp q;simp at h1 h2;subst h2;cases e;refine⟨h1,λx H' ⟨e1,e2⟩=>⟨e1▸m0,?_⟩⟩;subst e1;subst e2;simp[Rep]
 . rw[F7]at e;cases q:z.cps.toList[i]? with
   |none=>rw[q]at e;cases e
   |some c=>rw[q]at e;cases e;have h1:=(C7.mp q).1;refine⟨show i<z.cps.size by simpa using h1,λx H' ⟨e1,c',e2,e3⟩=>⟨e1▸m0,?_⟩⟩;subst e1;rw[<-Array.getElem?_toList]at e2;rw[q]at e2;cases e2;subst e3;simp[Rep]
 . obtain⟨t1,t2,e1,e2,rfl⟩:=bk3 e;obtain⟨v1,B1,ev1,rv1,hB1,_⟩:=Reps.get us r1 e1;obtain⟨v2,B2,ev2,rv2,hB2,_⟩:=Reps.get us' r2 e2;have n1:B1=[]:=M1.mpr λb hb=>by cases hB1 b hb
   have n2:B2=[]:=M1.mpr λb hb=>by cases hB2 b hb
   subst n1 n2;refine⟨⟨vs,ws,v1,v2,q1.sq,q2.sq,ev1,ev2⟩,λx H' ⟨p,hp,ex,h⟩=>?_⟩;obtain⟨y1,y2,f1,f2,rfl⟩:=h vs ws q1.sq q2.sq;rw[ev1]at f1;rw[ev2]at f2;cases f1;cases f2;have m:=Mo.new (.tup [v1,v2]) hp zi;exact⟨m,bj6 ex fR (rv1.same m.same m.zz) (rv2.same m.same m.zz)⟩
 . obtain⟨t2,e2,rfl⟩:=bw2 e;obtain⟨v2,B2,ev2,rv2,hB2,_⟩:=Reps.get us r1 e2;have n2:B2=[]:=M1.mpr λb hb=>by cases hB2 b hb
   subst n2;refine⟨⟨vs,v2,q1.sq,ev2⟩,λx H' ⟨p,hp,ex,h⟩=>?_⟩;obtain⟨y2,f2,rfl⟩:=h vs q1.sq;rw[ev2]at f2;cases f2;have m:=Mo.new (.tup [.int i,v2]) hp zi;exact⟨m,bj6 ex fR (by simp[Rep]) (rv2.same m.same m.zz)⟩
theorem Src.stop(h:Src K cn fz H Z J ts)(e:ts.length<=i):J.stop i H:=by
 rcases h with⟨a,vs,rfl,hs,r⟩|⟨a,vs,rfl,hs,r⟩|⟨lo,n,rfl,rfl⟩|⟨z,rfl,rfl⟩|⟨k1,k2,l1,l2,vs,ws,us,us',rfl,q1,q2,r1,r2,rfl⟩|⟨l,vs,us,rfl,q1,r1,rfl⟩
 . exact⟨vs,bx0 hs,by rw[Reps.length ts r];exact e⟩
 . exact⟨vs,hs,by rw[Reps.length ts r];exact e⟩
 . show n<=i;simpa using e
 . have:z.cps.size<=i:=by simpa using e
   exact this
 . refine⟨vs,ws,q1.sq,q2.sq,?_⟩;rw[Reps.length us r1,Reps.length us' r2];rw[al4]at e;omega
 . refine⟨vs,q1.sq,?_⟩;rw[Reps.length us r1];rw[bl3]at e;exact e
def Same.sqT(e:Same H H')(h:SqT K H a xs):SqT K H' a xs:=SqT.keep h λb o q _=>e b o q
theorem SqF.mo(h:SqF fz k K H Z l xs)(m:Mo H Z H' Z'):SqF fz k K H' Z' l xs:=by
 cases k with
 |true=>exact Same.sqT m.same h
 |false=>
  cases fz with
  |true=>exact FzL.keep (show FzL K H Z l xs from h) (λb o q _=>m.same b o q) m.zz
  |false=>exact m.same.seq (show SqL K H l xs from h)
theorem SqF.kept(h:SqF true k K H Z l xs)(kz:∀b o,H b=some o->(Z b\/sZ o=true)->H' b=some o)(hz:∀a,Z a->Z' a):SqF true k K H' Z' l xs:=by
 cases k with
 |true=>exact SqT.keep (show SqT K H l xs from h) λb o q c=>kz b o q (.inr c)
 |false=>exact FzL.keep (show FzL K H Z l xs from h) kz hz
theorem Src.mo(h:Src K cn fz H Z J ts)(m:Mo H Z H' Z'):Src K cn fz H' Z' J ts:=by
 rcases h with⟨a,vs,rfl,hs,r⟩|⟨a,vs,rfl,hs,r⟩|h|h|⟨k1,k2,l1,l2,vs,ws,us,us',rfl,q1,q2,r1,r2,rfl⟩|⟨l,vs,us,rfl,q1,r1,rfl⟩
 . refine .inl ⟨a,vs,rfl,?_,r.same m.same m.zz⟩;cases fz with
   |true=>rw[E6 rfl]at hs⊢;exact hs.keep (λb o q _=>m.same b o q) m.zz
   |false=>rw[E5 W1]at hs⊢;exact m.same.seq hs
 . exact .inr (.inl ⟨a,vs,rfl,Same.sqT m.same hs,r.same m.same m.zz⟩)
 . exact .inr (.inr (.inl h))
 . exact .inr (.inr (.inr (.inl h)))
 . exact .inr (.inr (.inr (.inr (.inl ⟨k1,k2,l1,l2,vs,ws,us,us',rfl,q1.mo m,q2.mo m,r1.same m.same m.zz,r2.same m.same m.zz,rfl⟩))))
 . exact .inr (.inr (.inr (.inr (.inr ⟨l,vs,us,rfl,q1.mo m,r1.same m.same m.zz,rfl⟩))))
def Src.ev(h:Src K cn true H Z J ts)(F:Frm Jn K cn H Z ρ σ As)(e:Ev As H Z As' H' Z'):Src K cn true H' Z' J ts:=by
 have kz:∀b o,H b=some o->(Z b\/sZ o=true)->H' b=some o:=λb o q c=>e.keep b o q λhb=>by
  rcases c with c|c
  . exact F.nz b hb c
  . obtain⟨o',q',i'⟩:=F.sl.dom b hb;rw[q]at q';cases q';rw[c]at i';cases i'
 rcases h with⟨a,vs,rfl,hs,r⟩|⟨a,vs,rfl,hs,r⟩|h|h|⟨k1,k2,l1,l2,vs,ws,us,us',rfl,q1,q2,r1,r2,rfl⟩|⟨l,vs,us,rfl,q1,r1,rfl⟩
 . rw[E6 rfl]at hs;refine .inl ⟨a,vs,rfl,?_,Reps.keep ts r (λb o q c=>kz b o q (c.resolve_left ((λz=>nomatch z)))) e.zz⟩;rw[E6 rfl];exact hs.keep kz e.zz
 . exact .inr (.inl ⟨a,vs,rfl,SqT.keep hs (λb o q c=>kz b o q (.inr c)),Reps.keep ts r (λb o q c=>kz b o q (c.resolve_left ((λz=>nomatch z)))) e.zz⟩)
 . exact .inr (.inr (.inl h))
 . exact .inr (.inr (.inr (.inl h)))
 . exact .inr (.inr (.inr (.inr (.inl ⟨k1,k2,l1,l2,vs,ws,us,us',rfl,q1.kept kz e.zz,q2.kept kz e.zz,Reps.keep us r1 (λb o q c=>kz b o q (c.resolve_left ((λz=>nomatch z)))) e.zz,Reps.keep us' r2 (λb o q c=>kz b o q (c.resolve_left ((λz=>nomatch z)))) e.zz,rfl⟩))))
 . exact .inr (.inr (.inr (.inr (.inr ⟨l,vs,us,rfl,q1.kept kz e.zz,Reps.keep us r1 (λb o q c=>kz b o q (c.resolve_left ((λz=>nomatch z)))) e.zz,rfl⟩))))
def WpI(K:A1)(cn:Str->Option Addr)(E:XK)(fz:Bool)(As:List (List Addr))(H:Hp)(Z:Addr->Prop)(R:It->Hp->Prop):Res (List T)->Prop
 |.ok ts=>∀J H' Z',Mo H Z H' Z'->Src K cn fz H' Z' J ts->R J H'
 |.ex x=>WpX K cn E As H Z x
 |.no=>False
def RI(Jn:iP)(K:A1)(cn:Str->Option Addr)(E:XK)(fz:Bool)(wi:TI)(d:Fr->Res (List T)):Prop:=∀As H Z ρ σ,Frm Jn K cn H Z ρ σ As->∀R,WpI K cn E fz As H Z R (d ρ)->wi σ H R
noncomputable def gate{α:Type}(p:Prop)(a:Res α):Res α:=@ite _ p (Classical.propDecidable p) a .no
theorem cr7(a:Res α):gate True a=a:=by unfold gate;rw[E6 trivial]
theorem gH(h:p):gate p a=a:=by unfold gate;rw[E6 h]
theorem WpI.gate(w:WpI K cn E fz As H Z R (TL.gate p r)):p/\WpI K cn E fz As H Z R r:=by
 unfold TL.gate at w;split at w
 . exact⟨by assumption,w⟩
 . exact w.elim
theorem WpE.gate(w:WpE K cn E As H Z mv Q (TL.gate p r)):p/\WpE K cn E As H Z mv Q r:=by
 unfold TL.gate at w;split at w
 . exact⟨by assumption,w⟩
 . exact w.elim
def gM(lo:Int)(n:Nat):List T:=(List.range n).map λi=>T.int (lo+(i:Nat))
noncomputable def kG:List T->Res (List T)
 |[.int j]=>gate (-(2^62)<=j/\j<2^62) (.ok (gM 0 j.toNat))
 |_=>.no
noncomputable def xS:List T->Res (List T)
 |[.int i,.int j]=>gate (-(2^62)<=i/\i<2^62/\-(2^62)<=j/\j<2^62) (.ok (gM i (j-i).toNat))
 |_=>.no
def gQ(f:List T->Res (List T))(a:Fr->Res (List T)):Fr->Res (List T):=λρ=>(a ρ).bind f
def Reps.ints1(r:Reps K cn H Z [.int i] vs A):vs=[.int i]:=by simp only[Reps,Rep]at r;obtain⟨v,w,B,C,rfl,rfl,⟨rfl,rfl⟩,rfl,rfl⟩:=r;rfl
def Reps.ints2(r:Reps K cn H Z [.int i,.int j] vs A):vs=[.int i,.int j]:=by simp only[Reps,Rep]at r;obtain⟨v,w,B,C,rfl,rfl,⟨rfl,rfl⟩,v2,w2,B2,C2,rfl,rfl,⟨rfl,rfl⟩,rfl,rfl⟩:=r;rfl
theorem dz5(ha:RAB Jn K cn E ta a):RI Jn K cn E fz (dj5 ta) (gQ kG a):=λAs H Z ρ σ F R w=>by
 unfold gQ at w;refine ha As H Z ρ σ F _ ?_;cases e:a ρ with
 |ok ts=>
  rw[e]at w;intro vs H1 Z1 B m r;simp only[Res.bind]at w;unfold kG at w;split at w
  . next j=>
    obtain⟨hb,w⟩:=w.gate;exact⟨j,r.ints1,hb.1,hb.2,w (Itr 0 j.toNat) H1 Z1 m (.inr (.inr (.inl ⟨0,j.toNat,rfl,rfl⟩)))⟩
  . exact w.elim
 |ex x=>rw[e]at w;exact w
 |no=>rw[e]at w;exact w
theorem dc7(ha:RAB Jn K cn E ta a):RI Jn K cn E fz (dk5 ta) (gQ xS a):=λAs H Z ρ σ F R w=>by
 unfold gQ at w;refine ha As H Z ρ σ F _ ?_;cases e:a ρ with
 |ok ts=>
  rw[e]at w;intro vs H1 Z1 B m r;simp only[Res.bind]at w;unfold xS at w;split at w
  . next i j=>
    obtain⟨hb,w⟩:=w.gate;exact⟨i,j,r.ints2,hb,w (Itr i (j-i).toNat) H1 Z1 m (.inr (.inr (.inl ⟨i,_,rfl,rfl⟩)))⟩
  . exact w.elim
 |ex x=>rw[e]at w;exact w
 |no=>rw[e]at w;exact w
def iV(K:A1)(tl:TE):TI:=λσ H R=>tl σ H λx H1=>(∃a,x=.ref a/\(((∃xs,SqL K H1 a xs)/\R (Itl K a) H1)\/((∃xs,SqT K H1 a xs)/\R (Itt K a) H1)))\/∃z,x=.str z/\R (Its z) H1
def jG:T->Res (List T)
 |.lst _ ts=>if aW ts=true then .ok ts else .no
 |.tup ts=>if aW ts=true then .ok ts else .no
 |.str z=>.ok (z.cps.toList.map λc=>T.str ⟨#[c]⟩)
 |_=>.no
def rP:T->Res (List T)
 |.lst o ts=>if(!o&&aW ts)=true then .ok ts else .no
 |.tup ts=>if aW ts=true then .ok ts else .no
 |.str z=>.ok (z.cps.toList.map λc=>T.str ⟨#[c]⟩)
 |_=>.no
def gG(f:T->Res (List T))(a:Fr->Res T):Fr->Res (List T):=λρ=>(a ρ).bind f
def Reps.bareE(r:Reps K cn H Z ts vs A)(h:aW ts=true):Reps K cn H Z ts vs []:=by have:=Reps.bare ts h r;subst this;exact r
theorem fh0(ha:RB Jn K cn E tl a):RI Jn K cn E false (iV K tl) (gG jG a):=λAs H Z ρ σ F R w=>by
 unfold gG at w;refine ha As H Z ρ σ F _ ?_;cases e:a ρ with
 |ok t=>
  rw[e]at w;intro v H1 Z1 B p;simp only[Res.bind]at w;cases t with
  |lst o ts=>
   simp only[jG]at w;split at w
   . next hn=>
     obtain⟨b,vs,C,rfl,hs,r,_⟩:=p.rep.lstSq;have hs:=hs.sq;exact .inl ⟨b,rfl,.inl ⟨⟨vs,hs⟩,w _ H1 Z1 p.mo (.inl ⟨b,vs,rfl,by rw[E5 W1];exact hs,r.bareE hn⟩)⟩⟩
   . exact w.elim
  |tup ts=>
   simp only[jG]at w;split at w
   . next hn=>
     have q:=p.rep;simp only[Rep]at q;obtain⟨b,vs,rfl,hs,r⟩:=q;exact .inl ⟨b,rfl,.inr ⟨⟨vs,hs⟩,w _ H1 Z1 p.mo (.inr (.inl ⟨b,vs,rfl,hs,r.bareE hn⟩))⟩⟩
   . exact w.elim
  |str z=>have q:=p.rep;simp only[Rep]at q;obtain⟨rfl,_⟩:=q;exact .inr ⟨z,rfl,w _ H1 Z1 p.mo (.inr (.inr (.inr (.inl ⟨z,rfl,rfl⟩))))⟩
  |_=>exact w.elim
 |ex x=>rw[e]at w;exact w
 |no=>rw[e]at w;exact w
theorem fq0(ha:RB Jn K cn E tl a):RI Jn K cn E true (iV K tl) (gG rP a):=λAs H Z ρ σ F R w=>by
 unfold gG at w;refine ha As H Z ρ σ F _ ?_;cases e:a ρ with
 |ok t=>
  rw[e]at w;intro v H1 Z1 B p;simp only[Res.bind]at w;cases t with
  |lst o ts=>
   simp only[rP]at w;split at w
   . next hn=>
     rw[G1]at hn;cases o with
     |true=>exact B0 hn.1 W1
     |false=>have q:=p.rep;simp only[Rep]at q;obtain⟨b,vs,rfl,rfl,hs,r⟩:=q;exact .inl ⟨b,rfl,.inl ⟨⟨vs,hs.sq⟩,w _ H1 Z1 p.mo (.inl ⟨b,vs,rfl,by rw[E6 rfl];exact hs,r⟩)⟩⟩
   . exact w.elim
  |tup ts=>
   simp only[rP]at w;split at w
   . next hn=>
     have q:=p.rep;simp only[Rep]at q;obtain⟨b,vs,rfl,hs,r⟩:=q;exact .inl ⟨b,rfl,.inr ⟨⟨vs,hs⟩,w _ H1 Z1 p.mo (.inr (.inl ⟨b,vs,rfl,hs,r.bareE hn⟩))⟩⟩
   . exact w.elim
  |str z=>have q:=p.rep;simp only[Rep]at q;obtain⟨rfl,_⟩:=q;exact .inr ⟨z,rfl,w _ H1 Z1 p.mo (.inr (.inr (.inr (.inl ⟨z,rfl,rfl⟩))))⟩
  |_=>exact w.elim
 |ex x=>rw[e]at w;exact w
 |no=>rw[e]at w;exact w
def ac6(fz:Bool):T->Option (List T)
 |.lst o ts=>if((!fz||!o)&&aW ts)=true then some ts else none
 |.tup ts=>if aW ts=true then some ts else none
 |_=>none
def bg0(fz:Bool):List T->Res (List T)
 |[t,u]=>match ac6 fz t,ac6 fz u with
  |some ts,some us=>.ok (kL ts us)
  |_,_=>.no
 |_=>.no
def ch4(fz:Bool):List T->Res (List T)
 |[.lst o ts]=>if((!fz||!o)&&aW ts)=true then .ok (ax4 ts)else .no
 |_=>.no
theorem cv1(r:Rep K cn H Z (.lst o ts) v A)(hc:((!fz||!o)&&aW ts)=true):∃l vs,v=.ref l/\SqF fz false K H Z l vs/\Reps K cn H Z ts vs []:=by
 rw[G1]at hc;cases o with
 |true=>
  simp only[Rep]at r;obtain⟨a,vs,B,rfl,rfl,e,r⟩:=r;cases fz with
  |true=>simp at hc
  |false=>exact⟨a,vs,rfl,SqL.of e,r.bareE hc.2⟩
 |false=>
  simp only[Rep]at r;obtain⟨a,vs,rfl,rfl,e,r⟩:=r;cases fz with
  |true=>exact⟨a,vs,rfl,e,r⟩
  |false=>exact⟨a,vs,rfl,e.sq,r⟩
theorem cw0(r:Rep K cn H Z t v A)(h:ac6 fz t=some ts):∃k l vs,v=.ref l/\SqF fz k K H Z l vs/\Reps K cn H Z ts vs []:=by
 cases t with
 |lst o us=>
  simp only[ac6]at h;split at h
  . next hc=>
    cases h;exact⟨false,cv1 r hc⟩
  . cases h
 |tup us=>
  simp only[ac6]at h;split at h
  . next hc=>
    cases h;simp only[Rep]at r;obtain⟨a,vs,rfl,e,r⟩:=r;exact⟨true,a,vs,rfl,e,r.bareE hc⟩
  . cases h
 |_=>simp[ac6]at h
theorem em3(ha:RAB Jn K cn E ta a):RI Jn K cn E fz (dy0 K ta) (gQ (bg0 fz) a):=λAs H Z ρ σ F R w=>by
 unfold gQ at w;refine ha As H Z ρ σ F _ ?_;cases e:a ρ with
 |ok ts=>
  rw[e]at w;intro vs H1 Z1 B m r1;simp only[Res.bind]at w;unfold bg0 at w;split at w
  . next t u=>
    split at w
    . next p q h1 h2=>
      simp only[Reps]at r1;obtain⟨v,r',B1,C1,rfl,rfl,ra,v2,r2,B2,C2,rfl,rfl,rb,rfl,rfl⟩:=r1;obtain⟨k1,l1,us,rfl,s1,p1⟩:=cw0 ra h1;obtain⟨k2,l2,us',rfl,s2,p2⟩:=cw0 rb h2;exact⟨k1,k2,l1,l2,rfl,⟨_,s1.sq⟩,⟨_,s2.sq⟩,w _ H1 Z1 m (.inr (.inr (.inr (.inr (.inl ⟨k1,k2,l1,l2,us,us',_,_,rfl,s1,s2,p1,p2,rfl⟩)))))⟩
    . exact w.elim
  . exact w.elim
 |ex x=>rw[e]at w;exact w
 |no=>rw[e]at w;exact w
theorem dq7(ha:RAB Jn K cn E ta a):RI Jn K cn E fz (cy3 K ta) (gQ (ch4 fz) a):=λAs H Z ρ σ F R w=>by
 unfold gQ at w;refine ha As H Z ρ σ F _ ?_;cases e:a ρ with
 |ok ts=>
  rw[e]at w;intro vs H1 Z1 B m r1;simp only[Res.bind]at w;unfold ch4 at w;split at w
  . next o ts=>
    split at w
    . next hc=>
      simp only[Reps]at r1;obtain⟨v,r',B1,C1,rfl,rfl,ra,rfl,rfl⟩:=r1;obtain⟨l1,us,rfl,s1,p1⟩:=cv1 (fz:=fz) ra hc;exact⟨l1,rfl,⟨_,s1.sq⟩,w _ H1 Z1 m (.inr (.inr (.inr (.inr (.inr ⟨l1,us,_,rfl,s1,p1,rfl⟩)))))⟩
    . exact w.elim
  . exact w.elim
 |ex x=>rw[e]at w;exact w
 |no=>rw[e]at w;exact w
def RG(Jn:iP)(K:A1)(cn:Str->Option Addr)(ks:List Nat)(g:TG)(b:T->Fr->Option Fr):Prop:=
 ∀As H Z ρ σ t v B,Frm Jn K cn H Z ρ σ As->Rep K cn H Z t v B->B.Nodup->(∀x∈B,¬Z x)->(∀x∈B,x∉As.flatten)->∀(Q:St->Hp->Prop) ρ',b t ρ=some ρ'->
  (∀σ' As',Frm Jn K cn H Z ρ' σ' As'->(∀a∈As'.flatten,a∈As.flatten\/a∈B)->σ'.length=σ.length->(∀i,i∉ks->σ'[i]?=σ[i]?)->Q σ' H)->g v σ H Q
structure RGs (Jn:iP) (K:A1) (cn:Str->Option Addr) (ks:List Nat) (n:Nat) (g:TGs) (b:List T->Fr->Option Fr):Prop where
 len:∀ts ρ ρ',b ts ρ=some ρ'->ts.length=n
 run:∀As H Z ρ σ ts vs B,Frm Jn K cn H Z ρ σ As->Reps K cn H Z ts vs B->B.Nodup->(∀x∈B,¬Z x)->(∀x∈B,x∉As.flatten)->∀(Q:St->Hp->Prop) ρ',b ts ρ=some ρ'->
  (∀σ' As',Frm Jn K cn H Z ρ' σ' As'->(∀a∈As'.flatten,a∈As.flatten\/a∈B)->σ'.length=σ.length->(∀i,i∉ks->σ'[i]?=σ[i]?)->Q σ' H)->g vs σ H Q
def aH(i:Nat):T->Fr->Option Fr:=λt ρ=>some (ρ.set i (some t))
def eZ:List T->Fr->Option Fr
 |[],ρ=>some ρ
 |_::_,_=>none
def bC(b:T->Fr->Option Fr)(bs:List T->Fr->Option Fr):List T->Fr->Option Fr
 |[],_=>none
 |t::ts,ρ=>match b t ρ with
  |some ρ1=>bs ts ρ1
  |none=>none
def eW(bs:List T->Fr->Option Fr):T->Fr->Option Fr
 |.tup ts,ρ=>bs ts ρ
 |_,_=>none
def cf2(i:Nat)(hJ:qM Jn i=true:=by rfl):RG Jn K cn [i] (yH i) (aH i):=λAs H Z ρ σ t v B F r nd bz bo Q ρ' e h=>by cases e;refine h _ (As.set i B) (F.set r nd bz i (λb hb hA=>B0 hA (bo b hb)) hJ) (λa ha=>(dM ha).symm) (by rw[O3]) λj hj=>?_;rw[E4 (λz=>hj (by rw[z];exact A7))]
def dm9:RGs Jn K cn [] 0 du1 eZ where
 len:=λts ρ ρ' e=>by
  cases ts with
  |nil=>rfl
  |cons _ _=>cases e
 run:=λAs H Z ρ σ ts vs B F r nd bz bo Q ρ' e h=>by
  cases ts with
  |nil=>cases e;simp only[Reps]at r;exact⟨r.1,h σ As F (λa ha=>.inl ha) rfl λ_ _=>rfl⟩
  |cons _ _=>cases e
def dq0(h1:RG Jn K cn ks g b)(h2:RGs Jn K cn ls n gs bs):RGs Jn K cn (ks++ls) (n+1) (av8 g gs) (bC b bs) where
 len:=λts ρ ρ' e=>by
  cases ts with
  |nil=>cases e
  |cons t ts=>
   simp only[bC]at e;cases e1:b t ρ with
   |none=>rw[e1]at e;cases e
   |some ρ1=>rw[e1]at e;rw[D8,h2.len ts ρ1 ρ' e]
 run:=λAs H Z ρ σ ts vs B F r nd bz bo Q ρ' e h=>by
  cases ts with
  |nil=>cases e
  |cons t ts=>
   simp only[bC]at e;cases e1:b t ρ with
   |none=>rw[e1]at e;cases e
   |some ρ1=>
    rw[e1]at e;simp only[Reps]at r;obtain⟨v,vs',B1,B2,rfl,rfl,r1,r2⟩:=r;rw[C9]at nd;refine⟨v,vs',rfl,h1 As H Z ρ σ t v B1 F r1 nd.1 (λx hx=>bz x (D7 _ hx)) (λx hx=>bo x (D7 _ hx)) _ ρ1 e1 λσ1 As1 F1 o1 l1 k1=>?_⟩;refine h2.run As1 H Z ρ1 σ1 ts vs' B2 F1 r2 nd.2.1 (λx hx=>bz x (B6 _ hx)) (λx hx hA=>?_) Q ρ' e λσ2 As2 F2 o2 l2 k2=>?_
    . rcases o1 x hA with z|z
      . exact bo x (B6 _ hx) z
      . exact nd.2.2 x z x hx rfl
    . refine h σ2 As2 F2 (λa ha=>?_) (l2.trans l1) λi hi=>?_
      . rcases o2 a ha with z|z
        . exact(o1 a z).imp_right (D7 _)
        . exact .inr (B6 _ z)
      . rw[k2 i (λz=>hi (B6 _ z)),k1 i (λz=>hi (D7 _ z))]
theorem em0(h:RGs Jn K cn ks n gs bs):RG Jn K cn ks (cz3 K n gs) (eW bs):=λAs H Z ρ σ t v B F r nd bz bo Q ρ' e h'=>by
 cases t with
 |tup ts=>simp only[eW]at e;simp only[Rep]at r;obtain⟨a,vs,rfl,hs,r⟩:=r;exact⟨a,vs,rfl,hs,by rw[Reps.length ts r];exact h.len ts ρ ρ' e,h.run As H Z ρ σ ts vs B F r nd bz bo Q ρ' e h'⟩
 |_=>cases e
def bY(b:T->Fr->Option Fr)(c:Fr->Res Bool)(d:Fr->Res T)(ρ:Fr):List T->Res (List T)
 |[]=>.ok []
 |t::ts=>match b t ρ with
  |none=>.no
  |some ρ1=>(c ρ1).bind λk=>if k=true then(d ρ1).bind λu=>(bY b c d ρ ts).bind λus=>.ok (u::us)else bY b c d ρ ts
def dF(ks:List Nat)(di:Fr->Res (List T))(b:T->Fr->Option Fr)(c:Fr->Res Bool)(d:Fr->Res T):Fr->Res T:=λρ=>
 (di ρ).bind λts=>if ts.length<=sizeLine then(bY b c d (kills ks ρ) ts).bind λus=>.ok (.lst true us)else .no
def cG:Fr->Res Bool:=λ_=>.ok true
def ep1:RT Jn K cn E eo1 cG:=λAs H Z ρ σ F Q w=>w H Z F.mo0.postT
theorem Slots.clr(ks:List Nat):∀{ρ:Fr}{σ:St}{As:List (List Addr)},Slots K cn H Z ρ σ As->Slots K cn H Z (kills ks ρ) (L2.clr ks σ) (gB ks As):=by
 induction ks with
 |nil=>exact λh=>h
 |cons k ks ih=>exact λh=>ih (h.kill2 none k)
def ab0(Jn:iP)(ks:List Nat):Bool:=ks.all (qM Jn)
theorem ap7:∀(ks:List Nat){σ:St},ab0 Jn ks=true->(∀p∈Jn,σ[p.1]?=some (some p.2))->∀p∈Jn,(L2.clr ks σ)[p.1]?=some (some p.2)
 |[],_,_,q=>q
 |k::ks,σ,h,q=>by unfold ab0 at h;rw[S3,G1]at h;exact ap7 ks h.2 (ah4 h.1 none q)
theorem Frm.clr(ks:List Nat)(F:Frm Jn K cn H Z ρ σ As)(hk:ab0 Jn ks=true):Frm Jn K cn H Z (TL.kills ks ρ) (L2.clr ks σ) (gB ks As):=
 ⟨F.sl.clr ks,(F.kills ks).nd,(F.kills ks).nz,F.zi,ap7 ks hk F.pn⟩
def dj7(hg:RG Jn K cn ks g b)(hc:RT Jn K cn E tc c)(he:RE Jn K cn E [] te d)(hk:ab0 Jn ks=true)
 (F:Frm Jn K cn H Z ρ σ As)(hs:Src K cn false H Z J ts)(hl:ts.length<=sizeLine)
 (w:WpE K cn E As H Z [] Q ((bY b c d (kills ks ρ) ts).bind λus=>.ok (.lst true us))):CGo ks g tc te σ (λD H'=>Q (.ref D) H') J H:=by
 let R (us:List T) (rest:List T):Res T:=(bY b c d (kills ks ρ) rest).bind λus'=>.ok (.lst true (us++us'));refine⟨λi m ys H'=>m=ts.length-i/\i<=ts.length/\∃us Z' B,Mo H Z H' Z'/\Reps K cn H' Z' us ys B/\B.Nodup/\(∀x∈B,¬Z' x/\H x=none)/\us.length<=i/\WpE K cn E As H Z [] Q (R us (ts.drop i)),⟨ts.length,W0,L7 _,[],Z,[],F.mo0,Reps.nil,G4,dZ,D6 _,?_⟩,?_⟩
 . simpa[R]using w
 rintro i m ys H1 ⟨rfl,hi,us,Z1,B,m1,r1,nd,bz,hul,w⟩;have hyl:=Reps.length us r1;have s1:=hs.mo m1;by_cases hlt:i<ts.length
 . obtain⟨t,et⟩:∃t,ts[i]?=some t:=⟨ts[i],A2 hlt⟩;obtain⟨go,yl⟩:=s1.turn m1.zi et;have ed:ts.drop i=t::ts.drop (i+1):=by have:=C7.mp et;obtain⟨h1,h2⟩:=this;rw[<-h2];exact List.drop_eq_getElem_cons hlt
   refine .inr ⟨go,V8,_,λys' H' p'=>⟨ts.length-(i+1),V8,p'⟩,λx H' y=>?_⟩;obtain⟨my,rx⟩:=yl x H' y;have r1:=r1.same my.same my.zz;have m1:=m1.trans my;have F1:=(F.mo m1).clr ks hk;rw[ed]at w;simp only[R,bY]at w;cases eb:b t (kills ks ρ)with
   |none=>rw[eb]at w;exact w.elim
   |some ρ1=>
    rw[eb]at w;simp only at w;refine hg (gB ks As) H' Z1 (kills ks ρ) (L2.clr ks σ) t x [] F1 rx G4 (dZ) (dZ) _ ρ1 eb λσ2 As2 F2 o2 l2 k2=>⟨⟨?_,λj v hj=>?_⟩,?_⟩
    . rw[l2,tS]
    . have:=(bg1 ks σ hj).2;rw[k2 j this,hj]
    refine hc As2 H' Z1 ρ1 σ2 F2 _ ?_;have toX:∀{x:Exc}{H2:Hp}{Z2:Addr->Prop},Mo H' Z1 H2 Z2->WpX K cn E As H Z x->WpX K cn E As2 H2 Z2 x:=by
     intro x H2 Z2 m2 h;refine h.ev (m1.trans m2).ev|>.ev ⟨λ_ _ q _=>q,λa ha=>?_,λ_ q=>q,λ_ q=>.inl q,λ_ q=>q⟩
     rcases o2 a ha with z|z
     . exact .inl (gA z)
     . cases z
    cases ec:c ρ1 with
    |ok k=>
     rw[ec]at w;intro H2 Z2 p2;simp only[Res.bind]at w;cases k with
     |true=>
      rw[E6 rfl]at w;rw[E6 rfl];refine he As2 H2 Z2 ρ1 σ2 (F2.mo p2.mo) _ ?_;cases ee:d ρ1 with
      |ok u=>
       rw[ee]at w;intro v H3 Z3 C p3;have m3:=(m1.trans p2.mo).trans p3.mo;have bnC:∀y∈C,H2 y=none:=λy hy=>(p3.bn y hy).resolve_right (λ⟨i,hi,_⟩=>by cases hi);refine⟨rfl,hlt,us++[u],Z3,B++C,m3,Reps.append us (r1.same (p2.same.trans p3.same) (λa h=>p3.zz a (p2.zz a h))) (Reps.one p3.rep),?_,?_,by simp;omega,?_⟩
       . rw[C9];refine⟨nd,p3.nd,λx hx y hy e=>?_⟩;subst e;obtain⟨o,ho,_⟩:=Reps.dom us r1 x hx;have:=bnC x hy;rw[p2.same x o ho]at this;cases this
       . intro x hx;rcases A3.mp hx with hx|hx
         . refine⟨λz=>?_,(bz x hx).2⟩;obtain⟨o,ho,_⟩:=Reps.dom us r1 x hx;rcases(p2.mo.trans p3.mo).zn x z with z|z
           . exact(bz x hx).1 z
           . rw[ho]at z;cases z
         . exact⟨p3.bz x hx,(m1.trans p2.mo).same.free (bnC x hx)⟩
       . simp only[R];have:∀r:Res (List T),((r.bind λus'=>Res.ok (u::us')).bind λus'=>Res.ok (T.lst true (us++us')))=r.bind λus'=>Res.ok (T.lst true (us++[u]++us')):=by intro r;cases r<;>simp[Res.bind]
         simp only at w;rw[<-this];exact w
      |ex x=>rw[ee]at w;exact toX p2.mo w
      |no=>rw[ee]at w;exact w.elim
     |false=>
      rw[E5 W1]at w;rw[E5 W1];refine⟨rfl,hlt,us,Z2,B,m1.trans p2.mo,r1.same p2.same p2.zz,nd,λx hx=>⟨λz=>?_,(bz x hx).2⟩,V8,w⟩;obtain⟨o,ho,_⟩:=Reps.dom us r1 x hx;rcases p2.zn x z with z|z
      . exact(bz x hx).1 z
      . rw[ho]at z;cases z
    |ex x=>rw[ec]at w;exact toX ⟨Same.refl _,λ_ h=>h,λ_ h=>.inl h,m1.zi⟩ w
    |no=>rw[ec]at w;exact w.elim
 . have ei:i=ts.length:=V8
   subst ei;refine .inl ⟨s1.stop (D6 _),λD hD=>?_⟩;rw[List.drop_length]at w;simp only[R,bY,Res.bind,List.append_nil]at w;have hm:=m1.trans (Mo.new (.lst ys) hD m1.zi);refine w (.ref D) _ Z1 (D::B) ⟨hm.same,hm.zz,hm.zn,hm.zi,?_,?_,?_,?_⟩
   . simp only[Rep];exact⟨D,ys,B,rfl,rfl,fR,r1.same (bb7 hD _) (λ_ h=>h)⟩
   . refine E9.mpr ⟨λhb=>?_,nd⟩;obtain⟨o,ho,_⟩:=Reps.dom us r1 D hb;rw[ho]at hD;cases hD
   . intro x hx;rcases B9.mp hx with rfl|hx
     . exact λz=>m1.zi _ z hD
     . exact(bz x hx).1
   . intro x hx;rcases B9.mp hx with rfl|hx
     . exact .inl (m1.same.free hD)
     . exact .inl (bz x hx).2
theorem cn1(hi:RI Jn K cn E false wi di)(hg:RG Jn K cn ks g b)(hc:RT Jn K cn E tc c)(he:RE Jn K cn E [] te d)(hk:ab0 Jn ks=true:=by rfl):
 RE Jn K cn E [] (cr3 ks wi g tc te) (dF ks di b c d):=λAs H Z ρ σ F Q w=>by
 unfold dF at w;refine hi As H Z ρ σ F _ ?_;cases e:di ρ with
 |ok ts=>
  rw[e]at w;intro J H1 Z1 m s;simp only[Res.bind]at w;split at w
  . next hl=>exact dj7 hg hc he hk (F.mo m) s hl (WpE.mo F w m)
  . exact w.elim
 |ex x=>rw[e]at w;exact w
 |no=>rw[e]at w;exact w
def aM(a b:Fr->bO):Fr->bO:=λρ=>match a ρ with
 |.nx ρ'=>b ρ'
 |o=>o
def bJ:Fr->bO:=λρ=>.nx ρ
def dg7:RS Jn K cn E de5 bJ:=λAs H Z ρ σ F D w=>w σ As H Z F Ev.refl
theorem ek3(ha:RS Jn K cn E t a)(hb:RS Jn K cn E u b):RS Jn K cn E (er2 t u) (aM a b):=λAs H Z ρ σ F D w=>by
 unfold aM at w;refine ha As H Z ρ σ F _ ?_;cases e:a ρ with
 |nx ρ'=>rw[e]at w;exact λσ' As' H' Z' F' ev=>hb As' H' Z' ρ' σ' F' D (Wp.ev w ev)
 |bk ρ'=>rw[e]at w;exact w
 |ct ρ'=>rw[e]at w;exact w
 |rt t=>rw[e]at w;exact w
 |rm ρ' t=>rw[e]at w;exact w
 |ex x=>rw[e]at w;exact w
 |no=>rw[e]at w;exact w
theorem RS.frz{t:TS}{a:Fr->bO}(i:Nat)(h:RS Jn K cn E t a):RS Jn K cn E t (λρ=>a (yZ i ρ)):=λAs H Z ρ σ F D w=>by obtain⟨Z',As',F',ev⟩:=F.frz i;exact h As' H Z' _ σ F' D (Wp.ev w ev)
def aY(mv:List Nat)(d:Fr->Res T)(b:T->Fr->Option Fr):Fr->bO:=λρ=>match d ρ with
 |.ok t=>match b t (kills mv ρ)with
  |some ρ'=>.nx ρ'
  |none=>.no
 |.ex x=>.ex x
 |.no=>.no
def Post.out(F:Frm Jn K cn H Z ρ σ As)(p:Post K cn As H Z mv H' Z' t v B):∀x∈B,x∉(gB mv As).flatten:=λx hx hA=>by
 rcases p.bn x hx with z|⟨i,hi,z⟩
 . obtain⟨o,ho,_⟩:=F.sl.dom x (gA hA);rw[ho]at z;cases z
 . exact rS F.nd hi z hA
def Post.inA(p:Post K cn As H Z mv H' Z' t v B):∀x∈B,x∈As.flatten\/H x=none:=λx hx=>by
 rcases p.bn x hx with z|⟨i,hi,z⟩
 . exact .inr z
 . exact .inl (bA z)
theorem ct6(he:RE Jn K cn E mv te d)(hg:RG Jn K cn ks g b):RS Jn K cn E (be0 te g) (aY mv d b):=λAs H Z ρ σ F D w=>by
 unfold aY at w;refine he As H Z ρ σ F _ ?_;cases e:d ρ with
 |ok t=>
  rw[e]at w;intro v H1 Z1 B p;simp only at w;cases eb:b t (kills mv ρ)with
  |none=>rw[eb]at w;exact w.elim
  |some ρ'=>
   rw[eb]at w;refine hg (gB mv As) H1 Z1 (kills mv ρ) σ t v B ((F.mo p.mo).kills mv) p.rep p.nd p.bz (p.out F) _ ρ' eb λσ' As' F' o' _ _=>?_;refine w σ' As' H1 Z1 F' ⟨λa o h _=>p.same a o h,λa ha=>?_,p.zz,λa h=>(p.zn a h).imp_right .inr,λa h=>p.same.free h⟩;rcases o' a ha with z|z
   . exact .inl (gA z)
   . exact p.inA a z
 |ex x=>rw[e]at w;exact w
 |no=>rw[e]at w;exact w
def cn3(hi:RI Jn K cn E false wi di)(hg:RG Jn K cn ks g b)(hc:RT Jn K cn E tc c)(he:RE Jn K cn E [] te d)(hk:ab0 Jn ks=true:=by rfl)(hJ:qM Jn k=true:=by rfl):
 RS Jn K cn E (aq6 k ks wi g tc te) (aY [] (dF ks di b c d) (aH k)):=λAs H Z ρ σ F D w=>
 ct6 (cn1 hi hg hc he hk) (cf2 k hJ) As H Z ρ σ F D w
def bE(mv:List Nat)(d:Fr->Res T):Fr->bO:=λρ=>match d ρ with
 |.ok t=>.rt t
 |.ex x=>.ex x
 |.no=>.no
theorem eh2(he:RE Jn K cn E mv te d):RS Jn K cn E (da3 te) (bE mv d):=λAs H Z ρ σ F D w=>by
 unfold bE at w;refine he As H Z ρ σ F _ ?_;cases e:d ρ with
 |ok t=>rw[e]at w;intro v H1 Z1 B p;refine w v H1 Z1 B ⟨⟨λa o h _=>p.same a o h,λa ha=>?_,p.zz,λa h=>(p.zn a h).imp_right .inr,λa h=>p.same.free h⟩,p.rep,p.nd,p.bz,p.zi⟩;rw[C4,List.flatten_nil,K3]at ha;exact p.inA a ha
 |ex x=>rw[e]at w;exact w
 |no=>rw[e]at w;exact w
def cF(c:Fr->Res Bool)(a b:Fr->bO):Fr->bO:=λρ=>match c ρ with
 |.ok k=>if k=true then a ρ else b ρ
 |.ex x=>.ex x
 |.no=>.no
theorem ek9(hc:RT Jn K cn E tt c)(ha:RS Jn K cn E t a)(hb:RS Jn K cn E u b):RS Jn K cn E (eq1 tt t u) (cF c a b):=λAs H Z ρ σ F D w=>by
 unfold cF at w;refine hc As H Z ρ σ F _ ?_;cases e:c ρ with
 |ok k=>
  rw[e]at w;intro H1 Z1 p;simp only at w;split
  . next h=>rw[E6 h]at w;exact ha As H1 Z1 ρ σ (F.mo p.mo) D (Wp.ev w p.mo.ev)
  . next h=>rw[E5 h]at w;exact hb As H1 Z1 ρ σ (F.mo p.mo) D (Wp.ev w p.mo.ev)
 |ex x=>rw[e]at w;exact w
 |no=>rw[e]at w;exact w
def ey8(d:Fr->Res T):Fr->bO:=λρ=>match d ρ with
 |.ok _=>.nx ρ
 |.ex x=>.ex x
 |.no=>.no
def ez3:Fr->bO:=λρ=>.bk ρ
def el9:Fr->bO:=λρ=>.ct ρ
def cR(b:T->Fr->Option Fr)(body:Fr->bO):List T->Fr->bO
 |[],ρ=>.nx ρ
 |t::ts,ρ=>match b t ρ with
  |none=>.no
  |some ρ1=>match body ρ1 with
   |.nx ρ2=>cR b body ts ρ2
   |.ct ρ2=>cR b body ts ρ2
   |.bk ρ2=>.nx ρ2
   |o=>o
def hV(di:Fr->Res (List T))(b:T->Fr->Option Fr)(body:Fr->bO):Fr->bO:=λρ=>match di ρ with
 |.ok ts=>cR b body ts ρ
 |.ex x=>.ex x
 |.no=>.no
theorem ed4(hi:RI Jn K cn E true wi di)(hg:RG Jn K cn ks g b)(hb:RS Jn K cn E tb body):RS Jn K cn E (dr2 wi g tb) (hV di b body):=λAs H Z ρ σ F D w=>by
 unfold hV at w;refine hi As H Z ρ σ F _ ?_;cases e:di ρ with
 |ok ts=>
  rw[e]at w;intro J H1 Z1 m s;refine⟨λi k σ' H'=>k=ts.length-i/\i<=ts.length/\∃ρ' Z' As',Frm Jn K cn H' Z' ρ' σ' As'/\Src K cn true H' Z' J ts/\Wp Jn K cn E As' H' Z' D (cR b body (ts.drop i) ρ'),⟨ts.length,W0,L7 _,ρ,Z1,As,F.mo m,s,Wp.ev w m.ev⟩,?_⟩;rintro i k σ1 H2 ⟨rfl,hle,ρ1,Z2,As1,F1,s1,w1⟩;by_cases hlt:i<ts.length
  . obtain⟨t,et⟩:∃t,ts[i]?=some t:=⟨ts[i],A2 hlt⟩;obtain⟨go,yl⟩:=s1.turn F1.zi et;have ed:ts.drop i=t::ts.drop (i+1):=by obtain⟨h1,h2⟩:=C7.mp et;rw[<-h2];exact List.drop_eq_getElem_cons hlt
    refine .inr ⟨go,_,λσ' H' p'=>⟨ts.length-(i+1),V8,p'⟩,λx H' y=>?_⟩;obtain⟨my,rx⟩:=yl x H' y;have F1:=F1.mo my;have s1:=s1.mo my;have w1:=Wp.ev w1 (my.ev (As:=As1));rw[ed]at w1;simp only[cR]at w1;cases eb:b t ρ1 with
    |none=>rw[eb]at w1;exact w1.elim
    |some ρ2=>
     rw[eb]at w1;simp only at w1;refine hg As1 H' Z2 ρ1 σ1 t x [] F1 rx G4 (dZ) (dZ) _ ρ2 eb λσ2 As2 F2 o2 _ _=>?_;have ev2:Ev As1 H' Z2 As2 H' Z2:=⟨λ_ _ q _=>q,λa ha=>.inl ((o2 a ha).resolve_right ((λz=>nomatch z))),λ_ q=>q,λ_ q=>.inl q,λ_ q=>q⟩;refine hb As2 H' Z2 ρ2 σ2 F2 _ ?_;have w2:=Wp.ev w1 ev2;cases eo:body ρ2 with
     |nx ρ3=>rw[eo]at w2;exact λσ' As' H'' Z' F' ev=>⟨rfl,hlt,ρ3,Z',As',F',(s1.ev F1 ev2).ev F2 ev,Wp.ev w2 ev⟩
     |ct ρ3=>rw[eo]at w2;exact λσ' As' H'' Z' F' ev=>⟨rfl,hlt,ρ3,Z',As',F',(s1.ev F1 ev2).ev F2 ev,Wp.ev w2 ev⟩
     |bk ρ3=>rw[eo]at w2;exact w2
     |rt t=>rw[eo]at w2;exact w2
     |rm ρ3 t=>rw[eo]at w2;exact w2
     |ex x=>rw[eo]at w2;exact w2
     |no=>rw[eo]at w2;exact w2
  . have ei:i=ts.length:=V8
    subst ei;rw[List.drop_length]at w1;exact .inl ⟨s1.stop (D6 _),w1 σ1 As1 H2 Z2 F1 Ev.refl⟩
 |ex x=>rw[e]at w;exact w
 |no=>rw[e]at w;exact w
def sR(c:Fr->Res Bool)(body:Fr->bO):Nat->Fr->bO
 |0,_=>.no
 |n+1,ρ=>match c ρ with
  |.ok k=>if k=true then match body ρ with
   |.nx ρ2=>sR c body n ρ2
   |.ct ρ2=>sR c body n ρ2
   |.bk ρ2=>.nx ρ2
   |o=>o
   else .nx ρ
  |.ex x=>.ex x
  |.no=>.no
def cw1:∃n:Nat,10^12<=n:=⟨_,D6 _⟩
noncomputable def yW:Nat:=Classical.choose cw1
def dx6:10^12<=yW:=Classical.choose_spec cw1
noncomputable def ac4(c:Fr->Res Bool)(body:Fr->bO):Fr->bO:=sR c body yW
theorem dj3(hc:RT Jn K cn E tc c)(hb:RS Jn K cn E tb body):RS Jn K cn E (ct5 tc tb) (ac4 c body):=λAs H Z ρ σ F D w=>by
 unfold ac4 at w;refine⟨λn σ' H'=>∃ρ' Z' As',Frm Jn K cn H' Z' ρ' σ' As'/\Wp Jn K cn E As' H' Z' D (sR c body n ρ'),⟨yW,ρ,Z,As,F,w⟩,?_⟩;rintro n σ1 H1 ⟨ρ1,Z1,As1,F1,w1⟩;cases n with
 |zero=>exact w1.elim
 |succ n=>
  refine hc As1 H1 Z1 ρ1 σ1 F1 _ ?_;simp only[sR]at w1;cases ec:c ρ1 with
  |ok k=>
   rw[ec]at w1;intro H2 Z2 p2;simp only at w1;cases k with
   |true=>
    rw[E6 rfl]at w1;rw[E6 rfl];refine⟨λσ' H'=>∃ρ' Z' As',Frm Jn K cn H' Z' ρ' σ' As'/\Wp Jn K cn E As' H' Z' D (sR c body n ρ'),λσ' H' p'=>⟨n,Q6 _,p'⟩,?_⟩;refine hb As1 H2 Z2 ρ1 σ1 (F1.mo p2.mo) _ ?_;have w2:=Wp.ev w1 p2.mo.ev;cases eo:body ρ1 with
    |nx ρ3=>rw[eo]at w2;exact λσ' As' H'' Z' F' ev=>⟨ρ3,Z',As',F',Wp.ev w2 ev⟩
    |ct ρ3=>rw[eo]at w2;exact λσ' As' H'' Z' F' ev=>⟨ρ3,Z',As',F',Wp.ev w2 ev⟩
    |bk ρ3=>rw[eo]at w2;exact w2
    |rt t=>rw[eo]at w2;exact w2
    |rm ρ3 t=>rw[eo]at w2;exact w2
    |ex x=>rw[eo]at w2;exact w2
    |no=>rw[eo]at w2;exact w2
   |false=>rw[E5 W1]at w1;rw[E5 W1];exact w1 σ1 As1 H2 Z2 (F1.mo p2.mo) p2.mo.ev
  |ex x=>rw[ec]at w1;exact w1
  |no=>rw[ec]at w1;exact w1
end
open L2
section
variable{Jn:iP}{K:A1}{cn:Str->Option Addr}{E:XK}
def jJ(t':T):List Nat->T->Option T
 |[],_=>some t'
 |k::p,.lst o ts=>match ts[k]? with
  |some t=>(jJ t' p t).map λu=>.lst o (ts.set k u)
  |none=>none
 |k::p,.tup ts=>match ts[k]? with
  |some t=>(jJ t' p t).map λu=>.tup (ts.set k u)
  |none=>none
 |k::p,.ins o c ns ts=>match ts[k]? with
  |some t=>(jJ t' p t).map λu=>.ins o c ns (ts.set k u)
  |none=>none
 |_::_,_=>none
structure Plug (K:A1) (cn:Str->Option Addr) (H:Hp) (Z:Addr->Prop) (t0:T) (v0:V) (A0:List Addr) (p:List Nat) (u:T) (v:V) (B:List Addr):Prop where
 rep:Rep K cn H Z u v B
 sub:B.Sublist A0
 plug:∀H' Z' u' B',(∀a,Z a->Z' a)->(∀b o,H b=some o->((b∈A0/\b∉B)\/Z b\/sZ o=true)->H' b=some o)->Rep K cn H' Z' u' v B'->B'.Nodup->(∀x∈B',x∈A0->x∈B)->
  ∃t' A',jJ u' p t0=some t'/\Rep K cn H' Z' t' v0 A'/\A'.Nodup/\∀x∈A',(x∈A0/\x∉B)\/x∈B'
def Plug.mo(h:Plug K cn H Z t0 v0 A0 p u v B)(s:Same H H1)(zz:∀a,Z a->Z1 a):Plug K cn H1 Z1 t0 v0 A0 p u v B:=
 ⟨h.rep.same s zz,h.sub,λH' Z' u' B' z k=>h.plug H' Z' u' B' (λa q=>z a (zz a q)) λb o q c=>k b o (s b o q) (by
  rcases c with c|c|c
  . exact .inl c
  . exact .inr (.inl (zz b c))
  . exact .inr (.inr c))⟩
def Plug.root(h:Rep K cn H Z t0 v0 A0):Plug K cn H Z t0 v0 A0 [] t0 v0 A0:=
 ⟨h,List.Sublist.refl _,λH' Z' u' B' z k r nd _=>⟨u',B',rfl,r,nd,λx hx=>.inr hx⟩⟩
theorem Reps.splice:∀(ts:List T){vs:List V}{A:List Addr}{k:Nat}{t:T},Reps K cn H Z ts vs A->ts[k]?=some t->∃v B1 B B2,vs[k]?=some v/\A=B1++B++B2/\Rep K cn H Z t v B/\
 ∀H' Z' t' B',(∀a,Z a->Z' a)->(∀b o,H b=some o->(b∈B1\/b∈B2\/Z b\/sZ o=true)->H' b=some o)->Rep K cn H' Z' t' v B'->Reps K cn H' Z' (ts.set k t') vs (B1++B'++B2)
 |[],_,_,_,_,h,e=>by simp at e
 |t::ts,vs,A,0,t',h,e=>by simp only[Reps]at h;obtain⟨v,r,B,C,rfl,rfl,h1,h2⟩:=h;simp at e;subst e;refine⟨v,[],B,C,rfl,W0,h1,λH' Z' u B' z k q=>?_⟩;simp only[List.set_cons_zero,Reps];exact⟨v,r,B',C,rfl,W0,q,Reps.keep ts h2 (λb o e c=>k b o e (.inr c)) z⟩
 |t::ts,vs,A,k+1,t',h,e=>by
  simp only[Reps]at h;obtain⟨v,r,B,C,rfl,rfl,h1,h2⟩:=h;obtain⟨v',B1,B',B2,e1,rfl,e3,e4⟩:=Reps.splice ts (k:=k) h2 (by simpa using e);refine⟨v',B++B1,B',B2,by simpa using e1,W0,e3,λH' Z' u C' z kk q=>?_⟩;simp only[List.set_cons_succ,Reps];refine⟨v,r,B,B1++C'++B2,rfl,W0,Rep.keep t h1 (λb o e c=>kk b o e ?_) z,e4 H' Z' u C' z (λb o e c=>kk b o e ?_) q⟩
  . rcases c with c|c
    . exact .inl (D7 _ c)
    . exact .inr (.inr c)
  . rcases c with c|c
    . exact .inl (B6 _ c)
    . exact .inr c
def eX:List Nat->T->Option T
 |[],t=>some t
 |k::p,.lst _ ts=>(ts[k]?).bind (eX p)
 |k::p,.tup ts=>(ts[k]?).bind (eX p)
 |k::p,.ins _ _ _ ts=>(ts[k]?).bind (eX p)
 |_::_,_=>none
theorem wT:∀(p:List Nat)(t0 u:T),eX p t0=some u->jJ t' [k] u=some u2->jJ t' (p++[k]) t0=jJ u2 p t0
 |[],t0,u,h,e=>by cases h;exact e
 |j::p,t0,u,h,e=>by
  cases t0 with
  |lst o ts=>
   simp only[eX]at h;cases q:ts[j]? with
   |none=>rw[q]at h;cases h
   |some t=>rw[q]at h;simp only[List.cons_append,jJ,q];rw[wT p t u h e]
  |tup ts=>
   simp only[eX]at h;cases q:ts[j]? with
   |none=>rw[q]at h;cases h
   |some t=>rw[q]at h;simp only[List.cons_append,jJ,q];rw[wT p t u h e]
  |ins o c ns ts=>
   simp only[eX]at h;cases q:ts[j]? with
   |none=>rw[q]at h;cases h
   |some t=>rw[q]at h;simp only[List.cons_append,jJ,q];rw[wT p t u h e]
  |_=>cases h
theorem sP:∀(p:List Nat)(t0 u u2:T),eX p t0=some u->eX [k] u=some u2->eX (p++[k]) t0=some u2
 |[],t0,u,u2,h,e=>by cases h;exact e
 |j::p,t0,u,u2,h,e=>by
  cases t0 with
  |lst o ts=>
   simp only[eX,List.cons_append]at h⊢;cases q:ts[j]? with
   |none=>rw[q]at h;cases h
   |some t=>rw[q]at h;exact sP p t u u2 h e
  |tup ts=>
   simp only[eX,List.cons_append]at h⊢;cases q:ts[j]? with
   |none=>rw[q]at h;cases h
   |some t=>rw[q]at h;exact sP p t u u2 h e
  |ins o c ns ts=>
   simp only[eX,List.cons_append]at h⊢;cases q:ts[j]? with
   |none=>rw[q]at h;cases h
   |some t=>rw[q]at h;exact sP p t u u2 h e
  |_=>cases h
def qN(u:T)(ts:List T):T:=match u with
 |.lst o _=>.lst o ts
 |.ins o c ns _=>.ins o c ns ts
 |_=>.tup ts
def Plug.step(h:Plug K cn H Z t0 v0 A0 p u v B)(nd:A0.Nodup)(hn:eX p t0=some u)(r:Reps K cn H Z ts vs C)(hC:C.Sublist B)(e:ts[k]?=some u2)
 (hs:∀t',jJ t' [k] u=some (qN u (ts.set k t')))
 (back:∀H' Z' t' C',(∀a,Z a->Z' a)->(∀b o,H b=some o->((b∈B/\b∉C)\/Z b\/sZ o=true)->H' b=some o)->Reps K cn H' Z' (ts.set k t') vs C'->C'.Nodup->(∀x∈C',x∈B->x∈C)->∃B',Rep K cn H' Z' (qN u (ts.set k t')) v B'/\B'.Nodup/\∀x∈B',(x∈B/\x∉C)\/x∈C'):
 ∃w D,vs[k]?=some w/\Plug K cn H Z t0 v0 A0 (p++[k]) u2 w D:=by
 obtain⟨w,B1,D,B2,ew,rfl,rw',put⟩:=Reps.splice ts r e;have ndB:B.Nodup:=nd.sublist h.sub;have ndC:=ndB.sublist hC;have dsub:D.Sublist (B1++D++B2):=(List.sublist_append_right B1 D).trans (V3 _ B2);have hDB:∀x∈D,x∈B:=λx hx=>hC.mem (dsub.mem hx);refine⟨w,D,ew,rw',dsub.trans (hC.trans h.sub),λH' Z' u' D' z kk q ndD hD=>?_⟩;have nd1:=ndC;rw[J4,C9]at nd1;obtain⟨n1,n2,n3⟩:=nd1;rw[C9]at n2;obtain⟨n4,n5,n6⟩:=n2;have inC1:∀x∈B1,x∈B1++D++B2:=λx hx=>D7 _ (D7 _ hx);have inC2:∀x∈B2,x∈B1++D++B2:=λx hx=>B6 _ hx;have o1:∀x∈B1,x∈A0/\x∉D:=λx hx=>⟨h.sub.mem (hC.mem (inC1 x hx)),λhd=>n3 x hx x (D7 _ hd) rfl⟩;have o2:∀x∈B2,x∈A0/\x∉D:=λx hx=>⟨h.sub.mem (hC.mem (inC2 x hx)),λhd=>n6 x hd x hx rfl⟩;have rs:=put H' Z' u' D' z (λb o q c=>kk b o q (by
  rcases c with c|c|c
  . exact .inl (o1 b c)
  . exact .inl (o2 b c)
  . exact .inr c)) q
 have ndN:(B1++D'++B2).Nodup:=by
  rw[J4,C9];refine⟨n1,?_,λx hx y hy e=>?_⟩
  . rw[C9];refine⟨ndD,n5,λx hx y hy e=>?_⟩;subst e;exact(o2 x hy).2 (hD x hx (o2 x hy).1)
  . subst e;rcases A3.mp hy with hy|hy
    . exact(o1 x hx).2 (hD x hy (o1 x hx).1)
    . exact n3 x hx x (B6 _ hy) rfl
 obtain⟨B',rB,ndB',hB'⟩:=back H' Z' u' _ z (λb o q c=>kk b o q (by
  rcases c with⟨c1,c2⟩|c
  . exact .inl ⟨h.sub.mem c1,λhd=>c2 (dsub.mem hd)⟩
  . exact .inr c)) rs ndN (λx hx hb=>by
    rcases A3.mp hx with hx|hx
    . rcases A3.mp hx with hx|hx
      . exact inC1 x hx
      . exact dsub.mem (hD x hx (h.sub.mem hb))
    . exact inC2 x hx)
 obtain⟨t',A',e1,r1,nd',hA'⟩:=h.plug H' Z' _ B' z (λb o q c=>kk b o q (by
  rcases c with⟨c1,c2⟩|c
  . exact .inl ⟨c1,λhd=>c2 (hDB b hd)⟩
  . exact .inr c)) rB ndB' (λx hx ha=>by
    rcases hB' x hx with⟨q,_⟩|q
    . exact q
    . rcases A3.mp q with q|q
      . rcases A3.mp q with q|q
        . exact hC.mem (inC1 x q)
        . exact hDB x (hD x q ha)
      . exact hC.mem (inC2 x q))
 refine⟨t',A',?_,r1,nd',λx hx=>?_⟩
 . rw[wT p t0 u hn (hs u')];exact e1
 . rcases hA' x hx with⟨q1,q2⟩|q
   . exact .inl ⟨q1,λhd=>q2 (hDB x hd)⟩
   . rcases hB' x q with⟨q1,q2⟩|q
     . exact .inl ⟨h.sub.mem q1,λhd=>q2 (dsub.mem hd)⟩
     . rcases A3.mp q with q|q
       . rcases A3.mp q with q|q
         . exact .inl (o1 x q)
         . exact .inr q
       . exact .inl (o2 x q)
def WpP(K:A1)(cn:Str->Option Addr)(E:XK)(As:List (List Addr))(H:Hp)(Z:Addr->Prop)(A0:List Addr)(t0:T)(v0:V)(Q:VK):Res (List Nat)->Prop
 |.ok p=>∀u v B H' Z',Mo H Z H' Z'->eX p t0=some u->Plug K cn H' Z' t0 v0 A0 p u v B->Q v H'
 |.ex x=>WpX K cn E As H Z x
 |.no=>False
def RP(Jn:iP)(K:A1)(cn:Str->Option Addr)(E:XK)(j:Nat)(to:TE)(d:Fr->Res (List Nat)):Prop:=∀As H Z ρ σ,Frm Jn K cn H Z ρ σ As->∀t0 v0,ρ[j]?=some (some t0)->σ[j]?=some (some v0)->Rep K cn H Z t0 v0 (As.getD j [])->∀Q,WpP K cn E As H Z (As.getD j []) t0 v0 Q (d ρ)->to σ H Q
def cO:Fr->Res (List Nat):=λ_=>.ok []
def eh4(j:Nat):RP Jn K cn E j (xI j) cO:=λAs H Z ρ σ F t0 v0 e1 e2 r Q w=>⟨v0,e2,w t0 v0 _ H Z F.mo0 rfl (Plug.root r)⟩
def bk7:T->Option (List T)
 |.lst o ts=>if o=true then some ts else none
 |.tup ts=>some ts
 |_=>none
def pIx(j:Nat)(d:Fr->Res (List Nat))(i:Fr->Res T):Fr->Res (List Nat):=λρ=>(d ρ).bind λp=>(i ρ).bind λx=>match ρ[j]?,x with
 |some (some t0),.int n=>match(eX p t0).bind bk7 with
  |some ts=>match qG ts.length n with
   |some k=>.ok (p++[k])
   |none=>.no
  |none=>.no
 |_,_=>.no
theorem kN{As:List (List Addr)}(h:As.flatten.Nodup)(i:Nat):(As.getD i []).Nodup:=by
 rw[A6];cases q:As[i]? with
 |none=>exact G4
 |some C=>exact List.Nodup.sublist (List.sublist_flatten_of_mem (C6 q)) h
def bc6(h:qG n i=some k):k<n:=(br0 h).2.1
def cc1(h:qG xs.length i=some k)(e:xs[k]?=some v):atI xs i=some v:=by unfold atI;rw[h];exact e
theorem ey6{j:Nat}{to ti:TE}{d:Fr->Res (List Nat)}{i:Fr->Res T}(hd:RP Jn K cn E j to d)(hi:RB Jn K cn E ti i):RP Jn K cn E j (tOp (rIx K) to ti) (pIx j d i):=λAs H Z ρ σ F t0 v0 e1 e2 r Q w=>by
 have nd:=kN F.nd j;unfold pIx at w;refine hd As H Z ρ σ F t0 v0 e1 e2 r _ ?_;cases ed:d ρ with
 |ok p=>
  rw[ed]at w;intro u v B H1 Z1 m1 hn pl;refine hi As H1 Z1 ρ σ (F.mo m1) _ ?_;simp only[Res.bind]at w;cases ei:i ρ with
  |ok x=>
   rw[ei]at w;intro vi H2 Z2 C p2;simp only[e1]at w;cases x with
   |int n=>
    have qi:=p2.rep;simp only[Rep]at qi;obtain⟨rfl,_⟩:=qi;simp only[hn]at w;have m2:=m1.trans p2.mo;have pl2:=pl.mo p2.same p2.zz;cases u with
    |lst o ts=>
     cases o with
     |false=>simp only[Option.bind,bk7,Bool.false_eq_true,if_false]at w;exact w.elim
     |true=>
      simp only[Option.bind,bk7,if_true]at w;cases ek:qG ts.length n with
      |none=>rw[ek]at w;exact w.elim
      |some k=>
       rw[ek]at w;obtain⟨u2,eu⟩:∃u2,ts[k]?=some u2:=⟨ts[k]'(bc6 ek),A2 _⟩;have q:=pl2.rep;simp only[Rep]at q;obtain⟨a,vs,B',rfl,rfl,ea,rs⟩:=q;have ndB:(a::B').Nodup:=nd.sublist pl2.sub;obtain⟨wv,D,ew,pl3⟩:=pl2.step nd hn rs (Q2 _ _) eu (λt'=>by simp[jJ,eu,qN]) (λH' Z' t' C' z kk rr ndC hC=>by
        refine⟨a::C',?_,E9.mpr ⟨λha=>(E9.mp ndB).1 (hC a ha A7),ndC⟩,λx hx=>?_⟩
        . simp only[qN,Rep];exact⟨a,vs,C',rfl,rfl,kk a _ ea (.inl ⟨A7,(E9.mp ndB).1⟩),rr⟩
        . rcases B9.mp hx with rfl|hx
          . exact .inl ⟨A7,(E9.mp ndB).1⟩
          . exact .inr hx)
       refine .inl ⟨a,vs,n,wv,rfl,rfl,SqL.of ea,cc1 (by rw[Reps.length ts rs];exact ek) ew,w u2 wv D H2 Z2 m2 (sP p t0 _ u2 hn (by simp[eX,eu])) pl3⟩
    |tup ts=>
     simp only[Option.bind,bk7]at w;cases ek:qG ts.length n with
     |none=>rw[ek]at w;exact w.elim
     |some k=>rw[ek]at w;obtain⟨u2,eu⟩:∃u2,ts[k]?=some u2:=⟨ts[k]'(bc6 ek),A2 _⟩;have q:=pl2.rep;simp only[Rep]at q;obtain⟨a,vs,rfl,ea,rs⟩:=q;obtain⟨wv,D,ew,pl3⟩:=pl2.step nd hn rs (List.Sublist.refl _) eu (λt'=>by simp[jJ,eu,qN]) (λH' Z' t' C' z kk rr ndC hC=>by refine⟨C',?_,ndC,λx hx=>.inr hx⟩;simp only[qN,Rep];exact⟨a,vs,rfl,SqT.keep ea (λb o q i=>kk b o q (.inr (.inr i))),rr⟩);refine .inr (.inl ⟨a,vs,n,wv,rfl,rfl,ea,cc1 (by rw[Reps.length ts rs];exact ek) ew,w u2 wv D H2 Z2 m2 (sP p t0 _ u2 hn (by simp[eX,eu])) pl3⟩)
    |_=>simp only[Option.bind,bk7]at w;exact w.elim
   |_=>exact w.elim
  |ex x=>rw[ei]at w;exact WpX.ev w m1.ev
  |no=>rw[ei]at w;exact w
 |ex x=>rw[ed]at w;exact w
 |no=>rw[ed]at w;exact w
def ab5(j:Nat)(p:List Nat)(us:List T)(ρ:Fr):bO:=match ρ[j]? with
 |some (some t0)=>match jJ (.lst true us) p t0 with
  |some t'=>.nx (ρ.set j (some t'))
  |none=>.no
 |_=>.no
def bq6(j:Nat)(p:List Nat)(u:T)(ρ:Fr):bO:=match ρ[j]? with
 |some (some t0)=>match jJ u p t0 with
  |some t'=>.nx (ρ.set j (some t'))
  |none=>.no
 |_=>.no
def bl1{As As1:List (List Addr)}{H H1:Hp}{Z Z1:Addr->Prop}{ρ1:Fr}{σ:St}{j:Nat}{t0:T}{v0:V}{p:List Nat}{u u':T}{v:V}{B:List Addr}{D:as6}
 (F1:Frm Jn K cn H1 Z1 ρ1 σ As1)(e1:ρ1[j]?=some (some t0))(e2:σ[j]?=some (some v0))(pl:Plug K cn H1 Z1 t0 v0 (As1.getD j []) p u v B)
 {a:Addr}{o0 o1:HO}{C0 C:List Addr}(ev:v=.ref a)(eB:B=a::C0)(ha:H1 a=some o0)(hi:sZ o0=false)(hC:a∉C->¬Z1 a->Rep K cn (L2.upd H1 a o1) Z1 u' (.ref a) (a::C))(ndC:C.Nodup)(hCz:∀x∈C,¬Z1 x)(hCa:∀x∈C,x∈As1.flatten->x∈C0)
 (evl:Ev As H Z As1 H1 Z1)(hCn:∀x∈C,x∈As.flatten\/H x=none)(w:Wp Jn K cn E As H Z D (bq6 j p u' ρ1)):D.nx σ (L2.upd H1 a o1):=by
 subst ev eB;have nd:=kN F1.nd j;have ndB:(a::C0).Nodup:=nd.sublist pl.sub;have aA:a∈As1.getD j []:=pl.sub.mem A7;have aZ:¬Z1 a:=F1.nz a (bA aA);have aC:a∉C:=λh=>(E9.mp ndB).1 (hCa a h (bA aA));obtain⟨t',A',es,r',ndA,hA⟩:=pl.plug (L2.upd H1 a o1) Z1 u' (a::C) (λ_ h=>h) (λb o q c=>by
  rw[cV]
  . exact q
  . rintro rfl;rcases c with c|c|c
    . exact c.2 A7
    . exact aZ c
    . rw[ha]at q;cases q;rw[hi]at c;cases c) (hC aC aZ) (E9.mpr ⟨aC,ndC⟩) (λx hx hxa=>by
    rcases B9.mp hx with rfl|hx
    . exact A7
    . exact A5 _ (hCa x hx (bA hxa)))
 unfold bq6 at w;rw[e1]at w;simp only[es]at w;have hA':∀x∈A',x∈As1.getD j []\/x∈C:=λx hx=>by
  rcases hA x hx with q|q
  . exact .inl q.1
  . rcases B9.mp q with rfl|q
    . exact .inl aA
    . exact .inr q
 have slots:∀{ρ:Fr}{σ:St}{As:List (List Addr)}{i:Nat},Slots K cn H1 Z1 ρ σ As->As.flatten.Nodup->(∀x∈As.flatten,x=a->x∈As.getD i [])->σ[i]?=some (some v0)->Slots K cn (L2.upd H1 a o1) Z1 (ρ.set i (some t')) σ (As.set i A'):=by
  intro ρ;induction ρ with
  |nil=>intro σ As i h _ _ e;obtain⟨rfl,rfl⟩:=h;simp at e
  |cons o ρ ih=>
   intro σ As i h nd hx e;obtain⟨w',σ',A,As',rfl,rfl,h1,h2⟩:=h;rw[C4,C9]at nd;cases i with
   |zero=>
    simp at e;subst e;refine⟨_,σ',A',As',rfl,rfl,⟨v0,rfl,r'⟩,?_⟩;have na:a∉As'.flatten:=λh=>by have:=hx a (by rw[C4,A3];exact .inr h) rfl;exact nd.2.2 a (by simpa using this) a h rfl
    have:∀{ρ:Fr}{σ:St}{As:List (List Addr)},Slots K cn H1 Z1 ρ σ As->a∉As.flatten->Slots K cn (L2.upd H1 a o1) Z1 ρ σ As:=by
     intro ρ;induction ρ with
     |nil=>intro σ As h _;exact h
     |cons o ρ ih=>
      intro σ As h hn;obtain⟨w',σ',A,As',rfl,rfl,h1,h2⟩:=h;rw[C4,A3,not_or]at hn;refine⟨w',σ',A,As',rfl,rfl,?_,ih h2 hn.2⟩;cases o with
      |none=>exact h1
      |some t=>obtain⟨v,e,r⟩:=h1;exact⟨v,e,r.upd ha hi hn.1 aZ⟩
    exact this h2 na
   |succ i=>
    refine⟨w',σ',A,As'.set i A',rfl,rfl,?_,ih h2 nd.2.1 (λx hx' ex=>?_) (by simpa using e)⟩
    . have na:a∉A:=λh=>by
       have:=hx a (by rw[C4,A3];exact .inl h) rfl;have:a∈As'.getD i []:=by simpa using this
       exact nd.2.2 a h a (bA this) rfl
      cases o with
      |none=>exact h1
      |some t=>obtain⟨v,e,r⟩:=h1;exact⟨v,e,r.upd ha hi na aZ⟩
    . have:=hx x (by rw[C4,A3];exact .inr hx') ex;simpa using this
 refine w σ (As1.set j A') _ Z1 ⟨slots F1.sl F1.nd (λx _ ex=>by rw[ex];exact aA) e2,nN ndA F1.nd (λb hb hf=>?_),λb hb z=>?_,λb z=>?_,F1.pn⟩ ?_
 . rcases hA' b hb with q|q
   . exact q
   . exact pl.sub.mem (A5 _ (hCa b q hf))
 . rcases dM hb with q|q
   . rcases hA' b q with q|q
     . exact F1.nz b (bA q) z
     . exact hCz b q z
   . exact F1.nz b q z
 . by_cases e:b=a
   . rw[e,fR];exact(λz=>nomatch z)
   . rw[cV e];exact F1.zi b z
 . refine⟨λb o q hb=>?_,λb hb=>?_,evl.zz,evl.zn,λb hb=>evl.dom b ?_⟩
   . rw[cV]
     . exact evl.keep b o q hb
     . rintro rfl;rcases evl.own b (bA aA)with z|z
       . exact hb z
       . rw[q]at z;cases z
   . rcases dM hb with q|q
     . rcases hA' b q with q|q
       . exact evl.own b (bA q)
       . exact hCn b q
     . exact evl.own b q
   . by_cases e:b=a
     . rw[e,fR]at hb;cases hb
     . rw[cV e]at hb;exact hb
def ac9
 (F1:Frm Jn K cn H1 Z1 ρ1 σ As1)(e1:ρ1[j]?=some (some t0))(e2:σ[j]?=some (some v0))(pl:Plug K cn H1 Z1 t0 v0 (As1.getD j []) p (.lst true us) v B)
 (ev:v=.ref a)(eB:B=a::C0)(ha:H1 a=some (.lst ws))(hC:Reps K cn H1 Z1 us' ws' C)(ndC:C.Nodup)(hCz:∀x∈C,¬Z1 x)(hCa:∀x∈C,x∈As1.flatten->x∈C0)
 (evl:Ev As H Z As1 H1 Z1)(hCn:∀x∈C,x∈As.flatten\/H x=none)(w:Wp Jn K cn E As H Z D (ab5 j p us' ρ1)):D.nx σ (L2.upd H1 a (.lst ws')):=by
 subst ev eB;refine bl1 (E:=E) F1 e1 e2 pl rfl rfl ha rfl (u':=.lst true us') (λaC aZ=>?_) ndC hCz hCa evl hCn w;simp only[Rep];exact⟨a,ws',C,rfl,rfl,fR,Reps.upd hC ha rfl aC aZ⟩
def gN(j:Nat)(mv:List Nat)(d:Fr->Res (List Nat))(e:Fr->Res T):Fr->bO:=λρ=>match ρ[j]? with
 |some (some t0)=>match d ρ with
  |.ok p=>match eX p t0 with
   |some (.lst true us)=>match e ρ with
    |.ok t=>if us.length<sizeLine then ab5 j p (us++[t]) (kills mv ρ)else .no
    |.ex x=>.ex x
    |.no=>.no
   |_=>.no
  |.ex x=>.ex x
  |.no=>.no
 |_=>.no
theorem ad2:∀(mv:List Nat),mv.contains j=false->∀As:List (List Addr),(gB mv As).getD j []=As.getD j []
 |[],_,_=>rfl
 |i::is,h,As=>by simp only[List.contains_cons,Bool.or_eq_false_iff,beq_eq_false_iff_ne]at h;show(gB is (As.set i [])).getD j []=_;rw[ad2 is h.2,A6,E4 (M7 h.1),<-A6]
theorem az3:∀(mv:List Nat),mv.contains j=false->∀ρ:Fr,(kills mv ρ)[j]?=ρ[j]?
 |[],_,_=>rfl
 |i::is,h,ρ=>by simp only[List.contains_cons,Bool.or_eq_false_iff,beq_eq_false_iff_ne]at h;show(kills is (ρ.set i none))[j]?=_;rw[az3 is h.2,E4 (M7 h.1)]
theorem ed0{j:Nat}{mv:List Nat}{to te:TE}{d:Fr->Res (List Nat)}{e:Fr->Res T}(hd:RP Jn K cn E j to d)(he:RE Jn K cn E mv te e)(hj:mv.contains j=false:=by rfl):RS Jn K cn E (bk5 (tBM K "list" be1 to (wS te az1))) (gN j mv d e):=λAs H Z ρ σ F D w=>by
 unfold gN at w;cases e1:ρ[j]? with
 |none=>rw[e1]at w;exact w.elim
 |some o=>
  rw[e1]at w;cases o with
  |none=>exact w.elim
  |some t0=>
   obtain⟨v0,e2,r0⟩:=F.sl.get e1;refine hd As H Z ρ σ F t0 v0 e1 e2 r0 _ ?_;simp only at w;cases ed:d ρ with
   |ok p=>
    rw[ed]at w;intro u v B H1 Z1 m1 hn pl;simp only[hn]at w;split at w
    . next us hq=>
      cases hq;have q:=pl.rep;simp only[Rep]at q;obtain⟨a,ws,C0,rfl,rfl,ea,rs⟩:=q;refine⟨.inl ⟨rfl,ws,SqL.of ea⟩,he As H1 Z1 ρ σ (F.mo m1) _ ?_⟩;cases ee:e ρ with
      |ok t=>
       rw[ee]at w;intro y H2 Z2 C p2;simp only at w;split at w
       . next hlen=>
         have pl2:=pl.mo p2.same p2.zz;have ea2:=p2.same _ _ ea;have rs2:=rs.same p2.same p2.zz;refine⟨a,ws,y,rfl,rfl,ea2,by rw[Reps.length us rs];exact hlen,?_⟩;have m2:=m1.trans p2.mo;have F2:=(F.mo m2).kills mv;have gD:(gB mv As).getD j []=As.getD j []:=ad2 mv hj As;have pl3:Plug K cn H2 Z2 t0 v0 ((gB mv As).getD j []) p (.lst true us) (.ref a) (a::C0):=by rw[gD];exact pl2
         have ndB:(a::C0).Nodup:=(kN F.nd j).sublist pl.sub;have c0A:∀x∈C0,x∈As.getD j []:=λx hx=>pl.sub.mem (A5 _ hx);have cOut:∀x∈C,x∉(gB mv As).flatten:=λx hx hA=>by
          rcases p2.bn x hx with z|⟨i,hi,z⟩
          . obtain⟨o,ho,_⟩:=(F.mo m1).sl.dom x (gA hA);rw[ho]at z;cases z
          . exact rS F.nd hi z hA
         have c0In:∀x∈C0,x∈(gB mv As).flatten:=λx hx=>bA (i:=j) (by rw[gD];exact c0A x hx);refine ac9 (As:=As) (H:=H) (Z:=Z) (E:=E) F2 (by rw[az3 mv hj];exact e1) e2 pl3 rfl rfl ea2 (us':=us++[t]) (ws':=ws++[y]) (C:=C0++C) (Reps.append us rs2 (Reps.one p2.rep)) ?_ ?_ ?_ ?_ ?_ w
         . rw[C9];exact⟨(E9.mp ndB).2,p2.nd,λx hx y hy e=>by subst e;exact cOut x hy (c0In x hx)⟩
         . intro x hx;rcases A3.mp hx with hx|hx
           . exact F2.nz x (c0In x hx)
           . exact p2.bz x hx
         . intro x hx hA;rcases A3.mp hx with hx|hx
           . exact hx
           . exact B0 hA (cOut x hx)
         . exact⟨λb o q _=>m2.same b o q,λb hb=>.inl (gA hb),m2.zz,λb h=>(m2.zn b h).imp_right .inr,λb h=>m2.same.free h⟩
         . intro x hx;rcases A3.mp hx with hx|hx
           . exact .inl (bA (c0A x hx))
           . rcases p2.bn x hx with z|⟨i,hi,z⟩
             . exact .inr (m1.same.free z)
             . exact .inl (bA z)
       . exact w.elim
      |ex x=>rw[ee]at w;exact WpX.ev w m1.ev
      |no=>rw[ee]at w;exact w
    . exact w.elim
   |ex x=>rw[ed]at w;exact w
   |no=>rw[ed]at w;exact w
def ai6(j:Nat)(mv:List Nat)(e:Fr->Res T)(d:Fr->Res (List Nat))(i:Fr->Res T):Fr->bO:=λρ=>match e ρ with
 |.ok t=>match(kills mv ρ)[j]? with
  |some (some t0)=>match d (kills mv ρ)with
   |.ok p=>match eX p t0 with
    |some (.lst true us)=>match i (kills mv ρ)with
     |.ok (.int n)=>match qG us.length n with
      |some k=>ab5 j p (us.set k t) (kills mv ρ)
      |none=>.no
     |.ok _=>.no
     |.ex x=>.ex x
     |.no=>.no
    |_=>.no
   |.ex x=>.ex x
   |.no=>.no
  |_=>.no
 |.ex x=>.ex x
 |.no=>.no
theorem Reps.put(rt:Rep K cn H Z t y C):∀(us:List T){ws:List V}{A:List Addr}{k:Nat},Reps K cn H Z us ws A->k<us.length->∃B1 Bo B2,A=B1++Bo++B2/\Reps K cn H Z (us.set k t) (ws.set k y) (B1++C++B2)
 |[],_,_,_,_,e=>by simp at e
 |u::us,ws,A,0,r,e=>by simp only[Reps]at r;obtain⟨v,r',P,Q',rfl,rfl,h1,h2⟩:=r;refine⟨[],P,Q',W0,?_⟩;simp only[List.set_cons_zero,Reps];exact⟨y,r',C,Q',rfl,W0,rt,h2⟩
 |u::us,ws,A,k+1,r,e=>by simp only[Reps]at r;obtain⟨v,r',P,Q',rfl,rfl,h1,h2⟩:=r;obtain⟨X1,X2,X3,rfl,hr⟩:=Reps.put rt us (k:=k) h2 (by simpa using e);refine⟨P++X1,X2,X3,W0,?_⟩;simp only[List.set_cons_succ,Reps];exact⟨v,r'.set k y,P,X1++C++X3,rfl,W0,h1,hr⟩
theorem eu3{j:Nat}{mv:List Nat}{te to ti:TE}{e:Fr->Res T}{d:Fr->Res (List Nat)}{i:Fr->Res T}(he:RE Jn K cn E mv te e)(hd:RP Jn K cn E j to d)(hi:RB Jn K cn E ti i):RS Jn K cn E (be0 te (ea4 to ti dc5)) (ai6 j mv e d i):=λAs H Z ρ σ F D w=>by
 unfold ai6 at w;refine he As H Z ρ σ F _ ?_;cases ee:e ρ with
 |ok t=>
  rw[ee]at w;intro y H1 Z1 C p1;simp only at w;have F1:=(F.mo p1.mo).kills mv;cases e1:(kills mv ρ)[j]? with
  |none=>rw[e1]at w;exact w.elim
  |some o=>
   rw[e1]at w;cases o with
   |none=>exact w.elim
   |some t0=>
    obtain⟨v0,e2,r0⟩:=F1.sl.get e1;simp only at w;have ev1:Ev As H Z (gB mv As) H1 Z1:=⟨λb o q _=>p1.same b o q,λb hb=>.inl (gA hb),p1.zz,λb h=>(p1.zn b h).imp_right .inr,λb h=>p1.same.free h⟩;refine hd (gB mv As) H1 Z1 (kills mv ρ) σ F1 t0 v0 e1 e2 r0 _ ?_;cases ed:d (kills mv ρ)with
    |ok p=>
     rw[ed]at w;intro u v B H2 Z2 m2 hn pl;simp only[hn]at w;split at w
     . next us hq=>
       cases hq;refine hi (gB mv As) H2 Z2 (kills mv ρ) σ (F1.mo m2) _ ?_;cases ei:i (kills mv ρ)with
       |ok x=>
        rw[ei]at w;intro vi H3 Z3 Bi p3;cases x with
        |int n=>
         simp only at w;have qi:=p3.rep;simp only[Rep]at qi;obtain⟨rfl,_⟩:=qi;cases ek:qG us.length n with
         |none=>rw[ek]at w;exact w.elim
         |some k=>
          rw[ek]at w;have m3:=m2.trans p3.mo;have pl3:=pl.mo p3.same p3.zz;have q:=pl3.rep;simp only[Rep]at q;obtain⟨a,ws,C0,rfl,rfl,ea,rs⟩:=q;have rt:Rep K cn H3 Z3 t y C:=p1.rep.same m3.same m3.zz;have F3:=F1.mo m3;have lw:=Reps.length us rs;obtain⟨B1,Bo,B2,rfl,rs'⟩:=Reps.put rt us rs (bc6 ek);refine⟨a,ws,n,k,rfl,rfl,ea,by rw[lw];exact ek,?_⟩;have ndB:(a::(B1++Bo++B2)).Nodup:=(kN F1.nd j).sublist pl.sub;have cA:∀x∈B1++Bo++B2,x∈(gB mv As).getD j []:=λx hx=>pl.sub.mem (A5 _ hx);have i1:∀x∈B1,x∈B1++Bo++B2:=λx hx=>D7 _ (D7 _ hx);have i2:∀x∈B2,x∈B1++Bo++B2:=λx hx=>B6 _ hx;have cOut:=p1.out F;have nd1:=(E9.mp ndB).2;rw[J4,C9]at nd1;obtain⟨n1,n2,n3⟩:=nd1;rw[C9]at n2;refine ac9 (As:=As) (H:=H) (Z:=Z) (E:=E) F3 e1 e2 pl3 rfl rfl ea (us':=us.set k t) (ws':=ws.set k y) (C:=B1++C++B2) rs' ?_ ?_ ?_ (ev1.trans m3.ev) ?_ w
          . rw[J4,C9];refine⟨n1,?_,λx hx z hz e=>?_⟩
            . rw[C9];exact⟨p1.nd,n2.2.1,λx hx z hz e=>by subst e;exact cOut x hx (bA (cA x (i2 x hz)))⟩
            . subst e;rcases A3.mp hz with hz|hz
              . exact cOut x hz (bA (cA x (i1 x hx)))
              . exact n3 x hx x (B6 _ hz) rfl
          . intro x hx;rcases A3.mp hx with hx|hx
            . rcases A3.mp hx with hx|hx
              . exact F3.nz x (bA (cA x (i1 x hx)))
              . intro z;rcases m3.zn x z with z|z
                . exact p1.bz x hx z
                . obtain⟨o,ho,_⟩:=p1.rep.dom t x hx;rw[ho]at z;cases z
            . exact F3.nz x (bA (cA x (i2 x hx)))
          . intro x hx hA;rcases A3.mp hx with hx|hx
            . rcases A3.mp hx with hx|hx
              . exact i1 x hx
              . exact B0 hA (cOut x hx)
            . exact i2 x hx
          . intro x hx;rcases A3.mp hx with hx|hx
            . rcases A3.mp hx with hx|hx
              . exact .inl (gA (bA (cA x (i1 x hx))))
              . exact p1.inA x hx
            . exact .inl (gA (bA (cA x (i2 x hx))))
        |_=>exact w.elim
       |ex x=>rw[ei]at w;exact WpX.ev w (ev1.trans m2.ev)
       |no=>rw[ei]at w;exact w
     . exact w.elim
    |ex x=>rw[ed]at w;exact WpX.ev w ev1
    |no=>rw[ed]at w;exact w
 |ex x=>rw[ee]at w;exact w
 |no=>rw[ee]at w;exact w
def bU:bO->Res T
 |.nx _=>.ok .non
 |.rt t=>.ok t
 |.ex x=>.ex x
 |_=>.no
def cE(n:Nat)(ts:List T):Fr:=ts.map some++List.replicate (n-ts.length) none
theorem an3:∀(m:Nat),Slots K cn H Z (List.replicate m none) (List.replicate m none) (List.replicate m [])
 |0=>⟨rfl,rfl⟩
 |m+1=>⟨none,List.replicate m none,[],List.replicate m [],rfl,rfl,rfl,an3 m⟩
theorem aj4:∀(ts:List T){vs:List V},Reps K cn H Z ts vs []->Slots K cn H Z (ts.map some++List.replicate m none) (vs.map some++List.replicate m none) (List.replicate (ts.length+m) [])
 |[],vs,h=>by simp only[Reps]at h;obtain⟨rfl,_⟩:=h;simpa using an3 m
 |t::ts,vs,h=>by
  simp only[Reps]at h;obtain⟨v,r,B,C,rfl,e,h1,h2⟩:=h;have eb:B=[]/\C=[]:=by simpa using e.symm
  obtain⟨rfl,rfl⟩:=eb;have:=aj4 (m:=m) ts h2;refine⟨some v,_,[],List.replicate (ts.length+m) [],rfl,?_,⟨v,rfl,h1⟩,this⟩;rw[D8,show ts.length+1+m=(ts.length+m)+1 by omega];rfl
theorem mX:∀m:Nat,(List.replicate m ([]:List Addr)).flatten=[]
 |0=>rfl
 |m+1=>by rw[H0,C4,mX m];rfl
theorem bh0{P:F9}{w:World}{mg:Str->Option Value}{base:Heap}{x qual:Str}{st:Stmt}{f:Addr}{fd:FuncData}{N ps:List Str}{k:Nat}{d:Fr->bO}(F:Fun K x qual st f fd)(S:bB N ps (aO st))
 (hbody:∀(cdv:Value)(A:J5)(outer:List Env)(s:B7)(H:Hp)(E:XK),Room k (A.deeper (envOfC qual (aO st) s.heap.objs.size f cdv))->
  ∃t,PSs (nU lH P w K mg base N qual (aO st) f cdv A outer s H E).nox (eM st) t/\RS [] K cn E t d){n:Nat}{G:List T->Res T}(hn:ps.length=n)(hG:∀ts,G ts=bU (d (cE N.length ts))):FnOk P w K mg base lH (k+1) f fd ps (bR K cn n G):=by
 have eG:G=λts=>bU (d (cE N.length ts)):=funext hG;subst hn eG;refine F.ok S (λvs H Q E h=>h.1) λcdv A outer s H vs Q E hr h=>?_;obtain⟨hl,ts,Z,zi,r,w⟩:=h;obtain⟨t,hp,ht⟩:=hbody cdv A outer s H E hr;refine⟨t,hp,?_⟩;have lt:=Reps.length ts r;have sl:Slots K cn H Z (cE N.length ts) (L2.start N vs) (List.replicate (ts.length+(N.length-ts.length)) []):=by unfold cE L2.start;rw[lt];exact aj4 ts r
 have F0:Frm [] K cn H Z (cE N.length ts) (L2.start N vs) (List.replicate (ts.length+(N.length-ts.length)) []):=⟨sl,by rw[mX];exact G4,by rw[mX];exact dZ,zi,dZ⟩;refine ht _ H Z _ _ F0 _ ?_;have bn:∀{B:List Addr}{H':Hp}{Z':Addr->Prop},Ev (List.replicate (ts.length+(N.length-ts.length)) []) H Z [B] H' Z'->∀b∈B,H b=none:=λ{B H' Z'} e b hb=>by
  rcases e.own b (by simpa using hb)with q|q
  . rw[mX]at q;cases q
  . exact q
 have sm:∀{As':List (List Addr)}{H':Hp}{Z':Addr->Prop},Ev (List.replicate (ts.length+(N.length-ts.length)) []) H Z As' H' Z'->Same H H'/\∀a,Z' a->Z a\/H a=none:=λ{As' H' Z'} e=>⟨λb o q=>e.keep b o q (by rw[mX];exact(λz=>nomatch z)),λa z=>by
  rcases e.zn a z with q|q|q
  . exact .inl q
  . rw[mX]at q;cases q
  . exact .inr q⟩
 cases ed:d (cE N.length ts)with
 |nx ρ=>simp only[ed,bU]at w;intro σ' As' H' Z' F' ev;exact w .non H' Z' [] ⟨(sm ev).1,ev.zz,(sm ev).2,F'.zi,by simp[Rep],G4,dZ,dZ⟩
 |rt t=>simp only[ed,bU]at w;intro v H' Z' B p;exact w v H' Z' B ⟨(sm p.ev).1,p.ev.zz,(sm p.ev).2,p.zi,p.rep,p.nd,p.bz,λb hb=>.inl (bn p.ev b hb)⟩
 |ex x=>simp only[ed,bU]at w;exact WpX.ev w ⟨λ_ _ q _=>q,λa ha=>(by rw[mX]at ha;exact nomatch ha),λ_ h=>h,λ_ h=>.inl h,λ_ h=>h⟩
 |bk ρ=>simp only[ed,bU]at w;exact w.elim
 |rm ρ t=>simp only[ed,bU]at w;exact w.elim
 |ct ρ=>simp only[ed,bU]at w;exact w.elim
 |no=>simp only[ed,bU]at w;exact w.elim
def bH{P:F9}{w:World}{mg:Str->Option Value}{base:Heap}{x:Str}{st:Stmt}{N ps:List Str}{k:Nat}{d:Fr->bO}(F:eK K mg x st)(S:bB N ps (aO st))
 (hb:∀(kV doc pm:Value)(an:Option Addr)(cdv ct:Value)(us:List Value),us.length=ps.length->bindArgs (PySem.W.fnOf x x (kQ st) (eM st) (aO st) .none kV doc pm an cdv ct) ⟨us,[]⟩=pure (ps.zip us))
 (hbody:∀(f:Addr)(cdv:Value)(A:J5)(outer:List Env)(s:B7)(H:Hp)(E:XK),Room k (A.deeper (envOfC x (aO st) s.heap.objs.size f cdv))->
  ∃t,PSs (nU lH P w K mg base N x (aO st) f cdv A outer s H E).nox (eM st) t/\RS [] K cn E t d){n:Nat}{G:List T->Res T}(hn:ps.length=n)(hG:∀ts,G ts=bU (d (cE N.length ts))):dQ P w K mg base (k+1) x ps (bR K cn n G):=by
 obtain⟨f,fd,F,hm⟩:=F.ex;exact⟨f,fd,bh0 F S (λcdv A outer s H E hr=>hbody f cdv A outer s H E hr) hn hG,hm,F.kp,F.binds hb⟩
def law_fn(F:FnOk P w K mg base lH k f fd [p] (bR K cn 1 G))
 (h:∀ns:List Int,ns.length<=63->(∀n∈ns,Builtin.Int.intBits n<=1048576)->G [.lst false (ns.map .int)]=.ok (.bl true)):FnOk P w K mg base lH k f fd [p] (bg5 K):=by
 refine F.imp λvs H Q E q=>?_;obtain⟨a,ns,rfl,hs,h63,hbits,hq⟩:=q;have rints:∀(Z:Addr->Prop)(ns:List Int),Reps K cn H Z (ns.map T.int) (ns.map V.int) []:=by
  intro Z ns;induction ns with
  |nil=>simp[Reps]
  |cons n ns ih=>simp only[List.map_cons,Reps];exact⟨.int n,ns.map V.int,[],[],rfl,rfl,by simp[Rep],ih⟩
 refine⟨rfl,[.lst false (ns.map .int)],λb=>b=a/\H b≠none,λb z=>z.2,Reps.one ?_,?_⟩
 . simp only[Rep];refine⟨a,ns.map V.int,rfl,trivial,?_,rints _ ns⟩;rcases hs with(hs|⟨o,hs⟩)|hs
   . exact .inl ⟨hs,rfl,by rw[hs];exact(λz=>nomatch z)⟩
   . exact .inr (.inl ⟨o,hs⟩)
   . exact .inr (.inr hs)
 . rw[h ns h63 hbits];intro v H' Z' B p;have q:=p.rep;simp only[Rep]at q;rw[q.1];exact hq H'
end
end TL
namespace L2
def EqD(K:A1)(H:Hp):Nat->V->V->Bool->Prop
 |0,x,y,b=>uV x=true/\uV y=true/\b=eqV x y
 |n+1,x,y,b=>(uV x=true/\uV y=true/\b=eqV x y)\/
  (∃p q xs ys,x=.ref p/\y=.ref q/\SqL K H p xs/\SqL K H q ys/\((xs.length≠ys.length/\b=false)\/
   (xs.length=ys.length/\∃es:List Bool,es.length=xs.length/\(∀(j:Nat) x y e,xs[j]?=some x->ys[j]?=some y->es[j]?=some e->EqD K H n x y e)/\b=es.all id)))\/
  (∃p q xs ys,x=.ref p/\y=.ref q/\SqT K H p xs/\SqT K H q ys/\∃es:List Bool,es.length=min xs.length ys.length/\
   (∀(j:Nat) x y e,xs[j]?=some x->ys[j]?=some y->es[j]?=some e->EqD K H n x y e)/\b=(es.all id&&xs.length==ys.length))
theorem bz6:∀{x:V},uV x=true->eqV x x=true
 |.non,_=>rfl
 |.bl b,_=>by simp[eqV]
 |.int i,_=>by simp[eqV]
 |.str s,_=>by simp[eqV]
theorem uC(es:List Bool):((List.range es.length).all λj=>es.getD j true)=es.all id:=by
 induction es with
 |nil=>rfl
 |cons b es ih=>show(List.range (es.length+1)).all _=_;rw[S7,S3,List.all_map];show(b&&_)=(b&&es.all id);rw[<-ih];rfl
section
variable{X:Cx}{pins:List (Addr × Obj)}{σ:St}{H:Hp}{s:B7}
theorem EqD.self(I:Inv X pins σ H s):∀(n:Nat)(x:V)(b:Bool),EqD X.K H n x x b->b=true
 |0,x,b,h=>by obtain⟨h1,_,rfl⟩:=h;exact bz6 h1
 |n+1,x,b,h=>by
  rcases h with⟨h1,_,rfl⟩|⟨p,q,xs,ys,e1,e2,s1,s2,h⟩|⟨p,q,xs,ys,e1,e2,s1,s2,es,hl,he,rfl⟩
  . exact bz6 h1
  . rw[e1]at e2;cases e2;have:=I.list_inj s1 s2;subst this;rcases h with⟨h,_⟩|⟨_,es,hl,he,rfl⟩
    . exact B0 rfl h
    . rw[J3];intro e hm;obtain⟨j,hj,rfl⟩:=P3 hm;exact EqD.self I n xs[j] es[j] (he j xs[j] xs[j] es[j] (A2 V8) (A2 V8) (A2 hj))
  . rw[e1]at e2;cases e2;have:=I.tuple_inj s1 s2;subst this;rw[L9,Bool.and_true,J3];intro e hm;obtain⟨j,hj,rfl⟩:=P3 hm;have hx:j<xs.length:=V8
    exact EqD.self I n xs[j] es[j] (he j xs[j] xs[j] es[j] (A2 hx) (A2 hx) (A2 hj))
def iK(r:Vals xs us)(h:j<us.length):∃x,xs[j]?=some x/\RelV x us[j]:=by have l:=r.length;have e1:xs[j]?=some xs[j]:=A2 V8;obtain⟨u,hu,ru⟩:=r.get e1;rw[A2 h]at hu;exact⟨xs[j],e1,by rw[E8 hu];exact ru⟩
theorem oH(I:Inv X pins σ H s):∀(n:Nat){A:J5}{x y:V}{u v:Value}{b:Bool},A.units+n<cLine->RelV x u->RelV y v->EqD X.K H n x y b->SeqAt.EqAt A s u v b
 |0,A,x,y,u,v,b,hu,rx,ry,h=>by obtain⟨h1,h2,rfl⟩:=h;exact ce7 rx ry h1 h2
 |n+1,A,x,y,u,v,b,hu,rx,ry,h=>by
  have h0:=h;rcases h with⟨h1,h2,rfl⟩|⟨p,q,xs,ys,rfl,rfl,s1,s2,h⟩|⟨p,q,xs,ys,rfl,rfl,s1,s2,es,hl,he,rfl⟩
  . exact ce7 rx ry h1 h2
  . cases rx;cases ry;by_cases hpq:p=q
    . subst hpq;rw[EqD.self I (n+1) _ b h0];exact SeqAt.EqAt.same _
    . obtain⟨its,r1,p1,_⟩:=I.list s1;obtain⟨jts,r2,p2,_⟩:=I.list s2;have l1:=r1.length;have l2:=r2.length;refine SeqAt.EqAt.of_refs hpq ?_;rcases h with⟨hne,rfl⟩|⟨heq,es,hl,he,rfl⟩
      . exact SeqAt.RcAt.lists_lengths p1.isList p2.isList (by simp only[List.size_toArray,bne_iff_ne,ne_eq];omega) V8
      . have:=SeqAt.RcAt.lists (A:=A) (s:=s) (e:=λj=>es.getD j true) p1.isList p2.isList (by simp only[List.size_toArray];omega) V8 (λj h1 h2=>by
         simp only[List.size_toArray]at h1 h2;simp only[List.getElem_toArray];obtain⟨x,ex,rx⟩:=iK r1 h1;obtain⟨y,ey,ry⟩:=iK r2 h2;have hj:j<es.length:=V8
         have eg:es.getD j true=es[j]:=by rw[A6,A2 hj];rfl
         rw[eg];exact oH I n (by show A.units+1+n<cLine;omega) rx ry (he j x y es[j] ex ey (A2 hj)))
        rw[A8,show its.length=es.length by omega,uC]at this;exact this
  . cases rx;cases ry;by_cases hpq:p=q
    . subst hpq;rw[EqD.self I (n+1) _ _ h0];exact SeqAt.EqAt.same _
    . obtain⟨its,r1,p1,_⟩:=I.tuple s1;obtain⟨jts,r2,p2,_⟩:=I.tuple s2;have l1:=r1.length;have l2:=r2.length;refine SeqAt.EqAt.of_refs hpq ?_;have:=SeqAt.RcAt.tuples (A:=A) (s:=s) (e:=λj=>es.getD j true) (show s.heap.IsTuple p its.toArray from p1) (show s.heap.IsTuple q jts.toArray from p2) V8 (λj h1 h2=>by
       simp only[List.size_toArray]at h1 h2;simp only[List.getElem_toArray];obtain⟨x,ex,rx⟩:=iK r1 h1;obtain⟨y,ey,ry⟩:=iK r2 h2;have hj:j<es.length:=V8
       have eg:es.getD j true=es[j]:=by rw[A6,A2 hj];rfl
       rw[eg];exact oH I n (by show A.units+1+n<cLine;omega) rx ry (he j x y es[j] ex ey (A2 hj)))
      simp only[List.size_toArray]at this;rw[show min its.length jts.length=es.length by omega,uC,<-l1,<-l2]at this;exact this
def co4(K:A1)(n:Nat):R2:=λx y H Q=>rEq x y H Q\/(∃p q b,x=.ref p/\y=.ref q/\EqD K H n x y b/\Q (.bl b) H)
def ea1(hu:X.A.units+n<cLine):OpR X (compareOp .Eq) (co4 X.K n):=by
 intro pins s σ H x y v u Q I rx ry h;rcases h with h|⟨p,q,b,rfl,rfl,h,hq⟩
 . exact el6 s σ H x y v u Q I rx ry h
 . cases rx;cases ry;have bU:EP X pins σ Q (.bool b) s:=⟨.bl b,H,I,rfl,hq⟩;cases n with
   |zero=>exact B0 h.1 (λz=>by cases z)
   |succ n=>
    rcases h with⟨h1,_,_⟩|⟨p,q,xs,ys,e1,e2,s1,s2,h⟩|⟨p,q,xs,ys,e1,e2,s1,s2,es,hl,he,rfl⟩
    . exact B0 h1 (λz=>by cases z)
    . cases e1;cases e2;obtain⟨its,r1,p1,_⟩:=I.list s1;obtain⟨jts,r2,p2,_⟩:=I.list s2;have l1:=r1.length;have l2:=r2.length;rcases h with⟨hne,rfl⟩|⟨heq,es,hl,he,rfl⟩
      . exact SeqAt.eq_list_lengthsAt p1.isList p2.isList (by simp only[List.size_toArray,bne_iff_ne,ne_eq];omega) V8 bU
      . refine SeqAt.eq_listAt (e:=λj=>es.getD j true) p1.isList p2.isList (by simp only[List.size_toArray];omega) V8 (λj h1 h2=>?_) ?_
        . simp only[List.size_toArray]at h1 h2;simp only[List.getElem_toArray];obtain⟨x,ex,rx⟩:=iK r1 h1;obtain⟨y,ey,ry⟩:=iK r2 h2;have hj:j<es.length:=V8
          have eg:es.getD j true=es[j]:=by rw[A6,A2 hj];rfl
          rw[eg];exact oH I n (by show X.A.units+1+n<cLine;omega) rx ry (he j x y es[j] ex ey (A2 hj))
        . rw[A8,show its.length=es.length by omega,uC];exact bU
    . cases e1;cases e2;obtain⟨its,r1,p1,_⟩:=I.tuple s1;obtain⟨jts,r2,p2,_⟩:=I.tuple s2;have l1:=r1.length;have l2:=r2.length;refine SeqAt.eq_tupleAt (e:=λj=>es.getD j true) (show s.heap.IsTuple p its.toArray from p1) (show s.heap.IsTuple q jts.toArray from p2) V8 (λj h1 h2=>?_) ?_
      . simp only[List.size_toArray]at h1 h2;simp only[List.getElem_toArray];obtain⟨x,ex,rx⟩:=iK r1 h1;obtain⟨y,ey,ry⟩:=iK r2 h2;have hj:j<es.length:=V8
        have eg:es.getD j true=es[j]:=by rw[A6,A2 hj];rfl
        rw[eg];exact oH I n (by show X.A.units+1+n<cLine;omega) rx ry (he j x y es[j] ex ey (A2 hj))
      . simp only[List.size_toArray];rw[show min its.length jts.length=es.length by omega,uC,<-l1,<-l2];exact bU
def bl7(K:A1)(n:Nat)(neg:Bool):R2:=λx y H Q=>(∃p ys,y=.ref p/\(SqL K H p ys\/SqT K H p ys)/\∃es:List Bool,es.length=ys.length/\(∀(j:Nat) y e,ys[j]?=some y->es[j]?=some e->EqD K H n y x e)/\Q (.bl (if neg then !es.any id else es.any id)) H)\/
 (∃i j,x=.str i/\y=.str j/\Q (.bl (if neg then !(!(Builtin.Str.occurrences j i 0 j.length 1).isEmpty)else(!(Builtin.Str.occurrences j i 0 j.length 1).isEmpty))) H)
theorem EqD.det(I:Inv X pins σ H s):∀(n:Nat)(x y:V)(b c:Bool),EqD X.K H n x y b->EqD X.K H n x y c->b=c:=by
 intro n;induction n with
 |zero=>intro x y b c h1 h2;rw[h1.2.2,h2.2.2]
 |succ n ih=>
  intro x y b c h1 h2;have flat_ref:∀{p:Addr},uV (.ref p)=true->False:=λh=>by cases h
  rcases h1 with⟨a1,a2,rfl⟩|⟨p,q,xs,ys,rfl,rfl,s1,s2,h1⟩|⟨p,q,xs,ys,rfl,rfl,s1,s2,es,hl,he,rfl⟩
  . rcases h2 with⟨b1,b2,rfl⟩|⟨p,q,xs,ys,rfl,rfl,_⟩|⟨p,q,xs,ys,rfl,rfl,_⟩
    . rfl
    . exact(flat_ref a1).elim
    . exact(flat_ref a1).elim
  . rcases h2 with⟨b1,b2,rfl⟩|⟨p',q',xs',ys',e1,e2,t1,t2,h2⟩|⟨p',q',xs',ys',e1,e2,t1,t2,_⟩
    . exact(flat_ref b1).elim
    . cases e1;cases e2;have z1:=I.list_inj s1 t1;have z2:=I.list_inj s2 t2;subst z1 z2;rcases h1 with⟨n1,rfl⟩|⟨n1,es,hl,he,rfl⟩
      . rcases h2 with⟨n2,rfl⟩|⟨n2,_⟩
        . rfl
        . exact B0 n2 n1
      . rcases h2 with⟨n2,rfl⟩|⟨n2,es',hl',he',rfl⟩
        . exact B0 n1 n2
        . have:es=es':=by apply List.ext_getElem V8;intro j h1 h2;exact ih xs[j] ys[j] es[j] es'[j] (he j _ _ _ (A2 V8) (A2 V8) (A2 h1)) (he' j _ _ _ (A2 V8) (A2 V8) (A2 h2))
          rw[this]
    . cases e1;obtain⟨_,_,⟨o,n',eo,c1,_⟩,_⟩:=I.list s1;obtain⟨_,_,⟨o',eo',c2,_⟩,_⟩:=I.tuple t1;rw[eo]at eo';cases eo';rw[c1]at c2;exact B0 c2 W1
  . rcases h2 with⟨b1,b2,rfl⟩|⟨p',q',xs',ys',e1,e2,t1,t2,h2⟩|⟨p',q',xs',ys',e1,e2,t1,t2,es',hl',he',rfl⟩
    . exact(flat_ref b1).elim
    . cases e1;obtain⟨_,_,⟨o,n',eo,c1,_⟩,_⟩:=I.list t1;obtain⟨_,_,⟨o',eo',c2,_⟩,_⟩:=I.tuple s1;rw[eo]at eo';cases eo';rw[c1]at c2;exact B0 c2 W1
    . cases e1;cases e2;have z1:=I.tuple_inj s1 t1;have z2:=I.tuple_inj s2 t2;subst z1 z2;have:es=es':=by
       apply List.ext_getElem V8;intro j h1 h2;have hx:j<xs.length:=V8
       have hy:j<ys.length:=V8
       exact ih xs[j] ys[j] es[j] es'[j] (he j _ _ _ (A2 hx) (A2 hy) (A2 h1)) (he' j _ _ _ (A2 hx) (A2 hy) (A2 h2))
      rw[this]
def ab8(I:Inv X pins σ H s){n:Nat}{x:V}{ys:List V}{us:List Value}{es:List Bool}(r:Vals ys us)(hl:es.length=ys.length)(he:∀(j:Nat) y e,ys[j]?=some y->es[j]?=some e->EqD X.K H n y x e):
 ∃e:Value->Bool,(∀u∈us,∃y,RelV y u/\EqD X.K H n y x (e u))/\us.any e=es.any id:=by
 refine⟨λu=>@decide (∃y,RelV y u/\EqD X.K H n y x true) (Classical.propDecidable _),?_,?_⟩
 . intro u hu;obtain⟨j,hj,rfl⟩:=P3 hu;obtain⟨y,ey,ry⟩:=iK r hj;have lj:j<es.length:=by rw[hl,r.length];exact hj
   have q:=he j y es[j] ey (A2 lj);refine⟨y,ry,?_⟩;by_cases c:∃y,RelV y us[j]/\EqD X.K H n y x true
   . obtain⟨y',ry',q'⟩:=c;have:=ry.inj ry';subst this;simp only[show(∃y,RelV y us[j]/\EqD X.K H n y x true) from⟨y,ry,q'⟩,decide_true];exact q'
   . simp only[c,decide_false];cases eb:es[j]with
     |false=>rw[eb]at q;exact q
     |true=>rw[eb]at q;exact B0 ⟨y,ry,q⟩ c
 . rw[O4,N6,N6];constructor
   . rintro⟨u,hu,c⟩;obtain⟨j,hj,rfl⟩:=P3 hu;obtain⟨y,ey,ry⟩:=iK r hj;have lj:j<es.length:=by rw[hl,r.length];exact hj
     obtain⟨y',ry',q'⟩:=@of_decide_eq_true _ (Classical.propDecidable _) c;have:=ry.inj ry';subst this;have q:=he j y es[j] ey (A2 lj);exact⟨es[j],K9 lj,EqD.det I n y x es[j] true q q'⟩
   . rintro⟨e,hm,c⟩;obtain⟨j,hj,rfl⟩:=P3 hm;have c':es[j]=true:=c;have lj:j<us.length:=by rw[<-r.length,<-hl];exact hj
     obtain⟨y,ey,ry⟩:=iK r lj;have q:=he j y es[j] ey (A2 hj);rw[c']at q;exact⟨us[j],K9 lj,@F8 _ (Classical.propDecidable _) ⟨y,ry,q⟩⟩
def ex0{n:Nat}(hu:X.A.units+n+1<cLine):OpR X (compareOp .In) (bl7 X.K n false):=by
 intro pins s σ H x y v u Q I rx ry h;rcases h with⟨p,ys,rfl,hs,es,hl,he,q⟩|⟨i,j,rfl,rfl,q⟩
 . cases ry;rcases hs with hs|hs
   . obtain⟨its,r,pl,_⟩:=I.list hs;obtain⟨e,h1,h2⟩:=ab8 I r hl he;refine SeqAt.in_listAt e pl.isList (λy hy=>?_) ?_
     . obtain⟨y',ry',q'⟩:=h1 y (by simpa using hy);exact oH I n (by show X.A.units+1+n<cLine;omega) ry' rx q'
     . exact⟨.bl _,H,I,by rw[S6,h2];rfl,q⟩
   . obtain⟨its,r,pl,_⟩:=I.tuple hs;obtain⟨e,h1,h2⟩:=ab8 I r hl he;refine SeqAt.in_tupleAt e (show s.heap.IsTuple p its.toArray from pl) (λy hy=>?_) ?_
     . obtain⟨y',ry',q'⟩:=h1 y (by simpa using hy);exact oH I n (by show X.A.units+1+n<cLine;omega) ry' rx q'
     . exact⟨.bl _,H,I,by rw[S6,h2];rfl,q⟩
 . exact cf7 s σ H _ _ v u Q I rx ry ⟨i,j,rfl,rfl,q⟩
def cu7{n:Nat}(hu:X.A.units+n+1<cLine):OpR X (compareOp .NotIn) (bl7 X.K n true):=by
 intro pins s σ H x y v u Q I rx ry h;rcases h with⟨p,ys,rfl,hs,es,hl,he,q⟩|⟨i,j,rfl,rfl,q⟩
 . cases ry;rcases hs with hs|hs
   . obtain⟨its,r,pl,_⟩:=I.list hs;obtain⟨e,h1,h2⟩:=ab8 I r hl he;refine SeqAt.notIn_listAt e pl.isList (λy hy=>?_) ?_
     . obtain⟨y',ry',q'⟩:=h1 y (by simpa using hy);exact oH I n (by show X.A.units+1+n<cLine;omega) ry' rx q'
     . exact⟨.bl _,H,I,by rw[S6,h2];rfl,q⟩
   . obtain⟨its,r,pl,_⟩:=I.tuple hs;obtain⟨e,h1,h2⟩:=ab8 I r hl he;refine SeqAt.notIn_tupleAt e (show s.heap.IsTuple p its.toArray from pl) (λy hy=>?_) ?_
     . obtain⟨y',ry',q'⟩:=h1 y (by simpa using hy);exact oH I n (by show X.A.units+1+n<cLine;omega) ry' rx q'
     . exact⟨.bl _,H,I,by rw[S6,h2];rfl,q⟩
 . exact bq5 s σ H _ _ v u Q I rx ry ⟨i,j,rfl,rfl,q⟩
def eg3:R2:=λx y H Q=>(y=.non/\Q (.bl (decide (x=.non))) H)\/(∃a b,x=.bl a/\y=.bl b/\Q (.bl (a==b)) H)
def xK:OpR X (compareOp .Is) eg3:=by
 intro pins s σ H x y v u Q I rx ry h;rcases h with h|⟨a,b,rfl,rfl,q⟩
 . exact ep2 s σ H x y v u Q I rx ry h
 . cases rx;cases ry;exact is_bool ⟨.bl _,H,I,rfl,q⟩
end
def ar1(z:Str)(k:Nat):Str:=⟨((List.replicate k z.cps.toList).flatten).toArray⟩
theorem aq8(z:Str):∀(k:Nat)(acc:List Nat),List.foldl (λx1 x2=>x1++x2) acc.toArray (List.replicate k z.cps)=(acc++(List.replicate k z.cps.toList).flatten).toArray
 |0,acc=>by simp
 |k+1,acc=>by
  rw[H0,P8,H0,C4];have e:acc.toArray++z.cps=(acc++z.cps.toList).toArray:=W0
  rw[e,aq8 z k,J4]
section
variable{X:Cx}
def dp5(K:A1):R2:=λx y H Q=>∃l b xs zs,x=.ref l/\y=.ref b/\SqS K H l xs/\SqS K H b zs/\xs.length+zs.length<=sizeLine/\∀p,H p=none->Q (.ref p) (upd H p (.lst (xs++zs)))
def op_catS:OpR X (binaryOp .Add) (dp5 X.K):=by
 intro pins s σ H x y v u Q I rx ry h;obtain⟨l,b,xs,zs,rfl,rfl,hH,hB,hz,q⟩:=h;cases rx;cases ry;obtain⟨its,n,r,e,_⟩:=I.listS hH;obtain⟨its2,n2,r2,e2,_⟩:=I.listS hB;have hl:=r.length;have hl2:=r2.length;refine PySem.P.add_list e e2 ?_ (by rw[A8,A8];omega);have ea:its.toArray++its2.toArray=(its++its2).toArray:=W0
 rw[ea];exact⟨.ref _,_,I.lnew (t':=s.toks) (r.append r2) (by rw[E7];omega),rfl,q _ I.fresh⟩
def cl4(K:A1):R2:=λx y H Q=>xU (λi j=>.int (i+j)) x y H Q\/eb8 x y H Q\/dp5 K x y H Q\/dq5 K x y H Q
def bI(K:A1)(hK:X.K=K:=by rfl):OpR X (binaryOp .Add) (cl4 K):=by subst hK;exact op_add.or (op_add_str.or (op_catS.or dc6))
def da5:R2:=λx y H Q=>∃z k,x=.str z/\y=.int k/\-(2^63)<=k/\k<2^62/\z.length*k.toNat<=sizeLine/\Q (.str (ar1 z k.toNat)) H
def dw7:OpR X (binaryOp .Mult) da5:=by
 intro pins s σ H x y v u Q I rx ry h;obtain⟨z,k,rfl,rfl,h1,h2,hz,q⟩:=h;obtain⟨t,rfl⟩:=rx;obtain⟨t',rfl⟩:=ry;have hn:=D9;refine PySem.P.mul_str ?_ ?_ ?_ ?_
 . rw[E2 V8,E2 V8];rfl
 . intro hk _;have hk1:1<=k:=V8
   have:((z.length:Int))<=16777216:=by have:z.length*1<=z.length*k.toNat:=Nat.mul_le_mul_left _ V8;omega
   have hq:(2^63-1:Int)/k>=(z.length:Int):=by
    refine(Int.le_ediv_iff_mul_le V8).mpr ?_;have e:(z.length:Int)*k=((z.length*k.toNat:Nat):Int):=by rw[Int.natCast_mul,Int.toNat_of_nonneg V8]
    rw[e];omega
   omega
 . intro _ _;unfold Builtin.Str.tooLong;exact E2 V8
 . split
   . next hk=>
     have e:ar1 z k.toNat=Str.empty:=by
      have:k.toNat=0:=V8
      rw[this];rfl
     rw[e]at q;exact⟨W1,.str _,H,I.tok _,⟨_,rfl⟩,q⟩
   . next hk=>
     split
     . next hc=>
       have e:ar1 z k.toNat=z:=by
        rw[S9,Q5,Q5]at hc;rcases hc with hc|hc
        . subst hc;simp[ar1]
        . have hz0:z.cps.toList=[]:=by
           have:z.cps.toList.length=0:=by rw[J1];exact hc
           exact List.eq_nil_of_length_eq_zero this
          have:(List.replicate k.toNat z.cps.toList).flatten=[]:=by rw[hz0];simp
          unfold ar1;rw[this];obtain⟨⟨l⟩⟩:=z;simp at hz0;rw[hz0]
       rw[e]at q;exact⟨.str _,H,I,⟨_,rfl⟩,q⟩
     . have e:(⟨(List.replicate k.toNat z.cps).foldl (· ++ ·) #[]⟩:Str)=ar1 z k.toNat:=by have:=aq8 z k.toNat [];rw[K7]at this;unfold ar1;rw[<-this]
       rw[e];refine⟨?_,.str _,H,I.tok _,⟨_,rfl⟩,q⟩;show((List.replicate k.toNat z.cps.toList).flatten.toArray).size<=sizeLine;rw[A8,di6,J1,Nat.mul_comm];exact hz
def ds5:R2:=λx y H Q=>ed5 x y H Q\/da5 x y H Q
def nQ:OpR X (binaryOp .Mult) ds5:=op_mulB.or dw7
end
end L2
namespace TL
open L2
section
variable{Jn:iP}{K:A1}{cn:Str->Option Addr}{E:XK}{As:List (List Addr)}{H:Hp}{Z:Addr->Prop}{Q:VK}
def WpE.val(w:WpE K cn E As H Z [] Q (.ok t))(zi:∀a,Z a->H a≠none)(r:Rep K cn H Z t v []):Q v H:=
 w v H Z [] ⟨Same.refl _,λ_ h=>h,λ_ h=>.inl h,zi,r,G4,dZ,dZ⟩
def WpE.newL(w:WpE K cn E As H Z [] Q (.ok (.lst true ts)))(zi:∀a,Z a->H a≠none)(r:Reps K cn H Z ts vs [])(p:Addr)(hp:H p=none):Q (.ref p) (L2.upd H p (.lst vs)):=by
 have m:=Mo.new (.lst vs) hp zi;refine w (.ref p) _ Z [p] ⟨m.same,m.zz,m.zn,m.zi,?_,W0,λb hb=>?_,λb hb=>?_⟩
 . simp only[Rep];exact⟨p,vs,[],rfl,rfl,fR,r.same m.same m.zz⟩
 . rw[C5.mp hb];exact λz=>zi p z hp
 . rw[C5.mp hb];exact .inl hp
def WpE.newT(w:WpE K cn E As H Z [] Q (.ok (.tup ts)))(zi:∀a,Z a->H a≠none)(r:Reps K cn H Z ts vs [])(p:Addr)(hp:H p=none):Q (.ref p) (L2.upd H p (.tup vs)):=by have m:=Mo.new (.tup vs) hp zi;refine w (.ref p) _ Z [] ⟨m.same,m.zz,m.zn,m.zi,?_,G4,dZ,dZ⟩;simp only[Rep];exact⟨p,vs,rfl,SqT.of fR,r.same m.same m.zz⟩
theorem Rep.int{i:Int}{v:V}{A:List Addr}(h:Rep K cn H Z (.int i) v A):v=.int i:=by simp only[Rep]at h;exact h.1
theorem Rep.str{i:Str}{v:V}{A:List Addr}(h:Rep K cn H Z (.str i) v A):v=.str i:=by simp only[Rep]at h;exact h.1
theorem Rep.bl(h:Rep K cn H Z (.bl i) v A):v=.bl i:=by simp only[Rep]at h;exact h.1
theorem Rep.non(h:Rep K cn H Z .non v A):v=.non:=by simp only[Rep]at h;exact h.1
def Rep.tupS(h:Rep K cn H Z (.tup ts) v A):∃a vs,v=.ref a/\SqT K H a vs/\Reps K cn H Z ts vs A:=by simp only[Rep]at h;exact h
def lV(i:Int):Rep K cn H Z (.int i) (.int i) []:=by simp[Rep]
def rW(i:Bool):Rep K cn H Z (.bl i) (.bl i) []:=by simp[Rep]
def az2(i:Str):Rep K cn H Z (.str i) (.str i) []:=by simp[Rep]
noncomputable def bS:T->T->Res T
 |.int i,.int j=>.ok (.int (i+j))
 |.str a,.str b=>gate (a.length+b.length<=sizeLine) (.ok (.str (a++b)))
 |.lst _ xs,.lst _ ys=>gate ((aW xs&&aW ys)=true/\xs.length+ys.length<=sizeLine) (.ok (.lst true (xs++ys)))
 |.tup xs,.tup ys=>gate ((aW xs&&aW ys)=true/\xs.length+ys.length<=sizeLine/\xs.isEmpty=false/\ys.isEmpty=false) (.ok (.tup (xs++ys)))
 |_,_=>.no
def dt5:nX K cn (cl4 K) bS:=λE As H Z t u x y A B Q zi rt ru w=>by
 unfold bS at w;split at w
 . next i j=>rw[rt.int,ru.int];exact .inl ⟨i,j,rfl,rfl,w.val zi (lV _)⟩
 . next a b=>
   obtain⟨h,w⟩:=w.gate;rw[rt.str,ru.str];exact .inr (.inl ⟨a,b,rfl,rfl,h,w.val zi (az2 _)⟩)
 . next o xs o' ys=>
   obtain⟨h,w⟩:=w.gate;rw[G1]at h;obtain⟨a,vs,C,rfl,hs,r1,_⟩:=rt.lstSq;obtain⟨b,ws,D,rfl,hs',r2,_⟩:=ru.lstSq;exact .inr (.inr (.inl ⟨a,b,vs,ws,rfl,rfl,hs,hs',by rw[Reps.length xs r1,Reps.length ys r2];exact h.2,λp hp=>w.newL zi (Reps.append xs (r1.bareE h.1.1) (r2.bareE h.1.2)) p hp⟩))
 . next xs ys=>
   obtain⟨h,w⟩:=w.gate;rw[G1]at h;obtain⟨a,vs,rfl,hs,r1⟩:=rt.tupS;obtain⟨b,ws,rfl,hs',r2⟩:=ru.tupS;have e1:=r1.isEmpty;have e2:=r2.isEmpty;refine .inr (.inr (.inr ⟨a,b,vs,ws,rfl,rfl,hs,hs',λz=>?_,by rw[Reps.length xs r1,Reps.length ys r2];exact h.2.1,λz=>?_,λ_ p hp=>w.newT zi (Reps.append xs (r1.bareE h.1.1) (r2.bareE h.1.2)) p hp⟩))
   . rw[z,h.2.2.1]at e1;cases e1
   . rw[z,h.2.2.2]at e2;cases e2
 . exact w.elim
def qR(f:Int->Int->Res T):T->T->Res T
 |.int i,.int j=>f i j
 |_,_=>.no
def bb8{g:Int->Int->T}{g':Int->Int->V}(hg:∀i j H Z,Rep K cn H Z (g i j) (g' i j) []):nX K cn (xU g') (qR λi j=>.ok (g i j)):=λE As H Z t u x y A B Q zi rt ru w=>by
 unfold qR at w;split at w
 . next i j=>rw[rt.int,ru.int];exact⟨i,j,rfl,rfl,w.val zi (hg i j _ _)⟩
 . exact w.elim
def r_i{C:Int->Int->Prop}{g:Int->Int->T}{g':Int->Int->V}(hg:∀i j H Z,Rep K cn H Z (g i j) (g' i j) []):nX K cn (rI C g') (qR λi j=>gate (C i j) (.ok (g i j))):=λE As H Z t u x y A B Q zi rt ru w=>by
 unfold qR at w;split at w
 . next i j=>
   obtain⟨h,w⟩:=WpE.gate w;rw[rt.int,ru.int];exact⟨i,j,rfl,rfl,h,w.val zi (hg i j _ _)⟩
 . exact w.elim
def eJ:=qR λi j=>.ok (.int (i-j))
def ej6:nX K cn (xU λi j=>.int (i-j)) eJ:=bb8 λ_ _ _ _=>lV _
def vN:=qR λi j=>.ok (.bl (decide (i<j)))
def tH:=qR λi j=>.ok (.bl (decide (i<=j)))
def vW:=qR λi j=>.ok (.bl (decide (j<i)))
def geT:=qR λi j=>.ok (.bl (decide (j<=i)))
def fd0:nX K cn (xU λi j=>.bl (decide (i<j))) vN:=bb8 λ_ _ _ _=>rW _
def fx0:nX K cn (xU λi j=>.bl (decide (i<=j))) tH:=bb8 λ_ _ _ _=>rW _
def eu9:nX K cn (xU λi j=>.bl (decide (j<i))) vW:=bb8 λ_ _ _ _=>rW _
def ex9:nX K cn (xU λi j=>.bl (decide (j<=i))) geT:=bb8 λ_ _ _ _=>rW _
noncomputable def iG:=qR λi j=>gate (zV i j) (.ok (.int (i/j)))
def et3:nX K cn (rI zV λi j=>.int (i/j)) iG:=r_i λ_ _ _ _=>lV _
noncomputable def cK:=qR λi j=>gate (0<j) (.ok (.int (i%j)))
def eg9:nX K cn (rI (λ_ j=>0<j) λi j=>.int (i%j)) cK:=r_i (C:=λ_ j=>0<j) λ_ _ _ _=>lV _
noncomputable def af4:=qR λi j=>gate (at3 i j) (.ok (.int (i^j.toNat)))
def ex7:nX K cn (rI at3 λi j=>.int (i^j.toNat)) af4:=r_i λ_ _ _ _=>lV _
def mulOk(i j:Int):Prop:=(-(2^64)<i/\i<2^64)\/(-(2^64)<j/\j<2^64)\/Builtin.Int.intBits i+Builtin.Int.intBits j<=134217728
theorem mulOk.ok(h:mulOk i j):IntMulOk i j:=by
 rcases h with h|h|h
 . exact df7 h.1 h.2
 . exact da9 h.1 h.2
 . exact cj4 h
noncomputable def pY:T->T->Res T
 |.int i,.int j=>gate (mulOk i j) (.ok (.int (i*j)))
 |.str z,.int k=>gate (-(2^63)<=k/\k<2^62/\z.length*k.toNat<=sizeLine) (.ok (.str (ar1 z k.toNat)))
 |_,_=>.no
def ep7:nX K cn ds5 pY:=λE As H Z t u x y A B Q zi rt ru w=>by
 unfold pY at w;split at w
 . next i j=>
   obtain⟨h,w⟩:=w.gate;rw[rt.int,ru.int];exact .inl ⟨i,j,rfl,rfl,h.ok,w.val zi (lV _)⟩
 . next z k=>
   obtain⟨h,w⟩:=w.gate;rw[rt.str,ru.int];exact .inr ⟨z,k,rfl,rfl,h.1,h.2.1,h.2.2,w.val zi (az2 _)⟩
 . exact w.elim
def nR:T->Res T
 |.int i=>.ok (.int (-i))
 |_=>.no
def ec7:R1R K cn (rU λi=>.int (-i)) nR:=λE As H Z t x A Q zi rt w=>by
 unfold nR at w;split at w
 . next i=>rw[rt.int];exact⟨i,rfl,w.val zi (lV _)⟩
 . exact w.elim
def pW:T->T->Res T
 |.bl a,.bl b=>.ok (.bl (a==b))
 |.non,.non=>.ok (.bl true)
 |_,.non=>.ok (.bl false)
 |_,_=>.no
theorem Rep.notNon(h:Rep K cn H Z t v A)(n:t≠ .non):v≠ .non:=by
 cases t with
 |non=>exact B0 rfl n
 |bl _=>rw[h.bl];exact λz=>nomatch z
 |int _=>rw[h.int];exact λz=>nomatch z
 |str _=>rw[h.str];exact λz=>nomatch z
 |ty _=>simp only[Rep]at h;rw[h.1];exact λz=>nomatch z
 |lst o ts=>obtain⟨a,vs,C,rfl,_⟩:=h.lstSq;exact λz=>nomatch z
 |tup ts=>obtain⟨a,vs,rfl,_⟩:=h.tupS;exact λz=>nomatch z
 |ins o c ns ts=>
  cases o with
  |true=>simp only[Rep]at h;obtain⟨a,C,dx,vs,B,rfl,_⟩:=h;exact λz=>nomatch z
  |false=>simp only[Rep]at h;obtain⟨a,C,dx,vs,rfl,_⟩:=h;exact λz=>nomatch z
def es9:nX K cn eg3 pW:=λE As H Z t u x y A B Q zi rt ru w=>by
 unfold pW at w;split at w
 . next a b=>rw[rt.bl,ru.bl];exact .inr ⟨a,b,rfl,rfl,w.val zi (rW _)⟩
 . rw[rt.non,ru.non];exact .inl ⟨rfl,w.val zi (rW _)⟩
 . next h1 h2=>rw[ru.non];exact .inl ⟨rfl,by rw[E2 (rt.notNon (by rintro rfl;exact h2 rfl))];exact w.val zi (rW _)⟩
 . exact w.elim
def jC:T->T->Res T
 |.non,.non=>.ok (.bl false)
 |_,.non=>.ok (.bl true)
 |_,_=>.no
def dp6:nX K cn (λx y H Q=>y=.non/\Q (.bl (!decide (x=.non))) H) jC:=λE As H Z t u x y A B Q zi rt ru w=>by
 unfold jC at w;split at w
 . rw[rt.non,ru.non];exact⟨rfl,w.val zi (rW _)⟩
 . next h2=>rw[ru.non];exact⟨rfl,by rw[E2 (rt.notNon (by rintro rfl;exact h2 rfl))];exact w.val zi (rW _)⟩
 . exact w.elim
def qE:T->T->Option Bool
 |.non,.non=>some true
 |.non,.bl _=>some false
 |.non,.int _=>some false
 |.non,.str _=>some false
 |.bl _,.non=>some false
 |.bl a,.bl b=>some (a==b)
 |.bl a,.int b=>some ((if a then 1 else 0)==b)
 |.bl _,.str _=>some false
 |.int _,.non=>some false
 |.int a,.bl b=>some (a==(if b then 1 else 0))
 |.int a,.int b=>some (a==b)
 |.int _,.str _=>some false
 |.str _,.non=>some false
 |.str _,.bl _=>some false
 |.str _,.int _=>some false
 |.str a,.str b=>some (a==b)
 |_,_=>none
mutual
def pX:Nat->T->T->Option Bool
 |n+1,.lst _ xs,.lst _ ys=>if xs.length=ys.length then(oO n xs ys).map λes=>es.all id else some false
 |n+1,.tup xs,.tup ys=>(oO n xs ys).map λes=>es.all id&&xs.length==ys.length
 |_,t,u=>qE t u
def oO:Nat->List T->List T->Option (List Bool)
 |n,x::xs,y::ys=>(pX n x y).bind λb=>(oO n xs ys).map λes=>b::es
 |_,_,_=>some []
end
def cd7(rt:Rep K cn H Z t x A)(ru:Rep K cn H Z u y B)(h:qE t u=some b):uV x=true/\uV y=true/\b=eqV x y:=by
 unfold qE at h;split at h;all_goals first
  |(simp only[Rep]at rt ru;obtain⟨rfl,_⟩:=rt;obtain⟨rfl,_⟩:=ru;cases h;exact⟨rfl,rfl,rfl⟩)
  |cases h
theorem bg6(rt:Rep K cn H Z t x A)(ru:Rep K cn H Z u y B)(h:qE t u=some b):EqD K H n x y b:=by
 have q:=cd7 rt ru h;cases n with
 |zero=>exact q
 |succ n=>exact .inl q
theorem bh1(ih:∀(t u:T){x y:V}{A B:List Addr}{b:Bool},Rep K cn H Z t x A->Rep K cn H Z u y B->pX n t u=some b->EqD K H n x y b):∀(ts us:List T){vs ws:List V}{A B:List Addr}{es:List Bool},Reps K cn H Z ts vs A->Reps K cn H Z us ws B->oO n ts us=some es->
 es.length=min ts.length us.length/\∀(j:Nat) x y e,vs[j]?=some x->ws[j]?=some y->es[j]?=some e->EqD K H n x y e
 |x::xs,y::ys,vs,ws,A,B,es,r1,r2,h=>by
  simp only[Reps]at r1 r2;obtain⟨v,vs',B1,C1,rfl,rfl,a1,a2⟩:=r1;obtain⟨w,ws',B2,C2,rfl,rfl,b1,b2⟩:=r2;rw[oO,N4]at h;obtain⟨b,h1,h⟩:=h;rw[K4]at h;obtain⟨es',h2,rfl⟩:=h;obtain⟨q1,q2⟩:=bh1 ih xs ys a2 b2 h2;refine⟨by simp only[List.length_cons];omega,λj x' y' e e1 e2 e3=>?_⟩;cases j with
  |zero=>simp at e1 e2 e3;subst e1 e2 e3;exact ih x y a1 b1 h1
  |succ j=>exact q2 j x' y' e (by simpa using e1) (by simpa using e2) (by simpa using e3)
 |[],us,vs,ws,A,B,es,r1,r2,h=>by
  have e:oO n [] us=some []:=by cases us<;>rfl
  rw[e]at h;cases h;exact⟨W0,λj x y e _ _ e3=>by simp at e3⟩
 |t::ts,[],vs,ws,A,B,es,r1,r2,h=>by have e:oO n (t::ts) []=some []:=rfl;rw[e]at h;cases h;exact⟨W0,λj x y e _ _ e3=>by simp at e3⟩
theorem bf7(n:Nat):∀(t u:T){x y:V}{A B:List Addr}{b:Bool},Rep K cn H Z t x A->Rep K cn H Z u y B->pX n t u=some b->EqD K H n x y b:=by
 induction n with
 |zero=>
  intro t u x y A B b rt ru h;have e:pX 0 t u=qE t u:=by cases t<;>cases u<;>rfl
  rw[e]at h;exact bg6 rt ru h
 |succ n ih=>
  intro t u x y A B b rt ru h;by_cases h1:∃o o' xs ys,t=.lst o xs/\u=.lst o' ys
  . obtain⟨o,o',xs,ys,rfl,rfl⟩:=h1;obtain⟨a,vs,C,rfl,hs,r1,_⟩:=rt.lstSq;obtain⟨b',ws,D,rfl,hs',r2,_⟩:=ru.lstSq;rw[pX]at h;have l1:=Reps.length xs r1;have l2:=Reps.length ys r2;split at h
    . next hl=>
      rw[K4]at h;obtain⟨es,h1,rfl⟩:=h;obtain⟨q1,q2⟩:=bh1 ih xs ys r1 r2 h1;exact .inr (.inl ⟨a,b',vs,ws,rfl,rfl,hs.sq,hs'.sq,.inr ⟨V8,es,by rw[q1];omega,q2,rfl⟩⟩)
    . next hl=>
      cases h;exact .inr (.inl ⟨a,b',vs,ws,rfl,rfl,hs.sq,hs'.sq,.inl ⟨V8,rfl⟩⟩)
  . by_cases h2:∃xs ys,t=.tup xs/\u=.tup ys
    . obtain⟨xs,ys,rfl,rfl⟩:=h2;obtain⟨a,vs,rfl,hs,r1⟩:=rt.tupS;obtain⟨b',ws,rfl,hs',r2⟩:=ru.tupS;rw[pX]at h;have l1:=Reps.length xs r1;have l2:=Reps.length ys r2;rw[K4]at h;obtain⟨es,h1,rfl⟩:=h;obtain⟨q1,q2⟩:=bh1 ih xs ys r1 r2 h1;exact .inr (.inr ⟨a,b',vs,ws,rfl,rfl,hs,hs',es,by rw[q1];omega,q2,by rw[l1,l2]⟩)
    . have e:pX (n+1) t u=qE t u:=by cases t<;>cases u<;>first|rfl|exact B0 ⟨_,_,_,_,rfl,rfl⟩ h1|exact B0 ⟨_,_,rfl,rfl⟩ h2
      rw[e]at h;exact bg6 rt ru h
def cU:Nat:=6
def ac1:T->Bool
 |.lst _ _=>true
 |.tup _=>true
 |_=>false
def cs2:T->T->Bool
 |.bl _,.int _=>false
 |.int _,.bl _=>false
 |t,u=>!ac1 t&&!ac1 u
def eqB(t u:T):Option Bool:=if ac1 t=true/\ac1 u=true then pX cU t u else if cs2 t u=true then qE t u else none
def eV(t u:T):Res T:=match eqB t u with
 |some b=>.ok (.bl b)
 |none=>.no
theorem Rep.seqRef(h:Rep K cn H Z t v A)(i:ac1 t=true):∃a,v=.ref a:=by
 cases t with
 |lst o ts=>obtain⟨a,vs,C,rfl,_⟩:=h.lstSq;exact⟨a,rfl⟩
 |tup ts=>obtain⟨a,vs,rfl,_⟩:=h.tupS;exact⟨a,rfl⟩
 |_=>cases i
def cp1(rt:Rep K cn H Z t x A)(ru:Rep K cn H Z u y B)(hs:cs2 t u=true)(h:qE t u=some b):dd0 x y=true/\b=decide (x=y):=by
 unfold qE at h;split at h;all_goals first
  |(cases hs;done)
  |(simp only[Rep]at rt ru;obtain⟨rfl,_⟩:=rt;obtain⟨rfl,_⟩:=ru;cases h;exact⟨rfl,by first|rfl|(rw[bp1])|(rw[bx7])|(rw[bb1])|(symm;exact E2 (λz=>nomatch z))⟩)
  |(cases h;done)
def fl0:nX K cn (co4 K cU) eV:=λE As H Z t u x y A B Q zi rt ru w=>by
 unfold eV at w;split at w
 . next b h=>
   unfold eqB at h;split at h
   . next hs=>
     obtain⟨p,rfl⟩:=rt.seqRef hs.1;obtain⟨q,rfl⟩:=ru.seqRef hs.2;exact .inr ⟨p,q,b,rfl,rfl,bf7 cU t u rt ru h,w.val zi (rW _)⟩
   . split at h
     . next hs=>
       obtain⟨q1,rfl⟩:=cp1 rt ru hs h;exact .inl ⟨q1,w.val zi (rW _)⟩
     . cases h
 . exact w.elim
def neT(t u:T):Res T:=if cs2 t u=true then match qE t u with
 |some b=>.ok (.bl (!b))
 |none=>.no else .no
def ep9:nX K cn rNe neT:=λE As H Z t u x y A B Q zi rt ru w=>by
 unfold neT at w;split at w
 . next hs=>
   split at w
   . next b h=>
     obtain⟨q1,rfl⟩:=cp1 rt ru hs h;exact⟨q1,w.val zi (rW _)⟩
   . exact w.elim
 . exact w.elim
def occ(j i:Str):Bool:=!(Builtin.Str.occurrences j i 0 j.length 1).isEmpty
def rJ(t:T):List T->Option (List Bool)
 |[]=>some []
 |u::us=>(pX cU u t).bind λb=>(rJ t us).map λes=>b::es
theorem ay4(rt:Rep K cn H Z t x A):∀(us:List T){ws:List V}{B:List Addr}{es:List Bool},Reps K cn H Z us ws B->rJ t us=some es->es.length=ws.length/\∀(j:Nat) y e,ws[j]?=some y->es[j]?=some e->EqD K H cU y x e
 |[],ws,B,es,r,h=>by simp only[Reps]at r;obtain⟨rfl,_⟩:=r;cases h;exact⟨rfl,λj y e e1=>by simp at e1⟩
 |u::us,ws,B,es,r,h=>by
  simp only[Reps]at r;obtain⟨w,ws',B1,C1,rfl,rfl,a1,a2⟩:=r;rw[rJ,N4]at h;obtain⟨b,h1,h⟩:=h;rw[K4]at h;obtain⟨es',h2,rfl⟩:=h;obtain⟨q1,q2⟩:=ay4 rt us a2 h2;refine⟨by simp[q1],λj y e e1 e2=>?_⟩;cases j with
  |zero=>simp at e1 e2;subst e1 e2;exact bf7 cU u t a1 rt h1
  |succ j=>exact q2 j y e (by simpa using e1) (by simpa using e2)
def inT(neg:Bool):T->T->Res T
 |t,.lst _ us=>match rJ t us with
  |some es=>.ok (.bl (if neg=true then !es.any id else es.any id))
  |none=>.no
 |t,.tup us=>match rJ t us with
  |some es=>.ok (.bl (if neg=true then !es.any id else es.any id))
  |none=>.no
 |.str i,.str j=>.ok (.bl (if neg=true then !occ j i else occ j i))
 |_,_=>.no
def fr0:nX K cn (bl7 K cU neg) (inT neg):=λE As H Z t u x y A B Q zi rt ru w=>by
 unfold inT at w;split at w
 . next t o us=>
   split at w
   . next es h=>
     obtain⟨a,vs,C,rfl,hs,r1,_⟩:=ru.lstSq;obtain⟨q1,q2⟩:=ay4 rt us r1 h;exact .inl ⟨a,vs,rfl,.inl hs.sq,es,q1,q2,w.val zi (rW _)⟩
   . exact w.elim
 . next t us=>
   split at w
   . next es h=>
     obtain⟨a,vs,rfl,hs,r1⟩:=ru.tupS;obtain⟨q1,q2⟩:=ay4 rt us r1 h;exact .inl ⟨a,vs,rfl,.inr hs,es,q1,q2,w.val zi (rW _)⟩
   . exact w.elim
 . next i j=>rw[rt.str,ru.str];exact .inr ⟨i,j,rfl,rfl,w.val zi (rW _)⟩
 . exact w.elim
end
end TL
namespace L2
section
variable{X:Cx}(K:A1)
def el3(hr:Room k X.A)(hn:n<=60:=by decide)(hK:X.K=K:=by rfl):OpR X (compareOp .Eq) (co4 K n):=by subst hK;exact ea1 (by have:=hr.units;omega)
def ac0(hr:Room k X.A)(hn:n<=60:=by decide)(hK:X.K=K:=by rfl):OpR X (compareOp .In) (bl7 K n false):=by subst hK;exact ex0 (by have:=hr.units;omega)
def af3(hr:Room k X.A)(hn:n<=60:=by decide)(hK:X.K=K:=by rfl):OpR X (compareOp .NotIn) (bl7 K n true):=by subst hK;exact cu7 (by have:=hr.units;omega)
def ft0(hK:X.K=K:=by rfl):IxR X (rIx K):=by subst hK;exact ek4
def dc3:V->Option Int->Option Int->Hp->VK->Prop:=λx lo hi H Q=>ef1 K x lo hi H Q\/ej1 K x lo hi H Q\/eq3 x lo hi H Q
def xE(hK:X.K=K:=by rfl):SlR X (dc3 K):=by subst hK;exact SlR.or dq8 (SlR.or ev0 eg1)
def bW(ha:PE X a ta)(he:∀whole,isTrue a X.env whole=(do let v<-whole;standAt a.pos;holding [v] (truthy v)))(hK:X.K=K:=by rfl):
 PT X a (λσ H Q=>ta σ H λx H'=>∃k,bh8 K x H' k/\Q k H'):=by
 subst hK;exact cn9 ha he
def fL(hl:PE X l tl)(hK:X.K=K:=by rfl):PI X tg l (TL.iV K tl):=by
 subst hK;intro pins s σ H R I h;refine jH (hl s σ H _ I h) λv s1 x H1 I1 r1 q1=>?_;rcases q1 with⟨a,e,q⟩|⟨z,e,q⟩
 . subst e;cases r1;rcases q with⟨⟨xs,hq⟩,q⟩|⟨⟨xs,hq⟩,q⟩
   . obtain⟨its,rv,p,hz⟩:=I1.list hq;refine Q7 p.isList ?_;refine⟨s1.heap.objs.size,[s1.heap.objs.size],_,_,H1,rfl,I1.kept (t':=s1.toks) λb o e=>A9 _ e,cr5 a _,⟨_,D5 _ rfl,rfl,rfl⟩,λb hb=>?_,q⟩;have e:b=s1.heap.objs.size:=by simpa using hb
     subst e;exact I1.fpOk (D6 _) (I1.hok.fresh (D6 _))
   . obtain⟨its,rv,p,hz⟩:=I1.tuple hq;refine wpAny_pyIter_tuple (show s1.heap.IsTuple a its.toArray from p) ?_;refine⟨s1.heap.objs.size,[s1.heap.objs.size],_,_,H1,rfl,I1.kept (t':=s1.toks) λb o e=>A9 _ e,cq3 a _,⟨_,D5 _ rfl,rfl,rfl⟩,λb hb=>?_,q⟩;have e:b=s1.heap.objs.size:=by simpa using hb
     subst e;exact I1.fpOk (D6 _) (I1.hok.fresh (D6 _))
 . subst e;obtain⟨t,rfl⟩:=r1;have fp:∀b∈[s1.heap.objs.size],uD X pins H1 b:=λb hb=>by
    have e:b=s1.heap.objs.size:=by simpa using hb
    subst e;exact I1.fpOk (D6 _) (I1.hok.fresh (D6 _))
   cases ha:z.cps.all (· <128)
   . exact wpAny_pyIter_wide ha ⟨s1.heap.objs.size,[s1.heap.objs.size],_,_,H1,rfl,I1.kept (t':=s1.toks) λb o e=>A9 _ e,cp5 _ z t,⟨_,D5 _ rfl,rfl,rfl⟩,fp,q⟩
   . exact wpAny_pyIter_ascii ha ⟨s1.heap.objs.size,[s1.heap.objs.size],_,_,H1,rfl,I1.kept (t':=s1.toks) λb o e=>A9 _ e,ct3 _ z t,⟨_,D5 _ rfl,rfl,rfl⟩,fp,q⟩
def fZ(n:Nat)(hc:X.calm=true)(h:PGs X es t)
 (hn:(assignEach es X.env).length=n:=by rfl)(hst:(assignEach es X.env).findIdx? (·.1)=none:=by rfl)(hK:X.K=K:=by rfl):PG X (.Tuple es k pos) (cz3 K n t):=by
 subst hK;exact ef3 hc h hn hst
def tT{o e:Expr}{es:List Expr}{to:TE}{t:TA}{name:Str}{apos cpos:Pos}{T id:String}{r:V->List V->Hp->VK->Prop}(pa:PlainAttrs T)(slot:Slot T name id)(hty:typeOf (.builtin id)=pure (.type "method_descriptor"))(hm:MtR X id r)(ho:PE X o to)(ha:PA X (e::es) t)
 (hbase:attributeBase o name X.env (eval o X.env)=eval o X.env:=by rfl)
 (hfew:((backTo cpos (starEach (e::es) X.env)).all (λx=>!x.1)&&(backToKw cpos (keywordEach [] X.env)).all (λx=>x.1.isSome)
  &&decide ((e::es).length+([]:List Keyword).length+(if([]:List Keyword).isEmpty then 0 else 1)<30))=true:=by rfl)
 (hline:(apos.endLine==cpos.line)=true:=by rfl)(hs:starEach (e::es) X.env=(false,eval e X.env)::starEach es X.env:=by rfl)(hplain:(backTo cpos (starEach es X.env)).any (·.1)=false:=by rfl)(hK:X.K=K:=by rfl):
 PE X (.Call (.Attribute o name apos) (e::es) [] cpos) (tBM K T r to t):=by
 subst hK;exact ei9 pa slot hty hm ho ha hbase hfew hline hs hplain
def bL(hK:X.K=K:=by rfl):CallR X (.builtin "len") (el2 K):=by subst hK;exact dh0
def ak4(hK:X.K=K:=by rfl):CallR X (.builtin "abs") ew4:=dz0
def br6(hK:X.K=K:=by rfl):CallR X (.builtin "divmod") cs0:=ca0
def jQ(hc:X.calm=true:=by rfl)(hK:X.K=K:=by rfl):CallR X (.builtin "all") (eu2 K):=by subst hK;exact dp0 hc
def bq2(hc:X.calm=true:=by rfl)(hK:X.K=K:=by rfl):CallR X (.builtin "any") (et0 K):=by subst hK;exact de2 hc
def vP(hc:X.calm=true:=by rfl)(hK:X.K=K:=by rfl):CallR X (.builtin "max") (dt3 K):=by subst hK;exact ck7 hc
def oT(hc:X.calm=true:=by rfl)(hK:X.K=K:=by rfl):CallR X (.builtin "min") (dw1 K):=by subst hK;exact cn5 hc
def cu6:List V->Hp->VK->Prop:=λxs H Q=>∃p ys,xs=[.ref p]/\(SqL K H p ys\/SqT K H p ys)/\∀l,H l=none->Q (.ref l) (upd H l (.lst ys))
def jN(hK:X.K=K:=by rfl):CallR X (.type "list") (cu6 K):=by subst hK;exact bi8
def du2(hK:X.K=K:=by rfl):MtR X "str.join" (cm2 K):=by subst hK;exact do9
end
end L2
namespace TL
open L2
section
variable{Jn:iP}{K:A1}{cn:Str->Option Addr}{E:XK}{As:List (List Addr)}{H:Hp}{Z:Addr->Prop}{Q:VK}
def aQ:T->T->Res T
 |.lst _ ts,.int n=>match atI ts n with
  |some t=>.ok t
  |none=>.no
 |.tup ts,.int n=>match atI ts n with
  |some t=>.ok t
  |none=>.no
 |.str z,.int n=>if z.length<=sizeLine then match atI z.cps.toList n with
  |some c=>.ok (.str ⟨#[c]⟩)
  |none=>.no else .no
 |_,_=>.no
theorem Reps.atI(r:Reps K cn H Z ts vs A)(h:L2.atI ts n=some t):∃v B,L2.atI vs n=some v/\Rep K cn H Z t v B:=by unfold L2.atI at h⊢;rw[N4]at h;obtain⟨j,h1,h2⟩:=h;obtain⟨v,B,e,rv,_⟩:=Reps.get ts r h2;exact⟨v,B,by rw[Reps.length ts r,h1];exact e,rv⟩
theorem eu7(ha:RB Jn K cn E ta a)(hb:RB Jn K cn E tb b):RB Jn K cn E (tOp (rIx K) ta tb) (aE aQ a b):=λAs H Z ρ σ F Q w=>by
 unfold aE at w;refine ha As H Z ρ σ F _ ?_;cases e:a ρ with
 |ok t=>
  rw[e]at w;intro v H1 Z1 B p;refine hb As H1 Z1 ρ σ (F.mo p.mo) _ ?_;simp only[Res.bind]at w;cases e2:b ρ with
  |ok u=>
   rw[e2]at w;intro v2 H2 Z2 B2 p2;have rt:=p.rep.same p2.same p2.zz;have m:=p.mo.trans p2.mo;have bU:∀{t:T}{v:V}{C:List Addr},WpB K cn E As H Z Q (.ok t)->Rep K cn H2 Z2 t v C->Q v H2:=λw r=>w _ H2 Z2 _ ⟨m.same,m.zz,m.zn,m.zi,r⟩;simp only at w;unfold aQ at w;split at w
   . next o ts n=>
     split at w
     . next t' h=>
       obtain⟨q,vs,C,rfl,hs,r,_⟩:=rt.lstSq;obtain⟨v',D,e3,rv⟩:=r.atI h;exact .inl ⟨q,vs,n,v',rfl,p2.rep.int,hs.sq,e3,bU w rv⟩
     . exact w.elim
   . next ts n=>
     split at w
     . next t' h=>
       obtain⟨q,vs,rfl,hs,r⟩:=rt.tupS;obtain⟨v',D,e3,rv⟩:=r.atI h;exact .inr (.inl ⟨q,vs,n,v',rfl,p2.rep.int,hs,e3,bU w rv⟩)
     . exact w.elim
   . next z n=>
     split at w
     . next hz=>
       split at w
       . next c h=>exact .inr (.inr ⟨z,n,c,rt.str,p2.rep.int,hz,h,bU w (az2 _)⟩)
       . exact w.elim
     . exact w.elim
   . exact w.elim
  |ex x=>rw[e2]at w;exact WpX.ev w p.mo.ev
  |no=>rw[e2]at w;exact w
 |ex x=>rw[e]at w;exact w
 |no=>rw[e]at w;exact w
def iI{α:Type}(xs:List α)(lo hi:Option Int):List α:=(xs.drop (HT.sIx xs.length 0 lo)).take (HT.sIx xs.length xs.length hi-HT.sIx xs.length 0 lo)
def rQ:T->Option Int->Option Int->Res T
 |.lst _ ts,lo,hi=>if aW ts=true then .ok (.lst true (iI ts lo hi))else .no
 |.tup ts,lo,hi=>if aW ts=true/\¬(HT.sIx ts.length 0 lo=0/\HT.sIx ts.length ts.length hi=ts.length)then .ok (.tup (iI ts lo hi))else .no
 |.str z,lo,hi=>if z.length<=sizeLine then .ok (.str (Txt.slice z lo hi))else .no
 |_,_,_=>.no
def Reps.cut(r:Reps K cn H Z ts vs [])(lo hi:Option Int):Reps K cn H Z (iI ts lo hi) (zW vs lo hi) []:=by unfold iI zW;rw[Reps.length ts r];exact Reps.take _ _ (Reps.drop _ _ r)
theorem fk0:RSR K cn (dc3 K) rQ:=λE As H Z t x A lo hi Q zi rt w=>by
 cases t with
 |lst o ts=>
  simp only[rQ]at w;split at w
  . next h=>
    obtain⟨q,vs,C,rfl,hs,r,_⟩:=rt.lstSq;exact .inl ⟨q,vs,rfl,hs.sq,λp hp=>w.newL zi ((r.bareE h).cut lo hi) p hp⟩
  . exact w.elim
 |tup ts=>
  simp only[rQ]at w;split at w
  . next h=>
    obtain⟨q,vs,rfl,hs,r⟩:=rt.tupS;exact .inr (.inl ⟨q,vs,rfl,hs,by rw[Reps.length ts r];exact h.2,λp hp=>w.newT zi ((r.bareE h.1).cut lo hi) p hp⟩)
  . exact w.elim
 |str z=>
  simp only[rQ]at w;split at w
  . next h=>rw[rt.str];exact .inr (.inr ⟨z,rfl,h,w.val zi (az2 _)⟩)
  . exact w.elim
 |_=>exact w.elim
def ff0(k:Option Int):T->Res T
 |.lst _ ts=>if aW ts=true/\k=some (-1)then .ok (.lst true ts.reverse)else .no
 |_=>.no
def ff1(a:Fr->Res T)(s:Fr->Res (Option Int)):Fr->Res T:=λρ=>(a ρ).bind λt=>(s ρ).bind λk=>ff0 k t
def Reps.one1(r:Reps K cn H Z [t] vs A):∃v,vs=[v]/\Rep K cn H Z t v A:=by simp only[Reps]at r;obtain⟨v,w,B,C,rfl,rfl,r,rfl,rfl⟩:=r;exact⟨v,rfl,by simpa using r⟩
def Reps.two2(r:Reps K cn H Z [t,u] vs A):∃v w B C,vs=[v,w]/\A=B++C/\Rep K cn H Z t v B/\Rep K cn H Z u w C:=by simp only[Reps]at r;obtain⟨v,w,B,C,rfl,rfl,r,v2,w2,B2,C2,rfl,rfl,r2,rfl,rfl⟩:=r;exact⟨v,v2,B,B2,rfl,W0,r,r2⟩
def cI:List T->Res T
 |[.str z]=>if z.length<=sizeLine then .ok (.int z.length)else .no
 |[.lst _ ts]=>.ok (.int ts.length)
 |[.tup ts]=>.ok (.int ts.length)
 |_=>.no
def et8:yC K cn (el2 K) cI:=λE As H Z ts xs A Q zi r w=>by
 unfold cI at w;split at w
 . next z=>
   split at w
   . next h=>obtain⟨v,rfl,rv⟩:=r.one1;rw[rv.str];exact⟨_,_,rfl,⟨h,rfl⟩,w.val zi (lV _)⟩
   . exact w.elim
 . next o ts=>
   obtain⟨v,rfl,rv⟩:=r.one1;obtain⟨q,vs,C,rfl,hs,r',_⟩:=rv.lstSq;exact⟨_,_,rfl,.inl ⟨vs,hs.sq,rfl⟩,by rw[Reps.length ts r'];exact w.val zi (lV _)⟩
 . next ts=>
   obtain⟨v,rfl,rv⟩:=r.one1;obtain⟨q,vs,rfl,hs,r'⟩:=rv.tupS;exact⟨_,_,rfl,.inr ⟨vs,hs,rfl⟩,by rw[Reps.length ts r'];exact w.val zi (lV _)⟩
 . exact w.elim
def af6:List T->Res T
 |[.int i]=>.ok (.int (if i<0 then -i else i))
 |_=>.no
def eo8:yC K cn ew4 af6:=λE As H Z ts xs A Q zi r w=>by
 unfold af6 at w;split at w
 . next i=>rw[r.ints1];exact⟨i,rfl,w.val zi (lV _)⟩
 . exact w.elim
noncomputable def aa5:List T->Res T
 |[.int i,.int j]=>gate (zV i j) (.ok (.tup [.int (i/j),.int (i%j)]))
 |_=>.no
def fi0(i j:Int):Reps K cn H Z [.int i,.int j] [.int i,.int j] []:=by simp only[Reps];exact⟨_,_,[],[],rfl,rfl,lV _,_,_,[],[],rfl,rfl,lV _,rfl,rfl⟩
def da0:yC K cn cs0 aa5:=λE As H Z ts xs A Q zi r w=>by
 unfold aa5 at w;split at w
 . next i j=>
   obtain⟨h,w⟩:=w.gate;rw[r.ints2];exact⟨i,j,rfl,h,λp hp=>w.newT zi (fi0 _ _) p hp⟩
 . exact w.elim
def bl5:T->Option String
 |.int _=>some "int"
 |.bl _=>some "bool"
 |.str _=>some "str"
 |.lst _ _=>some "list"
 |.tup _=>some "tuple"
 |_=>none
def dx0(tx ty:String):Option Bool:=
 if(ty="int"\/ty="bool"\/ty="str"\/ty="list"\/ty="tuple")then some (tx=ty\/(tx="bool"/\ty="int"))else none
def db7(h0:bl5 t=some tx)(h:dx0 tx ty=some b):iX tx ty b:=by
 have hx:tx="int"\/tx="bool"\/tx="str"\/tx="list"\/tx="tuple":=by cases t<;>simp[bl5]at h0<;>subst h0<;>simp
 unfold dx0 at h;split at h
 . next hy=>
   cases h;rcases hx with rfl|rfl|rfl|rfl|rfl<;>rcases hy with rfl|rfl|rfl|rfl|rfl<;>constructor
 . cases h
theorem dz1(r:Rep K cn H Z t v A)(h:bl5 t=some tx):TyN K H v tx:=by
 cases t with
 |int i=>rw[r.int];cases h;rfl
 |bl i=>rw[r.bl];cases h;rfl
 |str i=>rw[r.str];cases h;rfl
 |lst o ts=>obtain⟨q,vs,C,rfl,hs,_⟩:=r.lstSq;cases h;exact .inl ⟨rfl,vs,hs.sq⟩
 |tup ts=>obtain⟨q,vs,rfl,hs,_⟩:=r.tupS;cases h;exact .inr ⟨rfl,vs,hs⟩
 |_=>cases h
def xJ:List T->Res T
 |[t,.ty n]=>match bl5 t with
  |some tx=>match dx0 tx n with
   |some b=>.ok (.bl b)
   |none=>.no
  |none=>.no
 |_=>.no
def eh7:yC K cn (ev9 K) xJ:=λE As H Z ts xs A Q zi r w=>by
 unfold xJ at w;split at w
 . next t n=>
   split at w
   . next tx h1=>
     split at w
     . next b h2=>
       obtain⟨v,u,B,C,rfl,_,r1,r2⟩:=r.two2;simp only[Rep]at r2;rw[r2.1];exact⟨v,n,tx,b,rfl,dz1 r1 h1,db7 h1 h2,w.val zi (rW _)⟩
     . exact w.elim
   . exact w.elim
 . exact w.elim
def av4:List T->Option (List Bool)
 |[]=>some []
 |.bl b::ts=>(av4 ts).map (b:: ·)
 |_::_=>none
theorem ad6:∀(ts:List T){vs:List V}{A:List Addr}{bs:List Bool},Reps K cn H Z ts vs A->av4 ts=some bs->vs=bs.map V.bl
 |[],vs,A,bs,r,h=>by simp only[Reps]at r;cases h;exact r.1
 |t::ts,vs,A,bs,r,h=>by
  simp only[Reps]at r;obtain⟨v,vs',B,C,rfl,rfl,r1,r2⟩:=r;cases t with
  |bl b=>simp only[av4]at h;rw[K4]at h;obtain⟨bs',h1,rfl⟩:=h;rw[ad6 ts r2 h1,r1.bl];rfl
  |_=>cases h
def jU(any:Bool):List T->Res T
 |[.lst _ ts]=>match av4 ts with
  |some bs=>.ok (.bl (if any=true then bs.any id else bs.all id))
  |none=>.no
 |_=>.no
def en7:yC K cn (eu2 K) (jU false):=λE As H Z ts xs A Q zi r w=>by
 unfold jU at w;split at w
 . next o ts=>
   split at w
   . next bs h=>
     obtain⟨v,rfl,rv⟩:=r.one1;obtain⟨q,vs,C,rfl,hs,r',_⟩:=rv.lstSq;have:=ad6 ts r' h;subst this;exact⟨q,bs,rfl,hs.sq,w.val zi (rW _)⟩
   . exact w.elim
 . exact w.elim
def eb7:yC K cn (et0 K) (jU true):=λE As H Z ts xs A Q zi r w=>by
 unfold jU at w;split at w
 . next o ts=>
   split at w
   . next bs h=>
     obtain⟨v,rfl,rv⟩:=r.one1;obtain⟨q,vs,C,rfl,hs,r',_⟩:=rv.lstSq;have:=ad6 ts r' h;subst this;exact⟨q,bs,rfl,hs.sq,w.val zi (rW _)⟩
   . exact w.elim
 . exact w.elim
def zH:List T->Option (List Int)
 |[]=>some []
 |.int b::ts=>(zH ts).map (b:: ·)
 |_::_=>none
theorem wV:∀(ts:List T){vs:List V}{A:List Addr}{bs:List Int},Reps K cn H Z ts vs A->zH ts=some bs->vs=bs.map V.int
 |[],vs,A,bs,r,h=>by simp only[Reps]at r;cases h;exact r.1
 |t::ts,vs,A,bs,r,h=>by
  simp only[Reps]at r;obtain⟨v,vs',B,C,rfl,rfl,r1,r2⟩:=r;cases t with
  |int b=>simp only[zH]at h;rw[K4]at h;obtain⟨bs',h1,rfl⟩:=h;rw[wV ts r2 h1,r1.int];rfl
  |_=>cases h
theorem xB:∀ns:List Int,zH (ns.map T.int)=some ns
 |[]=>rfl
 |n::ns=>by simp[zH,xB ns]
theorem yF:∀ns:List Bool,av4 (ns.map T.bl)=some ns
 |[]=>rfl
 |n::ns=>by simp[av4,yF ns]
def cs9:List Int->Int
 |[]=>0
 |n::ns=>ns.foldl (λa b=>if b>a then b else a) n
def dj1:List Int->Int
 |[]=>0
 |n::ns=>ns.foldl (λa b=>if b<a then b else a) n
theorem bt2:∀(n:Int)(ns:List Int),(ns.foldl (λa b=>if b>a then b else a) n∈n::ns)/\∀a∈n::ns,a<=ns.foldl (λa b=>if b>a then b else a) n
 |n,[]=>by simp
 |n,m::ns=>by
  simp only[List.foldl_cons];have ih:=bt2 (if m>n then m else n) ns;refine⟨?_,λa ha=>?_⟩
  . rcases B9.mp ih.1 with h|h
    . rw[h];split<;>simp
    . exact A5 _ (A5 _ h)
  . have h1:=ih.2 (if m>n then m else n) A7;rcases B9.mp ha with rfl|ha
    . split at h1<;>rename_i hc
      . simp only[hc,if_true];omega
      . simp only[hc,if_false];exact h1
    . rcases B9.mp ha with rfl|ha
      . split at h1<;>rename_i hc
        . simp only[hc,if_true];exact h1
        . simp only[hc,if_false];omega
      . exact ih.2 a (A5 _ ha)
theorem bq3:∀(n:Int)(ns:List Int),(ns.foldl (λa b=>if b<a then b else a) n∈n::ns)/\∀a∈n::ns,ns.foldl (λa b=>if b<a then b else a) n<=a
 |n,[]=>by simp
 |n,m::ns=>by
  simp only[List.foldl_cons];have ih:=bq3 (if m<n then m else n) ns;refine⟨?_,λa ha=>?_⟩
  . rcases B9.mp ih.1 with h|h
    . rw[h];split<;>simp
    . exact A5 _ (A5 _ h)
  . have h1:=ih.2 (if m<n then m else n) A7;rcases B9.mp ha with rfl|ha
    . split at h1<;>rename_i hc
      . simp only[hc,if_true];omega
      . simp only[hc,if_false];exact h1
    . rcases B9.mp ha with rfl|ha
      . split at h1<;>rename_i hc
        . simp only[hc,if_true];exact h1
        . simp only[hc,if_false];omega
      . exact ih.2 a (A5 _ ha)
def zP:List T->Res T
 |[.int i,.int j]=>.ok (.int (if j>i then j else i))
 |[.lst _ ts]=>match zH ts with
  |some (n::ns)=>.ok (.int (cs9 (n::ns)))
  |_=>.no
 |_=>.no
def vV:List T->Res T
 |[.int i,.int j]=>.ok (.int (if j<i then j else i))
 |[.lst _ ts]=>match zH ts with
  |some (n::ns)=>.ok (.int (dj1 (n::ns)))
  |_=>.no
 |_=>.no
def ef6:yC K cn (dt3 K) zP:=λE As H Z ts xs A Q zi r w=>by
 unfold zP at w;split at w
 . next i j=>rw[r.ints2];exact .inl ⟨i,j,rfl,w.val zi (lV _)⟩
 . next o ts=>
   split at w
   . next n ns h=>
     obtain⟨v,rfl,rv⟩:=r.one1;obtain⟨q,vs,C,rfl,hs,r',_⟩:=rv.lstSq;have:=wV ts r' h;subst this;refine .inr ⟨q,n::ns,rfl,hs.sq,List.cons_ne_nil _ _,λM h1 h2=>?_⟩;obtain⟨g1,g2⟩:=bt2 n ns;have:M=cs9 (n::ns):=Int.le_antisymm (g2 M h1) (h2 _ g1);rw[this];exact w.val zi (lV _)
   . exact w.elim
 . exact w.elim
def en8:yC K cn (dw1 K) vV:=λE As H Z ts xs A Q zi r w=>by
 unfold vV at w;split at w
 . next i j=>rw[r.ints2];exact .inl ⟨i,j,rfl,w.val zi (lV _)⟩
 . next o ts=>
   split at w
   . next n ns h=>
     obtain⟨v,rfl,rv⟩:=r.one1;obtain⟨q,vs,C,rfl,hs,r',_⟩:=rv.lstSq;have:=wV ts r' h;subst this;refine .inr ⟨q,n::ns,rfl,hs.sq,List.cons_ne_nil _ _,λM h1 h2=>?_⟩;obtain⟨g1,g2⟩:=bq3 n ns;have:M=dj1 (n::ns):=Int.le_antisymm (h2 _ g1) (g2 M h1);rw[this];exact w.val zi (lV _)
   . exact w.elim
 . exact w.elim
def kW:List T->Res T
 |[.lst _ ts]=>if aW ts=true then .ok (.lst true ts)else .no
 |[.tup ts]=>if aW ts=true then .ok (.lst true ts)else .no
 |_=>.no
def ed1:yC K cn (cu6 K) kW:=λE As H Z ts xs A Q zi r w=>by
 unfold kW at w;split at w
 . next o ts=>
   split at w
   . next h=>
     obtain⟨v,rfl,rv⟩:=r.one1;obtain⟨q,vs,C,rfl,hs,r',_⟩:=rv.lstSq;exact⟨q,vs,rfl,.inl hs.sq,λl hl=>w.newL zi (r'.bareE h) l hl⟩
   . exact w.elim
 . next ts=>
   split at w
   . next h=>
     obtain⟨v,rfl,rv⟩:=r.one1;obtain⟨q,vs,rfl,hs,r'⟩:=rv.tupS;exact⟨q,vs,rfl,.inr hs,λl hl=>w.newL zi (r'.bareE h) l hl⟩
   . exact w.elim
 . exact w.elim
def fz0:T->List T->Res T
 |.str z,[.str y]=>.ok (.bl (Txt.startswith z y))
 |_,_=>.no
def aw1:List T->Option (List Str)
 |[]=>some []
 |.str b::ts=>(aw1 ts).map (b:: ·)
 |_::_=>none
theorem bf1:∀(ts:List T){vs:List V}{A:List Addr}{bs:List Str},Reps K cn H Z ts vs A->aw1 ts=some bs->vs=bs.map V.str
 |[],vs,A,bs,r,h=>by simp only[Reps]at r;cases h;exact r.1
 |t::ts,vs,A,bs,r,h=>by
  simp only[Reps]at r;obtain⟨v,vs',B,C,rfl,rfl,r1,r2⟩:=r;cases t with
  |str b=>simp only[aw1]at h;rw[K4]at h;obtain⟨bs',h1,rfl⟩:=h;rw[bf1 ts r2 h1,r1.str];rfl
  |_=>cases h
theorem ap4:∀ns:List Str,aw1 (ns.map T.str)=some ns
 |[]=>rfl
 |n::ns=>by simp[aw1,ap4 ns]
def av1:T->List T->Res T
 |.str z,[.lst _ ts]=>match aw1 ts with
  |some ys=>if(ys.map (·.length)).sum+ys.length*z.length<=16777216 then .ok (.str (Txt.join z ys))else .no
  |none=>.no
 |_,_=>.no
def ei1:RMR K cn "str" (cm2 K) av1:=λE As H Z t ts x xs A B Q zi rt r w=>by
 unfold av1 at w;split at w
 . next z o ts=>
   split at w
   . next ys h=>
     split at w
     . next hz=>
       obtain⟨v,rfl,rv⟩:=r.one1;obtain⟨q,vs,C,rfl,hs,r',_⟩:=rv.lstSq;have:=bf1 ts r' h;subst this;rw[rt.str];exact⟨z,q,ys,rfl,rfl,hs.sq,hz,w.val zi (az2 _)⟩
     . exact w.elim
   . exact w.elim
 . exact w.elim
end
open L2
theorem rV(a:α)(f:α->Res β):(Res.ok a).bind f=f a:=rfl
theorem bx5(P:Nat->Fr->Prop):∀(ts:List T)(k:Nat){ρ:Fr},P k ρ->(∀i t ρ,ts[i]?=some t->P (k+i) ρ->∃ρ1 ρ2,b t ρ=some ρ1/\(body ρ1=.nx ρ2\/body ρ1=.ct ρ2)/\P (k+i+1) ρ2)->∃ρ',cR b body ts ρ=.nx ρ'/\P (k+ts.length) ρ'
 |[],k,ρ,h0,_=>⟨ρ,rfl,h0⟩
 |t::ts,k,ρ,h0,hs=>by obtain⟨ρ1,ρ2,h1,h2,h3⟩:=hs 0 t ρ rfl h0;obtain⟨ρ',h4,h5⟩:=bx5 (b:=b) (body:=body) P ts (k+1) h3 (λi u ρ e p=>by have:=hs (i+1) u ρ (by simpa using e) (by rw[show k+(i+1)=k+1+i by omega];exact p);rw[show k+(i+1)+1=k+1+i+1 by omega]at this;exact this);refine⟨ρ',?_,by rw[D8,show k+(ts.length+1)=k+1+ts.length by omega];exact h5⟩;rcases h2 with h2|h2<;>simp only[cR,h1,h2,h4]
theorem az7(P:Nat->Fr->Prop)(hs:∀m ρ,P m ρ->(c ρ=.ok false)\/(c ρ=.ok true/\∃ρ2 m',(body ρ=.nx ρ2\/body ρ=.ct ρ2)/\m'<m/\P m' ρ2)):∀(n m:Nat){ρ:Fr},P m ρ->m<n->∃ρ' m',sR c body n ρ=.nx ρ'/\P m' ρ'/\c ρ'=.ok false
 |0,m,ρ,_,hm=>by omega
 |n+1,m,ρ,h0,hm=>by
  rcases hs m ρ h0 with h|⟨h,ρ2,m',h2,hl,hp⟩
  . exact⟨ρ,m,by simp only[sR,h,Bool.false_eq_true,if_false],h0,h⟩
  . obtain⟨ρ',m'',h4,h5,h6⟩:=az7 P hs n m' hp V8;refine⟨ρ',m'',?_,h5,h6⟩;rcases h2 with h2|h2<;>simp only[sR,h,h2,if_true,h4]
def Go(P:Fr->Prop):bO->Prop
 |.nx ρ=>P ρ
 |.ct ρ=>P ρ
 |_=>False
def GoB(P:Fr->Prop)(body:Fr->bO):Option Fr->Prop
 |some ρ=>Go P (body ρ)
 |none=>False
theorem ef9:Go P (.nx ρ)=P ρ:=rfl
theorem eq7:Go P (.ct ρ)=P ρ:=rfl
theorem dn2:GoB P body (some ρ)=Go P (body ρ):=rfl
def gY(P:Nat->Fr->Prop)(h:cR b body ts ρ=o)(h0:P 0 ρ)(hs:∀i t ρ,ts[i]?=some t->P i ρ->GoB (P (i+1)) body (b t ρ)):∃ρ',o=.nx ρ'/\P ts.length ρ':=by
 obtain⟨ρ',h1,h2⟩:=bx5 (b:=b) (body:=body) P ts 0 h0 (λi t ρ e p=>by
  have:=hs i t ρ e (by rw[Q1]at p;exact p);rw[Q1];cases e1:b t ρ with
  |none=>rw[e1]at this;exact this.elim
  |some ρ1=>
   rw[e1]at this;have g:Go (P (i+1)) (body ρ1):=this;cases e2:body ρ1 with
   |nx ρ2=>rw[e2]at g;exact⟨ρ1,ρ2,rfl,.inl e2,g⟩
   |ct ρ2=>rw[e2]at g;exact⟨ρ1,ρ2,rfl,.inr e2,g⟩
   |_=>rw[e2]at g;exact g.elim)
 rw[Q1]at h2;exact⟨ρ',by rw[<-h,h1],h2⟩
def ce3(P B:Fr->Prop)(R:T->Prop):bO->Prop
 |.nx ρ=>P ρ
 |.ct ρ=>P ρ
 |.bk ρ=>B ρ
 |.rt t=>R t
 |_=>False
def bp5(P B:Fr->Prop)(R:T->Prop)(body:Fr->bO):Option Fr->Prop
 |some ρ=>ce3 P B R (body ρ)
 |none=>False
theorem ar7(P:Nat->Fr->Prop)(B:Fr->Prop)(R:T->Prop):∀(ts:List T)(k:Nat){ρ:Fr},P k ρ->(∀i t ρ,ts[i]?=some t->P (k+i) ρ->bp5 (P (k+i+1)) B R body (b t ρ))->
 (∃ρ',cR b body ts ρ=.nx ρ'/\(P (k+ts.length) ρ'\/B ρ'))\/∃t,cR b body ts ρ=.rt t/\R t
 |[],k,ρ,h0,_=>.inl ⟨ρ,rfl,.inl h0⟩
 |t::ts,k,ρ,h0,hs=>by
  have h1:=hs 0 t ρ rfl h0;have next:∀{ρ2:Fr},P (k+1) ρ2->(∃ρ',cR b body ts ρ2=.nx ρ'/\(P (k+(ts.length+1)) ρ'\/B ρ'))\/∃t,cR b body ts ρ2=.rt t/\R t:=by intro ρ2 p;have:=ar7 (b:=b) (body:=body) P B R ts (k+1) p (λi u ρ e p=>by have:=hs (i+1) u ρ (by simpa using e) (by rw[show k+(i+1)=k+1+i by omega];exact p);rw[show k+(i+1)+1=k+1+i+1 by omega]at this;exact this);rw[show k+1+ts.length=k+(ts.length+1) by omega]at this;exact this
  rw[D8];simp only[cR];cases e1:b t ρ with
  |none=>rw[e1]at h1;exact h1.elim
  |some ρ1=>
   rw[e1]at h1;have g:ce3 (P (k+0+1)) B R (body ρ1):=h1;simp only;cases e2:body ρ1 with
   |nx ρ2=>rw[e2]at g;exact next g
   |ct ρ2=>rw[e2]at g;exact next g
   |bk ρ2=>rw[e2]at g;exact .inl ⟨ρ2,rfl,.inr g⟩
   |rt t=>rw[e2]at g;exact .inr ⟨t,rfl,g⟩
   |_=>rw[e2]at g;exact g.elim
def ce6(P:Nat->Fr->Prop)(B:Fr->Prop)(R:T->Prop)(h:cR b body ts ρ=o)(h0:P 0 ρ)(hs:∀i t ρ,ts[i]?=some t->P i ρ->bp5 (P (i+1)) B R body (b t ρ)):
 (∃ρ',o=.nx ρ'/\(P ts.length ρ'\/B ρ'))\/∃t,o=.rt t/\R t:=by
 have:=ar7 (b:=b) (body:=body) P B R ts 0 h0 (λi t ρ e p=>by rw[Q1]at p⊢;exact hs i t ρ e p);rw[Q1,h]at this;exact this
def GoW(P:Fr->Prop)(body:Fr->bO)(ρ:Fr):Res Bool->Prop
 |.ok true=>Go P (body ρ)
 |.ok false=>True
 |_=>False
def ct7(P:Nat->Fr->Prop)(h:ac4 c body ρ=o)(h0:P m ρ)(hm:m<10^12)(hs:∀m ρ,P m ρ->GoW (λρ2=>∃m',m'<m/\P m' ρ2) body ρ (c ρ)):∃ρ' m',o=.nx ρ'/\P m' ρ'/\c ρ'=.ok false:=by
 obtain⟨ρ',m',h1,h2,h3⟩:=az7 (c:=c) (body:=body) P (λm ρ p=>by
  have g:=hs m ρ p;cases e:c ρ with
  |ok k=>
   rw[e]at g;cases k with
   |false=>exact .inl rfl
   |true=>
    have g':Go (λρ2=>∃m',m'<m/\P m' ρ2) (body ρ):=g;refine .inr ⟨rfl,?_⟩;cases e2:body ρ with
    |nx ρ2=>rw[e2]at g';obtain⟨m',q1,q2⟩:=g';exact⟨ρ2,m',.inl rfl,q1,q2⟩
    |ct ρ2=>rw[e2]at g';obtain⟨m',q1,q2⟩:=g';exact⟨ρ2,m',.inr rfl,q1,q2⟩
    |_=>rw[e2]at g';exact g'.elim
  |_=>rw[e]at g;exact g.elim) yW m h0 (F6 hm dx6)
 exact⟨ρ',m',by rw[<-h];exact h1,h2,h3⟩
theorem em5(i j:Int):bS (.int i) (.int j)=.ok (.int (i+j)):=rfl
theorem ek2(a b:Str):bS (.str a) (.str b)=gate (a.length+b.length<=sizeLine) (.ok (.str (a++b))):=rfl
theorem ai8(o o':Bool)(xs ys:List T):bS (.lst o xs) (.lst o' ys)=gate ((aW xs&&aW ys)=true/\xs.length+ys.length<=sizeLine) (.ok (.lst true (xs++ys))):=rfl
theorem be6(xs ys:List T):bS (.tup xs) (.tup ys)=gate ((aW xs&&aW ys)=true/\xs.length+ys.length<=sizeLine/\xs.isEmpty=false/\ys.isEmpty=false) (.ok (.tup (xs++ys))):=rfl
theorem ex3(i j:Int):eJ (.int i) (.int j)=.ok (.int (i-j)):=rfl
theorem ex4(i j:Int):pY (.int i) (.int j)=gate (mulOk i j) (.ok (.int (i*j))):=rfl
theorem ew3(z:Str)(k:Int):pY (.str z) (.int k)=gate (-(2^63)<=k/\k<2^62/\z.length*k.toNat<=sizeLine) (.ok (.str (ar1 z k.toNat))):=rfl
theorem do6(i j:Int):iG (.int i) (.int j)=gate (zV i j) (.ok (.int (i/j))):=rfl
theorem et2(i j:Int):cK (.int i) (.int j)=gate (0<j) (.ok (.int (i%j))):=rfl
theorem ai7(i j:Int):af4 (.int i) (.int j)=gate (at3 i j) (.ok (.int (i^j.toNat))):=rfl
theorem eh6(i:Int):nR (.int i)=.ok (.int (-i)):=rfl
theorem ez6(i j:Int):vN (.int i) (.int j)=.ok (.bl (decide (i<j))):=rfl
theorem er5(i j:Int):tH (.int i) (.int j)=.ok (.bl (decide (i<=j))):=rfl
theorem ey5(i j:Int):vW (.int i) (.int j)=.ok (.bl (decide (j<i))):=rfl
theorem eu5(i j:Int):geT (.int i) (.int j)=.ok (.bl (decide (j<=i))):=rfl
theorem ex6(a b:Bool):pW (.bl a) (.bl b)=.ok (.bl (a==b)):=rfl
theorem ew8:pW .non .non=.ok (.bl true):=rfl
theorem eu6(i:Int):pW (.int i) .non=.ok (.bl false):=rfl
theorem ev5(i:Str):pW (.str i) .non=.ok (.bl false):=rfl
theorem ep5(o:Bool)(i:List T):pW (.lst o i) .non=.ok (.bl false):=rfl
theorem em7(i:List T):pW (.tup i) .non=.ok (.bl false):=rfl
theorem di3:jC .non .non=.ok (.bl false):=rfl
theorem cq9(i:Int):jC (.int i) .non=.ok (.bl true):=rfl
theorem dl3(i:Str):jC (.str i) .non=.ok (.bl true):=rfl
theorem df1(o:Bool)(i:List T):jC (.lst o i) .non=.ok (.bl true):=rfl
theorem dl1(i:List T):jC (.tup i) .non=.ok (.bl true):=rfl
theorem el7(i j:Int):eV (.int i) (.int j)=.ok (.bl (i==j)):=rfl
theorem ek7(i j:Str):eV (.str i) (.str j)=.ok (.bl (i==j)):=rfl
theorem ex5(i j:Bool):eV (.bl i) (.bl j)=.ok (.bl (i==j)):=rfl
theorem ea8(i j:Int):neT (.int i) (.int j)=.ok (.bl (!(i==j))):=rfl
theorem eb9(i j:Str):neT (.str i) (.str j)=.ok (.bl (!(i==j))):=rfl
theorem en6(i j:Bool):neT (.bl i) (.bl j)=.ok (.bl (!(i==j))):=rfl
theorem ed6(n:Bool)(i j:Str):inT n (.str i) (.str j)=.ok (.bl (if n=true then !occ j i else occ j i)):=rfl
theorem eu8(o:Bool)(ts:List T)(n:Int):aQ (.lst o ts) (.int n)=match atI ts n with|some t=>.ok t|none=>.no:=rfl
theorem vD(ts:List T)(n:Int):aQ (.tup ts) (.int n)=match atI ts n with|some t=>.ok t|none=>.no:=rfl
theorem eo6(z:Str)(n:Int):aQ (.str z) (.int n)=if z.length<=sizeLine then match atI z.cps.toList n with|some c=>.ok (.str ⟨#[c]⟩)|none=>.no else .no:=rfl
theorem fn0(o:Bool)(ts:List T)(lo hi:Option Int):rQ (.lst o ts) lo hi=if aW ts=true then .ok (.lst true (iI ts lo hi))else .no:=rfl
theorem fj0(ts:List T)(lo hi:Option Int):rQ (.tup ts) lo hi=if aW ts=true/\¬(HT.sIx ts.length 0 lo=0/\HT.sIx ts.length ts.length hi=ts.length)then .ok (.tup (iI ts lo hi))else .no:=rfl
theorem fp0(z:Str)(lo hi:Option Int):rQ (.str z) lo hi=if z.length<=sizeLine then .ok (.str (Txt.slice z lo hi))else .no:=rfl
theorem ef8(z:Str):cI [.str z]=if z.length<=sizeLine then .ok (.int z.length)else .no:=rfl
theorem cl2(o:Bool)(ts:List T):cI [.lst o ts]=.ok (.int ts.length):=rfl
theorem ca3(ts:List T):cI [.tup ts]=.ok (.int ts.length):=rfl
theorem eg7(i:Int):af6 [.int i]=.ok (.int (if i<0 then -i else i)):=rfl
theorem cm5(i j:Int):aa5 [.int i,.int j]=gate (zV i j) (.ok (.tup [.int (i/j),.int (i%j)])):=rfl
theorem dk4(i:Int):xJ [.int i,.ty "int"]=.ok (.bl true):=W3
theorem cc7(i:Int):xJ [.int i,.ty "bool"]=.ok (.bl false):=W3
theorem dz4(i:Bool):xJ [.bl i,.ty "bool"]=.ok (.bl true):=W3
theorem cs7(i:Bool):xJ [.bl i,.ty "int"]=.ok (.bl true):=W3
theorem do5(i:List T):xJ [.tup i,.ty "tuple"]=.ok (.bl true):=W3
theorem dl5(o:Bool)(i:List T):xJ [.lst o i,.ty "list"]=.ok (.bl true):=W3
theorem ed8(i:Str):xJ [.str i,.ty "str"]=.ok (.bl true):=W3
theorem ec5(i:Str):xJ [.str i,.ty "int"]=.ok (.bl false):=W3
theorem cq2(a o:Bool)(bs:List Bool):jU a [.lst o (bs.map .bl)]=.ok (.bl (if a=true then bs.any id else bs.all id)):=by simp only[jU,yF]
theorem el4(i j:Int):zP [.int i,.int j]=.ok (.int (if j>i then j else i)):=rfl
theorem eg5(i j:Int):vV [.int i,.int j]=.ok (.int (if j<i then j else i)):=rfl
theorem ep8(o:Bool)(n:Int)(ns:List Int):zP [.lst o ((n::ns).map .int)]=.ok (.int (cs9 (n::ns))):=by simp only[zP,xB]
theorem eh9(o:Bool)(n:Int)(ns:List Int):vV [.lst o ((n::ns).map .int)]=.ok (.int (dj1 (n::ns))):=by simp only[vV,xB]
theorem em2(o:Bool)(ts:List T):kW [.lst o ts]=if aW ts=true then .ok (.lst true ts)else .no:=rfl
theorem el5(ts:List T):kW [.tup ts]=if aW ts=true then .ok (.lst true ts)else .no:=rfl
theorem cf1(z:Str)(o:Bool)(ys:List Str):av1 (.str z) [.lst o (ys.map .str)]=if(ys.map (·.length)).sum+ys.length*z.length<=16777216 then .ok (.str (Txt.join z ys))else .no:=by simp only[av1,ap4]
theorem ep6(o:Bool)(ts:List T):jG (.lst o ts)=if aW ts=true then .ok ts else .no:=rfl
theorem du4(ts:List T):jG (.tup ts)=if aW ts=true then .ok ts else .no:=rfl
theorem es6(z:Str):jG (.str z)=.ok (z.cps.toList.map λc=>T.str ⟨#[c]⟩):=rfl
theorem ex8(ts:List T):rP (.lst false ts)=if aW ts=true then .ok ts else .no:=by simp only[rP,Bool.not_false,Bool.true_and]
theorem eq5(ts:List T):rP (.tup ts)=if aW ts=true then .ok ts else .no:=rfl
theorem ey7(z:Str):rP (.str z)=.ok (z.cps.toList.map λc=>T.str ⟨#[c]⟩):=rfl
theorem ab9(j:Int):kG [.int j]=gate (-(2^62)<=j/\j<2^62) (.ok (gM 0 j.toNat)):=rfl
theorem dm5(i j:Int):xS [.int i,.int j]=gate (-(2^62)<=i/\i<2^62/\-(2^62)<=j/\j<2^62) (.ok (gM i (j-i).toNat)):=rfl
theorem ei7(b:Bool):zL (.bl b)=.ok b:=rfl
theorem ec9(b:Int):zL (.int b)=.ok (b !=0):=rfl
theorem ei6:zL .non=.ok false:=rfl
theorem er7(o:Bool)(b:List T):zL (.lst o b)=.ok (!b.isEmpty):=rfl
theorem ew5(b:Bool):toB (.bl b)=.ok b:=rfl
theorem ea9(i:Int):toI (.int i)=.ok (some i):=rfl
theorem cW:∀{l:List α},(∀a∈l,d (ρ.set k (some (g a)))=.ok (f a))->bY (aH k) cG d ρ (l.map g)=.ok (l.map f)
 |[],_=>rfl
 |a::l,h=>by simp only[List.map_cons,bY,aH,cG,rV,if_true,h a List.mem_cons_self,cW (λu hu=>h u (List.mem_cons_of_mem _ hu))]
theorem pD:∀{l:List α},(∀a∈l,c (ρ.set k (some (g a)))=.ok (p a)/\(p a=true->d (ρ.set k (some (g a)))=.ok (f a)))->bY (aH k) c d ρ (l.map g)=.ok ((l.filter p).map f)
 |[],_=>rfl
 |a::l,h=>by
  obtain⟨h1,h2⟩:=h a A7;have ih:=pD (k:=k) (c:=c) (d:=d) (ρ:=ρ) (g:=g) (f:=f) (p:=p) (l:=l) (λu hu=>h u (A5 _ hu));cases hp:p a with
  |true=>simp only[List.map_cons,bY,aH,h1,hp,h2 hp,rV,if_true,List.filter_cons,ih]
  |false=>simp only[List.map_cons,bY,aH,h1,hp,rV,Bool.false_eq_true,if_false,List.filter_cons,ih]
theorem mN{lo:Int}{n i:Nat}{t:T}(h:(gM lo n)[i]?=some t):i<n/\t=.int (lo+i):=by
 unfold gM at h;rw[F7]at h;cases q:(List.range n)[i]? with
 |none=>rw[q]at h;cases h
 |some j=>rw[q]at h;obtain⟨h1,h2⟩:=C7.mp q;simp at h1 h2;subst h2;cases h;exact⟨h1,rfl⟩
def gT(lo:Int)(n:Nat):(gM lo n).length=n:=by simp[gM]
theorem fS{α:Type}{g:α->T}(h:∀a,cB (g a)=true):∀l:List α,aW (l.map g)=true
 |[]=>rfl
 |a::l=>by simp only[List.map_cons,aW,h a,fS h l,Bool.and_self]
theorem rK{α:Type}{g:α->T}(h:∀a,frz (g a)=g a):∀l:List α,frzs (l.map g)=l.map g
 |[]=>rfl
 |a::l=>by simp only[List.map_cons,frzs,h a,rK h l]
theorem jI{α:Type}{g:α->T}(h:∀a,cM (g a)=true):∀l:List α,bZ (l.map g)=true
 |[]=>rfl
 |a::l=>by simp only[List.map_cons,bZ,h a,jI h l,Bool.and_self]
theorem lW(l:List Int):aW (l.map T.int)=true:=fS (λ_=>rfl) l
theorem oJ(l:List Int):frzs (l.map T.int)=l.map T.int:=rK (λ_=>rfl) l
theorem qC(l:List Int):bZ (l.map T.int)=true:=jI (λ_=>rfl) l
theorem nP(l:List Str):aW (l.map T.str)=true:=fS (λ_=>rfl) l
theorem yN(l:List Str):frzs (l.map T.str)=l.map T.str:=rK (λ_=>rfl) l
theorem zJ(l:List Str):bZ (l.map T.str)=true:=jI (λ_=>rfl) l
def dq6(z:Str):z.length=z.cps.toList.length:=J1.symm
open L2
section
variable{Jn:iP}{K:A1}{cn:Str->Option Addr}{E:XK}
def iA(cs:List Str)(f:Str):T->Res T
 |.ins _ c ns ts=>if cs.contains c=true then match(ns.zip ts).lookup f with
  |some t=>.ok t
  |none=>.no else .no
 |_=>.no
def lP(K:A1)(cn:Str->Option Addr)(cs:List Str)(f:Str):Prop:=∀c∈cs,∀C,cn c=some C->Cls K C/\NoAttr K C f
theorem Reps.lookup:∀(ns:List Str)(ts:List T){vs:List V}{A:List Addr},Reps K cn H Z ts vs A->(ns.zip ts).lookup f=some t->∃v B,(ns.zip vs).lookup f=some v/\Rep K cn H Z t v B
 |[],ts,_,_,_,e=>by simp at e
 |n::ns,[],_,_,_,e=>by simp at e
 |n::ns,u::ts,vs,A,r,e=>by
  simp only[Reps]at r;obtain⟨v,r',B,C,rfl,rfl,h1,h2⟩:=r;rw[N7,G8]at e⊢;cases q:f==n with
  |true=>rw[q]at e;cases e;exact⟨v,B,rfl,h1⟩
  |false=>rw[q]at e;exact Reps.lookup ns ts h2 e
theorem Rep.insS(r:Rep K cn H Z (.ins o c ns ts) v B):∃a C dx vs D,v=.ref a/\cn c=some C/\H a=some (.ins C dx (ns.zip vs))/\ns.length=vs.length/\Reps K cn H Z ts vs D:=by
 cases o with
 |true=>simp only[Rep]at r;obtain⟨a,C,dx,vs,D,rfl,_,hc,e,l,r⟩:=r;exact⟨a,C,dx,vs,D,rfl,hc,e,l,r⟩
 |false=>simp only[Rep]at r;obtain⟨a,C,dx,vs,rfl,_,hc,e,_,l,r⟩:=r;exact⟨a,C,dx,vs,[],rfl,hc,e,l,r⟩
theorem ed3(hf:lP K cn cs f)(ha:RB Jn K cn E ta a):RB Jn K cn E (dq1 K ta f) (fV (iA cs f) a):=λAs H Z ρ σ F Q w=>by
 unfold fV at w;refine ha As H Z ρ σ F _ ?_;cases e:a ρ with
 |ok t=>
  rw[e]at w;intro v H1 Z1 B p;simp only[Res.bind]at w;unfold iA at w;split at w
  . next o c ns ts=>
    split at w
    . next hc=>
      split at w
      . next t' h=>
        obtain⟨q,C,dx,vs,D,rfl,hC,eq,_,r⟩:=p.rep.insS;obtain⟨v',B',e3,rv⟩:=Reps.lookup ns ts r h;obtain⟨k1,k2⟩:=hf c (by simpa using hc) C hC;exact⟨q,C,dx,_,v',rfl,eq,k1,k2,e3,w v' H1 Z1 B' ⟨p.same,p.zz,p.zn,p.zi,rv⟩⟩
      . exact w.elim
    . exact w.elim
  . exact w.elim
 |ex x=>rw[e]at w;exact w
 |no=>rw[e]at w;exact w
def iO(f:Str):List Str->Option Nat
 |[]=>none
 |n::ns=>if n=f then some 0 else(iO f ns).map (· +1)
theorem ca1:∀(ns:List Str)(vs:List V){k:Nat},ns.length=vs.length->iO f ns=some k->mB f y (ns.zip vs)=ns.zip (vs.set k y)
 |[],_,_,_,h=>by simp[iO]at h
 |n::ns,[],_,l,_=>by simp at l
 |n::ns,w::vs,k,l,h=>by
  unfold iO at h;rw[N7,mB];by_cases q:n=f
  . rw[E6 q]at h;cases h;rw[E6 q];rfl
  . rw[E5 q,K4]at h;obtain⟨k',h1,rfl⟩:=h;rw[E5 q,ca1 ns vs (by simpa using l) h1];rfl
theorem bj7:∀(ns:List Str)(vs:List V),ns.length=vs.length->iO f ns=none->mB f y (ns.zip vs)=(ns++[f]).zip (vs++[y])
 |[],[],_,_=>rfl
 |[],w::vs,l,_=>by simp at l
 |n::ns,[],l,_=>by simp at l
 |n::ns,w::vs,l,h=>by
  unfold iO at h;rw[N7,mB];by_cases q:n=f
  . rw[E6 q]at h;cases h
  . rw[E5 q,Option.map_eq_none_iff]at h;rw[E5 q,bj7 ns vs (by simpa using l) h];rfl
def fe1(j:Nat)(cs:List Str)(f:Str)(d:Fr->Res (List Nat)):Fr->Res (List Nat):=λρ=>(d ρ).bind λp=>match ρ[j]? with
 |some (some t0)=>match eX p t0 with
  |some (.ins o c ns ts)=>if(o&&cs.contains c)=true then match iO f ns with
   |some k=>if k<ts.length then .ok (p++[k])else .no
   |none=>.no else .no
  |_=>.no
 |_=>.no
def vT(j:Nat)(mv:List Nat)(cs:List Str)(f:Str)(e:Fr->Res T)(d:Fr->Res (List Nat)):Fr->bO:=λρ=>match e ρ with
 |.ok t=>match(kills mv ρ)[j]? with
  |some (some t0)=>match d (kills mv ρ)with
   |.ok p=>match eX p t0 with
    |some (.ins o c ns us)=>if(o&&cs.contains c&&decide (ns.length<1000))=true then match iO f ns with
     |some k=>if k<us.length then bq6 j p (.ins true c ns (us.set k t)) (kills mv ρ)else .no
     |none=>bq6 j p (.ins true c (ns++[f]) (us++[t])) (kills mv ρ)
     else .no
    |_=>.no
   |.ex x=>.ex x
   |.no=>.no
  |_=>.no
 |.ex x=>.ex x
 |.no=>.no
theorem eg4(hf:lP K cn cs f)(he:RE Jn K cn E mv te e)(hd:RP Jn K cn E j to d):RS Jn K cn E (du0 K to te f) (vT j mv cs f e d):=λAs H Z ρ σ F D w=>by
 unfold vT at w;refine he As H Z ρ σ F _ ?_;cases ee:e ρ with
 |ok t=>
  rw[ee]at w;intro y H1 Z1 C p1;simp only at w;have F1:=(F.mo p1.mo).kills mv;cases e1:(kills mv ρ)[j]? with
  |none=>rw[e1]at w;exact w.elim
  |some o=>
   rw[e1]at w;cases o with
   |none=>exact w.elim
   |some t0=>
    obtain⟨v0,e2,r0⟩:=F1.sl.get e1;simp only at w;have ev1:Ev As H Z (gB mv As) H1 Z1:=⟨λb o q _=>p1.same b o q,λb hb=>.inl (gA hb),p1.zz,λb h=>(p1.zn b h).imp_right .inr,λb h=>p1.same.free h⟩;refine hd (gB mv As) H1 Z1 (kills mv ρ) σ F1 t0 v0 e1 e2 r0 _ ?_;cases ed:d (kills mv ρ)with
    |ok p=>
     rw[ed]at w;intro u v B H2 Z2 m2 hn pl;simp only[hn]at w;split at w
     . next o c ns us hq=>
       cases hq;split at w
       . next hc=>
         rw[G1,G1]at hc;obtain⟨⟨rfl,hc⟩,hl⟩:=hc;have hl:=of_decide_eq_true hl;have q:=pl.rep;simp only[Rep]at q;obtain⟨a,C',dx,ws,C0,rfl,rfl,hC,ea,l,rs⟩:=q;have rt:Rep K cn H2 Z2 t y C:=p1.rep.same m2.same m2.zz;have F2:=F1.mo m2;have lw:=Reps.length us rs;obtain⟨k1,k2⟩:=hf c (by simpa using hc) C' hC;refine⟨a,C',dx,_,rfl,ea,k1,k2,by rw[List.length_zip];omega,?_⟩;have ndB:(a::C0).Nodup:=(kN F1.nd j).sublist pl.sub;have cA:∀x∈C0,x∈(gB mv As).getD j []:=λx hx=>pl.sub.mem (A5 _ hx);have cOut:=p1.out F;have cz:∀x∈C,¬Z2 x:=λx hx z=>by
          rcases m2.zn x z with z|z
          . exact p1.bz x hx z
          . obtain⟨o,ho,_⟩:=p1.rep.dom t x hx;rw[ho]at z;cases z
         cases ek:iO f ns with
         |none=>
          rw[ek]at w;rw[bj7 ns ws l ek];refine bl1 (As:=As) (H:=H) (Z:=Z) (E:=E) F2 e1 e2 pl rfl rfl ea rfl (u':=.ins true c (ns++[f]) (us++[t])) (C:=C0++C) (λaC aZ=>?_) ?_ ?_ ?_ (ev1.trans m2.ev) ?_ w
          . simp only[Rep];exact⟨a,C',dx,ws++[y],C0++C,rfl,rfl,hC,fR,by simp[l],(Reps.append us rs (Reps.one rt)).upd ea rfl aC aZ⟩
          . rw[C9];exact⟨(E9.mp ndB).2,p1.nd,λx hx z hz e=>by subst e;exact cOut x hz (bA (cA x hx))⟩
          . intro x hx;rcases A3.mp hx with hx|hx
            . exact F2.nz x (bA (cA x hx))
            . exact cz x hx
          . intro x hx hA;rcases A3.mp hx with hx|hx
            . exact hx
            . exact B0 hA (cOut x hx)
          . intro x hx;rcases A3.mp hx with hx|hx
            . exact .inl (gA (bA (cA x hx)))
            . exact p1.inA x hx
         |some k=>
          rw[ek]at w;simp only at w;split at w
          . next hk=>
            rw[ca1 ns ws l ek];obtain⟨B1,Bo,B2,rfl,rs'⟩:=Reps.put rt us rs hk;have i1:∀x∈B1,x∈B1++Bo++B2:=λx hx=>D7 _ (D7 _ hx);have i2:∀x∈B2,x∈B1++Bo++B2:=λx hx=>B6 _ hx;have nd1:=(E9.mp ndB).2;rw[J4,C9]at nd1;obtain⟨n1,n2,n3⟩:=nd1;rw[C9]at n2;refine bl1 (As:=As) (H:=H) (Z:=Z) (E:=E) F2 e1 e2 pl rfl rfl ea rfl (u':=.ins true c ns (us.set k t)) (C:=B1++C++B2) (λaC aZ=>?_) ?_ ?_ ?_ (ev1.trans m2.ev) ?_ w
            . simp only[Rep];exact⟨a,C',dx,ws.set k y,B1++C++B2,rfl,rfl,hC,fR,by simp[l],rs'.upd ea rfl aC aZ⟩
            . rw[J4,C9];refine⟨n1,?_,λx hx z hz e=>?_⟩
              . rw[C9];exact⟨p1.nd,n2.2.1,λx hx z hz e=>by subst e;exact cOut x hx (bA (cA x (i2 x hz)))⟩
              . subst e;rcases A3.mp hz with hz|hz
                . exact cOut x hz (bA (cA x (i1 x hx)))
                . exact n3 x hx x (B6 _ hz) rfl
            . intro x hx;rcases A3.mp hx with hx|hx
              . rcases A3.mp hx with hx|hx
                . exact F2.nz x (bA (cA x (i1 x hx)))
                . exact cz x hx
              . exact F2.nz x (bA (cA x (i2 x hx)))
            . intro x hx hA;rcases A3.mp hx with hx|hx
              . rcases A3.mp hx with hx|hx
                . exact i1 x hx
                . exact B0 hA (cOut x hx)
              . exact i2 x hx
            . intro x hx;rcases A3.mp hx with hx|hx
              . rcases A3.mp hx with hx|hx
                . exact .inl (gA (bA (cA x (i1 x hx))))
                . exact p1.inA x hx
              . exact .inl (gA (bA (cA x (i2 x hx))))
          . exact w.elim
       . exact w.elim
     . exact w.elim
    |ex x=>rw[ed]at w;exact WpX.ev w ev1
    |no=>rw[ed]at w;exact w
 |ex x=>rw[ee]at w;exact w
 |no=>rw[ee]at w;exact w
def spI(K:A1)(cn:Str->Option Addr)(c:Str)(n:Nat)(G:List T->Res T):Sp:=λvs H Q E=>vs.length=n+1/\∃x C dx us ts Z,vs=.ref x::us/\cn c=some C/\H x=some (.ins C dx [])/\¬Z x/\(∀a,Z a->H a≠none)/\Reps K cn H Z ts us []/\
 match G ts with
 |.ok t=>∀H' Z' B,Ev [[x]] H Z [B] H' Z'->Rep K cn H' Z' t (.ref x) B->B.Nodup->(∀b∈B,¬Z' b)->(∀a,Z' a->H' a≠none)->Q .non H'
 |.ex e=>WpX K cn E [[x]] H Z e
 |.no=>False
theorem dg9(hc:cn c=some C)(ha:RAB Jn K cn E ta a):RE Jn K cn E [] (cw3 C (spI K cn c n G) [] E' ta) (aX n G a):=λAs H Z ρ σ F Q w=>by
 unfold aX at w;refine ha As H Z ρ σ F _ ?_;cases e:a ρ with
 |ok ts=>
  rw[e]at w;intro vs H1 Z1 B m r1 x dx hx hdx hne;simp only[Res.bind]at w;split at w
  . next hn=>
    have hs:Same H1 (L2.upd (L2.upd H1 dx (.own x)) x (.ins C dx [])):=λb u q=>by rw[cV (jK q hx),cV (jK q hdx)];exact q
    refine⟨by simp[Reps.length ts r1,hn],x,C,dx,vs,frzs ts,(λa=>Z1 a\/a∈B),W0,hc,by rw[fR],λh=>?_,λa h=>?_,(Reps.frz ts r1 (λa h=>.inl h) (λa h=>.inr h)).same hs (λ_ h=>h),?_⟩
    . rcases h with h|h
      . exact m.zi x h hx
      . obtain⟨o,q,_⟩:=Reps.dom ts r1 x h;rw[hx]at q;cases q
    . intro q;have q':=hs.free q;rcases h with h|h
      . exact m.zi a h q'
      . obtain⟨o,q2,_⟩:=Reps.dom ts r1 a h;rw[q2]at q';cases q'
    cases e2:G (frzs ts)with
    |ok t=>
     rw[e2]at w;intro H2 Z2 C2 ev r2 nd bz zi2;refine⟨rfl,?_⟩;simp only at w;have sm:Same H1 H2:=λb u q=>ev.keep b u (hs b u q) (by simpa using jK q hx);have bn:∀b∈C2,H1 b=none:=λb hb=>by
      rcases ev.own b (by simpa using hb)with q|q
      . have:b=x:=by simpa using q
        rw[this];exact hx
      . exact hs.free q
     split at w
     . next hcl=>
       rw[S9]at hcl;by_cases hcl':cM t=true
       . refine w _ H2 Z1 C2 ⟨m.same.trans sm,m.zz,λa h=>m.zn a h,λa h q=>m.zi a h (sm.free q),Rep.any t hcl' r2,nd,λb hb z=>m.zi b z (bn b hb),λb hb=>.inl (m.same.free (bn b hb))⟩
       . have hno:=hcl.resolve_left hcl';have hB:=Reps.bare ts hno r1;subst hB;refine w _ H2 Z2 C2 ⟨m.same.trans sm,λa h=>ev.zz a (.inl (m.zz a h)),λa h=>?_,zi2,r2,nd,bz,λb hb=>.inl (m.same.free (bn b hb))⟩;rcases ev.zn a h with(h|h)|h|h
         . exact m.zn a h
         . cases h
         . have:a=x:=by simpa using h
           rw[this];exact .inr (m.same.free hx)
         . exact .inr (m.same.free (hs.free h))
     . exact w.elim
    |ex x=>rw[e2]at w;exact w.elim
    |no=>rw[e2]at w;exact w.elim
  . exact w.elim
 |ex x=>rw[e]at w;exact w
 |no=>rw[e]at w;exact w
def kY:bO->Res T
 |.nx ρ=>match ρ[0]? with
  |some (some t)=>.ok t
  |_=>.no
 |.ex x=>.ex x
 |_=>.no
theorem de7{c:Str}{P:F9}{w:World}{mg:Str->Option Value}{base:Heap}{x qual:Str}{st:Stmt}{f:Addr}{fd:FuncData}{N ps:List Str}{k:Nat}{d:Fr->bO}(F:Fun K x qual st f fd)(S:bB N ps (aO st))
 (hbody:∀(y:Addr)(cdv:Value)(A:J5)(outer:List Env)(s:B7)(H:Hp)(E:XK),Room k (A.deeper (envOfC qual (aO st) s.heap.objs.size f cdv))->
  ∃t,PSs (nU lH P w K mg base N qual (aO st) f cdv A outer s H E).nox (eM st) t/\RS [(0,.ref y)] K cn E t d){n:Nat}{G:List T->Res T}(hn:ps.length=n+1)(hG:∀ts,G ts=kY (d (cE N.length (.ins true c [] []::ts)))):FnOk P w K mg base lH (k+1) f fd ps (spI K cn c n G):=by
 have eG:G=λts=>kY (d (cE N.length (.ins true c [] []::ts))):=funext hG;subst eG;refine F.ok S (λvs H Q E h=>by rw[hn];exact h.1) λcdv A outer s H vs Q E hr h=>?_;obtain⟨hl,y,C,dx,us,ts,Z,rfl,hC,hy,hZ,zi,r,w⟩:=h;obtain⟨t,hp,ht⟩:=hbody y cdv A outer s H E hr;refine⟨t,hp,?_⟩;have lt:=Reps.length ts r;have ry:Rep K cn H Z (.ins true c [] []) (.ref y) [y]:=by simp only[Rep,Reps];exact⟨y,C,dx,[],[],rfl,rfl,hC,hy,rfl,rfl,rfl⟩
 let m:=N.length-(ts.length+1);have sl:Slots K cn H Z (cE N.length (.ins true c [] []::ts)) (L2.start N (.ref y::us)) ([y]::List.replicate (ts.length+m) []):=by
  unfold cE L2.start;refine⟨some (.ref y),us.map some++List.replicate m none,[y],_,?_,rfl,⟨_,rfl,ry⟩,?_⟩
  . simp only[List.map_cons,List.length_cons,lt,List.cons_append];rfl
  . exact aj4 ts r
 have fl:([y]::List.replicate (ts.length+m) []).flatten=[y]:=by rw[C4,mX];rfl
 have F0:Frm [(0,.ref y)] K cn H Z (cE N.length (.ins true c [] []::ts)) (L2.start N (.ref y::us)) ([y]::List.replicate (ts.length+m) []):=
  ⟨sl,by rw[fl];simp,by rw[fl];intro a ha;have:a=y:=(by simpa using ha);rw[this];exact hZ,zi,λp hp=>by rw[C5]at hp;subst hp;rfl⟩
 refine ht _ H Z _ _ F0 _ ?_;cases ed:d (cE N.length (.ins true c [] []::ts))with
 |nx ρ=>
  simp only[ed,kY]at w;intro σ' As' H' Z' F' ev;cases e0:ρ[0]? with
  |none=>rw[e0]at w;exact w.elim
  |some o=>
   rw[e0]at w;cases o with
   |none=>exact w.elim
   |some t0=>
    simp only at w;obtain⟨v,e1,r1⟩:=F'.sl.get e0;have e2:=F'.pn (0,.ref y) (C5.mpr rfl);simp only at e2;rw[e1]at e2;cases e2;refine w H' Z' (As'.getD 0 []) ⟨λa o h q=>ev.keep a o h (by rw[fl];simpa using q),λa ha=>?_,ev.zz,λa h=>?_,ev.dom⟩ r1 (kN F'.nd 0) (λb hb=>F'.nz b (bA hb)) F'.zi
    . have q:=ev.own a (bA (i:=0) (by simpa using ha));rw[fl]at q;simpa using q
    . have q:=ev.zn a h;rw[fl]at q;simpa using q
 |ex e=>simp only[ed,kY]at w;exact WpX.ev w ⟨λ_ _ q _=>q,λa ha=>(by rw[fl]at ha;exact .inl (by simpa using ha)),λ_ h=>h,λ_ h=>.inl h,λ_ h=>h⟩
 |rt t=>simp only[ed,kY]at w
 |bk ρ=>simp only[ed,kY]at w
 |rm ρ t=>simp only[ed,kY]at w
 |ct ρ=>simp only[ed,kY]at w
 |no=>simp only[ed,kY]at w
end
end TL
namespace L2
structure mD (P:F9) (w:World) (K:A1) (mg:Str->Option Value) (base:Heap) (k:Nat) (C:Addr) (m:Str) (sp:Sp):Prop where
 ex:∃f fd ps,Cls K C/\dq3 K C m f/\FnOk P w K mg base lH k f fd ps sp/\Binds K fd ps []
structure Mak (P:F9) (w:World) (K:A1) (mg:Str->Option Value) (base:Heap) (k:Nat) (x:Str) (C:Addr) (sp:Sp):Prop where
 ex:∃f fd ps,Mk K C f/\FnOk P w K mg base lH k f fd ps sp/\mg x=some (.ref C)/\Binds K fd ps []
def bw7(tab:List (Addr×Sp))(m:Str)(ta:TE)(t:TA):TE:=λσ H Q=>ta σ H λx H1=>∃a C dx fs sp,x=.ref a/\H1 a=some (.ins C dx fs)/\(C,sp)∈tab/\fs.lookup m=none/\t σ H1 λvs H2=>sp (x::vs) H2 Q E0
section
variable{X:Cx}
def df0(he:PE X o ta)(hT:∀q∈tab,mD X.prog X.w X.K X.mg X.base k q.1 m q.2)(hr:Room k X.A)(ha:PA X (e::es) t)
 (hst:starEach (e::es) X.env=(false,eval e X.env)::starEach es X.env:=by rfl)(hpl:(backTo pos (starEach es X.env)).any (·.1)=false:=by rfl)
 (ht:eval (.Call (.Attribute o m apos) (e::es) [] pos) X.env=(do
  let ov<-eval o X.env
  standAt apos.atName
  let(f,first)<-holding [ov] (getMethod ov m pl)
  callWith pos f first (backTo pos (starEach (e::es) X.env)) (backToKw pos (keywordEach [] X.env))):=by rfl):
 PE X (.Call (.Attribute o m apos) (e::es) [] pos) (bw7 tab m ta t):=by
 intro pins s σ H Q I h;refine PySem.W.methodCall_KW (pl:=pl) (jH (he s σ H _ I h) λu s1 x H1 I1 rx qq=>?_) ht;obtain⟨a,C,dx,fs,sp,ex,ea,hq,l,q⟩:=qq;subst ex;obtain rfl:u=Value.ref a:=rx;obtain⟨f,fd,ps,c,hm,F,hb⟩:=(hT _ hq).ex;refine at7 I1 ea c hm l ?_;refine R7 (first:=[.ref a]) (h₀:=X.base) I.ok.mod.kin hm.kp (xW (ha pins s1 σ H1 _ I1 q) λus s2 vs H2 I2 r q2=>⟨I2.kIn,?_⟩) hst hpl;exact an8 (us:=.ref a::us) (vs:=.ref a::vs) F hr hb .nil av7 I2 (.cons rfl r) (by rw[K3];exact q2)
def bm3(he:PE X o ta)(hT:∀q∈tab,mD X.prog X.w X.K X.mg X.base k q.1 m q.2)(hr:Room k X.A)
 (ht:eval (.Call (.Attribute o m apos) [] [] pos) X.env=(do
  let ov<-eval o X.env
  standAt apos.atName
  let(f,first)<-holding [ov] (getMethod ov m pl)
  callWith pos f first (backTo pos (starEach [] X.env)) (backToKw pos (keywordEach [] X.env))):=by rfl):
 PE X (.Call (.Attribute o m apos) [] [] pos) (bw7 tab m ta az1):=by
 intro pins s σ H Q I h;refine PySem.W.methodCall_KW (pl:=pl) (jH (he s σ H _ I h) λu s1 x H1 I1 rx qq=>?_) ht;obtain⟨a,C,dx,fs,sp,ex,ea,hq,l,q⟩:=qq;subst ex;obtain rfl:u=Value.ref a:=rx;obtain⟨f,fd,ps,c,hm,F,hb⟩:=(hT _ hq).ex;refine at7 I1 ea c hm l ?_;exact PySem.W.callWith_K0 (first:=[.ref a]) I1.kIn hm.kp (an8 (us:=[.ref a]) (vs:=[.ref a]) F hr hb .nil av7 I1 (.cons rfl .nil) q)
def sV(d:Mak X.prog X.w X.K X.mg X.base k x C sp)(hr:Room (k+1) X.A)(ha:PA X (e::es) t)(hg:Gl X x:=by rfl)
 (hdb:(x==("__debug__":Str))=false:=by decide)(he:starEach (e::es) X.env=(false,eval e X.env)::starEach es X.env:=by rfl)(hpl:(backTo pos (starEach es X.env)).any (·.1)=false:=by rfl):
 PE X (.Call (.Name x p) (e::es) [] pos) (cw3 C sp [] E0 t):=by
 obtain⟨f,fd,ps,M,F,hm,hb⟩:=d.ex;exact dk9 M F hr hg hm hb .nil av7 ha hdb he hpl
end
end L2
namespace TL
open L2
section
variable{Jn:iP}{K:A1}{cn:Str->Option Addr}{E:XK}
def yR(n:Nat)(G:List T->Res T)(ts:List T):Res T:=if ts.length=n then match G (frzs ts)with
 |.ok t=>if(cM t||aW ts)=true then .ok t else .no
 |_=>.no else .no
def bd8(m:Mo H Z H1 Z1)(r1:Reps K cn H1 Z1 ts vs B)(w:WpE K cn E As H Z [] Q (yR n G ts)):bR K cn n G vs H1 Q E':=by
 unfold yR at w;split at w
 . next hn=>
   refine⟨by rw[Reps.length ts r1,hn],frzs ts,(λa=>Z1 a\/a∈B),λa h=>?_,Reps.frz ts r1 (λa h=>.inl h) (λa h=>.inr h),?_⟩
   . rcases h with h|h
     . exact m.zi a h
     . obtain⟨o,q,_⟩:=Reps.dom ts r1 a h;rw[q];exact(λz=>nomatch z)
   cases e2:G (frzs ts)with
   |ok t=>
    rw[e2]at w;intro v H2 Z2 C p;simp only at w;split at w
    . next hc=>
      rw[S9]at hc;have bn:∀b∈C,H1 b=none:=λb hb=>(p.bn b hb).resolve_right (λ⟨i,hi,_⟩=>by cases hi);by_cases hcl:cM t=true
      . refine w v H2 Z1 C ⟨m.same.trans p.same,m.zz,λa h=>m.zn a h,λa h=>?_,Rep.any t hcl p.rep,p.nd,λb hb z=>?_,λb hb=>.inl (m.same.free (bn b hb))⟩
        . intro q;exact m.zi a h (p.same.free q)
        . exact m.zi b z (bn b hb)
      . have hno:=hc.resolve_left hcl;have hB:=Reps.bare ts hno r1;subst hB;refine w v H2 Z2 C ⟨m.same.trans p.same,λa h=>p.zz a (.inl (m.zz a h)),λa h=>?_,p.zi,p.rep,p.nd,p.bz,λb hb=>.inl (m.same.free (bn b hb))⟩;rcases p.zn a h with(h|h)|h
        . exact m.zn a h
        . cases h
        . exact .inr (m.same.free h)
    . exact w.elim
   |ex x=>rw[e2]at w;exact w.elim
   |no=>rw[e2]at w;exact w.elim
 . exact w.elim
theorem al5:∀(ns:List Str)(vs:List V),iO f ns=none->(ns.zip vs).lookup f=none
 |[],_,_=>by simp
 |n::ns,[],_=>by simp
 |n::ns,w::vs,h=>by
  unfold iO at h;rw[N7,G8];by_cases q:n=f
  . rw[E6 q]at h;cases h
  . rw[E5 q,Option.map_eq_none_iff]at h;rw[show(f==n)=false from by rw[G9];exact λz=>q z.symm];exact al5 ns vs h
def nV(n:Nat)(m:Str)(tabs:List (Str×(List T->Res T)))(o:Fr->Res T)(r:Fr->Res (List T)):Fr->Res T:=λρ=>(o ρ).bind λt=>match t with
 |.ins _ c ns _=>match iO m ns with
  |none=>match tabs.lookup c with
   |some G=>(r ρ).bind λts=>yR n G (t::ts)
   |none=>.no
  |some _=>.no
 |_=>.no
def au6(K:A1)(cn:Str->Option Addr)(n:Nat)(tabs:List (Str×(List T->Res T)))(tab:List (Addr×Sp)):Prop:=∀c G C,tabs.lookup c=some G->cn c=some C->(C,bR K cn n G)∈tab
theorem df3(hT:au6 K cn n tabs tab)(ho:RB Jn K cn E to o)(ha:RAB Jn K cn E ta a):RE Jn K cn E [] (bw7 tab m to ta) (nV n m tabs o a):=λAs H Z ρ σ F Q w=>by
 unfold nV at w;refine ho As H Z ρ σ F _ ?_;cases e:o ρ with
 |ok t=>
  rw[e]at w;intro v H1 Z1 B p;simp only[Res.bind]at w;split at w
  . next ow c ns us=>
    split at w
    . next hm=>
      split at w
      . next G hG=>
        obtain⟨q,C,dx,vs,D,rfl,hC,eq,_,r⟩:=p.rep.insS;refine⟨q,C,dx,_,bR K cn n G,rfl,eq,hT c G C hG hC,al5 ns vs hm,ha As H1 Z1 ρ σ (F.mo p.mo) _ ?_⟩;cases e2:a ρ with
        |ok ts=>rw[e2]at w;intro ws H2 Z2 D2 m2 r2;refine bd8 (As:=As) (E:=E) (p.mo.trans m2) (ts:=.ins ow c ns us::ts) (B:=B++D2) ?_ w;simp only[Reps];exact⟨_,ws,B,D2,rfl,rfl,p.rep.same m2.same m2.zz,r2⟩
        |ex x=>rw[e2]at w;exact WpX.ev w p.mo.ev
        |no=>rw[e2]at w;exact w
      . exact w.elim
    . exact w.elim
  . exact w.elim
 |ex x=>rw[e]at w;exact w
 |no=>rw[e]at w;exact w
end
end TL
namespace L2
section
variable{X:Cx}(K:A1)
end
end L2
namespace TL
open L2
section
variable{Jn:iP}{K:A1}{cn:Str->Option Addr}{E:XK}{As:List (List Addr)}{H:Hp}{Z:Addr->Prop}{Q:VK}
end
end TL
namespace L2
section
variable{X:Cx}
def dg5:TS:=λ_ _ _=>False
def nO{st:Stmt}:PS X st dg5:=λ_ _ _ _ _ _ h=>h.elim
def co1:V->List V->Hp->VK->Prop:=λx vs H Q=>∃l xs i y,x=.ref l/\vs=[.int i,y]/\H l=some (.lst xs)/\0<=i/\i.toNat<=xs.length/\xs.length<sizeLine/\Q .non (upd H l (.lst (xs.take i.toNat++y::xs.drop i.toNat)))
def bx6(K:A1)(n:Nat):V->List V->Hp->VK->Prop:=λx vs H Q=>∃p ys y,x=.ref p/\vs=[y]/\SqL K H p ys/\∃(es:List Bool)(j:Nat),es.length=ys.length/\(∀(j:Nat) z e,ys[j]?=some z->es[j]?=some e->EqD K H n z y e)/\es[j]?=some true/\(∀m,m<j->es[m]?=some false)/\Q (.int j) H
def dj0(K:A1)(n:Nat):R2:=λx y H Q=>rNe x y H Q\/(∃p q b,x=.ref p/\y=.ref q/\EqD K H n x y b/\Q (.bl (!b)) H)
def dq9(hu:X.A.units+n<cLine):OpR X (compareOp .NotEq) (dj0 X.K n):=by
 intro pins s σ H x y v u Q I rx ry h;rcases h with h|⟨p,q,b,rfl,rfl,h,hq⟩
 . exact et5 s σ H x y v u Q I rx ry h
 . cases rx;cases ry;have bU:EP X pins σ Q (.bool (!b)) s:=⟨.bl (!b),H,I,rfl,hq⟩;cases n with
   |zero=>exact B0 h.1 (λz=>by cases z)
   |succ n=>
    rcases h with⟨h1,_,_⟩|⟨p,q,xs,ys,e1,e2,s1,s2,h⟩|⟨p,q,xs,ys,e1,e2,s1,s2,es,hl,he,rfl⟩
    . exact B0 h1 (λz=>by cases z)
    . cases e1;cases e2;obtain⟨its,r1,p1,_⟩:=I.list s1;obtain⟨jts,r2,p2,_⟩:=I.list s2;have l1:=r1.length;have l2:=r2.length;rcases h with⟨hne,rfl⟩|⟨heq,es,hl,he,rfl⟩
      . exact SeqAt.RcNeAt.lists_lengths p1.isList p2.isList (by simp only[List.size_toArray,bne_iff_ne,ne_eq];omega) V8 _ _ _ _ bU
      . refine SeqAt.RcNeAt.lists (e:=λj=>es.getD j true) p1.isList p2.isList (by simp only[List.size_toArray];omega) V8 (λj h1 h2=>?_) _ _ _ _ ?_
        . simp only[List.size_toArray]at h1 h2;simp only[List.getElem_toArray];obtain⟨x,ex,rx⟩:=iK r1 h1;obtain⟨y,ey,ry⟩:=iK r2 h2;have hj:j<es.length:=V8
          have eg:es.getD j true=es[j]:=by rw[A6,A2 hj];rfl
          rw[eg];exact oH I n (by show X.A.units+1+n<cLine;omega) rx ry (he j x y es[j] ex ey (A2 hj))
        . rw[A8,show its.length=es.length by omega,uC];exact bU
    . cases e1;cases e2;obtain⟨its,r1,p1,_⟩:=I.tuple s1;obtain⟨jts,r2,p2,_⟩:=I.tuple s2;have l1:=r1.length;have l2:=r2.length;refine SeqAt.RcNeAt.tuples (e:=λj=>es.getD j true) (show s.heap.IsTuple _ its.toArray from p1) (show s.heap.IsTuple _ jts.toArray from p2) V8 (λj h1 h2=>?_) _ _ _ _ ?_
      . simp only[List.size_toArray]at h1 h2;simp only[List.getElem_toArray];obtain⟨x,ex,rx⟩:=iK r1 h1;obtain⟨y,ey,ry⟩:=iK r2 h2;have hj:j<es.length:=V8
        have eg:es.getD j true=es[j]:=by rw[A6,A2 hj];rfl
        rw[eg];exact oH I n (by show X.A.units+1+n<cLine;omega) rx ry (he j x y es[j] ex ey (A2 hj))
      . simp only[List.size_toArray];rw[show min its.length jts.length=es.length by omega,uC,<-l1,<-l2];exact bU
def nF(K:A1)(hr:Room k X.A)(hn:n<=60:=by decide)(hK:X.K=K:=by rfl):OpR X (compareOp .NotEq) (dj0 K n):=by subst hK;exact dq9 (P9 (Nat.add_le_add_left (J2 hn W1) _) hr.units)
def ce5:MtM X "list.insert" co1:=by
 intro pins s σ H x vs v us Q I rx rv h;obtain⟨l,xs,i,y,rfl,rfl,hH,h0,h1,hz,q⟩:=h;cases rx;obtain⟨u,u',rfl,ru,ru'⟩:=rv.two;obtain⟨t,rfl⟩:=ru;obtain⟨z,its,n,r,hl,e⟩:=I.lstM hH;have hfit:¬(!Builtin.List.listFitsIndex i)=true:=by rw[fitsIndex_both V8 (by have:xs.length<2^62:=Nat.lt_trans hz W1;omega)];decide
 refine R3 F.slot_list_insert ⟨_,e,rfl⟩ F.entry_list_insert (F.args_list_insert_3 _ _ _) (AutoSeq1.list_insert_list_int_val_1 l its.toArray n i t u' hfit (by rw[A8];omega)) ⟨e,?_⟩;refine⟨.non,_,I.lset (its':=its.take i.toNat++u'::its.drop i.toNat) hH e ?_ ((r.take i.toNat).append (.cons ru' (r.drop i.toNat))) ?_,rfl,q⟩
 . have hn:¬i<0:=V8
   simp only[hn,if_false,List.size_toArray,Nat.min_eq_left (show i.toNat<=its.length by omega)];apply Array.toList_inj.mp;simp[List.take_append,List.drop_eq_nil_of_le];exact N8 W0
 . simp;omega
def di0(hu:X.A.units+n+1<cLine):MtR X "list.index" (bx6 X.K n):=by
 intro pins s σ H x vs v us Q I rx rv h;obtain⟨p,ys,y,rfl,rfl,hq,es,j,hl,he,hj,hno,q⟩:=h;cases rx;obtain⟨u,rfl,ru⟩:=rv.one;obtain⟨its,r,pl,hz⟩:=I.list hq;have l1:=r.length;obtain⟨f,hf,_⟩:=ab8 I r hl he;have at_:∀(m:Nat)(hm:m<its.length) b,es[m]?=some b->f its[m]=b:=λm hm b eb=>by obtain⟨z,ez,rz⟩:=iK r hm;obtain⟨z',rz',d⟩:=hf its[m] (K9 hm);cases rz.inj rz';exact EqD.det I n _ _ _ _ d (he m z b ez eb)
 have hjl:j<its.length:=by have:=(C7.mp hj).1;omega
 obtain⟨⟨oc,od,odt,osl⟩,n0,ho,hc,hd,hdt⟩:=pl;simp only at hc hd hdt;subst hc hd hdt;refine R3 F.slot_list_index ⟨_,ho,rfl⟩ F.entry_list_index (F.args_list_index_2 _ _) (SeqAt.list_indexAt p its.toArray n0 none osl u f j (by simpa using hjl) ?_ ?_ ?_) ⟨ho,λy hy=>?_,?_⟩
 . have:j<2^62:=F6 hjl (by rw[<-l1];exact J2 hz W1);omega
 . simpa using at_ j hjl true hj
 . intro m hm hmj;simpa using at_ m (by simpa using hm) false (hno m hmj)
 . obtain⟨z,rz,d⟩:=hf y (by simpa using hy);exact oH I n (by show X.A.units+1+n<cLine;omega) rz ru d
 . exact⟨.int j,H,I.tok _,⟨_,rfl⟩,q⟩
end
end L2
namespace TL
open L2
section
variable{Jn:iP}{K:A1}{cn:Str->Option Addr}{E:XK}
def qP:Fr->bO:=λ_=>.no
def dn9:RS Jn K cn E dg5 qP:=λ_ _ _ _ _ _ _ w=>w.elim
def dx2(K:A1)(cn:Str->Option Addr)(r:V->List V->Hp->VK->Prop)(f:List T->List T->Option (List T)):Prop:=
 ∀(H:Hp)(Z:Addr->Prop)(a:Addr)(us ts us':List T)(ws vs:List V)(C0 C:List Addr),H a=some (.lst ws)->Reps K cn H Z us ws C0->Reps K cn H Z ts vs C->(C0++C).Nodup->f us ts=some us'->
  ∃ws' D,Reps K cn H Z us' ws' D/\D.Nodup/\(∀x∈D,x∈C0\/x∈C)/\∀Q:VK,(∀y,Q y (L2.upd H a (.lst ws')))->r (.ref a) vs H Q
def zK(j:Nat)(mv:List Nat)(f:List T->List T->Option (List T))(d:Fr->Res (List Nat))(e:Fr->Res (List T)):Fr->bO:=λρ=>match ρ[j]? with
 |some (some t0)=>match d ρ with
  |.ok p=>match eX p t0 with
   |some (.lst true us)=>match e ρ with
    |.ok ts=>match f us ts with
     |some us'=>ab5 j p us' (kills mv ρ)
     |none=>.no
    |.ex x=>.ex x
    |.no=>.no
   |_=>.no
  |.ex x=>.ex x
  |.no=>.no
 |_=>.no
theorem ez2(hr:dx2 K cn r f)(hd:RP Jn K cn E j to d)(he:RA Jn K cn E mv ta e)(hj:mv.contains j=false:=by rfl):RS Jn K cn E (bk5 (tBM K "list" r to ta)) (zK j mv f d e):=λAs H Z ρ σ F D w=>by
 unfold zK at w;cases e1:ρ[j]? with
 |none=>rw[e1]at w;exact w.elim
 |some o=>
  rw[e1]at w;cases o with
  |none=>exact w.elim
  |some t0=>
   obtain⟨v0,e2,r0⟩:=F.sl.get e1;refine hd As H Z ρ σ F t0 v0 e1 e2 r0 _ ?_;simp only at w;cases ed:d ρ with
   |ok p=>
    rw[ed]at w;intro u v B H1 Z1 m1 hn pl;simp only[hn]at w;split at w
    . next us hq=>
      cases hq;have q:=pl.rep;simp only[Rep]at q;obtain⟨a,ws,C0,rfl,rfl,ea,rs⟩:=q;refine⟨.inl ⟨rfl,ws,SqL.of ea⟩,he As H1 Z1 ρ σ (F.mo m1) _ ?_⟩;cases ee:e ρ with
      |ok ts=>
       rw[ee]at w;intro vs H2 Z2 C p2;simp only at w;cases ef:f us ts with
       |none=>rw[ef]at w;exact w.elim
       |some us'=>
        rw[ef]at w;simp only at w;have pl2:=pl.mo p2.mo.same p2.mo.zz;have ea2:=p2.mo.same _ _ ea;have rs2:=rs.same p2.mo.same p2.mo.zz;have m2:=m1.trans p2.mo;have F2:=(F.mo m2).kills mv;have gD:(gB mv As).getD j []=As.getD j []:=ad2 mv hj As;have pl3:Plug K cn H2 Z2 t0 v0 ((gB mv As).getD j []) p (.lst true us) (.ref a) (a::C0):=by rw[gD];exact pl2
        have ndB:(a::C0).Nodup:=(kN F.nd j).sublist pl.sub;have c0A:∀x∈C0,x∈As.getD j []:=λx hx=>pl.sub.mem (A5 _ hx);have cOut:∀x∈C,x∉(gB mv As).flatten:=λx hx hA=>by
         rcases p2.bn x hx with z|⟨i,hi,z⟩
         . obtain⟨o,ho,_⟩:=(F.mo m1).sl.dom x (gA hA);rw[ho]at z;cases z
         . exact rS F.nd hi z hA
        have c0In:∀x∈C0,x∈(gB mv As).flatten:=λx hx=>bA (i:=j) (by rw[gD];exact c0A x hx);have ndC:(C0++C).Nodup:=by rw[C9];exact⟨(E9.mp ndB).2,p2.nd,λx hx y hy e=>by subst e;exact cOut x hy (c0In x hx)⟩
        obtain⟨ws',D',r',nd',in',hQ⟩:=hr H2 Z2 a us ts us' ws vs C0 C ea2 rs2 p2.rep ndC ef;refine hQ _ λ_=>?_;refine ac9 (As:=As) (H:=H) (Z:=Z) (E:=E) F2 (by rw[az3 mv hj];exact e1) e2 pl3 rfl rfl ea2 (us':=us') (ws':=ws') (C:=D') r' nd' ?_ ?_ ?_ ?_ w
        . intro x hx;rcases in' x hx with hx|hx
          . exact F2.nz x (c0In x hx)
          . exact p2.bz x hx
        . intro x hx hA;rcases in' x hx with hx|hx
          . exact hx
          . exact B0 hA (cOut x hx)
        . exact⟨λb o q _=>m2.same b o q,λb hb=>.inl (gA hb),m2.zz,λb h=>(m2.zn b h).imp_right .inr,λb h=>m2.same.free h⟩
        . intro x hx;rcases in' x hx with hx|hx
          . exact .inl (bA (c0A x hx))
          . rcases p2.bn x hx with z|⟨i,hi,z⟩
            . exact .inr (m1.same.free z)
            . exact .inl (bA z)
      |ex x=>rw[ee]at w;exact WpX.ev w m1.ev
      |no=>rw[ee]at w;exact w.elim
    . exact w.elim
   |ex x=>rw[ed]at w;exact w
   |no=>rw[ed]at w;exact w
def ah1(us:List T):List T->Option (List T)
 |[.lst true zs]=>if us.length+zs.length<=sizeLine then some (us++zs)else none
 |_=>none
def cw2(us:List T):List T->Option (List T)
 |[.int i,t]=>if 0<=i/\i.toNat<=us.length/\us.length<sizeLine then some (us.take i.toNat++t::us.drop i.toNat)else none
 |_=>none
def fb0(_:List T):List T->Option (List T)
 |[]=>some []
 |_=>none
def ev8:dx2 K cn cu1 ah1:=λH Z a us ts us' ws vs C0 C ha r0 r1 nd h=>by
 unfold ah1 at h;split at h
 . next zs=>
   split at h
   . next hl=>
     cases h;simp only[Reps]at r1;obtain⟨v,r',B1,C1,rfl,rfl,ra,rfl,rfl⟩:=r1;simp only[Rep]at ra;obtain⟨b,zs',B,rfl,rfl,eb,rz⟩:=ra;simp only[List.append_nil]at nd⊢;refine⟨ws++zs',C0++B,Reps.append us r0 rz,nd.sublist ((Q2 b B).append_left C0),λx hx=>(A3.mp hx).imp_right (A5 _),λQ hQ=>⟨a,b,ws,zs',rfl,rfl,ha,eb,?_,hQ _⟩⟩;rw[Reps.length us r0,Reps.length zs rz];exact hl
   . cases h
 . cases h
theorem Reps.split:∀(n:Nat)(us:List T){ws:List V}{C:List Addr},Reps K cn H Z us ws C->∃C1 C2,C=C1++C2/\Reps K cn H Z (us.take n) (ws.take n) C1/\Reps K cn H Z (us.drop n) (ws.drop n) C2
 |0,us,ws,C,r=>⟨[],C,rfl,by simp[Reps],by simpa using r⟩
 |n+1,[],ws,C,r=>by simp only[Reps]at r;obtain⟨rfl,rfl⟩:=r;exact⟨[],[],rfl,by simp[Reps],by simp[Reps]⟩
 |n+1,t::us,ws,C,r=>by simp only[Reps]at r;obtain⟨v,r',B1,B2,rfl,rfl,h1,h2⟩:=r;obtain⟨C1,C2,rfl,a1,a2⟩:=Reps.split n us h2;refine⟨B1++C1,C2,W0,?_,by simpa using a2⟩;simp only[List.take_succ_cons,Reps];exact⟨v,r'.take n,B1,C1,rfl,rfl,h1,a1⟩
def ek6:dx2 K cn co1 cw2:=λH Z a us ts us' ws vs C0 C ha r0 r1 nd h=>by
 unfold cw2 at h;split at h
 . next i t=>
   split at h
   . next hl=>
     cases h;obtain⟨h0,h1,h2⟩:=hl;simp only[Reps]at r1;obtain⟨v,r',B1,D1,rfl,rfl,ra,v2,r2,B2,D2,rfl,rfl,rb,rfl,rfl⟩:=r1;simp only[Rep]at ra;obtain⟨rfl,rfl⟩:=ra;obtain⟨C1,C2,rfl,a1,a2⟩:=Reps.split i.toNat us r0;simp only[List.append_nil,List.nil_append]at nd⊢;have pm:(C1++(B2++C2)).Perm ((C1++C2)++B2):=by rw[J4];exact List.Perm.append_left C1 List.perm_append_comm
     refine⟨ws.take i.toNat++v2::ws.drop i.toNat,C1++(B2++C2),Reps.append _ a1 ?_,pm.nodup_iff.mpr nd,λx hx=>A3.mp (pm.mem_iff.mp hx),λQ hQ=>⟨a,ws,i,v2,rfl,rfl,ha,h0,?_,?_,hQ _⟩⟩
     . simp only[Reps];exact⟨v2,ws.drop i.toNat,B2,C2,rfl,rfl,rb,a2⟩
     . rw[Reps.length us r0];exact h1
     . rw[Reps.length us r0];exact h2
   . cases h
 . cases h
def frz1:T->T
 |.lst o xs=>.lst o (frzs xs)
 |t=>t
def af1(d:Fr->Res T):Fr->Res T:=λρ=>(d ρ).bind λt=>.ok (frz1 t)
theorem RE.frz1(h:RE Jn K cn E [] te d):RE Jn K cn E [] te (af1 d):=λAs H Z ρ σ F Q w=>h As H Z ρ σ F Q (by
 unfold af1 at w;cases e:d ρ with
 |ok t=>
  rw[e]at w;intro v H' Z' B p;simp only[Res.bind]at w;cases t with
  |lst o xs=>
   cases o with
   |true=>
    have q:=p.rep;simp only[Rep]at q;obtain⟨a,vs,C,rfl,rfl,ea,rs⟩:=q;have hC:∀x∈C,H x=none:=λx hx=>(p.bn x (A5 _ hx)).resolve_right (λ⟨i,hi,_⟩=>by cases hi);refine w (.ref a) H' (λx=>Z' x\/x∈C) [a] ⟨p.same,λx z=>.inl (p.zz x z),λx z=>?_,λx z=>?_,?_,W0,λb hb=>?_,λb hb=>?_⟩
    . rcases z with z|z
      . exact p.zn x z
      . exact .inr (hC x z)
    . rcases z with z|z
      . exact p.zi x z
      . obtain⟨o,q,_⟩:=Reps.dom xs rs x z;rw[q];exact(λz=>nomatch z)
    . simp only[TL.frz1,Rep];exact⟨a,vs,[],rfl,rfl,ea,Reps.frz xs rs (λ_ z=>.inl z) (λ_ z=>.inr z)⟩
    . have hb:b=a:=by simpa using hb
      subst hb;rintro(z|z)
      . exact p.bz b A7 z
      . exact(E9.mp p.nd).1 z
    . have hb:b=a:=by simpa using hb
      subst hb;exact p.bn b A7
   |false=>have q:=p.rep;simp only[Rep]at q;obtain⟨a,vs,rfl,rfl,ea,rs⟩:=q;refine w (.ref a) H' Z' [] ⟨p.same,p.zz,p.zn,p.zi,?_,G4,dZ,dZ⟩;simp only[TL.frz1,Rep];exact⟨a,vs,rfl,trivial,ea,Reps.frz xs rs (λ_ z=>z) dZ⟩
  |_=>exact w v H' Z' B p
 |ex x=>rw[e]at w;exact w
 |no=>rw[e]at w;exact w)
def mM(t u:T):Res T:=if ac1 t=true/\ac1 u=true then match pX cU t u with
 |some b=>.ok (.bl (!b))
 |none=>.no
 else neT t u
def eh8:nX K cn (dj0 K cU) mM:=λE As H Z t u x y A B Q zi rt ru w=>by
 unfold mM at w;split at w
 . next hs=>
   obtain⟨a,rfl⟩:=rt.seqRef hs.1;obtain⟨b,rfl⟩:=ru.seqRef hs.2;cases e:pX cU t u with
   |none=>rw[e]at w;exact w.elim
   |some k=>rw[e]at w;exact .inr ⟨a,b,k,rfl,rfl,bf7 cU t u rt ru e,WpE.bl w zi⟩
 . exact .inl (ep9 E As H Z t u x y A B Q zi rt ru w)
def aq1:List Bool->Option Nat
 |[]=>none
 |true::_=>some 0
 |false::bs=>(aq1 bs).map (· +1)
theorem ca2:∀(bs:List Bool){j:Nat},aq1 bs=some j->bs[j]?=some true/\∀m,m<j->bs[m]?=some false
 |[],_,h=>by cases h
 |true::bs,j,h=>by cases h;exact⟨rfl,λm hm=>by omega⟩
 |false::bs,j,h=>by
  simp only[aq1]at h;cases e:aq1 bs with
  |none=>rw[e]at h;cases h
  |some k=>
   rw[e]at h;cases h;obtain⟨h1,h2⟩:=ca2 bs e;refine⟨by simpa using h1,λm hm=>?_⟩;cases m with
   |zero=>rfl
   |succ m=>have hm:m+1<k+1:=hm;simpa using h2 m V8
def aj0:T->List T->Res T
 |.lst _ us,[t]=>match rJ t us with
  |some es=>match aq1 es with
   |some j=>.ok (.int j)
   |none=>.no
  |none=>.no
 |_,_=>.no
def de6:RMR K cn "list" (bx6 K cU) aj0:=λE As H Z t ts x xs A B Q zi rt r w=>by
 unfold aj0 at w;split at w
 . next o us t=>
   obtain⟨a,vs,C,rfl,s,rs,_⟩:=rt.lstSq;simp only[Reps]at r;obtain⟨v,r',B1,C1,rfl,rfl,ra,rfl,rfl⟩:=r;cases e:rJ t us with
   |none=>rw[e]at w;exact w.elim
   |some es=>
    rw[e]at w;simp only at w;cases e2:aq1 es with
    |none=>rw[e2]at w;exact w.elim
    |some j=>rw[e2]at w;obtain⟨h1,h2⟩:=ca2 es e2;obtain⟨g1,g2⟩:=ay4 ra us rs e;exact⟨a,vs,v,rfl,rfl,s.sq,es,j,g1,g2,h1,h2,w.val zi (lV _)⟩
 . exact w.elim
end
end TL
namespace L2
inductive DRows (w:World):List DictEntry->List (Str×Value)->Prop
 |nil:DRows w [] []
 |cons {x:Str} {t:Tok} {v:Value} {es:List DictEntry} {kvs:List (Str×Value)}:DRows w es kvs->DRows w (⟨hashStr w x,.str x t,v⟩::es) ((x,v)::kvs)
structure DicK (w:World) (K:A1) (a:Addr) (kvs:List (Str×Value)):Prop where
 ex:∃o es ep,K.lookup a=some o/\o.ExactDict/\o.data=.dict es ep/\DRows w es.toList kvs
 nd:(kvs.map (·.1)).Nodup
 sm:(a==sysModules)=false
theorem DRows.keys:∀{es:List DictEntry}{kvs:List (Str×Value)},DRows w es kvs->(∀e∈es,∃k,(strKind P w).is k e.key=true/\e.hash=(strKind P w).hash k)/\Pairs (strKind P w) es kvs
 |_,_,.nil=>⟨λe h=>(nomatch h),.nil⟩
 |_,_,@DRows.cons _ x t v es kvs r=>by
  obtain⟨h1,h2⟩:=DRows.keys (P:=P) r;refine⟨λe he=>?_,.cons (strKind_is P w x t) rfl h2⟩;rcases B9.mp he with rfl|he
  . exact⟨x,strKind_is P w x t,rfl⟩
  . exact h1 e he
def DicK.dictOf{P:F9}{w:World}{K:A1}{a:Addr}{kvs:List (Str×Value)}{h:Heap}(D:DicK w K a kvs)(X:K.In h):h.DictOf (strKind P w) a kvs:=by obtain⟨o,es,ep,l,x,d,r⟩:=D.ex;obtain⟨h1,h2⟩:=DRows.keys (P:=P) r;exact⟨o,es,ep,X a o l,x,d,λe he=>h1 e (by simpa using he),h2,D.nd⟩
theorem zQ:∀(kvs:List (Str×Value)),valueAt kvs x=kvs.lookup x
 |[]=>rfl
 |(y,v)::kvs=>by
  unfold valueAt;rw[List.find?_cons,G8];by_cases e:y=x
  . subst e;simp
  . have e1:(x==y)=false:=by simpa using M7 e
    have e2:decide ((y,v).1=x)=false:=E2 e;rw[e1,e2];exact zQ kvs
structure ab2 (w:World) (K:A1) (mg:Str->Option Value) (d:Str) (kvs:List (Str×Value)):Prop where
 ex:∃a,mg d=some (.ref a)/\DicK w K a kvs
def di5(kvs:List (Str×Value))(ty:TE):TE:=λσ H Q=>ty σ H λy H1=>∃x u v,y=.str x/\kvs.lookup x=some u/\RelV v u/\Q v H1
def eh0(neg:Bool)(kvs:List (Str×Value))(ty:TE):TE:=λσ H Q=>ty σ H λy H1=>∃x,y=.str x/\Q (.bl (if neg=true then !(kvs.lookup x).isSome else(kvs.lookup x).isSome)) H1
def dn5(r:RelV (.str x) u):(strKind P w).is x u=true:=by obtain⟨t,rfl⟩:=r;exact strKind_is P w x t
def cn2(i:Expr):Prop:=∀ov iv,subscripted i false ov iv=operate [ov,iv] (getItem ov iv)
def da6{prog:F9}{w:World}{A:J5}{E:Value->B7->Prop}{s:B7}{env:Env}{value slice:Expr}{pos:Pos}{T id:String}{Q:Value->B7->Prop}
 (hl:typeLookup (.type T) "__getitem__"=pure (some (.builtin id)))(hs:cn2 slice)
 (h:wpAny (model prog w) A (eval value env) (λo s₁=>wpAny (model prog w) A (eval slice env) (λi s₂=>s₂.TypeIs o T/\wpAny (model prog w) A (getItem o i) Q E s₂) E s₁) E s):
 wpAny (model prog w) A (eval (.Subscript value slice pos) env) Q E s:=by
 refine Subscript_ (M5 h (λo s₁ h₁=>M5 h₁ (λi s₂ h₂=>?_) λ_ _ x=>x) λ_ _ x=>x);obtain⟨hT,h₂⟩:=h₂;unfold subscriptTail;refine A4 ?_;rw[getitemInPython_of_ne hT.not_modules];refine A4 (wpAny_specialOf hT hl ?_);have bU:wpAny (model prog w) A (subscripted slice false o i) (λr s₃=>wpAny (model prog w) A (letTemporaryGo value o r>>=λ_=>pure r) Q E s₃) E s₂:=by rw[hs o i];exact wpAny_operating (M5 h₂ (λr s₃ h₃=>A4 (wpAny_letTemporaryGo (D4 h₃))) λ_ _ x=>x)
 first
  |exact D4 (A4 bU)
  |exact A4 (D4 (A4 bU))
  |exact A4 bU
section
variable{X:Cx}
def cd2(hD:ab2 X.w X.K X.mg d kvs)(hi:PE X i ty)(hg:Gl X d)(hdb:(d==("__debug__":Str))=false)(hs:cn2 i)(I:Inv X pins σ H s)
 (h:ty σ H W)(hW:∀y H1,W y H1->∃x u,y=.str x/\kvs.lookup x=some u/\∀s1,Inv X pins σ H1 s1->R u s1):wpAny (model X.prog X.w) X.A (eval (.Subscript (.Name d p) i pos) X.env) R X.xe s:=by
 obtain⟨a,hm,D⟩:=hD.ex;refine da6 PySem.F.slot_dict_getitem.lookup hs (zX I hg hm ?_ hdb);refine jH (hi s σ H _ I h) λiv s2 y H2 I2 ry q=>?_;obtain⟨x,u,ey,el,q2⟩:=hW y H2 q;subst ey;have dd:=D.dictOf (P:=X.prog) I2.kIn;exact⟨dd.typeIs,wpAny_getItem_of (dn5 ry) dd.mapOf (by rw[zQ];exact el) (q2 _ (I2.tok _))⟩
def wU(hD:ab2 X.w X.K X.mg d kvs)(hi:PE X i ty)(hg:Gl X d:=by rfl)(hdb:(d==("__debug__":Str))=false:=by decide)(hs:cn2 i:=by intro _ _;rfl):PE X (.Subscript (.Name d p) i pos) (di5 kvs ty):=by intro pins s σ H Q I h;refine cd2 hD hi hg hdb hs I h λy H1 ⟨x,u,v,ey,el,rv,q⟩=>⟨x,u,ey,el,λs1 I1=>⟨v,H1,I1,rv,q⟩⟩
def cs8{d:Str}{kvs:List (Str×Value)}{i:Expr}{ty:TE}{p:Pos}(hD:ab2 X.w X.K X.mg d kvs)(hi:PE X i ty)(hg:Gl X d:=by rfl)(hdb:(d==("__debug__":Str))=false:=by decide):PC X .NotIn i (.Name d p) (eh0 true kvs ty):=by intro pins s σ H Q I h;obtain⟨a,hm,D⟩:=hD.ex;refine jH (hi s σ H _ I h) λiv s2 y H2 I2 ry ⟨x,ey,q⟩=>zX I2 hg hm ?_ hdb;subst ey;have dd:=D.dictOf (P:=X.prog) I2.kIn;exact wpAny_notIn_of (dn5 ry) D.sm dd.mapOf ⟨.bl (!(valueAt kvs x).isSome),H2,I2.tok _,rfl,by rw[zQ];exact q⟩
def ci5(tab:List (Str×Sp))(ty:TE)(ta:TA):TE:=λσ H Q=>ty σ H λy H1=>∃z sp,y=.str z/\(z,sp)∈tab/\ta σ H1 λvs H2=>sp vs H2 Q E0
structure dg0 (P:F9) (w:World) (K:A1) (mg:Str->Option Value) (base:Heap) (k:Nat) (d:Str) (tab:List (Str×Sp)):Prop where
 ex:∃kvs,ab2 w K mg d kvs/\∀q∈tab,∃f fd ps,kvs.lookup q.1=some (.ref f)/\FnOk P w K mg base lH k f fd ps q.2/\Binds K fd ps []/\PySem.W.keepIn K (.ref f)=true
def dr1(hD:dg0 X.prog X.w X.K X.mg X.base k d tab)(hr:Room k X.A)(hi:PE X i ty)(ha:PA X (e::es) t)(hg:Gl X d:=by rfl)(hdb:(d==("__debug__":Str))=false:=by decide)(hs:cn2 i:=by intro _ _;rfl)
 (hst:starEach (e::es) X.env=(false,eval e X.env)::starEach es X.env:=by rfl)(hpl:(backTo pos (starEach es X.env)).any (·.1)=false:=by rfl):PE X (.Call (.Subscript (.Name d p) i p2) (e::es) [] pos) (ci5 tab ty t):=by
 obtain⟨kvs,D,hT⟩:=hD.ex;intro pins s σ H Q I h;refine Call_ (cd2 D hi hg hdb hs I h λy H1 ⟨z,sp,ey,hq,q⟩=>?_);obtain⟨f,fd,ps,el,F,hb,hk⟩:=hT _ hq;refine⟨z,.ref f,ey,el,λs1 I1=>?_⟩;refine R7 (first:=[]) (h₀:=X.base) I.ok.mod.kin hk (xW (ha pins s1 σ H1 _ I1 q) λus s2 vs H2 I2 r q2=>⟨I2.kIn,?_⟩) hst hpl;exact an8 (us:=us) (vs:=vs) F hr hb .nil av7 I2 r (by rw[K3];exact q2)
def dq4:List V->Hp->VK->Prop:=λxs H Q=>(∃i,xs=[.int i]/\i.natAbs.log2<1920/\Q (.str (toString i)) H)\/∃x,xs=[.str x]/\Q (.str x) H
def cg8:CallR X (.type "str") dq4:=by
 intro pins s σ H xs us Q I r h;rcases h with h|⟨x,rfl,q⟩
 . exact bs6 s σ H xs us Q I r h
 . obtain⟨u,rfl,t,rfl⟩:=ay7 r;exact PySem.P.str_of_str ⟨.str _,H,I,⟨_,rfl⟩,q⟩
def dv4(K:A1):List V->Hp->VK->Prop:=λxs H Q=>(∃x T tx b,xs=[x,.ty T]/\TyN K H x tx/\iX tx T b/\Q (.bl b) H)\/∃T,xs=[.non,.ty T]/\(T="int"\/T="bool"\/T="str"\/T="list"\/T="tuple")/\Q (.bl false) H
def iZ(K:A1)(hK:X.K=K:=by rfl):CallR X (.builtin "isinstance") (dv4 K):=by
 subst hK;intro pins s σ H xs us Q I r h;rcases h with h|⟨T,rfl,hT,q⟩
 . exact dc2 s σ H xs us Q I r h
 . obtain⟨u,v,rfl,rx,rT⟩:=r.two;obtain rfl:v=Value.type T:=rT;obtain rfl:u=Value.none:=rx;have fin2:EP X pins σ Q (.bool false) {s with toks:=s.toks+1}:=⟨.bl false,H,I.tok _,rfl,q⟩;rcases hT with rfl|rfl|rfl|rfl|rfl
   . exact IsiPair.NoneType_int fin2
   . exact IsiPair.NoneType_bool fin2
   . exact IsiPair.NoneType_str fin2
   . exact IsiPair.NoneType_list fin2
   . exact IsiPair.NoneType_tuple fin2
def hU(K:A1)(he:PE X e ta)(hb:attributeBase e f X.env (eval e X.env)=eval e X.env:=by rfl)(hK:X.K=K:=by rfl):PE X (.Attribute e f pos) (dq1 K ta f):=by subst hK;exact ev3 he hb
def pJ(K:A1)(ha:PE X o ta)(hv:PE X value tv)(hs:swapsWith value (some (.Attribute o f pos')) pos.line X.env=pure false:=by rfl)(hK:X.K=K:=by rfl):PS X (.Assign [.Attribute o f pos'] value pos) (du0 K ta tv f):=by subst hK;exact eq4 ha hv hs
def bi0(K:A1)(hm:X.mg "zip"=none)(ha:PA X [a,b] ta)(hg:Gl X "zip":=by rfl)(hs:starEach [a,b] X.env=[(false,eval a X.env),(false,eval b X.env)]:=by rfl)(hs2:starEach [b] X.env=[(false,eval b X.env)]:=by rfl)(hK:X.K=K:=by rfl):
 PI X (.Tuple es n tpos) (.Call (.Name "zip" p) [a,b] [] pos) (dy0 K ta):=by
 subst hK;exact en2 hg hm ha hs hs2
def dv2(K:A1)(hm:X.mg "enumerate"=none)(ha:PA X [a] ta)(hg:Gl X "enumerate":=by rfl)(hs:starEach [a] X.env=[(false,eval a X.env)]:=by rfl)(hK:X.K=K:=by rfl):
 PI X (.Tuple es n tpos) (.Call (.Name "enumerate" p) [a] [] pos) (cy3 K ta):=by
 subst hK;exact dm8 hg hm ha hs
def dg8(K:A1){o:Expr}{to:TE}{name:Str}{apos cpos:Pos}{T id:String}{r:V->List V->Hp->VK->Prop}(pa:PlainAttrs T)(slot:Slot T name id)(hty:typeOf (.builtin id)=pure (.type "method_descriptor"))(hm:MtR X id r)(ho:PE X o to)
 (hbase:attributeBase o name X.env (eval o X.env)=eval o X.env:=by rfl)(hline:(apos.endLine==cpos.line)=true:=by rfl)(hK:X.K=K:=by rfl):PE X (.Call (.Attribute o name apos) [] [] cpos) (tBM K T r to az1):=by
 subst hK;exact eg0 pa slot hty hm ho hbase hline
def cf6(K:A1)(hr:Room k X.A)(hn:n<=60:=by decide)(hK:X.K=K:=by rfl):MtR X "list.index" (bx6 K n):=by subst hK;exact di0 (P9 V8 hr.units)
end
structure mR (K:A1) (C:Addr) (m qual:Str) (st:Stmt):Prop where
 ex:∃f fd,dq3 K C m f/\Fun K m qual st f fd
structure xZ (K:A1) (mg:Str->Option Value) (x:Str) (C:Addr) (qual:Str) (st:Stmt):Prop where
 ex:∃f fd,Mk K C f/\Fun K "__init__" qual st f fd
 mg:mg x=some (.ref C)
def dx8{K:A1}{C f:Addr}{m qual:Str}{st:Stmt}{oc:Value}{od an:Option Addr}{osl:Array (Option Value)}{kV doc pm cdv ct:Value}(a:PySem.W.findIn K (.ref C) m=some (some (.ref f)))(b:PySem.W.isFn K (.ref f)=true)
 (l:K.lookup f=some ⟨oc,od,.func (PySem.W.fnOf m qual (kQ st) (eM st) (aO st) .none kV doc pm an cdv ct),osl⟩)(c:PySem.W.codeIn K cdv qual=true)(k:PySem.W.keepIn K (.ref f)=true):mR K C m qual st:=
 ⟨f,_,⟨a,b,k⟩,ae9 l c k⟩
def dn8{K:A1}{h:Heap}{mg:Str->Option Value}(X:K.In h)(G:h.Ns mainGlobals mg){x:Str}{C f:Addr}{qual:Str}{st:Stmt}{oc:Value}{od an:Option Addr}{osl:Array (Option Value)}{kV doc pm cdv ct:Value}(g:PySem.W.nsIn K mainGlobals x=some (some (.ref C)))
 (mk:PySem.W.makesIn K C=true)(a:PySem.W.findIn K (.ref C) "__init__"=some (some (.ref f)))(b:PySem.W.isFn K (.ref f)=true)(kc:PySem.W.keepIn K (.ref C)=true)
 (l:K.lookup f=some ⟨oc,od,.func (PySem.W.fnOf "__init__" qual (kQ st) (eM st) (aO st) .none kV doc pm an cdv ct),osl⟩)(c:PySem.W.codeIn K cdv qual=true)(k:PySem.W.keepIn K (.ref f)=true):xZ K mg x C qual st:=
 ⟨⟨f,_,⟨mk,a,b,kc⟩,ae9 l c k⟩,P5 X G g⟩
def ef0{K:A1}{C:Addr}(a:PySem.W.plainGet K C Str.empty=true)(b:PySem.W.hasDictIn K C=true)(c:PySem.W.plainOver K C=true)(d:PySem.W.findIn K (.ref C) "__setattr__"=some (some (.builtin "object.__setattr__"))):Cls K C:=⟨a,b,c,d⟩
def bi1{w:World}{K:A1}{h:Heap}{mg:Str->Option Value}(X:K.In h)(G:h.Ns mainGlobals mg){d:Str}{a:Addr}{es:Array DictEntry}{ep:Nat}{kvs:List (Str×Value)}(g:PySem.W.nsIn K mainGlobals d=some (some (.ref a)))
 (l:K.lookup a=some ⟨.type "dict",none,.dict es ep,#[]⟩)(r:DRows w es.toList kvs)(nd:(kvs.map (·.1)).Nodup)(sm:(a==sysModules)=false):ab2 w K mg d kvs:=
 ⟨a,P5 X G g,⟨_,es,ep,l,⟨rfl,rfl,rfl⟩,rfl,r⟩,nd,sm⟩
end L2
namespace TL
open L2
section
variable{Jn:iP}{K:A1}{cn:Str->Option Addr}{E:XK}
def GD(K:A1)(cn:Str->Option Addr)(kts:List (Str×T))(kvs:List (Str×Value)):Prop:=Paired (λ(p:Str×T)(q:Str×Value)=>p.1=q.1/\∃v,RelV v q.2/\∀H Z,Rep K cn H Z p.2 v []) kts kvs
theorem GD.lookup(g:GD K cn kts kvs)(z:Str):match kts.lookup z with
 |some t=>∃u v,kvs.lookup z=some u/\RelV v u/\∀H Z,Rep K cn H Z t v []
 |none=>kvs.lookup z=none:=by
 unfold GD at g;induction g with
 |nil=>rfl
 |@cons a b l1 l2 h _ ih=>
  obtain⟨x,t⟩:=a;obtain⟨y,u⟩:=b;obtain⟨rfl,v,rv,r⟩:=h;rw[G8,G8];by_cases e:(z==x)=true
  . rw[e];exact⟨u,v,rfl,rv,r⟩
  . rw[Bool.not_eq_true]at e;rw[e];exact ih
def ag1(kts:List (Str×T)):T->Res T
 |.str z=>match kts.lookup z with
  |some t=>.ok t
  |none=>.no
 |_=>.no
def da2(neg:Bool)(kts:List (Str×T)):T->Res T
 |.str z=>.ok (.bl (if neg=true then !(kts.lookup z).isSome else(kts.lookup z).isSome))
 |_=>.no
theorem df8(g:GD K cn kts kvs)(ha:RB Jn K cn E ty a):RE Jn K cn E [] (di5 kvs ty) (fV (ag1 kts) a):=λAs H Z ρ σ F Q w=>by
 unfold fV at w;refine ha As H Z ρ σ F _ ?_;cases e:a ρ with
 |ok t=>
  rw[e]at w;intro v H1 Z1 B p;simp only[Res.bind]at w;cases t with
  |str z=>
   have hz:=p.rep.str;subst hz;have gl:=g.lookup z;simp only[ag1]at w;cases el:kts.lookup z with
   |none=>rw[el]at w;exact w.elim
   |some t=>rw[el]at w gl;obtain⟨u,v,hl,rv,r⟩:=gl;exact⟨z,u,v,rfl,hl,rv,WpE.val (WpE.mo F w p.mo) p.zi (r _ _)⟩
  |_=>exact w.elim
 |ex x=>rw[e]at w;exact w
 |no=>rw[e]at w;exact w
theorem dc8(g:GD K cn kts kvs)(ha:RB Jn K cn E ty a):RE Jn K cn E [] (eh0 neg kvs ty) (fV (da2 neg kts) a):=λAs H Z ρ σ F Q w=>by
 unfold fV at w;refine ha As H Z ρ σ F _ ?_;cases e:a ρ with
 |ok t=>
  rw[e]at w;intro v H1 Z1 B p;simp only[Res.bind]at w;cases t with
  |str z=>
   have hz:=p.rep.str;subst hz;have gl:=g.lookup z;have es:(kvs.lookup z).isSome=(kts.lookup z).isSome:=by
    cases el:kts.lookup z with
    |none=>rw[el]at gl;rw[show kvs.lookup z=none from gl];rfl
    |some t=>rw[el]at gl;obtain⟨u,v,hl,_⟩:=gl;rw[hl];rfl
   refine⟨z,rfl,?_⟩;rw[es];exact WpE.bl (WpE.mo F w p.mo) p.zi
  |_=>exact w.elim
 |ex x=>rw[e]at w;exact w
 |no=>rw[e]at w;exact w
def am7(n:Nat)(tabs:List (Str×(List T->Res T)))(i:Fr->Res T)(r:Fr->Res (List T)):Fr->Res T:=λρ=>(i ρ).bind λt=>match t with
 |.str z=>match tabs.lookup z with
  |some G=>(r ρ).bind λts=>yR n G ts
  |none=>.no
 |_=>.no
def du5(K:A1)(cn:Str->Option Addr)(n:Nat)(tabs:List (Str×(List T->Res T))):List (Str×Sp):=tabs.map λp=>(p.1,bR K cn n p.2)
theorem ao7:∀{l:List (Str×α)},l.lookup z=some a->(z,a)∈l
 |[],h=>by cases h
 |(y,b)::l,h=>by
  rw[G8]at h;by_cases e:(z==y)=true
  . rw[e]at h;cases h;have:z=y:=by simpa using e
    subst this;exact A7
  . rw[Bool.not_eq_true]at e;rw[e]at h;exact A5 _ (ao7 h)
theorem db0(hi:RB Jn K cn E ty i)(ha:RAB Jn K cn E ta a):RE Jn K cn E [] (ci5 (du5 K cn n tabs) ty ta) (am7 n tabs i a):=λAs H Z ρ σ F Q w=>by
 unfold am7 at w;refine hi As H Z ρ σ F _ ?_;cases e:i ρ with
 |ok t=>
  rw[e]at w;intro v H1 Z1 B p;simp only[Res.bind]at w;cases t with
  |str z=>
   have hz:=p.rep.str;subst hz;simp only at w;cases el:tabs.lookup z with
   |none=>rw[el]at w;exact w.elim
   |some G=>
    rw[el]at w;refine⟨z,bR K cn n G,rfl,K1.mpr ⟨(z,G),ao7 el,rfl⟩,?_⟩;refine ha As H1 Z1 ρ σ (F.mo p.mo) _ ?_;simp only at w;cases e2:a ρ with
    |ok ts=>rw[e2]at w;intro vs H2 Z2 B2 m2 r2;exact bd8 (p.mo.trans m2) r2 w
    |ex x=>rw[e2]at w;exact WpX.ev w p.mo.ev
    |no=>rw[e2]at w;exact w.elim
  |_=>exact w.elim
 |ex x=>rw[e]at w;exact w
 |no=>rw[e]at w;exact w
noncomputable def yD:List T->Res T
 |[.int i]=>gate (i.natAbs.log2<1920) (.ok (.str (toString i)))
 |[.str x]=>.ok (.str x)
 |_=>.no
def ec1:yC K cn dq4 yD:=λE As H Z ts xs A Q zi r w=>by
 unfold yD at w;split at w
 . next i=>
   obtain⟨v,rfl,rv⟩:=r.one1;have:=rv.int;subst this;obtain⟨h,w⟩:=w.gate;exact .inl ⟨i,rfl,h,w.val zi (az2 _)⟩
 . next x=>
   obtain⟨v,rfl,rv⟩:=r.one1;have:=rv.str;subst this;exact .inr ⟨x,rfl,w.val zi (az2 _)⟩
 . exact w.elim
def iE:List T->Res T
 |[.non,.ty n]=>if(n="int"\/n="bool"\/n="str"\/n="list"\/n="tuple")then .ok (.bl false)else .no
 |ts=>xJ ts
def ef4:yC K cn (dv4 K) iE:=λE As H Z ts xs A Q zi r w=>by
 unfold iE at w;split at w
 . next n=>
   obtain⟨v,u,B,C,rfl,rfl,rv,ru⟩:=r.two2;have:=rv.non;subst this;simp only[Rep]at ru;obtain⟨rfl,rfl⟩:=ru;split at w
   . next hn=>exact .inr ⟨n,rfl,hn,WpE.bl w zi⟩
   . exact w.elim
 . exact .inl (eh7 E As H Z _ xs A Q zi r w)
inductive TupR:List T->List Value->Prop
 |nil:TupR [] []
 |str {x:Str} {t:Tok} {ts:List T} {us:List Value}:TupR ts us->TupR (.str x::ts) (.str x t::us)
 |int {x:Int} {t:Tok} {ts:List T} {us:List Value}:TupR ts us->TupR (.int x::ts) (.int x t::us)
theorem TupR.vals(h:TupR ts us):∃vs,Vals vs us/\∀H Z,Reps K cn H Z ts vs []:=by
 induction h with
 |nil=>exact⟨[],.nil,λ_ _=>Reps.nil⟩
 |@str x t ts us _ ih=>obtain⟨vs,h1,h2⟩:=ih;refine⟨.str x::vs,.cons ⟨t,rfl⟩ h1,λH Z=>?_⟩;simp only[Reps];exact⟨_,_,[],[],rfl,rfl,az2 x,h2 H Z⟩
 |@int x t ts us _ ih=>obtain⟨vs,h1,h2⟩:=ih;refine⟨.int x::vs,.cons ⟨t,rfl⟩ h1,λH Z=>?_⟩;simp only[Reps];exact⟨_,_,[],[],rfl,rfl,lV x,h2 H Z⟩
def mF(l:K.lookup a=some ⟨.type "tuple",oc,.seq us.toArray n,sl⟩)(r:TupR ts us)(hz:us.length<=sizeLine):
 (x,T.tup ts).1=(x,Value.ref a).1/\∃v,RelV v (x,Value.ref a).2/\∀H Z,Rep K cn H Z (x,T.tup ts).2 v []:=by
 obtain⟨vs,h1,h2⟩:=r.vals (K:=K) (cn:=cn);refine⟨rfl,.ref a,rfl,λH Z=>?_⟩;simp only[Rep];exact⟨a,vs,rfl,.inr ⟨_,us.toArray,n,l,rfl,rfl,by simpa using hz,by simpa using h1⟩,h2 H Z⟩
def fP{P:F9}{w:World}{mg:Str->Option Value}{base:Heap}{C:Addr}{m qual:Str}{st:Stmt}{N ps:List Str}{k:Nat}{d:Fr->bO}(F:mR K C m qual st)(c:Cls K C)(S:bB N ps (aO st))
 (hb:∀(kV doc pm:Value)(an:Option Addr)(cdv ct:Value)(us:List Value),us.length=ps.length->bindArgs (PySem.W.fnOf m qual (kQ st) (eM st) (aO st) .none kV doc pm an cdv ct) ⟨us,[]⟩=pure (ps.zip us))
 (hbody:∀(f:Addr)(cdv:Value)(A:J5)(outer:List Env)(s:B7)(H:Hp)(E:XK),Room k (A.deeper (envOfC qual (aO st) s.heap.objs.size f cdv))->
  ∃t,PSs (nU lH P w K mg base N qual (aO st) f cdv A outer s H E).nox (eM st) t/\RS [] K cn E t d){n:Nat}{G:List T->Res T}(hn:ps.length=n)(hG:∀ts,G ts=bU (d (cE N.length ts))){k':Nat}(hk:k+1<=k'):mD P w K mg base k' C m (bR K cn n G):=by
 obtain⟨f,fd,M,F⟩:=F.ex;exact⟨f,fd,ps,c,M,(bh0 F S (λcdv A outer s H E hr=>hbody f cdv A outer s H E hr) hn hG).mono hk,F.binds hb⟩
def lJ{P:F9}{w:World}{mg:Str->Option Value}{base:Heap}{x c:Str}{C:Addr}{qual:Str}{st:Stmt}{N ps:List Str}{k:Nat}{d:Fr->bO}(F:xZ K mg x C qual st)(S:bB N ps (aO st))
 (hb:∀(kV doc pm:Value)(an:Option Addr)(cdv ct:Value)(us:List Value),us.length=ps.length->bindArgs (PySem.W.fnOf "__init__" qual (kQ st) (eM st) (aO st) .none kV doc pm an cdv ct) ⟨us,[]⟩=pure (ps.zip us))
 (hbody:∀(f y:Addr)(cdv:Value)(A:J5)(outer:List Env)(s:B7)(H:Hp)(E:XK),Room k (A.deeper (envOfC qual (aO st) s.heap.objs.size f cdv))->
  ∃t,PSs (nU lH P w K mg base N qual (aO st) f cdv A outer s H E).nox (eM st) t/\RS [(0,.ref y)] K cn E t d){n:Nat}{G:List T->Res T}(hn:ps.length=n+1)(hG:∀ts,G ts=kY (d (cE N.length (.ins true c [] []::ts)))):Mak P w K mg base (k+1) x C (spI K cn c n G):=by
 obtain⟨f,fd,M,F'⟩:=F.ex;exact⟨f,fd,ps,M,de7 F' S (λy cdv A outer s H E hr=>hbody f y cdv A outer s H E hr) hn hG,F.mg,F'.binds hb⟩
end
end TL
namespace L2
def do0:bootBuiltins "set"=some (.type "set"):=V9
def az8(ss:List Str):Nat:=(mV (λi=>ss.getD i Str.empty) ss.length).length
def ci2(K:A1):List V->Hp->VK->Prop:=λxs H Q=>∃p ss,xs=[.ref p]/\SqL K H p (ss.map V.str)/\ss.length<=1000/\Q (.int (az8 ss)) H
section
variable{X:Cx}
theorem ci8(K:A1)(hm:X.mg "len"=none)(hm2:X.mg "set"=none)(ha:PA X [e] t)(hc:X.calm=true:=by rfl)(hg:Gl X "len":=by rfl)(hg2:Gl X "set":=by rfl)(he:starEach [e] X.env=[(false,eval e X.env)]:=by rfl)(hK:X.K=K:=by rfl):
 PE X (.Call (.Name "len" p) [.Call (.Name "set" p2) [e] [] pos2] [] pos) (tCB (ci2 K) t):=by
 subst hK;intro pins s σ H Q I h;refine O6 (tJ I hg hm boot_len ?_);refine PyProof.Rows.callWith_builtin1 (PyProof.Rows.args_cons ?_) rfl rfl;refine O6 (tJ I hg2 hm2 do0 ?_);refine L3 (xW (ha pins s σ H _ I h) λus s1 vs H1 I1 r1 q1=>?_) he rfl;obtain⟨l,ss,rfl,hq,hl,q⟩:=q1;cases r1 with
 |cons r rr=>
  cases rr;cases r;obtain⟨its,rv,pl,_⟩:=I1.list hq;have e1:its.length=ss.length:=by have:=rv.length;simpa using this.symm
  refine bx3 (val:=λi=>ss.getD i Str.empty) (I.ok.hd hc) pl.isList (λi v hv=>?_) (by rw[A8,e1];unfold scanBound;omega) λh' tk hS kk=>PyProof.Rows.args_nil ?_
  . have hi:i<its.length:=by have:=(V1.mp hv).1;simpa using this
    obtain⟨x,ex,rx⟩:=iK rv hi;have ev:v=its[i]:=by have:=(V1.mp hv).2;simpa using this.symm
    rw[F7]at ex;cases eg:ss[i]? with
    |none=>rw[eg]at ex;cases ex
    |some z=>rw[eg]at ex;cases ex;obtain⟨t,et⟩:=rx;refine⟨t,?_⟩;rw[ev,et,A6,eg];rfl
  . have I2:Inv X pins σ H1 {s1 with heap:=h',toks:=tk}:=I1.kept λb u eb=>kk b u (C8 eb) eb;obtain⟨o,es,ep,tb,ho,hx,hd,_,_,hs,hf,hn⟩:=hS;refine call_len_set ho hx hd hf (by have:es.size<4096:=hs;omega) ?_;refine⟨.int (az8 ss),H1,I2.tok _,⟨tk+1,?_⟩,q⟩;rw[hn,A8,e1];rfl
end
end L2
namespace TL
open L2
section
variable{Jn:iP}{K:A1}{cn:Str->Option Addr}{E:XK}
def aw0:List T->Res T
 |[.lst _ ts]=>match aw1 ts with
  |some ss=>if ss.length<=1000 then .ok (.int (az8 ss))else .no
  |none=>.no
 |_=>.no
def dw0:yC K cn (ci2 K) aw0:=λE As H Z ts xs A Q zi r w=>by
 unfold aw0 at w;split at w
 . next o ts=>
   obtain⟨v,rfl,rv⟩:=r.one1;obtain⟨a,vs,C,rfl,s,rs,_⟩:=rv.lstSq;split at w
   . next ss hs=>
     split at w
     . next hl=>
       have:=bf1 ts rs hs;subst this;exact⟨a,ss,rfl,s.sq,hl,w.val zi (lV _)⟩
     . exact w.elim
   . exact w.elim
 . exact w.elim
theorem as7:∀(l acc:List Str),(acc++l).Nodup->l.foldl uS acc=acc++l
 |[],acc,_=>by simp
 |x::l,acc,h=>by
  have hx:x∉acc:=λhx=>by rw[C9]at h;exact h.2.2 x hx x A7 rfl
  have hs:uS acc x=acc++[x]:=by
   unfold uS;rw[E5];intro q;rw[N6]at q;obtain⟨y,hy,e⟩:=q;have:y=x:=by simpa using e
   subst this;exact hx hy
  rw[P8,hs,as7 l (acc++[x]) (by simpa using h)];simp
def cm3(l:List Str):(List.range l.length).map (λi=>l.getD i Str.empty)=l:=by
 apply List.ext_getElem?;intro i;by_cases h:i<l.length
 . rw[F7,R0 h,A2 h];simp[List.getD_eq_getElem?_getD,List.getElem?_eq_getElem h]
 . rw[U0 (by simpa using h),U0 V8]
theorem bv9(h:ss.Nodup):az8 ss=ss.length:=by unfold az8 mV;rw[cm3,as7 ss [] (by simpa using h)];simp
def cl9{ss:List Str}(o:Bool)(h:ss.Nodup)(hl:ss.length<=1000):aw0 [.lst o (ss.map .str)]=.ok (.int ss.length):=by simp only[aw0,ap4,if_pos hl,bv9 h]
end
open L2
section
variable{P:F9}{w:World}{K:A1}{cn:Str->Option Addr}{mg:Str->Option Value}{base:Heap}{k n:Nat}
def kJ:lP K cn [] f:=λ_ h=>nomatch h
def bM(h:cn c=some C)(k:Cls K C)(n:NoAttr K C f)(r:lP K cn cs f):lP K cn (c::cs) f:=λd hd D hD=>by
 rcases B9.mp hd with rfl|hd
 . rw[h]at hD;cases hD;exact⟨k,n⟩
 . exact r d hd D hD
def ao6:au6 K cn n [] []:=λc G C h=>by cases h
def fM(h:cn c=some C)(r:au6 K cn n tabs tab):au6 K cn n ((c,G)::tabs) ((C,bR K cn n G)::tab):=λd G' D hl hD=>by
 rw[G8]at hl;by_cases e:(d==c)=true
 . rw[e]at hl;cases hl;have:d=c:=by simpa using e
   subst this;rw[h]at hD;cases hD;exact A7
 . rw[Bool.not_eq_true]at e;rw[e]at hl;exact A5 _ (r d G' D hl hD)
def am6:∀q∈([]:List (Addr×Sp)),mD P w K mg base k q.1 m q.2:=dZ
def fN(h:mD P w K mg base k C m sp)(r:∀q∈tab,mD P w K mg base k q.1 m q.2):∀q∈(C,sp)::tab,mD P w K mg base k q.1 m q.2:=λq hq=>by
 rcases B9.mp hq with rfl|hq
 . exact h
 . exact r q hq
def MD(P:F9)(w:World)(K:A1)(mg:Str->Option Value)(base:Heap)(k:Nat)(kvs:List (Str×Value))(tab:List (Str×Sp)):Prop:=∀q∈tab,∃f fd ps,kvs.lookup q.1=some (.ref f)/\FnOk P w K mg base lH k f fd ps q.2/\Binds K fd ps []/\PySem.W.keepIn K (.ref f)=true
def de0:MD P w K mg base k kvs []:=dZ
def mO(e:kvs.lookup z=mg x)(d:dQ P w K mg base j x ps sp)(h:j<=k)(r:MD P w K mg base k kvs tab):MD P w K mg base k kvs ((z,sp)::tab):=λq hq=>by
 rcases B9.mp hq with rfl|hq
 . obtain⟨f,fd,F,hm,hk,hb⟩:=d.ex;exact⟨f,fd,ps,e.trans hm,F.mono h,hb,hk⟩
 . exact r q hq
def dm7(D:ab2 w K mg d kvs)(r:MD P w K mg base k kvs tab):dg0 P w K mg base k d tab:=⟨kvs,D,r⟩
end
end TL
namespace L2
def ed9{K:A1}{h:Heap}{mg:Str->Option Value}{kvs:List (Str×Value)}{z x:Str}{u:Value}(X:K.In h)(G:h.Ns mainGlobals mg)(a:PySem.W.nsIn K mainGlobals x=some (some u))(e:kvs.lookup z=some u):kvs.lookup z=mg x:=e.trans (P5 X G a).symm
end L2
namespace TL
open L2
def ey9(h1:-(2^64)<i)(h2:i<2^64):mulOk i j:=.inl ⟨h1,h2⟩
def cj3(h1:-(2^64)<j)(h2:j<2^64):mulOk i j:=.inr (.inl ⟨h1,h2⟩)
theorem dd6(i:Int):iE [.int i,.ty "int"]=.ok (.bl true):=dk4 i
theorem ds8(i:Int):iE [.int i,.ty "bool"]=.ok (.bl false):=cc7 i
theorem dx5(i:Bool):iE [.bl i,.ty "bool"]=.ok (.bl true):=dz4 i
theorem dy7(i:Bool):iE [.bl i,.ty "int"]=.ok (.bl true):=cs7 i
theorem cl1(i:List T):iE [.tup i,.ty "tuple"]=.ok (.bl true):=do5 i
theorem dh7(o:Bool)(i:List T):iE [.lst o i,.ty "list"]=.ok (.bl true):=dl5 o i
theorem dk6:iE [.non,.ty "bool"]=.ok (.bl false):=W3
theorem du8:iE [.non,.ty "int"]=.ok (.bl false):=W3
theorem eq2(i:Int):yD [.int i]=gate (i.natAbs.log2<1920) (.ok (.str (toString i))):=rfl
theorem dw9(x:Str):yD [.str x]=.ok (.str x):=rfl
theorem ez1(i j:Int):mM (.int i) (.int j)=.ok (.bl (!(i==j))):=rfl
theorem en0(i j:Str):mM (.str i) (.str j)=.ok (.bl (!(i==j))):=rfl
theorem et4(i j:Bool):mM (.bl i) (.bl j)=.ok (.bl (!(i==j))):=rfl
open PySem L2
theorem df2(h:n<=100000):(n<=sizeLine)=True:=eq_true (J2 h W1)
theorem dw2(h:n<=100000):(n<sizeLine)=True:=eq_true (P9 h W1)
def uA{m:Int}(h:0<=m):∃k:Nat,m=k:=⟨m.toNat,V8⟩
end TL
namespace TL
open PySem L2
def ea7(h1:0<j)(h2:j<1073741824):zV i j:=⟨h1,h2⟩
def ec8(h1:0<=j)(h2:j<=1000000)(h3:i.natAbs<2^64):at3 i j:=⟨h1,h2,h3⟩
end TL
namespace L2
open PySem
def et6{K}(h:PySem.W.findIn K (.ref C) f=some none):NoAttr K C f:=h
end L2
namespace L2
section
variable{X:Cx}
theorem bs3(r:Vals xs its):∀k:Nat,Vals (List.replicate k xs).flatten (List.replicate k its).flatten
 |0=>Paired.nil
 |k+1=>by rw[H0,H0,C4,C4];exact r.append (bs3 r k)
theorem bv7(its:List Value):∀(k:Nat)(acc:List Value),List.foldl (λx1 x2=>x1++x2) acc.toArray (List.replicate k its.toArray)=(acc++(List.replicate k its).flatten).toArray
 |0,acc=>by simp
 |k+1,acc=>by
  rw[H0,P8,H0,C4];have e:acc.toArray++its.toArray=(acc++its).toArray:=W0
  rw[e,bv7 its k,J4]
theorem cw5(its:List Value)(k:Nat):List.foldl (λx1 x2=>x1++x2) #[] (List.replicate (if its.toArray.isEmpty=true then 0 else k) its.toArray)=((List.replicate k its).flatten).toArray:=by
 cases its with
 |nil=>
  have e:(List.replicate k ([]:List Value)).flatten=[]:=by
   induction k with
   |zero=>rfl
   |succ k ih=>rw[H0,C4,ih];rfl
  rw[e];simp
 |cons v its=>have e:=bv7 (v::its) k [];simp only[List.nil_append]at e;simpa using e
def ds4(K:A1):R2:=λx y H Q=>∃l xs k,x=.ref l/\y=.int k/\SqS K H l xs/\-(2^63)<=k/\k<2^63/\xs.length*k.toNat<=2^24/\∀p,H p=none->Q (.ref p) (upd H p (.lst (List.replicate k.toNat xs).flatten))
def br1(K:A1)(hK:X.K=K:=by rfl):OpR X (binaryOp .Mult) (ds4 K):=by
 subst hK;intro pins s σ H x y v u Q I rx ry h;obtain⟨l,xs,k,rfl,rfl,hH,h1,h2,hz,q⟩:=h;cases rx;obtain⟨t,rfl⟩:=ry;obtain⟨its,n,r,e,_⟩:=I.listS hH;have hl:=r.length;have hs:its.toArray.size*k.toNat<=2^24:=by rw[A8,<-hl];exact hz
 refine wpAny_binaryOp_repeat_ref (T:="list") (U:="int") W1 ⟨_,e,rfl⟩ (λs'=>typeIs_int s' k t) noFill_list_mul F.fills_int_mul F.slot_int_rmul repeat_list F.slot_int_index.lookup
  (R3 F.slot_int_rmul (typeIs_int s k t) F.entry_int_rmul (F.args_int_rmul_2 _ _) (int___rmul___int_list k t l its.toArray n) ⟨e,rfl,⟨_,e,rfl⟩,R3 F.slot_list_mul ⟨_,e,rfl⟩ F.entry_list_mul (F.args_list_mul_2 _ _)
   (AutoListH.list___mul___list_int_3 l its.toArray n k t (by simp[Builtin.List.listFitsIndex];omega) V8 (by simp[Builtin.List.listTooLong,sizeLine];simpa using hs)) ⟨e,?_⟩⟩)
 rw[cw5];refine⟨.ref _,_,I.lnew (t':=s.toks) (bs3 r k.toNat) ?_,rfl,q _ I.fresh⟩;have hm:∀(m:Nat),(List.replicate m xs).flatten.length=m*xs.length:=by intro m;simp
 have hn:=D9;rw[hm,Nat.mul_comm];omega
end
end L2
namespace TL
open PySem L2
section
variable{K:A1}{cn:Str->Option Addr}
noncomputable def sL:T->T->Res T
 |.lst _ xs,.int k=>gate (aW xs=true/\-(2^63)<=k/\k<2^63/\xs.length*k.toNat<=2^24) (.ok (.lst true (List.replicate k.toNat xs).flatten))
 |_,_=>.no
theorem bi3(r:Reps K cn H Z xs vs []):∀k:Nat,Reps K cn H Z (List.replicate k xs).flatten (List.replicate k vs).flatten []
 |0=>Reps.nil
 |k+1=>by rw[H0,H0,C4,C4];exact Reps.append xs r (bi3 r k)
def ep4:nX K cn (ds4 K) sL:=λE As H Z t u x y A B Q zi rt ru w=>by
 unfold sL at w;split at w
 . next o xs k=>
   obtain⟨h,w⟩:=w.gate;obtain⟨a,vs,C,rfl,hs,r1,_⟩:=rt.lstSq;rw[ru.int];exact⟨a,vs,k,rfl,rfl,hs,h.2.1,h.2.2.1,by rw[Reps.length xs r1];exact h.2.2.2,λp hp=>w.newL zi (bi3 (r1.bareE h.1) k.toNat) p hp⟩
 . exact w.elim
def fy0(us:List T):List T->Option (List T)
 |[.int i]=>if 0<=i/\i.toNat<us.length/\us.length<=sizeLine then some (us.eraseIdx i.toNat)else none
 |_=>none
end
end TL
namespace TL
open L2
section
variable{Jn:iP}{K:A1}{cn:Str->Option Addr}{E:XK}
def ez7{mv mw L:List Nat}{te:TE}{tr:TA}{a:Fr->Res T}{r:Fr->Res (List T)}(ha:RE Jn K cn E mv te a)(hr:RA Jn K cn E mw tr r)(e:mv++mw=L)(hd:(mv.all λi=>!mw.contains i)=true):RA Jn K cn E L (wS te tr) (aD a r):=e▸dn7 ha hr hd
def ev4{ks ls L:List Nat}{n:Nat}{g:TG}{gs:TGs}{b:T->Fr->Option Fr}{bs:List T->Fr->Option Fr}(h1:RG Jn K cn ks g b)(h2:RGs Jn K cn ls n gs bs)(e:ks++ls=L):RGs Jn K cn L (n+1) (av8 g gs) (bC b bs):=e▸dq0 h1 h2
end
end TL
namespace TL
open L2
section
variable{Jn:iP}{K:A1}{cn:Str->Option Addr}{E:XK}
theorem Slots.keep(hz:∀a,Z a->Z' a):∀{ρ:Fr}{σ:St}{As:List (List Addr)},Slots K cn H Z ρ σ As->(∀a o,H a=some o->(a∈As.flatten\/Z a\/sZ o=true)->H' a=some o)->Slots K cn H' Z' ρ σ As
 |[],_,_,h,_=>h
 |o::ρ,_,_,h,k=>by
  obtain⟨w,σ',A,As',rfl,rfl,h1,h2⟩:=h;refine⟨w,σ',A,As',rfl,rfl,?_,Slots.keep hz h2 λa o q c=>k a o q (c.imp_left λc=>by rw[C4,A3];exact .inr c)⟩;cases o with
  |none=>exact h1
  |some t=>obtain⟨v,e,r⟩:=h1;exact⟨v,e,Rep.keep t r (λa o q c=>k a o q (c.imp_left λc=>by rw[C4,A3];exact .inl c)) hz⟩
def bn5(d:Fr->Res T):Fr->bO:=λρ=>match d ρ with
 |.ok t=>if cB t=true then .rm ρ t else .no
 |.ex x=>.ex x
 |.no=>.no
theorem di7(he:RB Jn K cn E te d):RS Jn K cn E (da3 te) (bn5 d):=λAs H Z ρ σ F D w=>by
 unfold bn5 at w;refine he As H Z ρ σ F _ ?_;cases e:d ρ with
 |ok t=>
  rw[e]at w;intro v H1 Z1 B p;simp only at w;split at w
  . next hn=>
    have hB:=Rep.bare t hn p.rep;subst hB;exact w v σ As H1 Z1 (F.mo p.mo) p.mo.ev p.rep
  . exact w.elim
 |ex x=>rw[e]at w;exact w
 |no=>rw[e]at w;exact w
def spM(K:A1)(cn:Str->Option Addr)(G:T->T->T->Res (T×T×T)):Sp:=λvs H Q _=>∃v0 v1 v2,vs=[v0,v1,v2]/\∃t0 t1 t2 Z B1 B2,(∀a,Z a->H a≠none)/\Rep K cn H Z t0 v0 []/\Rep K cn H Z t1 v1 B1/\Rep K cn H Z t2 v2 B2/\(B1++B2).Nodup/\(∀a∈B1++B2,¬Z a)/\
 ∃t u1 u2,G t0 t1 t2=.ok (t,u1,u2)/\∀v H' Z' C1 C2,Ev [B1,B2] H Z [C1,C2] H' Z'->Rep K cn H' Z' t v []->Rep K cn H' Z' u1 v1 C1->Rep K cn H' Z' u2 v2 C2->(C1++C2).Nodup->Q v H'
def bf0:bO->Res (T×T×T)
 |.nx ρ=>match ρ[1]?,ρ[2]? with
  |some (some a),some (some b)=>.ok (.non,a,b)
  |_,_=>.no
 |.rm ρ t=>match ρ[1]?,ρ[2]? with
  |some (some a),some (some b)=>.ok (t,a,b)
  |_,_=>.no
 |_=>.no
def dt2 {P : F9} {w : World} {mg : Str → Option Value} {base : Heap} {x qual : Str} {st : Stmt} {f : Addr} {fd : FuncData} {N ps : List Str} {k : Nat} {d : Fr → bO} (F : Fun K x qual st f fd) (S : bB N ps (aO st))
    (hbody : ∀ (v1 v2 : V) (cdv : Value) (A : J5) (outer : List Env) (s : B7) (H : Hp) (E : XK), Room k (A.deeper (envOfC qual (aO st) s.heap.objs.size f cdv)) →
      ∃ t, PSs (nU lH P w K mg base N qual (aO st) f cdv A outer s H E).nox (eM st) t ∧ RS [(1, v1), (2, v2)] K cn E t d) {G : T → T → T → Res (T × T × T)} (hn : ps.length = 3) (hG : ∀ t0 t1 t2, G t0 t1 t2 = bf0 (d (cE N.length [t0, t1, t2]))) : FnOk P w K mg base lH (k + 1) f fd ps (spM K cn G) := by
  refine F.ok S (fun vs H Q E h => by obtain ⟨_, _, _, rfl, _⟩ := h; rw [hn]; rfl) fun cdv A outer s H vs Q E hr h => ?_;obtain ⟨v0, v1, v2, rfl, t0, t1, t2, Z, B1, B2, zi, r0, r1, r2, nd, nz, t, u1, u2, eg, w⟩ := h;obtain ⟨tt, hp, ht⟩ := hbody v1 v2 cdv A outer s H E hr;refine ⟨tt, hp, ?_⟩;let m := N.length - 3;have sl : Slots K cn H Z (cE N.length [t0, t1, t2]) (L2.start N [v0, v1, v2]) ([] :: B1 :: B2 :: List.replicate m []) := by unfold cE L2.start;exact ⟨some v0, _, [], _, rfl, rfl, ⟨_, rfl, r0⟩, some v1, _, B1, _, rfl, rfl, ⟨_, rfl, r1⟩, some v2, _, B2, _, rfl, rfl, ⟨_, rfl, r2⟩, an3 m⟩
  have fl : ([] :: B1 :: B2 :: List.replicate m []).flatten = B1 ++ B2 := by rw [C4, C4, C4, mX]; simp
  have fl2 : ∀ C1 C2 : List Addr, [C1, C2].flatten = C1 ++ C2 := fun C1 C2 => by simp
  have F0 : Frm [(1, v1), (2, v2)] K cn H Z (cE N.length [t0, t1, t2]) (L2.start N [v0, v1, v2]) ([] :: B1 :: B2 :: List.replicate m []) :=
    ⟨sl, by rw [fl]; exact nd, by rw [fl]; exact nz, zi, fun p hp => by
      rcases B9.mp hp with rfl | hp
      . rfl
      . rw [C5] at hp;subst hp;rfl⟩
  refine ht _ H Z _ _ F0 _ ?_;rw [hG] at eg;have done : ∀ {ρ : Fr} {σ' : St} {As' : List (List Addr)} {H' : Hp} {Z' : Addr → Prop} {v : V}, Frm [(1, v1), (2, v2)] K cn H' Z' ρ σ' As' → Ev ([] :: B1 :: B2 :: List.replicate m []) H Z As' H' Z' → Rep K cn H' Z' t v [] → ρ[1]? = some (some u1) → ρ[2]? = some (some u2) → Q v H' := by
    intro ρ σ' As' H' Z' v F' ev rv e1 e2;obtain ⟨x1, s1, q1⟩ := F'.sl.get e1;obtain ⟨x2, s2, q2⟩ := F'.sl.get e2;have p1 := F'.pn (1, v1) (A7);have p2 := F'.pn (2, v2) (A5 _ (C5.mpr rfl));simp only at p1 p2;rw [s1] at p1;rw [s2] at p2;cases p1;cases p2;refine w v H' Z' _ _ ⟨fun a o h q => ev.keep a o h (by rw [fl]; rw [fl2] at q; exact q), fun a ha => ?_, ev.zz, fun a h => ?_, ev.dom⟩ rv q1 q2 ?_
    . rw [fl2, A3] at ha;have q := ev.own a (ha.elim bA bA);rw [fl] at q;rw [fl2];exact q
    . have q := ev.zn a h;rw [fl] at q;rw [fl2];exact q
    . rw [C9];refine ⟨kN F'.nd 1, kN F'.nd 2, fun a ha b hb e => ?_⟩;subst e;have := xM F'.nd ha hb;cases this
  cases ed : d (cE N.length [t0, t1, t2]) with
  | nx ρ =>
    rw [ed] at eg;intro σ' As' H' Z' F' ev;simp only [bf0] at eg;split at eg
    . next a b e1 e2 =>
      cases eg;exact done F' ev (by simp [Rep]) e1 e2
    . cases eg
  | rm ρ t' =>
    rw [ed] at eg;intro v σ' As' H' Z' F' ev rv;simp only [bf0] at eg;split at eg
    . next a b e1 e2 =>
      cases eg;exact done F' ev rv e1 e2
    . cases eg
  | rt t => rw [ed] at eg; cases eg
  | ex x => rw [ed] at eg; cases eg
  | bk ρ => rw [ed] at eg; cases eg
  | ct ρ => rw [ed] at eg; cases eg
  | no => rw [ed] at eg; cases eg
def ch8{P:F9}{w:World}{mg:Str->Option Value}{base:Heap}{x:Str}{st:Stmt}{N ps:List Str}{k:Nat}{d:Fr->bO}(F:eK K mg x st)(S:bB N ps (aO st))
 (hb:∀(kV doc pm:Value)(an:Option Addr)(cdv ct:Value)(us:List Value),us.length=ps.length->bindArgs (PySem.W.fnOf x x (kQ st) (eM st) (aO st) .none kV doc pm an cdv ct) ⟨us,[]⟩=pure (ps.zip us))
 (hbody:∀(v1 v2:V)(f:Addr)(cdv:Value)(A:J5)(outer:List Env)(s:B7)(H:Hp)(E:XK),Room k (A.deeper (envOfC x (aO st) s.heap.objs.size f cdv))->
  ∃t,PSs (nU lH P w K mg base N x (aO st) f cdv A outer s H E).nox (eM st) t/\RS [(1,v1),(2,v2)] K cn E t d){G:T->T->T->Res (T×T×T)}(hn:ps.length=3)(hG:∀t0 t1 t2,G t0 t1 t2=bf0 (d (cE N.length [t0,t1,t2]))):dQ P w K mg base (k+1) x ps (spM K cn G):=by
 obtain⟨f,fd,F,hm⟩:=F.ex;exact⟨f,fd,dt2 F S (λv1 v2 cdv A outer s H E hr=>hbody v1 v2 f cdv A outer s H E hr) hn hG,hm,F.kp,F.binds hb⟩
def al7(G:T->T->T->Res (T×T×T))(j0 j1 j2:Nat)(ρ:Fr):Option (T×T×T):=match ρ[j0]? with
 |some (some t0)=>match ρ[j1]? with
  |some (some t1)=>match ρ[j2]? with
   |some (some t2)=>match G (frz t0) t1 t2 with
    |.ok (t,u1,u2)=>if(cM t&&cB t&&cM u1&&cM u2)=true then some (t,u1,u2)else none
    |_=>none
   |_=>none
  |_=>none
 |_=>none
def ae0(i j0 j1 j2:Nat)(G:T->T->T->Res (T×T×T)):Fr->bO:=λρ=>match al7 G j0 j1 j2 ρ with
 |some (t,u1,u2)=>.nx (((ρ.set j1 (some u1)).set j2 (some u2)).set i (some t))
 |none=>.no
def yK{α:Type}{l:List α}{i:Nat}{x:α}(h:l[i]?=some x):l.set i x=l:=by
 apply List.ext_getElem?;intro j;by_cases e:i=j
 . subst e;rw[List.getElem?_set_self',h];rfl
 . rw[E4 e]
theorem dm3{i j0 j1 j2:Nat}{G:T->T->T->Res (T×T×T)}(h01:j0≠j1)(h02:j0≠j2)(h12:j1≠j2)(hJ:qM Jn i=true)(h1:qM Jn j1=true)(h2:qM Jn j2=true):RS Jn K cn E (be0 (cm4 (spM K cn G) (wS (xI j0) (wS (xI j1) (wS (xI j2) az1)))) (yH i)) (ae0 i j0 j1 j2 G):=λAs H Z ρ σ F D w=>by
 unfold ae0 at w;cases ec:al7 G j0 j1 j2 ρ with
 |none=>rw[ec]at w;exact w.elim
 |some q=>
  obtain⟨t,u1,u2⟩:=q;rw[ec]at w;unfold al7 at ec;split at ec
  . next t0 e0=>
    split at ec
    . next t1 e1=>
      split at ec
      . next t2 e2=>
        split at ec
        . next t' u1' u2' eG=>
          split at ec
          . next hc=>
            cases ec;simp only[Bool.and_eq_true]at hc;obtain⟨⟨⟨ct,nt⟩,c1⟩,c2⟩:=hc;obtain⟨v0,s0,r0⟩:=F.sl.get e0;obtain⟨v1,s1,r1⟩:=F.sl.get e1;obtain⟨v2,s2,r2⟩:=F.sl.get e2;have inF:∀{j:Nat}{a:Addr},a∈As.getD j []->a∈As.flatten:=λh=>bA h;have dA:∀a∈As.flatten,H a≠none:=λa ha=>by obtain⟨o,q,_⟩:=F.sl.dom a ha;rw[q];exact λz=>nomatch z
            refine⟨v0,s0,v1,s1,v2,s2,v0,v1,v2,rfl,frz t0,t1,t2,(λa=>Z a\/a∈As.getD j0 []),As.getD j1 [],As.getD j2 [],λa h=>h.elim (F.zi a) λh=>dA a (inF h),Rep.frz t0 r0 (λa h=>.inl h) (λa h=>.inr h),r1.same (Same.refl _) (λa h=>.inl h),r2.same (Same.refl _) (λa h=>.inl h),?_,?_,t,u1,u2,eG,?_⟩
            . rw[C9];refine⟨kN F.nd j1,kN F.nd j2,λa ha b hb e=>?_⟩;subst e;exact h12 (xM F.nd ha hb)
            . intro a ha z;rw[A3]at ha;rcases z with z|z
              . exact F.nz a (ha.elim inF inF) z
              . rcases ha with ha|ha
                . exact h01 (xM F.nd z ha)
                . exact h02 (xM F.nd z ha)
            . intro v H' Z' C1 C2 ev rt q1 q2 ndC;have fl2:∀C1 C2:List Addr,[C1,C2].flatten=C1++C2:=λC1 C2=>by simp
              show D.nx (σ.set i (some v)) H';have F1:=(F.kill j1).kill j2;have out:∀a∈((As.set j1 []).set j2 []).flatten,a∈As.flatten/\a∉As.getD j1 []/\a∉As.getD j2 []:=λa ha=>by
               have m1:a∈(As.set j1 []).flatten:=(dM ha).elim (λq=>nomatch q) id;have m0:a∈As.flatten:=(dM m1).elim (λq=>nomatch q) id;refine⟨m0,λh=>?_,λh=>?_⟩
               . exact rS (mv:=[j1]) F.nd (C5.mpr rfl) h m1
               . refine rS (mv:=[j2]) (F.kill j1).nd (C5.mpr rfl) (i:=j2) ?_ ha;rw[A6,E4 h12,<-A6];exact h
              have kp:∀a o,H a=some o->(a∈((As.set j1 []).set j2 []).flatten\/Z a\/sZ o=true)->H' a=some o:=λa o q c=>ev.keep a o q λhx=>by
               rw[fl2,A3]at hx;rcases c with c|c|c
               . exact hx.elim (out a c).2.1 (out a c).2.2
               . exact F.nz a (hx.elim inF inF) c
               . obtain⟨o',q',c'⟩:=F.sl.dom a (hx.elim inF inF);rw[q]at q';cases q';rw[c]at c';cases c'
              have dom':∀a,H a≠none->H' a≠none:=λa h q=>h (ev.dom a q);have F2:Frm Jn K cn H' Z ((ρ.set j1 none).set j2 none) σ ((As.set j1 []).set j2 []):=⟨F1.sl.keep (λ_ h=>h) kp,F1.nd,F1.nz,λa h=>dom' a (F.zi a h),F1.pn⟩;have own:∀a∈C1++C2,(a∈As.getD j1 []\/a∈As.getD j2 [])\/H a=none:=λa ha=>by have q:=ev.own a (by rw[fl2];exact ha);rw[fl2,A3]at q;exact q
              have cz:∀a∈C1++C2,¬Z a:=λa ha z=>by
               rcases own a ha with q|q
               . exact F.nz a (q.elim inF inF) z
               . exact F.zi a z q
              have co:∀a∈C1++C2,a∉((As.set j1 []).set j2 []).flatten:=λa ha hm=>by
               rcases own a ha with q|q
               . exact q.elim (out a hm).2.1 (out a hm).2.2
               . exact dA a (out a hm).1 q
              rw[C9]at ndC;have F3:=F2.set (Rep.any u1 c1 q1) ndC.1 (λb hb=>cz b (D7 _ hb)) j1 (λb hb hm=>B0 hm (co b (D7 _ hb))) h1;have F4:=F3.set (Rep.any u2 c2 q2) ndC.2.1 (λb hb=>cz b (B6 _ hb)) j2 (λb hb hm=>by
               rcases dM hm with q|q
               . exact B0 rfl (ndC.2.2 b q b hb)
               . exact B0 q (co b (B6 _ hb))) h2
              have F5:=F4.set (Rep.any t ct rt) G4 dZ i dZ hJ;have eσ:((σ.set j1 (some v1)).set j2 (some v2))=σ:=by rw[yK s1,yK s2]
              rw[eσ]at F5;have eρ:((((ρ.set j1 none).set j2 none).set j1 (some u1)).set j2 (some u2))=(ρ.set j1 (some u1)).set j2 (some u2):=by rw[List.set_comm _ _ h12,List.set_set,List.set_comm _ _ (M7 h12),List.set_set]
              rw[eρ]at F5;refine w _ _ H' Z F5 ⟨λa o q n=>ev.keep a o q λhx=>?_,λa ha=>?_,λ_ h=>h,λ_ h=>.inl h,ev.dom⟩
              . rw[fl2,A3]at hx;exact n (hx.elim inF inF)
              . rcases dM ha with q|q
                . cases q
                . rcases dM q with q|q
                  . rcases own a (B6 _ q)with q|q
                    . exact .inl (q.elim inF inF)
                    . exact .inr q
                  . rcases dM q with q|q
                    . rcases own a (D7 _ q)with q|q
                      . exact .inl (q.elim inF inF)
                      . exact .inr q
                    . exact .inl (out a q).1
          . cases ec
        . cases ec
      . cases ec
    . cases ec
  . cases ec
end
end TL
namespace L2
section
variable{X:Cx}
def dh5(K:A1):List V->Hp->VK->Prop:=λxs H Q=>∃(p:Addr)(ns:List Int),xs=[.ref p]/\SqL K H p (ns.map V.int)/\Q (.int ns.sum) H
def cr6(K:A1)(hc:X.calm=true:=by rfl)(hK:X.K=K:=by rfl):CallR X (.builtin "sum") (dh5 K):=by
 subst hK;intro pins s σ H xs us Q I r h;obtain⟨p,ns,rfl,hp,q⟩:=h;obtain⟨u,rfl,ru⟩:=r.one;obtain rfl:u=Value.ref p:=ru;obtain⟨its,rv,pl,_⟩:=I.list hp;have hi:IntsAre its ns:=tR rv;have hl:=pl.isList;obtain⟨zs,e⟩:=hi.allInts.items;have hns:ns=zs.toList.map (·.1):=by rw[<-hi.numsOf,<-nums_intItems,<-e]
 rw[e]at hl;refine sum_intListG (I.ok.hd hc) hl λh' tk t' hk=>?_;have es:preSum (numAt zs) zs.size=ns.sum:=by rw[preSum_eq,N8 W0,<-hns]
 rw[es];exact⟨.int _,H,I.kept hk,⟨t',rfl⟩,q⟩
end
end L2
namespace TL
open PySem L2
section
variable{K:A1}{cn:Str->Option Addr}
def bo5:List T->Res T
 |[.lst _ ts]=>match zH ts with
  |some ns=>.ok (.int ns.sum)
  |none=>.no
 |_=>.no
def ee8:yC K cn (dh5 K) bo5:=λE As H Z ts xs A Q zi r w=>by
 unfold bo5 at w;split at w
 . next o ts=>
   split at w
   . next ns h=>
     obtain⟨v,rfl,rv⟩:=r.one1;obtain⟨q,vs,C,rfl,hs,r',_⟩:=rv.lstSq;have:=wV ts r' h;subst this;exact⟨q,ns,rfl,hs.sq,w.val zi (lV _)⟩
   . exact w.elim
 . exact w.elim
theorem ej7(o:Bool)(ns:List Int):bo5 [.lst o (ns.map .int)]=.ok (.int ns.sum):=by simp only[bo5,xB]
end
end TL
namespace L2
section
variable{X:Cx}
structure IsC (K:A1) (C:Addr):Prop where
 ha:PySem.W.findIn K (.ref C) "__class__"=some (some (.builtin "object.__class__"))
 hn:PySem.W.specialIn K (.builtin "object.__class__") "__get__"=some (some (.builtin "getset_descriptor.__get__"))
 htk:PySem.W.takesIn K (.builtin "object.__class__")=some true
 hm:PySem.W.mroIn K C (.type "object")=some true
def fc1{K:A1}{C:Addr}(a:PySem.W.findIn K (.ref C) "__class__"=some (some (.builtin "object.__class__")))(b:PySem.W.specialIn K (.builtin "object.__class__") "__get__"=some (some (.builtin "getset_descriptor.__get__")))(c:PySem.W.takesIn K (.builtin "object.__class__")=some true)
 (d:PySem.W.mroIn K C (.type "object")=some true):IsC K C:=⟨a,b,c,d⟩
def eq6(K:A1)(C D:Addr)(b:Bool):Prop:=PySem.W.kitOne K (.ref C) (.ref D)=some b
def ez9{K:A1}{C D:Addr}{b:Bool}(h:PySem.W.kitOne K (.ref C) (.ref D)=some b):eq6 K C D b:=h
def fb1{K:A1}{h:Heap}{mg:Str->Option Value}(X:K.In h)(G:h.Ns mainGlobals mg){x:Str}{C:Addr}(a:PySem.W.nsIn K mainGlobals x=some (some (.ref C))):xF mg x (.ref C):=⟨_,P5 X G a,rfl⟩
end
end L2
namespace TL
open L2
section
variable{Jn:iP}{K:A1}{cn:Str->Option Addr}{E:XK}
end
open L2
section
variable{Jn:iP}{K:A1}{cn:Str->Option Addr}{E:XK}
def am1(i:Nat)(k:Int):Fr->Res T:=λρ=>match ρ[i]? with
 |some (some (.tup ts))=>(match atI ts k with
  |some t=>.ok t
  |none=>.no)
 |_=>.no
def Reps.atS{H:Hp}{Z:Addr->Prop}{ts:List T}{vs:List V}{A:List Addr}{i:Int}{t:T}(r:Reps K cn H Z ts vs A)(h:L2.atI ts i=some t):∃v B,L2.atI vs i=some v/\Rep K cn H Z t v B/\B.Sublist A:=by unfold L2.atI at h⊢;rw[N4]at h;obtain⟨j,h1,h2⟩:=h;obtain⟨v,B,e,rv,_,sb⟩:=Reps.get ts r h2;exact⟨v,B,by rw[Reps.length ts r,h1];exact e,rv,sb⟩
def dg6(i:Nat)(k:Int):RE Jn K cn E [i] (tOp (rIx K) (xI i) (tC (.int k))) (am1 i k):=λAs H Z ρ σ F Q w=>by
 unfold am1 at w;split at w
 . next ts e=>
   split at w
   . next t h=>
     obtain⟨v,es,r⟩:=F.sl.get e;obtain⟨q,vs,rfl,hs,r1⟩:=r.tupS;obtain⟨v',D,e3,rv,sb⟩:=r1.atS h;have nd:(As.getD i []).Nodup:=kN F.nd i;exact⟨_,es,.inr (.inl ⟨q,vs,k,v',rfl,rfl,hs,e3,w v' H Z D ⟨Same.refl _,λ_ h=>h,λ_ h=>.inl h,F.zi,rv,nd.sublist sb,λb hb=>F.nz b (bA (sb.subset hb)),λb hb=>.inr ⟨i,A7,sb.subset hb⟩⟩⟩)⟩
   . exact w.elim
 . exact w.elim
end
open L2
section
variable{K:A1}{cn:Str->Option Addr}
def ai1:T->T->Res T
 |.tup ts,.tup us=>(match zH ts,zH us with
  |some ns,some ms=>.ok (.bl (HT.lexLt ns ms))
  |_,_=>.no)
 |_,_=>.no
def em6:nX K cn (ds1 K) ai1:=λE As H Z t u x y A B Q zi rt ru w=>by
 unfold ai1 at w;split at w
 . next ts us=>
   split at w
   . next ns ms h1 h2=>
     obtain⟨a,vs,rfl,hs,r1⟩:=rt.tupS;obtain⟨b,ws,rfl,hs2,r2⟩:=ru.tupS;rw[wV ts r1 h1]at hs;rw[wV us r2 h2]at hs2;exact⟨a,b,ns,ms,rfl,rfl,hs,hs2,w.val zi (rW _)⟩
   . exact w.elim
 . exact w.elim
def ee9(ns ms:List Int):ai1 (.tup (ns.map .int)) (.tup (ms.map .int))=.ok (.bl (HT.lexLt ns ms)):=by simp only[ai1,xB]
end
end TL
namespace HT
variable{prog:F9}{w:World}{A:J5}{E:Value->B7->Prop}{s:B7}
def cat_tup0{t b:Addr}{vs ws:List Value}{Q:Value->B7->Prop}(ht:IsTup s.heap t vs.toArray)(hb:IsTup s.heap b ws.toArray)(hv:vs=[])(h:Q (.ref b) s):wpAny (model prog w) A (binaryOp .Add (.ref t) (.ref b)) Q E s:=by
 obtain⟨⟨cls,dd,data,sl⟩,ho,hc,n,hd⟩:=id ht;obtain⟨⟨cls2,dd2,data2,sl2⟩,ho2,hc2,n2,hd2⟩:=id hb;simp only at hc hd hc2 hd2;subst hc hd hc2 hd2;exact concat_meets ⟨_,ho,rfl⟩ ⟨_,ho2,rfl⟩ noFill_tuple_add seq_tuple_add PySem.F.slot_tuple_add PySem.F.entry_tuple_add (PySem.F.args_tuple_add_2 _ _)
  (tuple_addW0 t b vs.toArray ws.toArray n n2 dd dd2 sl sl2 (by simp[hv])) ⟨ho,ho2,h⟩
end HT
namespace L2
def cq5(K:A1):R2:=λx y H Q=>∃a b ys,x=.ref a/\y=.ref b/\SqT K H a []/\SqT K H b ys/\Q (.ref b) H
def op_catT0{X:Cx}:OpR X (binaryOp .Add) (cq5 X.K):=by intro pins s σ H x y v u Q I rx ry h;obtain⟨a,b,ys,rfl,rfl,ha,hb,q⟩:=h;cases rx;cases ry;obtain⟨its,r1,p1,_⟩:=I.tuple ha;obtain⟨its2,r2,p2,_⟩:=I.tuple hb;exact HT.cat_tup0 p1 p2 (r1.nil_iff.mpr rfl) ⟨.ref b,H,I,rfl,q⟩
def df5(K:A1):R2:=λx y H Q=>cq5 K x y H Q\/cl4 K x y H Q
def dv8{X:Cx}(K:A1)(hK:X.K=K:=by rfl):OpR X (binaryOp .Add) (df5 K):=by cases hK;exact op_catT0.or (bI _)
end L2
namespace TL
open L2
section
variable{K:A1}{cn:Str->Option Addr}
noncomputable def vU:T->T->Res T
 |.tup [],.tup ys=>if aW ys=true then .ok (.tup ys)else .no
 |t,u=>bS t u
def ep3:nX K cn (df5 K) vU:=λE As H Z t u x y A B Q zi rt ru w=>by
 unfold vU at w;split at w
 . next ys=>
   split at w
   . next h=>
     have h':cB (.tup ys)=true:=by simp only[cB];exact h
     obtain⟨a,vs,rfl,hs,r1⟩:=rt.tupS;have r0:Rep K cn H Z (.tup ys) y []:=by have z:=Rep.bare _ h' ru;rw[z]at ru;exact ru
     obtain⟨b,ws,rfl,hs2,r2⟩:=ru.tupS;simp only[Reps]at r1;obtain⟨rfl,_⟩:=r1;exact .inl ⟨a,b,ws,rfl,rfl,hs,hs2,w.val zi r0⟩
   . exact w.elim
 . exact .inr (dt5 E As H Z _ _ x y A B Q zi rt ru w)
end
end TL
namespace L2
def eg2{X:Cx}(K:A1){k:Nat}(hr:Room k X.A)(hK:X.K=K:=by rfl):OpR X (compareOp .Lt) (ds1 K):=by cases hK;exact eb2 hr.units0
end L2
namespace TL
open L2
section
variable{Jn:iP}{K:A1}{cn:Str->Option Addr}{E:XK}
def aa2(i:Nat)(d:Fr->Res T):Fr->Res T:=λρ=>match d (yZ i ρ)with
 |.ok (.bl b)=>.ok (.bl b)
 |_=>.no
def RE.fzS{te:TE}{d:Fr->Res T}(i:Nat)(h:RE Jn K cn E [] te d):RE Jn K cn E [] te (aa2 i d):=λAs H Z ρ σ F Q w=>by
 obtain⟨Z',As',F',ev⟩:=F.frz i;refine h As' H Z' _ σ F' Q ?_;unfold aa2 at w;split at w
 . next b e=>
   rw[e];intro v H1 Z1 B p;have rv:v=.bl b:=by have:=p.rep;simp only[Rep]at this;exact this.1
   subst rv;refine w _ H1 Z [] ⟨p.same,λ_ h=>h,λ_ h=>.inl h,λa ha=>?_,rW _,G4,dZ,dZ⟩;cases q:H a with
   |none=>exact B0 q (F.zi a ha)
   |some o=>rw[p.same a o q];exact(λz=>nomatch z)
 . exact w.elim
end
open L2
section
variable{Jn:iP}{K:A1}{cn:Str->Option Addr}{E:XK}
def at6:List T->Option (List T)
 |[]=>some []
 |.tup [s,.lst true _]::tl=>some (.tup [s,.lst true []]::tl)
 |_=>none
def sF(j i1 i2:Nat):Fr->bO:=λρ=>match ρ[j]? with
 |some (some (.tup ts))=>if(decide (i1<ρ.length)&&decide (i2<ρ.length))=true then(match ts[ts.length-1]? with
  |some (.lst true us)=>(match at6 us with
   |some us'=>.nx ((kills [i1,i2] ρ).set j (some (.tup (ts.set (ts.length-1) (.lst true us')))))
   |none=>.no)
  |_=>.no)else .no
 |_=>.no
theorem Slots.anyS{H:Hp}{Z:Addr->Prop}(x:Option V):∀{ρ:Fr}{σ:St}{As:List (List Addr)}{i:Nat},Slots K cn H Z ρ σ As->ρ[i]?=some none->Slots K cn H Z ρ (σ.set i x) As
 |[],_,_,_,h,e=>by simp at e
 |o::ρ,_,_,0,h,e=>by obtain⟨w,σ',A,As',rfl,rfl,h1,h2⟩:=h;simp at e;subst e;exact⟨x,σ',A,As',rfl,rfl,h1,h2⟩
 |o::ρ,_,_,i+1,h,e=>by obtain⟨w,σ',A,As',rfl,rfl,h1,h2⟩:=h;exact⟨w,_,A,As',rfl,rfl,h1,Slots.anyS x h2 (by simpa using e)⟩
theorem Slots.lenS{H:Hp}{Z:Addr->Prop}:∀{ρ:Fr}{σ:St}{As:List (List Addr)},Slots K cn H Z ρ σ As->ρ.length=σ.length
 |[],_,_,h=>by obtain⟨rfl,rfl⟩:=h;rfl
 |o::ρ,_,_,h=>by obtain⟨w,σ',A,As',rfl,rfl,h1,h2⟩:=h;simp[Slots.lenS h2]
theorem Frm.anyS{H:Hp}{Z:Addr->Prop}{ρ:Fr}{σ:St}{As:List (List Addr)}{i:Nat}(x:Option V)(F:Frm Jn K cn H Z ρ σ As)(e:ρ[i]?=some none)(hJ:qM Jn i=true):Frm Jn K cn H Z ρ (σ.set i x) As:=⟨F.sl.anyS x e,F.nd,F.nz,F.zi,ah4 hJ _ F.pn⟩
theorem ca6{j i1 i2:Nat}(h1:i1≠j)(h2:i2≠j)(h12:i1≠i2)(hJ1:qM Jn i1=true)(hJ2:qM Jn i2=true):
 RS Jn K cn E (dr2 (iV K (tSl (dc3 K) (tOp (rIx K) (xI j) (tUn (rU λi=>.int (-i)) (tC (.int 1)))) bu1 (cs3 (tC (.int 1))))) (cz3 K 2 (av8 (yH i1) (av8 (yH i2) du1))) (bk5 (tBM K "list" cs6 (xI i2) az1))) (sF j i1 i2):=λAs H Z ρ σ F D w=>by
 unfold sF at w;split at w
 rotate_left
 . exact w.elim
 rename_i ts ej;split at w
 rotate_left
 . exact w.elim
 rename_i hlen;rw[G1,decide_eq_true_eq,decide_eq_true_eq]at hlen;split at w
 rotate_left
 . exact w.elim
 rename_i us el;obtain⟨vj,sj,rj⟩:=F.sl.get ej;obtain⟨q,vs,rfl,hq,rts⟩:=rj.tupS;obtain⟨vl,B1,ev,rl,_,sB1⟩:=Reps.get ts rts el;obtain⟨a,xs,C,rfl,rfl,ha,rus⟩:=(by simpa only[Rep]using rl:∃a vs B,vl=.ref a/\B1=a::B/\H a=some (.lst vs)/\Reps K cn H Z us vs B);have lvs:=Reps.length ts rts;have lt0:0<ts.length:=by have:=(C7.mp el).1;omega
 have hneg:L2.atI vs (-1)=some (.ref a):=by unfold L2.atI;rw[lvs,N4];refine⟨ts.length-1,?_,ev⟩;unfold qG;simp;omega
 refine⟨.ref q,sj,1,rfl,.inr (.inl ⟨q,vs,-1,.ref a,rfl,rfl,hq,hneg,1,rfl,.inl ⟨a,xs,rfl,SqL.of ha,λp hp=>?_⟩⟩)⟩;have eL:zW xs none (some 1)=xs.take 1:=by
  unfold zW;rw[HT.sIx_none];simp only[HT.sIx];rw[E5 W1,List.drop_zero,Nat.sub_zero];cases xs with
  |nil=>rfl
  |cons y ys=>simp
 rw[eL];have m:=Mo.new (.lst (xs.take 1)) hp F.zi;have ep:L2.upd H p (.lst (xs.take 1)) p=some (.lst (xs.take 1)):=fR;generalize hH1:L2.upd H p (.lst (xs.take 1))=H1 at*;refine .inl ⟨p,rfl,.inl ⟨⟨_,SqL.of ep⟩,?_⟩⟩;have F1:=F.mo m;have Fk:=F1.kills [i1,i2];have lj:j<ρ.length:=(C7.mp ej).1;have kk:(kills [i1,i2] ρ)[j]?=some (some (.tup ts)):=by simp only[kills];rw[E4 h2,E4 h1];exact ej
 have evk:Ev As H Z (gB [i1,i2] As) H1 Z:=⟨λa o q _=>m.same a o q,λx hx=>.inl (gA hx),λ_ h=>h,λ_ h=>.inl h,λa h=>by
  cases e:H a with
  |none=>rfl
  |some o=>rw[m.same a o e]at h;cases h⟩
 cases us with
 |nil=>
  have ex:xs=[]:=by have:=Reps.length _ rus;simpa using this
  subst ex;refine⟨λi _ σ' H'=>σ'=σ/\H'=H1,⟨0,rfl,rfl⟩,?_⟩;rintro i m' σ' H' ⟨rfl,rfl⟩;refine .inl ⟨⟨_,SqL.of ep,W0⟩,?_⟩;simp only[at6]at w;refine w _ _ _ _ ?_ evk;have e1:ts.set (ts.length-1) (.lst true [])=ts:=yK el;rw[e1,yK kk];exact Fk
 |cons hd tl=>
  cases ec:at6 (hd::tl)with
  |none=>rw[ec]at w;exact w.elim
  |some us'=>
   rw[ec]at w;unfold at6 at ec;split at ec
   . next qe=>cases qe
   . next s zs tl' qe=>
     obtain⟨rfl,rfl⟩:=List.cons.inj qe;cases ec;have eA:(gB [i1,i2] As).getD j []=As.getD j []:=by simp only[gB];rw[A6,A6,E4 h2,E4 h1]
     have ndA:(As.getD j []).Nodup:=kN F.nd j;have r1:Rep K cn H1 Z (.tup ts) (.ref q) (As.getD j []):=rj.same m.same m.zz;have rts1:Reps K cn H1 Z ts vs (As.getD j []):=rts.same m.same m.zz;have hq1:SqT K H1 q vs:=SqT.keep hq (λb o e _=>m.same b o e);have ha1:H1 a=some (.lst xs):=m.same a _ ha;obtain⟨w1,D1,ew1,pl1⟩:=(Plug.root r1).step ndA rfl rts1 (List.Sublist.refl _) el (λt'=>by simp[jJ,el,qN]) (λH' Z' t' C' z kk rr ndC hC=>by refine⟨C',?_,ndC,λx hx=>.inr hx⟩;simp only[qN,Rep];exact⟨q,vs,rfl,SqT.keep hq1 (λb o q i=>kk b o q (.inr (.inr i))),rr⟩);rw[ev]at ew1;cases ew1;obtain⟨a',xs',C1,e',rfl,ha',rus1⟩:=(by have:=pl1.rep;simpa only[Rep]using this:∃a' vs B,V.ref a=.ref a'/\D1=a'::B/\H1 a'=some (.lst vs)/\Reps K cn H1 Z (.tup [s,.lst true zs]::tl) vs B);cases e';rw[ha1]at ha';cases ha';have ndD:(a::C1).Nodup:=ndA.sublist pl1.sub;obtain⟨y,D2,ey,pl2⟩:=pl1.step ndA (by simp[eX,el]) rus1 (Q2 _ _) (k:=0) (u2:=.tup [s,.lst true zs]) rfl (λt'=>by simp[jJ,qN]) (λH' Z' t' C' z kk rr ndC hC=>by
      refine⟨a::C',?_,E9.mpr ⟨λhx=>(E9.mp ndD).1 (hC a hx A7),ndC⟩,λx hx=>?_⟩
      . simp only[qN,Rep];exact⟨a,xs,C',rfl,rfl,kk a _ ha1 (.inl ⟨A7,(E9.mp ndD).1⟩),rr⟩
      . rcases B9.mp hx with rfl|hx
        . exact .inl ⟨A7,(E9.mp ndD).1⟩
        . exact .inr hx)
     obtain⟨q',ws2,rfl,sq,rs2⟩:=(by have:=pl2.rep;simpa only[Rep]using this:∃a vs,y=.ref a/\SqT K H1 a vs/\Reps K cn H1 Z [s,.lst true zs] vs D2);obtain⟨w2,D3,ew2,pl3⟩:=pl2.step ndA (by simp[eX,el]) rs2 (List.Sublist.refl _) (k:=1) (u2:=.lst true zs) rfl (λt'=>by simp[jJ,qN]) (λH' Z' t' C' z kk rr ndC hC=>by refine⟨C',?_,ndC,λx hx=>.inr hx⟩;simp only[qN,Rep];exact⟨q',ws2,rfl,SqT.keep sq (λb o q i=>kk b o q (.inr (.inr i))),rr⟩);obtain⟨b,dv,C3,rfl,rfl,hb,rsz⟩:=(by have:=pl3.rep;simpa only[Rep]using this:∃a vs B,w2=.ref a/\D3=a::B/\H1 a=some (.lst vs)/\Reps K cn H1 Z zs vs B);simp only[Reps]at rs2;obtain⟨x1,r1',B1',C1',rfl,_,rA,x2,r2,B2,C2,rfl,_,rB,rfl,_⟩:=rs2;have ex2:x2=.ref b:=by simpa using ew2
     subst ex2;have lρ:ρ.length=σ.length:=F.sl.lenS;have n1:(kills [i1,i2] ρ)[i1]?=some none:=by simp only[kills];rw[E4 (M7 h12),L6 hlen.1]
     have n2:(kills [i1,i2] ρ)[i2]?=some none:=by simp only[kills];rw[L6 (by simpa using hlen.2)]
     have F2:=(Fk.anyS (some x1) n1 hJ1).anyS (some (.ref b)) n2 hJ2;have s2:((σ.set i1 (some x1)).set i2 (some (V.ref b)))[j]?=some (some (.ref q)):=by rw[E4 h2,E4 h1];exact sj
     have eT:xs.take 1=[.ref q']:=by
      cases xs with
      |nil=>cases ey
      |cons y0 ys=>simp at ey;rw[ey];rfl
     rw[eT]at ep;have bp:b≠p:=λz=>by have aA:b∈As.getD j []:=pl3.sub.mem A7;obtain⟨o,e,_⟩:=F.sl.dom b (bA aA);rw[z,hp]at e;cases e
     refine⟨λi m σ' H'=>(i=0/\m=1/\σ'=σ/\H'=H1)\/(i=1/\D.nx σ' H'/\H' p=some (.lst [.ref q'])),⟨1,.inl ⟨rfl,rfl,rfl,rfl⟩⟩,?_⟩;rintro i m' σ' H' (⟨rfl,rfl,rfl,rfl⟩|⟨rfl,hD,hp'⟩)
     . refine .inr ⟨⟨_,.ref q',SqL.of ep,rfl⟩,λσ' H'=>D.nx σ' H'/\H' p=some (.lst [.ref q']),λσ' H' hN=>⟨0,V8,.inr ⟨rfl,hN⟩⟩,λx H2 ⟨eH,hx⟩=>?_⟩;subst eH;have ex:x=.ref q':=(E8 (hx _ (SqL.of ep))).symm;subst ex;refine⟨q',[x1,.ref b],rfl,sq,rfl,x1,[.ref b],rfl,.ref b,[],rfl,rfl,.ref b,?_,.inl ⟨rfl,dv,SqL.of hb⟩,b,dv,rfl,rfl,hb,?_,?_⟩
       . rw[L6 (by rw[O3,<-lρ];exact hlen.2)]
       . refine ac9 (As:=As) (H:=H) (Z:=Z) (E:=E) (D:={nx:=D.nx,rt:=λ_ _=>False}) F2 kk s2 (p:=[ts.length-1,0,1]) (by rw[eA];exact pl3) rfl rfl hb (us':=[]) (ws':=[]) (C:=[]) (by simp[Reps]) G4 dZ dZ evk dZ ?_;unfold TL.ab5;rw[kk];have es:jJ (.lst true []) [ts.length-1,0,1] (.tup ts)=some (.tup (ts.set (ts.length-1) (.lst true (.tup [s,.lst true []]::tl)))):=by simp[jJ,el]
         simp only[es];exact w
       . rw[cV (M7 bp)];exact ep
     . exact .inl ⟨⟨_,SqL.of hp',W0⟩,hD⟩
   . cases ec
end
end TL

end
section
open TL L2
def Ac5(i:Nat){X}{x}{q}:=@L2.pv X x q i
def Ac6:=@Ac5 0
def Ac7:=@Ac5 1
def Ac8:=@Ac5 2
def Ac9:=@Ac5 3
def Ad0:=@Ac5 4
def Ad1:=@Ac5 5
def Ad2:=@Ac5 6
def Ad3:=@Ac5 7
def Ad4:=@Ac5 8
def Ad5:=@Ac5 9
def Ad6:=@Ac5 10
def Ad7:=@Ac5 11
def Ad8:=@Ac5 12
set_option maxHeartbeats 4000000
open TL
def YQ(t:String):Lean.MacroM (Array (Lean.TSyntax `Lean.Parser.Tactic.tacticSeq)):=(t.splitOn " ").toArray.mapM λs=>do
 let p:=s.splitOn "/";let x:=Lean.mkIdent p[0]!.toName
 match p[1]!.toList with
 |[]=>`(Lean.Parser.Tactic.tacticSeq|exact $x:ident)
 |['9']=>`(Lean.Parser.Tactic.tacticSeq|exact $x:ident ‹_›)
 |k=>do
  let h←k.toArray.mapM λ_=>`(?_)
  let mut a←if k.head! == '@' then `(tactic|apply $x) else `(tactic|refine $x $h*)
  for c in k do if c != '@' then a←`(tactic|($a;walk_at $(Lean.Syntax.mkStrLit (if c == 'r' then "r" else "r"++c.toString))))
  `(Lean.Parser.Tactic.tacticSeq|$a:tactic)
local macro_rules | `(tactic| walk_at "gt") => `(tactic| first | assumption | exact ey9 W1 W1 | exact cj3 W1 W1 | exact ea7 W1 W1 | exact ec8 W1 W1 W1 | decide | omega | (refine And.intro ?_ ?_; omega; omega))
local macro_rules|`(tactic|walk_at "ev")=>do let l←("gH df2 dw2 aM aY bE cF ey8 hV bJ ez3 el9 aB dC aP aE fV oS uR fo0 at4 yJ aU dS eO jT kX eI cD aD aI bN aX dBM vY kK lD gG gQ dF cG bo6 yZ kills aH eW bC eZ bU cE rV cO frz frzs cB aW cM bZ bm6 aa8 lW oJ qC nP yN zJ gN ai6 eX jJ ab5 GoW ce3 bp5 em5 ek2 ai8 be6 ex3 ex4 ew3 do6 et2 ai7 eh6 ez6 er5 ey5 eu5 ex6 ew8 eu6 ev5 ep5 em7 di3 cq9 dl3 df1 dl1 el7 ek7 ex5 ea8 eb9 en6 ed6 eu8 vD eo6 fn0 fj0 fp0 ef8 cl2 ca3 eg7 cm5 dk4 cc7 dz4 cs7 do5 dl5 ed8 ec5 cq2 el4 eg5 ep8 eh9 em2 el5 cf1 ep6 du4 es6 ex8 eq5 ey7 ab9 dm5 ei7 ec9 ei6 er7 ew5 ea9 cr7 ef9 eq7 dn2 dd6 ds8 dx5 dy7 cl1 dh7 dk6 du8 eq2 dw9 ez1 en0 et4 fV ag1 da2 bg0 ch4 ac6 af1 frz1 kY qP zK ah1 cw2 fb0 fy0 ai1 am1 aa2 bn5 bf0 ej7 vT bq6 yR am7 List.length_map Option.map_some Option.isSome_some List.isEmpty_cons List.isEmpty_nil Option.isSome_none List.map_cons List.map_nil List.length_cons List.length_nil List.replicate_succ List.replicate_zero List.cons_append List.nil_append List.set_cons_zero List.set_cons_succ List.getElem?_cons_zero List.getElem?_cons_succ Nat.reduceAdd Nat.reduceSub Bool.not_true Bool.not_false Bool.and_true Bool.true_and Bool.and_false Bool.false_and Bool.or_true Bool.true_or Bool.or_false Bool.false_or if_true if_false Bool.false_eq_true reduceIte reduceCtorEq decide_true decide_false and_self and_true true_and Bool.and_self".splitOn " ").toArray.mapM λs=>`(Lean.Parser.Tactic.simpLemma|$(Lean.mkIdent s.toName):ident);`(tactic|simp (disch:=walk_at "gt")only[$l,*, *])
namespace Nk53
open PySem L2 TL
noncomputable section
def dN(i:Nat):Stmt:=PySem.Challenge.pw_inkyears_k53_fewest_false.main.body.getD i (.Pass ⟨0,0,0,0⟩)
abbrev kt_NUMBERS:List (Str×T):=[("dark",.tup [.int 0,.int 1000000]),("place",.tup [.int 1,.int 100]),("year",.tup [.int (-4000),.int 4000]),("later",.tup [.int 0,.int 300]),("gap",.tup [.int (-300),.int 300])]
abbrev kt_PARTS:List (Str×T):=[("ink",.tup [.str "letter",.str "ink",.str "dark",.str "dark"]),("reign",.tup [.str "letter",.str "reign",.str "place"]),("under",.tup [.str "letter",.str "reign"]),("between",.tup [.str "letter",.str "year",.str "year"]),("after",.tup [.str "letter",.str "letter"]),("same",.tup [.str "letter",.str "letter"]),("within",.tup [.str "letter",.str "letter",.str "later"]),("apart",.tup [.str "letter",.str "letter",.str "gap",.str "gap"])]
def wN:Fr->bO:=
 (aM (cF (aU (aE vN (aB 1) (bN cI (aD (aB 0) aI)))) (bE [] (aP (aE aQ (aB 0) (aB 1)))) bJ)
 (bE [] (dC (.int 0))))
def fT:List T->Res T:=λts=>bU (wN (cE 2 ts))
def uN:Fr->bO:=
 (aM (aY [] (eI (aD (dC (.str "a")) (aD (dC (.str "ab")) (aD (dC (.str "abc")) (aD (dC (.str "b")) (aD (dC (.str "ba")) (aD (dC (.str "zzzzzzzz")) (aD (dC (.str "zzzzzzzy")) (aD (dC (.str "q")) aI))))))))) (aH 1))
 (bE [] (aE bS (vY rQ (aB 1) (kK (aE cK (aB 0) (dC (.int 8)))) lD) (vY rQ (aB 1) lD (kK (aE cK (aB 0) (dC (.int 8))))))))
def uZ:List T->Res T:=λts=>bU (uN (cE 2 ts))
def uY:Fr->bO:=
 (aM (aY [] (aE bS (aE bS (aE cK (aB 0) (dC (.int 1000000021))) (aE pY (dC (.int 4099)) (aB 1))) (dC (.int 77))) (aH 0))
 (aM (aY [] (bN aa5 (aD (aE cK (aE pY (aB 0) (dC (.int 30011))) (dC (.int 2140000027))) (aD (dC (.int 46133)) aI))) (eW (bC (aH 2) (bC (aH 3) eZ))))
 (aM (aY [] (aE bS (aE bS (aE bS (aE pY (aB 2) (aB 3)) (aE pY (dC (.int 6007)) (aB 2))) (aE pY (dC (.int 271)) (aB 3))) (aB 1)) (aH 4))
 (bE [] (aE cK (aE pY (aB 4) (aE bS (aE cK (aB 4) (dC (.int 1009))) (dC (.int 7919)))) (dC (.int 1700000009)))))))
def fK:List T->Res T:=λts=>bU (uY (cE 5 ts))
def uP:Fr->bO:=
 (aM (aY [] (aE cK (aX 2 fT (aD (aB 0) (aD (dC (.int 0)) aI))) (aE af4 (dC (.int 10)) (dC (.int 15)))) (aH 2))
 (aM (aY [] (aP (aE aQ (eI (aD (dC (.int 0)) (aD (dC (.int 1)) (aD (dC (.int 3)) (aD (dC (.int 8)) (aD (dC (.int 20)) (aD (dC (.int 20)) (aD (dC (.int 60)) (aD (dC (.int 300)) aI))))))))) (aE cK (aB 2) (dC (.int 8))))) (aH 3))
 (aM (aY [] (aP (aE aQ (eI (aD (fV nR (dC (.int 3000))) (aD (aE eJ (dC (.int 3000)) (aB 3)) (aD (fV nR (dC (.int 10))) (aD (dC (.int 1400)) aI))))) (aE cK (aE iG (aB 2) (dC (.int 8))) (dC (.int 4))))) (aH 4))
 (aM (aY [] (vY rQ (aX 1 uZ (aD (aE iG (aB 2) (dC (.int 32))) aI)) lD (kK (aE bS (dC (.int 1)) (aE cK (aE iG (aB 2) (dC (.int 256))) (aB 1))))) (aH 5))
 (aM (aY [] (eI aI) (aH 6))
 (aM (hV (gQ kG (aD (aE bS (dC (.int 2)) (aE cK (aX 2 fK (aD (aB 2) (aD (dC (.int 6)) aI))) (dC (.int 5)))) aI)) (aH 7) (aM (aY [] (aE bS (dC (.int 400)) (aE cK (aE iG (aB 2) (dC (.int 2048))) (dC (.int 9)))) (aH 8))
 (aM (aY [] (eI (aD (aP (aB 8)) aI)) (aH 9))
 (aM (hV (gQ kG (aD (aE cK (aX 2 fK (aD (aB 2) (aD (aB 7) aI))) (aE aQ (eI (aD (dC (.int 12)) (aD (dC (.int 60)) aI))) (aE iG (aE cK (aE iG (aB 2) (dC (.int 18432))) (dC (.int 4))) (dC (.int 3))))) aI)) (aH 10) (aM (aY [] (bN zP (aD (dC (.int 0)) (aD (aE eJ (aB 8) (aE cK (aX 2 fK (aD (aB 2) (aD (aE bS (aE pY (dC (.int 10)) (aB 10)) (aB 7)) aI))) (dC (.int 13)))) aI))) (aH 8))
 (gN 9 [] cO (aP (aB 8)))))
 (gN 6 [9] cO (cD (aD (aP (aE aQ (eI (aD (dC (.str "oak")) (aD (dC (.str "soot")) (aD (dC (.str "oa")) (aD (dC (.str "ink")) (aD (dC (.str "oakoak")) (aD (dC (.str "s")) aI))))))) (aB 7))) (aD (aB 9) aI))))))))
 (aM (aY [] (aE bS (aE eJ (aB 4) (dC (.int 5))) (aE cK (aX 2 fK (aD (aB 2) (aD (dC (.int 3)) aI))) (aE bS (aB 3) (dC (.int 9))))) (aH 11))
 (aM (aY [] (eI (aD (cD (aD (dC (.str "ann")) (aD (aP (aB 11)) (aD (aE bS (dC (.int 1)) (aE cK (aX 2 fK (aD (aB 2) (aD (dC (.int 4)) aI))) (dC (.int 30)))) aI)))) (aD (cD (aD (dC (.str "anna")) (aD (aE bS (aB 11) (dC (.int 3))) (aD (aE bS (dC (.int 1)) (aE cK (aX 2 fK (aD (aB 2) (aD (dC (.int 5)) aI))) (dC (.int 100)))) aI)))) aI))) (aH 12))
 (aM (hV (gQ kG (aD (aE cK (aX 2 fK (aD (aB 2) (aD (dC (.int 7)) aI))) (dC (.int 7))) aI)) (aH 7) (aM (aY [] (aE eJ (aE bS (aB 11) (aE cK (aX 2 fK (aD (aB 2) (aD (aE bS (dC (.int 8)) (aB 7)) aI))) (dC (.int 9)))) (dC (.int 4))) (aH 11))
 (zK 12 [] cw2 cO (aD (dC (.int 1)) (aD (cD (aD (aP (aE aQ (eI (aD (dC (.str "an")) (aD (dC (.str "b")) (aD (dC (.str "annab")) (aD (dC (.str "zz")) (aD (dC (.str "nn")) (aD (dC (.str "a")) aI))))))) (aB 7))) (aD (aP (aB 11)) (aD (aE bS (dC (.int 1)) (aE cK (aX 2 fK (aD (aB 2) (aD (aE bS (dC (.int 14)) (aB 7)) aI))) (dC (.int 60)))) aI)))) aI)))))
 (bE [5,6,12] (cD (aD (aP (aB 4)) (aD (aE bS (aB 4) (aB 3)) (aD (aB 5) (aD (aB 6) (aD (aB 12) aI))))))))))))))))
def qD:List T->Res T:=λts=>bU (uP (cE 13 ts))
def yE:Fr->bO:=
 (aM (aY [] (aE cK (bN af6 (aD (aB 0) aI)) (aE af4 (dC (.int 10)) (dC (.int 60)))) (aH 2))
 (aM (aY [] (eI aI) (aH 3))
 (aM (hV (gQ kG (aD (aB 1) aI)) (aH 4) (cF (kX (aU (aE vN (aB 0) (dC (.int 0)))) (aU (aE geT (aB 0) (aE af4 (dC (.int 10)) (dC (.int 18)))))) (aM (gN 3 [] cO (aE cK (aB 2) (dC (.int 10007))))
 (aY [] (aE iG (aB 2) (dC (.int 10007))) (aH 2))) (gN 3 [] cO (aX 2 fK (aD (aE bS (aX 2 fK (aD (aB 0) (aD (aB 4) aI))) (aB 0)) (aD (aB 4) aI))))))
 (bE [3] (aB 3)))))
def rY:List T->Res T:=λts=>bU (yE (cE 5 ts))
def tU:Fr->bO:=
 (bE [] (dF [2] (gG jG (aX 2 rY (aD (aB 0) (aD (bN cI (aD (aE aQ (aB 1) (dC (.int 2))) aI)) aI)))) (aH 2) cG (aE bS (aE aQ (aB 1) (dC (.int 0))) (aE cK (aB 2) (aE bS (aE eJ (aE aQ (aB 1) (dC (.int 1))) (aE aQ (aB 1) (dC (.int 0)))) (dC (.int 1)))))))
def oQ:List T->Res T:=λts=>bU (tU (cE 3 ts))
def wF:Fr->bO:=
 (aM (aY [] (eI (aD (aP (aE aQ (aE aQ (aB 1) (dC (.int 2))) (aB 2))) (aD (aP (aE aQ (aE aQ (aB 1) (dC (.int 2))) (aB 3))) aI))) (aH 4))
 (aM (cF (kX (aU (aE eV (aB 2) (aB 3))) (aU (aE eV (aE cK (aE aQ (aB 0) (dC (.int 2))) (dC (.int 2))) (dC (.int 0))))) (aM (aY [] (aE bS (aE eJ (aE aQ (aB 1) (dC (.int 0))) (dC (.int 30))) (aE cK (aE aQ (aB 0) (dC (.int 3))) (aE bS (aE eJ (aE aQ (aB 1) (dC (.int 1))) (aE aQ (aB 1) (dC (.int 0)))) (dC (.int 61))))) (aH 5))
 (aM (aY [] (aE bS (aB 5) (aE cK (aE aQ (aB 0) (dC (.int 4))) (dC (.int 40)))) (aH 6))
 (bE [] (cD (aD (dC (.str "between")) (aD (aE bS (vY rQ (aB 4) lD (kK (dC (.int 1)))) (eI (aD (aP (aB 5)) (aD (aP (aB 6)) aI)))) (aD (cD (aD (aP (aB 2)) aI)) (aD (cD (aD (aP (aB 5)) (aD (aP (aB 6)) aI))) aI)))))))) bJ)
 (aM (aY [] (aE eJ (aE cK (aE aQ (aB 0) (dC (.int 3))) (dC (.int 601))) (dC (.int 300))) (aH 5))
 (aM (aY [] (bN vV (aD (dC (.int 300)) (aD (aE bS (aB 5) (aE cK (aE aQ (aB 0) (dC (.int 4))) (dC (.int 40)))) aI))) (aH 6))
 (bE [] (cD (aD (dC (.str "apart")) (aD (aE bS (aB 4) (eI (aD (aP (aB 5)) (aD (aP (aB 6)) aI)))) (aD (cD (aD (aP (aB 2)) (aD (aP (aB 3)) aI))) (aD (cD (aD (aP (aB 5)) (aD (aP (aB 6)) aI))) aI))))))))))
def sU:List T->Res T:=λts=>bU (wF (cE 7 ts))
def tE:Fr->bO:=
 (aM (aY [] (aP (aE aQ (aE aQ (aB 1) (dC (.int 2))) (aB 2))) (aH 4))
 (aM (aY [] (aE iG (aB 0) (dC (.int 4))) (aH 5))
 (aM (cF (aU (aE eV (aE cK (aB 0) (dC (.int 4))) (dC (.int 0)))) (aM (aY [] (aP (aE aQ (aE aQ (aB 1) (dC (.int 3))) (aE cK (aB 5) (bN cI (aD (aE aQ (aB 1) (dC (.int 3))) aI))))) (eW (bC (aH 6) (bC (aH 7) eZ))))
 (aM (aY [] (aE cK (aE iG (aB 5) (dC (.int 2))) (dC (.int 5))) (aH 8))
 (aM (aY [] (aP (aE aQ (aB 7) (bN vV (aD (aE eJ (aE aQ (aB 1) (dC (.int 1))) (aB 3)) (aD (aE eJ (bN cI (aD (aB 7) aI)) (dC (.int 1))) aI))))) (aH 9))
 (aM (aY [] (bN zP (aD (dC (.int 0)) (aD (aE eJ (aE bS (aB 9) (aE cK (aE iG (aB 5) (dC (.int 10))) (aE bS (aE pY (dC (.int 2)) (aB 8)) (dC (.int 1))))) (aB 8)) aI))) (aH 9))
 (aM (aY [] (eI aI) (aH 10))
 (aM (hV (gQ kG (aD (aE bS (aE eJ (aE aQ (aB 1) (dC (.int 1))) (aE aQ (aB 1) (dC (.int 0)))) (dC (.int 1))) aI)) (aH 11) (cF (aU (aE tH (bN af6 (aD (aE eJ (aE aQ (aB 7) (bN vV (aD (aB 11) (aD (aE eJ (bN cI (aD (aB 7) aI)) (dC (.int 1))) aI)))) (aB 9)) aI)) (aB 8))) (gN 10 [] cO (aP (aB 11))) bJ))
 (bE [] (cD (aD (dC (.str "ink")) (aD (eI (aD (aP (aB 4)) (aD (aP (aB 6)) (aD (aP (aB 9)) (aD (aP (aB 8)) aI))))) (aD (cD (aD (aP (aB 2)) aI)) (aD (cD (aD (aE eJ (aE aQ (aB 1) (dC (.int 1))) (aE aQ (aB 10) (fV nR (dC (.int 1))))) (aD (aE eJ (aE aQ (aB 1) (dC (.int 1))) (aE aQ (aB 10) (dC (.int 0)))) aI))) aI)))))))))))) bJ)
 (aM (aY [] (aE cK (aE iG (aB 5) (dC (.int 2))) (bN cI (aD (aE aQ (aB 1) (dC (.int 4))) aI))) (aH 12))
 (aM (hV (gG rP (bo6 (aE bS (vY rQ (aE aQ (aB 1) (dC (.int 4))) (kK (aB 12)) lD) (vY rQ (aE aQ (aB 1) (dC (.int 4))) lD (kK (aB 12)))))) (eW (bC (aH 13) (bC (aH 14) (bC (aH 15) eZ)))) (cF (jT (aU (aE eV (aE cK (aB 0) (dC (.int 4))) (dC (.int 1)))) (aU (oS tH vN (aB 14) (aB 3) (aE bS (aB 14) (aB 15))))) (aM (cF (aU (aE eV (aE cK (aB 5) (dC (.int 2))) (dC (.int 0)))) (bE [] (cD (aD (dC (.str "reign")) (aD (eI (aD (aP (aB 4)) (aD (aP (aB 13)) (aD (aE bS (aE eJ (aB 3) (aB 14)) (dC (.int 1))) aI)))) (aD (cD (aD (aP (aB 2)) aI)) (aD (cD (aD (aP (aB 3)) (aD (aP (aB 3)) aI))) aI)))))) bJ)
 (bE [] (cD (aD (dC (.str "under")) (aD (eI (aD (aP (aB 4)) (aD (aP (aB 13)) aI))) (aD (cD (aD (aP (aB 2)) aI)) (aD (cD (aD (aP (aB 14)) (aD (aE eJ (aE bS (aB 14) (aB 15)) (dC (.int 1))) aI))) aI))))))) bJ))
 (aM (aY [] (bN zP (aD (fV nR (dC (.int 4000))) (aD (aE eJ (aB 3) (aE cK (aB 5) (dC (.int 9)))) aI))) (aH 16))
 (aM (aY [] (bN vV (aD (dC (.int 4000)) (aD (aE bS (aB 3) (aE cK (aE iG (aB 5) (dC (.int 9))) (dC (.int 9)))) aI))) (aH 17))
 (bE [] (cD (aD (dC (.str "between")) (aD (eI (aD (aP (aB 4)) (aD (aP (aB 16)) (aD (aP (aB 17)) aI)))) (aD (cD (aD (aP (aB 2)) aI)) (aD (cD (aD (aP (aB 16)) (aD (aP (aB 17)) aI))) aI)))))))))))))
def oV:List T->Res T:=λts=>bU (tE (cE 18 ts))
def sT:Fr->bO:=
 (aM (aY [] (dF [9] (gG jG (aB 2)) (aH 9) cG (aP (aE aQ (aE aQ (aB 1) (dC (.int 2))) (aB 9)))) (aH 4))
 (aM (aY [] (aE iG (aB 0) (dC (.int 4))) (aH 5))
 (aM (cF (jT (aU (aE eV (aB 3) (dC (.int 0)))) (aU (aE eV (aE cK (aB 0) (dC (.int 4))) (dC (.int 0))))) (bE [4] (cD (aD (dC (.str "same")) (aD (aB 4) (aD (aP (aB 2)) (aD (cD (aD (dC (.int 0)) (aD (dC (.int 0)) aI))) aI)))))) bJ)
 (aM (cF (jT (aU (aE vW (aB 3) (dC (.int 0)))) (aU (aE vN (aE cK (aB 0) (dC (.int 4))) (dC (.int 2))))) (bE [4] (cD (aD (dC (.str "after")) (aD (aB 4) (aD (aP (aB 2)) (aD (cD (aD (dC (.int 1)) (aD (dC .non) aI))) aI)))))) bJ)
 (aM (cF (jT (aU (aE geT (aB 3) (dC (.int 0)))) (aU (aE eV (aE cK (aB 0) (dC (.int 4))) (dC (.int 2))))) (aM (aY [] (bN vV (aD (dC (.int 300)) (aD (aE bS (aB 3) (aE cK (aB 5) (dC (.int 4)))) aI))) (aH 6))
 (bE [] (cD (aD (dC (.str "within")) (aD (aE bS (aB 4) (eI (aD (aP (aB 6)) aI))) (aD (aP (aB 2)) (aD (cD (aD (dC (.int 0)) (aD (aP (aB 6)) aI))) aI))))))) bJ)
 (aM (aY [] (bN zP (aD (fV nR (dC (.int 300))) (aD (aE eJ (aB 3) (aE cK (aB 5) (dC (.int 6)))) aI))) (aH 7))
 (aM (aY [] (bN vV (aD (dC (.int 300)) (aD (aE bS (aB 3) (aE cK (aE iG (aB 5) (dC (.int 6))) (dC (.int 6)))) aI))) (aH 8))
 (bE [] (cD (aD (dC (.str "apart")) (aD (aE bS (aB 4) (eI (aD (aP (aB 7)) (aD (aP (aB 8)) aI)))) (aD (aP (aB 2)) (aD (cD (aD (aP (aB 7)) (aD (aP (aB 8)) aI))) aI)))))))))))))
def oN:List T->Res T:=λts=>bU (sT (cE 10 ts))
def qW:Fr->bO:=
 (aM (aY [] (bN cI (aD (aE aQ (aB 1) (dC (.int 2))) aI)) (aH 4))
 (aM (aY [] (aE eJ (aE aQ (aB 1) (dC (.int 1))) (aE aQ (aB 1) (dC (.int 0)))) (aH 5))
 (aM (aY [] (eI aI) (aH 6))
 (aM (hV (gG rP (aB 0)) (aH 7) (aM (aY [] (aX 2 rY (aD (aB 7) (aD (dC (.int 6)) aI))) (aH 8))
 (aM (aY [] (aE cK (aE aQ (aB 8) (dC (.int 0))) (aB 4)) (aH 9))
 (aM (aY [] (bN kW (aD (aB 3) aI)) (aH 10))
 (aM (cF (jT (dS (aB 2)) (aU (aE eV (aE cK (aE aQ (aB 8) (dC (.int 1))) (dC (.int 3))) (dC (.int 0))))) (aY [] (dF [12] (gQ kG (aD (aB 4) aI)) (aH 12) cG (aE bS (aE aQ (aB 1) (dC (.int 0))) (aE cK (aE bS (aE aQ (aB 8) (dC (.int 4))) (aE pY (aE pY (dC (.int 7)) (aE aQ (aB 8) (dC (.int 5)))) (aB 12))) (aE bS (aB 5) (dC (.int 1)))))) (aH 10)) bJ)
 (aM (aY [] (aE cK (aE bS (aE bS (aB 9) (dC (.int 1))) (aE cK (aE iG (aE aQ (aB 8) (dC (.int 1))) (dC (.int 3))) (bN zP (aD (dC (.int 1)) (aD (aE eJ (aB 4) (dC (.int 1))) aI))))) (aB 4)) (aH 11))
 (cF (jT (dS (aB 2)) (aU (aE eV (aE cK (aE aQ (aB 8) (dC (.int 5))) (dC (.int 8))) (dC (.int 5))))) (gN 6 [] cO (aX 4 sU (aD (aB 8) (aD (aB 1) (aD (aB 9) (aD (aB 11) aI)))))) (cF (kX (aU (aE eV (aB 4) (dC (.int 1)))) (aU (aE vN (aE cK (aE aQ (aB 8) (dC (.int 2))) (dC (.int 5))) (dC (.int 2))))) (gN 6 [] cO (aX 4 oV (aD (aE aQ (aB 8) (dC (.int 3))) (aD (aB 1) (aD (aB 9) (aD (aE aQ (aB 10) (aB 9)) aI)))))) (gN 6 [] cO (aX 4 oN (aD (aE aQ (aB 8) (dC (.int 3))) (aD (aB 1) (aD (cD (aD (aP (aB 9)) (aD (aP (aB 11)) aI))) (aD (aE eJ (aE aQ (aB 10) (aB 9)) (aE aQ (aB 10) (aB 11))) aI))))))))))))))
 (bE [6] (aB 6))))))
def nI:List T->Res T:=λts=>bU (qW (cE 13 ts))
def wK:Fr->bO:=
 (bE [] (uR (bN iE (aD (aB 0) (aD (dC (.ty "int")) aI))) (at4 (bN iE (aD (aB 0) (aD (dC (.ty "bool")) aI))))))
def wI:List T->Res T:=λts=>bU (wK (cE 1 ts))
def oC:Fr->bO:=
 (bE [] (uR (aX 1 wI (aD (aB 0) aI)) (oS tH tH (aB 1) (aB 0) (aB 2))))
def eC:List T->Res T:=λts=>bU (oC (cE 3 ts))
def uU:Fr->bO:=
 (aM (cF (eO (dS (aX 3 eC (aD (aB 0) (aD (fV nR (dC (.int 3000))) (aD (dC (.int 3000)) aI)))))) (bE [] (dC (.bl false))) bJ)
 (aM (cF (eO (dS (aX 3 eC (aD (aB 1) (aD (fV nR (dC (.int 3000))) (aD (dC (.int 3000)) aI)))))) (bE [] (dC (.bl false))) bJ)
 (bE [] (oS tH tH (dC (.int 0)) (aE eJ (aB 1) (aB 0)) (dC (.int 300))))))
def uX:List T->Res T:=λts=>bU (uU (cE 2 ts))
def tD:Fr->bO:=
 (bE [] (uR (oS tH tH (dC (.int 1)) (bN cI (aD (aB 0) aI)) (aB 2)) (bN (jU false) (aD (dF [3] (gG jG (aB 0)) (aH 3) cG (aE (inT false) (aB 3) (aB 1))) aI))))
def sN:List T->Res T:=λts=>bU (tD (cE 4 ts))
def yP:Fr->bO:=
 (bE [] (aX 3 sN (aD (aB 0) (aD (dC (.str "abcdefghijklmnopqrstuvwxyz")) (aD (dC (.int 8)) aI)))))
def vF:List T->Res T:=λts=>bU (yP (cE 1 ts))
def vE:Fr->bO:=
 (aM (cF (eO (aU (oS tH tH (aB 1) (bN cI (aD (aB 0) aI)) (aB 2)))) (bE [] (dC (.bl false))) bJ)
 (bE [] (uR (bN (jU false) (aD (dF [3] (gG jG (aB 0)) (aH 3) cG (aX 1 vF (aD (aB 3) aI))) aI)) (aE eV (bN aw0 (aD (aB 0) aI)) (bN cI (aD (aB 0) aI))))))
def nL:List T->Res T:=λts=>bU (vE (cE 4 ts))
def wO:Fr->bO:=
 (aM (cF (eO (aU (oS tH tH (dC (.int 1)) (bN cI (aD (aB 0) aI)) (dC (.int 60))))) (bE [] (dC (.bl false))) bJ)
 (aM (cF (eO (dS (bN (jU false) (aD (dF [1] (gG jG (aB 0)) (aH 1) cG (aX 3 eC (aD (aB 1) (aD (dC (.int 0)) (aD (dC (.int 1000000)) aI))))) aI)))) (bE [] (dC (.bl false))) bJ)
 (bE [] (bN (jU false) (aD (dF [2] (gQ xS (aD (dC (.int 1)) (aD (bN cI (aD (aB 0) aI)) aI))) (aH 2) cG (aE tH (aE aQ (aB 0) (aB 2)) (aE aQ (aB 0) (aE eJ (aB 2) (dC (.int 1)))))) aI)))))
def sJ:List T->Res T:=λts=>bU (wO (cE 3 ts))
def wH:Fr->bO:=
 (aM (cF (eO (dS (aX 3 nL (aD (dF [1,2] (gG jG (aB 0)) (eW (bC (aH 1) (bC (aH 2) eZ))) cG (aP (aB 1))) (aD (dC (.int 0)) (aD (dC (.int 6)) aI)))))) (bE [] (dC (.bl false))) bJ)
 (bE [] (bN (jU false) (aD (dF [1,2] (gG jG (aB 0)) (eW (bC (aH 1) (bC (aH 2) eZ))) cG (aX 1 sJ (aD (aB 2) aI))) aI))))
def wG:List T->Res T:=λts=>bU (wH (cE 3 ts))
def wA:Fr->bO:=
 (bE [] (uR (aX 3 eC (aD (aB 0) (aD (fV nR (dC (.int 4000))) (aD (dC (.int 4000)) aI)))) (aX 3 eC (aD (aB 1) (aD (dC (.int 1)) (aD (dC (.int 100)) aI))))))
def tO:List T->Res T:=λts=>bU (wA (cE 2 ts))
def tM:Fr->bO:=
 (aM (cF (eO (dS (aX 3 nL (aD (dF [1,2,3] (gG jG (aB 0)) (eW (bC (aH 1) (bC (aH 2) (bC (aH 3) eZ)))) cG (aP (aB 1))) (aD (dC (.int 0)) (aD (dC (.int 8)) aI)))))) (bE [] (dC (.bl false))) bJ)
 (bE [] (bN (jU false) (aD (dF [1,2,3] (gG jG (aB 0)) (eW (bC (aH 1) (bC (aH 2) (bC (aH 3) eZ)))) cG (aX 2 tO (aD (aB 2) (aD (aB 3) aI)))) aI))))
def tG:List T->Res T:=λts=>bU (tM (cE 4 ts))
def mH:Fr->bO:=
 (aM (cF (eO (dS (aX 2 uX (aD (aB 1) (aD (aB 2) aI))))) qP bJ)
 (aM (cF (eO (dS (aX 3 nL (aD (aB 3) (aD (dC (.int 1)) (aD (dC (.int 8)) aI)))))) qP bJ)
 (aM (cF (eO (dS (aX 1 wG (aD (aB 4) aI)))) qP bJ)
 (aM (cF (eO (dS (aX 1 tG (aD (aB 5) aI)))) qP bJ)
 (aM (vT 0 [] ["Archive"] "first" (aP (aB 1)) cO)
 (aM (vT 0 [] ["Archive"] "present" (aP (aB 2)) cO)
 (aM (vT 0 [] ["Archive"] "letters" (bN kW (aD (aB 3) aI)) cO)
 (aM (vT 0 [] ["Archive"] "inks" (dF [6,7] (gG jG (aB 4)) (eW (bC (aH 6) (bC (aH 7) eZ))) cG (cD (aD (aP (aB 6)) (aD (bN kW (aD (aB 7) aI)) aI)))) cO)
 (vT 0 [] ["Archive"] "reigns" (dF [6,8,9] (gG jG (aB 5)) (eW (bC (aH 6) (bC (aH 8) (bC (aH 9) eZ)))) cG (cD (aD (aP (aB 6)) (aD (aP (aB 8)) (aD (aP (aB 9)) aI))))) cO)))))))))
def tV:List T->Res T:=λts=>kY (mH (cE 10 (.ins true "Archive" [] []::ts)))
def qQ:Fr->bO:=
 (aM (aY [] (dF [2,3] (gG jG (aE aQ (aB 0) (dC (.int 3)))) (eW (bC (aH 2) (bC (aH 3) eZ))) cG (cD (aD (aP (aB 2)) (aD (bN kW (aD (aB 3) aI)) aI)))) (aH 1))
 (bE [] (aX 5 tV (aD (aE aQ (aB 0) (dC (.int 0))) (aD (aE aQ (aB 0) (dC (.int 1))) (aD (bN kW (aD (aE aQ (aB 0) (dC (.int 2))) aI)) (aD (aB 1) (aD (bN kW (aD (aE aQ (aB 0) (dC (.int 4))) aI)) aI))))))))
def nH:List T->Res T:=λts=>bU (qQ (cE 4 ts))
def rE:Fr->bO:=
 (aM (cF (aU (aE eV (aB 1) (dC (.str "letter")))) (bE [] (aE (inT false) (aB 2) (fV (iA ["Archive"] "letters") (aB 0)))) bJ)
 (aM (cF (aU (aE eV (aB 1) (dC (.str "ink")))) (bE [] (aE (inT false) (aB 2) (dF [3] (gG jG (fV (iA ["Archive"] "inks") (aB 0))) (aH 3) cG (aP (aE aQ (aB 3) (dC (.int 0))))))) bJ)
 (aM (cF (aU (aE eV (aB 1) (dC (.str "reign")))) (bE [] (aE (inT false) (aB 2) (dF [4] (gG jG (fV (iA ["Archive"] "reigns") (aB 0))) (aH 4) cG (aP (aE aQ (aB 4) (dC (.int 0))))))) bJ)
 (bE [] (aX 3 eC (aD (aB 2) (aD (aE aQ (fV (ag1 kt_NUMBERS) (aB 1)) (dC (.int 0))) (aD (aE aQ (fV (ag1 kt_NUMBERS) (aB 1)) (dC (.int 1))) aI))))))))
def iH:List T->Res T:=λts=>bU (rE (cE 5 ts))
def yO:Fr->bO:=
 (aM (cF (kX (aU (fV (da2 true kt_PARTS) (aB 1))) (aU (aE mM (bN cI (aD (aB 2) aI)) (bN cI (aD (fV (ag1 kt_PARTS) (aB 1)) aI))))) (bE [] (dC (.bl false))) bJ)
 (bE [] (bN (jU false) (aD (dF [3,4] (gQ (bg0 false) (aD (fV (ag1 kt_PARTS) (aB 1)) (aD (aB 2) aI))) (eW (bC (aH 3) (bC (aH 4) eZ))) cG (aX 3 iH (aD (aB 0) (aD (aB 3) (aD (aB 4) aI))))) aI))))
def vL:List T->Res T:=λts=>bU (yO (cE 5 ts))
def lE:Fr->bO:=
 (aM (hV (gG rP (fV (iA ["Archive"] "inks") (aB 0))) (eW (bC (aH 2) (bC (aH 3) eZ))) (cF (aU (aE eV (aB 2) (aB 1))) (bE [] (bN kW (aD (aB 3) aI))) bJ))
 (bE [] (dC .non)))
def gS:List T->Res T:=λts=>bU (lE (cE 4 ts))
def yV:Fr->bO:=
 (aM (aY [] (aE eJ (bN cI (aD (aB 0) aI)) (dC (.int 1))) (aH 4))
 (aM (aY [] (dF [7] (gQ kG (aD (aE bS (bN vV (aD (aB 4) (aD (aB 3) aI))) (dC (.int 1))) aI)) (aH 7) (aU (aE tH (bN af6 (aD (aE eJ (aE aQ (aB 0) (aB 7)) (aB 1)) aI)) (aB 2))) (aP (aB 7))) (aH 5))
 (aM (cF (aU (aE eV (bN cI (aD (aB 5) aI)) (dC (.int 0)))) (bE [] (dC .non)) bJ)
 (aM (aY [] (aP (aE aQ (aB 5) (aE eJ (bN cI (aD (aB 5) aI)) (dC (.int 1))))) (aH 6))
 (bE [] (cD (aD (aP (aE aQ (aB 5) (dC (.int 0)))) (aD (yJ (aU (aE eV (aB 6) (aB 4))) (aP (aB 3)) (aP (aB 6))) aI))))))))
def vI:List T->Res T:=λts=>bU (yV (cE 8 ts))
def ak1:Fr->bO:=
 (bE [] (dBM bm6 av1 (dC (.str " ")) (aD (dF [1] (gG jG (aB 0)) (aH 1) cG (bN yD (aD (aB 1) aI))) aI)))
def ad1:List T->Res T:=λts=>bU (ak1 (cE 2 ts))
def cH:Fr->bO:=
 (aM (aY [] (dF [7,8] (gQ (bg0 false) (aD (aB 3) (aD (fV (ag1 kt_PARTS) (aB 2)) aI))) (eW (bC (aH 7) (bC (aH 8) eZ))) (aU (aE eV (aB 8) (dC (.str "letter")))) (aP (aB 7))) (aH 6))
 (aM (vT 0 [] ["Ink","Reign","Under","Between","After","Same","Within","Apart"] "spoken" (dF [9] (gG jG (aB 6)) (aH 9) cG (dBM aa8 aj0 (fV (iA ["Archive"] "letters") (aB 1)) (aD (aB 9) aI))) cO)
 (aM (vT 0 [] ["Ink","Reign","Under","Between","After","Same","Within","Apart"] "low" (aP (aB 4)) cO)
 (aM (vT 0 [] ["Ink","Reign","Under","Between","After","Same","Within","Apart"] "high" (aP (aB 5)) cO)
 (vT 0 [] ["Ink","Reign","Under","Between","After","Same","Within","Apart"] "text" (aX 1 ad1 (aD (aE bS (eI (aD (aP (aB 2)) aI)) (bN kW (aD (aB 3) aI))) aI)) cO)))))
noncomputable abbrev tm_table:List (Str×(List T->Res T)):=[("Archive",gS)]
def ap6:List T->Res T:=λts=>kY (cH (cE 10 (.ins true "Ink" [] []::ts)))
def tN:Fr->bO:=
 (aM (aY [] (aX 4 vI (aD (nV 2 "table" tm_table (aB 0) (aD (aE aQ (aB 1) (dC (.int 1))) aI)) (aD (aE aQ (aB 1) (dC (.int 2))) (aD (aE aQ (aB 1) (dC (.int 3))) (aD (aE eJ (fV (iA ["Archive"] "present") (aB 0)) (fV (iA ["Archive"] "first") (aB 0))) aI))))) (aH 2))
 (aM (cF (aU (aE pW (aB 2) (dC .non))) qP bJ)
 (bE [] (aX 5 ap6 (aD (aB 0) (aD (dC (.str "ink")) (aD (aB 1) (aD (aE eJ (fV (iA ["Archive"] "present") (aB 0)) (aE aQ (aB 2) (dC (.int 1)))) (aD (aE eJ (fV (iA ["Archive"] "present") (aB 0)) (aE aQ (aB 2) (dC (.int 0)))) aI)))))))))
def tL:List T->Res T:=λts=>bU (tN (cE 3 ts))
def pO:Fr->bO:=
 (aM (hV (gG rP (fV (iA ["Archive"] "reigns") (aB 0))) (aH 2) (cF (aU (aE eV (aE aQ (aB 2) (dC (.int 0))) (aB 1))) (bE [] (aP (aB 2))) bJ))
 (bE [] (dC .non)))
def mE:List T->Res T:=λts=>bU (pO (cE 3 ts))
def sQ:Fr->bO:=
 (aM (cF (eO (dS (aX 3 eC (aD (aB 2) (aD (dC (.int 1)) (aD (aB 1) aI)))))) (bE [] (dC .non)) bJ)
 (bE [] (aE eJ (aE bS (aB 0) (aB 2)) (dC (.int 1)))))
def oK:List T->Res T:=λts=>bU (sQ (cE 3 ts))
def af2:List T->Res T:=λts=>kY (cH (cE 10 (.ins true "Reign" [] []::ts)))
def pF:Fr->bO:=
 (aM (aY [] (aX 2 mE (aD (aB 0) (aD (aE aQ (aB 1) (dC (.int 1))) aI))) (aH 2))
 (aM (aY [] (aX 3 oK (aD (aE aQ (aB 2) (dC (.int 1))) (aD (aE aQ (aB 2) (dC (.int 2))) (aD (aE aQ (aB 1) (dC (.int 2))) aI)))) (aH 3))
 (aM (cF (aU (aE pW (aB 3) (dC .non))) qP bJ)
 (bE [] (aX 5 af2 (aD (aB 0) (aD (dC (.str "reign")) (aD (aB 1) (aD (aB 3) (aD (aB 3) aI))))))))))
def oZ:List T->Res T:=λts=>bU (pF (cE 4 ts))
def ax1:List T->Res T:=λts=>kY (cH (cE 10 (.ins true "Under" [] []::ts)))
def oY:Fr->bO:=
 (aM (aY [] (aX 2 mE (aD (aB 0) (aD (aE aQ (aB 1) (dC (.int 1))) aI))) (aH 2))
 (bE [] (aX 5 ax1 (aD (aB 0) (aD (dC (.str "under")) (aD (aB 1) (aD (aE aQ (aB 2) (dC (.int 1))) (aD (aX 3 oK (aD (aE aQ (aB 2) (dC (.int 1))) (aD (aE aQ (aB 2) (dC (.int 2))) (aD (aE aQ (aB 2) (dC (.int 2))) aI)))) aI))))))))
def pS:List T->Res T:=λts=>bU (oY (cE 3 ts))
def xL:List T->Res T:=λts=>kY (cH (cE 10 (.ins true "Between" [] []::ts)))
def mP:Fr->bO:=
 (aM (cF (aU (aE vW (aE aQ (aB 1) (dC (.int 1))) (aE aQ (aB 1) (dC (.int 2))))) qP bJ)
 (bE [] (aX 5 xL (aD (aB 0) (aD (dC (.str "between")) (aD (aB 1) (aD (aE aQ (aB 1) (dC (.int 1))) (aD (aE aQ (aB 1) (dC (.int 2))) aI))))))))
def mQ:List T->Res T:=λts=>bU (mP (cE 2 ts))
def ap1:List T->Res T:=λts=>kY (cH (cE 10 (.ins true "After" [] []::ts)))
def pG:Fr->bO:=
 (bE [] (aX 5 ap1 (aD (aB 0) (aD (dC (.str "after")) (aD (aB 1) (aD (dC (.int 1)) (aD (dC .non) aI)))))))
def pT:List T->Res T:=λts=>bU (pG (cE 2 ts))
def ao3:List T->Res T:=λts=>kY (cH (cE 10 (.ins true "Same" [] []::ts)))
def qX:Fr->bO:=
 (bE [] (aX 5 ao3 (aD (aB 0) (aD (dC (.str "same")) (aD (aB 1) (aD (dC (.int 0)) (aD (dC (.int 0)) aI)))))))
def qV:List T->Res T:=λts=>bU (qX (cE 2 ts))
def zN:List T->Res T:=λts=>kY (cH (cE 10 (.ins true "Within" [] []::ts)))
def oF:Fr->bO:=
 (bE [] (aX 5 zN (aD (aB 0) (aD (dC (.str "within")) (aD (aB 1) (aD (dC (.int 0)) (aD (aE aQ (aB 1) (dC (.int 2))) aI)))))))
def oB:List T->Res T:=λts=>bU (oF (cE 2 ts))
def ae2:List T->Res T:=λts=>kY (cH (cE 10 (.ins true "Apart" [] []::ts)))
def pC:Fr->bO:=
 (aM (cF (aU (aE vW (aE aQ (aB 1) (dC (.int 2))) (aE aQ (aB 1) (dC (.int 3))))) qP bJ)
 (bE [] (aX 5 ae2 (aD (aB 0) (aD (dC (.str "apart")) (aD (aB 1) (aD (aE aQ (aB 1) (dC (.int 2))) (aD (aE aQ (aB 1) (dC (.int 3))) aI))))))))
def pL:List T->Res T:=λts=>bU (pC (cE 2 ts))
noncomputable abbrev tb_MAKERS:List (Str×(List T->Res T)):=[("ink",tL),("reign",oZ),("under",pS),("between",mQ),("after",pT),("same",qV),("within",oB),("apart",pL)]
def uM:Fr->bO:=
 (aM (cF (eO (dS (aX 3 vL (aD (aB 0) (aD (aB 1) (aD (aB 2) aI)))))) qP bJ)
 (aM (cF (jT (aU (aE eV (aE aQ (fV (ag1 kt_PARTS) (aB 1)) (dC (.int 1))) (dC (.str "letter")))) (aU (aE eV (aE aQ (aB 2) (dC (.int 0))) (aE aQ (aB 2) (dC (.int 1)))))) qP bJ)
 (bE [] (am7 2 tb_MAKERS (aB 1) (aD (aB 0) (aD (aB 2) aI))))))
def dO:List T->Res T:=λts=>bU (uM (cE 3 ts))
def wC:Fr->bO:=
 (bE [] (dF [2,3,4,5] (gG jG (aB 1)) (eW (bC (aH 2) (bC (aH 3) (bC (aH 4) (bC (aH 5) eZ))))) cG (aX 3 dO (aD (aB 0) (aD (aB 2) (aD (bN kW (aD (aB 3) aI)) aI))))))
def tQ:List T->Res T:=λts=>bU (wC (cE 6 ts))
def uQ:Fr->bO:=
 (aM (aY [] (eI aI) (aH 2))
 (aM (hV (gQ kG (aD (bN cI (aD (aB 1) aI)) aI)) (aH 3) (aM (aY [] (aP (aE aQ (aE aQ (aB 1) (aB 3)) (dC (.int 2)))) (aH 4))
 (aM (aY [] (aP (aE aQ (aE aQ (aB 1) (aB 3)) (dC (.int 3)))) (eW (bC (aH 5) (bC (aH 6) eZ))))
 (aM (aY [] (aP (aE aQ (aE bS (aB 4) (cD (aD (dC .non) aI))) (dC (.int 1)))) (aH 7))
 (aM (cF (aU (aE jC (aB 6) (dC .non))) (gN 2 [] cO (cD (aD (aP (aB 7)) (aD (aP (aE aQ (aB 4) (dC (.int 0)))) (aD (aP (aB 6)) (aD (aP (aB 3)) aI)))))) bJ)
 (cF (aU (aE jC (aB 5) (dC .non))) (gN 2 [] cO (cD (aD (aP (aE aQ (aB 4) (dC (.int 0)))) (aD (aP (aB 7)) (aD (aE eJ (dC (.int 0)) (aB 5)) (aD (aP (aB 3)) aI)))))) bJ))))))
 (aM (hV (gQ kG (aD (bN cI (aD (aE aQ (aB 0) (dC (.int 2))) aI)) aI)) (aH 8) (aM (gN 2 [] cO (cD (aD (dC .non) (aD (aP (aB 8)) (aD (aP (aE aQ (aB 0) (dC (.int 1)))) (aD (dC .non) aI))))))
 (gN 2 [] cO (cD (aD (aP (aB 8)) (aD (dC .non) (aD (aE eJ (dC (.int 0)) (aE aQ (aB 0) (dC (.int 0)))) (aD (dC .non) aI))))))))
 (bE [2] (aB 2)))))
def qI:List T->Res T:=λts=>bU (uQ (cE 9 ts))
def eQ:Fr->bO:=
 (bE [] (bN kW (aD (fV (iA ["Ink","Reign","Under","Between","After","Same","Within","Apart"] "spoken") (aB 0)) aI)))
def bF:List T->Res T:=λts=>bU (eQ (cE 1 ts))
def dY:Fr->bO:=
 (bE [] (cD (aD (aP (fV (iA ["Ink","Reign","Under","Between","After","Same","Within","Apart"] "low") (aB 0))) (aD (aP (fV (iA ["Ink","Reign","Under","Between","After","Same","Within","Apart"] "high") (aB 0))) aI))))
def bD:List T->Res T:=λts=>bU (dY (cE 1 ts))
noncomputable abbrev tm_about:List (Str×(List T->Res T)):=[("Ink",bF),("Reign",bF),("Under",bF),("Between",bF),("After",bF),("Same",bF),("Within",bF),("Apart",bF)]
noncomputable abbrev tm_bounds:List (Str×(List T->Res T)):=[("Ink",bD),("Reign",bD),("Under",bD),("Between",bD),("After",bD),("Same",bD),("Within",bD),("Apart",bD)]
def pE:Fr->bO:=
 (aM (aY [] (nV 1 "about" tm_about (aB 0) aI) (aH 2))
 (aM (aY [] (nV 1 "bounds" tm_bounds (aB 0) aI) (aH 3))
 (aM (aY [] (yJ (aU (aE eV (bN cI (aD (aB 2) aI)) (dC (.int 2)))) (aP (aE aQ (aB 2) (dC (.int 1)))) (dC .non)) (aH 4))
 (aM (aY [] (eI aI) (aH 5))
 (aM (cF (aU (aE jC (aE aQ (aB 3) (dC (.int 1))) (dC .non))) (gN 5 [] cO (cD (aD (aP (aB 4)) (aD (aP (aE aQ (aB 2) (dC (.int 0)))) (aD (aP (aE aQ (aB 3) (dC (.int 1)))) (aD (aP (aB 1)) aI)))))) bJ)
 (aM (cF (aU (aE jC (aE aQ (aB 3) (dC (.int 0))) (dC .non))) (gN 5 [] cO (cD (aD (aP (aE aQ (aB 2) (dC (.int 0)))) (aD (aP (aB 4)) (aD (aE eJ (dC (.int 0)) (aE aQ (aB 3) (dC (.int 0)))) (aD (aP (aB 1)) aI)))))) bJ)
 (bE [5] (aB 5))))))))
def pH:List T->Res T:=λts=>bU (pE (cE 6 ts))
def sO:Fr->bO:=
 (bE [] (eI (aD (cD (aD (dC .non) (aD (aP (aB 1)) (aD (aP (fV (iA ["Archive"] "present") (aB 0))) (aD (dC .non) aI))))) (aD (cD (aD (aP (aB 1)) (aD (dC .non) (aD (aE eJ (dC (.int 0)) (fV (iA ["Archive"] "first") (aB 0))) (aD (dC .non) aI))))) aI))))
def sS:List T->Res T:=λts=>bU (sO (cE 2 ts))
def wD:Fr->bO:=
 (aM (aY [] (eI aI) (aH 2))
 (aM (hV (gQ (ch4 true) (aD (aB 1) aI)) (eW (bC (aH 3) (bC (aH 4) eZ))) (zK 2 [] ah1 cO (aD (aX 2 pH (aD (aB 4) (aD (aB 3) aI))) aI)))
 (aM (hV (gQ kG (aD (bN cI (aD (fV (iA ["Archive"] "letters") (aB 0)) aI)) aI)) (aH 5) (zK 2 [] ah1 cO (aD (aX 2 sS (aD (aB 0) (aD (aB 5) aI))) aI)))
 (bE [2] (aB 2)))))
def wL:List T->Res T:=λts=>bU (wD (cE 6 ts))
def nY:Fr->bO:=
 (bE [] (dF [3] (gG jG (aX 2 wL (aD (aB 0) (aD (aB 1) aI)))) (aH 3) (aU (aE (inT true) (aE aQ (aB 3) (dC (.int 3))) (aB 2))) (aP (aB 3))))
def lN:List T->Res T:=λts=>bU (nY (cE 4 ts))
def sK:Fr->bO:=
 (bE [] (yJ (aU (aE pW (aB 0) (dC .non))) (aP (aB 1)) (aP (aB 0))))
def fF:List T->Res T:=λts=>bU (sK (cE 2 ts))
def yQ:Fr->bO:=
 (aM (aY [] (aE eJ (bN cI (aD (aB 1) aI)) (dC (.int 1))) (aH 2))
 (bE [] (aE tH (aE aQ (aB 1) (aX 2 fF (aD (aE aQ (aB 0) (dC (.int 1))) (aD (aB 2) aI)))) (aE bS (aE aQ (aB 1) (aX 2 fF (aD (aE aQ (aB 0) (dC (.int 0))) (aD (aB 2) aI)))) (aE aQ (aB 0) (dC (.int 2)))))))
def yS:List T->Res T:=λts=>bU (yQ (cE 3 ts))
def qU:Fr->bO:=
 (aM (aY [] (aE eJ (bN cI (aD (aB 1) aI)) (dC (.int 1))) (aH 3))
 (aM (aY [] (dC .non) (aH 4))
 (aM (hV (gG rP (aB 0)) (aH 5) (cF (eO (dS (aX 2 yS (aD (aB 5) (aD (aB 1) aI))))) (aM (aY [] (aX 2 fF (aD (aE aQ (aB 5) (dC (.int 0))) (aD (aB 3) aI))) (aH 4))
 (aM (ai6 1 [] (aE eJ (aE aQ (aB 1) (aX 2 fF (aD (aE aQ (aB 5) (dC (.int 1))) (aD (aB 3) aI)))) (aE aQ (aB 5) (dC (.int 2)))) cO (aB 4))
 (ai6 2 [] (aP (aB 5)) cO (aB 4)))) bJ))
 (bn5 (aB 4)))))
def kE:T->T->T->Res (T×T×T):=λa b c=>bf0 (qU (cE 6 [a,b,c]))
def qZ:Fr->bO:=
 (aM (aY [] (aE eJ (bN cI (aD (aB 0) aI)) (dC (.int 1))) (aH 2))
 (aM (hV (gQ kG (aD (bN cI (aD (aB 0) aI)) aI)) (aH 3) (aY [] (aX 2 fF (aD (aE aQ (aE aQ (aB 0) (aB 1)) (dC (.int 1))) (aD (aB 2) aI))) (aH 1)))
 (aM (aY [] (eI (aD (aP (aE aQ (aB 0) (aB 1))) aI)) (aH 4))
 (aM (aY [] (aX 2 fF (aD (aE aQ (aE aQ (aB 0) (aB 1)) (dC (.int 1))) (aD (aB 2) aI))) (aH 5))
 (aM (ac4 (aU (aE mM (aB 5) (aB 1))) (aM (gN 4 [] cO (aP (aE aQ (aB 0) (aB 5))))
 (aY [] (aX 2 fF (aD (aE aQ (aE aQ (aB 0) (aB 5)) (dC (.int 1))) (aD (aB 2) aI))) (aH 5))))
 (bE [4] (aB 4)))))))
def qK:List T->Res T:=λts=>bU (qZ (cE 6 ts))
def tW:Fr->bO:=
 (aM (aY [] (bN cI (aD (fV (iA ["Archive"] "letters") (aB 0)) aI)) (aH 2))
 (aM (aY [] (aE bS (aE sL (eI (aD (aE eJ (fV (iA ["Archive"] "first") (aB 0)) (dC (.int 1))) aI)) (aB 2)) (eI (aD (dC (.int 0)) aI))) (aH 3))
 (aM (aY [] (aE sL (eI (aD (dC .non) aI)) (aE bS (aB 2) (dC (.int 1)))) (aH 4))
 (aM (aY [] (dC .non) (aH 5))
 (aM (hV (gQ kG (aD (aE bS (aB 2) (dC (.int 1))) aI)) (aH 6) (ae0 5 1 3 4 kE))
 (aM (cF (aU (aE pW (aB 5) (dC .non))) (bE [] (cD (aD (dC (.str "dating")) (aD (vY rQ (aB 3) (kK (dC (.int 0))) (kK (aB 2))) aI)))) bJ)
 (bE [] (cD (aD (dC (.str "ring")) (aD (aX 2 qK (aD (aB 4) (aD (aB 5) aI))) aI))))))))))
def gE:List T->Res T:=λts=>bU (tW (cE 7 ts))
def oA:Fr->bO:=
 (aM (aY [] (eI aI) (aH 2))
 (aM (hV (gG rP (aB 0)) (aH 3) (aM (aY [] (yJ (aU (aE vW (bN cI (aD (aB 3) aI)) (dC (.int 0)))) (aE bS (aE aQ (aB 3) (fV nR (dC (.int 1)))) (dC (.int 1))) (dC (.int 0))) (aH 4))
 (zK 2 [] ah1 cO (aD (dF [5] (gQ xS (aD (aB 4) (aD (aB 1) aI))) (aH 5) cG (aE vU (aB 3) (cD (aD (aP (aB 5)) aI)))) aI))))
 (bE [2] (aB 2))))
def lT:List T->Res T:=λts=>bU (oA (cE 6 ts))
def mC:Fr->bO:=
 (aM (aY [] (eI aI) (aH 2))
 (aM (aY [] (eI (aD (cD aI) aI)) (aH 3))
 (aM (hV (gQ kG (aD (aE bS (dC (.int 2)) (dC (.int 1))) aI)) (aH 4) (aM (aY [] (eI aI) (aH 5))
 (aM (λρ=>(hV (gG rP (aB 3)) (aH 6) (aM (aY [] (aX 2 gE (aD (aB 0) (aD (aX 3 lN (aD (aB 0) (aD (aB 1) (aD (aB 6) aI)))) aI))) (aH 7))
 (aM (cF (aU (aE eV (aE aQ (aB 7) (dC (.int 0))) (dC (.str "dating")))) (bE [7,2] (cD (aD (dC (.str "drop")) (aD (aP (aB 6)) (aD (am1 7 1) (aD (aB 2) aI)))))) bJ)
 (gN 5 [7] cO (cD (aD (aP (aB 6)) (aD (am1 7 1) aI))))))) (yZ 3 ρ))
 (aM (zK 2 [5] ah1 cO (aD (aB 5) aI))
 (aY [] (aX 2 lT (aD (aB 3) (aD (bN cI (aD (aB 1) aI)) aI))) (aH 3))))))
 (bE [2] (cD (aD (dC (.str "more")) (aD (aB 2) aI)))))))
def dX:List T->Res T:=λts=>bU (mC (cE 8 ts))
def mK:Fr->bO:=
 (aM (cF (aU (aE eV (aB 1) (dC (.int 0)))) (bE [] (eI (aD (cD aI) aI))) bJ)
 (aM (cF (aU (aE eV (aB 1) (dC (.int 1)))) (bE [] (dF [3] (gQ kG (aD (aB 0) aI)) (aH 3) cG (cD (aD (aP (aB 3)) aI)))) bJ)
 (aM (aY [] (eI aI) (aH 2))
 (aM (hV (gQ kG (aD (aB 0) aI)) (aH 3) (zK 2 [] ah1 cO (aD (dF [4] (gQ xS (aD (aE bS (aB 3) (dC (.int 1))) (aD (aB 0) aI))) (aH 4) cG (cD (aD (aP (aB 3)) (aD (aP (aB 4)) aI)))) aI)))
 (bE [2] (aB 2))))))
def iD:List T->Res T:=λts=>bU (mK (cE 5 ts))
def qJ:Fr->bO:=
 (bE [] (dF [2] (gG jG (aB 0)) (aH 2) (kX (aU (aE pW (aE aQ (aB 2) (dC (.int 3))) (dC .non))) (aU (aE (inT true) (aE aQ (aB 2) (dC (.int 3))) (aB 1)))) (aP (aB 2))))
def fU:List T->Res T:=λts=>bU (qJ (cE 3 ts))
def uW:Fr->bO:=
 (bE [] (uR (bN iE (aD (aB 0) (aD (dC (.ty "int")) aI))) (at4 (bN iE (aD (aB 0) (aD (dC (.ty "bool")) aI))))))
def iB:List T->Res T:=λts=>bU (uW (cE 1 ts))
def rC:Fr->bO:=
 (aM (cF (kX (eO (dS (bN iE (aD (aB 0) (aD (dC (.ty "tuple")) aI))))) (kX (aU (aE mM (bN cI (aD (aB 0) aI)) (dC (.int 4)))) (eO (dS (aX 1 iB (aD (aE aQ (aB 0) (dC (.int 2))) aI)))))) (bE [] (dC (.bl false))) bJ)
 (aM (hV (gG rP (bo6 (eI (aD (aP (aE aQ (aB 0) (dC (.int 0)))) (aD (aP (aE aQ (aB 0) (dC (.int 1)))) (aD (aP (aE aQ (aB 0) (dC (.int 3)))) aI)))))) (aH 2) (cF (jT (aU (aE jC (aB 2) (dC .non))) (eO (dS (aX 1 iB (aD (aB 2) aI))))) (bE [] (dC (.bl false))) bJ))
 (bE [] (aE (inT false) (aB 0) (aB 1)))))
def kF:List T->Res T:=λts=>bU (rC (cE 3 ts))
def pP:Fr->bO:=
 (aM (cF (kX (eO (dS (bN iE (aD (aB 0) (aD (dC (.ty "list")) aI))))) (eO (dS (bN (jU false) (aD (dF [5] (gG jG (aB 0)) (aH 5) cG (aX 2 kF (aD (aB 5) (aD (aB 1) aI)))) aI))))) (bE [] (dC (.bl false))) bJ)
 (aM (aY [] (aP (aB 2)) (aH 4))
 (aM (hV (gG rP (aB 0)) (aH 5) (aM (cF (aU (aE mM (aE aQ (aB 5) (dC (.int 0))) (aB 4))) (bE [] (dC (.bl false))) bJ)
 (aY [] (aP (aE aQ (aB 5) (dC (.int 1)))) (aH 4))))
 (bE [] (aE eV (aB 4) (aB 3))))))
def pQ:List T->Res T:=λts=>bU (pP (cE 6 ts))
def qT:Fr->bO:=
 (aM (cF (kX (eO (dS (bN iE (aD (aB 0) (aD (dC (.ty "list")) aI))))) (kX (aU (aE eV (aB 0) (eI aI))) (eO (dS (aX 2 kF (aD (aE aQ (aB 0) (dC (.int 0))) (aD (aB 1) aI))))))) (bE [] (dC (.bl false))) bJ)
 (aM (cF (eO (dS (aX 4 pQ (aD (aB 0) (aD (aB 1) (aD (aE aQ (aE aQ (aB 0) (dC (.int 0))) (dC (.int 0))) (aD (aE aQ (aE aQ (aB 0) (dC (.int 0))) (dC (.int 0))) aI))))))) (bE [] (dC (.bl false))) bJ)
 (aM (aY [] (dF [3] (gG jG (aB 0)) (aH 3) cG (aP (aE aQ (aB 3) (dC (.int 0))))) (aH 2))
 (aM (cF (dS (bN (jU true) (aD (dF [4] (gQ kG (aD (bN cI (aD (aB 2) aI)) aI)) (aH 4) cG (aE (inT false) (aE aQ (aB 2) (aB 4)) (vY rQ (aB 2) lD (kK (aB 4))))) aI))) (bE [] (dC (.bl false))) bJ)
 (bE [] (aE vN (bN bo5 (aD (dF [3] (gG jG (aB 0)) (aH 3) cG (aP (aE aQ (aB 3) (dC (.int 2))))) aI)) (dC (.int 0))))))))
def cY:List T->Res T:=λts=>bU (qT (cE 5 ts))
def vB:Fr->bO:=
 (aM (cF (kX (eO (dS (bN iE (aD (aB 0) (aD (dC (.ty "list")) aI))))) (aU (aE mM (bN cI (aD (aB 0) aI)) (bN cI (aD (aB 1) aI))))) (bE [] (dC (.bl false))) bJ)
 (aM (hV (gQ (bg0 true) (aD (aB 0) (aD (aB 1) aI))) (eW (bC (aH 3) (bC (aH 4) eZ))) (aM (cF (kX (eO (dS (bN iE (aD (aB 3) (aD (dC (.ty "tuple")) aI))))) (kX (aU (aE mM (bN cI (aD (aB 3) aI)) (dC (.int 2)))) (aU (aE mM (aE aQ (aB 3) (dC (.int 0))) (aB 4))))) (bE [] (dC (.bl false))) bJ)
 (cF (eO (dS (aX 2 cY (aD (aE aQ (aB 3) (dC (.int 1))) (aD (aX 2 fU (aD (aB 2) (aD (aB 4) aI))) aI))))) (bE [] (dC (.bl false))) bJ)))
 (bE [] (dC (.bl true)))))
def qF:List T->Res T:=λts=>bU (vB (cE 5 ts))
def uL:Fr->bO:=
 (aM (hV (gG rP (aB 1)) (eW (bC (aH 2) (bC (aH 3) (bC (aH 4) (bC (aH 5) eZ))))) (aM (aY [] (dC (.int 0)) (aH 6))
 (aM (aY [] (dC (.int 0)) (aH 7))
 (aM (cF (aU (aE jC (aB 2) (dC .non))) (aY [] (aP (aE aQ (aB 0) (aB 2))) (aH 6)) bJ)
 (aM (cF (aU (aE jC (aB 3) (dC .non))) (aY [] (aP (aE aQ (aB 0) (aB 3))) (aH 7)) bJ)
 (cF (aU (aE vW (aB 7) (aE bS (aB 6) (aB 4)))) (bE [] (dC (.bl false))) bJ))))))
 (bE [] (dC (.bl true))))
def vC:List T->Res T:=λts=>bU (uL (cE 8 ts))
def nZ:Fr->bO:=
 (aM (cF (kX (eO (dS (bN iE (aD (aB 0) (aD (dC (.ty "list")) aI))))) (kX (aU (aE mM (bN cI (aD (aB 0) aI)) (aB 1))) (eO (dS (bN (jU false) (aD (dF [3] (gG jG (aB 0)) (aH 3) cG (aX 1 iB (aD (aB 3) aI))) aI)))))) (bE [] (dC (.bl false))) bJ)
 (bE [] (aX 2 vC (aD (aB 0) (aD (aB 2) aI)))))
def iT:List T->Res T:=λts=>bU (nZ (cE 4 ts))
def tP:Fr->bO:=
 (aM (aY [] (aE sL (eI (aD (dC (.int 0)) aI)) (aE bS (aB 1) (dC (.int 1)))) (aH 2))
 (aM (hV (gQ kG (aD (aE bS (aB 1) (dC (.int 2))) aI)) (aH 3) (aM (aY [] (dC (.bl false)) (aH 4))
 (aM (hV (gG rP (aB 0)) (eW (bC (aH 5) (bC (aH 6) (bC (aH 7) (bC (aH 8) eZ))))) (aM (aY [] (yJ (aU (aE pW (aB 5) (dC .non))) (aP (aB 1)) (aP (aB 5))) (aH 9))
 (aM (aY [] (yJ (aU (aE pW (aB 6) (dC .non))) (aP (aB 1)) (aP (aB 6))) (aH 10))
 (cF (aU (aE vW (aE aQ (aB 2) (aB 10)) (aE bS (aE aQ (aB 2) (aB 9)) (aB 7)))) (aM (ai6 2 [] (aE bS (aE aQ (aB 2) (aB 9)) (aB 7)) cO (aB 10))
 (aY [] (dC (.bl true)) (aH 4))) bJ))))
 (cF (eO (dS (aB 4))) (bE [] (dC (.bl true))) bJ))))
 (bE [] (dC (.bl false)))))
def oR:List T->Res T:=λts=>bU (tP (cE 11 ts))
def qA:Fr->bO:=
 (aM (aY [] (aE bS (aE bS (aX 2 iD (aD (aB 3) (aD (dC (.int 0)) aI))) (aX 2 iD (aD (aB 3) (aD (dC (.int 1)) aI)))) (aX 2 iD (aD (aB 3) (aD (dC (.int 2)) aI)))) (aH 4))
 (aM (cF (aU (aE eV (aE aQ (aB 0) (dC (.int 0))) (dC (.str "more")))) (bE [] (uR (aE eV (bN cI (aD (aB 0) aI)) (dC (.int 2))) (aX 3 qF (aD (aE aQ (aB 0) (dC (.int 1))) (aD (aB 4) (aD (aB 1) aI)))))) bJ)
 (aM (cF (kX (aU (aE mM (aE aQ (aB 0) (dC (.int 0))) (dC (.str "drop")))) (kX (aU (aE mM (bN cI (aD (aB 0) aI)) (dC (.int 4)))) (kX (aU (aE (inT true) (aE aQ (aB 0) (dC (.int 1))) (aB 4))) (eO (dS (bN iE (aD (aE aQ (aB 0) (dC (.int 1))) (aD (dC (.ty "tuple")) aI)))))))) (bE [] (dC (.bl false))) bJ)
 (aM (cF (eO (dS (bN (jU false) (aD (dF [7] (gG jG (aE aQ (aB 0) (dC (.int 1)))) (aH 7) cG (aX 1 iB (aD (aB 7) aI))) aI)))) (bE [] (dC (.bl false))) bJ)
 (aM (cF (eO (dS (aX 3 iT (aD (aE aQ (aB 0) (dC (.int 2))) (aD (aB 2) (aD (aX 2 fU (aD (aB 1) (aD (aE aQ (aB 0) (dC (.int 1))) aI))) aI)))))) (bE [] (dC (.bl false))) bJ)
 (aM (aY [] (dF [8] (gG jG (aB 4)) (aH 8) (aU (aE vN (bN cI (aD (aB 8) aI)) (bN cI (aD (aE aQ (aB 0) (dC (.int 1))) aI)))) (aP (aB 8))) (aH 5))
 (aM (cF (eO (dS (aX 3 qF (aD (aE aQ (aB 0) (dC (.int 3))) (aD (aB 5) (aD (aB 1) aI)))))) (bE [] (dC (.bl false))) bJ)
 (aM (aY [] (dF [8] (gG jG (aB 4)) (aH 8) (jT (aU (aE eV (bN cI (aD (aB 8) aI)) (bN cI (aD (aE aQ (aB 0) (dC (.int 1))) aI)))) (aU (aE ai1 (aB 8) (aE aQ (aB 0) (dC (.int 1)))))) (aP (aB 8))) (aH 6))
 (bE [] (at4 (bN (jU true) (aD (dF [8] (gG jG (aB 6)) (aH 8) cG (aX 2 oR (aD (aX 2 fU (aD (aB 1) (aD (aB 8) aI))) (aD (aB 2) aI)))) aI))))))))))))
def gJ:List T->Res T:=λts=>bU (qA (cE 9 ts))
def ck2:Fr->bO:=
 (aM (aY [] (aX 2 qD (aD (aB 0) (aD (dC (.int 4)) aI))) (aH 1))
 (aM (aY [] (aP (aE aQ (eI (aD (dC (.int 8)) (aD (dC (.int 12)) aI))) (aE iG (aE cK (aE iG (aX 2 fT (aD (aB 0) (aD (dC (.int 1)) aI))) (dC (.int 4))) (dC (.int 8))) (dC (.int 7))))) (aH 2))
 (aM (aY [] (aX 2 oQ (aD (aE iG (aX 2 fT (aD (aB 0) (aD (dC (.int 1)) aI))) (dC (.int 32))) (aD (aB 1) aI))) (aH 3))
 (aM (aY [] (af1 (aX 4 nI (aD (vY rQ (aB 0) (kK (dC (.int 2))) (kK (aE bS (dC (.int 2)) (aB 2)))) (aD (aB 1) (aD (aE vW (aE cK (aX 2 fT (aD (aB 0) (aD (dC (.int 1)) aI))) (dC (.int 4))) (dC (.int 0))) (aD (aB 3) aI)))))) (aH 4))
 (aM (aY [] (aX 1 nH (aD (aB 1) aI)) (aH 5))
 (aM (aY [] (af1 (aX 2 tQ (aD (aB 5) (aD (aB 4) aI)))) (aH 6))
 (aM (cF (jT (aU (oS vN vN (dC (.int 0)) (bN cI (aD (aB 4) aI)) (dC (.int 8)))) (aU (aE eV (aE cK (aE iG (aX 2 fT (aD (aB 0) (aD (dC (.int 1)) aI))) (dC (.int 4))) (dC (.int 8))) (dC (.int 5))))) (aM (gN 4 [] cO (aP (aE aQ (aB 4) (dC (.int 0)))))
 (gN 6 [] cO (aP (aE aQ (aB 6) (dC (.int 0)))))) bJ)
 (aM (aY [] (aX 2 qI (aD (aB 1) (aD (aB 4) aI))) (aH 7))
 (aM (aY [] (aX 2 dX (aD (aB 5) (aD (aB 6) aI))) (aH 8))
 (aM (cF (kX (eO (dS (bN iE (aD (aB 8) (aD (dC (.ty "tuple")) aI))))) (eO (dS (aX 4 gJ (aD (aB 8) (aD (aB 7) (aD (bN cI (aD (aE aQ (aB 1) (dC (.int 2))) aI)) (aD (bN cI (aD (aB 4) aI)) aI)))))))) (bE [] (dC (.bl false))) bJ)
 (aM (sF 8 9 10)
 (aM (cF (eO (dS (aa2 8 (bN (jU false) (aD (dF [9,10] (gG jG (vY rQ (aE aQ (aB 8) (fV nR (dC (.int 1)))) (kK (dC (.int 1))) lD)) (eW (bC (aH 9) (bC (aH 10) eZ))) cG (aX 2 cY (aD (aB 10) (aD (aX 2 fU (aD (aB 7) (aD (aB 9) aI))) aI)))) aI))))) (bE [] (dC (.bl false))) bJ)
 (aM (cF (aU (aE vW (bN cI (aD (aB 4) aI)) (dC (.int 8)))) (bE [] (dC (.bl true))) bJ)
 (aM (aY [] (aP (aE aQ (aB 8) (dC (.int 0)))) (aH 11))
 (aM (aY [] (cD aI) (aH 9))
 (aM (cF (aU (aE eV (aB 11) (dC (.str "drop")))) (aM (aY [] (aP (aE aQ (aB 8) (dC (.int 1)))) (aH 9))
 (gN 8 [] (pIx 8 cO (dC (.int 2))) (dC (.int 0)))) bJ)
 (aM (gN 8 [] (pIx 8 cO (fV nR (dC (.int 1)))) (dC .non))
 (aM (aY [] (aX 2 dX (aD (aB 5) (aD (aB 6) aI))) (aH 12))
 (aM (cF (kX (aU (aE mM (aE aQ (aB 12) (dC (.int 0))) (aB 11))) (jT (aU (aE eV (aB 11) (dC (.str "drop")))) (aU (aE mM (aE aQ (aB 12) (dC (.int 1))) (aB 9))))) (bE [] (dC (.bl false))) bJ)
 (bE [] (aX 4 gJ (aD (aB 12) (aD (aB 7) (aD (bN cI (aD (aE aQ (aB 1) (dC (.int 2))) aI)) (aD (bN cI (aD (aB 4) aI)) aI)))))))))))))))))))))))))
def bj5:List T->Res T:=λts=>bU (ck2 (cE 13 ts))
abbrev ad9:Stmt:=dN 75
abbrev av5:Stmt:=dN 77
abbrev am5:Stmt:=dN 76
abbrev ar5:Stmt:=dN 78
abbrev bv2:Stmt:=dN 81
abbrev am4:Stmt:=dN 82
abbrev ae8:Stmt:=dN 83
abbrev ag3:Stmt:=dN 79
abbrev av3:Stmt:=dN 80
abbrev ar2:Stmt:=dN 84
abbrev aq7:Stmt:=dN 14
abbrev yT:Stmt:=dN 15
abbrev ao5:Stmt:=dN 44
abbrev ab3:Stmt:=dN 16
abbrev bd3:Stmt:=dN 17
abbrev ap5:Stmt:=dN 45
abbrev aw8:Stmt:=dN 34
abbrev af9:Stmt:=dN 46
abbrev ac8:Stmt:=dN 36
abbrev ar3:Stmt:=dN 47
abbrev mL:Stmt:=ar0 (dN 48) 0
abbrev ay2:Stmt:=dN 86
abbrev bl6:Stmt:=dN 62
abbrev bz2:Stmt:=dN 63
abbrev lK:Stmt:=ar0 (dN 48) 1
abbrev bu2:Stmt:=dN 35
abbrev bc7:Stmt:=dN 18
abbrev fG:Stmt:=ar0 (dN 52) 0
abbrev ag4:Stmt:=dN 64
abbrev av0:Stmt:=dN 61
abbrev ay3:Stmt:=dN 37
abbrev as0:Stmt:=dN 65
abbrev ax0:Stmt:=dN 66
abbrev xQ:Stmt:=dN 67
abbrev zZ:Stmt:=dN 68
abbrev as2:Stmt:=dN 69
abbrev yX:Stmt:=dN 70
abbrev af0:Stmt:=dN 71
abbrev aq5:Stmt:=dN 73
abbrev ah7:Stmt:=dN 87
abbrev as5:Stmt:=dN 85
abbrev eR:Stmt:=ar0 (dN 52) 1
abbrev eD:Stmt:=ar0 (dN 52) 2
abbrev am0:Stmt:=dN 7
abbrev ak3:Stmt:=dN 8
abbrev aj7:Stmt:=dN 9
abbrev yU:Stmt:=dN 10
abbrev af8:Stmt:=dN 20
abbrev bc3:Stmt:=dN 21
abbrev au2:Stmt:=dN 22
abbrev aq2:Stmt:=dN 23
abbrev ae4:Stmt:=dN 24
abbrev yM:Stmt:=dN 27
abbrev aa0:Stmt:=dN 28
abbrev al3:Stmt:=dN 94
abbrev am2:Stmt:=dN 95
abbrev an5:Stmt:=dN 88
abbrev ao2:Stmt:=dN 91
abbrev ag0:Stmt:=dN 92
abbrev at2:Stmt:=dN 93
abbrev ax5:Stmt:=dN 97
abbrev ab6:Stmt:=dN 89
abbrev yB:Stmt:=dN 90
abbrev aa4:Stmt:=dN 96
abbrev az5:Stmt:=dN 98
abbrev wP:Stmt:=dN 99
end
structure Txt (w:World) (K:A1) (cn:Str->Option Addr) (mg:Str->Option Value) (c_Archive c_Ink c_Reign c_Under c_Between c_After c_Same c_Within c_Apart:Addr) (sH wZ jF:List (Str×Value)):Prop where
 cy4:mg "abs"=none
 tX:mg "all"=none
 dv5:mg "any"=none
 ce9:mg "bool"=none
 dd4:mg "divmod"=none
 cr0:mg "enumerate"=none
 dw5:mg "int"=none
 fX:mg "isinstance"=none
 cX:mg "len"=none
 lU:mg "list"=none
 al9:mg "max"=none
 ak2:mg "min"=none
 gC:mg "range"=none
 en9:mg "set"=none
 em9:mg "str"=none
 eo9:mg "sum"=none
 ae5:mg "tuple"=none
 cr4:mg "zip"=none
 g_DARKEST:xF mg "DARKEST" (.int 1000000)
 g_FARTHEST_END:xF mg "FARTHEST_END" (.int 3000)
 g_FARTHEST_YEAR:xF mg "FARTHEST_YEAR" (.int 4000)
 g_LETTERS:xF mg "LETTERS" (.str "abcdefghijklmnopqrstuvwxyz")
 g_LONGEST_REIGN:xF mg "LONGEST_REIGN" (.int 100)
 g_LONGEST_SPAN:xF mg "LONGEST_SPAN" (.int 300)
 g_MOST_AGES:xF mg "MOST_AGES" (.int 60)
 g_MOST_FALSE:xF mg "MOST_FALSE" (.int 2)
 g_MOST_INKS:xF mg "MOST_INKS" (.int 6)
 g_MOST_LETTERS_archives:xF mg "MOST_LETTERS_archives" (.int 8)
 g_MOST_LETTERS_words:xF mg "MOST_LETTERS_words" (.int 8)
 g_MOST_REIGNS:xF mg "MOST_REIGNS" (.int 8)
 d_NUMBERS:ab2 w K mg "NUMBERS" sH
 g_NUMBERS:GD K cn kt_NUMBERS sH
 d_PARTS:ab2 w K mg "PARTS" wZ
 g_PARTS:GD K cn kt_PARTS wZ
 mZ:cn "Archive"=some c_Archive
 pV:Cls K c_Archive
 yA:cn "Ink"=some c_Ink
 ab1:Cls K c_Ink
 rL:cn "Reign"=some c_Reign
 uI:Cls K c_Reign
 rN:cn "Under"=some c_Under
 uG:Cls K c_Under
 nC:cn "Between"=some c_Between
 pU:Cls K c_Between
 rM:cn "After"=some c_After
 uK:Cls K c_After
 uH:cn "Same"=some c_Same
 wY:Cls K c_Same
 oW:cn "Within"=some c_Within
 sI:Cls K c_Within
 rO:cn "Apart"=some c_Apart
 uJ:Cls K c_Apart
 ab7:NoAttr K c_Archive "first"
 cn0:NoAttr K c_Ink "high"
 bz4:NoAttr K c_Reign "high"
 bk4:NoAttr K c_Under "high"
 ak9:NoAttr K c_Between "high"
 ba5:NoAttr K c_After "high"
 bj9:NoAttr K c_Same "high"
 bb2:NoAttr K c_Within "high"
 bn4:NoAttr K c_Apart "high"
 az9:NoAttr K c_Archive "inks"
 as4:NoAttr K c_Archive "letters"
 cd5:NoAttr K c_Ink "low"
 bf9:NoAttr K c_Reign "low"
 bg9:NoAttr K c_Under "low"
 bj2:NoAttr K c_Between "low"
 by8:NoAttr K c_After "low"
 ci0:NoAttr K c_Same "low"
 bp4:NoAttr K c_Within "low"
 bu8:NoAttr K c_Apart "low"
 ar4:NoAttr K c_Archive "present"
 ah5:NoAttr K c_Archive "reigns"
 by4:NoAttr K c_Ink "spoken"
 aq9:NoAttr K c_Reign "spoken"
 as9:NoAttr K c_Under "spoken"
 aj5:NoAttr K c_Between "spoken"
 aj9:NoAttr K c_After "spoken"
 bx1:NoAttr K c_Same "spoken"
 ad7:NoAttr K c_Within "spoken"
 bc0:NoAttr K c_Apart "spoken"
 cl0:NoAttr K c_Ink "text"
 bv4:NoAttr K c_Reign "text"
 bd5:NoAttr K c_Under "text"
 am9:NoAttr K c_Between "text"
 be5:NoAttr K c_After "text"
 ba9:NoAttr K c_Same "text"
 bz1:NoAttr K c_Within "text"
 bt4:NoAttr K c_Apart "text"
 cb5:eK K mg "_law_cell" ad9
 ch0:eK K mg "_law_names" av5
 cc0:eK K mg "_law_whirl" am5
 ce0:eK K mg "_law_frame" ar5
 cd9:eK K mg "_law_row" bv2
 bc9:eK K mg "_law_hidden" am4
 ct4:eK K mg "_law_free" ae8
 bs8:eK K mg "_law_of_one" ag3
 bd9:eK K mg "_law_of_two" av3
 bo4:eK K mg "_law_sayings" ar2
 cw4:eK K mg "is_whole" aq7
 at9:eK K mg "is_whole_from" yT
 cp0:eK K mg "are_years" ao5
 bz8:eK K mg "is_made_of" ab3
 cy8:eK K mg "is_name" bd3
 cm0:eK K mg "are_names" ap5
 cs4:eK K mg "is_table" aw8
 cv4:eK K mg "are_inks" af9
 cu4:eK K mg "is_reign" ac8
 bh9:eK K mg "are_reigns" ar3
 bw4:eK K mg "_law_archive" ay2
 de4:eK K mg "is_due" bl6
 ca9:eK K mg "are_due" bz2
 cz8:eK K mg "ages_of" bu2
 dh4:eK K mg "spaced" bc7
 bi9:eK K mg "ink_saying" ag4
 bg2:eK K mg "reign_called" av0
 be9:eK K mg "reign_year" ay3
 bh2:eK K mg "reign_saying" as0
 bn2:eK K mg "under_saying" ax0
 ae7:eK K mg "between_saying" xQ
 bm2:eK K mg "after_saying" zZ
 br4:eK K mg "same_saying" as2
 an9:eK K mg "within_saying" yX
 bi2:eK K mg "apart_saying" af0
 ck0:eK K mg "saying_of" aq5
 cz4:eK K mg "_law_heap" ah7
 cq0:eK K mg "_law_steps" as5
 bc2:eK K mg "saying_steps" am0
 bv8:eK K mg "span_steps" ak3
 cc5:eK K mg "steps_of" aj7
 ai9:eK K mg "steps_without" yU
 cq4:eK K mg "place_of" af8
 cf9:eK K mg "is_kept" bc3
 bq4:eK K mg "raise_years" au2
 bl4:eK K mg "ring_behind" aq2
 bb9:eK K mg "settled_by" ae4
 ar9:eK K mg "with_one_more" yM
 be2:eK K mg "fewest_false" aa0
 bt8:eK K mg "_law_tuples" al3
 bb5:eK K mg "_law_without" am2
 cg0:eK K mg "_law_whole" an5
 bc5:eK K mg "_law_is_step" ao2
 bf2:eK K mg "_law_is_chain" ag0
 bs4:eK K mg "_law_is_ring" at2
 cf0:eK K mg "_law_rings" ax5
 cj0:eK K mg "_law_holds" ab6
 aw9:eK K mg "_law_is_dating" yB
 bw8:eK K mg "_law_can_be" aa4
 co0:eK K mg "_law_right" az5
 ca5:xZ K mg "Archive" c_Archive "Archive.__init__" mL
 en5:xZ K mg "Ink" c_Ink "Saying.__init__" fG
 df4:xZ K mg "Reign" c_Reign "Saying.__init__" fG
 dg4:xZ K mg "Under" c_Under "Saying.__init__" fG
 cx4:xZ K mg "Between" c_Between "Saying.__init__" fG
 dj4:xZ K mg "After" c_After "Saying.__init__" fG
 dp9:xZ K mg "Same" c_Same "Saying.__init__" fG
 cb9:xZ K mg "Within" c_Within "Saying.__init__" fG
 di4:xZ K mg "Apart" c_Apart "Saying.__init__" fG
 ac7:mR K c_Archive "table" "Archive.table" lK
 bx8:mR K c_Ink "about" "Saying.about" eR
 bd2:mR K c_Reign "about" "Saying.about" eR
 by1:mR K c_Under "about" "Saying.about" eR
 aa7:mR K c_Between "about" "Saying.about" eR
 bl2:mR K c_After "about" "Saying.about" eR
 bx4:mR K c_Same "about" "Saying.about" eR
 au9:mR K c_Within "about" "Saying.about" eR
 bk2:mR K c_Apart "about" "Saying.about" eR
 bm4:mR K c_Ink "bounds" "Saying.bounds" eD
 bb0:mR K c_Reign "bounds" "Saying.bounds" eD
 ba0:mR K c_Under "bounds" "Saying.bounds" eD
 ai5:mR K c_Between "bounds" "Saying.bounds" eD
 ax9:mR K c_After "bounds" "Saying.bounds" eD
 bw1:mR K c_Same "bounds" "Saying.bounds" eD
 az6:mR K c_Within "bounds" "Saying.bounds" eD
 ao9:mR K c_Apart "bounds" "Saying.bounds" eD
 cc9:ab2 w K mg "MAKERS" jF
 bu4:jF.lookup ("ink":Str)=mg "ink_saying"
 ap9:jF.lookup ("reign":Str)=mg "reign_saying"
 ay9:jF.lookup ("under":Str)=mg "under_saying"
 ag5:jF.lookup ("between":Str)=mg "between_saying"
 av9:jF.lookup ("after":Str)=mg "after_saying"
 ba2:jF.lookup ("same":Str)=mg "same_saying"
 ay6:jF.lookup ("within":Str)=mg "within_saying"
 bd0:jF.lookup ("apart":Str)=mg "apart_saying"
section
theorem l1{α:Type}:∀{us:List α},us.length=1->∃a,us=[a]
 |[a],_=>⟨a,rfl⟩
theorem l2{α:Type}:∀{us:List α},us.length=2->∃a b,us=[a,b]
 |[a,b],_=>⟨a,b,rfl⟩
theorem l3{α:Type}:∀{us:List α},us.length=3->∃a b c,us=[a,b,c]
 |[a,b,c],_=>⟨a,b,c,rfl⟩
theorem l4{α:Type}:∀{us:List α},us.length=4->∃a b c d,us=[a,b,c,d]
 |[a,b,c,d],_=>⟨a,b,c,d,rfl⟩
theorem l5{α:Type}:∀{us:List α},us.length=5->∃a b c d e,us=[a,b,c,d,e]
 |[a,b,c,d,e],_=>⟨a,b,c,d,e,rfl⟩
theorem l6{α:Type}:∀{us:List α},us.length=6->∃a b c d e f,us=[a,b,c,d,e,f]
 |[a,b,c,d,e,f],_=>⟨a,b,c,d,e,f,rfl⟩
variable{X:Cx}
def px(K:A1){a b:Expr}{ta tb:TE}{pos:Pos}(ha:PE X a ta)(hb:PE X b tb)(hs:cg2 b:=by exact λ_ _=>rfl)(hK:X.K=K:=by rfl):PE X (.Subscript a b pos) (tOp (rIx K) ta tb):=et7 (ft0 K hK) ha hb hs
def pz(i:Nat){x:Str}{e:Expr}{te:TE}{pos pos':Pos}{q:List Str}{c:Scope}(S:bB X.N q c)(he:PE X e te)(hi:X.N[i]?=some x:=by rfl)(hx:Loc X.env.scope x:=by first|exact .inl rfl|exact .inr rfl)(hs:swapsWith e (some (.Name x pos')) pos.line X.env=pure false:=by rfl)(hf:X.fn x=true\/X.env.scope.names.lookup x=some .local:=by first|exact .inl rfl|exact .inr rfl|assumption):PS X (.Assign [.Name x pos'] e pos) (be0 te (yH i)):=ea0 S.nd hi hx he hs hf
def pn(i:Nat){x:Str}{pos:Pos}{q:List Str}{c:Scope}(S:bB X.N q c)(hi:X.N[i]?=some x:=by rfl)(hx:Loc X.env.scope x:=by first|exact .inl rfl|exact .inr rfl)(hf:X.fn x=true\/X.env.scope.names.lookup x=some .local:=by first|exact .inl rfl|exact .inr rfl|assumption):PG X (.Name x pos) (yH i):=da8 S.nd hi hx hf
def pf{k n:Nat}{x:Str}{ps:List Str}{sp:Sp}{p pos:Pos}{e:Expr}{es:List Expr}{t:TA}(d:dQ X.prog X.w X.K X.mg X.base k x ps sp)(hr:Room n X.A)(ha:PA X (e::es) t)(hk:k<=n:=by decide)(hg:Gl X x:=by rfl)
 (hdb:(x==("__debug__":Str))=false:=by decide)(he:starEach (e::es) X.env=(false,eval e X.env)::starEach es X.env:=by rfl)(hpl:(backTo pos (starEach es X.env)).any (·.1)=false:=by rfl):PE X (.Call (.Name x p) (e::es) [] pos) (cm4 sp t):=ek5 d (hr.mono hk) ha hg hdb he hpl
def aL{e:Expr}{te:TE}(ha:PE X e te)(hs:starEach [e] X.env=[(false,eval e X.env)]:=by rfl):PA X [e] (wS te az1):=aF ha kH hs
def pc{a b:Expr}{ta tb:TE}{pos:Pos}{op:CmpOp}{r:R2}(ho:OpR X (compareOp op) r)(ha:PE X a ta)(hb:PE X b tb)(h:op≠ .In:=by decide)(h2:op≠ .NotIn:=by decide):PT X (.Compare a [op] [b] pos) (bm5 (tOp r ta tb)):=ac5 ho ha hb (vQ _ h h2)
def oe(K:A1){k:Nat}(hr:Room k X.A)(hK:X.K=K:=by rfl):OpR X (compareOp .Eq) (co4 K cU):=el3 K hr W1 hK
def rX(K:A1){o e:Expr}{es:List Expr}{to:TE}{t:TA}{apos cpos:Pos}(ho:PE X o to)(ha:PA X (e::es) t)(hbase:attributeBase o "append" X.env (eval o X.env)=eval o X.env:=by rfl)
 (hfew:((backTo cpos (starEach (e::es) X.env)).all (λx=>!x.1)&&(backToKw cpos (keywordEach [] X.env)).all (λx=>x.1.isSome)
  &&decide ((e::es).length+([]:List Keyword).length+(if([]:List Keyword).isEmpty then 0 else 1)<30))=true:=by rfl)
 (hline:(apos.endLine==cpos.line)=true:=by rfl)(hs:starEach (e::es) X.env=(false,eval e X.env)::starEach es X.env:=by rfl)(hplain:(backTo cpos (starEach es X.env)).any (·.1)=false:=by rfl)(hK:X.K=K:=by rfl):
 PE X (.Call (.Attribute o "append" apos) (e::es) [] cpos) (tBM K "list" be1 to t):=tT K J8 PySem.F.slot_list_append PySem.F.type_list_append cd6 ho ha hbase hfew hline hs hplain hK
def pm(ks:List Nat){tg iter elt:Expr}{ifs:List Expr}{scope:Scope}{pos:Pos}{wi:TI}{g:TG}{tc:TT}{te:TE}(hit:PI X tg iter wi)
 (hg:∀cl C s₀ H₀ ex,PG (oM X scope cl C s₀ H₀ ex) tg g)(hi:∀cl C s₀ H₀ ex,PIf (oM X scope cl C s₀ H₀ ex) ifs tc)(he:∀cl C s₀ H₀ ex,PE (oM X scope cl C s₀ H₀ ex) elt te)(S:CScope X ks scope:=by exact⟨rfl,V9,V9,by rfl,by rfl⟩)(hc:X.calm=true:=by rfl)
 (hs:∀x,foldedSetIterable iter X.env x=pure x:=by intro _;rfl):PE X (.ListComp elt [⟨tg,iter,ifs,0⟩] scope pos) (cr3 ks wi g tc te):=dh6 S hc hit hg hi he hs
def pk(i:Nat){y:Str}{py spos:Pos}{q:List Str}{c:Scope}(F:bB X.N q c)(ks:List Nat){tg iter elt:Expr}{ifs:List Expr}{scope:Scope}{pos:Pos}{wi:TI}{g:TG}{tc:TT}{te:TE}(hit:PI X tg iter wi)
 (hg:∀cl C s₀ H₀ ex,PG (oM X scope cl C s₀ H₀ ex) tg g)(hi:∀cl C s₀ H₀ ex,PIf (oM X scope cl C s₀ H₀ ex) ifs tc)(he:∀cl C s₀ H₀ ex,PE (oM X scope cl C s₀ H₀ ex) elt te)(hi':X.N[i]?=some y:=by rfl)(hy:Loc X.env.scope y:=by first|exact .inl rfl|exact .inr rfl)(S:CScope X ks scope:=by exact⟨rfl,V9,V9,by rfl,by rfl⟩)(hc:X.calm=true:=by rfl)
 (hsw:swapsWith (.ListComp elt [⟨tg,iter,ifs,0⟩] scope pos) (some (.Name y py)) spos.line X.env=pure true:=by rfl)
 (hs:∀x,foldedSetIterable iter X.env x=pure x:=by intro _;rfl)(hf:X.fn y=true\/X.env.scope.names.lookup y=some .local:=by first|exact .inl rfl|exact .inr rfl|assumption):PS X (.Assign [.Name y py] (.ListComp elt [⟨tg,iter,ifs,0⟩] scope pos) spos) (aq6 i ks wi g tc te):=cu2 F.nd hi' hy S hc hit hg hi he hsw hs hf
end
section
local macro_rules | `(tactic| walk_at "u") => `(tactic| (intro _ _ _ _ _ _ us hl; first | (obtain ⟨_, e⟩ := l1 hl; subst e; exact rfl) | (obtain ⟨_, _, e⟩ := l2 hl; subst e; exact rfl) | (obtain ⟨_, _, _, e⟩ := l3 hl; subst e; exact rfl) | (obtain ⟨_, _, _, _, e⟩ := l4 hl; subst e; exact rfl) | (obtain ⟨_, _, _, _, _, e⟩ := l5 hl; subst e; exact rfl) | (obtain ⟨_, _, _, _, _, _, e⟩ := l6 hl; subst e; exact rfl)))
local macro_rules | `(tactic| walk_at "s") => `(tactic| exact ⟨rfl, rfl, rfl, by decide +kernel, rfl, by decide +kernel, by decide +kernel⟩)
def bx9:bB ["_law_script","_law_at"] ["_law_script","_law_at"] (aO ad9):=W4
def ah3:bB ["_law_cell_here","_law_some"] ["_law_cell_here"] (aO av5):=W4
def oI:bB ["_law_number","_law_k","_law_upper","_law_lower","_law_found"] ["_law_number","_law_k"] (aO am5):=W4
def eF:bB ["_law_script","_law_most","_law_cell_here","_law_span","_law_first","_law_names_here","_law_inks","_law_k","_law_dark","_law_table","_law_j","_law_begin","_law_reigns"] ["_law_script","_law_most"] (aO ar5):=W4
def sY:bB ["_law_cell_here","_law_many","_law_rest","_law_found","_law_k"] ["_law_cell_here","_law_many"] (aO bv2):=W4
def ax2:bB ["_law_cell_here","_law_frame_here","_law_x"] ["_law_cell_here","_law_frame_here"] (aO am4):=W4
def nJ:bB ["_law_xs","_law_frame_here","_law_one","_law_other","_law_names_here","_law_low","_law_high"] ["_law_xs","_law_frame_here","_law_one","_law_other"] (aO ae8):=W4
def dD:bB ["_law_number","_law_frame_here","_law_letter","_law_year","_law_name","_law_rest","_law_ink","_law_table","_law_error","_law_dark","_law_ages","_law_age","_law_at","_law_reign","_law_begin","_law_length","_law_low","_law_high"] ["_law_number","_law_frame_here","_law_letter","_law_year"] (aO ag3):=W4
def kA:bB ["_law_number","_law_frame_here","_law_letters","_law_gap","_law_names_here","_law_rest","_law_many","_law_low","_law_high","_law_letter"] ["_law_number","_law_frame_here","_law_letters","_law_gap"] (aO av3):=W4
def fJ:bB ["_law_cells","_law_frame_here","_law_false","_law_hidden_here","_law_many","_law_span","_law_told","_law_cell_here","_law_xs","_law_one","_law_years","_law_other","_law_k"] ["_law_cells","_law_frame_here","_law_false","_law_hidden_here"] (aO ar2):=W4
def bk9:bB ["some"] ["some"] (aO aq7):=W4
def av6:bB ["some","low","high"] ["some","low","high"] (aO yT):=W4
def bt6:bB ["first","present"] ["first","present"] (aO ao5):=W4
def ap2:bB ["word","signs","most","sign"] ["word","signs","most"] (aO ab3):=W4
def ck4:bB ["word"] ["word"] (aO bd3):=W4
def aj3:bB ["names","least","most","name"] ["names","least","most"] (aO ap5):=W4
def zG:bB ["some","dark","age"] ["some"] (aO aw8):=W4
def pZ:bB ["inks","name","table"] ["inks"] (aO af9):=W4
def bl9:bB ["begin","length"] ["begin","length"] (aO ac8):=W4
def kD:bB ["reigns","name","begin","length"] ["reigns"] (aO ar3):=W4
def jV:bB ["self","first","present","letters","inks","reigns","name","table","begin","length"] ["self","first","present","letters","inks","reigns"] (aO mL):=W4
def pI:bB ["_law_frame_here","_law_inks","_law_name","_law_table"] ["_law_frame_here"] (aO ay2):=W4
def ax3:bB ["archive","due","part","ink","reign"] ["archive","due","part"] (aO bl6):=W4
def aj1:bB ["archive","word","parts","due","part"] ["archive","word","parts"] (aO bz2):=W4
def rH:bB ["self","name","other","table"] ["self","name"] (aO lK):=W4
def sW:bB ["table","dark","error","greatest","last","ages","most","age"] ["table","dark","error","greatest"] (aO bu2):=W4
def bn3:bB ["parts","part"] ["parts"] (aO bc7):=W4
def eU:bB ["self","archive","word","parts","low","high","names","part","due","name"] ["self","archive","word","parts","low","high"] (aO fG):=W4
def aw2:bB ["archive","parts","ages"] ["archive","parts"] (aO ag4):=W4
def yL:bB ["archive","name","reign"] ["archive","name"] (aO av0):=W4
def bv3:bB ["begin","length","k"] ["begin","length","k"] (aO ay3):=W4
def sX:bB ["archive","parts","reign","year"] ["archive","parts"] (aO as0):=W4
def yI:bB ["archive","parts","reign"] ["archive","parts"] (aO ax0):=W4
def af5:bB ["archive","parts"] ["archive","parts"] (aO xQ):=W4
def ah8:bB ["archive","parts"] ["archive","parts"] (aO zZ):=W4
def bl0:bB ["archive","parts"] ["archive","parts"] (aO as2):=W4
def an6:bB ["archive","parts"] ["archive","parts"] (aO yX):=W4
def ap8:bB ["archive","parts"] ["archive","parts"] (aO af0):=W4
def bt7:bB ["archive","word","parts"] ["archive","word","parts"] (aO aq5):=W4
def qB:bB ["_law_archive_here","_law_told","_law_word","_law_parts","_law_letters","_law_bounds"] ["_law_archive_here","_law_told"] (aO ah7):=W4
def jP:bB ["_law_frame_here","_law_told","_law_found","_law_k","_law_letters","_law_low","_law_high","_law_other","_law_letter"] ["_law_frame_here","_law_told"] (aO as5):=W4
def gX:bB ["self"] ["self"] (aO eR):=W4
def gI:bB ["self"] ["self"] (aO eD):=W4
def lF:bB ["saying","number","letters","bounds","other","steps"] ["saying","number"] (aO am0):=W4
def bc4:bB ["archive","letter"] ["archive","letter"] (aO ak3):=W4
def qH:bB ["archive","sayings","steps","number","saying","letter"] ["archive","sayings"] (aO aj7):=W4
def xV:bB ["archive","sayings","numbers","step"] ["archive","sayings","numbers"] (aO yU):=W4
def bp9:bB ["end","ground"] ["end","ground"] (aO af8):=W4
def ar8:bB ["step","years","ground"] ["step","years"] (aO bc3):=W4
def mI:bB ["steps","years","raisers","ground","raised","step"] ["steps","years","raisers"] (aO au2):=W4
def jE:bB ["raisers","place","ground","turn","ring","end"] ["raisers","place"] (aO aq2):=W4
def kB:bB ["archive","steps","ground","years","raisers","raised","turn"] ["archive","steps"] (aO ae4):=W4
def kS:bB ["tuples","many","longer","numbers","least","number"] ["tuples","many"] (aO yM):=W4
def gU:bB ["archive","sayings","rings","tuples","size","found","numbers","told"] ["archive","sayings"] (aO aa0):=W4
def nG:bB ["_law_many","_law_size","_law_found","_law_one","_law_other"] ["_law_many","_law_size"] (aO al3):=W4
def al0:bB ["_law_steps_here","_law_numbers","_law_step"] ["_law_steps_here","_law_numbers"] (aO am2):=W4
def by6:bB ["_law_found"] ["_law_found"] (aO an5):=W4
def au0:bB ["_law_step","_law_steps_here","_law_end"] ["_law_step","_law_steps_here"] (aO ao2):=W4
def lO:bB ["_law_chain","_law_steps_here","_law_start","_law_end","_law_here","_law_step"] ["_law_chain","_law_steps_here","_law_start","_law_end"] (aO ag0):=W4
def mG:bB ["_law_ring","_law_steps_here","_law_starts","_law_step","_law_k"] ["_law_ring","_law_steps_here"] (aO at2):=W4
def xP:bB ["_law_rings_here","_law_due","_law_steps_here","_law_told","_law_numbers"] ["_law_rings_here","_law_due","_law_steps_here"] (aO ax5):=W4
def iY:bB ["_law_years","_law_steps_here","_law_start","_law_end","_law_cost","_law_number","_law_here","_law_there"] ["_law_years","_law_steps_here"] (aO ab6):=W4
def xG:bB ["_law_years","_law_many","_law_steps_here","_law_year"] ["_law_years","_law_many","_law_steps_here"] (aO yB):=W4
def fW:bB ["_law_steps_here","_law_many","_law_years","_law_turn","_law_changed","_law_one","_law_other","_law_cost","_law_number","_law_here","_law_there"] ["_law_steps_here","_law_many"] (aO aa4):=W4
def jO:bB ["_law_found","_law_steps_here","_law_letters","_law_many","_law_due","_law_less","_law_ahead","_law_number","_law_some"] ["_law_found","_law_steps_here","_law_letters","_law_many"] (aO az5):=W4
def jR:bB ["_law_script","_law_frame_here","_law_most","_law_hidden_here","_law_told","_law_archive_here","_law_sayings_here","_law_steps_here","_law_found","_law_numbers","_law_ring","_law_word","_law_again"] ["_law_script"] (aO wP):=W4
variable{P:F9}{w:World}{K:A1}{cn:Str->Option Addr}{mg:Str->Option Value}{base:Heap}{c_Archive c_Ink c_Reign c_Under c_Between c_After c_Same c_Within c_Apart:Addr}{sH wZ jF:List (Str × Value)}(T:Txt w K cn mg c_Archive c_Ink c_Reign c_Under c_Between c_After c_Same c_Within c_Apart sH wZ jF)
include T
def dc1:lP K cn ["Archive"] "first":=bM T.mZ T.pV T.ab7 (kJ)
def dz8:lP K cn ["Ink","Reign","Under","Between","After","Same","Within","Apart"] "high":=bM T.yA T.ab1 T.cn0 (bM T.rL T.uI T.bz4 (bM T.rN T.uG T.bk4 (bM T.nC T.pU T.ak9 (bM T.rM T.uK T.ba5 (bM T.uH T.wY T.bj9 (bM T.oW T.sI T.bb2 (bM T.rO T.uJ T.bn4 (kJ))))))))
def dz7:lP K cn ["Archive"] "inks":=bM T.mZ T.pV T.az9 (kJ)
def ce4:lP K cn ["Archive"] "letters":=bM T.mZ T.pV T.as4 (kJ)
def ej3:lP K cn ["Ink","Reign","Under","Between","After","Same","Within","Apart"] "low":=bM T.yA T.ab1 T.cd5 (bM T.rL T.uI T.bf9 (bM T.rN T.uG T.bg9 (bM T.nC T.pU T.bj2 (bM T.rM T.uK T.by8 (bM T.uH T.wY T.ci0 (bM T.oW T.sI T.bp4 (bM T.rO T.uJ T.bu8 (kJ))))))))
def cj2:lP K cn ["Archive"] "present":=bM T.mZ T.pV T.ar4 (kJ)
def cy7:lP K cn ["Archive"] "reigns":=bM T.mZ T.pV T.ah5 (kJ)
def cx6:lP K cn ["Ink","Reign","Under","Between","After","Same","Within","Apart"] "spoken":=bM T.yA T.ab1 T.by4 (bM T.rL T.uI T.aq9 (bM T.rN T.uG T.as9 (bM T.nC T.pU T.aj5 (bM T.rM T.uK T.aj9 (bM T.uH T.wY T.bx1 (bM T.oW T.sI T.ad7 (bM T.rO T.uJ T.bc0 (kJ))))))))
def dm6:lP K cn ["Ink","Reign","Under","Between","After","Same","Within","Apart"] "text":=bM T.yA T.ab1 T.cl0 (bM T.rL T.uI T.bv4 (bM T.rN T.uG T.bd5 (bM T.nC T.pU T.am9 (bM T.rM T.uK T.be5 (bM T.uH T.wY T.ba9 (bM T.oW T.sI T.bz1 (bM T.rO T.uJ T.bt4 (kJ))))))))
def dn3:au6 K cn 2 tm_table [(c_Archive,bR K cn 2 gS)]:=fM T.mZ (ao6)
def dv1:au6 K cn 1 tm_about [(c_Ink,bR K cn 1 bF),(c_Reign,bR K cn 1 bF),(c_Under,bR K cn 1 bF),(c_Between,bR K cn 1 bF),(c_After,bR K cn 1 bF),(c_Same,bR K cn 1 bF),(c_Within,bR K cn 1 bF),(c_Apart,bR K cn 1 bF)]:=fM T.yA (fM T.rL (fM T.rN (fM T.nC (fM T.rM (fM T.uH (fM T.oW (fM T.rO (ao6))))))))
def cp8:au6 K cn 1 tm_bounds [(c_Ink,bR K cn 1 bD),(c_Reign,bR K cn 1 bD),(c_Under,bR K cn 1 bD),(c_Between,bR K cn 1 bD),(c_After,bR K cn 1 bD),(c_Same,bR K cn 1 bD),(c_Within,bR K cn 1 bD),(c_Apart,bR K cn 1 bD)]:=fM T.yA (fM T.rL (fM T.rN (fM T.nC (fM T.rM (fM T.uH (fM T.oW (fM T.rO (ao6))))))))
local macro_rules | `(tactic| walk_at "b") => `(tactic| first | exact .inl rfl | exact .inr rfl)
local macro_rules|`(tactic|walk_at "ro")=>do let l←YQ "dt5/ eg9/ ej6/ et3/ fl0/ fx0/ ep7/ fd0/ eh8/ dp6/ eu9/ ex7/ fr0/ es9/ ex9/ ep4/ em6/ ep3/";`(tactic|first $[|$l]*)
local macro_rules|`(tactic|walk_at "rc")=>do let l←YQ "et8/ ed1/ en7/ en8/ ef6/ ef4/ eo8/ da0/ dw0/ ec1/ eb7/ ee8/";`(tactic|first $[|$l]*)
local macro_rules|`(tactic|walk_at "rf")=>do let l←YQ "dc1/9 dz8/9 dz7/9 ce4/9 ej3/9 cj2/9 cy7/9 cx6/9 dm6/9";`(tactic|first $[|$l]*)
local macro_rules|`(tactic|walk_at "q")=>do let l←YQ "ew0/ dl8/ eu7/rr ed3/fr dh2/rr ew7/orr ez7/@rruu ex1/ ei3/ RB.chk/r ek3/rr cn3/rrrruu eh2/r eg8/cr ee2/r ek9/rrr dg7/ dn9/ ep1/ es4/ eo7/ eb6/ ce1/r eo3/r eq0/r ey3/rr em8/rr eb4/@r en1/@r em0/@r dm9/ ev4/@rru dj3/rr dz5/r fh0/r fq0/r dc7/r dq7/r em3/r ey6/rr ed0/rru ez2/nrru eg4/frr eu3/rrr cn1/rrrru dy5/ dn6/r co9/oorrr dl6/rr dt6/r ed7/rrr RE.frz/r RE.frz1/r df3/nrr dg9/nr df8/nr dc8/nr di7/r db0/rr";`(tactic|first $[|$l]*)
local macro_rules|`(tactic|walk_at "rn")=>do let l←YQ "ev8/ ek6/ dv1/9 cp8/9 dn3/9 Txt.rM/9 Txt.rO/9 Txt.mZ/9 Txt.nC/9 Txt.yA/9 Txt.rL/9 Txt.uH/9 Txt.rN/9 Txt.oW/9 Txt.g_NUMBERS/9 Txt.g_PARTS/9";`(tactic|first $[|$l]*)
local macro_rules|`(tactic|walk_at "ru")=>`(tactic|with_unfolding_all exact rfl)
local macro_rules|`(tactic|walk_at "r")=>`(tactic|with_reducible first
 |walk_at "q"
 |exact eo2 _
 |(refine RE.rb (mv := []) ?_; walk_at "r")
 |(apply ct6 <;> walk_at "r")
 |(refine cf2 _ ?_; with_unfolding_all exact rfl)
 |exact ev7 _
 |exact dg6 _ _
 |(refine RS.frz _ ?_; walk_at "r")
 |(refine RE.fzS _ ?_; walk_at "r")
 |exact ca6 W1 W1 W1 rfl rfl
 |(apply ed4 <;> walk_at "r")
 |exact eh4 _
 |(refine er6 fk0 ?_ ?_ ?_ <;> walk_at "r")
 |(refine ee6 ec7 ?_; walk_at "r")
 |(refine dn4 ck8 de6 ?_ ?_ <;> walk_at "r")
 |(refine dn4 ck6 ei1 ?_ ?_ <;> walk_at "r")
 |(with_unfolding_all refine ce1 ?_; walk_at "r")
 |(refine dm3 W1 W1 W1 ?_ ?_ ?_ <;> with_unfolding_all exact rfl))
def sM:dQ P w K mg base 1 "_law_cell" ["_law_script","_law_at"] (bR K cn 2 fT):=by
 refine bH (d:=wN) T.cb5 bx9 W2 (λf cdv A outer s H E hr=>⟨_,(aJ (bP (pc wR Ac7 (aR (bL K) rfl T.cX cJ (aL Ac6))) (aK (aV (px K Ac6 Ac7))) bG)
 (aK (aV aG))),by unfold wN;walk_at "r"⟩) rfl (λ_=>rfl)
def by9:dQ P w K mg base 1 "_law_names" ["_law_cell_here"] (bR K cn 1 uZ):=by
 refine bH (d:=uN) T.ch0 ah3 W2 (λf cdv A outer s H E hr=>⟨_,(aJ (pz 1 ah3 (cT (aF bV (aF bV (aF bV (aF bV (aF bV (aF bV (aF bV (aL bV))))))))))
 (aK (aV (aN (bI K) (kT (xE K) Ac7 (kP (aN bX Ac6 aG)) pA) (kT (xE K) Ac7 pA (kP (aN bX Ac6 aG))))))),by unfold uN;walk_at "r"⟩) rfl (λ_=>rfl)
def iC:dQ P w K mg base 1 "_law_whirl" ["_law_number","_law_k"] (bR K cn 2 fK):=by
 refine bH (d:=uY) T.cc0 oI W2 (λf cdv A outer s H E hr=>⟨_,(aJ (pz 0 oI (aN (bI K) (aN (bI K) (aN bX Ac6 aG) (aN nQ aG Ac7)) aG))
 (aJ (ap0 (aR (br6 K) rfl T.dd4 cp6 (aF (aN bX (aN nQ Ac6 aG) aG) (aL aG))) (fZ K 2 rfl (bK (pn 2 oI) (bK (pn 3 oI) fY))))
 (aJ (pz 4 oI (aN (bI K) (aN (bI K) (aN (bI K) (aN nQ Ac8 Ac9) (aN nQ aG Ac8)) (aN nQ aG Ac9)) Ac7))
 (aK (aV (aN bX (aN nQ Ad0 (aN (bI K) (aN bX Ad0 aG) aG)) aG)))))),by unfold uY;walk_at "r"⟩) rfl (λ_=>rfl)
def bq9:dQ P w K mg base 2 "_law_frame" ["_law_script","_law_most"] (bR K cn 2 qD):=by
 refine bH (d:=uP) T.ce0 eF W2 (λf cdv A outer s H E hr=>⟨_,(aJ (pz 2 eF (aN bX (pf (sM T:) hr (aF Ac6 (aL aG))) (aN bz7 aG aG)))
 (aJ (pz 3 eF (px K (cT (aF aG (aF aG (aF aG (aF aG (aF aG (aF aG (aF aG (aL aG))))))))) (aN bX Ac8 aG)))
 (aJ (pz 4 eF (px K (cT (aF (qL nE aG) (aF (aN cQ aG Ac9) (aF (qL nE aG) (aL aG))))) (aN bX (aN gP Ac8 aG) aG)))
 (aJ (pz 5 eF (kT (xE K) (pf (by9 T:) hr (aL (aN gP Ac8 aG))) pA (kP (aN (bI K) aG (aN bX (aN gP Ac8 aG) Ac7)))))
 (aJ (pz 6 eF (cT kH))
 (aJ (fI E3 rfl (fQ rfl T.gC (aL (aN (bI K) aG (aN bX (pf (iC T:) hr (aF Ac8 (aL aG))) aG)))) (pn 7 eF) (aJ (pz 8 eF (aN (bI K) aG (aN bX (aN gP Ac8 aG) aG)))
 (aJ (pz 9 eF (cT (aL Ad4)))
 (aJ (fI E3 rfl (fQ rfl T.gC (aL (aN bX (pf (iC T:) hr (aF Ac8 (aL Ad3))) (px K (cT (aF aG (aL aG))) (aN gP (aN bX (aN gP Ac8 aG) aG) aG))))) (pn 10 eF) (aJ (pz 8 eF (aR (vP K) rfl T.al9 aq3 (aF aG (aL (aN cQ Ad4 (aN bX (pf (iC T:) hr (aF Ac8 (aL (aN (bI K) (aN nQ aG Ad6) Ad3)))) aG))))))
 (aK (dU (rX K Ad5 (aL Ad4))))))
 (aK (dU (rX K Ad2 (aL (bT (aF (px K (cT (aF bV (aF bV (aF bV (aF bV (aF bV (aL bV))))))) Ad3) (aL Ad5)))))))))))
 (aJ (pz 11 eF (aN (bI K) (aN cQ Ad0 aG) (aN bX (pf (iC T:) hr (aF Ac8 (aL aG))) (aN (bI K) Ac9 aG))))
 (aJ (pz 12 eF (cT (aF (bT (aF bV (aF Ad7 (aL (aN (bI K) aG (aN bX (pf (iC T:) hr (aF Ac8 (aL aG))) aG)))))) (aL (bT (aF bV (aF (aN (bI K) Ad7 aG) (aL (aN (bI K) aG (aN bX (pf (iC T:) hr (aF Ac8 (aL aG))) aG))))))))))
 (aJ (fI E3 rfl (fQ rfl T.gC (aL (aN bX (pf (iC T:) hr (aF Ac8 (aL aG))) aG))) (pn 7 eF) (aJ (pz 11 eF (aN cQ (aN (bI K) Ad7 (aN bX (pf (iC T:) hr (aF Ac8 (aL (aN (bI K) aG Ad3)))) aG)) aG))
 (aK (dU (tT K J8 PySem.F.slot_list_insert PySem.F.type_list_insert ce5 Ad8 (aF aG (aL (bT (aF (px K (cT (aF bV (aF bV (aF bV (aF bV (aF bV (aL bV))))))) Ad3) (aF Ad7 (aL (aN (bI K) aG (aN bX (pf (iC T:) hr (aF Ac8 (aL (aN (bI K) aG Ad3)))) aG)))))))))))))
 (aK (aV (bT (aF Ad0 (aF (aN (bI K) Ad0 Ac9) (aF Ad1 (aF Ad2 (aL Ad8))))))))))))))))),by unfold uP;walk_at "r"⟩) rfl (λ_=>rfl)
def br2:dQ P w K mg base 2 "_law_row" ["_law_cell_here","_law_many"] (bR K cn 2 rY):=by
 refine bH (d:=yE) T.cd9 sY W2 (λf cdv A outer s H E hr=>⟨_,(aJ (pz 2 sY (aN bX (aR (ak4 K) rfl T.cy4 bs7 (aL Ac6)) (aN bz7 aG aG)))
 (aJ (pz 3 sY (cT kH))
 (aJ (fI E3 rfl (fQ rfl T.gC (aL Ac7)) (pn 4 sY) (aK (bP (PW.pt (jW (pc wR Ac6 aG) (lI (pc dx4 Ac6 (aN bz7 aG aG))))) (aJ (dU (rX K Ac9 (aL (aN bX Ac8 aG))))
 (aK (pz 2 sY (aN gP Ac8 aG)))) (aK (dU (rX K Ac9 (aL (pf (iC T:) hr (aF (aN (bI K) (pf (iC T:) hr (aF Ac6 (aL Ad0))) Ac6) (aL Ad0))))))))))
 (aK (aV Ac9))))),by unfold yE;walk_at "r"⟩) rfl (λ_=>rfl)
def bp8:dQ P w K mg base 3 "_law_hidden" ["_law_cell_here","_law_frame_here"] (bR K cn 2 oQ):=by refine bH (d:=tU) T.bc9 ax2 W2 (λf cdv A outer s H E hr=>⟨_,(aK (aV (pm [2] (fL K (pf (br2 T:) hr (aF Ac6 (aL (aR (bL K) rfl T.cX cJ (aL (px K Ac7 aG))))))) (λ_ _ _ _ _=>(pn 2 ax2)) (λ_ _ _ _ _=>cZ) (λ_ _ _ _ _=>(aN (bI K) (px K Ac7 aG) (aN bX Ac8 (aN (bI K) (aN cQ (px K Ac7 aG) (px K Ac7 aG)) aG))))))),by unfold tU;walk_at "r"⟩) rfl (λ_=>rfl)
def ca4:dQ P w K mg base 1 "_law_free" ["_law_xs","_law_frame_here","_law_one","_law_other"] (bR K cn 4 sU):=by
 refine bH (d:=wF) T.ct4 nJ W2 (λf cdv A outer s H E hr=>⟨_,(aJ (pz 4 nJ (cT (aF (px K (px K Ac7 aG) Ac8) (aL (px K (px K Ac7 aG) Ac9)))))
 (aJ (bP (PW.pt (jW (pc (oe K hr) Ac8 Ac9) (lI (pc (oe K hr) (aN bX (px K Ac6 aG) aG) aG)))) (aJ (pz 5 nJ (aN (bI K) (aN cQ (px K Ac7 aG) aG) (aN bX (px K Ac6 aG) (aN (bI K) (aN cQ (px K Ac7 aG) (px K Ac7 aG)) aG))))
 (aJ (pz 6 nJ (aN (bI K) Ad1 (aN bX (px K Ac6 aG) aG)))
 (aK (aV (bT (aF bV (aF (aN (bI K) (kT (xE K) Ad0 pA (kP aG)) (cT (aF Ad1 (aL Ad2)))) (aF (bT (aL Ac8)) (aL (bT (aF Ad1 (aL Ad2)))))))))))) bG)
 (aJ (pz 5 nJ (aN cQ (aN bX (px K Ac6 aG) aG) aG))
 (aJ (pz 6 nJ (aR (oT K) rfl T.ak2 xA (aF aG (aL (aN (bI K) Ad1 (aN bX (px K Ac6 aG) aG))))))
 (aK (aV (bT (aF bV (aF (aN (bI K) Ad0 (cT (aF Ad1 (aL Ad2)))) (aF (bT (aF Ac8 (aL Ac9))) (aL (bT (aF Ad1 (aL Ad2)))))))))))))),by unfold wF;walk_at "r"⟩) rfl (λ_=>rfl)
def bd7:dQ P w K mg base 1 "_law_of_one" ["_law_number","_law_frame_here","_law_letter","_law_year"] (bR K cn 4 oV):=by
 refine bH (d:=tE) T.bs8 dD W2 (λf cdv A outer s H E hr=>⟨_,(aJ (pz 4 dD (px K (px K Ac7 aG) Ac8))
 (aJ (pz 5 dD (aN gP Ac6 aG))
 (aJ (bP (pc (oe K hr) (aN bX Ac6 aG) aG) (aJ (ap0 (px K (px K Ac7 aG) (aN bX Ad1 (aR (bL K) rfl T.cX cJ (aL (px K Ac7 aG))))) (fZ K 2 rfl (bK (pn 6 dD) (bK (pn 7 dD) fY))))
 (aJ (pz 8 dD (aN bX (aN gP Ad1 aG) aG))
 (aJ (pz 9 dD (px K Ad3 (aR (oT K) rfl T.ak2 xA (aF (aN cQ (px K Ac7 aG) Ac9) (aL (aN cQ (aR (bL K) rfl T.cX cJ (aL Ad3)) aG))))))
 (aJ (pz 9 dD (aR (vP K) rfl T.al9 aq3 (aF aG (aL (aN cQ (aN (bI K) Ad5 (aN bX (aN gP Ad1 aG) (aN (bI K) (aN nQ aG Ad4) aG))) Ad4)))))
 (aJ (pz 10 dD (cT kH))
 (aJ (fI E3 rfl (fQ rfl T.gC (aL (aN (bI K) (aN cQ (px K Ac7 aG) (px K Ac7 aG)) aG))) (pn 11 dD) (aK (bP (pc mT (aR (ak4 K) rfl T.cy4 bs7 (aL (aN cQ (px K Ad3 (aR (oT K) rfl T.ak2 xA (aF Ad7 (aL (aN cQ (aR (bL K) rfl T.cX cJ (aL Ad3)) aG))))) Ad5))) Ad4) (aK (dU (rX K Ad6 (aL Ad7)))) bG)))
 (aK (aV (bT (aF bV (aF (cT (aF Ad0 (aF Ad2 (aF Ad5 (aL Ad4))))) (aF (bT (aL Ac8)) (aL (bT (aF (aN cQ (px K Ac7 aG) (px K Ad6 (qL nE aG))) (aL (aN cQ (px K Ac7 aG) (px K Ad6 aG)))))))))))))))))) bG)
 (aJ (pz 12 dD (aN bX (aN gP Ad1 aG) (aR (bL K) rfl T.cX cJ (aL (px K Ac7 aG)))))
 (aJ (fI E3 rfl (fL K (aN (bI K) (kT (xE K) (px K Ac7 aG) (kP Ad8) pA) (kT (xE K) (px K Ac7 aG) pA (kP Ad8)))) (fZ K 3 rfl (bK (pn 13 dD) (bK (pn 14 dD) (bK (pn 15 dD) fY)))) (aK (bP (PW.pt (oU (pc (oe K hr) (aN bX Ac6 aG) aG) (mJ (as1 mT wR (pv 14) Ac9 (aN (bI K) (pv 14) (pv 15)))))) (aJ (bP (pc (oe K hr) (aN bX Ad1 aG) aG) (aK (aV (bT (aF bV (aF (cT (aF Ad0 (aF (pv 13) (aL (aN (bI K) (aN cQ Ac9 (pv 14)) aG))))) (aF (bT (aL Ac8)) (aL (bT (aF Ac9 (aL Ac9)))))))))) bG)
 (aK (aV (bT (aF bV (aF (cT (aF Ad0 (aL (pv 13)))) (aF (bT (aL Ac8)) (aL (bT (aF (pv 14) (aL (aN cQ (aN (bI K) (pv 14) (pv 15)) aG)))))))))))) bG)))
 (aJ (pz 16 dD (aR (vP K) rfl T.al9 aq3 (aF (qL nE aG) (aL (aN cQ Ac9 (aN bX Ad1 aG))))))
 (aJ (pz 17 dD (aR (oT K) rfl T.ak2 xA (aF aG (aL (aN (bI K) Ac9 (aN bX (aN gP Ad1 aG) aG))))))
 (aK (aV (bT (aF bV (aF (cT (aF Ad0 (aF (pv 16) (aL (pv 17))))) (aF (bT (aL Ac8)) (aL (bT (aF (pv 16) (aL (pv 17)))))))))))))))))),by unfold tE;walk_at "r"⟩) rfl (λ_=>rfl)
def bk6:dQ P w K mg base 1 "_law_of_two" ["_law_number","_law_frame_here","_law_letters","_law_gap"] (bR K cn 4 oN):=by
 refine bH (d:=sT) T.bd9 kA W2 (λf cdv A outer s H E hr=>⟨_,(aJ (pk 4 kA [9] (fL K Ac8) (λ_ _ _ _ _=>(pn 9 kA)) (λ_ _ _ _ _=>cZ) (λ_ _ _ _ _=>(px K (px K Ac7 aG) Ad5)))
 (aJ (pz 5 kA (aN gP Ac6 aG))
 (aJ (bP (PW.pt (oU (pc (oe K hr) Ac9 aG) (mJ (pc (oe K hr) (aN bX Ac6 aG) aG)))) (aK (aV (bT (aF bV (aF Ad0 (aF Ac8 (aL (bT (aF aG (aL aG)))))))))) bG)
 (aJ (bP (PW.pt (oU (pc yG Ac9 aG) (mJ (pc wR (aN bX Ac6 aG) aG)))) (aK (aV (bT (aF bV (aF Ad0 (aF Ac8 (aL (bT (aF aG (aL dH)))))))))) bG)
 (aJ (bP (PW.pt (oU (pc dx4 Ac9 aG) (mJ (pc (oe K hr) (aN bX Ac6 aG) aG)))) (aJ (pz 6 kA (aR (oT K) rfl T.ak2 xA (aF aG (aL (aN (bI K) Ac9 (aN bX Ad1 aG))))))
 (aK (aV (bT (aF bV (aF (aN (bI K) Ad0 (cT (aL Ad2))) (aF Ac8 (aL (bT (aF aG (aL Ad2))))))))))) bG)
 (aJ (pz 7 kA (aR (vP K) rfl T.al9 aq3 (aF (qL nE aG) (aL (aN cQ Ac9 (aN bX Ad1 aG))))))
 (aJ (pz 8 kA (aR (oT K) rfl T.ak2 xA (aF aG (aL (aN (bI K) Ac9 (aN bX (aN gP Ad1 aG) aG))))))
 (aK (aV (bT (aF bV (aF (aN (bI K) Ad0 (cT (aF Ad3 (aL Ad4)))) (aF Ac8 (aL (bT (aF Ad3 (aL Ad4))))))))))))))))),by unfold sT;walk_at "r"⟩) rfl (λ_=>rfl)
def by3:dQ P w K mg base 3 "_law_sayings" ["_law_cells","_law_frame_here","_law_false","_law_hidden_here"] (bR K cn 4 nI):=by
 refine bH (d:=qW) T.bo4 fJ W2 (λf cdv A outer s H E hr=>⟨_,(aJ (pz 4 fJ (aR (bL K) rfl T.cX cJ (aL (px K Ac7 aG))))
 (aJ (pz 5 fJ (aN cQ (px K Ac7 aG) (px K Ac7 aG)))
 (aJ (pz 6 fJ (cT kH))
 (aJ (fI E3 rfl (fL K Ac6) (pn 7 fJ) (aJ (pz 8 fJ (pf (br2 T:) hr (aF Ad3 (aL aG))))
 (aJ (pz 9 fJ (aN bX (px K Ad4 aG) Ad0))
 (aJ (pz 10 fJ (jS (jN K) rfl T.lU jZ (aL Ac9)))
 (aJ (bP (PW.pt (oU (bW K Ac8 (λ_=>rfl)) (mJ (pc (oe K hr) (aN bX (px K Ad4 aG) aG) aG)))) (aK (pk 10 fJ [12] (fQ rfl T.gC (aL Ad0)) (λ_ _ _ _ _=>(pn 12 fJ)) (λ_ _ _ _ _=>cZ) (λ_ _ _ _ _=>(aN (bI K) (px K Ac7 aG) (aN bX (aN (bI K) (px K Ad4 aG) (aN nQ (aN nQ aG (px K Ad4 aG)) Ad8)) (aN (bI K) Ad1 aG)))))) bG)
 (aJ (pz 11 fJ (aN bX (aN (bI K) (aN (bI K) Ad5 aG) (aN bX (aN gP (px K Ad4 aG) aG) (aR (vP K) rfl T.al9 aq3 (aF aG (aL (aN cQ Ad0 aG)))))) Ad0))
 (aK (bP (PW.pt (oU (bW K Ac8 (λ_=>rfl)) (mJ (pc (oe K hr) (aN bX (px K Ad4 aG) aG) aG)))) (aK (dU (rX K Ad2 (aL (pf (ca4 T:) hr (aF Ad4 (aF Ac7 (aF Ad5 (aL Ad7))))))))) (aK (bP (PW.pt (jW (pc (oe K hr) Ad0 aG) (lI (pc wR (aN bX (px K Ad4 aG) aG) aG)))) (aK (dU (rX K Ad2 (aL (pf (bd7 T:) hr (aF (px K Ad4 aG) (aF Ac7 (aF Ad5 (aL (px K Ad6 Ad5)))))))))) (aK (dU (rX K Ad2 (aL (pf (bk6 T:) hr (aF (px K Ad4 aG) (aF Ac7 (aF (bT (aF Ad5 (aL Ad7))) (aL (aN cQ (px K Ad6 Ad5) (px K Ad6 Ad7)))))))))))))))))))))
 (aK (aV Ad2)))))),by unfold qW;walk_at "r"⟩) rfl (λ_=>rfl)
def cb4:dQ P w K mg base 1 "is_whole" ["some"] (bR K cn 1 wI):=by refine bH (d:=wK) T.cw4 bk9 W2 (λf cdv A outer s H E hr=>⟨_,(aK (aV (xX (aR (iZ K) rfl T.fX fH (aF Ac6 (aL (qS T.dw5 co8)))) (xC (br5 (aR (iZ K) rfl T.fX fH (aF Ac6 (aL (qS T.ce9 cc2))))))))),by unfold wK;walk_at "r"⟩) rfl (λ_=>rfl)
def iU:dQ P w K mg base 2 "is_whole_from" ["some","low","high"] (bR K cn 3 eC):=by refine bH (d:=oC) T.at9 av6 W2 (λf cdv A outer s H E hr=>⟨_,(aK (aV (xX (pf (cb4 T:) hr (aL Ac6)) (xC (al6 mT mT Ac7 Ac6 Ac8))))),by unfold oC;walk_at "r"⟩) rfl (λ_=>rfl)
def bu9:dQ P w K mg base 3 "are_years" ["first","present"] (bR K cn 2 uX):=by
 refine bH (d:=uU) T.cp0 bt6 W2 (λf cdv A outer s H E hr=>⟨_,(aJ (bP (dE (bW K (pf (iU T:) hr (aF Ac6 (aF (qL nE (kI T.g_FARTHEST_END)) (aL (kI T.g_FARTHEST_END))))) (λ_=>rfl))) (aK (aV fE)) bG)
 (aJ (bP (dE (bW K (pf (iU T:) hr (aF Ac7 (aF (qL nE (kI T.g_FARTHEST_END)) (aL (kI T.g_FARTHEST_END))))) (λ_=>rfl))) (aK (aV fE)) bG)
 (aK (aV (al6 mT mT aG (aN cQ Ac7 Ac6) (kI T.g_LONGEST_SPAN)))))),by unfold uU;walk_at "r"⟩) rfl (λ_=>rfl)
def bv6:dQ P w K mg base 1 "is_made_of" ["word","signs","most"] (bR K cn 3 sN):=by refine bH (d:=tD) T.bz8 ap2 W2 (λf cdv A outer s H E hr=>⟨_,(aK (aV (xX (al6 mT mT aG (aR (bL K) rfl T.cX cJ (aL Ac6)) Ac8) (xC (aR (jQ K) rfl T.tX oP (aL (pm [3] (fL K Ac6) (λ_ _ _ _ _=>(pn 3 ap2)) (λ_ _ _ _ _=>cZ) (λ_ _ _ _ _=>(kO (ac0 K (n:=cU) hr) Ac9 Ac7 W3))))))))),by unfold tD;walk_at "r"⟩) rfl (λ_=>rfl)
def cx7:dQ P w K mg base 2 "is_name" ["word"] (bR K cn 1 vF):=by refine bH (d:=yP) T.cy8 ck4 W2 (λf cdv A outer s H E hr=>⟨_,(aK (aV (pf (bv6 T:) hr (aF Ac6 (aF (kI T.g_LETTERS) (aL (kI T.g_MOST_LETTERS_words))))))),by unfold yP;walk_at "r"⟩) rfl (λ_=>rfl)
def zO:dQ P w K mg base 3 "are_names" ["names","least","most"] (bR K cn 3 nL):=by
 refine bH (d:=vE) T.cm0 aj3 W2 (λf cdv A outer s H E hr=>⟨_,(aJ (bP (dE (as1 mT mT Ac7 (aR (bL K) rfl T.cX cJ (aL Ac6)) Ac8)) (aK (aV fE)) bG)
 (aK (aV (xX (aR (jQ K) rfl T.tX oP (aL (pm [3] (fL K Ac6) (λ_ _ _ _ _=>(pn 3 aj3)) (λ_ _ _ _ _=>cZ) (λ_ _ _ _ _=>(pf (cx7 T:) hr (aL Ac9)))))) (xC (kO (oe K hr) (ci8 K T.cX T.en9 (aL Ac6)) (aR (bL K) rfl T.cX cJ (aL Ac6)) (vQ _))))))),by unfold vE;walk_at "r"⟩) rfl (λ_=>rfl)
def ch3:dQ P w K mg base 3 "is_table" ["some"] (bR K cn 1 sJ):=by
 refine bH (d:=wO) T.cs4 zG W2 (λf cdv A outer s H E hr=>⟨_,(aJ (bP (dE (as1 mT mT aG (aR (bL K) rfl T.cX cJ (aL Ac6)) (kI T.g_MOST_AGES))) (aK (aV fE)) bG)
 (aJ (bP (dE (bW K (aR (jQ K) rfl T.tX oP (aL (pm [1] (fL K Ac6) (λ_ _ _ _ _=>(pn 1 zG)) (λ_ _ _ _ _=>cZ) (λ_ _ _ _ _=>(pf (iU T:) hr (aF Ac7 (aF aG (aL (kI T.g_DARKEST))))))))) (λ_=>rfl))) (aK (aV fE)) bG)
 (aK (aV (aR (jQ K) rfl T.tX oP (aL (pm [2] (ao4 rfl T.gC (aF aG (aL (aR (bL K) rfl T.cX cJ (aL Ac6))))) (λ_ _ _ _ _=>(pn 2 zG)) (λ_ _ _ _ _=>cZ) (λ_ _ _ _ _=>(kO mT (px K Ac6 Ac8) (px K Ac6 (aN cQ Ac8 aG)) (vQ _)))))))))),by unfold wO;walk_at "r"⟩) rfl (λ_=>rfl)
def cp4:dQ P w K mg base 4 "are_inks" ["inks"] (bR K cn 1 wG):=by
 refine bH (d:=wH) T.cv4 pZ W2 (λf cdv A outer s H E hr=>⟨_,(aJ (bP (dE (bW K (pf (zO T:) hr (aF (pm [1,2] (fL K Ac6) (λ_ _ _ _ _=>(fZ K 2 rfl (bK (pn 1 pZ) (bK (pn 2 pZ) fY)))) (λ_ _ _ _ _=>cZ) (λ_ _ _ _ _=>Ac7)) (aF aG (aL (kI T.g_MOST_INKS))))) (λ_=>rfl))) (aK (aV fE)) bG)
 (aK (aV (aR (jQ K) rfl T.tX oP (aL (pm [1,2] (fL K Ac6) (λ_ _ _ _ _=>(fZ K 2 rfl (bK (pn 1 pZ) (bK (pn 2 pZ) fY)))) (λ_ _ _ _ _=>cZ) (λ_ _ _ _ _=>(pf (ch3 T:) hr (aL Ac8))))))))),by unfold wH;walk_at "r"⟩) rfl (λ_=>rfl)
def ct2:dQ P w K mg base 3 "is_reign" ["begin","length"] (bR K cn 2 tO):=by refine bH (d:=wA) T.cu4 bl9 W2 (λf cdv A outer s H E hr=>⟨_,(aK (aV (xX (pf (iU T:) hr (aF Ac6 (aF (qL nE (kI T.g_FARTHEST_YEAR)) (aL (kI T.g_FARTHEST_YEAR))))) (xC (pf (iU T:) hr (aF Ac7 (aF aG (aL (kI T.g_LONGEST_REIGN))))))))),by unfold wA;walk_at "r"⟩) rfl (λ_=>rfl)
def bi7:dQ P w K mg base 4 "are_reigns" ["reigns"] (bR K cn 1 tG):=by
 refine bH (d:=tM) T.bh9 kD W2 (λf cdv A outer s H E hr=>⟨_,(aJ (bP (dE (bW K (pf (zO T:) hr (aF (pm [1,2,3] (fL K Ac6) (λ_ _ _ _ _=>(fZ K 3 rfl (bK (pn 1 kD) (bK (pn 2 kD) (bK (pn 3 kD) fY))))) (λ_ _ _ _ _=>cZ) (λ_ _ _ _ _=>Ac7)) (aF aG (aL (kI T.g_MOST_REIGNS))))) (λ_=>rfl))) (aK (aV fE)) bG)
 (aK (aV (aR (jQ K) rfl T.tX oP (aL (pm [1,2,3] (fL K Ac6) (λ_ _ _ _ _=>(fZ K 3 rfl (bK (pn 1 kD) (bK (pn 2 kD) (bK (pn 3 kD) fY))))) (λ_ _ _ _ _=>cZ) (λ_ _ _ _ _=>(pf (ct2 T:) hr (aF Ac8 (aL Ac9)))))))))),by unfold tM;walk_at "r"⟩) rfl (λ_=>rfl)
def bq0(f y:Addr)(cdv:Value)(A:J5)(outer:List Env)(s:B7)(H:Hp)(E:XK)(hr:Room 4 (A.deeper (PyProof.Rows.envOfC "Archive.__init__" (aO mL) s.heap.objs.size f cdv))):
 ∃t,PSs (nU lH P w K mg base ["self","first","present","letters","inks","reigns","name","table","begin","length"] "Archive.__init__" (aO mL) f cdv A outer s H E).nox (eM mL) t/\RS [(0,.ref y)] K cn E t mH:=
 ⟨_,(aJ (bP (dE (bW K (pf (bu9 T:) hr (aF Ac7 (aL Ac8))) (λ_=>rfl))) (aK nO) bG)
 (aJ (bP (dE (bW K (pf (zO T:) hr (aF Ac9 (aF aG (aL (kI T.g_MOST_LETTERS_archives))))) (λ_=>rfl))) (aK nO) bG)
 (aJ (bP (dE (bW K (pf (cp4 T:) hr (aL Ad0)) (λ_=>rfl))) (aK nO) bG)
 (aJ (bP (dE (bW K (pf (bi7 T:) hr (aL Ad1)) (λ_=>rfl))) (aK nO) bG)
 (aJ (pJ K Ac6 Ac7)
 (aJ (pJ K Ac6 Ac8)
 (aJ (pJ K Ac6 (jS (jN K) rfl T.lU jZ (aL Ac9)))
 (aJ (pJ K Ac6 (pm [6,7] (fL K Ad0) (λ_ _ _ _ _=>(fZ K 2 rfl (bK (pn 6 jV) (bK (pn 7 jV) fY)))) (λ_ _ _ _ _=>cZ) (λ_ _ _ _ _=>(bT (aF Ad2 (aL (jS (jN K) rfl T.lU jZ (aL Ad3))))))))
 (aK (pJ K Ac6 (pm [6,8,9] (fL K Ad1) (λ_ _ _ _ _=>(fZ K 3 rfl (bK (pn 6 jV) (bK (pn 8 jV) (bK (pn 9 jV) fY))))) (λ_ _ _ _ _=>cZ) (λ_ _ _ _ _=>(bT (aF Ad2 (aF Ad4 (aL Ad5)))))))))))))))),by unfold mH;walk_at "r"⟩
def cb7:Mak P w K mg base 5 "Archive" c_Archive (spI K cn "Archive" 5 tV):=
 lJ (d:=mH) T.ca5 jV W2 (bq0 T) rfl (λ_=>rfl)
def be4:dQ P w K mg base 7 "_law_archive" ["_law_frame_here"] (bR K cn 1 nH):=by
 refine bH (d:=qQ) T.bw4 pI W2 (λf cdv A outer s H E hr=>⟨_,(aJ (pk 1 pI [2,3] (fL K (px K Ac6 aG)) (λ_ _ _ _ _=>(fZ K 2 rfl (bK (pn 2 pI) (bK (pn 3 pI) fY)))) (λ_ _ _ _ _=>cZ) (λ_ _ _ _ _=>(bT (aF Ac8 (aL (jS (jN K) rfl T.lU jZ (aL Ac9)))))))
 (aK (aV (sV (cb7 T:) (hr.mono W1) (aF (px K Ac6 aG) (aF (px K Ac6 aG) (aF (jS (jN K) rfl T.lU jZ (aL (px K Ac6 aG))) (aF Ac7 (aL (jS (jN K) rfl T.lU jZ (aL (px K Ac6 aG)))))))))))),by unfold qQ;walk_at "r"⟩) rfl (λ_=>rfl)
def dz3:dQ P w K mg base 3 "is_due" ["archive","due","part"] (bR K cn 3 iH):=by
 refine bH (d:=rE) T.de4 ax3 W2 (λf cdv A outer s H E hr=>⟨_,(aJ (bP (pc (oe K hr) Ac7 bV) (aK (aV (kO (ac0 K (n:=cU) hr) Ac8 (hU K Ac6) W3))) bG)
 (aJ (bP (pc (oe K hr) Ac7 bV) (aK (aV (kO (ac0 K (n:=cU) hr) Ac8 (pm [3] (fL K (hU K Ac6)) (λ_ _ _ _ _=>(pn 3 ax3)) (λ_ _ _ _ _=>cZ) (λ_ _ _ _ _=>(px K Ac9 aG))) W3))) bG)
 (aJ (bP (pc (oe K hr) Ac7 bV) (aK (aV (kO (ac0 K (n:=cU) hr) Ac8 (pm [4] (fL K (hU K Ac6)) (λ_ _ _ _ _=>(pn 4 ax3)) (λ_ _ _ _ _=>cZ) (λ_ _ _ _ _=>(px K Ad0 aG))) W3))) bG)
 (aK (aV (pf (iU T:) hr (aF Ac8 (aF (px K (wU T.d_NUMBERS Ac7) aG) (aL (px K (wU T.d_NUMBERS Ac7) aG)))))))))),by unfold rE;walk_at "r"⟩) rfl (λ_=>rfl)
def ci7:dQ P w K mg base 4 "are_due" ["archive","word","parts"] (bR K cn 3 vL):=by
 refine bH (d:=yO) T.ca9 aj1 W2 (λf cdv A outer s H E hr=>⟨_,(aJ (bP (PW.pt (jW (ek1 (cs8 T.d_PARTS Ac7) W3) (lI (pc (nF K (n:=cU) hr) (aR (bL K) rfl T.cX cJ (aL Ac8)) (aR (bL K) rfl T.cX cJ (aL (wU T.d_PARTS Ac7))))))) (aK (aV fE)) bG)
 (aK (aV (aR (jQ K) rfl T.tX oP (aL (pm [3,4] (bi0 K T.cr4 (aF (wU T.d_PARTS Ac7) (aL Ac8))) (λ_ _ _ _ _=>(fZ K 2 rfl (bK (pn 3 aj1) (bK (pn 4 aj1) fY)))) (λ_ _ _ _ _=>cZ) (λ_ _ _ _ _=>(pf (dz3 T:) hr (aF Ac6 (aF Ac9 (aL Ad0))))))))))),by unfold yO;walk_at "r"⟩) rfl (λ_=>rfl)
def an7(f:Addr)(cdv:Value)(A:J5)(outer:List Env)(s:B7)(H:Hp)(E:XK)(hr:Room 0 (A.deeper (PyProof.Rows.envOfC "Archive.table" (aO lK) s.heap.objs.size f cdv))):
 ∃t,PSs (nU lH P w K mg base ["self","name","other","table"] "Archive.table" (aO lK) f cdv A outer s H E).nox (eM lK) t/\RS [] K cn E t lE:=
 ⟨_,(aJ (fI E3 rfl (fL K (hU K Ac6)) (fZ K 2 rfl (bK (pn 2 rH) (bK (pn 3 rH) fY))) (aK (bP (pc (oe K hr) Ac8 Ac7) (aK (aV (jS (jN K) rfl T.lU jZ (aL Ac9)))) bG)))
 (aK (aV dH))),by unfold lE;walk_at "r"⟩
def ag8:mD P w K mg base 1 c_Archive "table" (bR K cn 2 gS):=
 fP (d:=lE) T.ac7 T.pV rH W2 (an7 T) rfl (λ_=>rfl) W1
def dd8:∀q∈[(c_Archive,bR K cn 2 gS)],mD P w K mg base 1 q.1 "table" q.2:=fN (ag8 T) (am6)
def cv7:dQ P w K mg base 1 "ages_of" ["table","dark","error","greatest"] (bR K cn 4 vI):=by
 refine bH (d:=yV) T.cz8 sW W2 (λf cdv A outer s H E hr=>⟨_,(aJ (pz 4 sW (aN cQ (aR (bL K) rfl T.cX cJ (aL Ac6)) aG))
 (aJ (pk 5 sW [7] (fQ rfl T.gC (aL (aN (bI K) (aR (oT K) rfl T.ak2 xA (aF Ad0 (aL Ac9))) aG))) (λ_ _ _ _ _=>(pn 7 sW)) (λ_ _ _ _ _=>(wX (pc mT (aR (ak4 K) rfl T.cy4 bs7 (aL (aN cQ (px K Ac6 Ad3) Ac7))) Ac8))) (λ_ _ _ _ _=>Ad3))
 (aJ (bP (pc (oe K hr) (aR (bL K) rfl T.cX cJ (aL Ad1)) aG) (aK (aV dH)) bG)
 (aJ (pz 6 sW (px K Ad1 (aN cQ (aR (bL K) rfl T.cX cJ (aL Ad1)) aG)))
 (aK (aV (bT (aF (px K Ad1 aG) (aL (tY (pc (oe K hr) Ad2 Ad0) Ac9 Ad2)))))))))),by unfold yV;walk_at "r"⟩) rfl (λ_=>rfl)
def dr3:dQ P w K mg base 1 "spaced" ["parts"] (bR K cn 1 ad1):=by refine bH (d:=ak1) T.dh4 bn3 W2 (λf cdv A outer s H E hr=>⟨_,(aK (aV (tT K PySem.F.plainAttrs_str PySem.F.slot_str_join PySem.F.type_str_join (du2 K) bV (aL (pm [1] (fL K Ac6) (λ_ _ _ _ _=>(pn 1 bn3)) (λ_ _ _ _ _=>cZ) (λ_ _ _ _ _=>(jS cg8 rfl T.em9 ej0 (aL Ac7)))))))),by unfold ak1;walk_at "r"⟩) rfl (λ_=>rfl)
def jA(f y:Addr)(cdv:Value)(A:J5)(outer:List Env)(s:B7)(H:Hp)(E:XK)(hr:Room 1 (A.deeper (PyProof.Rows.envOfC "Saying.__init__" (aO fG) s.heap.objs.size f cdv))):
 ∃t,PSs (nU lH P w K mg base ["self","archive","word","parts","low","high","names","part","due","name"] "Saying.__init__" (aO fG) f cdv A outer s H E).nox (eM fG) t/\RS [(0,.ref y)] K cn E t cH:=
 ⟨_,(aJ (pk 6 eU [7,8] (bi0 K T.cr4 (aF Ac9 (aL (wU T.d_PARTS Ac8)))) (λ_ _ _ _ _=>(fZ K 2 rfl (bK (pn 7 eU) (bK (pn 8 eU) fY)))) (λ_ _ _ _ _=>(wX (pc (oe K hr) Ad4 bV))) (λ_ _ _ _ _=>Ad3))
 (aJ (pJ K Ac6 (pm [9] (fL K Ad2) (λ_ _ _ _ _=>(pn 9 eU)) (λ_ _ _ _ _=>cZ) (λ_ _ _ _ _=>(tT K J8 PySem.F.slot_list_index PySem.F.type_list_index (cf6 K (n:=cU) hr) (hU K Ac7) (aL Ad5)))))
 (aJ (pJ K Ac6 Ad0)
 (aJ (pJ K Ac6 Ad1)
 (aK (pJ K Ac6 (pf (dr3 T:) hr (aL (aN (bI K) (cT (aL Ac8)) (jS (jN K) rfl T.lU jZ (aL Ac9))))))))))),by unfold cH;walk_at "r"⟩
def ec6:Mak P w K mg base 2 "Ink" c_Ink (spI K cn "Ink" 5 ap6):=
 lJ (d:=cH) T.en5 eU W2 (jA T) rfl (λ_=>rfl)
def ao0:dQ P w K mg base 1 "reign_called" ["archive","name"] (bR K cn 2 mE):=by
 refine bH (d:=pO) T.bg2 yL W2 (λf cdv A outer s H E hr=>⟨_,(aJ (fI E3 rfl (fL K (hU K Ac6)) (pn 2 yL) (aK (bP (pc (oe K hr) (px K Ac8 aG) Ac7) (aK (aV Ac8)) bG)))
 (aK (aV dH))),by unfold pO;walk_at "r"⟩) rfl (λ_=>rfl)
def ad4:dQ P w K mg base 3 "reign_year" ["begin","length","k"] (bR K cn 3 oK):=by
 refine bH (d:=sQ) T.be9 bv3 W2 (λf cdv A outer s H E hr=>⟨_,(aJ (bP (dE (bW K (pf (iU T:) hr (aF Ac8 (aF aG (aL Ac7)))) (λ_=>rfl))) (aK (aV dH)) bG)
 (aK (aV (aN cQ (aN (bI K) Ac6 Ac8) aG)))),by unfold sQ;walk_at "r"⟩) rfl (λ_=>rfl)
def dy6:Mak P w K mg base 2 "Reign" c_Reign (spI K cn "Reign" 5 af2):=
 lJ (d:=cH) T.df4 eU W2 (jA T) rfl (λ_=>rfl)
def dd7:Mak P w K mg base 2 "Under" c_Under (spI K cn "Under" 5 ax1):=
 lJ (d:=cH) T.dg4 eU W2 (jA T) rfl (λ_=>rfl)
def cj5:Mak P w K mg base 2 "Between" c_Between (spI K cn "Between" 5 xL):=
 lJ (d:=cH) T.cx4 eU W2 (jA T) rfl (λ_=>rfl)
def dh8:Mak P w K mg base 2 "After" c_After (spI K cn "After" 5 ap1):=
 lJ (d:=cH) T.dj4 eU W2 (jA T) rfl (λ_=>rfl)
def dy9:Mak P w K mg base 2 "Same" c_Same (spI K cn "Same" 5 ao3):=
 lJ (d:=cH) T.dp9 eU W2 (jA T) rfl (λ_=>rfl)
def dl0:Mak P w K mg base 2 "Within" c_Within (spI K cn "Within" 5 zN):=
 lJ (d:=cH) T.cb9 eU W2 (jA T) rfl (λ_=>rfl)
def df6:Mak P w K mg base 2 "Apart" c_Apart (spI K cn "Apart" 5 ae2):=
 lJ (d:=cH) T.di4 eU W2 (jA T) rfl (λ_=>rfl)
def bw6:dQ P w K mg base 4 "ink_saying" ["archive","parts"] (bR K cn 2 tL):=by
 refine bH (d:=tN) T.bi9 aw2 W2 (λf cdv A outer s H E hr=>⟨_,(aJ (pz 2 aw2 (pf (cv7 T:) hr (aF (df0 Ac6 (dd8 T:) (hr.mono W1) (aL (px K Ac7 aG))) (aF (px K Ac7 aG) (aF (px K Ac7 aG) (aL (aN cQ (hU K Ac6) (hU K Ac6))))))))
 (aJ (bP (pc xK Ac8 dH) (aK nO) bG)
 (aK (aV (sV (ec6 T:) (hr.mono W1) (aF Ac6 (aF bV (aF Ac7 (aF (aN cQ (hU K Ac6) (px K Ac8 aG)) (aL (aN cQ (hU K Ac6) (px K Ac8 aG)))))))))))),by unfold tN;walk_at "r"⟩) rfl (λ_=>rfl)
def bd1:dQ P w K mg base 4 "reign_saying" ["archive","parts"] (bR K cn 2 oZ):=by
 refine bH (d:=pF) T.bh2 sX W2 (λf cdv A outer s H E hr=>⟨_,(aJ (pz 2 sX (pf (ao0 T:) hr (aF Ac6 (aL (px K Ac7 aG)))))
 (aJ (pz 3 sX (pf (ad4 T:) hr (aF (px K Ac8 aG) (aF (px K Ac8 aG) (aL (px K Ac7 aG))))))
 (aJ (bP (pc xK Ac9 dH) (aK nO) bG)
 (aK (aV (sV (dy6 T:) (hr.mono W1) (aF Ac6 (aF bV (aF Ac7 (aF Ac9 (aL Ac9))))))))))),by unfold pF;walk_at "r"⟩) rfl (λ_=>rfl)
def bp0:dQ P w K mg base 4 "under_saying" ["archive","parts"] (bR K cn 2 pS):=by
 refine bH (d:=oY) T.bn2 yI W2 (λf cdv A outer s H E hr=>⟨_,(aJ (pz 2 yI (pf (ao0 T:) hr (aF Ac6 (aL (px K Ac7 aG)))))
 (aK (aV (sV (dd7 T:) (hr.mono W1) (aF Ac6 (aF bV (aF Ac7 (aF (px K Ac8 aG) (aL (pf (ad4 T:) hr (aF (px K Ac8 aG) (aF (px K Ac8 aG) (aL (px K Ac8 aG)))))))))))))),by unfold oY;walk_at "r"⟩) rfl (λ_=>rfl)
def aw6:dQ P w K mg base 4 "between_saying" ["archive","parts"] (bR K cn 2 mQ):=by
 refine bH (d:=mP) T.ae7 af5 W2 (λf cdv A outer s H E hr=>⟨_,(aJ (bP (pc yG (px K Ac7 aG) (px K Ac7 aG)) (aK nO) bG)
 (aK (aV (sV (cj5 T:) (hr.mono W1) (aF Ac6 (aF bV (aF Ac7 (aF (px K Ac7 aG) (aL (px K Ac7 aG)))))))))),by unfold mP;walk_at "r"⟩) rfl (λ_=>rfl)
def bc1:dQ P w K mg base 4 "after_saying" ["archive","parts"] (bR K cn 2 pT):=by refine bH (d:=pG) T.bm2 ah8 W2 (λf cdv A outer s H E hr=>⟨_,(aK (aV (sV (dh8 T:) (hr.mono W1) (aF Ac6 (aF bV (aF Ac7 (aF aG (aL dH)))))))),by unfold pG;walk_at "r"⟩) rfl (λ_=>rfl)
def bz3:dQ P w K mg base 4 "same_saying" ["archive","parts"] (bR K cn 2 qV):=by refine bH (d:=qX) T.br4 bl0 W2 (λf cdv A outer s H E hr=>⟨_,(aK (aV (sV (dy9 T:) (hr.mono W1) (aF Ac6 (aF bV (aF Ac7 (aF aG (aL aG)))))))),by unfold qX;walk_at "r"⟩) rfl (λ_=>rfl)
def ao8:dQ P w K mg base 4 "within_saying" ["archive","parts"] (bR K cn 2 oB):=by refine bH (d:=oF) T.an9 an6 W2 (λf cdv A outer s H E hr=>⟨_,(aK (aV (sV (dl0 T:) (hr.mono W1) (aF Ac6 (aF bV (aF Ac7 (aF aG (aL (px K Ac7 aG))))))))),by unfold oF;walk_at "r"⟩) rfl (λ_=>rfl)
def by0:dQ P w K mg base 4 "apart_saying" ["archive","parts"] (bR K cn 2 pL):=by
 refine bH (d:=pC) T.bi2 ap8 W2 (λf cdv A outer s H E hr=>⟨_,(aJ (bP (pc yG (px K Ac7 aG) (px K Ac7 aG)) (aK nO) bG)
 (aK (aV (sV (df6 T:) (hr.mono W1) (aF Ac6 (aF bV (aF Ac7 (aF (px K Ac7 aG) (aL (px K Ac7 aG)))))))))),by unfold pC;walk_at "r"⟩) rfl (λ_=>rfl)
def ch9:dg0 P w K mg base 4 "MAKERS" (du5 K cn 2 tb_MAKERS):=dm7 T.cc9 (mO T.bu4 (bw6 T) W1 (mO T.ap9 (bd1 T) W1 (mO T.ay9 (bp0 T) W1 (mO T.ag5 (aw6 T) W1 (mO T.av9 (bc1 T) W1 (mO T.ba2 (bz3 T) W1 (mO T.ay6 (ao8 T) W1 (mO T.bd0 (by0 T) W1 (de0)))))))))
def bo9:dQ P w K mg base 5 "saying_of" ["archive","word","parts"] (bR K cn 3 dO):=by
 refine bH (d:=uM) T.ck0 bt7 W2 (λf cdv A outer s H E hr=>⟨_,(aJ (bP (dE (bW K (pf (ci7 T:) hr (aF Ac6 (aF Ac7 (aL Ac8)))) (λ_=>rfl))) (aK nO) bG)
 (aJ (bP (PW.pt (oU (pc (oe K hr) (px K (wU T.d_PARTS Ac7) aG) bV) (mJ (pc (oe K hr) (px K Ac8 aG) (px K Ac8 aG))))) (aK nO) bG)
 (aK (aV (dr1 (ch9 T:) (hr.mono W1) Ac7 (aF Ac6 (aL Ac8))))))),by unfold uM;walk_at "r"⟩) rfl (λ_=>rfl)
def cl3:dQ P w K mg base 6 "_law_heap" ["_law_archive_here","_law_told"] (bR K cn 2 tQ):=by refine bH (d:=wC) T.cz4 qB W2 (λf cdv A outer s H E hr=>⟨_,(aK (aV (pm [2,3,4,5] (fL K Ac7) (λ_ _ _ _ _=>(fZ K 4 rfl (bK (pn 2 qB) (bK (pn 3 qB) (bK (pn 4 qB) (bK (pn 5 qB) fY)))))) (λ_ _ _ _ _=>cZ) (λ_ _ _ _ _=>(pf (bo9 T:) hr (aF Ac6 (aF Ac8 (aL (jS (jN K) rfl T.lU jZ (aL Ac9)))))))))),by unfold wC;walk_at "r"⟩) rfl (λ_=>rfl)
def cb0:dQ P w K mg base 1 "_law_steps" ["_law_frame_here","_law_told"] (bR K cn 2 qI):=by
 refine bH (d:=uQ) T.cq0 jP W2 (λf cdv A outer s H E hr=>⟨_,(aJ (pz 2 jP (cT kH))
 (aJ (fI E3 rfl (fQ rfl T.gC (aL (aR (bL K) rfl T.cX cJ (aL Ac7)))) (pn 3 jP) (aJ (pz 4 jP (px K (px K Ac7 Ac9) aG))
 (aJ (ap0 (px K (px K Ac7 Ac9) aG) (fZ K 2 rfl (bK (pn 5 jP) (bK (pn 6 jP) fY))))
 (aJ (pz 7 jP (px K (aN (bI K) Ad0 (bT (aL dH))) aG))
 (aJ (bP (pc uF Ad2 dH) (aK (dU (rX K Ac8 (aL (bT (aF Ad3 (aF (px K Ad0 aG) (aF Ad2 (aL Ac9))))))))) bG)
 (aK (bP (pc uF Ad1 dH) (aK (dU (rX K Ac8 (aL (bT (aF (px K Ad0 aG) (aF Ad3 (aF (aN cQ aG Ad1) (aL Ac9))))))))) bG)))))))
 (aJ (fI E3 rfl (fQ rfl T.gC (aL (aR (bL K) rfl T.cX cJ (aL (px K Ac6 aG))))) (pn 8 jP) (aJ (dU (rX K Ac8 (aL (bT (aF dH (aF Ad4 (aF (px K Ac6 aG) (aL dH))))))))
 (aK (dU (rX K Ac8 (aL (bT (aF Ad4 (aF dH (aF (aN cQ aG (px K Ac6 aG)) (aL dH)))))))))))
 (aK (aV Ac8))))),by unfold uQ;walk_at "r"⟩) rfl (λ_=>rfl)
def iJ(f:Addr)(cdv:Value)(A:J5)(outer:List Env)(s:B7)(H:Hp)(E:XK)(hr:Room 0 (A.deeper (PyProof.Rows.envOfC "Saying.about" (aO eR) s.heap.objs.size f cdv))):
 ∃t,PSs (nU lH P w K mg base ["self"] "Saying.about" (aO eR) f cdv A outer s H E).nox (eM eR) t/\RS [] K cn E t eQ:=
 ⟨_,(aK (aV (jS (jN K) rfl T.lU jZ (aL (hU K Ac6))))),by unfold eQ;walk_at "r"⟩
def bw9:mD P w K mg base 1 c_Ink "about" (bR K cn 1 bF):=
 fP (d:=eQ) T.bx8 T.ab1 gX W2 (iJ T) rfl (λ_=>rfl) W1
def bj4:mD P w K mg base 1 c_Under "about" (bR K cn 1 bF):=
 fP (d:=eQ) T.by1 T.uG gX W2 (iJ T) rfl (λ_=>rfl) W1
def bj8:mD P w K mg base 1 c_Same "about" (bR K cn 1 bF):=
 fP (d:=eQ) T.bx4 T.wY gX W2 (iJ T) rfl (λ_=>rfl) W1
def bi4:mD P w K mg base 1 c_After "about" (bR K cn 1 bF):=
 fP (d:=eQ) T.bl2 T.uK gX W2 (iJ T) rfl (λ_=>rfl) W1
def aj8:mD P w K mg base 1 c_Between "about" (bR K cn 1 bF):=
 fP (d:=eQ) T.aa7 T.pU gX W2 (iJ T) rfl (λ_=>rfl) W1
def bm1:mD P w K mg base 1 c_Within "about" (bR K cn 1 bF):=
 fP (d:=eQ) T.au9 T.sI gX W2 (iJ T) rfl (λ_=>rfl) W1
def ba4:mD P w K mg base 1 c_Reign "about" (bR K cn 1 bF):=
 fP (d:=eQ) T.bd2 T.uI gX W2 (iJ T) rfl (λ_=>rfl) W1
def bd4:mD P w K mg base 1 c_Apart "about" (bR K cn 1 bF):=
 fP (d:=eQ) T.bk2 T.uJ gX W2 (iJ T) rfl (λ_=>rfl) W1
def dh9:∀q∈[(c_Ink,bR K cn 1 bF),(c_Reign,bR K cn 1 bF),(c_Under,bR K cn 1 bF),(c_Between,bR K cn 1 bF),(c_After,bR K cn 1 bF),(c_Same,bR K cn 1 bF),(c_Within,bR K cn 1 bF),(c_Apart,bR K cn 1 bF)],mD P w K mg base 1 q.1 "about" q.2:=fN (bw9 T) (fN (ba4 T) (fN (bj4 T) (fN (aj8 T) (fN (bi4 T) (fN (bj8 T) (fN (bm1 T) (fN (bd4 T) (am6))))))))
def gW(f:Addr)(cdv:Value)(A:J5)(outer:List Env)(s:B7)(H:Hp)(E:XK)(hr:Room 0 (A.deeper (PyProof.Rows.envOfC "Saying.bounds" (aO eD) s.heap.objs.size f cdv))):
 ∃t,PSs (nU lH P w K mg base ["self"] "Saying.bounds" (aO eD) f cdv A outer s H E).nox (eM eD) t/\RS [] K cn E t dY:=
 ⟨_,(aK (aV (bT (aF (hU K Ac6) (aL (hU K Ac6)))))),by unfold dY;walk_at "r"⟩
def ah6:mD P w K mg base 1 c_Between "bounds" (bR K cn 1 bD):=
 fP (d:=dY) T.ai5 T.pU gI W2 (gW T) rfl (λ_=>rfl) W1
def bm0:mD P w K mg base 1 c_Apart "bounds" (bR K cn 1 bD):=
 fP (d:=dY) T.ao9 T.uJ gI W2 (gW T) rfl (λ_=>rfl) W1
def bv0:mD P w K mg base 1 c_Reign "bounds" (bR K cn 1 bD):=
 fP (d:=dY) T.bb0 T.uI gI W2 (gW T) rfl (λ_=>rfl) W1
def bn1:mD P w K mg base 1 c_After "bounds" (bR K cn 1 bD):=
 fP (d:=dY) T.ax9 T.uK gI W2 (gW T) rfl (λ_=>rfl) W1
def bo7:mD P w K mg base 1 c_Ink "bounds" (bR K cn 1 bD):=
 fP (d:=dY) T.bm4 T.ab1 gI W2 (gW T) rfl (λ_=>rfl) W1
def au7:mD P w K mg base 1 c_Within "bounds" (bR K cn 1 bD):=
 fP (d:=dY) T.az6 T.sI gI W2 (gW T) rfl (λ_=>rfl) W1
def bo0:mD P w K mg base 1 c_Under "bounds" (bR K cn 1 bD):=
 fP (d:=dY) T.ba0 T.uG gI W2 (gW T) rfl (λ_=>rfl) W1
def bb4:mD P w K mg base 1 c_Same "bounds" (bR K cn 1 bD):=
 fP (d:=dY) T.bw1 T.wY gI W2 (gW T) rfl (λ_=>rfl) W1
def ck9:∀q∈[(c_Ink,bR K cn 1 bD),(c_Reign,bR K cn 1 bD),(c_Under,bR K cn 1 bD),(c_Between,bR K cn 1 bD),(c_After,bR K cn 1 bD),(c_Same,bR K cn 1 bD),(c_Within,bR K cn 1 bD),(c_Apart,bR K cn 1 bD)],mD P w K mg base 1 q.1 "bounds" q.2:=fN (bo7 T) (fN (bv0 T) (fN (bo0 T) (fN (ah6 T) (fN (bn1 T) (fN (bb4 T) (fN (au7 T) (fN (bm0 T) (am6))))))))
def bk0:dQ P w K mg base 2 "saying_steps" ["saying","number"] (bR K cn 2 pH):=by
 refine bH (d:=pE) T.bc2 lF W2 (λf cdv A outer s H E hr=>⟨_,(aJ (pz 2 lF (bm3 Ac6 (dh9 T:) (hr.mono W1)))
 (aJ (pz 3 lF (bm3 Ac6 (ck9 T:) (hr.mono W1)))
 (aJ (pz 4 lF (tY (pc (oe K hr) (aR (bL K) rfl T.cX cJ (aL Ac8)) aG) (px K Ac8 aG) dH))
 (aJ (pz 5 lF (cT kH))
 (aJ (bP (pc uF (px K Ac9 aG) dH) (aK (dU (rX K Ad1 (aL (bT (aF Ad0 (aF (px K Ac8 aG) (aF (px K Ac9 aG) (aL Ac7))))))))) bG)
 (aJ (bP (pc uF (px K Ac9 aG) dH) (aK (dU (rX K Ad1 (aL (bT (aF (px K Ac8 aG) (aF Ad0 (aF (aN cQ aG (px K Ac9 aG)) (aL Ac7))))))))) bG)
 (aK (aV Ad1)))))))),by unfold pE;walk_at "r"⟩) rfl (λ_=>rfl)
def bu7:dQ P w K mg base 1 "span_steps" ["archive","letter"] (bR K cn 2 sS):=by refine bH (d:=sO) T.bv8 bc4 W2 (λf cdv A outer s H E hr=>⟨_,(aK (aV (cT (aF (bT (aF dH (aF Ac7 (aF (hU K Ac6) (aL dH))))) (aL (bT (aF Ac7 (aF dH (aF (aN cQ aG (hU K Ac6)) (aL dH)))))))))),by unfold sO;walk_at "r"⟩) rfl (λ_=>rfl)
def cf3:dQ P w K mg base 3 "steps_of" ["archive","sayings"] (bR K cn 2 wL):=by
 refine bH (d:=wD) T.cc5 qH W2 (λf cdv A outer s H E hr=>⟨_,(aJ (pz 2 qH (cT kH))
 (aJ (fI E3 rfl (dv2 K T.cr0 (aL Ac7)) (fZ K 2 rfl (bK (pn 3 qH) (bK (pn 4 qH) fY))) (aK (dU (tT K J8 N0 M9 vO Ac8 (aL (pf (bk0 T:) hr (aF Ad0 (aL Ac9))))))))
 (aJ (fI E3 rfl (fQ rfl T.gC (aL (aR (bL K) rfl T.cX cJ (aL (hU K Ac6))))) (pn 5 qH) (aK (dU (tT K J8 N0 M9 vO Ac8 (aL (pf (bu7 T:) hr (aF Ac6 (aL Ad1))))))))
 (aK (aV Ac8))))),by unfold wD;walk_at "r"⟩) rfl (λ_=>rfl)
def ay8:dQ P w K mg base 4 "steps_without" ["archive","sayings","numbers"] (bR K cn 3 lN):=by refine bH (d:=nY) T.ai9 xV W2 (λf cdv A outer s H E hr=>⟨_,(aK (aV (pm [3] (fL K (pf (cf3 T:) hr (aF Ac6 (aL Ac7)))) (λ_ _ _ _ _=>(pn 3 xV)) (λ_ _ _ _ _=>(wX (ac5 (af3 K (n:=cU) hr) (px K Ac9 aG) Ac8 W3))) (λ_ _ _ _ _=>Ac9)))),by unfold nY;walk_at "r"⟩) rfl (λ_=>rfl)
def mU:dQ P w K mg base 1 "place_of" ["end","ground"] (bR K cn 2 fF):=by refine bH (d:=sK) T.cq4 bp9 W2 (λf cdv A outer s H E hr=>⟨_,(aK (aV (tY (pc xK Ac6 dH) Ac7 Ac6))),by unfold sK;walk_at "r"⟩) rfl (λ_=>rfl)
def cz5:dQ P w K mg base 2 "is_kept" ["step","years"] (bR K cn 2 yS):=by
 refine bH (d:=yQ) T.cf9 ar8 W2 (λf cdv A outer s H E hr=>⟨_,(aJ (pz 2 ar8 (aN cQ (aR (bL K) rfl T.cX cJ (aL Ac7)) aG))
 (aK (aV (kO mT (px K Ac7 (pf (mU T:) hr (aF (px K Ac6 aG) (aL Ac8)))) (aN (bI K) (px K Ac7 (pf (mU T:) hr (aF (px K Ac6 aG) (aL Ac8)))) (px K Ac6 aG)) (vQ _))))),by unfold yQ;walk_at "r"⟩) rfl (λ_=>rfl)
def bw3:dQ P w K mg base 3 "raise_years" ["steps","years","raisers"] (spM K cn kE):=by
 refine ch8 (d:=qU) T.bq4 mI W2 (λv1 v2 f cdv A outer s H E hr=>⟨_,(aJ (pz 3 mI (aN cQ (aR (bL K) rfl T.cX cJ (aL Ac7)) aG))
 (aJ (pz 4 mI dH)
 (aJ (fI E3 rfl (fL K Ac6) (pn 5 mI) (aK (bP (dE (bW K (pf (cz5 T:) hr (aF Ad1 (aL Ac7))) (λ_=>rfl))) (aJ (pz 4 mI (pf (mU T:) hr (aF (px K Ad1 aG) (aL Ac9))))
 (aJ (ap0 (aN cQ (px K Ac7 (pf (mU T:) hr (aF (px K Ad1 aG) (aL Ac9)))) (px K Ad1 aG)) (bp6 Ac7 Ad0 ax6))
 (aK (ap0 Ad1 (bp6 Ac8 Ad0 ax6))))) bG)))
 (aK (aV Ad0))))),by unfold qU;walk_at "r"⟩) rfl (λ_ _ _=>rfl)
def bf4:dQ P w K mg base 2 "ring_behind" ["raisers","place"] (bR K cn 2 qK):=by
 refine bH (d:=qZ) T.bl4 jE W2 (λf cdv A outer s H E hr=>⟨_,(aJ (pz 2 jE (aN cQ (aR (bL K) rfl T.cX cJ (aL Ac6)) aG))
 (aJ (fI E3 rfl (fQ rfl T.gC (aL (aR (bL K) rfl T.cX cJ (aL Ac6)))) (pn 3 jE) (aK (pz 1 jE (pf (mU T:) hr (aF (px K (px K Ac6 Ac7) aG) (aL Ac8))))))
 (aJ (pz 4 jE (cT (aL (px K Ac6 Ac7))))
 (aJ (pz 5 jE (pf (mU T:) hr (aF (px K (px K Ac6 Ac7) aG) (aL Ac8))))
 (aJ (cr9 E3 (pc (nF K (n:=cU) hr) Ad1 Ac7) (aJ (dU (rX K Ad0 (aL (px K Ac6 Ad1))))
 (aK (pz 5 jE (pf (mU T:) hr (aF (px K (px K Ac6 Ad1) aG) (aL Ac8)))))))
 (aK (aV Ad0))))))),by unfold qZ;walk_at "r"⟩) rfl (λ_=>rfl)
def bh6:dQ P w K mg base 4 "settled_by" ["archive","steps"] (bR K cn 2 gE):=by
 refine bH (d:=tW) T.bb9 kB W2 (λf cdv A outer s H E hr=>⟨_,(aJ (pz 2 kB (aR (bL K) rfl T.cX cJ (aL (hU K Ac6))))
 (aJ (pz 3 kB (aN (bI K) (aN (br1 K) (cT (aL (aN cQ (hU K Ac6) aG))) Ac8) (cT (aL aG))))
 (aJ (pz 4 kB (aN (br1 K) (cT (aL dH)) (aN (bI K) Ac8 aG)))
 (aJ (pz 5 kB dH)
 (aJ (fI E3 rfl (fQ rfl T.gC (aL (aN (bI K) Ac8 aG))) (pn 6 kB) (aK (pz 5 kB (pf (bw3 T:) hr (aF Ac7 (aF Ac9 (aL Ad0)))))))
 (aJ (bP (pc xK Ad1 dH) (aK (aV (bT (aF bV (aL (kT (xE K) Ac9 (kP aG) (kP Ac8))))))) bG)
 (aK (aV (bT (aF bV (aL (pf (bf4 T:) hr (aF Ad0 (aL Ad1)))))))))))))),by unfold tW;walk_at "r"⟩) rfl (λ_=>rfl)
def ag7:dQ P w K mg base 1 "with_one_more" ["tuples","many"] (bR K cn 2 lT):=by
 refine bH (d:=oA) T.ar9 kS W2 (λf cdv A outer s H E hr=>⟨_,(aJ (pz 2 kS (cT kH))
 (aJ (fI E3 rfl (fL K Ac6) (pn 3 kS) (aJ (pz 4 kS (tY (pc yG (aR (bL K) rfl T.cX cJ (aL Ac9)) aG) (aN (bI K) (px K Ac9 (qL nE aG)) aG) aG))
 (aK (dU (tT K J8 N0 M9 vO Ac8 (aL (pm [5] (ao4 rfl T.gC (aF Ad0 (aL Ac7))) (λ_ _ _ _ _=>(pn 5 kS)) (λ_ _ _ _ _=>cZ) (λ_ _ _ _ _=>(aN (dv8 K) Ac9 (bT (aL Ad1)))))))))))
 (aK (aV Ac8)))),by unfold oA;walk_at "r"⟩) rfl (λ_=>rfl)
def ad0:dQ P w K mg base 5 "fewest_false" ["archive","sayings"] (bR K cn 2 dX):=by
 refine bH (d:=mC) T.be2 gU W2 (λf cdv A outer s H E hr=>⟨_,(aJ (pz 2 gU (cT kH))
 (aJ (pz 3 gU (cT (aL (bT kH))))
 (aJ (fI E3 rfl (fQ rfl T.gC (aL (aN (bI K) (kI T.g_MOST_FALSE) aG))) (pn 4 gU) (aJ (pz 5 gU (cT kH))
 (aJ (fI E3 rfl (fL K Ac9) (pn 6 gU) (aJ (pz 7 gU (pf (bh6 T:) hr (aF Ac6 (aL (pf (ay8 T:) hr (aF Ac6 (aF Ac7 (aL Ad2))))))))
 (aJ (bP (pc (oe K hr) (px K Ad3 aG) bV) (aK (aV (bT (aF bV (aF Ad2 (aF (px K Ad3 aG) (aL Ac8))))))) bG)
 (aK (dU (rX K Ad1 (aL (bT (aF Ad2 (aL (px K Ad3 aG)))))))))))
 (aJ (dU (tT K J8 N0 M9 vO Ac8 (aL Ad1)))
 (aK (pz 3 gU (pf (ag7 T:) hr (aF Ac9 (aL (aR (bL K) rfl T.cX cJ (aL Ac7)))))))))))
 (aK (aV (bT (aF bV (aL Ac8)))))))),by unfold mC;walk_at "r"⟩) rfl (λ_=>rfl)
def xR:dQ P w K mg base 1 "_law_tuples" ["_law_many","_law_size"] (bR K cn 2 iD):=by
 refine bH (d:=mK) T.bt8 nG W2 (λf cdv A outer s H E hr=>⟨_,(aJ (bP (pc (oe K hr) Ac7 aG) (aK (aV (cT (aL (bT kH))))) bG)
 (aJ (bP (pc (oe K hr) Ac7 aG) (aK (aV (pm [3] (fQ rfl T.gC (aL Ac6)) (λ_ _ _ _ _=>(pn 3 nG)) (λ_ _ _ _ _=>cZ) (λ_ _ _ _ _=>(bT (aL Ac9)))))) bG)
 (aJ (pz 2 nG (cT kH))
 (aJ (fI E3 rfl (fQ rfl T.gC (aL Ac6)) (pn 3 nG) (aK (dU (tT K J8 N0 M9 vO Ac8 (aL (pm [4] (ao4 rfl T.gC (aF (aN (bI K) Ac9 aG) (aL Ac6))) (λ_ _ _ _ _=>(pn 4 nG)) (λ_ _ _ _ _=>cZ) (λ_ _ _ _ _=>(bT (aF Ac9 (aL Ad0))))))))))
 (aK (aV Ac8)))))),by unfold mK;walk_at "r"⟩) rfl (λ_=>rfl)
def rD:dQ P w K mg base 1 "_law_without" ["_law_steps_here","_law_numbers"] (bR K cn 2 fU):=by refine bH (d:=qJ) T.bb5 al0 W2 (λf cdv A outer s H E hr=>⟨_,(aK (aV (pm [2] (fL K Ac6) (λ_ _ _ _ _=>(pn 2 al0)) (λ_ _ _ _ _=>(wX (PW.pt (jW (pc xK (px K Ac8 aG) dH) (lI (ac5 (af3 K (n:=cU) hr) (px K Ac8 aG) Ac7 W3)))))) (λ_ _ _ _ _=>Ac8)))),by unfold qJ;walk_at "r"⟩) rfl (λ_=>rfl)
def vA:dQ P w K mg base 1 "_law_whole" ["_law_found"] (bR K cn 1 iB):=by refine bH (d:=uW) T.cg0 by6 W2 (λf cdv A outer s H E hr=>⟨_,(aK (aV (xX (aR (iZ K) rfl T.fX fH (aF Ac6 (aL (qS T.dw5 co8)))) (xC (br5 (aR (iZ K) rfl T.fX fH (aF Ac6 (aL (qS T.ce9 cc2))))))))),by unfold uW;walk_at "r"⟩) rfl (λ_=>rfl)
def an2:dQ P w K mg base 2 "_law_is_step" ["_law_step","_law_steps_here"] (bR K cn 2 kF):=by
 refine bH (d:=rC) T.bc5 au0 W2 (λf cdv A outer s H E hr=>⟨_,(aJ (bP (PW.pt (jW (dE (bW K (aR (iZ K) rfl T.fX fH (aF Ac6 (aL (qS T.ae5 ac2)))) (λ_=>rfl))) (jW (pc (nF K (n:=cU) hr) (aR (bL K) rfl T.cX cJ (aL Ac6)) aG) (lI (dE (bW K (pf (vA T:) hr (aL (px K Ac6 aG))) (λ_=>rfl))))))) (aK (aV fE)) bG)
 (aJ (fI E3 rfl (fL K (cT (aF (px K Ac6 aG) (aF (px K Ac6 aG) (aL (px K Ac6 aG)))))) (pn 2 au0) (aK (bP (PW.pt (oU (pc uF Ac8 dH) (mJ (dE (bW K (pf (vA T:) hr (aL Ac8)) (λ_=>rfl)))))) (aK (aV fE)) bG)))
 (aK (aV (kO (ac0 K (n:=cU) hr) Ac6 Ac7 W3))))),by unfold rC;walk_at "r"⟩) rfl (λ_=>rfl)
def bv1:dQ P w K mg base 3 "_law_is_chain" ["_law_chain","_law_steps_here","_law_start","_law_end"] (bR K cn 4 pQ):=by
 refine bH (d:=pP) T.bf2 lO W2 (λf cdv A outer s H E hr=>⟨_,(aJ (bP (PW.pt (jW (dE (bW K (aR (iZ K) rfl T.fX fH (aF Ac6 (aL (qS T.lU jZ)))) (λ_=>rfl))) (lI (dE (bW K (aR (jQ K) rfl T.tX oP (aL (pm [5] (fL K Ac6) (λ_ _ _ _ _=>(pn 5 lO)) (λ_ _ _ _ _=>cZ) (λ_ _ _ _ _=>(pf (an2 T:) hr (aF Ad1 (aL Ac7))))))) (λ_=>rfl)))))) (aK (aV fE)) bG)
 (aJ (pz 4 lO Ac8)
 (aJ (fI E3 rfl (fL K Ac6) (pn 5 lO) (aJ (bP (pc (nF K (n:=cU) hr) (px K Ad1 aG) Ad0) (aK (aV fE)) bG)
 (aK (pz 4 lO (px K Ad1 aG)))))
 (aK (aV (kO (oe K hr) Ad0 Ac9 (vQ _))))))),by unfold pP;walk_at "r"⟩) rfl (λ_=>rfl)
def av2:dQ P w K mg base 4 "_law_is_ring" ["_law_ring","_law_steps_here"] (bR K cn 2 cY):=by
 refine bH (d:=qT) T.bs4 mG W2 (λf cdv A outer s H E hr=>⟨_,(aJ (bP (PW.pt (jW (dE (bW K (aR (iZ K) rfl T.fX fH (aF Ac6 (aL (qS T.lU jZ)))) (λ_=>rfl))) (jW (pc (oe K hr) Ac6 (cT kH)) (lI (dE (bW K (pf (an2 T:) hr (aF (px K Ac6 aG) (aL Ac7))) (λ_=>rfl))))))) (aK (aV fE)) bG)
 (aJ (bP (dE (bW K (pf (bv1 T:) hr (aF Ac6 (aF Ac7 (aF (px K (px K Ac6 aG) aG) (aL (px K (px K Ac6 aG) aG)))))) (λ_=>rfl))) (aK (aV fE)) bG)
 (aJ (pz 2 mG (pm [3] (fL K Ac6) (λ_ _ _ _ _=>(pn 3 mG)) (λ_ _ _ _ _=>cZ) (λ_ _ _ _ _=>(px K Ac9 aG))))
 (aJ (bP (bW K (aR (bq2 K) rfl T.dv5 cd8 (aL (pm [4] (fQ rfl T.gC (aL (aR (bL K) rfl T.cX cJ (aL Ac8)))) (λ_ _ _ _ _=>(pn 4 mG)) (λ_ _ _ _ _=>cZ) (λ_ _ _ _ _=>(kO (ac0 K (n:=cU) hr) (px K Ac8 Ad0) (kT (xE K) Ac8 pA (kP Ad0)) W3))))) (λ_=>rfl)) (aK (aV fE)) bG)
 (aK (aV (kO wR (aR (cr6 K) rfl T.eo9 eu0 (aL (pm [3] (fL K Ac6) (λ_ _ _ _ _=>(pn 3 mG)) (λ_ _ _ _ _=>cZ) (λ_ _ _ _ _=>(px K Ac9 aG))))) aG (vQ _)))))))),by unfold qT;walk_at "r"⟩) rfl (λ_=>rfl)
def ay5:dQ P w K mg base 5 "_law_rings" ["_law_rings_here","_law_due","_law_steps_here"] (bR K cn 3 qF):=by
 refine bH (d:=vB) T.cf0 xP W2 (λf cdv A outer s H E hr=>⟨_,(aJ (bP (PW.pt (jW (dE (bW K (aR (iZ K) rfl T.fX fH (aF Ac6 (aL (qS T.lU jZ)))) (λ_=>rfl))) (lI (pc (nF K (n:=cU) hr) (aR (bL K) rfl T.cX cJ (aL Ac6)) (aR (bL K) rfl T.cX cJ (aL Ac7)))))) (aK (aV fE)) bG)
 (aJ (fI E3 rfl (bi0 K T.cr4 (aF Ac6 (aL Ac7))) (fZ K 2 rfl (bK (pn 3 xP) (bK (pn 4 xP) fY))) (aJ (bP (PW.pt (jW (dE (bW K (aR (iZ K) rfl T.fX fH (aF Ac9 (aL (qS T.ae5 ac2)))) (λ_=>rfl))) (jW (pc (nF K (n:=cU) hr) (aR (bL K) rfl T.cX cJ (aL Ac9)) aG) (lI (pc (nF K (n:=cU) hr) (px K Ac9 aG) Ad0))))) (aK (aV fE)) bG)
 (aK (bP (dE (bW K (pf (av2 T:) hr (aF (px K Ac9 aG) (aL (pf (rD T:) hr (aF Ac8 (aL Ad0)))))) (λ_=>rfl))) (aK (aV fE)) bG))))
 (aK (aV fE)))),by unfold vB;walk_at "r"⟩) rfl (λ_=>rfl)
def bt9:dQ P w K mg base 1 "_law_holds" ["_law_years","_law_steps_here"] (bR K cn 2 vC):=by
 refine bH (d:=uL) T.cj0 iY W2 (λf cdv A outer s H E hr=>⟨_,(aJ (fI E3 rfl (fL K Ac7) (fZ K 4 rfl (bK (pn 2 iY) (bK (pn 3 iY) (bK (pn 4 iY) (bK (pn 5 iY) fY))))) (aJ (pz 6 iY aG)
 (aJ (pz 7 iY aG)
 (aJ (bP (pc uF Ac8 dH) (aK (pz 6 iY (px K Ac6 Ac8))) bG)
 (aJ (bP (pc uF Ac9 dH) (aK (pz 7 iY (px K Ac6 Ac9))) bG)
 (aK (bP (pc yG Ad3 (aN (bI K) Ad2 Ad0)) (aK (aV fE)) bG)))))))
 (aK (aV fE))),by unfold uL;walk_at "r"⟩) rfl (λ_=>rfl)
def ax8:dQ P w K mg base 2 "_law_is_dating" ["_law_years","_law_many","_law_steps_here"] (bR K cn 3 iT):=by
 refine bH (d:=nZ) T.aw9 xG W2 (λf cdv A outer s H E hr=>⟨_,(aJ (bP (PW.pt (jW (dE (bW K (aR (iZ K) rfl T.fX fH (aF Ac6 (aL (qS T.lU jZ)))) (λ_=>rfl))) (jW (pc (nF K (n:=cU) hr) (aR (bL K) rfl T.cX cJ (aL Ac6)) Ac7) (lI (dE (bW K (aR (jQ K) rfl T.tX oP (aL (pm [3] (fL K Ac6) (λ_ _ _ _ _=>(pn 3 xG)) (λ_ _ _ _ _=>cZ) (λ_ _ _ _ _=>(pf (vA T:) hr (aL Ac9)))))) (λ_=>rfl))))))) (aK (aV fE)) bG)
 (aK (aV (pf (bt9 T:) hr (aF Ac6 (aL Ac8)))))),by unfold nZ;walk_at "r"⟩) rfl (λ_=>rfl)
def bq7:dQ P w K mg base 1 "_law_can_be" ["_law_steps_here","_law_many"] (bR K cn 2 oR):=by
 refine bH (d:=tP) T.bw8 fW W2 (λf cdv A outer s H E hr=>⟨_,(aJ (pz 2 fW (aN (br1 K) (cT (aL aG)) (aN (bI K) Ac7 aG)))
 (aJ (fI E3 rfl (fQ rfl T.gC (aL (aN (bI K) Ac7 aG))) (pn 3 fW) (aJ (pz 4 fW fE)
 (aJ (fI E3 rfl (fL K Ac6) (fZ K 4 rfl (bK (pn 5 fW) (bK (pn 6 fW) (bK (pn 7 fW) (bK (pn 8 fW) fY))))) (aJ (pz 9 fW (tY (pc xK Ad1 dH) Ac7 Ad1))
 (aJ (pz 10 fW (tY (pc xK Ad2 dH) Ac7 Ad2))
 (aK (bP (pc yG (px K Ac8 Ad6) (aN (bI K) (px K Ac8 Ad5) Ad3)) (aJ (ap0 (aN (bI K) (px K Ac8 Ad5) Ad3) (bp6 Ac8 Ad6 ax6))
 (aK (pz 4 fW fE))) bG)))))
 (aK (bP (dE (bW K Ad0 (λ_=>rfl))) (aK (aV fE)) bG)))))
 (aK (aV fE)))),by unfold tP;walk_at "r"⟩) rfl (λ_=>rfl)
def at5:dQ P w K mg base 6 "_law_right" ["_law_found","_law_steps_here","_law_letters","_law_many"] (bR K cn 4 gJ):=by
 refine bH (d:=qA) T.co0 jO W2 (λf cdv A outer s H E hr=>⟨_,(aJ (pz 4 jO (aN (bI K) (aN (bI K) (pf (xR T:) hr (aF Ac9 (aL aG))) (pf (xR T:) hr (aF Ac9 (aL aG)))) (pf (xR T:) hr (aF Ac9 (aL aG)))))
 (aJ (bP (pc (oe K hr) (px K Ac6 aG) bV) (aK (aV (xX (kO (oe K hr) (aR (bL K) rfl T.cX cJ (aL Ac6)) aG (vQ _)) (xC (pf (ay5 T:) hr (aF (px K Ac6 aG) (aF Ad0 (aL Ac7)))))))) bG)
 (aJ (bP (PW.pt (jW (pc (nF K (n:=cU) hr) (px K Ac6 aG) bV) (jW (pc (nF K (n:=cU) hr) (aR (bL K) rfl T.cX cJ (aL Ac6)) aG) (jW (ac5 (af3 K (n:=cU) hr) (px K Ac6 aG) Ad0 W3) (lI (dE (bW K (aR (iZ K) rfl T.fX fH (aF (px K Ac6 aG) (aL (qS T.ae5 ac2)))) (λ_=>rfl)))))))) (aK (aV fE)) bG)
 (aJ (bP (dE (bW K (aR (jQ K) rfl T.tX oP (aL (pm [7] (fL K (px K Ac6 aG)) (λ_ _ _ _ _=>(pn 7 jO)) (λ_ _ _ _ _=>cZ) (λ_ _ _ _ _=>(pf (vA T:) hr (aL Ad3)))))) (λ_=>rfl))) (aK (aV fE)) bG)
 (aJ (bP (dE (bW K (pf (ax8 T:) hr (aF (px K Ac6 aG) (aF Ac8 (aL (pf (rD T:) hr (aF Ac7 (aL (px K Ac6 aG)))))))) (λ_=>rfl))) (aK (aV fE)) bG)
 (aJ (pk 5 jO [8] (fL K Ad0) (λ_ _ _ _ _=>(pn 8 jO)) (λ_ _ _ _ _=>(wX (pc wR (aR (bL K) rfl T.cX cJ (aL Ad4)) (aR (bL K) rfl T.cX cJ (aL (px K Ac6 aG)))))) (λ_ _ _ _ _=>Ad4))
 (aJ (bP (dE (bW K (pf (ay5 T:) hr (aF (px K Ac6 aG) (aF Ad1 (aL Ac7)))) (λ_=>rfl))) (aK (aV fE)) bG)
 (aJ (pk 6 jO [8] (fL K Ad0) (λ_ _ _ _ _=>(pn 8 jO)) (λ_ _ _ _ _=>(wX (PW.pt (oU (pc (oe K hr) (aR (bL K) rfl T.cX cJ (aL Ad4)) (aR (bL K) rfl T.cX cJ (aL (px K Ac6 aG)))) (mJ (pc (eg2 K hr) Ad4 (px K Ac6 aG))))))) (λ_ _ _ _ _=>Ad4))
 (aK (aV (br5 (aR (bq2 K) rfl T.dv5 cd8 (aL (pm [8] (fL K Ad2) (λ_ _ _ _ _=>(pn 8 jO)) (λ_ _ _ _ _=>cZ) (λ_ _ _ _ _=>(pf (bq7 T:) hr (aF (pf (rD T:) hr (aF Ac7 (aL Ad4))) (aL Ac8)))))))))))))))))),by unfold qA;walk_at "r"⟩) rfl (λ_=>rfl)
def ey4{f:Addr}{fd:FuncData}(F:Fun K "law" "law" wP f fd):FnOk P w K mg base lH 8 f fd ["_law_script"] (bR K cn 1 bj5):=by
 refine bh0 (d:=ck2) F jR (λcdv A outer s H E hr=>⟨_,(aJ (pz 1 jR (pf (bq9 T:) hr (aF Ac6 (aL aG))))
 (aJ (pz 2 jR (px K (cT (aF aG (aL aG))) (aN gP (aN bX (aN gP (pf (sM T:) hr (aF Ac6 (aL aG))) aG) aG) aG)))
 (aJ (pz 3 jR (pf (bp8 T:) hr (aF (aN gP (pf (sM T:) hr (aF Ac6 (aL aG))) aG) (aL Ac7))))
 (aJ (pz 4 jR (pf (by3 T:) hr (aF (kT (xE K) Ac6 (kP aG) (kP (aN (bI K) aG Ac8))) (aF Ac7 (aF (kO yG (aN bX (pf (sM T:) hr (aF Ac6 (aL aG))) aG) aG (vQ _)) (aL Ac9))))))
 (aJ (pz 5 jR (pf (be4 T:) hr (aL Ac7)))
 (aJ (pz 6 jR (pf (cl3 T:) hr (aF Ad1 (aL Ad0))))
 (aJ (bP (PW.pt (oU (as1 wR wR aG (aR (bL K) rfl T.cX cJ (aL Ad0)) aG) (mJ (pc (oe K hr) (aN bX (aN gP (pf (sM T:) hr (aF Ac6 (aL aG))) aG) aG) aG)))) (aJ (dU (rX K Ad0 (aL (px K Ad0 aG))))
 (aK (dU (rX K Ad2 (aL (px K Ad2 aG)))))) bG)
 (aJ (pz 7 jR (pf (cb0 T:) hr (aF Ac7 (aL Ad0))))
 (aJ (pz 8 jR (pf (ad0 T:) hr (aF Ad1 (aL Ad2))))
 (aJ (bP (PW.pt (jW (dE (bW K (aR (iZ K) rfl T.fX fH (aF Ad4 (aL (qS T.ae5 ac2)))) (λ_=>rfl))) (lI (dE (bW K (pf (at5 T:) hr (aF Ad4 (aF Ad3 (aF (aR (bL K) rfl T.cX cJ (aL (px K Ac7 aG))) (aL (aR (bL K) rfl T.cX cJ (aL Ad0))))))) (λ_=>rfl)))))) (aK (aV fE)) bG)
 (aJ (fI E3 rfl (fL K (kT (xE K) (px K Ad4 (qL nE aG)) pA (kP aG))) (fZ K 2 rfl (bK (pn 9 jR) (bK (pn 10 jR) fY))) (aK (dU (dg8 K J8 PySem.F.slot_list_clear PySem.F.type_list_clear cv9 Ad6))))
 (aJ (bP (dE (bW K (aR (jQ K) rfl T.tX oP (aL (pm [9,10] (fL K (kT (xE K) (px K Ad4 (qL nE aG)) (kP aG) pA)) (λ_ _ _ _ _=>(fZ K 2 rfl (bK (pn 9 jR) (bK (pn 10 jR) fY)))) (λ_ _ _ _ _=>cZ) (λ_ _ _ _ _=>(pf (av2 T:) hr (aF Ad6 (aL (pf (rD T:) hr (aF Ad3 (aL Ad5)))))))))) (λ_=>rfl))) (aK (aV fE)) bG)
 (aJ (bP (pc yG (aR (bL K) rfl T.cX cJ (aL Ad0)) aG) (aK (aV fE)) bG)
 (aJ (pz 11 jR (px K Ad4 aG))
 (aJ (pz 9 jR (bT kH))
 (aJ (bP (pc (oe K hr) Ad7 bV) (aJ (pz 9 jR (px K Ad4 aG))
 (aK (dU (rX K (px K Ad4 aG) (aL aG))))) bG)
 (aJ (dU (rX K (px K Ad4 (qL nE aG)) (aL dH)))
 (aJ (pz 12 jR (pf (ad0 T:) hr (aF Ad1 (aL Ad2))))
 (aJ (bP (PW.pt (jW (pc (nF K (n:=cU) hr) (px K Ad8 aG) Ad7) (lI (PW.pt (oU (pc (oe K hr) Ad7 bV) (mJ (pc (nF K (n:=cU) hr) (px K Ad8 aG) Ad5))))))) (aK (aV fE)) bG)
 (aK (aV (pf (at5 T:) hr (aF Ad8 (aF Ad3 (aF (aR (bL K) rfl T.cX cJ (aL (px K Ac7 aG))) (aL (aR (bL K) rfl T.cX cJ (aL Ad0)))))))))))))))))))))))))))),by unfold ck2;walk_at "r"⟩) rfl (λ_=>rfl)
end
def el1{l:PySem.W.OpenLaw}{w:World}{K:A1}{h:Heap}{mg:Str->Option Value}{fa f0:Addr}(X:K.In h)(G:h.Ns mainGlobals mg)(hfa:mg "law"=some (.ref fa))
 {od0 an0:Option Addr}{sl0:Array (Option Value)}{oc0 kV0 dc0 pm0 cd0 ct0:Value}
 (a0:PySem.W.nsIn K mainGlobals "law"=some (some (.ref f0)))(l0:K.lookup f0=some ⟨oc0,od0,.func (PySem.W.fnOf "law" "law" (kQ wP) (eM wP) (aO wP) .none kV0 dc0 pm0 an0 cd0 ct0),sl0⟩)(c0:PySem.W.codeIn K cd0 "law"=true)(k0:PySem.W.keepIn K (.ref f0)=true)
 {cn:Str->Option Addr}{c_Archive c_Ink c_Reign c_Under c_Between c_After c_Same c_Within c_Apart:Addr}{sH wZ jF:List (Str×Value)}
 (T:Txt w K cn mg c_Archive c_Ink c_Reign c_Under c_Between c_After c_Same c_Within c_Apart sH wZ jF)
 (main:∀ns:List Int,ns.length<=63->(∀n∈ns,Builtin.Int.intBits n<=1048576)->bj5 [.lst false (ns.map .int)]=.ok (.bl true)):
 ∃fd:FuncData,(∀(s:B7)(v:Value),BindsTo s fd ⟨[v],[]⟩ [("_law_script",v)])/\∀base:Heap,K.In base->base.Ns mainGlobals mg->FnOk l.prog w K mg base lH 8 fa fd ["_law_script"] (bg5 K):=by
 have e:=hfa.symm.trans (P5 X G a0);cases e;have F0:=ae9 (st:=wP) l0 c0 k0;have key:∀base:Heap,FnOk l.prog w K mg base lH 8 fa (PySem.W.fnOf "law" "law" (kQ wP) (eM wP) (aO wP) .none kV0 dc0 pm0 an0 cd0 ct0) ["_law_script"] (bg5 K):=by intro base;exact law_fn (ey4 T F0) main
 exact⟨_,λs v=>.of_eq rfl,λbase _ _=>key base⟩
def jL(n k:Int):Int:=
 let p:=(n%1000000021+4099*k+77)*30011%2140000027
 let f:=p/46133*(p%46133)+6007*(p/46133)+271*(p%46133)+k
 f*(f%1009+7919)%1700000009
def bs0(n k:Int):0<=jL n k/\jL n k<1700000009:=⟨G7 _ W1,J6 _ W1⟩
def cd1(n k:Int):fK [.int n,.int k]=.ok (.int (jL n k)):=by unfold fK uY;have q:∀f:Int,mulOk f (f%1009+7919):=λf=>cj3 (by have:=G7 f (show(1009:Int)≠0 by decide);omega) (by have:=J6 f (show(0:Int)<1009 by decide);omega);have q2:∀p:Int,mulOk (p/46133) (p%46133):=λp=>cj3 (by have:=G7 p (show(46133:Int)≠0 by decide);omega) (by have:=J6 p (show(0:Int)<46133 by decide);omega);have q3:∀p:Int,zV p 46133:=λp=>⟨W1,W1⟩;walk_at "ev";rfl
def bp7(o:Bool)(ns:List Int)(k:Nat):fT [.lst o (ns.map .int),.int k]=.ok (.int (ns.getD k 0)):=by
 unfold fT wN;by_cases h:k<ns.length
 . have h1:decide ((k:Int)<(ns.length:Nat))=true:=by simpa using h
   have h2:atI (ns.map T.int) (k:Int)=some (.int (ns.getD k 0)):=gR (by simp[List.getD_eq_getElem?_getD,List.getElem?_eq_getElem h]);walk_at "ev"
 . have h1:decide ((k:Int)<(ns.length:Nat))=false:=by simpa using h
   have h2:ns.getD k 0=0:=by simp[List.getD_eq_getElem?_getD,List.getElem?_eq_none (show ns.length<=k by omega)]
   walk_at "ev"
def eight:List Str:=["a","ab","abc","b","ba","zzzzzzzz","zzzzzzzy","q"]
def turned(k:Nat):List Str:=eight.drop k++eight.take k
def br7{α:Type}(xs:List α)(k:Nat)(h:k<=xs.length):iI xs (some (k:Int)) none=xs.drop k:=by
 unfold iI;have e1:HT.sIx xs.length 0 (some (k:Int))=k:=by simp only[HT.sIx];rw[E5 V8];omega
 have e2:HT.sIx xs.length xs.length none=xs.length:=rfl;rw[e1,e2,N8 W0]
def ay0{α:Type}(xs:List α)(k:Nat):iI xs none (some (k:Int))=xs.take k:=by
 unfold iI;have e1:HT.sIx xs.length 0 none=0:=rfl;have e2:HT.sIx xs.length xs.length (some (k:Int))=min k xs.length:=by simp only[HT.sIx];rw[E5 V8];omega
 rw[e1,e2,List.drop_zero,Nat.sub_zero];rw[List.take_eq_take_iff];omega
def dd9(n:Int):uZ [.int n]=.ok (.lst true ((turned (n%8).toNat).map .str)):=by
 unfold uZ uN;have h0:=G7 n (show(8:Int)≠0 by decide);have h1:=J6 n (show(0:Int)<8 by decide);obtain⟨k,hk⟩:=uA h0;have hk8:k<8:=V8
 have c1:iI [T.str "a",.str "ab",.str "abc",.str "b",.str "ba",.str "zzzzzzzz",.str "zzzzzzzy",.str "q"] (some (n%8)) none=(eight.drop k).map .str:=by rw[hk];exact(br7 (eight.map T.str) k (by show k<=8;omega)).trans List.map_drop.symm
 have c2:iI [T.str "a",.str "ab",.str "abc",.str "b",.str "ba",.str "zzzzzzzz",.str "zzzzzzzy",.str "q"] none (some (n%8))=(eight.take k).map .str:=by rw[hk];exact(ay0 (eight.map T.str) k).trans R9.symm
 have l1:(eight.drop k).length+(eight.take k).length<=100000:=by simp[eight];omega
 rw[show(turned (n%8).toNat)=eight.drop k++eight.take k by rw[hk];rfl,G0];clear hk;walk_at "ev"
structure Fm where
 a:Int
 s:Int
 n:List Str
 i:List (Str×List Int)
 r:List (Str×Int×Int)
def gO(o:Bool)(p:Str×List Int):T:=.tup [.str p.1,.lst o (p.2.map .int)]
def iR(p:Str×Int×Int):T:=.tup [.str p.1,.int p.2.1,.int p.2.2]
def eY(o:Bool)(f:Fm):T:=.tup [.int f.a,.int (f.a+f.s),.lst o (f.n.map .str),.lst o (f.i.map (gO o)),.lst o (f.r.map iR)]
def pR(w:Str):Bool:=decide (1<=(w.length:Int))&&(decide ((w.length:Int)<=8)&&w.cps.toList.all λc=>occ "abcdefghijklmnopqrstuvwxyz" ⟨#[c]⟩)
structure TabOk (xs:List Int):Prop where
 l1:1<=xs.length
 l60:xs.length<=60
 b:∀x∈xs,0<=x/\x<=408
 f:xs.Pairwise (λa b=>b<=a)
structure Gd (f:Fm):Prop where
 s0:0<=f.s
 s1:f.s<=300
 f0:-3000<=f.a
 f1:f.a+f.s<=3000
 n1:1<=f.n.length
 n8:f.n.length<=8
 nn:∀x∈f.n,pR x=true
 nd:f.n.Nodup
 i1:2<=f.i.length
 i6:f.i.length<=6
 ind:(f.i.map (·.1)).Nodup
 inn:∀p∈f.i,pR p.1=true/\TabOk p.2
 r1:2<=f.r.length
 r8:f.r.length<=8
 rnd:(f.r.map (·.1)).Nodup
 rn:∀p∈f.r,pR p.1=true/\-4000<=p.2.1/\p.2.1<=4000/\1<=p.2.2/\p.2.2<=100
def bw5(l:List Int){i:Int}(h0:0<=i)(h1:i<l.length):∃v,atI (l.map T.int) i=some (.int v)/\v∈l:=by
 obtain⟨k,rfl⟩:=uA h0;have hk:k<l.length:=V8
 exact⟨l[k],gR (by simp[hk]),K9 hk⟩
def sixI:List Str:=["oak","soot","oa","ink","oakoak","s"]
def sixR:List Str:=["an","b","annab","zz","nn","a"]
def ch5(l:List Str){i:Nat}(h1:i<l.length):∃v,atI (l.map T.str) (0+(i:Int))=some (.str v)/\l[i]?=some v:=by rw[R5];exact⟨l[i],gR (by simp[h1]),A2 h1⟩
theorem nK(l:List (Str×List Int)):aW (l.map (gO false))=true:=fS (λa=>by simp only[gO,cB,aW,lW,Bool.not_false,Bool.and_self]) l
theorem zR(l:List (Str×List Int)):bZ (l.map (gO true))=true:=jI (λa=>by simp only[gO,cM,bZ,qC,Bool.and_self]) l
theorem sG(o:Bool):∀l:List (Str×List Int),frzs (l.map (gO o))=l.map (gO false)
 |[]=>rfl
 |p::l=>by simp only[List.map_cons,frzs,sG o l,gO,frz,oJ]
theorem mW(l:List (Str×Int×Int)):aW (l.map iR)=true:=fS (λa=>rfl) l
theorem af7(l:List (Str×Int×Int)):bZ (l.map iR)=true:=jI (λa=>rfl) l
theorem uB(l:List (Str×Int×Int)):frzs (l.map iR)=l.map iR:=rK (λa=>rfl) l
def db9(ns:List Int):∃f,qD [.lst false (ns.map .int),.int 4]=.ok (eY true f)/\Gd f:=by
 unfold qD uP
 have ew:=cd1
 have ec:fT [.lst false (ns.map .int),.int 0]=.ok (.int (ns.getD 0 0)):=bp7 false ns 0
 have en:=dd9
 have hp:af4 (.int 10) (.int 15)=.ok (.int 1000000000000000):=by
  rw[ai7,gH (show at3 10 15 from⟨W1,W1,W1⟩)]
  rfl
 have hc0:0<=ns.getD 0 0%1000000000000000:=G7 _ W1
 generalize hc:ns.getD 0 0%1000000000000000=c at hc0
 obtain⟨span,hs,ms⟩:=bw5 [0,1,3,8,20,20,60,300] (i:=c%8) V8 (by simp;omega)
 obtain⟨first,hf,mf⟩:=bw5 [-3000,3000-span,-10,1400] (i:=c/8%4) V8 (by simp;omega)
 simp only[List.map_cons,List.map_nil]at hs hf
 walk_at "ev"
 clear hs hf hp ec en
 generalize hL:cR _ _ _ _=o
 obtain⟨ρ',rfl,inks,o7,o8,o9,o10,rfl,il,inm,iok⟩:=gY (λi ρ=>∃(inks:List (Str×List Int))(o7 o8 o9 o10:Option T),ρ=[some (T.lst false (List.map T.int ns)),some (T.int 4),some (T.int c),some (T.int span),
  some (T.int first),some (T.lst true (iI (List.map T.str (turned (c/32%8).toNat)) none (some (1+c/256%4)))),some (T.lst true (inks.map (gO true))),o7,o8,o9,o10,none,none]/\
  inks.length=i/\inks.map (·.1)=sixI.take i/\∀p∈inks,TabOk p.2) hL ⟨[],_,_,_,_,rfl,rfl,rfl,dZ⟩ (by
  rintro i t ρ et ⟨inks,o7,o8,o9,o10,rfl,il,inm,iok⟩
  obtain⟨hi,rfl⟩:=mN et
  have hw:=bs0 c 6
  have hi':i<6:=V8
  obtain⟨m,hm,mm⟩:=bw5 [12,60] (i:=c/18432%4/3) V8 (by simp;omega)
  obtain⟨nm,hn,en⟩:=ch5 sixI (i:=i) (by show i<6;exact hi')
  simp only[List.map_cons,List.map_nil,sixI]at hm hn
  have hm0:0<m:=by simp at mm;omega
  have hw2:=G7 (jL c (0+(i:Int))) (show m≠0 by omega)
  have hw3:=J6 (jL c (0+(i:Int))) hm0
  have hw4:jL c (0+(i:Int))%m<60:=by simp at mm;omega
  clear mm
  clear hL et
  walk_at "ev"
  generalize hL:cR _ _ _ _=o
  obtain⟨ρ',rfl,xs,d,p10,rfl,xl,xb,xf,hd0,hd1⟩:=gY (λj ρ=>∃(xs:List Int)(d:Int)(p10:Option T),ρ=[some (T.lst false (List.map T.int ns)),some (T.int 4),some (T.int c),some (T.int span),
   some (T.int first),some (T.lst true (iI (List.map T.str (turned (c/32%8).toNat)) none (some (1+c/256%4)))),some (T.lst true (inks.map (gO true))),some (.int (0+(i:Int))),some (.int d),some (.lst true (xs.map .int)),p10,none,none]/\
   xs.length=j+1/\(∀x∈xs,d<=x/\x<=408)/\xs.Pairwise (λa b=>b<=a)/\0<=d/\d<=408) hL ⟨[400+c/2048%9],_,_,rfl,rfl,by simp;omega,W0,V8,V8⟩ (by
   rintro j t ρ et ⟨xs,d,p10,rfl,xl,xb,xf,hd0,hd1⟩
   obtain⟨hj,rfl⟩:=mN et
   have hj':j<60:=V8
   have z0:=G7 (jL c (10*(0+(j:Int))+(0+(i:Int)))) (show(13:Int)≠0 by decide)
   have hl:xs.length<=100000:=V8
   clear hL et
   walk_at "ev"
   refine⟨xs++[if d-jL c (10*(0+(j:Int))+(0+(i:Int)))%13>0 then d-jL c (10*(0+(j:Int))+(0+(i:Int)))%13 else 0],_,_,by rw[G0];rfl,by simp[xl],?_,?_,?_,?_⟩
   . intro x hx
     rcases A3.mp hx with hx|hx
     . have:=xb x hx
       split<;>omega
     . have hx:=C5.mp hx
       subst hx
       split<;>omega
   . rw[List.pairwise_append]
     refine⟨xf,W0,λa ha b hb=>?_⟩
     have hb:=C5.mp hb
     subst hb
     have:=xb a ha
     split<;>omega
   . split<;>omega
   . split<;>omega)
  rw[gT]at xl
  clear hL
  have hl:inks.length<=100000:=V8
  walk_at "ev"
  refine⟨inks++[(nm,xs)],_,_,_,_,by rw[G0];rfl,by simp[il],?_,?_⟩
  . rw[G0,inm,List.take_succ,en]
    rfl
  . intro p hp
    rcases A3.mp hp with hp|hp
    . exact iok p hp
    . have hp:=C5.mp hp
      subst hp
      exact⟨by show 1<=xs.length;omega,by show xs.length<=60;omega,λx hx=>⟨V4 hd0 (xb x hx).1,(xb x hx).2⟩,xf⟩)
 rw[gT]at il inm
 clear hL
 have h9:0<span+9:=by simp at ms;omega
 have b0:=G7 (jL c 3) (show span+9≠0 by omega)
 have b1:=J6 (jL c 3) h9
 have b2:=bs0 c 7
 have sb:0<=span/\span<=300:=by simp at ms;omega
 have fb:-3000<=first/\first+span<=3000:=by simp at mf;omega
 walk_at "ev"
 have t1:Int.toNat 1=1:=rfl
 generalize hL:cR _ _ _ _=o
 obtain⟨ρ',rfl,r0,rest,b,q7,rfl,e0,rn,rl,rb,hb0,hb1⟩:=gY (λi ρ=>∃(r0:Str×Int×Int)(rest:List (Str×Int×Int))(b:Int)(q7:Option T),ρ=[some (T.lst false (List.map T.int ns)),some (T.int 4),some (T.int c),some (T.int span),
  some (T.int first),some (T.lst true (iI (List.map T.str (turned (c/32%8).toNat)) none (some (1+c/256%4)))),some (T.lst true (inks.map (gO true))),q7,o8,o9,o10,some (.int b),some (.lst true (iR r0::rest.map iR))]/\
  r0.1="ann"/\rest.map (·.1)=(sixR.take i).reverse++[("anna":Str)]/\rest.length=i+1/\(∀p∈r0::rest,-4000<=p.2.1/\p.2.1<=4000/\1<=p.2.2/\p.2.2<=100)/\first-5-4*i<=b/\b<=first+span+3+4*i) hL
  ⟨("ann",first-5+jL c 3%(span+9),1+jL c 4%30),[("anna",first-5+jL c 3%(span+9)+3,1+jL c 5%100)],_,_,rfl,rfl,rfl,rfl,by simp;omega,V8,V8⟩ (by
  rintro i t ρ et ⟨r0,rest,b,q7,rfl,e0,rn,rl,rb,hb0,hb1⟩
  obtain⟨hi,rfl⟩:=mN et
  have hi':i<6:=V8
  obtain⟨nm,hn,en⟩:=ch5 sixR (i:=i) (by show i<6;exact hi')
  simp only[List.map_cons,List.map_nil,sixR]at hn
  have l1:(rest.map iR).length+1<=100000:=by rw[B5];omega
  have l2:1<=(rest.map iR).length+1:=V8
  rw[B5]at l1 l2
  clear hL et
  walk_at "ev"
  rw[E6 ⟨W1,V8⟩]
  refine⟨r0,(nm,b+jL c (8+(0+(i:Int)))%9-4,1+jL c (14+(0+(i:Int)))%60)::rest,_,_,rfl,e0,?_,by simp[rl],?_,?_,?_⟩
  . rw[B8,rn,List.take_succ,en]
    simp
  . intro p hp
    rcases B9.mp hp with rfl|hp
    . exact rb _ A7
    . rcases B9.mp hp with rfl|hp
      . simp only
        omega
      . exact rb p (A5 _ hp)
  . omega
  . omega)
 rw[gT]at rn rl hb0 hb1
 clear hL
 have k0:0<=1+c/256%4:=V8
 obtain⟨kn,hkn⟩:=uA k0
 have ct:iI (List.map T.str (turned (c/32%8).toNat)) none (some (1+c/256%4))=((turned (c/32%8).toNat).take kn).map .str:=by
  rw[hkn,ay0,R9]
 have hk8:1<=kn/\kn<=8:=V8
 obtain⟨kt,hkt⟩:∃kt:Nat,kt<8/\(c/32%8).toNat=kt:=⟨(c/32%8).toNat,V8,rfl⟩
 obtain⟨im,him⟩:∃im:Nat,(2<=im/\im<=6)/\(2+jL c 6%5).toNat=im:=⟨_,V8,rfl⟩
 obtain⟨rm,hrm⟩:∃rm:Nat,rm<=6/\(jL c 7%7).toNat=rm:=⟨_,V8,rfl⟩
 rw[hkt.2]at ct
 rw[him.2]at il inm
 rw[hrm.2]at rn rl
 rw[hkt.2]
 refine⟨⟨first,span,(turned kt).take kn,inks,r0::rest⟩,?_,?_⟩
 . clear hkn
   walk_at "ev"
   simp only[eY,List.map_cons]
 . have turn_ok:∀k,k<8->(turned k).length=8/\(turned k).Nodup/\∀x∈turned k,pR x=true:=V9
   obtain⟨u1,u2,u3⟩:=turn_ok kt hkt.1
   have ink_ok:sixI.Nodup/\∀x∈sixI,pR x=true:=V9
   have rg_ok:∀k,k<=6->(("ann":Str)::((sixR.take k).reverse++[("anna":Str)])).Nodup/\∀x∈("ann":Str)::((sixR.take k).reverse++[("anna":Str)]),pR x=true:=V9
   obtain⟨v1,v2⟩:=rg_ok rm hrm.1
   have rnm:(r0::rest).map (·.1)=("ann":Str)::((sixR.take rm).reverse++[("anna":Str)]):=by rw[B8,rn,e0]
   exact{
    s0:=sb.1
    s1:=sb.2
    f0:=fb.1
    f1:=fb.2
    n1:=by simp[u1];omega
    n8:=by simp[u1];omega
    nn:=λx hx=>u3 x (O8 hx)
    nd:=u2.sublist (List.take_sublist _ _)
    i1:=by show 2<=inks.length;omega
    i6:=by show inks.length<=6;omega
    ind:=by show(inks.map (·.1)).Nodup;rw[inm];exact ink_ok.1.sublist (List.take_sublist _ _)
    inn:=λp hp=>⟨ink_ok.2 _ (O8 (i:=im) (by rw[<-inm];exact N2 hp)),iok p hp⟩
    r1:=by simp[rl]
    r8:=by simp[rl];omega
    rnd:=by show((r0::rest).map (·.1)).Nodup;rw[rnm];exact v1
    rn:=λp hp=>⟨v2 _ (by rw[<-rnm];exact N2 hp),rb p hp⟩}
def tZ{n:Nat}(h:n<=100000):n<=sizeLine:=J2 h W1
theorem fm0{α:Type}(l:List α)(p:α->Bool):(l.map λc=>p c).all id=l.all p:=by
 induction l with
 |nil=>rfl
 |cons a l ih=>simp only[List.map_cons,List.all_cons,ih,id]
theorem lZ{α:Type}{b:T->Fr->Option Fr}{c:Fr->Res Bool}{d:Fr->Res T}{ρ:Fr}{g f:α->T}:∀{l:List α},(∀a∈l,(match b (g a) ρ with|some ρ1=>(c ρ1).bind λk=>if k=true then d ρ1 else .no|none=>.no)=.ok (f a))->bY b c d ρ (l.map g)=.ok (l.map f)
 |[],_=>rfl
 |a::l,h=>by
  have h0:=h a A7;have ih:=lZ (l:=l) λu hu=>h u (A5 _ hu);simp only[List.map_cons,bY];cases e:b (g a) ρ with
  |none=>rw[e]at h0;cases h0
  |some ρ1=>
   rw[e]at h0;simp only at h0⊢;cases e2:c ρ1 with
   |ok k=>
    rw[e2]at h0;simp only[rV]at h0⊢;cases k with
    |true=>rw[E6 rfl]at h0⊢;rw[h0,ih];rfl
    |false=>rw[E5 W1]at h0;cases h0
   |ex x=>rw[e2]at h0;cases h0
   |no=>rw[e2]at h0;cases h0
theorem bg8(w s:Str)(m:Int)(hw:w.length<=100000):sN [.str w,.str s,.int m]=.ok (.bl (decide (1<=(w.length:Int))&&(decide ((w.length:Int)<=m)&&w.cps.toList.all λc=>occ s ⟨#[c]⟩))):=by
 unfold sN tD;have h2:w.cps.toList.length<=sizeLine:=by rw[<-dq6];exact tZ hw
 have hc:bY (aH 3) cG (aE (inT false) (aB 3) (aB 1)) [some (.str w),some (.str s),some (.int m),none] (w.cps.toList.map λc=>T.str ⟨#[c]⟩)=.ok ((w.cps.toList.map λc=>occ s ⟨#[c]⟩).map .bl):=by rw[G5];exact cW λc _=>by walk_at "ev";rfl
 walk_at "ev";cases hA:decide (1<=(w.length:Int))with
 |false=>walk_at "ev"
 |true=>
  cases hB:decide ((w.length:Int)<=m)with
  |false=>walk_at "ev"
  |true=>walk_at "ev";rw[fm0]
def aw3{w:Str}(h:pR w=true):w.length<=8:=by unfold pR at h;simp only[Bool.and_eq_true,decide_eq_true_iff]at h;omega
def cg5{w:Str}(h:pR w=true):vF [.str w]=.ok (.bl true):=by unfold vF yP;have h1:=bg8 w "abcdefghijklmnopqrstuvwxyz" 8 (by have:=aw3 h;omega);rw[show(decide (1<=(w.length:Int))&&(decide ((w.length:Int)<=8)&&w.cps.toList.all λc=>occ "abcdefghijklmnopqrstuvwxyz" ⟨#[c]⟩))=true from h]at h1;walk_at "ev"
theorem aa9(x l u:Int):eC [.int x,.int l,.int u]=.ok (.bl (decide (l<=x)&&decide (x<=u))):=by
 have h:wI [.int x]=.ok (.bl true):=by unfold wI wK;walk_at "ev"
 unfold eC oC;cases hA:decide (l<=x)with
 |true=>walk_at "ev"
 |false=>walk_at "ev"
def rF{x l u:Int}(h1:l<=x)(h2:x<=u):eC [.int x,.int l,.int u]=.ok (.bl true):=by rw[aa9,F8 h1,F8 h2];rfl
def eb3{α:Type}(l:List α):l.map (λ_=>T.bl true)=(l.map λ_=>true).map T.bl:=by rw[G5];rfl
def pK{α:Type}(o:Bool)(l:List α):jU false [.lst o (l.map λ_=>T.bl true)]=.ok (.bl true):=by rw[eb3,cq2];simp
def uE{xs:List Int}{i:Nat}(h:i<xs.length):atI (xs.map T.int) (i:Int)=some (.int (xs.getD i 0)):=
 gR (by rw[F7,A2 h,A6,A2 h];rfl)
def ek0{xs:List Int}(h:xs.Pairwise (λa b=>b<=a)){i:Nat}(hi:i+1<xs.length):xs.getD (i+1) 0<=xs.getD i 0:=by rw[List.pairwise_iff_getElem]at h;have:=h i (i+1) V8 hi V8;simpa[List.getD_eq_getElem?_getD,List.getElem?_eq_getElem hi,List.getElem?_eq_getElem (show i<xs.length by omega)]using this
def ck3(o:Bool){xs:List Int}(h:TabOk xs):sJ [.lst o (xs.map .int)]=.ok (.bl true):=by
 unfold sJ wO;obtain⟨h1,h60,hb,hf⟩:=h;have hc1:bY (aH 1) cG (aX 3 eC (aD (aB 1) (aD (dC (.int 0)) (aD (dC (.int 1000000)) aI)))) [some (.lst o (xs.map .int)),none,none] (xs.map .int)=.ok (xs.map λ_=>.bl true):=by refine cW λc hc=>?_;have:=rF (hb c hc).1 (V4 (hb c hc).2 (show(408:Int)<=1000000 by decide));walk_at "ev"
 have hc2:bY (aH 2) cG (aE tH (aE aQ (aB 0) (aB 2)) (aE aQ (aB 0) (aE eJ (aB 2) (dC (.int 1))))) [some (.lst o (xs.map .int)),none,none] (gM 1 ((xs.length:Int)-1).toNat)=.ok ((List.range (xs.length-1)).map λ_=>.bl true):=by
  unfold gM;rw[show((xs.length:Int)-1).toNat=xs.length-1 by omega];refine cW λi hi=>?_;have hi:=J0.mp hi;have a1:atI (xs.map T.int) (1+(i:Int))=some (.int (xs.getD (i+1) 0)):=by rw[show(1:Int)+(i:Int)=((i+1:Nat):Int) by omega];exact uE V8
  have a2:atI (xs.map T.int) (1+(i:Int)-1)=some (.int (xs.getD i 0)):=by rw[show(1:Int)+(i:Int)-1=(i:Int) by omega];exact uE V8
  have a3:=F8 (ek0 hf (i:=i) V8);walk_at "ev"
 have hl2:(gM 1 ((xs.length:Int)-1).toNat).length<=sizeLine:=by rw[gT];exact tZ V8
 have k1:decide (1<=(xs.length:Int))=true:=F8 V8;have k2:decide ((xs.length:Int)<=60)=true:=F8 V8;have y1:=λo=>pK o xs;have y2:=λo=>pK o (List.range (xs.length-1));clear hb hf;walk_at "ev"
def cd4{b l:Int}(h1:-4000<=b)(h2:b<=4000)(h3:1<=l)(h4:l<=100):tO [.int b,.int l]=.ok (.bl true):=by unfold tO wA;have k1:=rF h1 h2;have k2:=rF h3 h4;walk_at "ev"
def bn9{a b:Int}(h1:-3000<=a)(h2:a<=b)(h3:b<=3000)(h4:b-a<=300):uX [.int a,.int b]=.ok (.bl true):=by unfold uX uU;have k1:=rF h1 (show a<=3000 by omega);have k2:=rF (show -3000<=b by omega) h3;have k3:decide (0<=b-a)=true:=F8 V8;have k4:decide (b-a<=300)=true:=F8 V8;walk_at "ev"
def zU{o:Bool}{ss:List Str}{l u:Int}(h1:l<=ss.length)(h2:(ss.length:Int)<=u)(h3:ss.length<=1000)(hn:∀x∈ss,pR x=true)(nd:ss.Nodup):nL [.lst o (ss.map .str),.int l,.int u]=.ok (.bl true):=by
 unfold nL vE;have hc:bY (aH 3) cG (aX 1 vF (aD (aB 3) aI)) [some (.lst o (ss.map .str)),some (.int l),some (.int u),none] (ss.map .str)=.ok (ss.map λ_=>.bl true):=by refine cW λc hc=>?_;have:=cg5 (hn c hc);walk_at "ev"
 have k1:decide (l<=(ss.length:Int))=true:=F8 h1;have k2:decide ((ss.length:Int)<=u)=true:=F8 h2;have y1:=λo=>pK o ss;have ls:=cl9 o nd h3;have l4:ss.length<=100000:=V8
 clear hn nd;walk_at "ev";simp
def cy2{is:List (Str×List Int)}(h6:is.length<=6)(nd:(is.map (·.1)).Nodup)(ok:∀p∈is,pR p.1=true/\TabOk p.2):wG [.lst false (is.map (gO false))]=.ok (.bl true):=by
 unfold wG wH;have hc1:bY (eW (bC (aH 1) (bC (aH 2) eZ))) cG (aP (aB 1)) [some (.lst false (is.map (gO false))),none,none] (is.map (gO false))=.ok ((is.map (·.1)).map .str):=by rw[G5];exact lZ λp _=>by simp only[gO];walk_at "ev";rfl
 have hc2:bY (eW (bC (aH 1) (bC (aH 2) eZ))) cG (aX 1 sJ (aD (aB 2) aI)) [some (.lst false (is.map (gO false))),none,none] (is.map (gO false))=.ok (is.map λ_=>.bl true):=by refine lZ λp hp=>?_;simp only[gO];have:=ck3 false (ok p hp).2;walk_at "ev"
 have nm:=zU (o:=false) (ss:=is.map (·.1)) (l:=0) (u:=6) V8 (by simp;omega) (by simp;omega) (λx hx=>by obtain⟨p,hp,rfl⟩:=K1.mp hx;exact(ok p hp).1) nd;have y1:=λo=>pK o is;have n1:=nK is;have l4:is.length<=100000:=V8
 clear ok nd;walk_at "ev"
def bu5{rs:List (Str×Int×Int)}(h8:rs.length<=8)(nd:(rs.map (·.1)).Nodup)(ok:∀p∈rs,pR p.1=true/\-4000<=p.2.1/\p.2.1<=4000/\1<=p.2.2/\p.2.2<=100):tG [.lst false (rs.map iR)]=.ok (.bl true):=by
 unfold tG tM;have hc1:bY (eW (bC (aH 1) (bC (aH 2) (bC (aH 3) eZ)))) cG (aP (aB 1)) [some (.lst false (rs.map iR)),none,none,none] (rs.map iR)=.ok ((rs.map (·.1)).map .str):=by rw[G5];exact lZ λp _=>by simp only[iR];walk_at "ev";rfl
 have hc2:bY (eW (bC (aH 1) (bC (aH 2) (bC (aH 3) eZ)))) cG (aX 2 tO (aD (aB 2) (aD (aB 3) aI))) [some (.lst false (rs.map iR)),none,none,none] (rs.map iR)=.ok (rs.map λ_=>.bl true):=by refine lZ λp hp=>?_;simp only[iR];obtain⟨_,k1,k2,k3,k4⟩:=ok p hp;have:=cd4 k1 k2 k3 k4;walk_at "ev"
 have nm:=zU (o:=false) (ss:=rs.map (·.1)) (l:=0) (u:=8) V8 (by simp;omega) (by simp;omega) (λx hx=>by obtain⟨p,hp,rfl⟩:=K1.mp hx;exact(ok p hp).1) nd;have y1:=λo=>pK o rs;have n1:=mW rs;have l4:rs.length<=100000:=V8
 clear ok nd;walk_at "ev"
def bQ(o:Bool)(f:Fm):T:=.ins o "Archive" ["first","present","letters","inks","reigns"] [.int f.a,.int (f.a+f.s),.lst o (f.n.map .str),.lst o (f.i.map (gO o)),.lst o (f.r.map iR)]
theorem fi1:iO "first" []=none:=rfl
def fi2:iO "present" ["first"]=none:=V9
def fi3:iO "letters" ["first","present"]=none:=V9
def fi4:iO "inks" ["first","present","letters"]=none:=V9
def fi5:iO "reigns" ["first","present","letters","inks"]=none:=V9
def ct1:(["Archive"]:List Str).contains "Archive"=true:=V9
def bz5{f:Fm}(g:Gd f):tV [.int f.a,.int (f.a+f.s),.lst false (f.n.map .str),.lst false (f.i.map (gO false)),.lst false (f.r.map iR)]=.ok (bQ true f):=by
 unfold tV mH bQ;have k1:=bn9 g.f0 (show f.a<=f.a+f.s by have:=g.s0;omega) g.f1 (by have:=g.s1;omega);have k2:=zU (o:=false) (l:=1) (u:=8) (ss:=f.n) (by have:=g.n1;omega) (by have:=g.n8;omega) (by have:=g.n8;omega) g.nn g.nd;have k3:=cy2 g.i6 g.ind g.inn;have k4:=bu5 g.r8 g.rnd g.rn;have n1:=nK f.i;have n2:=mW f.r;have z1:=sG false f.i;have z2:=uB f.r;have i1:=fi1;have i2:=fi2;have i3:=fi3;have i4:=fi4;have i5:=fi5;have c1:=ct1;have d0:∀x y z:T,bY (eW (bC (aH 6) (bC (aH 7) eZ))) cG (cD (aD (aP (aB 6)) (aD (bN kW (aD (aB 7) aI)) aI))) [some x,some (.int f.a),some (.int (f.a+f.s)),some y,some (.lst false (f.i.map (gO false))),some z,none,none,none,none] (f.i.map (gO false))=.ok (f.i.map (gO true)):=λx y z=>
  lZ λp _=>by simp only[gO];walk_at "ev"
 have d1:∀x y z:T,bY (eW (bC (aH 6) (bC (aH 8) (bC (aH 9) eZ)))) cG (cD (aD (aP (aB 6)) (aD (aP (aB 8)) (aD (aP (aB 9)) aI)))) [some x,some (.int f.a),some (.int (f.a+f.s)),some y,some z,some (.lst false (f.r.map iR)),none,none,none,none] (f.r.map iR)=.ok (f.r.map iR):=λx y z=>
  lZ λp _=>by simp only[iR];walk_at "ev"
 have l5:f.r.length<=100000:=by have:=g.r8;omega
 have l4:f.i.length<=100000:=by have:=g.i6;omega
 clear g;have q1:decide (0<1000)=true:=rfl;have q2:decide (1<1000)=true:=rfl;have q3:decide (2<1000)=true:=rfl;have q4:decide (3<1000)=true:=rfl;have q5:decide (4<1000)=true:=rfl;walk_at "ev"
def jD(o:Bool)(f:Fm):frz (bQ o f)=bQ false f:=by simp only[bQ,frz,frzs,yN,sG,uB]
def kC(f:Fm):cB (bQ false f)=true:=by simp only[bQ,cB,aW,nP,nK,mW,Bool.not_false,Bool.and_self]
def ba6(f:Fm):cM (bQ true f)=true:=by simp only[bQ,cM,bZ,zJ,zR,af7,Bool.and_self]
def aj6(o:Bool)(f:Fm):iA ["Archive"] "first" (bQ o f)=.ok (.int f.a):=W3
def ad8(o:Bool)(f:Fm):iA ["Archive"] "present" (bQ o f)=.ok (.int (f.a+f.s)):=W3
def wM(o:Bool)(f:Fm):iA ["Archive"] "letters" (bQ o f)=.ok (.lst o (f.n.map .str)):=W3
def ci1(o:Bool)(f:Fm):iA ["Archive"] "inks" (bQ o f)=.ok (.lst o (f.i.map (gO o))):=W3
def bo3(o:Bool)(f:Fm):iA ["Archive"] "reigns" (bQ o f)=.ok (.lst o (f.r.map iR)):=W3
theorem iW{α:Type}(a:α)(l:List α):atI (a::l) 0=some a:=gR (j:=0) rfl
theorem iQ{α:Type}(a b:α)(l:List α):atI (a::b::l) 1=some b:=gR (j:=1) rfl
theorem nW{α:Type}(a b c:α)(l:List α):atI (a::b::c::l) 2=some c:=gR (j:=2) rfl
theorem tF{α:Type}(a b c d:α)(l:List α):atI (a::b::c::d::l) 3=some d:=gR (j:=3) rfl
theorem ix4{α:Type}(a b c d e:α)(l:List α):atI (a::b::c::d::e::l) 4=some e:=gR (j:=4) rfl
def bg4{f:Fm}(g:Gd f):nH [eY false f]=.ok (bQ true f):=by
 unfold nH qQ;have hc:bY (eW (bC (aH 2) (bC (aH 3) eZ))) cG (cD (aD (aP (aB 2)) (aD (bN kW (aD (aB 3) aI)) aI))) [some (eY false f),none,none,none] (f.i.map (gO false))=.ok (f.i.map (gO true)):=
  lZ λp _=>by simp only[gO];walk_at "ev"
 have k:=bz5 g;have n1:=nK f.i;have n2:=mW f.r;have z1:=sG true f.i;have z2:=uB f.r;have z3:=zR f.i;have l4:f.i.length<=100000:=by have:=g.i6;omega
 have ca:=ba6 f;have a0:=λl=>iW (T.int f.a) l;simp only[eY]at hc⊢;clear g;have b0:=@iW T;have b1:=@iQ T;have b2:=@nW T;have b3:=@tF T;have b4:=@ix4 T;walk_at "ev"
def oE:Option Int->T
 |none=>.non
 |some h=>.int h
def lX:List Str:=["Ink","Reign","Under","Between","After","Same","Within","Apart"]
def iS(o:Bool)(c:Str)(ls:List Int)(lo:Int)(hi:Option Int)(x:Str):T:=.ins o c ["spoken","low","high","text"] [.lst o (ls.map .int),.int lo,oE hi,.str x]
def ba1(h:Option Int):cB (oE h)=true/\cM (oE h)=true/\frz (oE h)=oE h:=by cases h<;>exact⟨rfl,rfl,rfl⟩
theorem ag2(h:Option Int):cB (oE h)=true:=(ba1 h).1
theorem ar6(h:Option Int):cM (oE h)=true:=(ba1 h).2.1
theorem cm8(h:Option Int):frz (oE h)=oE h:=(ba1 h).2.2
def bv5(c:Str)(ls:List Int)(lo:Int)(hi:Option Int)(x:Str):cM (iS true c ls lo hi x)=true:=by simp only[iS,cM,bZ,qC,ar6,Bool.and_self]
def db2(c:Str)(ls:List Int)(lo:Int)(hi:Option Int)(x:Str):cB (iS false c ls lo hi x)=true:=by simp only[iS,cB,aW,lW,ag2,Bool.not_false,Bool.and_self]
def ee1(o:Bool)(c:Str)(ls:List Int)(lo:Int)(hi:Option Int)(x:Str):frz (iS o c ls lo hi x)=iS false c ls lo hi x:=by simp only[iS,frz,frzs,oJ,cm8]
theorem fj1:iO "spoken" []=none:=rfl
def fj2:iO "low" ["spoken"]=none:=V9
def fj3:iO "high" ["spoken","low"]=none:=V9
def fj4:iO "text" ["spoken","low","high"]=none:=V9
def ct8:∀c∈lX,(["Ink","Reign","Under","Between","After","Same","Within","Apart"]:List Str).contains c=true:=V9
def dp7{ys:List Str}(h:∀y∈ys,y.length<=2000000)(hl:ys.length<=5)(o:Bool):av1 (.str " ") [.lst o (ys.map .str)]=.ok (.str (Txt.join " " ys)):=by
 rw[cf1,E6];have hs:(ys.map (·.length)).sum<=ys.length*2000000:=by
  clear hl;induction ys with
  |nil=>simp
  |cons y ys ih=>have h1:=h y A7;have h2:=ih λz hz=>h z (A5 _ hz);simp only[List.map_cons,List.sum_cons,List.length_cons];omega
 have h1:(" ":Str).length=1:=V9
 rw[h1];have:ys.length*2000000<=5*2000000:=Nat.mul_le_mul_right _ hl;omega
theorem ae3(n:Str):∀ss:List Str,rJ (.str n) (ss.map .str)=some (ss.map λs=>s==n)
 |[]=>rfl
 |s::ss=>by simp only[List.map_cons,rJ,ae3 n ss];rfl
theorem cr1{n:Str}:∀{ss:List Str}{l:Nat},ss.Nodup->ss[l]?=some n->aq1 (ss.map λs=>s==n)=some l
 |[],l,_,h=>by simp at h
 |s::ss,0,_,h=>by simp at h;subst h;simp[aq1]
 |s::ss,l+1,nd,h=>by
  rw[E9]at nd;simp only[List.getElem?_cons_succ]at h;have hne:(s==n)=false:=by simp;rintro rfl;exact nd.1 (C6 h)
  simp only[List.map_cons,hne,aq1,cr1 nd.2 h];rfl
def ds7{f:Fm}(g:Gd f){l:Nat}{n:Str}(h:f.n[l]?=some n)(o:Bool):aj0 (.lst o (f.n.map .str)) [.str n]=.ok (.int (l:Int)):=by simp only[aj0,ae3,cr1 g.nd h]
def do2{ss:List Str}{n:Str}(h:n∈ss)(o:Bool):inT false (.str n) (.lst o (ss.map .str))=.ok (.bl true):=by
 have:(ss.map λs=>s==n).any id=true:=by rw[List.any_map,N6];exact⟨n,h,W0⟩
 simp only[inT,ae3,Bool.false_eq_true,if_false,this]
def dh1{ts:List T}{ys:List Str}{z:Str}(hn:aW ts=true)(hl:ts.length<=100000)(hx:∀a:Option T,bY (aH 1) cG (bN yD (aD (aB 1) aI)) [a,none] ts=.ok (ys.map .str))(hj:av1 (.str " ") [.lst true (ys.map .str)]=.ok (.str z)):ad1 [.lst false ts]=.ok (.str z):=by unfold ad1 ak1;walk_at "ev"
def ey1{f:Fm}(g:Gd f){c w:Str}(hc:c∈lX){ps:List T}{ds:List T}{nl:List (Str×Nat)}{xs:List Str}{lo:Int}{hi:Option Int}(hp:aW ps=true)(hpl:ps.length<=4)(hk:kt_PARTS.lookup w=some (.tup ds))(hds:aW ds=true)
 (h7:∀a b d e h i:Option T,bY (eW (bC (aH 7) (bC (aH 8) eZ))) (aU (aE eV (aB 8) (dC (.str "letter")))) (aP (aB 7)) [a,b,d,e,h,i,none,none,none,none] (kL ps ds)=.ok ((nl.map (·.1)).map .str))
 (hn:nl.length<=4)(hnl:∀p∈nl,f.n[p.2]?=some p.1)
 (hx:∀a:Option T,bY (aH 1) cG (bN yD (aD (aB 1) aI)) [a,none] (.str w::ps)=.ok ((w::xs).map .str))(hxl:xs.length<=4)(hxb:∀y∈w::xs,y.length<=2000000):
 ∃x,kY (cH (cE 10 [.ins true c [] [],bQ false f,.str w,.lst false ps,.int lo,oE hi]))=.ok (iS true c (nl.map λp=>(p.2:Int)) lo hi x):=by
 refine⟨Txt.join " " (w::xs),?_⟩;unfold cH iS;have hl7:(kL ps ds).length<=sizeLine:=by rw[al4];exact tZ V8
 have i1:=fj1;have i2:=fj2;have i3:=fj3;have i4:=fj4;have cc:=ct8 c hc;have fl:=wM false f;have h9:bY (aH 9) cG (dBM aa8 aj0 (fV (iA ["Archive"] "letters") (aB 1)) (aD (aB 9) aI)) [some (.ins true c [] []),some (bQ false f),some (.str w),some (.lst false ps),some (.int lo),some (oE hi),some (.lst true ((nl.map (·.1)).map .str)),none,none,none] ((nl.map (·.1)).map .str)=.ok ((nl.map λp=>(p.2:Int)).map .int):=by rw[G5,G5];refine cW (α:=Str×Nat) λp hp=>?_;have:=ds7 g (hnl p hp) false;walk_at "ev";exact this
 have nh:=ag2 hi;have jn:=dp7 (ys:=w::xs) hxb (by simp;omega) true;have sp:=dh1 (ts:=.str w::ps) (by simp only[aW,cB,hp,Bool.and_self]) (by simp only[List.length_cons];omega) hx jn;have zp:=dR ps hp;clear hx jn;have np:=nP;have hxl2:1+xs.length<=sizeLine:=tZ V8;have hnn:(nl.map (·.1)).length<=100000:=by simp;omega
 have q1:decide (0<1000)=true:=rfl;have q2:decide (1<1000)=true:=rfl;have q3:decide (2<1000)=true:=rfl;have q4:decide (3<1000)=true:=rfl;clear g hnl hxb;walk_at "ev"
def cl7{a:T}{ts us:List T}(h:a∈kL ts us):∃(i:Nat)(t u:T),ts[i]?=some t/\us[i]?=some u/\a=.tup [t,u]:=by obtain⟨i,hi⟩:=List.getElem?_of_mem h;obtain⟨t,u,h1,h2,h3⟩:=bk3 hi;exact⟨i,t,u,h1,h2,h3⟩
def ci4{ts:List T}{i:Nat}{t:T}(h:aW ts=true)(e:ts[i]?=some t):cB t=true:=by rw[vS,J3]at h;exact h t (C6 e)
def ca8{f:Fm}{w:Str}{ps:List T}{ds:List Str}(hk:kt_PARTS.lookup w=some (.tup (ds.map .str)))(hp:aW ps=true)(hl:ps.length=ds.length)(h4:ds.length<=4)
 (h:∀(i:Nat)(d:Str)(p:T),ds[i]?=some d->ps[i]?=some p->iH [bQ false f,.str d,p]=.ok (.bl true)):vL [bQ false f,.str w,.lst false ps]=.ok (.bl true):=by
 unfold vL yO;have na:=kC f;have za:=jD false f;have hc:bY (eW (bC (aH 3) (bC (aH 4) eZ))) cG (aX 3 iH (aD (aB 0) (aD (aB 3) (aD (aB 4) aI)))) [some (bQ false f),some (.str w),some (.lst false ps),none,none] (kL (ds.map .str) ps)=.ok ((kL (ds.map .str) ps).map λ_=>.bl true):=by
  have:=lZ (b:=eW (bC (aH 3) (bC (aH 4) eZ))) (c:=cG) (d:=aX 3 iH (aD (aB 0) (aD (aB 3) (aD (aB 4) aI)))) (ρ:=[some (bQ false f),some (.str w),some (.lst false ps),none,none]) (g:=id) (f:=λ_=>T.bl true) (l:=kL (ds.map .str) ps) λa ha=>?_
  . rw[List.map_id]at this;exact this
  obtain⟨i,t,u,h1,h2,rfl⟩:=cl7 ha;rw[F7]at h1;cases e:ds[i]? with
  |none=>rw[e]at h1;cases h1
  |some d=>rw[e]at h1;cases h1;have k:=h i d u e h2;have nu:=ci4 hp h2;have zu:=bb3 u nu;simp only[id];clear h hk hp ha;walk_at "ev"
 have hs:(kt_PARTS.lookup w).isSome=true:=by rw[hk];rfl
 have e1:(!((ps.length:Int)==(ds.length:Int)))=false:=by rw[hl];simp
 have hpl:(kL (ds.map .str) ps).length<=sizeLine:=by rw[al4,B5];exact tZ V8
 have y:=λo=>pK o (kL (ds.map .str) ps);have nd:=nP ds;clear h hl;walk_at "ev"
def xH:∀d∈(["ink","reign","dark","place","year","later","gap"]:List Str),(d=="letter")=false:=V9
def eu4:∀d∈(["reign","dark","place","year","later","gap"]:List Str),(d=="ink")=false:=V9
def fe0:∀d∈(["dark","place","year","later","gap"]:List Str),(d=="reign")=false:=V9
def iF{f:Fm}{n:Str}(h:n∈f.n):iH [bQ false f,.str "letter",.str n]=.ok (.bl true):=by unfold iH rE;have k:=do2 h false;have fl:=wM false f;have e:(("letter":Str)=="letter")=true:=L9 _;walk_at "ev"
def dr6{f:Fm}(g:Gd f){n:Str}(h:n∈f.i.map (·.1)):iH [bQ false f,.str "ink",.str n]=.ok (.bl true):=by
 unfold iH rE;have fl:=ci1 false f;have e:(("ink":Str)=="ink")=true:=L9 _;have e1:=xH "ink" V9;have k:=do2 h true;have b0:=@iW T;have l6:f.i.length<=100000:=by have:=g.i6;omega
 have n1:=nK f.i;have hc:bY (aH 3) cG (aP (aE aQ (aB 3) (dC (.int 0)))) [some (bQ false f),some (.str "ink"),some (.str n),none,none] (f.i.map (gO false))=.ok ((f.i.map (·.1)).map .str):=by rw[G5];exact cW λp _=>by simp only[gO];walk_at "ev";rfl
 clear g h;walk_at "ev"
def bo2{f:Fm}(g:Gd f){n:Str}(h:n∈f.r.map (·.1)):iH [bQ false f,.str "reign",.str n]=.ok (.bl true):=by
 unfold iH rE;have fl:=bo3 false f;have e:(("reign":Str)=="reign")=true:=L9 _;have e1:=xH "reign" V9;have e2:=eu4 "reign" V9;have k:=do2 h true;have b0:=@iW T;have l6:f.r.length<=100000:=by have:=g.r8;omega
 have n1:=mW f.r;have hc:bY (aH 4) cG (aP (aE aQ (aB 4) (dC (.int 0)))) [some (bQ false f),some (.str "reign"),some (.str n),none,none] (f.r.map iR)=.ok ((f.r.map (·.1)).map .str):=by rw[G5];exact cW λp _=>by simp only[iR];walk_at "ev";rfl
 clear g h;walk_at "ev"
def sD{f:Fm}{d:Str}{lo hi i:Int}(hd:d∈(["dark","place","year","later","gap"]:List Str))(hk:kt_NUMBERS.lookup d=some (.tup [.int lo,.int hi]))(h1:lo<=i)(h2:i<=hi):iH [bQ false f,.str d,.int i]=.ok (.bl true):=by unfold iH rE;have e1:=xH d (A5 _ (A5 _ hd));have e2:=eu4 d (A5 _ hd);have e3:=fe0 d hd;have k:=rF h1 h2;have b0:=@iW T;have b1:=@iQ T;walk_at "ev"
def cv0:kt_NUMBERS.lookup ("dark":Str)=some (.tup [.int 0,.int 1000000]):=W3
def ct9:kt_NUMBERS.lookup ("place":Str)=some (.tup [.int 1,.int 100]):=W3
def cx0:kt_NUMBERS.lookup ("year":Str)=some (.tup [.int (-4000),.int 4000]):=W3
def dg1:kt_NUMBERS.lookup ("later":Str)=some (.tup [.int 0,.int 300]):=W3
def cw6:kt_NUMBERS.lookup ("gap":Str)=some (.tup [.int (-300),.int 300]):=W3
abbrev d_ink:List Str:=["letter","ink","dark","dark"]
abbrev d_reign:List Str:=["letter","reign","place"]
abbrev d_under:List Str:=["letter","reign"]
abbrev d_between:List Str:=["letter","year","year"]
abbrev d_two:List Str:=["letter","letter"]
abbrev d_within:List Str:=["letter","letter","later"]
abbrev d_apart:List Str:=["letter","letter","gap","gap"]
def ei5:kt_PARTS.lookup ("ink":Str)=some (.tup (d_ink.map .str)):=W3
def dy1:kt_PARTS.lookup ("reign":Str)=some (.tup (d_reign.map .str)):=W3
def cy9:kt_PARTS.lookup ("under":Str)=some (.tup (d_under.map .str)):=W3
def cg3:kt_PARTS.lookup ("between":Str)=some (.tup (d_between.map .str)):=W3
def dg3:kt_PARTS.lookup ("after":Str)=some (.tup (d_two.map .str)):=W3
def dy8:kt_PARTS.lookup ("same":Str)=some (.tup (d_two.map .str)):=W3
def cb6:kt_PARTS.lookup ("within":Str)=some (.tup (d_within.map .str)):=W3
def dp2:kt_PARTS.lookup ("apart":Str)=some (.tup (d_apart.map .str)):=W3
def eu1:tb_MAKERS.lookup ("ink":Str)=some tL:=W3
def db4:tb_MAKERS.lookup ("reign":Str)=some oZ:=W3
def db1:tb_MAKERS.lookup ("under":Str)=some pS:=W3
def cx2:tb_MAKERS.lookup ("between":Str)=some mQ:=W3
def da1:tb_MAKERS.lookup ("after":Str)=some pT:=W3
def dz6:tb_MAKERS.lookup ("same":Str)=some qV:=W3
def ck5:tb_MAKERS.lookup ("within":Str)=some oB:=W3
def cx9:tb_MAKERS.lookup ("apart":Str)=some pL:=W3
def db3{f:Fm}{w d1:Str}{ps ds:List T}{F:List T->Res T}{r:T}(hk:kt_PARTS.lookup w=some (.tup ds))(hp:aW ps=true)(hds:aW ds=true)(hd:vL [bQ false f,.str w,.lst false ps]=.ok (.bl true))(h1:atI ds 1=some (.str d1))
 (h2:(d1=="letter")=false\/((d1=="letter")=true/\∃a b:Str,atI ps 0=some (.str a)/\atI ps 1=some (.str b)/\(a==b)=false))(hm:tb_MAKERS.lookup w=some F)(hF:F [bQ false f,.lst false ps]=.ok r)(hc:cM r=true):
 dO [bQ false f,.str w,.lst false ps]=.ok r:=by
 unfold dO uM;have na:=kC f;have za:=jD false f;have zp:=dR ps hp;rcases h2 with h2|⟨h2,a,b,h3,h4,h5⟩
 . walk_at "ev"
 . walk_at "ev"
def pB(xs:List Int)(d e:Int)(j:Nat):Bool:=decide ((if xs.getD (min j (xs.length-1)) 0-d<0 then -(xs.getD (min j (xs.length-1)) 0-d)else xs.getD (min j (xs.length-1)) 0-d)<=e)
def jB(xs:List Int)(d e:Int)(n:Nat):List Int:=((List.range n).filter (pB xs d e)).map λ(j:Nat)=>(j:Int)
def cg9:List Int->T
 |[]=>.non
 |a::l=>.tup [.int a,.int ((a::l).getD l.length 0)]
def rZ(xs:List Int)(d e:Int)(n:Nat):jB xs d e (n+1)=jB xs d e n++(if pB xs d e n=true then [(n:Int)]else []):=by unfold jB;rw[P7,List.filter_append,G0];congr 1;simp only[List.filter_cons,List.filter_nil];split<;>rfl
def dk3{l:List Int}{a:Int}:atI ((a::l).map T.int) (-1)=some (.int ((a::l).getD l.length 0)):=by
 have e0:qG ((a::l).map T.int).length (-1)=some l.length:=by unfold qG;rw[E5 W1,B5,D8,E6 V8];congr 1;omega
 unfold atI;rw[e0];show((a::l).map T.int)[l.length]?=_;rw[F7,A6,A2 W0];rfl
theorem ae1(xs:List Int)(d e:Int)(n m:Nat)(h:∀j,n<=j->j<n+m->pB xs d e j=false):jB xs d e (n+m)=jB xs d e n:=by
 induction m with
 |zero=>rfl
 |succ m ih=>rw[<-Nat.add_assoc,rZ,ih (λj h1 h2=>h j h1 V8),h (n+m) V8 V8];simp
def aq4{xs:List Int}{d e:Int}{n:Nat}(h:pB xs d e n=true):∃l,jB xs d e (n+1)=l++[(n:Int)]:=⟨jB xs d e n,by rw[rZ,E6 h]⟩
def ag9(xs:List Int)(d e:Int)(n:Nat):∀x∈jB xs d e n,x<n:=by intro x hx;unfold jB at hx;obtain⟨j,hj,rfl⟩:=K1.mp hx;have:=J0.mp (O2.mp hj).1;omega
def bh3(l:List Int)(z:Int):(l++[z]).getD l.length 0=z:=by rw[A6,O9 (D6 _)];simp
def dw6(xs:List Int)(d e:Int)(G:Nat)(h0:0<xs.length)(a:Int)(l:List Int)(hh:jB xs d e (min (xs.length-1) G+1)=a::l):
 cg9 (jB xs d e (G+1))=.tup [.int a,.int (if(a::l).getD l.length 0=((xs.length-1:Nat):Int)then(G:Int)else(a::l).getD l.length 0)]:=by
 have hmem:(a::l).getD l.length 0∈a::l:=by rw[A6,A2 W0];exact K9 _
 have hb:=ag9 xs d e (min (xs.length-1) G+1) _ (by rw[hh];exact hmem);rcases Nat.lt_or_ge (xs.length-1) G with hG|hG
 . rw[S8 V8]at hh hb;have same:∀j,xs.length-1<=j->pB xs d e j=pB xs d e (xs.length-1):=by intro j hj;unfold pB;rw[S4 hj,Nat.min_self]
   cases hp:pB xs d e (xs.length-1)with
   |true=>
    have hG':pB xs d e G=true:=by rw[same G V8,hp]
    obtain⟨l1,h1⟩:=aq4 hG';obtain⟨l2,h2⟩:=aq4 hp;rw[hh]at h2;have pre:∀m,∃r,jB xs d e (xs.length-1+1+m)=a::l++r:=by
     intro m;induction m with
     |zero=>exact⟨[],by rw[Nat.add_zero,hh,K3]⟩
     |succ m ih=>obtain⟨r,hr⟩:=ih;rw[<-Nat.add_assoc,rZ,hr,J4];exact⟨_,rfl⟩
    obtain⟨r,hr⟩:=pre (G+1-(xs.length-1+1));rw[show xs.length-1+1+(G+1-(xs.length-1+1))=G+1 by omega]at hr;have last:(a::l).getD l.length 0=((xs.length-1:Nat):Int):=by
     have:l.length=l2.length:=by have:=M6 List.length h2;simp at this;exact this
     rw[h2,this,bh3]
    rw[last,E6 rfl,hr];rw[hr]at h1;show T.tup [.int a,.int ((a::(l++r)).getD (l++r).length 0)]=_;have h1':a::(l++r)=l1++[(G:Int)]:=h1;have hlen:(l++r).length=l1.length:=by have:=M6 List.length h1';simp at this⊢;exact this
    rw[h1',hlen,bh3]
   |false=>have hs:=ae1 xs d e (xs.length-1+1) (G+1-(xs.length-1+1)) (λj h1 h2=>by rw[same j V8,hp]);rw[show xs.length-1+1+(G+1-(xs.length-1+1))=G+1 by omega,hh]at hs;rw[hs];have hz:jB xs d e (xs.length-1+1)=jB xs d e (xs.length-1):=ae1 xs d e (xs.length-1) 1 (λj h1 h2=>by rw[show j=xs.length-1 by omega,hp]);have hb2:=ag9 xs d e (xs.length-1) _ (by rw[<-hz,hh];exact hmem);rw[E5 V8];rfl
 . rw[S4 hG]at hh hb;rw[hh];show T.tup [.int a,.int ((a::l).getD l.length 0)]=_;have:(if(a::l).getD l.length 0=((xs.length-1:Nat):Int)then(G:Int)else(a::l).getD l.length 0)=(a::l).getD l.length 0:=by
    split
    . next h=>rw[h];rw[h]at hb;omega
    . rfl
   rw[this]
def dm2(xs:List Int)(d e:Int)(G:Nat)(h0:0<xs.length)(hh:jB xs d e (min (xs.length-1) G+1)=[]):jB xs d e (G+1)=[]:=by
 rcases Nat.lt_or_ge (xs.length-1) G with hG|hG
 . rw[S8 V8]at hh;have hp:pB xs d e (xs.length-1)=false:=by
    cases hp:pB xs d e (xs.length-1)with
    |false=>rfl
    |true=>obtain⟨l,h⟩:=aq4 hp;rw[hh]at h;simp at h
   have hs:=ae1 xs d e (xs.length-1+1) (G+1-(xs.length-1+1)) (λj h1 h2=>by
    have:pB xs d e j=pB xs d e (xs.length-1):=by unfold pB;rw[S4 V8,Nat.min_self]
    rw[this,hp])
   rw[show xs.length-1+1+(G+1-(xs.length-1+1))=G+1 by omega,hh]at hs;exact hs
 . rw[S4 hG]at hh;exact hh
theorem cq8(o:Bool)(xs:List Int)(d e:Int)(G:Nat)(h0:xs≠[])(hx:xs.length<=1000)(hG:G<=1000):vI [.lst o (xs.map .int),.int d,.int e,.int G]=.ok (cg9 (jB xs d e (G+1))):=by
 unfold vI yV;have hl:0<xs.length:=U2.mpr h0;obtain⟨n,hn⟩:∃n,min (xs.length-1) G+1=n:=⟨_,rfl⟩;have e1:(if(G:Int)<(xs.length:Int)-1 then(G:Int)else(xs.length:Int)-1)+1=(n:Int):=by split<;>omega
 have k1:-(2^62)<=(n:Int)/\(n:Int)<2^62:=V8
 have k2:(gM 0 (n:Int).toNat).length<=sizeLine:=by rw[gT];exact tZ V8
 have hc:bY (aH 7) (aU (aE tH (bN af6 (aD (aE eJ (aE aQ (aB 0) (aB 7)) (aB 1)) aI)) (aB 2))) (aP (aB 7)) [some (.lst o (xs.map .int)),some (.int d),some (.int e),some (.int G),some (.int ((xs.length:Int)-1)),none,none,none] (gM 0 (n:Int).toNat)=.ok ((jB xs d e n).map .int):=by
  unfold gM jB;rw[K0,G5];refine pD λi hi=>?_;have hi:=J0.mp hi;have a1:=uE (xs:=xs) (i:=i) V8;have hp:pB xs d e i=decide ((if xs.getD i 0-d<0 then -(xs.getD i 0-d)else xs.getD i 0-d)<=e):=by unfold pB;rw[S8 V8]
  have z:(0:Int)+(i:Int)=(i:Int):=R5 _;refine⟨?_,λ_=>?_⟩
  . rw[hp];clear hp;walk_at "ev"
  . clear hp;walk_at "ev";rfl
 walk_at "ev";have hlast:((xs.length:Int)-1)=((xs.length-1:Nat):Int):=V8
 cases hh:jB xs d e n with
 |nil=>rw[<-hn]at hh;have z1:=dm2 xs d e G hl hh;have z2:(((0:Nat):Int)==0)=true:=rfl;rw[z1];clear hh hn e1 hc z1 hlast;walk_at "ev";rfl
 |cons a l=>
  rw[<-hn]at hh;rw[dw6 xs d e G hl a l hh];have q1:atI ((a::l).map T.int) 0=some (.int a):=gR (j:=0) rfl;have q2:atI ((a::l).map T.int) ((((a::l).map T.int).length:Int)-1)=some (.int ((a::l).getD l.length 0)):=by have:=uE (xs:=a::l) (i:=l.length) W0;rw[B5,D8,show((l.length+1:Nat):Int)-1=(l.length:Int) by omega];exact this
  have q3:((((a::l).map T.int).length:Int)==0)=false:=by rw[B5,D8,G9];omega
  have q3':(((l.length+1:Nat):Int)==0)=false:=by rw[G9];omega
  have q4:(2:Nat)<=sizeLine:=W1
  have q5:aW ((a::l).map T.int)=true:=lW _;clear hh hn e1 hc;generalize(a::l).map T.int=X at q1 q2 q3 q5⊢;generalize(a::l).getD l.length 0=z at q2⊢;cases hz:(z==((xs.length-1:Nat):Int))with
  |true=>have hz':z=((xs.length-1:Nat):Int):=eq_of_beq hz;rw[E6 hz'];clear hz';walk_at "ev"
  |false=>
   have hz':¬z=((xs.length-1:Nat):Int):=by rw[G9]at hz;exact hz
   rw[E5 hz'];clear hz';walk_at "ev"
theorem ac3{α:Type}{b:T->Fr->Option Fr}{body:Fr->bO}{g r:α->T}{key:α->Str}{n:Str}(Iv:Fr->Prop)
 (hs:∀a ρ,Iv ρ->∃ρ1,b (g a) ρ=some ρ1/\(((key a==n)=true/\body ρ1=.rt (r a))\/((key a==n)=false/\∃ρ2,body ρ1=.nx ρ2/\Iv ρ2))):
 ∀{l:List α}{ρ:Fr}{a0:α},Iv ρ->l.find? (λa=>key a==n)=some a0->cR b body (l.map g) ρ=.rt (r a0)
 |[],ρ,a0,_,h=>by simp at h
 |a::l,ρ,a0,hi,h=>by
  obtain⟨ρ1,h1,h2⟩:=hs a ρ hi;rw[List.find?_cons]at h;simp only[List.map_cons,cR,h1];rcases h2 with⟨k,h2⟩|⟨k,ρ2,h2,h3⟩
  . rw[k]at h;cases h;rw[h2]
  . rw[k]at h;rw[h2];exact ac3 Iv hs h3 h
theorem bo1{α:Type}{key:α->Str}:∀{l:List α}{a:α},(l.map key).Nodup->a∈l->l.find? (λx=>key x==key a)=some a
 |[],a,_,h=>by cases h
 |x::l,a,nd,h=>by
  rw[B8,E9]at nd;rw[List.find?_cons];rcases B9.mp h with rfl|h
  . simp
  . have:(key x==key a)=false:=by simp;intro e;exact nd.1 (by rw[e];exact N2 h)
    rw[this];exact bo1 nd.2 h
def dv6{f:Fm}(g:Gd f){p:Str×List Int}(hp:p∈f.i):gS [bQ false f,.str p.1]=.ok (.lst true (p.2.map .int)):=by
 unfold gS lE;have fl:=ci1 false f;have n1:=nK f.i;have key:∀o2 o3:Option T,cR (eW (bC (aH 2) (bC (aH 3) eZ))) (cF (aU (aE eV (aB 2) (aB 1))) (bE [] (bN kW (aD (aB 3) aI))) bJ) (f.i.map (gO false)) [some (bQ false f),some (.str p.1),o2,o3]=.rt (.lst true (p.2.map .int)):=λo2 o3=>by
  refine ac3 (key:=λq:Str×List Int=>q.1) (r:=λq:Str×List Int=>.lst true (q.2.map .int)) (λρ=>∃o2 o3,ρ=[some (bQ false f),some (.str p.1),o2,o3]) ?_ ⟨o2,o3,rfl⟩ (bo1 (key:=λq:Str×List Int=>q.1) g.ind hp);rintro a ρ ⟨o2,o3,rfl⟩;refine⟨[some (bQ false f),some (.str p.1),some (.str a.1),some (.lst false (a.2.map .int))],rfl,?_⟩;cases e:(a.1==p.1)with
  |true=>exact .inl ⟨rfl,by walk_at "ev"⟩
  |false=>exact .inr ⟨rfl,[some (bQ false f),some (.str p.1),some (.str a.1),some (.lst false (a.2.map .int))],by walk_at "ev",_,_,rfl⟩
 clear g;walk_at "ev"
def bq8{f:Fm}(g:Gd f){p:Str×Int×Int}(hp:p∈f.r):mE [bQ false f,.str p.1]=.ok (iR p):=by
 unfold mE pO;have fl:=bo3 false f;have n1:=mW f.r;have b0:=@iW T;have key:∀o2:Option T,cR (aH 2) (cF (aU (aE eV (aE aQ (aB 2) (dC (.int 0))) (aB 1))) (bE [] (aP (aB 2))) bJ) (f.r.map iR) [some (bQ false f),some (.str p.1),o2]=.rt (iR p):=λo2=>by
  refine ac3 (key:=λq:Str×Int×Int=>q.1) (r:=λq:Str×Int×Int=>iR q) (λρ=>∃o2,ρ=[some (bQ false f),some (.str p.1),o2]) ?_ ⟨o2,rfl⟩ (bo1 (key:=λq:Str×Int×Int=>q.1) g.rnd hp);rintro a ρ ⟨o2,rfl⟩;refine⟨[some (bQ false f),some (.str p.1),some (iR a)],rfl,?_⟩;simp only[iR];cases e:(a.1==p.1)with
  |true=>exact .inl ⟨rfl,by walk_at "ev"⟩
  |false=>exact .inr ⟨rfl,[some (bQ false f),some (.str p.1),some (.tup [.str a.1,.int a.2.1,.int a.2.2])],by walk_at "ev",_,rfl⟩
 clear g;walk_at "ev"
def au3{b l k:Int}(h1:1<=k)(h2:k<=l):oK [.int b,.int l,.int k]=.ok (.int (b+k-1)):=by unfold oK sQ;have:=rF h1 h2;walk_at "ev"
def vR{i:Int}(h1:-10000000<=i)(h2:i<=10000000):i.natAbs.log2<1920:=by
 by_cases e:i.natAbs=0
 . rw[e];decide
 . rw[Nat.log2_lt e];exact F6 (show i.natAbs<2^24 by omega) (Nat.pow_le_pow_right W1 W1)
def vH{i:Int}(h1:-1000000<=i)(h2:i<=1000000):(toString i:Str).length<=2000000:=by have:=PyProof.Rows.len_str_of_int i;omega
def lC{f:Fm}(g:Gd f){l:Nat}{n:Str}(h:f.n[l]?=some n):n.length<=2000000:=by have:=aw3 (g.nn n (C6 h));omega
def eL:(("letter":Str)=="letter")=true:=L9 _
def da4(f:Fm):List Str->List T->Prop
 |[],[]=>True
 |d::ds,p::ps=>iH [bQ false f,.str d,p]=.ok (.bl true)/\da4 f ds ps
 |_,_=>False
theorem bg7{f:Fm}:∀{ds:List Str}{ps:List T},da4 f ds ps->∀(i:Nat)(d:Str)(p:T),ds[i]?=some d->ps[i]?=some p->iH [bQ false f,.str d,p]=.ok (.bl true)
 |[],_,_,i,d,p,h,_=>by simp at h
 |_::_,[],h,_,_,_,_,_=>h.elim
 |d::ds,p::ps,h,0,_,_,e1,e2=>by cases e1;cases e2;exact h.1
 |d::ds,p::ps,h,i+1,_,_,e1,e2=>bg7 h.2 i _ _ e1 e2
def vK{f:Fm}(g:Gd f){c w d1:Str}{ps:List T}{ds:List Str}(nl:List (Str×Nat))(xs:List Str){lo:Int}{hi:Option Int}{F:List T->Res T}(hk:kt_PARTS.lookup w=some (.tup (ds.map .str)))(hm:tb_MAKERS.lookup w=some F)(hl:ps.length=ds.length)(h4:ds.length<=4/\nl.length<=4/\xs.length<=4)(hp:aW ps=true)(hd:da4 f ds ps)(hnl:∀p∈nl,f.n[p.2]?=some p.1)(hxb:∀y∈xs,y.length<=2000000)(h1:atI (ds.map .str) 1=some (T.str d1))
 (h2:(d1=="letter")=false\/((d1=="letter")=true/\∃a b:Str,atI ps 0=some (.str a)/\atI ps 1=some (.str b)/\(a==b)=false))
 (h7:∀a b d e h i:Option T,bY (eW (bC (aH 7) (bC (aH 8) eZ))) (aU (aE eV (aB 8) (dC (.str "letter")))) (aP (aB 7)) [a,b,d,e,h,i,none,none,none,none] (kL ps (ds.map .str))=.ok ((nl.map (·.1)).map .str))
 (hx:∀a:Option T,bY (aH 1) cG (bN yD (aD (aB 1) aI)) [a,none] (.str w::ps)=.ok ((w::xs).map .str))
 (hF:∀x,kY (cH (cE 10 [.ins true c [] [],bQ false f,.str w,.lst false ps,.int lo,oE hi]))=.ok (iS true c (nl.map λp=>(p.2:Int)) lo hi x)->cM (iS true c (nl.map λp=>(p.2:Int)) lo hi x)=true->F [bQ false f,.lst false ps]=.ok (iS true c (nl.map λp=>(p.2:Int)) lo hi x))
 (hc:c∈lX:=by decide+kernel)(hw:w.length<=2000000:=by decide+kernel):
 ∃x,dO [bQ false f,.str w,.lst false ps]=.ok (iS true c (nl.map λp=>(p.2:Int)) lo hi x):=by
 obtain⟨x,e⟩:=ey1 g hc (lo:=lo) (hi:=hi) hp V8 hk (nP ds) h7 h4.2.1 hnl hx h4.2.2 (Q8.mpr ⟨hw,hxb⟩);have k:=bv5 c (nl.map λp=>(p.2:Int)) lo hi x;exact⟨x,db3 hk hp (nP ds) (ca8 hk hp hl h4.1 (bg7 hd)) h1 h2 hm (hF x e k) k⟩
def al1{f:Fm}{l:Nat}{n:Str}(h:f.n[l]?=some n):∀p∈[(n,l)],f.n[p.2]?=some p.1:=Q8.mpr ⟨h,nofun⟩
def al2{f:Fm}{l m:Nat}{n k:Str}(h:f.n[l]?=some n)(h':f.n[m]?=some k):∀p∈[(n,l),(k,m)],f.n[p.2]?=some p.1:=Q8.mpr ⟨h,al1 h'⟩
theorem xl{a:Str}{xs:List Str}(h:a.length<=2000000)(k:∀y∈xs,y.length<=2000000):∀y∈a::xs,y.length<=2000000:=Q8.mpr ⟨h,k⟩
def x0:∀y∈([]:List Str),y.length<=2000000:=nofun
def xn{f:Fm}(g:Gd f){n:Str}(h:pR n=true):n.length<=2000000:=by have:=aw3 h;omega
local macro_rules | `(tactic| walk_at "7") => `(tactic| (intros; simp only [List.map_cons, List.map_nil, kL, List.zipWith_cons_cons, List.zipWith_nil_left, bY]; walk_at "ev"))
local macro_rules | `(tactic| walk_at "x") => `(tactic| (intros; simp only [bY]; walk_at "ev"))
def al8{f:Fm}(g:Gd f){l:Nat}{n:Str}(h:f.n[l]?=some n){lo hi:Int}(h1:-4000<=lo)(h2:lo<=hi)(h3:hi<=4000):
 ∃x,dO [bQ false f,.str "between",.lst false [.str n,.int lo,.int hi]]=.ok (iS true "Between" [(l:Int)] lo (some hi) x):=by
 have e1:=eL;have e2:=xH "year" V9;have g_lo:=vR (show -10000000<=lo by omega) V8;have g_hi:=vR (show -10000000<=hi by omega) V8;refine vK g (c:="Between") (d1:="year") [(n,l)] [n,toString lo,toString hi] cg3 cx2 rfl ⟨W1,W0,W0⟩ rfl ⟨iF (C6 h),sD V9 cx0 V8 V8,sD V9 cx0 V8 V8,trivial⟩ (al1 h) (xl (lC g h)<|xl (vH V8 V8)<|xl (vH V8 V8)<|x0) (iQ _ _ _) (.inl e2) (by walk_at "7") (by walk_at "x") λx hx cs=>?_;unfold mQ mP;have hm:xL [bQ false f,.str "between",.lst false [.str n,.int lo,.int hi],.int lo,.int hi]=.ok (iS true "Between" [(l:Int)] lo (some hi) x):=hx;have b0:=@iW T;have b1:=@iQ T;have b2:=@nW T;have b3:=@tF T;have na:=kC f;have za:=jD false f;have k1:decide (hi<lo)=false:=E2 V8;clear hx;walk_at "ev"
def dh3{f:Fm}(g:Gd f){l m:Nat}{n k:Str}(h:f.n[l]?=some n)(h':f.n[m]?=some k)(hne:(n==k)=false):
 ∃x,dO [bQ false f,.str "after",.lst false [.str n,.str k]]=.ok (iS true "After" [(l:Int),(m:Int)] 1 none x):=by
 have e1:=eL;refine vK g (c:="After") (d1:="letter") [(n,l),(k,m)] [n,k] dg3 da1 rfl ⟨W1,W0,W0⟩ rfl ⟨iF (C6 h),iF (C6 h'),trivial⟩ (al2 h h') (xl (lC g h)<|xl (lC g h')<|x0) (iQ _ _ _) (.inr ⟨e1,n,k,iW _ _,iQ _ _ _,hne⟩) (by walk_at "7") (by walk_at "x") λx hx cs=>?_;unfold pT pG;have hm:ap1 [bQ false f,.str "after",.lst false [.str n,.str k],.int 1,.non]=.ok (iS true "After" [(l:Int),(m:Int)] 1 none x):=hx;have b0:=@iW T;have b1:=@iQ T;have b2:=@nW T;have b3:=@tF T;have na:=kC f;have za:=jD false f;clear hx;walk_at "ev"
def dx7{f:Fm}(g:Gd f){l m:Nat}{n k:Str}(h:f.n[l]?=some n)(h':f.n[m]?=some k)(hne:(n==k)=false):
 ∃x,dO [bQ false f,.str "same",.lst false [.str n,.str k]]=.ok (iS true "Same" [(l:Int),(m:Int)] 0 (some 0) x):=by
 have e1:=eL;refine vK g (c:="Same") (d1:="letter") [(n,l),(k,m)] [n,k] dy8 dz6 rfl ⟨W1,W0,W0⟩ rfl ⟨iF (C6 h),iF (C6 h'),trivial⟩ (al2 h h') (xl (lC g h)<|xl (lC g h')<|x0) (iQ _ _ _) (.inr ⟨e1,n,k,iW _ _,iQ _ _ _,hne⟩) (by walk_at "7") (by walk_at "x") λx hx cs=>?_;unfold qV qX;have hm:ao3 [bQ false f,.str "same",.lst false [.str n,.str k],.int 0,.int 0]=.ok (iS true "Same" [(l:Int),(m:Int)] 0 (some 0) x):=hx;have b0:=@iW T;have b1:=@iQ T;have b2:=@nW T;have b3:=@tF T;have na:=kC f;have za:=jD false f;clear hx;walk_at "ev"
def cj6{f:Fm}(g:Gd f){l m:Nat}{n k:Str}(h:f.n[l]?=some n)(h':f.n[m]?=some k)(hne:(n==k)=false){hi:Int}(h1:0<=hi)(h2:hi<=300):
 ∃x,dO [bQ false f,.str "within",.lst false [.str n,.str k,.int hi]]=.ok (iS true "Within" [(l:Int),(m:Int)] 0 (some hi) x):=by
 have e1:=eL;have e2:=xH "later" V9;have g_hi:=vR (show -10000000<=hi by omega) V8;refine vK g (c:="Within") (d1:="letter") [(n,l),(k,m)] [n,k,toString hi] cb6 ck5 rfl ⟨W1,W0,W0⟩ rfl ⟨iF (C6 h),iF (C6 h'),sD V9 dg1 h1 h2,trivial⟩ (al2 h h') (xl (lC g h)<|xl (lC g h')<|xl (vH V8 V8)<|x0) (iQ _ _ _) (.inr ⟨e1,n,k,iW _ _,iQ _ _ _,hne⟩) (by walk_at "7") (by walk_at "x") λx hx cs=>?_;unfold oB oF;have hm:zN [bQ false f,.str "within",.lst false [.str n,.str k,.int hi],.int 0,.int hi]=.ok (iS true "Within" [(l:Int),(m:Int)] 0 (some hi) x):=hx;have b0:=@iW T;have b1:=@iQ T;have b2:=@nW T;have b3:=@tF T;have na:=kC f;have za:=jD false f;clear hx;walk_at "ev"
def bf6{f:Fm}(g:Gd f){l m:Nat}{n k:Str}(h:f.n[l]?=some n)(h':f.n[m]?=some k)(hne:(n==k)=false){lo hi:Int}(h1:-300<=lo)(h2:lo<=hi)(h3:hi<=300):
 ∃x,dO [bQ false f,.str "apart",.lst false [.str n,.str k,.int lo,.int hi]]=.ok (iS true "Apart" [(l:Int),(m:Int)] lo (some hi) x):=by
 have e1:=eL;have e2:=xH "gap" V9;have g_lo:=vR (show -10000000<=lo by omega) V8;have g_hi:=vR (show -10000000<=hi by omega) V8;refine vK g (c:="Apart") (d1:="letter") [(n,l),(k,m)] [n,k,toString lo,toString hi] dp2 cx9 rfl ⟨W1,W0,W0⟩ rfl ⟨iF (C6 h),iF (C6 h'),sD V9 cw6 V8 V8,sD V9 cw6 V8 V8,trivial⟩ (al2 h h') (xl (lC g h)<|xl (lC g h')<|xl (vH V8 V8)<|xl (vH V8 V8)<|x0) (iQ _ _ _) (.inr ⟨e1,n,k,iW _ _,iQ _ _ _,hne⟩) (by walk_at "7") (by walk_at "x") λx hx cs=>?_;unfold pL pC;have hm:ae2 [bQ false f,.str "apart",.lst false [.str n,.str k,.int lo,.int hi],.int lo,.int hi]=.ok (iS true "Apart" [(l:Int),(m:Int)] lo (some hi) x):=hx;have b0:=@iW T;have b1:=@iQ T;have b2:=@nW T;have b3:=@tF T;have na:=kC f;have za:=jD false f;have k1:decide (hi<lo)=false:=E2 V8;clear hx;walk_at "ev"
def dd1{f:Fm}(g:Gd f){l:Nat}{n:Str}(h:f.n[l]?=some n){p:Str×Int×Int}(hp:p∈f.r){k:Int}(h1:1<=k)(h2:k<=p.2.2):
 ∃x,dO [bQ false f,.str "reign",.lst false [.str n,.str p.1,.int k]]=.ok (iS true "Reign" [(l:Int)] (p.2.1+k-1) (some (p.2.1+k-1)) x):=by
 have e1:=eL;have h100:=(g.rn p hp).2.2.2.2;have e2:=xH "reign" V9;have e3:=xH "place" V9;have g_k:=vR (show -10000000<=k by omega) V8;refine vK g (c:="Reign") (d1:="reign") [(n,l)] [n,p.1,toString k] dy1 db4 rfl ⟨W1,W0,W0⟩ rfl ⟨iF (C6 h),bo2 g (N2 hp),sD V9 ct9 h1 V8,trivial⟩ (al1 h) (xl (lC g h)<|xl (xn g (g.rn p hp).1)<|xl (vH V8 V8)<|x0) (iQ _ _ _) (.inl e2) (by walk_at "7") (by walk_at "x") λx hx cs=>?_;unfold oZ pF;have hm:af2 [bQ false f,.str "reign",.lst false [.str n,.str p.1,.int k],.int (p.2.1+k-1),.int (p.2.1+k-1)]=.ok (iS true "Reign" [(l:Int)] (p.2.1+k-1) (some (p.2.1+k-1)) x):=hx;have b0:=@iW T;have b1:=@iQ T;have b2:=@nW T;have b3:=@tF T;have na:=kC f;have za:=jD false f;have k1:=bq8 g hp;have k2:=au3 (b:=p.2.1) h1 h2;simp only[iR]at k1;clear hx;walk_at "ev"
def dm0{f:Fm}(g:Gd f){l:Nat}{n:Str}(h:f.n[l]?=some n){p:Str×Int×Int}(hp:p∈f.r):
 ∃x,dO [bQ false f,.str "under",.lst false [.str n,.str p.1]]=.ok (iS true "Under" [(l:Int)] p.2.1 (some (p.2.1+p.2.2-1)) x):=by
 have e1:=eL;have e2:=xH "reign" V9;refine vK g (c:="Under") (d1:="reign") [(n,l)] [n,p.1] cy9 db1 rfl ⟨W1,W0,W0⟩ rfl ⟨iF (C6 h),bo2 g (N2 hp),trivial⟩ (al1 h) (xl (lC g h)<|xl (xn g (g.rn p hp).1)<|x0) (iQ _ _ _) (.inl e2) (by walk_at "7") (by walk_at "x") λx hx cs=>?_;unfold pS oY;have hm:ax1 [bQ false f,.str "under",.lst false [.str n,.str p.1],.int p.2.1,.int (p.2.1+p.2.2-1)]=.ok (iS true "Under" [(l:Int)] p.2.1 (some (p.2.1+p.2.2-1)) x):=hx;have b0:=@iW T;have b1:=@iQ T;have b2:=@nW T;have b3:=@tF T;have na:=kC f;have za:=jD false f;have k1:=bq8 g hp;have k2:=au3 (b:=p.2.1) (l:=p.2.2) (k:=p.2.2) (g.rn p hp).2.2.2.1 (V5 _);simp only[iR]at k1;clear hx;walk_at "ev"
theorem di2:iO "table" ["first","present","letters","inks","reigns"]=none:=V9
theorem dw8:tm_table.lookup ("Archive":Str)=some gS:=W3
def cp3{b:Bool}{f:Fm}{o:Fr->Res T}{r:Fr->Res (List T)}{ρ:Fr}{ts:List T}(ho:o ρ=.ok (bQ b f))(hr:r ρ=.ok ts):nV 2 "table" tm_table o r ρ=yR 2 gS (bQ b f::ts):=by simp only[nV,ho,hr,rV,bQ,di2,dw8]
local macro_rules | `(tactic| walk_at "7") => `(tactic| (intros; simp only [List.map_cons, List.map_nil, kL, List.zipWith_cons_cons, List.zipWith_nil_left, bY]; walk_at "ev"))
local macro_rules | `(tactic| walk_at "x") => `(tactic| (intros; simp only [bY]; walk_at "ev"))
def ei0{f:Fm}(g:Gd f){l:Nat}{n:Str}(h:f.n[l]?=some n){p:Str×List Int}(hp:p∈f.i){d e:Int}(h1:0<=d)(h2:d<=1000000)(h3:0<=e)(h4:e<=1000000){a z:Int}{r:List Int}(hh:jB p.2 d e (f.s.toNat+1)=a::r)(hz:(a::r).getD r.length 0=z):
 ∃x,dO [bQ false f,.str "ink",.lst false [.str n,.str p.1,.int d,.int e]]=.ok (iS true "Ink" [(l:Int)] (f.a+f.s-z) (some (f.a+f.s-a)) x):=by
 have e1:=eL;have e2:=xH "ink" V9;have e3:=xH "dark" V9;have g_d:=vR (show -10000000<=d by omega) V8;have g_e:=vR (show -10000000<=e by omega) V8;refine vK g (c:="Ink") (d1:="ink") [(n,l)] [n,p.1,toString d,toString e] ei5 eu1 rfl ⟨W1,W0,W0⟩ rfl ⟨iF (C6 h),dr6 g (N2 hp),sD V9 cv0 V8 V8,sD V9 cv0 V8 V8,trivial⟩ (al1 h) (xl (lC g h)<|xl (xn g (g.inn p hp).1)<|xl (vH V8 V8)<|xl (vH V8 V8)<|x0) (iQ _ _ _) (.inl e2) (by clear hh hz;walk_at "7") (by clear hh hz;walk_at "x") λx hx cs=>?_;unfold tL tN;have hm:ap6 [bQ false f,.str "ink",.lst false [.str n,.str p.1,.int d,.int e],.int (f.a+f.s-z),.int (f.a+f.s-a)]=.ok (iS true "Ink" [(l:Int)] (f.a+f.s-z) (some (f.a+f.s-a)) x):=hx;have b0:=@iW T;have b1:=@iQ T;have b2:=@nW T;have b3:=@tF T;have na:=kC f;have za:=jD false f;have fp:=ad8 false f;have ff:=aj6 false f;have ht:=dv6 g hp;have hA:vI [.lst false (p.2.map .int),.int d,.int e,.int (f.a+f.s-f.a)]=.ok (.tup [.int a,.int z]):=by have:=cq8 false p.2 d e f.s.toNat (by have:=(g.inn p hp).2.l1;intro q;rw[q]at this;simp at this) (by have:=(g.inn p hp).2.l60;omega) (by have:=g.s1;omega);rw[hh]at this;simp only[cg9,hz]at this;rw[show f.a+f.s-f.a=(f.s.toNat:Int) by have:=g.s0;omega];exact this
 have hmt:nV 2 "table" tm_table (aB 0) (aD (aE aQ (aB 1) (dC (.int 1))) aI) [some (bQ false f),some (.lst false [.str n,.str p.1,.int d,.int e]),none]=.ok (.lst true (p.2.map .int)):=by rw[cp3 (b:=false) (f:=f) (ts:=[.str p.1]) rfl (by clear hA hm hx hh hz;walk_at "ev")];clear hA hm hx hh hz;walk_at "ev"
 clear hh hz;clear hx;walk_at "ev"
def dt4(c:Int)(m:Nat)(hm:m<=8):∃xs:List Int,rY [.int c,.int m]=.ok (.lst true (xs.map .int))/\xs.length=m/\∀x∈xs,0<=x:=by
 unfold rY yE;have ew:=cd1;have h60:af4 (.int 10) (.int 60)=.ok (.int 1000000000000000000000000000000000000000000000000000000000000):=by rw[ai7,gH (show at3 10 60 from⟨W1,W1,W1⟩)];rfl
 have h18:af4 (.int 10) (.int 18)=.ok (.int 1000000000000000000):=by rw[ai7,gH (show at3 10 18 from⟨W1,W1,W1⟩)];rfl
 walk_at "ev";generalize hL:cR _ _ _ _=o;obtain⟨ρ',rfl,xs,r,o4,rfl,xl,xb,hr⟩:=gY (λi ρ=>∃(xs:List Int)(r:Int)(o4:Option T),ρ=[some (.int c),some (.int m),some (.int r),some (.lst true (xs.map .int)),o4]/\xs.length=i/\(∀x∈xs,0<=x)/\0<=r) hL ⟨[],_,_,rfl,rfl,dZ,G7 _ W1⟩ (by
  rintro i t ρ et ⟨xs,r,o4,rfl,xl,xb,hr⟩;obtain⟨hi,rfl⟩:=mN et;have hl:xs.length<=100000:=V8
  clear hL et;by_cases hA:c<0\/1000000000000000000<=c
  . have k:(decide (c<0)||decide (1000000000000000000<=c))=true:=by simpa using hA
    cases h1:decide (c<0)with
    |true=>walk_at "ev";exact⟨xs++[r%10007],_,_,by rw[G0];rfl,by simp[xl],λx hx=>(A3.mp hx).elim (xb x) (λq=>by rw[C5.mp q];exact G7 _ W1),V8⟩
    |false=>
     have h2:decide (1000000000000000000<=c)=true:=by rw[h1]at k;simpa using k
     walk_at "ev";exact⟨xs++[r%10007],_,_,by rw[G0];rfl,by simp[xl],λx hx=>(A3.mp hx).elim (xb x) (λq=>by rw[C5.mp q];exact G7 _ W1),V8⟩
  . have h1:decide (c<0)=false:=E2 V8;have h2:decide (1000000000000000000<=c)=false:=E2 V8;walk_at "ev";exact⟨xs++[jL (jL c (0+(i:Int))+c) (0+(i:Int))],_,_,by rw[G0];rfl,by simp[xl],λx hx=>(A3.mp hx).elim (xb x) (λq=>by rw[C5.mp q];exact(bs0 _ _).1),hr⟩)
 rw[gT]at xl;refine⟨xs,?_,V8,xb⟩;clear hL;walk_at "ev"
def do1(c:Int){f:Fm}(g:Gd f):∃ys:List Int,oQ [.int c,eY false f]=.ok (.lst true (ys.map .int))/\ys.length=f.n.length/\∀y∈ys,f.a<=y/\y<=f.a+f.s:=by
 obtain⟨xs,h1,h2,h3⟩:=dt4 c f.n.length g.n8;have hs:=g.s0;have hm:0<f.a+f.s-f.a+1:=V8
 refine⟨xs.map λx=>f.a+x%(f.a+f.s-f.a+1),?_,by simp[h2],λy hy=>?_⟩
 . unfold oQ tU;have hx:xs.length<=100000:=by have:=g.n8;omega
   have hc:bY (aH 2) cG (aE bS (aE aQ (aB 1) (dC (.int 0))) (aE cK (aB 2) (aE bS (aE eJ (aE aQ (aB 1) (dC (.int 1))) (aE aQ (aB 1) (dC (.int 0)))) (dC (.int 1))))) [some (.int c),some (eY false f),none] (xs.map .int)=.ok ((xs.map λx=>f.a+x%(f.a+f.s-f.a+1)).map .int):=by rw[G5];refine cW λx _=>?_;simp only[eY];have b0:=@iW T;have b1:=@iQ T;clear h1 h2 h3;walk_at "ev";rfl
   have b2:=@nW T;simp only[eY]at hc⊢;clear h2 h3;walk_at "ev"
 . obtain⟨x,_,rfl⟩:=K1.mp hy;have:=G7 x (show f.a+f.s-f.a+1≠0 by omega);have:=J6 x hm;omega
structure Sd where
 word:Str
 cls:Str
 parts:List T
 ls:List Nat
 lo:Int
 hi:Option Int
def gK(o:Bool)(s:Sd):T:=.tup [.str s.word,.lst o s.parts,.tup (s.ls.map λ(l:Nat)=>T.int (l:Int)),.tup [.int s.lo,oE s.hi]]
structure SdOk (f:Fm) (s:Sd):Prop where
 np:aW s.parts=true
 cp:bZ s.parts=true
 c8:s.cls∈lX
 l12:s.ls.length=1\/s.ls.length=2
 lb:∀l∈s.ls,l<f.n.length
 made:∃x,dO [bQ false f,.str s.word,.lst false s.parts]=.ok (iS true s.cls (s.ls.map λ(l:Nat)=>(l:Int)) s.lo s.hi x)
def lb1{i n:Nat}(h:i<n):∀l∈[i],l<n:=λl q=>by rw[C5.mp q];exact h
def lb2{i j n:Nat}(h:i<n)(k:j<n):∀l∈[i,j],l<n:=λl q=>by
 rcases B9.mp q with rfl|q
 . exact h
 . rw[C5.mp q];exact k
def er0:("Ink":Str)∈lX:=V9
def dy2:("Reign":Str)∈lX:=V9
def dj2:("Under":Str)∈lX:=V9
def ak8:("Between":Str)∈lX:=V9
def ds0:("After":Str)∈lX:=V9
def dk7:("Same":Str)∈lX:=V9
def cm6:("Within":Str)∈lX:=V9
def bn8:("Apart":Str)∈lX:=V9
def ak0{f:Fm}{k:Nat}(h:k<f.n.length):∃n,f.n[k]?=some n/\atI (f.n.map T.str) (k:Int)=some (.str n):=
 ⟨f.n[k],A2 h,gR (by simp[h])⟩
def co6{xs:List Int}{k:Nat}(h:k<xs.length):∃v∈xs,atI (xs.map T.int) (k:Int)=some (.int v):=
 ⟨xs[k],K9 h,gR (by simp[h])⟩
theorem eb1{xs:List Int}(h:xs.length=6)(hb:∀x∈xs,0<=x):∃a b c d e g:Int,xs.map T.int=[.int a,.int b,.int c,.int d,.int e,.int g]/\0<=a/\0<=b/\0<=c/\0<=d/\0<=e/\0<=g:=by
 match xs,h with
 |[a,b,c,d,e,g],_=>exact⟨a,b,c,d,e,g,rfl,hb a W0,hb b W0,hb c W0,hb d W0,hb e W0,hb g W0⟩
def do4{f:Fm}(g:Gd f){i j:Nat}{n k:Str}(h1:f.n[i]?=some n)(h2:f.n[j]?=some k)(h:i≠j):(n==k)=false:=by simp;rintro rfl;obtain⟨a1,a2⟩:=C7.mp h1;obtain⟨b1,b2⟩:=C7.mp h2;exact h ((List.getElem_inj g.nd).mp (a2.trans b2.symm))
def et1{f:Fm}(g:Gd f){a b c d e w:Int}(hc:0<=c)(hd:0<=d)(he:0<=e){i j:Nat}(hi:i<f.n.length)(hj:j<f.n.length):∃s,sU [.lst false [.int a,.int b,.int c,.int d,.int e,.int w],eY false f,.int i,.int j]=.ok (gK true s)/\SdOk f s:=by
 obtain⟨n,hn,an⟩:=ak0 hi;obtain⟨k,hk,ak⟩:=ak0 hj;unfold sU wF;have b0:=@iW T;have b1:=@iQ T;have b2:=@nW T;have b3:=@tF T;have b4:=@ix4 T;have s0:=g.s0;have s1:=g.s1;have f0:=g.f0;have f1:=g.f1;have m1:0<f.a+f.s-f.a+61:=V8
 have m2:=G7 d (show f.a+f.s-f.a+61≠0 by omega);have m3:=J6 d m1;simp only[eY];by_cases q:i=j\/c%2=0
 . have k0:(((i:Int)==(j:Int))||(c%2==0))=true:=by
    rcases q with q|q
    . subst q;simp
    . simp[q]
   obtain⟨x,hx⟩:=al8 g hn (lo:=f.a-30+d%(f.a+f.s-f.a+61)) (hi:=f.a-30+d%(f.a+f.s-f.a+61)+e%40) V8 V8 V8;refine⟨⟨"between","Between",[.str n,.int (f.a-30+d%(f.a+f.s-f.a+61)),.int (f.a-30+d%(f.a+f.s-f.a+61)+e%40)],[i],f.a-30+d%(f.a+f.s-f.a+61),some (f.a-30+d%(f.a+f.s-f.a+61)+e%40)⟩,?_,⟨rfl,rfl,ak8,.inl rfl,lb1 hi,x,hx⟩⟩;have ct:iI [T.str n,T.str k] none (some 1)=[T.str n]:=ay0 [T.str n,T.str k] 1;clear hx hn hk;cases h1:((i:Int)==(j:Int))with
   |true=>walk_at "ev";rfl
   |false=>
    have h2:(c%2==0)=true:=by rw[h1]at k0;simpa using k0
    walk_at "ev";rfl
 . have h1:((i:Int)==(j:Int))=false:=by simp;omega
   have h2:(c%2==0)=false:=by simp;omega
   have hne:=do4 g hn hk V8;obtain⟨x,hx⟩:=bf6 g hn hk hne (lo:=d%601-300) (hi:=if d%601-300+e%40<300 then d%601-300+e%40 else 300) V8 (by split<;>omega) (by split<;>omega);refine⟨⟨"apart","Apart",[.str n,.str k,.int (d%601-300),.int (if d%601-300+e%40<300 then d%601-300+e%40 else 300)],[i,j],d%601-300,some (if d%601-300+e%40<300 then d%601-300+e%40 else 300)⟩,?_,⟨rfl,rfl,bn8,.inr rfl,lb2 hi hj,x,hx⟩⟩;clear hx hn hk;walk_at "ev";rfl
def bf5(f:Fm):aQ (eY false f) (.int 0)=.ok (.int f.a)/\aQ (eY false f) (.int 1)=.ok (.int (f.a+f.s))/\aQ (eY false f) (.int 2)=.ok (.lst false (f.n.map .str))/\aQ (eY false f) (.int 3)=.ok (.lst false (f.i.map (gO false)))/\aQ (eY false f) (.int 4)=.ok (.lst false (f.r.map iR)):=by simp only[eY,vD,iW,iQ,nW,tF,ix4];exact⟨trivial,trivial,trivial,trivial,trivial⟩
theorem ci9{f:Fm}(g:Gd f){num gap:Int}(hn0:0<=num){i j:Nat}(hi:i<f.n.length)(hj:j<f.n.length)(hij:i≠j)(g0:-300<=gap)(g1:gap<=300):∃s,oN [.int num,eY false f,.tup [.int i,.int j],.int gap]=.ok (gK true s)/\SdOk f s:=by
 obtain⟨n,hn,an⟩:=ak0 hi;obtain⟨k,hk,ak⟩:=ak0 hj;have hne:=do4 g hn hk hij;unfold oN sT;have b2:=(bf5 f).2.2.1;obtain⟨x1,hx1⟩:=dx7 g hn hk hne;obtain⟨x2,hx2⟩:=dh3 g hn hk hne;have hc:∀q1 q2 q3 q4 q5:Option T,bY (aH 9) cG (aP (aE aQ (aE aQ (aB 1) (dC (.int 2))) (aB 9))) [some (.int num),some (eY false f),some (.tup [.int i,.int j]),some (.int gap),q1,q2,q3,q4,q5,none] [.int i,.int j]=.ok [.str n,.str k]:=by intros;simp only[bY];walk_at "ev"
 have z1:=G7 (num/4) (show(4:Int)≠0 by decide);have tA:∀a1 a2 l,jT (aU (aE eV (aB 3) (dC (.int 0)))) (aU (aE eV (aE cK (aB 0) (dC (.int 4))) (dC (.int 0)))) (some (.int num)::a1::a2::some (.int gap)::l)=.ok (gap==0&&num%4==0):=λa1 a2 l=>by cases h:(gap==0)<;>walk_at "ev"
 have tB:∀a1 a2 l,jT (aU (aE vW (aB 3) (dC (.int 0)))) (aU (aE vN (aE cK (aB 0) (dC (.int 4))) (dC (.int 2)))) (some (.int num)::a1::a2::some (.int gap)::l)=.ok (decide (0<gap)&&decide (num%4<2)):=λa1 a2 l=>by cases h:decide (0<gap)<;>walk_at "ev"
 have tC:∀a1 a2 l,jT (aU (aE geT (aB 3) (dC (.int 0)))) (aU (aE eV (aE cK (aB 0) (dC (.int 4))) (dC (.int 2)))) (some (.int num)::a1::a2::some (.int gap)::l)=.ok (decide (0<=gap)&&num%4==2):=λa1 a2 l=>by cases h:decide (0<=gap)<;>walk_at "ev"
 generalize jT (aU (aE eV (aB 3) (dC (.int 0)))) (aU (aE eV (aE cK (aB 0) (dC (.int 4))) (dC (.int 0))))=ZA at*;generalize jT (aU (aE vW (aB 3) (dC (.int 0)))) (aU (aE vN (aE cK (aB 0) (dC (.int 4))) (dC (.int 2))))=ZB at*;generalize jT (aU (aE geT (aB 3) (dC (.int 0)))) (aU (aE eV (aE cK (aB 0) (dC (.int 4))) (dC (.int 2))))=ZC at*;cases hA:(gap==0&&num%4==0)with
 |true=>refine⟨⟨"same","Same",[.str n,.str k],[i,j],0,some 0⟩,?_,⟨rfl,rfl,dk7,.inr rfl,lb2 hi hj,x1,hx1⟩⟩;rw[hA]at tA;clear hx1 hx2 hn hk hA tB tC;walk_at "ev";rfl
 |false=>
  rw[hA]at tA;cases hB:(decide (0<gap)&&decide (num%4<2))with
  |true=>refine⟨⟨"after","After",[.str n,.str k],[i,j],1,none⟩,?_,⟨rfl,rfl,ds0,.inr rfl,lb2 hi hj,x2,hx2⟩⟩;rw[hB]at tB;clear hx1 hx2 hn hk hA hB tC;walk_at "ev";rfl
  |false=>
   rw[hB]at tB;cases hC:(decide (0<=gap)&&num%4==2)with
   |true=>have c0:0<=gap:=of_decide_eq_true (Bool.and_eq_true_iff.mp hC).1;obtain⟨x3,hx3⟩:=cj6 g hn hk hne (hi:=if gap+num/4%4<300 then gap+num/4%4 else 300) (by split<;>omega) (by split<;>omega);refine⟨⟨"within","Within",[.str n,.str k,.int (if gap+num/4%4<300 then gap+num/4%4 else 300)],[i,j],0,some (if gap+num/4%4<300 then gap+num/4%4 else 300)⟩,?_,⟨rfl,rfl,cm6,.inr rfl,lb2 hi hj,x3,hx3⟩⟩;rw[hC]at tC;clear hx1 hx2 hx3 hn hk hA hB hC;walk_at "ev";rfl
   |false=>obtain⟨x4,hx4⟩:=bf6 g hn hk hne (lo:=if gap-num/4%6>-300 then gap-num/4%6 else -300) (hi:=if gap+num/4/6%6<300 then gap+num/4/6%6 else 300) (by split<;>omega) (by split<;>split<;>omega) (by split<;>omega);refine⟨⟨"apart","Apart",[.str n,.str k,.int (if gap-num/4%6>-300 then gap-num/4%6 else -300),.int (if gap+num/4/6%6<300 then gap+num/4/6%6 else 300)],[i,j],if gap-num/4%6>-300 then gap-num/4%6 else -300,some (if gap+num/4/6%6<300 then gap+num/4/6%6 else 300)⟩,?_,⟨rfl,rfl,bn8,.inr rfl,lb2 hi hj,x4,hx4⟩⟩;rw[hC]at tC;clear hx1 hx2 hx4 hn hk hA hB hC;walk_at "ev";rfl
def au4{a:Int}{n:Nat}(h:0<n):0<=a%(n:Int)/\a%(n:Int)<n:=⟨G7 _ V8,J6 _ V8⟩
def eo0{α:Type}{g:α->T}{l:List α}(h:0<l.length)(a:Int):∃p∈l,atI (l.map g) (a%(l.length:Int))=some (g p):=by
 obtain⟨h0,h1⟩:=au4 (a:=a) h;obtain⟨k,hk⟩:=uA h0;rw[hk]at h1⊢;have hk':k<l.length:=V8
 exact⟨l[k],K9 hk',gR (by simp[hk'])⟩
def cy0{xs:List Int}(h:0<xs.length){a:Int}(ha:0<=a):atI (xs.map T.int) (if(xs.length:Int)-1<a then(xs.length:Int)-1 else a)=some (.int (xs.getD (min a.toNat (xs.length-1)) 0)):=by
 have e:(if(xs.length:Int)-1<a then(xs.length:Int)-1 else a)=((min a.toNat (xs.length-1):Nat):Int):=by split<;>omega
 rw[e];exact uE V8
def cm9{xs:List Int}{d e:Int}{n j:Nat}(hj:j<n)(h:pB xs d e j=true):(j:Int)∈jB xs d e n:=by unfold jB;exact K1.mpr ⟨j,O2.mpr ⟨J0.mpr hj,h⟩,rfl⟩
def dq2{f:Fm}(g:Gd f){num y:Int}(hn0:0<=num){i:Nat}(hi:i<f.n.length)(y0:f.a<=y)(y1:y<=f.a+f.s):∃s,oV [.int num,eY false f,.int i,.int y]=.ok (gK true s)/\SdOk f s:=by
 obtain⟨n,hn,an⟩:=ak0 hi;unfold oV tE;have b0:=@iW T;have b1:=@iQ T;have b2:=@nW T;have b3:=@tF T;have b4:=@ix4 T;have s0:=g.s0;have s1:=g.s1;have f0:=g.f0;have f1:=g.f1;obtain⟨m0,m1,m2,m3,m4⟩:=bf5 f;by_cases c0:num%4=0
 . have h0:(num%4==0)=true:=by simp[c0]
   clear c0;obtain⟨p,hp,ap⟩:=eo0 (g:=gO false) (l:=f.i) (by have:=g.i1;omega) (num/4);obtain⟨t1,t60,tb,tf⟩:=(g.inn p hp).2;have hlen:0<(f.i.length:Int):=by have:=g.i1;omega
   obtain⟨er,her⟩:∃er,num/4/2%5=er:=⟨_,rfl⟩;have e0:0<=er/\er<5:=V8
   have ix:=cy0 (xs:=p.2) t1 (a:=f.a+f.s-y) V8;have er1:0<2*er+1:=V8
   have z1:=G7 (num/4/10) (show 2*er+1≠0 by omega);have z2:=J6 (num/4/10) er1;obtain⟨D,hD⟩:∃D,p.2.getD (min (f.a+f.s-y).toNat (p.2.length-1)) 0=D:=⟨_,rfl⟩;have dB:0<=D/\D<=408:=by rw[<-hD,A6,A2 (show min (f.a+f.s-y).toNat (p.2.length-1)<p.2.length by omega)];exact tb _ (K9 _)
   obtain⟨dk,hdk⟩:∃dk,(if D+num/4/10%(2*er+1)-er>0 then D+num/4/10%(2*er+1)-er else 0)=dk:=⟨_,rfl⟩;have dkB:0<=dk/\dk<=412/\D-dk<=er/\dk-D<=er:=by rw[<-hdk];split<;>omega
   rw[hD]at ix;simp only[gO]at ap;have pin:pB p.2 dk er (f.a+f.s-y).toNat=true:=by unfold pB;rw[hD];exact F8 (by split<;>omega)
   have hmem:=cm9 (n:=f.s.toNat+1) V8 pin;obtain⟨a,r,hh⟩:∃a r,jB p.2 dk er (f.s.toNat+1)=a::r:=by
    cases q:jB p.2 dk er (f.s.toNat+1)with
    |nil=>rw[q]at hmem;cases hmem
    |cons a r=>exact⟨a,r,rfl⟩
   have hdm:dk<=1000000:=V8
   obtain⟨x,hx⟩:=ei0 g hn hp (d:=dk) (e:=er) V8 hdm V8 V8 hh rfl;refine⟨⟨"ink","Ink",[.str n,.str p.1,.int dk,.int er],[i],f.a+f.s-(a::r).getD r.length 0,some (f.a+f.s-a)⟩,?_,⟨rfl,rfl,er0,.inl rfl,lb1 hi,x,hx⟩⟩;have rg:-(2^62)<=f.a+f.s-f.a+1/\f.a+f.s-f.a+1<2^62:=V8
   clear hx hn hmem pin hD tb tf;walk_at "ev";generalize hL:cR _ _ _ _=o;obtain⟨ρ',rfl,o11,rfl⟩:=gY (λj ρ=>∃(o11:Option T),ρ=[some (.int num),some (eY false f),some (.int i),some (.int y),some (.str n),some (.int (num/4)),some (.str p.1),some (.lst false (p.2.map .int)),some (.int er),some (.int dk),some (.lst true ((jB p.2 dk er j).map .int)),o11,none,none,none,none,none,none]) hL ⟨_,rfl⟩ (by
    rintro j t ρ et ⟨o11,rfl⟩;obtain⟨hj,rfl⟩:=mN et;have ixj:=cy0 (xs:=p.2) t1 (a:=0+(j:Int)) V8;rw[show(0+(j:Int)).toNat=j by omega]at ixj;have hl:(jB p.2 dk er j).length<=100000:=by unfold jB;rw[B5];exact J2 (List.length_filter_le _ _) (by rw[L5];omega)
    have hsucc:=rZ p.2 dk er j;clear hL et hh hdk ix;cases hB:pB p.2 dk er j with
    |true=>rw[E6 hB]at hsucc;unfold pB at hB;clear hsucc;walk_at "ev";refine⟨some (.int (0+(j:Int))),?_⟩;rw[rZ,E6 (show pB p.2 dk er j=true from hB),G0,show(0+(j:Int))=(j:Int) by omega];rfl
    |false=>unfold pB at hB;clear hsucc;walk_at "ev";refine⟨some (.int (0+(j:Int))),?_⟩;rw[rZ,E5 (by rw[show pB p.2 dk er j=false from hB];decide),K3])
   rw[gT,show(f.a+f.s-f.a+1).toNat=f.s.toNat+1 by omega,hh];clear hL hh hdk;have ae:=dk3 (a:=a) (l:=r);simp only[List.map_cons]at ae⊢;walk_at "ev";rfl
 . have h0:(num%4==0)=false:=by simpa using c0
   clear c0;have hlen:0<(f.r.length:Int):=by have:=g.r1;omega
   obtain⟨k0,k1⟩:=au4 (a:=num/4/2) (n:=f.r.length) V8;obtain⟨kn,hkn⟩:=uA k0;have hk':kn<=f.r.length:=V8
   have c1:iI (f.r.map iR) (some (num/4/2%(f.r.length:Int))) none=(f.r.drop kn).map iR:=by rw[hkn,br7 _ _ (by simpa using hk'),List.map_drop]
   have c2:iI (f.r.map iR) none (some (num/4/2%(f.r.length:Int)))=(f.r.take kn).map iR:=by rw[hkn,ay0,R9]
   have n1:=mW;have z1:=uB;have l1:(f.r.drop kn).length+(f.r.take kn).length<=100000:=by have:=g.r8;simp;omega
   have mA:=(G0 (f:=iR) (l₁:=f.r.drop kn) (l₂:=f.r.take kn)).symm;clear hkn k0 k1;have hmem:∀q∈f.r.drop kn++f.r.take kn,q∈f.r:=λq hq=>(A3.mp hq).elim List.mem_of_mem_drop O8;walk_at "ev";generalize hL:cR _ _ _ _=o;have hx:=ce6 (λ_ ρ=>∃(o13 o14 o15:Option T),ρ=[some (.int num),some (eY false f),some (.int i),some (.int y),some (.str n),some (.int (num/4)),none,none,none,none,none,none,some (.int (num/4/2%(f.r.length:Int))),o13,o14,o15,none,none]) (λ_=>False) (λt=>∃s,t=gK true s/\SdOk f s) hL ⟨_,_,_,rfl⟩ (by
    rintro j t ρ et ⟨o13,o14,o15,rfl⟩;rw[F7]at et;cases eq:(f.r.drop kn++f.r.take kn)[j]? with
    |none=>rw[eq]at et;cases et
    |some q=>
     rw[eq]at et;have et:=(E8 et).symm;subst et;have hq:=hmem q (C6 eq);obtain⟨_,r1,r2,r3,r4⟩:=g.rn q hq;simp only[iR];clear hL c1 c2 mA n1 z1 l1 hmem eq;by_cases t1:num%4=1
     . have e1:(num%4==1)=true:=by simp[t1]
       clear t1;by_cases t2:q.2.1<=y/\y<q.2.1+q.2.2
       . have e2:decide (q.2.1<=y)=true:=F8 t2.1;have e3:decide (y<q.2.1+q.2.2)=true:=F8 t2.2;cases e4:(num/4%2==0)with
         |true=>obtain⟨x,hx⟩:=dd1 g hn hq (k:=y-q.2.1+1) V8 V8;rw[show q.2.1+(y-q.2.1+1)-1=y by omega]at hx;clear t2 hn;walk_at "ev";exact⟨⟨"reign","Reign",[.str n,.str q.1,.int (y-q.2.1+1)],[i],y,some y⟩,rfl,⟨rfl,rfl,dy2,.inl rfl,lb1 hi,x,hx⟩⟩
         |false=>obtain⟨x,hx⟩:=dm0 g hn hq;clear t2 hn;walk_at "ev";exact⟨⟨"under","Under",[.str n,.str q.1],[i],q.2.1,some (q.2.1+q.2.2-1)⟩,rfl,⟨rfl,rfl,dj2,.inl rfl,lb1 hi,x,hx⟩⟩
       . by_cases t3:q.2.1<=y
         . have e2:decide (q.2.1<=y)=true:=F8 t3;have e3:decide (y<q.2.1+q.2.2)=false:=E2 V8;clear t2 t3 hn;walk_at "ev";exact⟨_,_,_,rfl⟩
         . have e2:decide (q.2.1<=y)=false:=E2 t3;clear t2 t3 hn;walk_at "ev";exact⟨_,_,_,rfl⟩
     . have e1:(num%4==1)=false:=by simpa using t1
       clear t1 hn;walk_at "ev";exact⟨_,_,_,rfl⟩)
   rcases hx with⟨ρ',rfl,(⟨o13,o14,o15,rfl⟩|h)⟩|⟨t,rfl,s,rfl,hs⟩
   . obtain⟨x,hx⟩:=al8 g hn (lo:=if y-num/4%9>-4000 then y-num/4%9 else -4000) (hi:=if y+num/4/9%9<4000 then y+num/4/9%9 else 4000) (by split<;>omega) (by split<;>split<;>omega) (by split<;>omega);refine⟨⟨"between","Between",[.str n,.int (if y-num/4%9>-4000 then y-num/4%9 else -4000),.int (if y+num/4/9%9<4000 then y+num/4/9%9 else 4000)],[i],if y-num/4%9>-4000 then y-num/4%9 else -4000,some (if y+num/4/9%9<4000 then y+num/4/9%9 else 4000)⟩,?_,⟨rfl,rfl,ak8,.inl rfl,lb1 hi,x,hx⟩⟩;clear hL c1 c2 mA n1 z1 l1 hmem hx hn;walk_at "ev";rfl
   . exact h.elim
   . exact⟨s,rfl,hs⟩
def ix5{α:Type}(a b c d e g:α)(l:List α):atI (a::b::c::d::e::g::l) 5=some g:=gR (j:=5) rfl
theorem ah2{f:Fm}{s:Sd}(h:SdOk f s):cM (gK true s)=true:=by have q:bZ (s.ls.map λ(l:Nat)=>T.int (l:Int))=true:=jI (λ_=>rfl) _;simp only[gK,cM,bZ,h.cp,q,ar6,Bool.and_self]
noncomputable abbrev zT:Fr->Res Bool:=jT (dS (aB 2)) (aU (aE eV (aE cK (aE aQ (aB 8) (dC (.int 5))) (dC (.int 8))) (dC (.int 5))))
noncomputable abbrev zF:Fr->bO:=(cF zT (gN 6 [] cO (aX 4 sU (aD (aB 8) (aD (aB 1) (aD (aB 9) (aD (aB 11) aI)))))) (cF (kX (aU (aE eV (aB 4) (dC (.int 1)))) (aU (aE vN (aE cK (aE aQ (aB 8) (dC (.int 2))) (dC (.int 5))) (dC (.int 2))))) (gN 6 [] cO (aX 4 oV (aD (aE aQ (aB 8) (dC (.int 3))) (aD (aB 1) (aD (aB 9) (aD (aE aQ (aB 10) (aB 9)) aI)))))) (gN 6 [] cO (aX 4 oN (aD (aE aQ (aB 8) (dC (.int 3))) (aD (aB 1) (aD (cD (aD (aP (aB 9)) (aD (aP (aB 11)) aI))) (aD (aE eJ (aE aQ (aB 10) (aB 9)) (aE aQ (aB 10) (aB 11))) aI))))))))
def ez4(f:Fm):frz (eY false f)=eY false f:=by simp only[eY,frz,frzs,yN,sG,uB]
theorem dl7{f:Fm}(g:Gd f){fl:Bool}{a b c d e w:Int}(hc:0<=c)(hd:0<=d)(he:0<=e){i j:Nat}(hi:i<f.n.length)(hj:j<f.n.length)(hij:¬f.n.length=1->i≠j){ys:List Int}(yl:ys.length=f.n.length)(yb:∀y∈ys,f.a<=y/\y<=f.a+f.s){ss:List Sd}(hsl:ss.length<=100000)(a0 a3 a5 a7 a12:Option T):
 ∃s,SdOk f s/\zF [a0,some (eY false f),some (.bl fl),a3,some (.int f.n.length),a5,some (.lst true (ss.map (gK true))),a7,some (.lst true [.int a,.int b,.int c,.int d,.int e,.int w]),some (.int i),some (.lst true (ys.map .int)),some (.int j),a12]=.nx [a0,some (eY false f),some (.bl fl),a3,some (.int f.n.length),a5,some (.lst true ((ss++[s]).map (gK true))),a7,some (.lst true [.int a,.int b,.int c,.int d,.int e,.int w]),some (.int i),some (.lst true (ys.map .int)),some (.int j),a12]:=by
 have b2:=@nW T;have b3:=@tF T;have b5:=@ix5 T;have zf:=ez4 f;have s1:=g.s1;have tst:zT [a0,some (eY false f),some (.bl fl),a3,some (.int f.n.length),a5,some (.lst true (ss.map (gK true))),a7,some (.lst true [.int a,.int b,.int c,.int d,.int e,.int w]),some (.int i),some (.lst true (ys.map .int)),some (.int j),a12]=.ok (fl&&(w%8==5)):=by cases fl<;>walk_at "ev"
 obtain⟨yi,hyi,ai⟩:=co6 (xs:=ys) (k:=i) V8;obtain⟨yj,hyj,aj⟩:=co6 (xs:=ys) (k:=j) V8;have yi2:=yb yi hyi;have yj2:=yb yj hyj;unfold zF;generalize zT=Z at*;clear yb hyi hyj;simp only[List.map_append,List.map_cons,List.map_nil];cases h8:(fl&&(w%8==5))with
 |true=>obtain⟨s,hF,hs⟩:=et1 g (a:=a) (b:=b) (w:=w) hc hd he hi hj;refine⟨s,hs,?_⟩;have ccs:=ah2 hs;rw[h8]at tst;clear h8 hs hij yi2 yj2 ai aj;walk_at "ev"
 |false=>
  rw[h8]at tst;by_cases hm1:f.n.length=1\/c%5<2
  . obtain⟨s,hF,hs⟩:=dq2 g hd hi yi2.1 yi2.2;refine⟨s,hs,?_⟩;have ccs:=ah2 hs;by_cases hm:f.n.length=1
    . have t1:((f.n.length:Int)==1)=true:=by simp[hm]
      clear h8 hs hij yi2 yj2 aj hm1 hm;walk_at "ev"
    . have t1:((f.n.length:Int)==1)=false:=by simp;omega
      have t2:decide (c%5<2)=true:=F8 (hm1.resolve_left hm);clear h8 hs hij yi2 yj2 aj hm1 hm;walk_at "ev"
  . have t1:((f.n.length:Int)==1)=false:=by simp;omega
    have t2:decide (c%5<2)=false:=E2 λq=>hm1 (.inr q);obtain⟨s,hF,hs⟩:=ci9 g (gap:=yi-yj) hd hi hj (hij λq=>hm1 (.inl q)) V8 V8;refine⟨s,hs,?_⟩;have ccs:=ah2 hs;clear h8 hs hij yi2 yj2 hm1;walk_at "ev"
def cg7{f:Fm}(g:Gd f)(cs:List Int)(hcs:cs.length<=100)(fl:Bool)(hid:List Int)(hl:hid.length=f.n.length)(hb:∀y∈hid,f.a<=y/\y<=f.a+f.s):
 ∃ss:List Sd,nI [.lst false (cs.map .int),eY false f,.bl fl,.lst false (hid.map .int)]=.ok (.lst true (ss.map (gK true)))/\ss.length=cs.length/\∀s∈ss,SdOk f s:=by
 unfold nI qW;have b0:=@iW T;have b1:=@iQ T;have b4:=@ix4 T;have b5:=@ix5 T;obtain⟨f0,f1,f2,_⟩:=bf5 f;have s0:=g.s0;have n1:=g.n1;have n8:=g.n8;walk_at "ev";generalize hL:cR _ _ _ _=o;obtain⟨ρ',rfl,ss,o7,o8,o9,o10,o11,o12,rfl,sl,sb⟩:=gY (λj ρ=>∃(ss:List Sd)(o7 o8 o9 o10 o11 o12:Option T),ρ=[some (.lst false (cs.map .int)),some (eY false f),some (.bl fl),some (.lst false (hid.map .int)),some (.int f.n.length),some (.int (f.a+f.s-f.a)),some (.lst true (ss.map (gK true))),o7,o8,o9,o10,o11,o12]/\ss.length=j/\∀s∈ss,SdOk f s) hL ⟨[],_,_,_,_,_,_,rfl,rfl,dZ⟩ (by
  rintro j0 t ρ et ⟨ss,o7,o8,o9,o10,o11,o12,rfl,sl,sb⟩;rw[F7]at et;cases eq:cs[j0]? with
  |none=>rw[eq]at et;cases et
  |some cell=>
   rw[eq]at et;have et:=(E8 et).symm;subst et;have hj0:j0<cs.length:=(C7.mp eq).1;have hsl:ss.length<=100000:=V8
   clear hL eq;obtain⟨xs,hr,hxl,hxb⟩:=dt4 cell 6 W1;obtain⟨a,b,c,d,e,w,hx6,ha0,hb0,hc0,hd0,he0,hw0⟩:=eb1 hxl hxb;rw[hx6]at hr;have hr:rY [.int cell,.int 6]=.ok (.lst true [.int a,.int b,.int c,.int d,.int e,.int w]):=hr;clear hx6 hxl hxb;obtain⟨i0,i1⟩:=au4 (a:=a) (n:=f.n.length) V8;obtain⟨i,hie⟩:=uA i0;have hi:i<f.n.length:=V8
   have mx:0<(if(f.n.length:Int)-1>1 then(f.n.length:Int)-1 else 1):=by split<;>omega
   have mx1:=G7 (b/3) (show(if(f.n.length:Int)-1>1 then(f.n.length:Int)-1 else 1)≠0 by omega);have mx2:=J6 (b/3) mx;have mp:0<(f.n.length:Int):=V8
   obtain⟨j1,j2⟩:=au4 (a:=(i:Int)+1+b/3%(if(f.n.length:Int)-1>1 then(f.n.length:Int)-1 else 1)) (n:=f.n.length) V8;obtain⟨j,hje⟩:=uA j1;have hj:j<f.n.length:=V8
   have hij:¬f.n.length=1->i≠j:=by
    intro hm hq;subst hq;generalize b/3%(if(f.n.length:Int)-1>1 then(f.n.length:Int)-1 else 1)=v at*;have hv:v<(f.n.length:Int)-1:=by split at mx2<;>omega
    by_cases q:(i:Int)+1+v<f.n.length
    . rw[Int.emod_eq_of_lt V8 q]at hje;omega
    . rw[show(i:Int)+1+v=((i:Int)+1+v-f.n.length)+(f.n.length:Int)*1 by omega,Int.add_mul_emod_self_left,Int.emod_eq_of_lt V8 V8]at hje;omega
   clear i0 i1 j1 j2;have put:=λ(ys:List Int) yl yb (o:Option T)=>dl7 g (fl:=fl) (a:=a) (b:=b) (w:=w) hc0 hd0 he0 hi hj hij (ys:=ys) yl yb hsl (some (.lst false (cs.map .int))) (some (.lst false (hid.map .int))) (some (.int (f.a+f.s-f.a))) (some (.int cell)) o;have out:∀s,SdOk f s->(ss++[s]).length=j0+1/\∀q∈ss++[s],SdOk f q:=λs hs=>⟨by simp[sl],λq hq=>(A3.mp hq).elim (sb q) (λz=>by rw[C5.mp z];exact hs)⟩;show GoB _ (aM _ (aM _ (aM _ (aM _ (aM _ zF))))) _;generalize zF=Z at*;have zh:=oJ hid;by_cases h3:(fl&&(b%3==0))=true
   . obtain⟨rfl,h3⟩:=Bool.and_eq_true_iff.mp h3;have rg:-(2^62)<=(f.n.length:Int)/\(f.n.length:Int)<2^62:=V8
     have mspan:0<f.a+f.s-f.a+1:=V8
     obtain⟨ys,hys,hyl,yb⟩:∃ys:List Int,(∀q:Option T,bY (aH 12) cG (aE bS (aE aQ (aB 1) (dC (.int 0))) (aE cK (aE bS (aE aQ (aB 8) (dC (.int 4))) (aE pY (aE pY (dC (.int 7)) (aE aQ (aB 8) (dC (.int 5)))) (aB 12))) (aE bS (aB 5) (dC (.int 1))))) [some (.lst false (cs.map .int)),some (eY false f),some (.bl true),some (.lst false (hid.map .int)),some (.int f.n.length),some (.int (f.a+f.s-f.a)),some (.lst true (ss.map (gK true))),some (.int cell),some (.lst true [.int a,.int b,.int c,.int d,.int e,.int w]),some (.int i),some (.lst true (hid.map .int)),q,none] (gM 0 (f.n.length:Int).toNat)=.ok (ys.map .int))/\ys.length=f.n.length/\∀y∈ys,f.a<=y/\y<=f.a+f.s:=by
      refine⟨(List.range f.n.length).map λ(k:Nat)=>f.a+(e+7*w*(0+(k:Int)))%(f.a+f.s-f.a+1),λq=>?_,W0,λy hy=>?_⟩
      . unfold gM;rw[G5,K0];refine cW λk hk=>?_;have hk:=J0.mp hk;have mk:mulOk (7*w) (0+(k:Int)):=cj3 V8 V8;clear hr hie hje put out;walk_at "ev";rfl
      . obtain⟨k,_,rfl⟩:=K1.mp hy;have:=G7 (e+7*w*(0+(k:Int))) (show f.a+f.s-f.a+1≠0 by omega);have:=J6 (e+7*w*(0+(k:Int))) mspan;omega
     have ity:(gM 0 (f.n.length:Int).toNat).length<=sizeLine:=by rw[gT];exact tZ V8
     obtain⟨s,hs,pz⟩:=put ys hyl yb o12;have out:=out s hs;clear put hs sb sl hb hl;walk_at "ev";exact⟨_,_,_,_,_,_,_,rfl,out⟩
   . obtain⟨s,hs,pz⟩:=put hid hl hb o12;have out:=out s hs;clear put hs sb sl hb hl;cases fl with
     |false=>clear h3;walk_at "ev";exact⟨_,_,_,_,_,_,_,rfl,out⟩
     |true=>
      have h3:(b%3==0)=false:=by simpa using h3
      walk_at "ev";exact⟨_,_,_,_,_,_,_,rfl,out⟩)
 clear hL;rw[B5]at sl;refine⟨ss,?_,sl,sb⟩;walk_at "ev"
open Classical in
noncomputable def txt(f:Fm)(s:Sd):Str:=if h:∃x,dO [bQ false f,.str s.word,.lst false s.parts]=.ok (iS true s.cls (s.ls.map λ(l:Nat)=>(l:Int)) s.lo s.hi x)then Classical.choose h else ""
noncomputable def dG(o:Bool)(f:Fm)(s:Sd):T:=iS o s.cls (s.ls.map λ(l:Nat)=>(l:Int)) s.lo s.hi (txt f s)
def dj9{f:Fm}{s:Sd}(h:SdOk f s):dO [bQ false f,.str s.word,.lst false s.parts]=.ok (dG true f s):=by unfold dG txt;rw[dif_pos h.made];exact Classical.choose_spec h.made
theorem ak7(o:Bool)(f:Fm)(s:Sd):frz (dG o f s)=dG false f s:=ee1 _ _ _ _ _ _
def bm8(f:Fm)(s:Sd):cM (dG true f s)=true:=bv5 _ _ _ _ _
def dz2(f:Fm)(s:Sd):cB (dG false f s)=true:=db2 _ _ _ _ _
theorem rG(o:Bool)(f:Fm):∀ss:List Sd,frzs (ss.map (dG o f))=ss.map (dG false f)
 |[]=>rfl
 |s::ss=>by simp only[List.map_cons,frzs,ak7,rG o f ss]
def cv3(f:Fm)(ss:List Sd):bZ (ss.map (dG true f))=true:=jI (bm8 f) ss
def wJ(f:Fm)(ss:List Sd):aW (ss.map (dG false f))=true:=fS (dz2 f) ss
theorem eh1{f:Fm}{s:Sd}(h:SdOk f s)(o:Bool):frz (gK o s)=gK false s:=by have q:frzs (s.ls.map λ(l:Nat)=>T.int (l:Int))=s.ls.map λ(l:Nat)=>T.int (l:Int):=rK (λ_=>rfl) _;simp only[gK,frz,frzs,dR _ h.np,q,cm8]
theorem dn0{f:Fm}{s:Sd}(h:SdOk f s):cB (gK false s)=true:=by have q:aW (s.ls.map λ(l:Nat)=>T.int (l:Int))=true:=fS (λ_=>rfl) _;simp only[gK,cB,aW,h.np,q,ag2,Bool.not_false,Bool.and_self]
theorem aj2{f:Fm}(o:Bool):∀{ss:List Sd},(∀s∈ss,SdOk f s)->frzs (ss.map (gK o))=ss.map (gK false)
 |[],_=>rfl
 |s::ss,h=>by simp only[List.map_cons,frzs,eh1 (h s List.mem_cons_self),aj2 o λt ht=>h t (List.mem_cons_of_mem _ ht)]
theorem ai2{f:Fm}:∀{ss:List Sd},(∀s∈ss,SdOk f s)->aW (ss.map (gK false))=true
 |[],_=>rfl
 |s::ss,h=>by simp only[List.map_cons,aW,dn0 (h s List.mem_cons_self),ai2 λt ht=>h t (List.mem_cons_of_mem _ ht),Bool.and_self]
theorem am8{f:Fm}:∀{ss:List Sd},(∀s∈ss,SdOk f s)->bZ (ss.map (gK true))=true
 |[],_=>rfl
 |s::ss,h=>by simp only[List.map_cons,bZ,ah2 (h s List.mem_cons_self),am8 λt ht=>h t (List.mem_cons_of_mem _ ht),Bool.and_self]
def es1{f:Fm}{ss:List Sd}(h:∀s∈ss,SdOk f s)(hl:ss.length<=1000):tQ [bQ false f,.lst false (ss.map (gK false))]=.ok (.lst true (ss.map (dG true f))):=by
 unfold tQ wC;have hc:bY (eW (bC (aH 2) (bC (aH 3) (bC (aH 4) (bC (aH 5) eZ))))) cG (aX 3 dO (aD (aB 0) (aD (aB 2) (aD (bN kW (aD (aB 3) aI)) aI)))) [some (bQ false f),some (.lst false (ss.map (gK false))),none,none,none,none] (ss.map (gK false))=.ok (ss.map (dG true f)):=by refine lZ λs hs=>?_;have k:=dj9 (h s hs);have np:=(h s hs).np;have zp:=dR _ np;have za:=jD false f;have co:=bm8 f s;simp only[gK];clear h;walk_at "ev"
 have nn:=ai2 h;have l1:ss.length<=100000:=V8
 clear h;walk_at "ev"
def oth(s:Sd):T:=match s.ls with
 |[_,b]=>.int b
 |_=>.non
def fst(s:Sd):Int:=match s.ls with
 |a::_=>a
 |_=>0
def st(s:Sd)(k:Int):List T:=(match s.hi with
 |some h=>[.tup [oth s,.int (fst s),.int h,.int k]]
 |none=>[])++[.tup [.int (fst s),oth s,.int (0-s.lo),.int k]]
def sp(f:Fm)(l:Int):List T:=[.tup [.non,.int l,.int (f.a+f.s),.non],.tup [.int l,.non,.int (0-f.a),.non]]
def cy6(c:Str)(hc:c∈lX)(o:Bool)(ls:List Int)(lo:Int)(hi:Option Int)(x:Str):iA ["Ink","Reign","Under","Between","After","Same","Within","Apart"] "spoken" (iS o c ls lo hi x)=.ok (.lst o (ls.map .int)):=by have:=ct8 c hc;simp only[iA,iS,this,if_true];with_unfolding_all rfl
def em4(c:Str)(hc:c∈lX)(o:Bool)(ls:List Int)(lo:Int)(hi:Option Int)(x:Str):iA ["Ink","Reign","Under","Between","After","Same","Within","Apart"] "low" (iS o c ls lo hi x)=.ok (.int lo):=by have:=ct8 c hc;simp only[iA,iS,this,if_true];with_unfolding_all rfl
def dk8(c:Str)(hc:c∈lX)(o:Bool)(ls:List Int)(lo:Int)(hi:Option Int)(x:Str):iA ["Ink","Reign","Under","Between","After","Same","Within","Apart"] "high" (iS o c ls lo hi x)=.ok (oE hi):=by have:=ct8 c hc;simp only[iA,iS,this,if_true];with_unfolding_all rfl
theorem dt0:iO "about" ["spoken","low","high","text"]=none:=V9
theorem cx5:iO "bounds" ["spoken","low","high","text"]=none:=V9
theorem de8{c:Str}(h:c∈lX):tm_about.lookup c=some bF:=by simp only[lX,List.mem_cons,List.not_mem_nil,or_false]at h;rcases h with rfl|rfl|rfl|rfl|rfl|rfl|rfl|rfl<;>with_unfolding_all rfl
theorem df9{c:Str}(h:c∈lX):tm_bounds.lookup c=some bD:=by simp only[lX,List.mem_cons,List.not_mem_nil,or_false]at h;rcases h with rfl|rfl|rfl|rfl|rfl|rfl|rfl|rfl<;>with_unfolding_all rfl
def du6{s:Sd}(c8:s.cls∈lX)(f:Fm){ρ:Fr}(h:aB 0 ρ=.ok (dG false f s)):nV 1 "about" tm_about (aB 0) aI ρ=.ok (.lst true ((s.ls.map λ(l:Nat)=>(l:Int)).map .int)):=by
 have k:bF [dG false f s]=.ok (.lst true ((s.ls.map λ(l:Nat)=>(l:Int)).map .int)):=by unfold bF eQ dG;have:=cy6 s.cls c8 false (s.ls.map λ(l:Nat)=>(l:Int)) s.lo s.hi (txt f s);walk_at "ev"
 have zo:=ak7 false f s;have e:nV 1 "about" tm_about (aB 0) aI ρ=yR 1 bF [dG false f s]:=by simp only[nV,h,rV,aI,dG,iS,dt0,de8 c8]
 rw[e];clear h;walk_at "ev"
def dp3{s:Sd}(c8:s.cls∈lX)(f:Fm){ρ:Fr}(h:aB 0 ρ=.ok (dG false f s)):nV 1 "bounds" tm_bounds (aB 0) aI ρ=.ok (.tup [.int s.lo,oE s.hi]):=by
 have ch:=ar6 s.hi;have nh:=ag2 s.hi;have k:bD [dG false f s]=.ok (.tup [.int s.lo,oE s.hi]):=by unfold bD dY dG;have:=em4 s.cls c8 false (s.ls.map λ(l:Nat)=>(l:Int)) s.lo s.hi (txt f s);have:=dk8 s.cls c8 false (s.ls.map λ(l:Nat)=>(l:Int)) s.lo s.hi (txt f s);walk_at "ev"
 have zo:=ak7 false f s;have e:nV 1 "bounds" tm_bounds (aB 0) aI ρ=yR 1 bD [dG false f s]:=by simp only[nV,h,rV,aI,dG,iS,cx5,df9 c8]
 rw[e];clear h;walk_at "ev"
def bz0{f:Fm}{s:Sd}(ok:SdOk f s)(k:Int):pH [dG false f s,.int k]=.ok (.lst true (st s k)):=by
 unfold pH pE;have ha:=du6 ok.c8 f (ρ:=[some (dG false f s),some (.int k),none,none,none,none]) rfl;have hb:=λq=>dp3 ok.c8 f (ρ:=[some (dG false f s),some (.int k),some q,none,none,none]) rfl;have b0:=@iW T;have b1:=@iQ T;obtain⟨word,cls,parts,ls,lo,hi⟩:=s;have l12:=ok.l12;simp only at l12 ha hb;clear ok;have t2:((2:Nat):Int)=2:=rfl;have q3:((2:Int)==2)=true:=rfl;have q1:(((0+1:Nat):Int)==2)=false:=rfl;have q2:(((0+1+1:Nat):Int)==2)=true:=rfl;rcases ls with _|⟨a,_|⟨b,_|⟨c,r⟩⟩⟩
 . simp at l12
 . simp only[List.map_cons,List.map_nil]at ha;cases hi with
   |none=>simp only[oE]at hb;walk_at "ev";rfl
   |some h=>simp only[oE]at hb;walk_at "ev";rfl
 . simp only[List.map_cons,List.map_nil]at ha;cases hi with
   |none=>simp only[oE]at hb;walk_at "ev";rfl
   |some h=>simp only[oE]at hb;walk_at "ev";rfl
 . simp at l12
def bb6(f:Fm)(l:Int):sS [bQ false f,.int l]=.ok (.lst true (sp f l)):=by unfold sS sO sp;have f1:=aj6 false f;have f2:=ad8 false f;walk_at "ev"
def bt1(ss:List Sd)(k:Nat):List T:=match ss[k]? with
 |some s=>st s k
 |none=>[]
def sC(ss:List Sd)(n:Nat):List T:=(List.range n).flatMap (bt1 ss)
def xN(f:Fm)(n:Nat):List T:=(List.range n).flatMap λ(l:Nat)=>sp f (l:Int)
def cP(f:Fm)(ss:List Sd):List T:=sC ss ss.length++xN f f.n.length
def by7{ss:List Sd}{n:Nat}{s:Sd}(h:ss[n]?=some s):sC ss (n+1)=sC ss n++st s n:=by unfold sC;rw[P7,List.flatMap_append];simp[bt1,h]
def ag6(f:Fm)(n:Nat):xN f (n+1)=xN f n++sp f n:=by unfold xN;rw[P7,List.flatMap_append];simp
def wE(t:T):Prop:=∃a b c d,t=.tup [a,b,.int c,d]/\(a=.non\/∃i,a=.int i)/\(b=.non\/∃i,b=.int i)/\(d=.non\/∃i,d=.int i)
def cv5(s:Sd):oth s=.non\/∃i,oth s=.int i:=by
 unfold oth;split
 . exact .inr ⟨_,rfl⟩
 . exact .inl rfl
def bj0(s:Sd)(k:Int):∀t∈st s k,wE t:=by
 intro t ht;unfold st at ht;rcases A3.mp ht with ht|ht
 . split at ht
   . rw[C5.mp ht];exact⟨_,_,_,_,rfl,cv5 s,.inr ⟨_,rfl⟩,.inr ⟨_,rfl⟩⟩
   . cases ht
 . rw[C5.mp ht];exact⟨_,_,_,_,rfl,.inr ⟨_,rfl⟩,cv5 s,.inr ⟨_,rfl⟩⟩
def dp1(ss:List Sd)(n:Nat):∀t∈sC ss n,wE t:=by
 intro t ht;obtain⟨k,_,h⟩:=P0.mp ht;unfold bt1 at h;split at h
 . exact bj0 _ _ t h
 . cases h
def dk1(f:Fm)(n:Nat):∀t∈xN f n,wE t:=by
 intro t ht;obtain⟨k,_,h⟩:=P0.mp ht;simp only[sp,List.mem_cons,List.not_mem_nil,or_false]at h;rcases h with rfl|rfl
 . exact⟨_,_,_,_,rfl,.inl rfl,.inr ⟨_,rfl⟩,.inl rfl⟩
 . exact⟨_,_,_,_,rfl,.inr ⟨_,rfl⟩,.inl rfl,.inl rfl⟩
def vM(f:Fm)(ss:List Sd):∀t∈cP f ss,wE t:=λt ht=>(A3.mp ht).elim (dp1 _ _ t) (dk1 _ _ t)
def kM{t:T}(h:wE t):cB t=true/\cM t=true/\frz t=t:=by obtain⟨a,b,c,d,rfl,ha,hb,hd⟩:=h;rcases ha with rfl|⟨i,rfl⟩<;>rcases hb with rfl|⟨j,rfl⟩<;>rcases hd with rfl|⟨k,rfl⟩<;>exact⟨rfl,rfl,rfl⟩
def fO{ts:List T}(h:∀t∈ts,wE t):aW ts=true:=by rw[vS,J3];exact λt ht=>(kM (h t ht)).1
def lG{ts:List T}(h:∀t∈ts,wE t):bZ ts=true:=by rw[an4,J3];exact λt ht=>(kM (h t ht)).2.1
def gL{ts:List T}(h:∀t∈ts,wE t):frzs ts=ts:=dR ts (fO h)
def cz6(s:Sd)(k:Int):(st s k).length<=2:=by unfold st;split<;>simp
theorem wW(ss:List Sd):∀n,(sC ss n).length<=2*n
 |0=>by simp[sC]
 |n+1=>by
  have ih:=wW ss n;unfold sC at ih⊢;rw[P7,List.flatMap_append,E7];have:(([n]:List Nat).flatMap (bt1 ss)).length<=2:=by
   simp only[List.flatMap_cons,List.flatMap_nil,List.append_nil,bt1];split
   . exact cz6 _ _
   . simp
  omega
theorem ad5(f:Fm):∀n,(xN f n).length=2*n
 |0=>by simp[xN]
 |n+1=>by rw[ag6,E7,ad5 f n];simp[sp];omega
def cx3{f:Fm}(g:Gd f){ss:List Sd}(h:∀s∈ss,SdOk f s)(hl:ss.length<=1000):wL [bQ false f,.lst false (ss.map (dG false f))]=.ok (.lst true (cP f ss)):=by
 unfold wL wD;have fl:=wM false f;have no:=wJ f ss;have n8:=g.n8;walk_at "ev";generalize hL:cR _ _ _ _=o;obtain⟨ρ',rfl,o3,o4,rfl⟩:=gY (λj ρ=>∃(o3 o4:Option T),ρ=[some (bQ false f),some (.lst false (ss.map (dG false f))),some (.lst true (sC ss j)),o3,o4,none]) hL ⟨_,_,rfl⟩ (by
  rintro j t ρ et ⟨o3,o4,rfl⟩;obtain⟨t2,e2,rfl⟩:=bw2 et;rw[F7]at e2;cases eq:ss[j]? with
  |none=>rw[eq]at e2;cases e2
  |some s=>
   rw[eq]at e2;have e2:=(E8 e2).symm;subst e2;have hs:=h s (C6 eq);have k:=bz0 hs (j:Int);have zo:=ak7 false f s;have cs:=lG (bj0 s j);have zs:=gL (bj0 s j);have hj:j<ss.length:=(C7.mp eq).1;have l1:=wW ss j;have l2:=cz6 s j;have l3:(sC ss j).length+(st s j).length<=100000:=V8
   have sc:=by7 eq;clear hL et eq h;walk_at "ev";exact⟨_,_,rfl⟩)
 rw[bl3,B5];clear hL;walk_at "ev";generalize hL:cR _ _ _ _=o;obtain⟨ρ',rfl,o5,rfl⟩:=gY (λj ρ=>∃(o5:Option T),ρ=[some (bQ false f),some (.lst false (ss.map (dG false f))),some (.lst true (sC ss ss.length++xN f j)),o3,o4,o5]) hL ⟨none,by simp[xN]⟩ (by
  rintro j t ρ et ⟨o5,rfl⟩;obtain⟨hj,rfl⟩:=mN et;have k:=bb6 f (0+(j:Int));have za:=jD false f;have l1:=wW ss ss.length;have l2:=ad5 f j;have l3:(sC ss ss.length++xN f j).length+(sp f (0+(j:Int))).length<=100000:=by rw[E7];simp[sp];omega
  have cs:bZ (sp f (0+(j:Int)))=true:=rfl;clear hL et h l1 l2;walk_at "ev";refine⟨some (.int (0+(j:Int))),?_⟩;rw[ag6,J4,show(0+(j:Int))=(j:Int) by omega])
 rw[gT];clear hL;simp only[Int.toNat_natCast];walk_at "ev";rfl
def bz9{f:Fm}(g:Gd f){ss:List Sd}(h:∀s∈ss,SdOk f s)(hl:ss.length<=1000):qI [eY false f,.lst false (ss.map (gK false))]=.ok (.lst true (cP f ss)):=by
 unfold qI uQ;have b0:=@iW T;have b1:=@iQ T;have b2:=@nW T;have b3:=@tF T;have n8:=g.n8;obtain⟨m0,m1,m2,_⟩:=bf5 f;have rg:-(2^62)<=(ss.length:Int)/\(ss.length:Int)<2^62:=V8
 walk_at "ev";generalize hL:cR _ _ _ _=o;obtain⟨ρ',rfl,o3,o4,o5,o6,o7,rfl⟩:=gY (λj ρ=>∃(o3 o4 o5 o6 o7:Option T),ρ=[some (eY false f),some (.lst false (ss.map (gK false))),some (.lst true (sC ss j)),o3,o4,o5,o6,o7,none]) hL ⟨_,_,_,_,_,rfl⟩ (by
  rintro j t ρ et ⟨o3,o4,o5,o6,o7,rfl⟩;obtain⟨hj,rfl⟩:=mN et;have hj:j<ss.length:=by simpa using hj
  obtain⟨s,eq⟩:∃s,ss[j]?=some s:=⟨ss[j],A2 hj⟩;have hs:=h s (C6 eq);have at1:atI (ss.map (gK false)) (j:Int)=some (gK false s):=by exact gR (by rw[F7,eq];rfl)
  have l1:=wW ss j;have l3:(sC ss j).length<=100000:=V8
  have l4:∀x:T,(sC ss j++[x]).length<sizeLine:=λx=>P9 (show(sC ss j++[x]).length<=100000 by rw[E7];simp;omega) W1;have sc:=by7 eq;obtain⟨word,cls,parts,ls,lo,hi⟩:=s;have l12:=hs.l12;simp only[gK]at at1 l12;clear hL et eq h hs l1;have zz:(0+(j:Int))=(j:Int):=R5 _;rcases ls with _|⟨a,_|⟨b,_|⟨c,r⟩⟩⟩
  . simp at l12
  . simp only[List.map_cons,List.map_nil]at at1;cases hi with
    |none=>simp only[oE]at at1;clear l12;walk_at "ev";exact⟨_,_,_,_,_,by simp only[st,oth,fst,List.nil_append];rfl⟩
    |some hh=>simp only[oE]at at1;clear l12;walk_at "ev";exact⟨_,_,_,_,_,by simp only[st,oth,fst,List.append_assoc,List.cons_append,List.nil_append];rfl⟩
  . simp only[List.map_cons,List.map_nil]at at1;cases hi with
    |none=>simp only[oE]at at1;clear l12;walk_at "ev";exact⟨_,_,_,_,_,by simp only[st,oth,fst,List.nil_append];rfl⟩
    |some hh=>simp only[oE]at at1;clear l12;walk_at "ev";exact⟨_,_,_,_,_,by simp only[st,oth,fst,List.append_assoc,List.cons_append,List.nil_append];rfl⟩
  . simp at l12)
 rw[gT];clear hL;simp only[Int.toNat_natCast];walk_at "ev";generalize hL:cR _ _ _ _=o;obtain⟨ρ',rfl,o8,rfl⟩:=gY (λj ρ=>∃(o8:Option T),ρ=[some (eY false f),some (.lst false (ss.map (gK false))),some (.lst true (sC ss ss.length++xN f j)),o3,o4,o5,o6,o7,o8]) hL ⟨none,by simp[xN]⟩ (by
  rintro j t ρ et ⟨o8,rfl⟩;obtain⟨hj,rfl⟩:=mN et;have l1:=wW ss ss.length;have l2:=ad5 f j;have l3:(sC ss ss.length++xN f j).length<=100000:=by rw[E7];omega
  have l4:∀x:T,(sC ss ss.length++xN f j++[x]).length<sizeLine:=λx=>P9 (show(sC ss ss.length++xN f j++[x]).length<=100000 by rw[E7,E7];simp;omega) W1;clear hL et h l1 l2;walk_at "ev";refine⟨some (.int (0+(j:Int))),?_⟩;rw[ag6,show(0+(j:Int))=(j:Int) by omega];simp[sp])
 rw[gT];clear hL;simp only[Int.toNat_natCast];walk_at "ev";rfl
def vX(ys:List Int):T->Int
 |.int i=>ys.getD i.toNat 0
 |_=>0
def kept(ys:List Int):T->Bool
 |.tup [a,b,.int c,_]=>decide (vX ys b<=vX ys a+c)
 |_=>true
def Pl(n:Nat)(a:T):Prop:=a=.non\/∃i:Nat,i<n/\a=.int i
def StepN(n:Nat)(t:T):Prop:=∃a b c d,t=.tup [a,b,.int c,d]/\Pl n a/\Pl n b/\(d=.non\/∃i,d=.int i)
theorem StepN.st{n:Nat}{t:T}(h:StepN n t):wE t:=by obtain⟨a,b,c,d,rfl,ha,hb,hd⟩:=h;exact⟨a,b,c,d,rfl,ha.imp_right λ⟨i,_,e⟩=>⟨_,e⟩,hb.imp_right λ⟨i,_,e⟩=>⟨_,e⟩,hd⟩
def ci6(g:Int):fF [.non,.int g]=.ok (.int g):=by unfold fF sK;walk_at "ev"
def cf5(i g:Int):fF [.int i,.int g]=.ok (.int i):=by unfold fF sK;walk_at "ev"
def ef2{f:Fm}{s:Sd}(h:SdOk f s):Pl f.n.length (.int (fst s))/\Pl f.n.length (oth s):=by
 have l12:=h.l12;have lb:=h.lb;obtain⟨w,c,p,ls,lo,hi⟩:=s;simp only at l12 lb;rcases ls with _|⟨a,_|⟨b,_|⟨c',r⟩⟩⟩
 . simp at l12
 . exact⟨.inr ⟨a,lb a W0,rfl⟩,.inl rfl⟩
 . exact⟨.inr ⟨a,lb a W0,rfl⟩,.inr ⟨b,lb b W0,rfl⟩⟩
 . simp at l12
def cu9{f:Fm}{s:Sd}(h:SdOk f s)(k:Int):∀t∈st s k,StepN f.n.length t:=by
 intro t ht;obtain⟨h1,h2⟩:=ef2 h;unfold st at ht;rcases A3.mp ht with ht|ht
 . split at ht
   . rw[C5.mp ht];exact⟨_,_,_,_,rfl,h2,h1,.inr ⟨_,rfl⟩⟩
   . cases ht
 . rw[C5.mp ht];exact⟨_,_,_,_,rfl,h1,h2,.inr ⟨_,rfl⟩⟩
def pM{f:Fm}{ss:List Sd}(h:∀s∈ss,SdOk f s):∀t∈cP f ss,StepN f.n.length t:=by
 intro t ht;rcases A3.mp ht with ht|ht
 . obtain⟨k,_,q⟩:=P0.mp ht;unfold bt1 at q;split at q
   . next s es=>exact cu9 (h s (C6 es)) _ t q
   . cases q
 . obtain⟨k,hk,q⟩:=P0.mp ht;have hk:=J0.mp hk;simp only[sp,List.mem_cons,List.not_mem_nil,or_false]at q;rcases q with rfl|rfl
   . exact⟨_,_,_,_,rfl,.inl rfl,.inr ⟨k,hk,rfl⟩,.inl rfl⟩
   . exact⟨_,_,_,_,rfl,.inr ⟨k,hk,rfl⟩,.inl rfl,.inl rfl⟩
def aw4{f:Fm}(g:Gd f){ss:List Sd}(h:ss.length<=1000):(cP f ss).length<=10000:=by unfold cP;have:=wW ss ss.length;have:=ad5 f f.n.length;have:=g.n8;rw[E7];omega
theorem bs5{b:T->Fr->Option Fr}{body:Fr->bO}{r:T}{p:T->Bool}(Iv:Fr->Prop):∀{ts:List T}{ρ:Fr},(∀t∈ts,∀ρ,Iv ρ->∃ρ1,b t ρ=some ρ1/\((p t=false/\body ρ1=.rt r)\/(p t=true/\∃ρ2,body ρ1=.nx ρ2/\Iv ρ2)))->Iv ρ->
 (ts.all p=true/\∃ρ',cR b body ts ρ=.nx ρ'/\Iv ρ')\/(ts.all p=false/\cR b body ts ρ=.rt r)
 |[],ρ,_,hi=>.inl ⟨rfl,ρ,rfl,hi⟩
 |t::ts,ρ,hs,hi=>by
  obtain⟨ρ1,h1,h2⟩:=hs t A7 ρ hi;rcases h2 with⟨hp,hb⟩|⟨hp,ρ2,hb,hi2⟩
  . refine .inr ⟨by simp[hp],?_⟩;simp only[cR,h1,hb]
  . rcases bs5 (p:=p) (r:=r) Iv (λu hu=>hs u (A5 _ hu)) hi2 with⟨ha,ρ',e,i'⟩|⟨ha,e⟩
    . refine .inl ⟨by simp[hp,ha],ρ',?_,i'⟩;simp only[cR,h1,hb];exact e
    . refine .inr ⟨by simp[hp,ha],?_⟩;simp only[cR,h1,hb];exact e
def dr5{ys:List Int}{i:Nat}(hi:i<ys.length):atI (ys.map T.int) (i:Int)=some (.int (vX ys (.int i))):=by refine gR ?_;rw[F7,A2 hi];simp[vX,List.getD_eq_getElem?_getD,List.getElem?_eq_getElem hi]
def br9{ys:List Int}{ts:List T}(h:∀t∈ts,StepN ys.length t):vC [.lst false (ys.map .int),.lst false ts]=.ok (.bl (ts.all (kept ys))):=by
 unfold vC uL;have no:=fO λt ht=>(h t ht).st;have key:=bs5 (b:=eW (bC (aH 2) (bC (aH 3) (bC (aH 4) (bC (aH 5) eZ))))) (body:=(aM (aY [] (dC (.int 0)) (aH 6)) (aM (aY [] (dC (.int 0)) (aH 7)) (aM (cF (aU (aE jC (aB 2) (dC .non))) (aY [] (aP (aE aQ (aB 0) (aB 2))) (aH 6)) bJ) (aM (cF (aU (aE jC (aB 3) (dC .non))) (aY [] (aP (aE aQ (aB 0) (aB 3))) (aH 7)) bJ) (cF (aU (aE vW (aB 7) (aE bS (aB 6) (aB 4)))) (bE [] (dC (.bl false))) bJ)))))) (r:=.bl false) (p:=kept ys) (λρ=>∃o2 o3 o4 o5 o6 o7:Option T,ρ=[some (.lst false (ys.map .int)),some (.lst false ts),o2,o3,o4,o5,o6,o7]) (ts:=ts) (ρ:=[some (.lst false (ys.map .int)),some (.lst false ts),none,none,none,none,none,none]) (by
  rintro t ht ρ ⟨o2,o3,o4,o5,o6,o7,rfl⟩;obtain⟨a,b,c,d,rfl,ha,hb,hd⟩:=h t ht;refine⟨[some (.lst false (ys.map .int)),some (.lst false ts),some a,some b,some (.int c),some d,o6,o7],rfl,?_⟩;have kp:∀x:Bool,decide (vX ys a+c<vX ys b)=x->kept ys (.tup [a,b,.int c,d])=!x:=by
   intro x hx;subst hx;simp only[kept];by_cases q:vX ys b<=vX ys a+c
   . rw[F8 q,E2 V8];rfl
   . rw[E2 q,F8 V8];rfl
  have fA:∀i:Nat,i<ys.length->a=.int i->atI (ys.map T.int) (i:Int)=some (.int (vX ys a)):=λi hi e=>by rw[e];exact dr5 hi
  have fB:∀i:Nat,i<ys.length->b=.int i->atI (ys.map T.int) (i:Int)=some (.int (vX ys b)):=λi hi e=>by rw[e];exact dr5 hi
  have nA:a=.non->vX ys a=0:=λe=>by rw[e];rfl
  have nB:b=.non->vX ys b=0:=λe=>by rw[e];rfl
  have out:∃A B:Int,vX ys a=A/\vX ys b=B/\((a=.non/\A=0)\/∃i:Nat,a=.int i/\atI (ys.map T.int) (i:Int)=some (.int A))/\((b=.non/\B=0)\/∃i:Nat,b=.int i/\atI (ys.map T.int) (i:Int)=some (.int B)):=by
   refine⟨_,_,rfl,rfl,?_,?_⟩
   . rcases ha with e|⟨i,hi,e⟩
     . exact .inl ⟨e,nA e⟩
     . exact .inr ⟨i,e,fA i hi e⟩
   . rcases hb with e|⟨i,hi,e⟩
     . exact .inl ⟨e,nB e⟩
     . exact .inr ⟨i,e,fB i hi e⟩
  obtain⟨A,B,eA,eB,ca,cb⟩:=out;rw[eA,eB]at kp;clear fA fB nA nB ha hb hd h ht no eA eB;cases e:decide (A+c<B)with
  |true=>refine .inl ⟨kp true e,?_⟩;clear kp;rcases ca with⟨rfl,rfl⟩|⟨i,rfl,qa⟩<;>rcases cb with⟨rfl,rfl⟩|⟨j,rfl,qb⟩<;>walk_at "ev"
  |false=>refine .inr ⟨kp false e,[some (.lst false (ys.map .int)),some (.lst false ts),some a,some b,some (.int c),some d,some (.int A),some (.int B)],?_,_,_,_,_,_,_,rfl⟩;clear kp;rcases ca with⟨rfl,rfl⟩|⟨i,rfl,qa⟩<;>rcases cb with⟨rfl,rfl⟩|⟨j,rfl,qb⟩<;>walk_at "ev") ⟨_,_,_,_,_,_,rfl⟩
 clear h;rcases key with⟨ha,ρ',e,o2,o3,o4,o5,o6,o7,rfl⟩|⟨ha,e⟩
 . walk_at "ev"
 . walk_at "ev"
def gy(Y:List Int)(i:Nat):Int:=Y.getD i 0
def aq0(Y:List Int)(i j:Nat)(v:Int)(h:i<Y.length):gy (Y.set i v) j=if i=j then v else gy Y j:=by
 unfold gy;rw[A6,A6,List.getElem?_set];by_cases e:i=j
 . subst e;simp[h]
 . simp[e]
theorem ae6:∀(m:Nat)(l:List Nat),l.Nodup->(∀x∈l,x<m)->l.length<=m
 |0,l,_,h=>by
  cases l with
  |nil=>simp
  |cons a l=>exact B0 (h a A7) V8
 |m+1,l,nd,h=>by
  by_cases e:m∈l
  . have:=ae6 m (l.erase m) (nd.erase m) (λx hx=>by have h1:=(List.Nodup.mem_erase_iff nd).mp hx;have:=h x h1.2;have:=h1.1;omega);rw[List.length_erase_of_mem e]at this;omega
  . have:=ae6 m l nd (λx hx=>by have:=h x hx;have:x≠m:=λq=>e (q▸hx);omega);omega
def ec2(w:Nat->Nat)(n:Nat)(h:∀k,k<=n+1->w k<=n):∃i j,i<j/\j<=n+1/\w i=w j:=by
 apply L8;intro hn;have nd:((List.range (n+2)).map w).Nodup:=by unfold List.Nodup;rw[List.pairwise_map];refine(List.pairwise_lt_range (n:=n+2)).imp_of_mem λ{a b} ha hb hlt e=>?_;have:=J0.mp hb;exact hn ⟨a,b,hlt,V8,e⟩
 have:=ae6 (n+1) _ nd (λx hx=>by obtain⟨k,hk,rfl⟩:=K1.mp hx;have:=J0.mp hk;have:=h k V8;omega);rw[B5,L5]at this;omega
def it(f:Nat->Nat):Nat->Nat->Nat
 |0,a=>a
 |k+1,a=>it f k (f a)
theorem az0(f:Nat->Nat):∀k a,it f (k+1) a=f (it f k a)
 |0,_=>rfl
 |k+1,a=>az0 f k (f a)
theorem vG(f:Nat->Nat)(j:Nat):∀k a,it f (k+j) a=it f k (it f j a)
 |k,a=>by
  induction j generalizing a with
  |zero=>rfl
  |succ j ih=>exact ih (f a)
section
variable{α:Type}(src dst:α->Nat)(cst:α->Int)
def Kp(Y:List Int)(t:α):Prop:=gy Y (dst t)<=gy Y (src t)+cst t
instance (Y:List Int) (t:α):Decidable (Kp src dst cst Y t):=inferInstanceAs (Decidable (_<=_))
structure Rs (α:Type) where
 Y:List Int
 R:List (Option α)
 x:Option Nat
def one(s:Rs α)(t:α):Rs α:=if Kp src dst cst s.Y t then s else⟨s.Y.set (src t) (gy s.Y (dst t)-cst t),s.R.set (src t) (some t),some (src t)⟩
def Dt(ts:List α)(n:Nat)(D:Nat->Int):Prop:=D n=0/\∀t∈ts,D (dst t)<=D (src t)+cst t
structure Gh (ts:List α) (n p i:Nat) (s:Rs α) (L Tm:Nat->Nat) (τ:Nat):Prop where
 tm:∀a,Tm a<=τ
 lp:∀a,L a<=p
 r:∀a t,s.R[a]?=some (some t)->t∈ts/\src t=a/\L a<=L (dst t)+1/\gy s.Y a<=gy s.Y (dst t)-cst t/\(Tm a<=Tm (dst t)->gy s.Y a<gy s.Y (dst t)-cst t)
 d:∀a,1<=L a->∃t,s.R[a]?=some (some t)
 k1:∀j t,ts[j]?=some t->j<i->L (dst t)<p->Kp src dst cst s.Y t
 k2:∀j t,ts[j]?=some t->i<=j->L (dst t)+1<p->Kp src dst cst s.Y t
 x1:∀a,s.x=some a->L a=p/\a<=n
 x0:s.x=none->∀a,L a<p
structure Iv (Y0:List Int) (ts:List α) (n p i:Nat) (s:Rs α):Prop where
 ly:s.Y.length=n+1
 lr:s.R.length=n+1
 up:∀j,gy Y0 j<=gy s.Y j
 low:∀D,Dt src dst cst ts n D->(∀j,j<=n->gy Y0 j<=D j)->∀j,j<=n->gy s.Y j<=D j
 gh:∃L Tm τ,Gh src dst cst ts n p i s L Tm τ
variable{src dst cst}{Y0:List Int}{ts:List α}{n p i:Nat}{s:Rs α}
def Iv.start(hy:Y0.length=n+1):Iv src dst cst Y0 ts n 1 0 ⟨Y0,List.replicate (n+1) none,none⟩:=
 ⟨hy,W0,λ_=>V5 _,λD _ h=>h,λ_=>0,λ_=>0,0,λ_=>D6 _,λ_=>L7 _,λa t h=>by simp only[List.getElem?_replicate]at h;split at h<;>simp at h,λa h=>by omega,λj t _ h=>by omega,λj t _ _ h=>by omega,(λa h=>nomatch h),λ_ a=>by omega⟩
def Iv.next(h:Iv src dst cst Y0 ts n p ts.length s):Iv src dst cst Y0 ts n (p+1) 0 ⟨s.Y,s.R,none⟩:=by obtain⟨L,Tm,τ,g⟩:=h.gh;refine⟨h.ly,h.lr,h.up,h.low,L,Tm,τ,g.tm,λa=>Nat.le_succ_of_le (g.lp a),g.r,g.d,λj t _ q=>by omega,λj t e _ q=>g.k1 j t e (C7.mp e).1 V8,(λa q=>nomatch q),λ_ a=>by have:=g.lp a;omega⟩
theorem Iv.one(h:Iv src dst cst Y0 ts n p i s)(hb:∀t∈ts,src t<=n/\dst t<=n){t:α}(et:ts[i]?=some t):Iv src dst cst Y0 ts n p (i+1) (Nk53.one src dst cst s t):=by
 obtain⟨L,Tm,τ,g⟩:=h.gh;have tm:t∈ts:=C6 et;obtain⟨b1,b2⟩:=hb t tm;unfold Nk53.one;by_cases hk:Kp src dst cst s.Y t
 . rw[E6 hk];refine⟨h.ly,h.lr,h.up,h.low,L,Tm,τ,g.tm,g.lp,g.r,g.d,λj u e q l=>?_,λj u e q=>g.k2 j u e V8,g.x1,g.x0⟩;by_cases ej:j=i
   . subst ej;rw[et]at e;cases e;exact hk
   . exact g.k1 j u e V8 l
 . rw[E5 hk];have hl:src t<s.Y.length:=by rw[h.ly];omega
   have lt:gy s.Y (src t)<gy s.Y (dst t)-cst t:=by unfold Kp at hk;omega
   have ge:∀j,gy s.Y j<=gy (s.Y.set (src t) (gy s.Y (dst t)-cst t)) j:=λj=>by
    rw[aq0 _ _ _ _ hl];split
    . next e=>subst e;omega
    . exact V5 _
   have lb:p<=L (dst t)+1:=by apply L8;intro q;exact hk (g.k2 i t et (D6 _) V8)
   refine⟨by simp[h.ly],by simp[h.lr],λj=>V4 (h.up j) (ge j),λD hD h0 j hj=>?_,λa=>if a=src t then p else L a,λa=>if a=src t then τ+1 else Tm a,τ+1,λa=>?_,λa=>?_,λa u hu=>?_,λa ha=>?_,λj u e q l=>?_,λj u e q l=>?_,λa q=>?_,λq=>by cases q⟩
   . show gy (s.Y.set (src t) (gy s.Y (dst t)-cst t)) j<=D j;rw[aq0 _ _ _ _ hl];split
     . next e=>
       subst e;have h1:=h.low D hD h0 (dst t) b2;have h2:=hD.2 t tm;omega
     . exact h.low D hD h0 j hj
   . have:=g.tm a;show(if a=src t then τ+1 else Tm a)<=τ+1;split<;>omega
   . show(if a=src t then p else L a)<=p;have:=g.lp a;split<;>omega
   . have hu:(s.R.set (src t) (some t))[a]?=some (some u):=hu;show u∈ts/\src u=a/\(if a=src t then p else L a)<=(if dst u=src t then p else L (dst u))+1/\gy (s.Y.set (src t) (gy s.Y (dst t)-cst t)) a<=gy (s.Y.set (src t) (gy s.Y (dst t)-cst t)) (dst u)-cst u/\((if a=src t then τ+1 else Tm a)<=(if dst u=src t then τ+1 else Tm (dst u))->gy (s.Y.set (src t) (gy s.Y (dst t)-cst t)) a<gy (s.Y.set (src t) (gy s.Y (dst t)-cst t)) (dst u)-cst u);have G:=λj=>aq0 s.Y (src t) j (gy s.Y (dst t)-cst t) hl;rw[G a,G (dst u)];by_cases ea:a=src t
     . subst ea;rw[L6 (by rw[h.lr];omega)]at hu;cases hu;have l1:=g.lp (dst t);have l2:=g.tm (dst t);by_cases e:dst t=src t
       . simp only[e,if_true];rw[e]at lt;exact⟨tm,trivial,V8,V8,λ_=>by omega⟩
       . have e':¬src t=dst t:=λz=>e z.symm;simp only[if_neg e,if_neg e',if_true];exact⟨tm,trivial,V8,V8,λq=>by omega⟩
     . rw[E4 (λz=>ea z.symm)]at hu;obtain⟨q1,q2,q3,q4,q5⟩:=g.r a u hu;have ea':¬src t=a:=λz=>ea z.symm;have l1:=g.lp a;by_cases e:dst u=src t
       . have e':src t=dst u:=e.symm;rw[e]at q4;simp only[if_neg ea,if_neg ea',if_pos e,if_pos e'];exact⟨q1,q2,V8,V8,λ_=>by omega⟩
       . have e':¬src t=dst u:=λz=>e z.symm;simp only[if_neg ea,if_neg ea',if_neg e,if_neg e'];exact⟨q1,q2,q3,q4,q5⟩
   . show∃u,(s.R.set (src t) (some t))[a]?=some (some u);by_cases ea:a=src t
     . exact⟨t,by rw[ea,L6 (by rw[h.lr];omega)]⟩
     . have ha:1<=(if a=src t then p else L a):=ha;rw[E5 ea]at ha;rw[E4 (λz=>ea z.symm)];exact g.d a ha
   . have l:(if dst u=src t then p else L (dst u))<p:=l;show gy (s.Y.set (src t) (gy s.Y (dst t)-cst t)) (dst u)<=gy (s.Y.set (src t) (gy s.Y (dst t)-cst t)) (src u)+cst u;by_cases e2:dst u=src t
     . rw[E6 e2]at l;omega
     . rw[E5 e2]at l;have h1:=ge (src u);have h2:gy (s.Y.set (src t) (gy s.Y (dst t)-cst t)) (dst u)=gy s.Y (dst u):=by rw[aq0 _ _ _ _ hl,E5 (λz=>e2 z.symm)]
       rw[h2];by_cases ej:j=i
       . subst ej;rw[et]at e;cases e;rw[aq0 _ _ _ _ hl,E6 rfl];omega
       . have:gy s.Y (dst u)<=gy s.Y (src u)+cst u:=g.k1 j u e V8 l;omega
   . have l:(if dst u=src t then p else L (dst u))+1<p:=l;show gy (s.Y.set (src t) (gy s.Y (dst t)-cst t)) (dst u)<=gy (s.Y.set (src t) (gy s.Y (dst t)-cst t)) (src u)+cst u;by_cases e2:dst u=src t
     . rw[E6 e2]at l;omega
     . rw[E5 e2]at l;have h1:=ge (src u);have h2:gy (s.Y.set (src t) (gy s.Y (dst t)-cst t)) (dst u)=gy s.Y (dst u):=by rw[aq0 _ _ _ _ hl,E5 (λz=>e2 z.symm)]
       rw[h2];have:gy s.Y (dst u)<=gy s.Y (src u)+cst u:=g.k2 j u e V8 l;omega
   . have q:some (src t)=some a:=q;cases q;exact⟨by show(if src t=src t then p else _)=p;rw[E6 rfl],b1⟩
end
theorem ef7{p:Nat->Prop}(h:∃k,p k):∃k,p k/\∀m,m<k->¬p m:=by
 obtain⟨k,hk⟩:=h;induction k using Nat.strongRecOn with
 |ind k ih=>
  by_cases q:∃m,m<k/\p m
  . obtain⟨m,h1,h2⟩:=q;exact ih m h1 h2
  . exact⟨k,hk,λm h1 h2=>q ⟨m,h1,h2⟩⟩
section
variable{α:Type}{src dst:α->Nat}{cst:α->Int}{Y0:List Int}{ts:List α}{n p i:Nat}{s:Rs α}
theorem Iv.fold(hb:∀t∈ts,src t<=n/\dst t<=n):∀(us:List α){i:Nat}{s:Rs α},ts.drop i=us->Iv src dst cst Y0 ts n p i s->Iv src dst cst Y0 ts n p (i+us.length) (us.foldl (Nk53.one src dst cst) s)
 |[],i,s,_,h=>h
 |t::us,i,s,e,h=>by
  have et:ts[i]?=some t:=by
   have:(ts.drop i)[0]?=some t:=by rw[e];rfl
   rw[List.getElem?_drop]at this;exact this
  have ed:ts.drop (i+1)=us:=by rw[<-List.tail_drop,e];rfl
  have:=Iv.fold hb us ed (h.one hb et);rw[D8,show i+(us.length+1)=i+1+us.length by omega];exact this
variable(src dst cst) in
def yY(ts:List α)(s:Rs α):Rs α:=ts.foldl (Nk53.one src dst cst) ⟨s.Y,s.R,none⟩
variable(src dst cst) in
def az4(ts:List α)(s:Rs α):Nat->Rs α
 |0=>s
 |k+1=>yY src dst cst ts (az4 ts s k)
def Iv.pass(hb:∀t∈ts,src t<=n/\dst t<=n)(h:Iv src dst cst Y0 ts n p 0 ⟨s.Y,s.R,none⟩):Iv src dst cst Y0 ts n p ts.length (yY src dst cst ts s):=by have:=Iv.fold hb ts (i:=0) rfl h;rwa[Q1]at this
theorem Iv.runs(hb:∀t∈ts,src t<=n/\dst t<=n)(hy:Y0.length=n+1):∀k,Iv src dst cst Y0 ts n (k+1) ts.length (az4 src dst cst ts ⟨Y0,List.replicate (n+1) none,none⟩ (k+1))
 |0=>Iv.pass hb (s:=⟨Y0,List.replicate (n+1) none,none⟩) (Iv.start hy)
 |k+1=>Iv.pass hb (Iv.next (Iv.runs hb hy k))
variable(dst) in
def nx(R:List (Option α))(a:Nat):Nat:=match R[a]? with
 |some (some t)=>dst t
 |_=>a
variable(dst cst) in
def cs(R:List (Option α)):Nat->Nat->Int
 |0,_=>0
 |k+1,a=>(match R[a]? with
  |some (some t)=>cst t
  |_=>0)+cs R k (nx dst R a)
theorem bt3{L Tm:Nat->Nat}{τ:Nat}(g:Gh src dst cst ts n p i s L Tm τ):∀(k a:Nat),(∀m,m<k->∃t,s.R[it (nx dst s.R) m a]?=some (some t))->
 gy s.Y a+cs dst cst s.R k a<=gy s.Y (it (nx dst s.R) k a)/\(gy s.Y a+cs dst cst s.R k a<gy s.Y (it (nx dst s.R) k a)\/Tm (it (nx dst s.R) k a)+k<=Tm a)
 |0,a,_=>⟨by simp[cs,it],.inr (by simp[it])⟩
 |k+1,a,h=>by
  obtain⟨t,et⟩:=h 0 V8;have et:s.R[a]?=some (some t):=et;obtain⟨_,_,_,q4,q5⟩:=g.r a t et;have en:nx dst s.R a=dst t:=by simp only[nx,et]
  obtain⟨i1,i2⟩:=bt3 g k (nx dst s.R a) (λm hm=>h (m+1) V8);have ec:cs dst cst s.R (k+1) a=cst t+cs dst cst s.R k (nx dst s.R a):=by simp only[cs,et]
  have ei:it (nx dst s.R) (k+1) a=it (nx dst s.R) k (nx dst s.R a):=rfl;rw[ec,ei];rw[en]at*;refine⟨V8,?_⟩;rcases i2 with i2|i2
  . exact .inl V8
  . by_cases q:Tm a<=Tm (dst t)
    . have:=q5 q;exact .inl V8
    . exact .inr V8
theorem cu0{L Tm:Nat->Nat}{τ:Nat}(g:Gh src dst cst ts n p i s L Tm τ){D:Nat->Int}(hD:Dt src dst cst ts n D):∀(k a:Nat),(∀m,m<k->∃t,s.R[it (nx dst s.R) m a]?=some (some t))->D (it (nx dst s.R) k a)<=D a+cs dst cst s.R k a
 |0,a,_=>by simp[cs,it]
 |k+1,a,h=>by
  obtain⟨t,et⟩:=h 0 V8;have et:s.R[a]?=some (some t):=et;obtain⟨q1,q2,_⟩:=g.r a t et;have en:nx dst s.R a=dst t:=by simp only[nx,et]
  have i1:=cu0 g hD k (nx dst s.R a) (λm hm=>h (m+1) V8);have ec:cs dst cst s.R (k+1) a=cst t+cs dst cst s.R k (nx dst s.R a):=by simp only[cs,et]
  have ei:it (nx dst s.R) (k+1) a=it (nx dst s.R) k (nx dst s.R a):=rfl;have:=hD.2 t q1;rw[ec,ei];rw[en]at*;rw[q2]at this;omega
structure Ring (src dst:α->Nat) (cst:α->Int) (ts:List α) (n:Nat) (R:List (Option α)) (a0 P k:Nat):Prop where
 at0:it (nx dst R) (n+1) a0=P
 k1:1<=k
 kn:k<=n+1
 back:it (nx dst R) k P=P
 fst:∀m,1<=m->m<k->it (nx dst R) m P≠P
 dfa:∀m,∃t,R[it (nx dst R) m a0]?=some (some t)/\t∈ts/\src t=it (nx dst R) m a0
 neg:cs dst cst R k P<0
def Ring.df{R:List (Option α)}{a0 P k:Nat}(h:Ring src dst cst ts n R a0 P k)(m:Nat):∃t,R[it (nx dst R) m P]?=some (some t)/\t∈ts/\src t=it (nx dst R) m P:=by have:=h.dfa (m+(n+1));rwa[vG,h.at0]at this
def cb2(hb:∀t∈ts,src t<=n/\dst t<=n)(h:Iv src dst cst Y0 ts n (n+1) ts.length s){a0:Nat}(hx:s.x=some a0):∃P k,Ring src dst cst ts n s.R a0 P k:=by
 obtain⟨L,Tm,τ,g⟩:=h.gh;obtain⟨l0,a0n⟩:=g.x1 a0 hx;let w:=λm=>it (nx dst s.R) m a0;have df:∀a,1<=L a->∃t,s.R[a]?=some (some t)/\t∈ts/\src t=a/\nx dst s.R a=dst t/\L a<=L (dst t)+1:=λa ha=>by obtain⟨t,et⟩:=g.d a ha;obtain⟨q1,q2,q3,_⟩:=g.r a t et;exact⟨t,et,q1,q2,by simp only[nx,et],q3⟩
 have wl:∀k,k<=n+1->n+1<=L (w k)+k/\w k<=n:=by
  intro k;induction k with
  |zero=>intro _;exact⟨by show n+1<=L a0+0;omega,a0n⟩
  |succ k ih=>
   intro hk;obtain⟨i1,i2⟩:=ih V8;obtain⟨t,et,q1,q2,q3,q4⟩:=df (w k) V8;have e:w (k+1)=dst t:=by show it _ (k+1) a0=_;rw[az0];exact q3
   rw[e];exact⟨V8,(hb t q1).2⟩
 obtain⟨i,j,hij,hj,eij⟩:=ec2 w n (λk hk=>(wl k hk).2);have per:∀m,i<=m->w (m+(j-i))=w m:=λm hm=>by
  show it _ (m+(j-i)) a0=it _ m a0;have e1:m+(j-i)=(m-i)+j:=V8
  have e2:m=(m-i)+i:=V8
  rw[e1,vG]
  conv=>rhs;rw[e2,vG]
  exact M6 _ eij.symm
 have dw:∀m,1<=L (w m)\/∃m',m'<m/\w m=w m':=λm=>by
  by_cases hm:m<=n
  . exact .inl (by have:=(wl m V8).1;omega)
  . refine .inr ⟨m-(j-i),V8,?_⟩;have:=per (m-(j-i)) V8;rwa[show m-(j-i)+(j-i)=m by omega]at this
 have dfa:∀m,∃t,s.R[w m]?=some (some t)/\t∈ts/\src t=w m:=by
  intro m;induction m using Nat.strongRecOn with
  |ind m ih=>
   rcases dw m with q|⟨m',h1,h2⟩
   . obtain⟨t,et,q1,q2,_⟩:=df (w m) q;exact⟨t,et,q1,q2⟩
   . rw[h2];exact ih m' h1
 have ex:∃k,1<=k/\it (nx dst s.R) k (w (n+1))=w (n+1):=⟨j-i,V8,by
  have:=per (n+1) V8;have e:w (n+1+(j-i))=it (nx dst s.R) (j-i) (w (n+1)):=by show it _ (n+1+(j-i)) a0=_;rw[Nat.add_comm,vG]
  rw[<-e];exact this⟩
 obtain⟨k,⟨k1,kb⟩,kf⟩:=ef7 ex;have kn:k<=n+1:=by
  apply L8;intro q;refine kf (j-i) V8 ⟨V8,?_⟩;have:=per (n+1) V8;have e:w (n+1+(j-i))=it (nx dst s.R) (j-i) (w (n+1)):=by show it _ (n+1+(j-i)) a0=_;rw[Nat.add_comm,vG]
  rw[<-e];exact this
 have dP:∀m,m<k->∃t,s.R[it (nx dst s.R) m (w (n+1))]?=some (some t):=λm _=>by obtain⟨t,et,_⟩:=dfa (m+(n+1));have e:w (m+(n+1))=it (nx dst s.R) m (w (n+1)):=vG _ _ _ _;rw[e]at et;exact⟨t,et⟩
 have neg:cs dst cst s.R k (w (n+1))<0:=by obtain⟨_,q⟩:=bt3 g k (w (n+1)) dP;rw[kb]at q;rcases q with q|q<;>omega
 exact⟨w (n+1),k,rfl,k1,kn,kb,λm h1 h2 e=>kf m h2 ⟨h1,e⟩,dfa,neg⟩
theorem db8(hb:∀t∈ts,src t<=n/\dst t<=n)(h:Iv src dst cst Y0 ts n (n+1) ts.length s){D:Nat->Int}(hD:Dt src dst cst ts n D):s.x=none:=by
 cases hx:s.x with
 |none=>rfl
 |some a0=>obtain⟨P,k,r⟩:=cb2 hb h hx;obtain⟨L,Tm,τ,g⟩:=h.gh;have:=cu0 g hD k P (λm _=>by obtain⟨t,et,_⟩:=r.df m;exact⟨t,et⟩);rw[r.back]at this;have:=r.neg;omega
def cz7(h:Iv src dst cst Y0 ts n p ts.length s)(hx:s.x=none):∀t∈ts,Kp src dst cst s.Y t:=λt ht=>by obtain⟨L,Tm,τ,g⟩:=h.gh;obtain⟨j,hj,e⟩:=U1.mp ht;exact g.k1 j t (by rw[A2 hj,e]) hj (g.x0 hx _)
def db6(h:Iv src dst cst Y0 ts n p ts.length s)(hx:s.x=none)(h0:gy Y0 n=0)(hbase:∀D,Dt src dst cst ts n D->∀j,j<=n->gy Y0 j<=D j):gy s.Y n=0:=by have ak:=cz7 h hx;have hD:Dt src dst cst ts n (λj=>gy s.Y j-gy s.Y n):=⟨by show gy s.Y n-gy s.Y n=0;omega,λt ht=>by have:gy s.Y (dst t)<=gy s.Y (src t)+cst t:=ak t ht;show gy s.Y (dst t)-gy s.Y n<=gy s.Y (src t)-gy s.Y n+cst t;omega⟩;have q:gy s.Y n<=gy s.Y n-gy s.Y n:=h.low _ hD (hbase _ hD) n (D6 _);have:=h.up n;omega
def cq7(h:Iv src dst cst Y0 ts n p ts.length s)(hx:s.x=none)(h0:gy Y0 n=0)(hbase:∀D,Dt src dst cst ts n D->∀j,j<=n->gy Y0 j<=D j):Dt src dst cst ts n (gy s.Y):=⟨db6 h hx h0 hbase,λt ht=>cz7 h hx t ht⟩
def fd1(h:Iv src dst cst Y0 ts n p ts.length s)(hx:s.x=none)(h0:gy Y0 n=0)(hbase:∀D,Dt src dst cst ts n D->∀j,j<=n->gy Y0 j<=D j){F:List Nat}(hF:n∈F){a:Nat}(ha:a<=n)(hn:a∉F):
 ∃t∈ts,dst t∈F/\src t∉F/\gy s.Y (src t)=gy s.Y (dst t)-cst t:=by
 apply L8;intro hc;have dt:=cq7 h hx h0 hbase;have hD:Dt src dst cst ts n (λj=>if j∈F then gy s.Y j else gy s.Y j-1):=⟨by show(if n∈F then _ else _)=_;rw[E6 hF];exact dt.1,λt ht=>by
  show(if dst t∈F then gy s.Y (dst t)else gy s.Y (dst t)-1)<=(if src t∈F then gy s.Y (src t)else gy s.Y (src t)-1)+cst t;have q:=dt.2 t ht;by_cases e1:dst t∈F
  . by_cases e2:src t∈F
    . rw[E6 e1,E6 e2];exact q
    . rw[E6 e1,E5 e2];have:gy s.Y (src t)≠gy s.Y (dst t)-cst t:=λz=>hc ⟨t,ht,e1,e2,z⟩;omega
  . rw[E5 e1];split<;>omega⟩
 have q:gy s.Y a<=(if a∈F then gy s.Y a else gy s.Y a-1):=h.low _ hD (hbase _ hD) a ha;rw[E5 hn]at q;omega
end
def pN(n:Nat):T->Nat
 |.int i=>i.toNat
 |_=>n
def dI(n:Nat):T->Nat
 |.tup (a::_)=>pN n a
 |_=>n
def cC(n:Nat):T->Nat
 |.tup (_::b::_)=>pN n b
 |_=>n
def cN:T->Int
 |.tup (_::_::.int c::_)=>c
 |_=>0
def tI{n:Nat}{a:T}(h:Pl n a):pN n a<=n/\fF [a,.int (n:Int)]=.ok (.int ((pN n a:Nat):Int))/\cB a=true/\frz a=a/\cM a=true:=by
 rcases h with rfl|⟨i,hi,rfl⟩
 . exact⟨D6 _,ci6 _,rfl,rfl,rfl⟩
 . exact⟨by simp[pN];omega,by simpa[pN]using cf5 (i:Int) n,rfl,rfl,rfl⟩
def ax7{Y:List Int}{i:Nat}(h:i<Y.length):atI (Y.map T.int) (i:Int)=some (.int (gy Y i)):=uE h
def bl8{n:Nat}{t:T}(h:StepN n t):dI n t<=n/\cC n t<=n:=by obtain⟨a,b,c,d,rfl,ha,hb,hd⟩:=h;exact⟨(tI ha).1,(tI hb).1⟩
def ey0{n:Nat}{Y:List Int}(hy:Y.length=n+1){t:T}(h:StepN n t):yS [t,.lst false (Y.map .int)]=.ok (.bl (decide (Kp (dI n) (cC n) cN Y t))):=by
 obtain⟨a,b,c,d,rfl,ha,hb,hd⟩:=h;obtain⟨la,pa,na,za,ca⟩:=tI ha;obtain⟨lb,pb,nb,zb,cb⟩:=tI hb;have qa:=ax7 (Y:=Y) (i:=pN n a) V8;have qb:=ax7 (Y:=Y) (i:=pN n b) V8;have key:decide (Kp (dI n) (cC n) cN Y (.tup [a,b,.int c,d]))=decide (gy Y (pN n b)<=gy Y (pN n a)+c):=rfl;rw[key];unfold yS yQ;have el:(((Y.map T.int).length:Nat):Int)-1=(n:Int):=by rw[B5,hy];omega
 have b0:=@iW T;have b1:=@iQ T;have b2:=@nW T;clear ha hb hd key hy;generalize gy Y (pN n a)=A at*;generalize gy Y (pN n b)=B at*;generalize Y.map T.int=L at*;walk_at "ev"
def xT:Option Nat->T
 |none=>.non
 |some a=>.int a
def Rt(R:List (Option T)):List T:=R.map λo=>o.getD .non
theorem en3(R:List (Option T))(k:Nat)(t:T):Rt (R.set k (some t))=(Rt R).set k t:=by unfold Rt;rw[List.map_set];rfl
theorem dd5(Y:List Int)(k:Nat)(v:Int):(Y.set k v).map T.int=(Y.map T.int).set k (.int v):=List.map_set
def one_len{n:Nat}{s:Rs T}{t:T}:(one (dI n) (cC n) cN s t).Y.length=s.Y.length/\(one (dI n) (cC n) cN s t).R.length=s.R.length:=by unfold one;split<;>simp
def cy1{l k:Nat}(h:k<l):qG l (k:Int)=some k:=by unfold qG;simp;omega
def dt8{n:Nat}{ts:List T}(h:∀t∈ts,StepN n t){Y:List Int}{R:List (Option T)}(hy:Y.length=n+1)(hr:R.length=n+1):
 kE (.lst false ts) (.lst true (Y.map .int)) (.lst true (Rt R))=.ok (xT (yY (dI n) (cC n) cN ts ⟨Y,R,none⟩).x,.lst true ((yY (dI n) (cC n) cN ts ⟨Y,R,none⟩).Y.map .int),.lst true (Rt (yY (dI n) (cC n) cN ts ⟨Y,R,none⟩).R)):=by
 unfold kE qU;have no:=fO λt ht=>(h t ht).st;have el:(((Y.map T.int).length:Nat):Int)-1=(n:Int):=by rw[B5,hy];omega
 have en:((n+1:Nat):Int)-1=(n:Int):=V8
 walk_at "ev";generalize hL:cR _ _ _ _=o;obtain⟨ρ',rfl,o5,rfl,l1,l2⟩:=gY (λi ρ=>∃(o5:Option T),ρ=[some (.lst false ts),some (.lst true (((ts.take i).foldl (one (dI n) (cC n) cN) ⟨Y,R,none⟩).Y.map .int)),some (.lst true (Rt ((ts.take i).foldl (one (dI n) (cC n) cN) ⟨Y,R,none⟩).R)),some (.int n),some (xT ((ts.take i).foldl (one (dI n) (cC n) cN) ⟨Y,R,none⟩).x),o5]/\((ts.take i).foldl (one (dI n) (cC n) cN) ⟨Y,R,none⟩).Y.length=n+1/\((ts.take i).foldl (one (dI n) (cC n) cN) ⟨Y,R,none⟩).R.length=n+1) hL ⟨_,rfl,hy,hr⟩ (by
  rintro i t ρ et ⟨o5,rfl,l1,l2⟩;have tm:=C6 et;have es:(ts.take (i+1)).foldl (one (dI n) (cC n) cN) ⟨Y,R,none⟩=one (dI n) (cC n) cN ((ts.take i).foldl (one (dI n) (cC n) cN) ⟨Y,R,none⟩) t:=by rw[List.take_add_one,et,List.foldl_append];rfl
  rw[es];clear es;generalize(ts.take i).foldl (one (dI n) (cC n) cN) ⟨Y,R,none⟩=s at*;have hs:=h t tm;have kk:=ey0 l1 hs;obtain⟨n1,c1,z1⟩:=kM (hs.st);have o1:(one (dI n) (cC n) cN s t).Y.length=n+1:=by rw[one_len.1,l1]
  have o2:(one (dI n) (cC n) cN s t).R.length=n+1:=by rw[one_len.2,l2]
  by_cases k:Kp (dI n) (cC n) cN s.Y t
  . have e1:one (dI n) (cC n) cN s t=s:=by unfold one;rw[E6 k]
    rw[F8 k]at kk;rw[e1];clear hL et h no el en k e1 o1 o2 hs tm;walk_at "ev";exact⟨_,rfl⟩
  . obtain⟨a,b,c,d,rfl,ha,hb,hd⟩:=hs;obtain⟨la,pa,na,za,ca⟩:=tI ha;obtain⟨lb,pb,nb,zb,cb⟩:=tI hb;have qb:=ax7 (Y:=s.Y) (i:=pN n b) V8;have e1:one (dI n) (cC n) cN s (.tup [a,b,.int c,d])=⟨s.Y.set (pN n a) (gy s.Y (pN n b)-c),s.R.set (pN n a) (some (.tup [a,b,.int c,d])),some (pN n a)⟩:=by unfold one;rw[E5 k];rfl
    rw[E2 k]at kk;rw[e1]at o1 o2⊢;have x1:qG (n+1) ((pN n a:Nat):Int)=some (pN n a):=cy1 V8;have x2:(Rt s.R).length=n+1:=by unfold Rt;rw[B5];omega
    have nd:cB d=true/\cM d=true/\frz d=d:=by rcases hd with rfl|⟨i,rfl⟩<;>exact⟨rfl,rfl,rfl⟩
    obtain⟨nd,cd,zd⟩:=nd;have b0:=@iW T;have b1:=@iQ T;have b2:=@nW T;simp only[en3,dd5,xT];clear hL et h no el en k e1 tm ha hb hd o1 o2 z1 n1 c1;walk_at "ev";exact⟨_,rfl,by rw[O3];exact l1,by rw[O3];exact l2⟩)
 rw[List.take_length]at*;have ep:ts.foldl (one (dI n) (cC n) cN) ⟨Y,R,none⟩=yY (dI n) (cC n) cN ts ⟨Y,R,none⟩:=rfl;rw[ep];generalize yY (dI n) (cC n) cN ts ⟨Y,R,none⟩=s at*;have nx:cB (xT s.x)=true:=by cases s.x<;>rfl
 clear hL h;walk_at "ev"
def dL(n:Nat)(R:List (Option T))(P:Nat)(m:Nat):T:=(Rt R).getD (it (nx (cC n) R) m P) .non
def ep0{R:List (Option T)}{a:Nat}{t:T}(e:R[a]?=some (some t)):atI (Rt R) (a:Int)=some t:=gR (by unfold Rt;rw[F7,e];rfl)
def ad3{R:List (Option T)}{a:Nat}{t:T}(e:R[a]?=some (some t)):(Rt R).getD a .non=t:=by unfold Rt;rw[A6,F7,e];rfl
theorem bt0{n:Nat}{R:List (Option T)}(h:∀t,some t∈R->StepN n t):aW (Rt R)=true/\bZ (Rt R)=true/\frzs (Rt R)=Rt R:=by
 unfold Rt;induction R with
 |nil=>exact⟨rfl,rfl,rfl⟩
 |cons o R ih=>
  obtain⟨i1,i2,i3⟩:=ih λt ht=>h t (A5 _ ht);cases o with
  |none=>simp only[List.map_cons,aW,bZ,frzs,i1,i2,i3];exact⟨rfl,rfl,rfl⟩
  |some t=>obtain⟨n1,c1,z1⟩:=kM (h t A7).st;simp only[List.map_cons,aW,bZ,frzs,i1,i2,i3,Option.getD_some,n1,c1,z1];exact⟨rfl,rfl,trivial⟩
def ch1{n:Nat}{R:List (Option T)}{a:Nat}{t:T}(h:StepN n t)(e:R[a]?=some (some t)):∃x b c d,t=.tup [x,b,.int c,d]/\fF [b,.int (n:Int)]=.ok (.int ((nx (cC n) R a:Nat):Int))/\cB b=true/\cM b=true/\frz b=b/\cB x=true/\cB d=true/\cM x=true/\cM d=true:=by
 obtain⟨x,b,c,d,rfl,ha,hb,hd⟩:=h;obtain⟨lb,pb,nb,zb,cb⟩:=tI hb;obtain⟨la,pa,na,za,ca⟩:=tI ha;have nd:cB d=true/\cM d=true:=by rcases hd with rfl|⟨i,rfl⟩<;>exact⟨rfl,rfl⟩
 refine⟨x,b,c,d,rfl,?_,nb,cb,zb,na,nd.1,ca,nd.2⟩;have:nx (cC n) R a=pN n b:=by simp only[nx,e];rfl
 rw[this];exact pb
def em1{n:Nat}{ts:List T}(h:∀t∈ts,StepN n t){R:List (Option T)}(hr:R.length=n+1)(hR:∀t,some t∈R->StepN n t)(n8:n<=8){a0 P k:Nat}(r:Ring (dI n) (cC n) cN ts n R a0 P k):
 qK [.lst false (Rt R),.int (a0:Int)]=.ok (.lst true ((List.range k).map (dL n R P))):=by
 unfold qK qZ;obtain⟨f1,f2,f3⟩:=bt0 hR;have lR:(Rt R).length=n+1:=by unfold Rt;rw[B5,hr]
 have en:((n+1:Nat):Int)-1=(n:Int):=V8
 have rg:-(2^62)<=((n+1:Nat):Int)/\((n+1:Nat):Int)<2^62:=V8
 have b1:=@iQ T;walk_at "ev";generalize hL:cR _ _ _ _=o;obtain⟨ρ',rfl,o3,rfl⟩:=gY (λi ρ=>∃(o3:Option T),ρ=[some (.lst false (Rt R)),some (.int ((it (nx (cC n) R) i a0:Nat):Int)),some (.int n),o3,none,none]) hL ⟨_,rfl⟩ (by rintro i t ρ et ⟨o3,rfl⟩;clear hL et;obtain⟨u,eu,ut,us⟩:=r.dfa i;obtain⟨x,b,c,d,rfl,pb,nb,cb,zb,na,nd,ca,cd⟩:=ch1 (h u ut) eu;have au:=ep0 eu;rw[az0];generalize nx (cC n) R (it (nx (cC n) R) i a0)=N at*;generalize it (nx (cC n) R) i a0=A at*;clear r h hR eu ut us;walk_at "ev";exact⟨_,rfl⟩);clear hL;have eP:it (nx (cC n) R) (gM 0 (((n+1:Nat):Int)).toNat).length a0=P:=by rw[gT,K0];exact r.at0
 rw[eP];clear eP;have df:∀m,∃x b c d,atI (Rt R) ((it (nx (cC n) R) m P:Nat):Int)=some (.tup [x,b,.int c,d])/\dL n R P m=.tup [x,b,.int c,d]/\fF [b,.int (n:Int)]=.ok (.int ((it (nx (cC n) R) (m+1) P:Nat):Int))/\cB b=true/\cM b=true/\frz b=b/\cB x=true/\cB d=true/\cM x=true/\cM d=true:=λm=>by obtain⟨u,eu,ut,us⟩:=r.df m;obtain⟨x,b,c,d,rfl,pb,rest⟩:=ch1 (h u ut) eu;exact⟨x,b,c,d,ep0 eu,ad3 eu,by rw[az0];exact pb,rest⟩
 obtain⟨x,b,c,d,q1,q2,q3,q4,q5,q6,q7,q8,q9,q10⟩:=df 0;have q1:atI (Rt R) ((P:Nat):Int)=some (.tup [x,b,.int c,d]):=q1;have e0:dL n R P 0=.tup [x,b,.int c,d]:=q2;have q3:fF [b,.int (n:Int)]=.ok (.int ((it (nx (cC n) R) 1 P:Nat):Int)):=q3;clear q2;have er1:(List.range 1).map (dL n R P)=[.tup [x,b,.int c,d]]:=by rw[<-e0];rfl
 clear e0;have sz:1<=sizeLine:=by have:=D9;omega
 walk_at "ev";generalize hW:ac4 _ _ _=o;obtain⟨ρ',m',rfl,⟨j,j1,jk,em,o3',rfl⟩,hc⟩:=ct7 (m:=k-1) (λm ρ=>∃j,1<=j/\j<=k/\m=k-j/\∃(o3:Option T),ρ=[some (.lst false (Rt R)),some (.int ((P:Nat):Int)),some (.int n),o3,some (.lst true ((List.range j).map (dL n R P))),some (.int ((it (nx (cC n) R) j P:Nat):Int))]) hW ⟨1,V8,r.k1,rfl,o3,by rw[er1]⟩ (by have:=r.kn;omega) (by
  rintro m ρ ⟨j,j1,jk,em,o3,rfl⟩;obtain⟨x,b,c,d,q1,q2,q3,q4,q5,q6,q7,q8,q9,q10⟩:=df j;clear hW;by_cases e:it (nx (cC n) R) j P=P
  . have t1:(((it (nx (cC n) R) j P:Nat):Int)==((P:Nat):Int))=true:=by rw[e];simp
    clear e;walk_at "ev"
  . have t1:(((it (nx (cC n) R) j P:Nat):Int)==((P:Nat):Int))=false:=by rw[G9];omega
    have hj:j<k:=by
     apply L8;intro q;have:j=k:=V8
     rw[this]at e;exact e r.back
    have ll:((List.range j).map (dL n R P)).length<=100000:=by have:=r.kn;rw[B5,L5];omega
    have lz:j<sizeLine:=by have:=D9;have:=r.kn;omega
    have er:(List.range (j+1)).map (dL n R P)=(List.range j).map (dL n R P)++[.tup [x,b,.int c,d]]:=by rw[P7,G0,<-q2];rfl
    have hlr:(List.range j).length=j:=L5;clear e q2;walk_at "ev";exact⟨k-(j+1),V8,j+1,V8,hj,rfl,o3,by rw[er]⟩)
 have ek:j=k:=by
  apply L8;intro q;have ne:=r.fst j j1 V8;have t1:(((it (nx (cC n) R) j P:Nat):Int)==((P:Nat):Int))=false:=by rw[G9];omega
  have:(Res.ok true:Res Bool)=.ok false:=by rw[<-hc];clear hc hW;walk_at "ev"
  cases this
 subst ek;clear hc hW;walk_at "ev"
theorem au1{α:Type}(x:α):∀n:Nat,(List.replicate n [x]).flatten=List.replicate n x
 |0=>rfl
 |n+1=>by rw[H0,C4,au1 x n];rfl
def ee7{α:Type}(xs:List α)(k:Nat):iI xs (some 0) (some (k:Int))=xs.take k:=by
 have:=ay0 xs k;unfold iI at this⊢;have e:HT.sIx xs.length 0 (some 0)=HT.sIx xs.length 0 none:=by simp[HT.sIx]
 rw[e];exact this
def Y0(f:Fm):List Int:=List.replicate f.n.length (f.a-1)++[0]
def S0(f:Fm):Rs T:=⟨Y0 f,List.replicate (f.n.length+1) none,none⟩
def dW(f:Fm)(ts:List T)(i:Nat):Rs T:=az4 (dI f.n.length) (cC f.n.length) cN ts (S0 f) i
theorem dx3{n:Nat}{ts:List T}:∀{s:Rs T},(ts.foldl (one (dI n) (cC n) cN) s).Y.length=s.Y.length/\(ts.foldl (one (dI n) (cC n) cN) s).R.length=s.R.length:=by
 induction ts with
 |nil=>intro s;exact⟨rfl,rfl⟩
 |cons t ts ih=>intro s;rw[P8,ih.1,ih.2];exact one_len
theorem bq1(f:Fm)(ts:List T):∀i,(dW f ts i).Y.length=f.n.length+1/\(dW f ts i).R.length=f.n.length+1
 |0=>by unfold dW az4 S0 Y0;simp
 |i+1=>by have ih:=bq1 f ts i;have:=dx3 (n:=f.n.length) (ts:=ts) (s:=⟨(dW f ts i).Y,(dW f ts i).R,none⟩);exact⟨this.1.trans ih.1,this.2.trans ih.2⟩
def cp7{f:Fm}{ts:List T}(h:∀t∈ts,StepN f.n.length t):Iv (dI f.n.length) (cC f.n.length) cN (Y0 f) ts f.n.length (f.n.length+1) ts.length (dW f ts (f.n.length+1)):=
 Iv.runs (λt ht=>bl8 (h t ht)) (by unfold Y0;simp) f.n.length
theorem dr4{f:Fm}{ts:List T}(h:∀t∈ts,StepN f.n.length t):∀i,∀t,some t∈(dW f ts i).R->t∈ts
 |0,t,ht=>by unfold dW az4 S0 at ht;have:=List.eq_of_mem_replicate ht;cases this
 |i+1,t,ht=>by
  have key:∀(us:List T)(s:Rs T),(∀u∈us,u∈ts)->(∀t,some t∈s.R->t∈ts)->∀t,some t∈(us.foldl (one (dI f.n.length) (cC f.n.length) cN) s).R->t∈ts:=by
   intro us;induction us with
   |nil=>exact λs _ hs=>hs
   |cons u us ih=>
    intro s hu hs;refine ih _ (λv hv=>hu v (A5 _ hv)) λt ht=>?_;unfold one at ht;split at ht
    . exact hs t ht
    . rcases List.mem_or_eq_of_mem_set ht with q|q
      . exact hs t q
      . cases q;exact hu u A7
  exact key ts ⟨(dW f ts i).Y,(dW f ts i).R,none⟩ (λ_ hu=>hu) (λt ht=>dr4 h i t ht) t ht
def dp8(n:Nat):Rt (List.replicate n none)=List.replicate n .non:=by unfold Rt;rw[U6];rfl
theorem bn7{f:Fm}(g:Gd f){ts:List T}(h:∀t∈ts,StepN f.n.length t):
 ((dW f ts (f.n.length+1)).x=none/\gE [bQ false f,.lst false ts]=.ok (.tup [.str "dating",.lst true (((dW f ts (f.n.length+1)).Y.take f.n.length).map .int)]))\/
 ∃a0 P k,(dW f ts (f.n.length+1)).x=some a0/\Ring (dI f.n.length) (cC f.n.length) cN ts f.n.length (dW f ts (f.n.length+1)).R a0 P k/\gE [bQ false f,.lst false ts]=.ok (.tup [.str "ring",.lst true ((List.range k).map (dL f.n.length (dW f ts (f.n.length+1)).R P))]):=by
 have iv:=cp7 h;have rl:=bq1 f ts;have rR:=dr4 h;have n8:=g.n8;have fl:=wM false f;have ff:=aj6 false f;have no:=fO λt ht=>(h t ht).st;have zs:frzs ts=ts:=gL λt ht=>(h t ht).st;have hY0:(dW f ts 0).Y.map T.int=List.replicate f.n.length (T.int (f.a-1))++[T.int 0]:=by unfold dW az4 S0 Y0;rw[G0,U6];rfl
 have hR0:Rt (dW f ts 0).R=List.replicate (f.n.length+1) T.non:=dp8 _;have hx0:(dW f ts 0).x=none:=rfl;obtain⟨o6,loop⟩:∃o6:Option T,cR (aH 6) (ae0 5 1 3 4 kE) (gM 0 (f.n.length+1)) [some (bQ false f),some (.lst false ts),some (.int f.n.length),some (.lst true (List.replicate f.n.length (T.int (f.a-1))++[T.int 0])),some (.lst true (List.replicate (f.n.length+1) T.non)),some .non,none]=.nx [some (bQ false f),some (.lst false ts),some (.int f.n.length),some (.lst true ((dW f ts (f.n.length+1)).Y.map .int)),some (.lst true (Rt (dW f ts (f.n.length+1)).R)),some (xT (dW f ts (f.n.length+1)).x),o6]:=by
  generalize hL:cR _ _ _ _=o;obtain⟨ρ',rfl,o6,rfl⟩:=gY (λi ρ=>∃(o6:Option T),ρ=[some (bQ false f),some (.lst false ts),some (.int f.n.length),some (.lst true ((dW f ts i).Y.map .int)),some (.lst true (Rt (dW f ts i).R)),some (xT (dW f ts i).x),o6]) hL ⟨none,by rw[hY0,hR0,hx0];rfl⟩ (by
   rintro i t ρ et ⟨o6,rfl⟩;have er:=dt8 h (rl i).1 (rl i).2;have es:yY (dI f.n.length) (cC f.n.length) cN ts ⟨(dW f ts i).Y,(dW f ts i).R,none⟩=dW f ts (i+1):=rfl;rw[es]at er;obtain⟨f1,f2,f3⟩:=bt0 (n:=f.n.length) (R:=(dW f ts (i+1)).R) λt ht=>h t (rR (i+1) t ht);have c1:bZ ((dW f ts (i+1)).Y.map T.int)=true:=qC _;have cx:cM (xT (dW f ts (i+1)).x)=true/\cB (xT (dW f ts (i+1)).x)=true:=by cases(dW f ts (i+1)).x<;>exact⟨rfl,rfl⟩
   have cc:al7 kE 1 3 4 [some (bQ false f),some (.lst false ts),some (.int f.n.length),some (.lst true ((dW f ts i).Y.map .int)),some (.lst true (Rt (dW f ts i).R)),some (xT (dW f ts i).x),some t]=some (xT (dW f ts (i+1)).x,.lst true ((dW f ts (i+1)).Y.map .int),.lst true (Rt (dW f ts (i+1)).R)):=by
    have z:frz (.lst false ts)=.lst false ts:=by simp only[frz,zs]
    simp only[al7,List.getElem?_cons_zero,List.getElem?_cons_succ,z,er,cM,c1,f2,cx.1,cx.2,Bool.and_self,if_true]
   show GoB _ (ae0 5 1 3 4 kE) (some _);simp only[GoB,aH,List.set_cons_succ,List.set_cons_zero,ae0,cc,Go];exact⟨_,rfl⟩)
  rw[gT];exact⟨o6,rfl⟩
 have g1:aW [T.int (f.a-1)]=true/\-(2^63)<=(f.n.length:Int)/\(f.n.length:Int)<2^63/\[T.int (f.a-1)].length*((f.n.length:Int)).toNat<=2^24:=⟨rfl,V8,V8,by simp;omega⟩;have g2:aW [T.non]=true/\-(2^63)<=(f.n.length:Int)+1/\(f.n.length:Int)+1<2^63/\[T.non].length*((f.n.length:Int)+1).toNat<=2^24:=⟨rfl,V8,V8,by simp;omega⟩;have m1:sL (.lst true [T.int (f.a-1)]) (.int f.n.length)=.ok (.lst true (List.replicate f.n.length (T.int (f.a-1)))):=by simp only[sL];rw[gH g1,au1,K0]
 have m2:sL (.lst true [T.non]) (.int ((f.n.length:Int)+1))=.ok (.lst true (List.replicate (f.n.length+1) T.non)):=by simp only[sL];rw[gH g2,au1];congr
 have nr:aW (List.replicate f.n.length (T.int (f.a-1)))=true:=by rw[vS];simp[cB]
 have a1:bS (.lst true (List.replicate f.n.length (T.int (f.a-1)))) (.lst true [.int 0])=.ok (.lst true (List.replicate f.n.length (T.int (f.a-1))++[T.int 0])):=by rw[ai8,gH ⟨by rw[nr];rfl,by have:=D9;simp;omega⟩]
 have sz1:1<=sizeLine:=by have:=D9;omega
 have rg1:kG [.int ((f.n.length:Int)+1)]=.ok (gM 0 (f.n.length+1)):=by rw[ab9,gH ⟨V8,V8⟩];congr
 have lnames:cI [.lst false (f.n.map T.str)]=.ok (.int f.n.length):=by rw[cl2];simp only[List.length_map]
 clear g1 g2 hY0 hR0 hx0 rl no;unfold gE tW;cases hx:(dW f ts (f.n.length+1)).x with
 |none=>
  rw[hx]at loop;refine .inl ⟨rfl,?_⟩;have lt:xT none=T.non:=rfl;rw[lt]at loop;have cu:iI ((dW f ts (f.n.length+1)).Y.map T.int) (some 0) (some (f.n.length:Int))=((dW f ts (f.n.length+1)).Y.take f.n.length).map T.int:=by rw[ee7,R9]
  clear hx iv rR h zs nr lt n8 g;generalize dW f ts (f.n.length+1)=s at*;generalize List.replicate (f.n.length+1) T.non=L2 at*;walk_at "ev"
 |some a0=>
  obtain⟨P,k,r⟩:=cb2 (λt ht=>bl8 (h t ht)) iv hx;rw[hx]at loop;refine .inr ⟨a0,P,k,rfl,r,?_⟩;have lt:xT (some a0)=T.int a0:=rfl;rw[lt]at loop;have er:=em1 h iv.lr (λt ht=>h t (rR _ t ht)) n8 r;obtain⟨f1,f2,f3⟩:=bt0 (n:=f.n.length) (R:=(dW f ts (f.n.length+1)).R) λt ht=>h t (rR _ t ht);have cr:bZ ((List.range k).map (dL f.n.length (dW f ts (f.n.length+1)).R P))=true:=by rw[an4,J3];intro t ht;obtain⟨m,_,rfl⟩:=K1.mp ht;obtain⟨u,eu,ut,_⟩:=r.df m;unfold dL;rw[ad3 eu];exact(kM (h u ut).st).2.1
  clear hx iv rR h zs nr lt n8 g r;generalize dW f ts (f.n.length+1)=s at*;generalize List.replicate (f.n.length+1) T.non=L2 at*;walk_at "ev"
def sc(t:T):Prop:=t=.non\/∃i:Int,t=.int i
def tK:T->T->Bool
 |.non,.non=>true
 |.int i,.int j=>i==j
 |_,_=>false
def ck1{x y:T}(hx:sc x)(hy:sc y):tK x y=true↔x=y:=by rcases hx with rfl|⟨i,rfl⟩<;>rcases hy with rfl|⟨j,rfl⟩<;>simp[tK]
def oG{x:T}(hx:sc x):tK x x=true:=(ck1 hx hx).mpr rfl
theorem xY{x y:T}(hx:sc x)(hy:sc y):∀m,pX m x y=some (tK x y)
 |0=>by rcases hx with rfl|⟨i,rfl⟩<;>rcases hy with rfl|⟨j,rfl⟩<;>rfl
 |m+1=>by rcases hx with rfl|⟨i,rfl⟩<;>rcases hy with rfl|⟨j,rfl⟩<;>rfl
def ez8{x y:T}(hx:sc x)(hy:sc y):mM x y=.ok (.bl (!tK x y)):=by rcases hx with rfl|⟨i,rfl⟩<;>rcases hy with rfl|⟨j,rfl⟩<;>rfl
def ej9{x y:T}(hx:sc x)(hy:sc y):eV x y=.ok (.bl (tK x y)):=by rcases hx with rfl|⟨i,rfl⟩<;>rcases hy with rfl|⟨j,rfl⟩<;>rfl
theorem bs1{t:T}(ht:sc t):∀us:List T,(∀u∈us,sc u)->rJ t us=some (us.map λu=>tK u t)
 |[],_=>rfl
 |u::us,h=>by rw[rJ,xY (h u A7) ht,bs1 ht us λv hv=>h v (A5 _ hv)];rfl
def ea5{t:T}(ht:sc t){us:List T}(h:∀u∈us,sc u):((us.map λu=>tK u t).any id=true)↔t∈us:=by
 rw[List.any_map,N6];constructor
 . rintro⟨u,hu,e⟩;rw[<-(ck1 (h u hu) ht).mp e];exact hu
 . exact λhu=>⟨t,hu,oG ht⟩
def qO{n:Nat}{a:T}(h:Pl n a):sc a:=h.imp_right λ⟨i,_,e⟩=>⟨_,e⟩
def sE(m:Nat)(x y:T)(xs ys:List T):oO m (x::xs) (y::ys)=(pX m x y).bind λb=>(oO m xs ys).map λes=>b::es:=by rw[oO]
def ak6(m:Nat):oO m [] []=some []:=by rw[oO];intros;simp_all
def bk1(m:Nat)(xs ys:List T):pX (m+1) (.tup xs) (.tup ys)=(oO m xs ys).map λes=>es.all id&&xs.length==ys.length:=by rw[pX]
def dw3{n m:Nat}{t u:T}(ht:StepN n t)(hu:StepN n u):∃b,pX (m+1) u t=some b/\(u=t->b=true):=by
 obtain⟨a,b,c,d,rfl,ha,hb,hd⟩:=ht;obtain⟨a',b',c',d',rfl,ha',hb',hd'⟩:=hu;refine⟨[tK a' a,tK b' b,tK (.int c') (.int c),tK d' d].all id&&[a',b',T.int c',d'].length==[a,b,T.int c,d].length,?_,λe=>?_⟩
 . rw[bk1,sE,sE,sE,sE,ak6,xY (qO ha') (qO ha),xY (qO hb') (qO hb),xY (.inr ⟨c',rfl⟩) (.inr ⟨c,rfl⟩),xY hd' hd];rfl
 . cases e;have e1:=oG (qO ha);have e2:=oG (qO hb);have e3:=oG (x:=.int c) (.inr ⟨c,rfl⟩);have e4:=oG hd;simp only[List.all_cons,List.all_nil,id,e1,e2,e3,e4,Bool.and_self,List.length_cons,List.length_nil];rfl
theorem bp3{n:Nat}{t:T}(ht:StepN n t):∀us:List T,(∀u∈us,StepN n u)->∃es,rJ t us=some es/\(t∈us->es.any id=true)
 |[],_=>⟨[],rfl,λh=>by cases h⟩
 |u::us,h=>by
  obtain⟨es,e1,e2⟩:=bp3 ht us λv hv=>h v (A5 _ hv);obtain⟨b,b1,b2⟩:=dw3 (m:=cU-1) ht (h u A7);have b1:pX cU u t=some b:=b1;refine⟨b::es,by rw[rJ,b1,e1];rfl,λhm=>?_⟩;rw[List.any_cons];rcases B9.mp hm with q|q
  . rw[b2 q.symm];rfl
  . rw[e2 q,Bool.or_true]
def uT(x:Int):iB [.int x]=.ok (.bl true):=by unfold iB uW;walk_at "ev"
def aw7{n:Nat}{t:T}{ts:List T}(h:∀u∈ts,StepN n u)(ht:t∈ts):kF [t,.lst false ts]=.ok (.bl true):=by
 have st:=h t ht;obtain⟨es,e1,e2⟩:=bp3 st ts h;have e2:=e2 ht;have ei:inT false t (.lst false ts)=.ok (.bl true):=by
  rw[inT.eq_1,e1]
  . simp[e2]
 obtain⟨n1,c1,z1⟩:=kM st.st;have no:=fO λt ht=>(h t ht).st;obtain⟨a,b,c,d,rfl,ha,hb,hd⟩:=st;unfold kF rC;have b0:=@iW T;have b1:=@iQ T;have b2:=@nW T;have b3:=@tF T;have kw:=uT c;have sz3:3<=sizeLine:=by have:=D9;omega
 have t4:(((4:Nat):Int)==4)=true:=rfl;have body:∀(x:T),sc x->∀o2:Option T,(cF (jT (aU (aE jC (aB 2) (dC .non))) (eO (dS (aX 1 iB (aD (aB 2) aI))))) (bE [] (dC (.bl false))) bJ) [some (.tup [a,b,.int c,d]),some (.lst false ts),some x]=.nx [some (.tup [a,b,.int c,d]),some (.lst false ts),some x]:=by
  intro x hx o2;rcases hx with rfl|⟨i,rfl⟩
  . clear ei e1 e2 h ht z1 n1 c1 no kw ha hb hd;walk_at "ev"
  . have kw2:=uT i;clear ei e1 e2 h ht z1 n1 c1 no kw ha hb hd;walk_at "ev"
 have na:cB a=true/\cM a=true/\frz a=a:=by rcases ha with rfl|⟨i,_,rfl⟩<;>exact⟨rfl,rfl,rfl⟩
 have nb:cB b=true/\cM b=true/\frz b=b:=by rcases hb with rfl|⟨i,_,rfl⟩<;>exact⟨rfl,rfl,rfl⟩
 have nd:cB d=true/\cM d=true/\frz d=d:=by rcases hd with rfl|⟨i,rfl⟩<;>exact⟨rfl,rfl,rfl⟩
 obtain⟨na,ca,za⟩:=na;obtain⟨nb,cb,zb⟩:=nb;obtain⟨nd,cd,zd⟩:=nd;have loop:cR (aH 2) (cF (jT (aU (aE jC (aB 2) (dC .non))) (eO (dS (aX 1 iB (aD (aB 2) aI))))) (bE [] (dC (.bl false))) bJ) [a,b,d] [some (.tup [a,b,.int c,d]),some (.lst false ts),none]=.nx [some (.tup [a,b,.int c,d]),some (.lst false ts),some d]:=by have q1:=body a (qO ha) none;have q2:=body b (qO hb) none;have q3:=body d hd none;simp only[cR,aH,List.set_cons_succ,List.set_cons_zero,q1,q2,q3]
 clear body e1 e2 h ht z1 n1 c1 ha hb hd;walk_at "ev"
def sA:T->T
 |.tup (a::_)=>a
 |_=>.non
def sB:T->T
 |.tup (_::b::_)=>b
 |_=>.non
def Ch:T->List T->T->Prop
 |x,[],y=>x=y
 |x,t::r,y=>sA t=x/\Ch (sB t) r y
def eo4{n:Nat}{a b:T}(ha:Pl n a)(hb:Pl n b)(e:pN n a=pN n b):a=b:=by
 rcases ha with rfl|⟨i,hi,rfl⟩<;>rcases hb with rfl|⟨j,hj,rfl⟩
 . rfl
 . simp[pN]at e;omega
 . simp[pN]at e;omega
 . simp[pN]at e;rw[e]
def qY{n:Nat}{t:T}(h:StepN n t):Pl n (sA t)/\Pl n (sB t)/\dI n t=pN n (sA t)/\cC n t=pN n (sB t)/\∃d,t=.tup [sA t,sB t,.int (cN t),d]/\sc d:=by obtain⟨a,b,c,d,rfl,ha,hb,hd⟩:=h;exact⟨ha,hb,rfl,rfl,d,rfl,hd⟩
theorem ce2{r:Nat->T}(h:∀m,sB (r m)=sA (r (m+1))):∀(j m:Nat),Ch (sA (r m)) ((List.range j).map λi=>r (m+i)) (sA (r (m+j)))
 |0,m=>rfl
 |j+1,m=>by
  rw[S7,B8,G5];refine⟨rfl,?_⟩;have:=ce2 h j (m+1);rw[show m+1+j=m+(j+1) by omega]at this;rw[show sB (r (m+0))=sA (r (m+1)) from h m];have e:((List.range j).map λi=>r (m+1+i))=(List.range j).map ((λi=>r (m+i))∘Nat.succ):=List.map_congr_left λi _=>by show r _=r _;congr 1;omega
  rw[<-e];exact this
theorem ah9{n:Nat}{y:T}{a0 a1 a2 a3:Option T}:∀(rs:List T)(x:T)(o5:Option T),(∀t∈rs,StepN n t)->sc x->Ch x rs y->∃o5',cR (aH 5) (aM (cF (aU (aE mM (aE aQ (aB 5) (dC (.int 0))) (aB 4))) (bE [] (dC (.bl false))) bJ) (aY [] (aP (aE aQ (aB 5) (dC (.int 1)))) (aH 4))) rs [a0,a1,a2,a3,some x,o5]=.nx [a0,a1,a2,a3,some y,o5']
 |[],x,o5,_,_,e=>⟨o5,by rw[<-show x=y from e];rfl⟩
 |t::rs,x,o5,h,hx,c=>by
  obtain⟨h1,h2,_,_,d,et,hd⟩:=qY (h t A7);obtain⟨c1,c2⟩:=c;obtain⟨o5',ih⟩:=ah9 (a0:=a0) (a1:=a1) (a2:=a2) (a3:=a3) rs (sB t) (some t) (λu hu=>h u (A5 _ hu)) (qO h2) c2;refine⟨o5',?_⟩;have one:(aM (cF (aU (aE mM (aE aQ (aB 5) (dC (.int 0))) (aB 4))) (bE [] (dC (.bl false))) bJ) (aY [] (aP (aE aQ (aB 5) (dC (.int 1)))) (aH 4))) [a0,a1,a2,a3,some x,some t]=.nx [a0,a1,a2,a3,some (sB t),some t]:=by
   have q1:atI [sA t,sB t,.int (cN t),d] 0=some (sA t):=iW _ _;have q2:atI [sA t,sB t,.int (cN t),d] 1=some (sB t):=iQ _ _ _;have q3:mM x x=.ok (.bl false):=by rw[ez8 hx hx,oG hx];rfl
   have q4:cB (sB t)=true:=by rcases h2 with e|⟨i,_,e⟩<;>rw[e]<;>rfl
   rw[c1]at q1 q2 et;generalize sB t=B at*;generalize cN t=C at*;subst et;clear ih h h1 h2 c1 c2 hd hx;walk_at "ev"
  simp only[cR,aH,List.set_cons_succ,List.set_cons_zero,one];exact ih
def bs9{n:Nat}{ts rs:List T}(h:∀u∈ts,StepN n u)(hr:∀t∈rs,t∈ts)(hl:rs.length<=100){x:T}(hx:sc x)(c:Ch x rs x):pQ [.lst false rs,.lst false ts,x,x]=.ok (.bl true):=by
 unfold pQ pP;have hR:∀t∈rs,StepN n t:=λt ht=>h t (hr t ht);have no:=fO λt ht=>(h t ht).st;have nr:=fO λt ht=>(hR t ht).st;have zs:frzs ts=ts:=gL λt ht=>(h t ht).st;have zr:frzs rs=rs:=gL λt ht=>(hR t ht).st;have nx:cB x=true/\frz x=x:=by rcases hx with e|⟨i,e⟩<;>rw[e]<;>exact⟨rfl,rfl⟩
 obtain⟨nx,zx⟩:=nx;have hc:bY (aH 5) cG (aX 2 kF (aD (aB 5) (aD (aB 1) aI))) [some (.lst false rs),some (.lst false ts),some x,some x,none,none] rs=.ok (rs.map λ_=>T.bl true):=by have q:=cW (k:=5) (d:=(aX 2 kF (aD (aB 5) (aD (aB 1) aI)))) (ρ:=[some (.lst false rs),some (.lst false ts),some x,some x,none,none]) (g:=id) (f:=λ_=>T.bl true) (l:=rs) (λt ht=>by have kk:=aw7 h (hr t ht);obtain⟨n1,c1,z1⟩:=kM (hR t ht).st;simp only[id];clear h hr hR c hx;walk_at "ev");rwa[List.map_id]at q
 have al:jU false [.lst true (rs.map λ_=>T.bl true)]=.ok (.bl true):=by
  have e:(rs.map λ_=>T.bl true)=(rs.map λ_=>true).map T.bl:=W0
  rw[e,cq2];simp
 obtain⟨o5,lp⟩:=ah9 (a0:=some (.lst false rs)) (a1:=some (.lst false ts)) (a2:=some x) (a3:=some x) rs x none hR hx c;have ee:eV x x=.ok (.bl true):=by rw[ej9 hx hx,oG hx]
 have l1:rs.length<=100000:=V8
 have l2:rs.length<=sizeLine:=by have:=D9;omega
 clear h hr hR c hx hl;walk_at "ev"
theorem cl6{n:Nat}{R:List (Option T)}:∀(k a:Nat),(∀m,m<k->∃t,R[it (nx (cC n) R) m a]?=some (some t))->((List.range k).map λm=>cN (dL n R a m)).sum=cs (cC n) cN R k a
 |0,a,_=>rfl
 |k+1,a,h=>by obtain⟨t,et⟩:=h 0 V8;have et:R[a]?=some (some t):=et;have ih:=cl6 k (nx (cC n) R a) (λm hm=>h (m+1) V8);rw[S7,B8,G5,List.sum_cons];have e0:dL n R a 0=t:=ad3 et;have e1:((List.range k).map ((λm=>cN (dL n R a m))∘Nat.succ))=(List.range k).map λm=>cN (dL n R (nx (cC n) R a) m):=rfl;rw[e0,e1,ih];simp only[cs,et]
def da7{n:Nat}{ts:List T}{R:List (Option T)}{a0 P k:Nat}(r:Ring (dI n) (cC n) cN ts n R a0 P k){i j:Nat}(hij:i<j)(hj:j<k):it (nx (cC n) R) i P≠it (nx (cC n) R) j P:=λe=>by
 have e1:it (nx (cC n) R) (k-j+j) P=P:=by rw[show k-j+j=k by omega];exact r.back
 rw[vG,<-e,<-vG]at e1;exact r.fst (k-j+i) V8 V8 e1
def co3{n:Nat}{ts:List T}(h:∀u∈ts,StepN n u){R:List (Option T)}{a0 P k:Nat}(n8:n<=8)(r:Ring (dI n) (cC n) cN ts n R a0 P k):cY [.lst false ((List.range k).map (dL n R P)),.lst false ts]=.ok (.bl true):=by
 have kn:=r.kn;have k1:=r.k1;have fact:∀m,dL n R P m∈ts/\dI n (dL n R P m)=it (nx (cC n) R) m P/\cC n (dL n R P m)=it (nx (cC n) R) (m+1) P:=λm=>by obtain⟨u,eu,ut,us⟩:=r.df m;have e:dL n R P m=u:=ad3 eu;rw[e,az0];exact⟨ut,us,by simp only[nx,eu]⟩
 have hq:∀m,StepN n (dL n R P m):=λm=>h _ (fact m).1;have link:∀m,sB (dL n R P m)=sA (dL n R P (m+1)):=λm=>by obtain⟨p1,p2,p3,p4,_⟩:=qY (hq m);obtain⟨q1,q2,q3,q4,_⟩:=qY (hq (m+1));refine eo4 p2 q1 ?_;rw[<-p4,<-q3,(fact m).2.2,(fact (m+1)).2.1]
 have e0k:dL n R P k=dL n R P 0:=by unfold dL;rw[r.back];rfl
 have ch:Ch (sA (dL n R P 0)) ((List.range k).map (dL n R P)) (sA (dL n R P 0)):=by have:=ce2 (r:=dL n R P) link k 0;simp only[Nat.zero_add,e0k]at this;exact this
 obtain⟨rs,hrs⟩:∃rs,(List.range k).map (dL n R P)=rs:=⟨_,rfl⟩;have lrs:rs.length=k:=by rw[<-hrs];simp
 have mem:∀t∈rs,t∈ts:=λt ht=>by rw[<-hrs]at ht;obtain⟨m,_,rfl⟩:=K1.mp ht;exact(fact m).1
 have s0:=(qY (hq 0)).1;have kc:=bs9 h mem V8 (qO s0) (by rw[<-hrs];exact ch);have ks:=aw7 h (fact 0).1;have a0':atI rs 0=some (dL n R P 0):=by
  have:rs[0]?=some (dL n R P 0):=by rw[<-hrs,F7,R0 V8];rfl
  exact gR (j:=0) this
 have mS:∀t∈rs,StepN n t:=λt ht=>h t (mem t ht);have nr:=fO λt ht=>(mS t ht).st;have no:=fO λt ht=>(h t ht).st;have zs:frzs ts=ts:=gL λt ht=>(h t ht).st;have zr:frzs rs=rs:=gL λt ht=>(mS t ht).st;have c1:∀o2 o4:Option T,bY (aH 3) cG (aP (aE aQ (aB 3) (dC (.int 0)))) [some (.lst false rs),some (.lst false ts),o2,none,o4] rs=.ok (rs.map sA):=λo2 o4=>by
  have q:=cW (k:=3) (d:=(aP (aE aQ (aB 3) (dC (.int 0))))) (ρ:=[some (.lst false rs),some (.lst false ts),o2,none,o4]) (g:=id) (f:=sA) (l:=rs) (λt ht=>by
   obtain⟨p1,_,_,_,d,et,_⟩:=qY (mS t ht);have q1:atI [sA t,sB t,.int (cN t),d] 0=some (sA t):=iW _ _;have q4:cB (sA t)=true:=by rcases p1 with e|⟨i,_,e⟩<;>rw[e]<;>rfl
   simp only[id];generalize sA t=A at*;generalize sB t=B at*;generalize cN t=C at*;subst et;clear ht kc ks a0' p1 ch;walk_at "ev")
  rwa[List.map_id]at q
 have c3:∀o2 o4:Option T,bY (aH 3) cG (aP (aE aQ (aB 3) (dC (.int 2)))) [some (.lst false rs),some (.lst false ts),o2,none,o4] rs=.ok ((rs.map cN).map .int):=λo2 o4=>by have q:=cW (k:=3) (d:=(aP (aE aQ (aB 3) (dC (.int 2))))) (ρ:=[some (.lst false rs),some (.lst false ts),o2,none,o4]) (g:=id) (f:=λt=>T.int (cN t)) (l:=rs) (λt ht=>by obtain⟨p1,_,_,_,d,et,_⟩:=qY (mS t ht);have q1:atI [sA t,sB t,.int (cN t),d] 2=some (.int (cN t)):=nW _ _ _ _;simp only[id];generalize sA t=A at*;generalize sB t=B at*;generalize cN t=C at*;subst et;clear ht kc ks a0' p1 ch;walk_at "ev");rw[List.map_id]at q;rw[q,G5];rfl
 have nS:aW (rs.map sA)=true:=by rw[vS,List.all_map,J3];intro t ht;rcases(qY (mS t ht)).1 with e|⟨i,_,e⟩<;>simp[e,cB]
 have scS:∀u∈rs.map sA,sc u:=λu hu=>by obtain⟨t,ht,rfl⟩:=K1.mp hu;exact qO (qY (mS t ht)).1
 have atS:∀i,i<k->(rs.map sA)[i]?=some (sA (dL n R P i)):=λi hi=>by rw[<-hrs,G5,F7,R0 hi];rfl
 have c2:∀o3:Option T,bY (aH 4) cG (aE (inT false) (aE aQ (aB 2) (aB 4)) (vY rQ (aB 2) lD (kK (aB 4)))) [some (.lst false rs),some (.lst false ts),some (.lst true (rs.map sA)),o3,none] (gM 0 k)=.ok ((List.range k).map λ_=>T.bl false):=λo3=>by
  unfold gM;refine cW λi hi=>?_;have hi:=J0.mp hi;have ai:atI (rs.map sA) (0+(i:Int))=some (sA (dL n R P i)):=by rw[R5];exact gR (atS i hi)
  have cu:iI (rs.map sA) none (some (0+(i:Int)))=(rs.map sA).take i:=by rw[R5];exact ay0 _ _
  have si:sc (sA (dL n R P i)):=qO (qY (hq i)).1;have ei:inT false (sA (dL n R P i)) (.lst true ((rs.map sA).take i))=.ok (.bl false):=by
   have e1:=bs1 si ((rs.map sA).take i) λu hu=>scS u (O8 hu);have e2:(((rs.map sA).take i).map λu=>tK u (sA (dL n R P i))).any id=false:=by
    rw[Bool.eq_false_iff];intro q;have hm:=(ea5 si λu hu=>scS u (O8 hu)).mp q;obtain⟨j,e⟩:=List.mem_iff_getElem?.mp hm;have hj:j<i:=by have:=(C7.mp e).1;rw[M4]at this;omega
    rw[S2 hj,atS j V8]at e;have e:=E8 e;refine da7 r hj hi ?_;rw[<-(fact j).2.1,<-(fact i).2.1,(qY (hq j)).2.2.1,(qY (hq i)).2.2.1,e]
   rcases si with e|⟨x,e⟩;all_goals
    rw[e]at e1 e2⊢;simp only[inT,e1,e2];rfl
  clear kc ks a0' ch c1 c3 si;generalize sA (dL n R P i)=A at*;walk_at "ev"
 have an:jU true [.lst true ((List.range k).map λ_=>T.bl false)]=.ok (.bl false):=by
  have e:((List.range k).map λ_=>T.bl false)=((List.range k).map λ_=>false).map T.bl:=by rw[G5];rfl
  rw[e];simp only[jU,yF];simp
 have sneg:(rs.map cN).sum<0:=by
  have:=cl6 (n:=n) (R:=R) k P (λm _=>by obtain⟨t,et,_⟩:=r.df m;exact⟨t,et⟩);have e:rs.map cN=(List.range k).map λm=>cN (dL n R P m):=by rw[<-hrs,G5];rfl
  rw[e,this];exact r.neg
 have dneg:decide ((rs.map cN).sum<0)=true:=F8 sneg;have enil:eV (.lst false rs) (.lst true [])=.ok (.bl false):=by
  cases rs with
  |nil=>simp at lrs;omega
  |cons t rs=>rfl
 rw[hrs];have l1:rs.length<=100000:=V8
 have lz:rs.length<=sizeLine:=by have:=D9;omega
 have rg:-(2^62)<=(k:Int)/\(k:Int)<2^62:=V8
 have tk:(k:Int).toNat=k:=V8
 have li:=gT 0 k;have lk:k<=sizeLine:=by have:=D9;omega
 obtain⟨p1,p2,_,_,d,et,hd⟩:=qY (hq 0);have q1:atI [sA (dL n R P 0),sB (dL n R P 0),.int (cN (dL n R P 0)),d] 0=some (sA (dL n R P 0)):=iW _ _;have nA:cB (sA (dL n R P 0))=true/\frz (sA (dL n R P 0))=sA (dL n R P 0):=by rcases p1 with e|⟨i,_,e⟩<;>rw[e]<;>exact⟨rfl,rfl⟩
 obtain⟨nA,zA⟩:=nA;obtain⟨n1,_,z1⟩:=kM (hq 0).st;generalize hq0:dL n R P 0=q0 at*;have ixq:aQ q0 (.int 0)=.ok (sA q0):=by rw[et];simp only[vD];rw[show atI [sA q0,sB q0,T.int (cN q0),d] 0=some (sA q0) from q1];rfl
 unfold cY qT;have b0:=a0';clear a0' et hq0 fact hq link e0k ch mem mS scS atS sneg h r hd p1 p2 q1 s0 hrs n8 kn k1;walk_at "ev"
def nm:T->T
 |.tup [_,_,_,d]=>d
 |_=>.non
def nT(N:List Nat):T:=.tup (N.map λ(k:Nat)=>T.int (k:Int))
def kp(N:List Nat)(t:T):Bool:=!(N.map λ(k:Nat)=>T.int (k:Int)).any λu=>tK u (nm t)
def wo(N:List Nat)(ts:List T):List T:=ts.filter (kp N)
def fw0(N:List Nat):∀u∈N.map λ(k:Nat)=>T.int (k:Int),sc u:=λu hu=>by obtain⟨a,_,rfl⟩:=K1.mp hu;exact .inr ⟨_,rfl⟩
def ee5{d:T}(hd:sc d)(N:List Nat):inT true d (nT N)=.ok (.bl (!(N.map λ(k:Nat)=>T.int (k:Int)).any λu=>tK u d)):=by have e1:=bs1 hd _ (fw0 N);unfold nT;rcases hd with rfl|⟨i,rfl⟩<;>simp only[inT,e1,List.any_map,if_true]<;>rfl
theorem iM(N:List Nat):cB (nT N)=true/\cM (nT N)=true/\frz (nT N)=nT N:=by have a:aW (N.map λ(k:Nat)=>T.int (k:Int))=true:=fS (λ_=>rfl) _;have b:bZ (N.map λ(k:Nat)=>T.int (k:Int))=true:=jI (λ_=>rfl) _;have c:frzs (N.map λ(k:Nat)=>T.int (k:Int))=N.map λ(k:Nat)=>T.int (k:Int):=rK (λ_=>rfl) _;simp only[nT,cB,cM,frz,a,b,c];exact⟨trivial,trivial,trivial⟩
def jY{n:Nat}{N:List Nat}{ts:List T}(h:∀t∈ts,StepN n t):∀t∈wo N ts,StepN n t:=λt ht=>h t (O2.mp ht).1
def bi5{n:Nat}{ts:List T}(h:∀t∈ts,StepN n t)(hl:ts.length<=10000)(N:List Nat):fU [.lst false ts,nT N]=.ok (.lst true (wo N ts)):=by
 unfold fU qJ;have no:=fO λt ht=>(h t ht).st;obtain⟨nn,nc,nz⟩:=iM N;have hc:bY (aH 2) (kX (aU (aE pW (aE aQ (aB 2) (dC (.int 3))) (dC .non))) (aU (aE (inT true) (aE aQ (aB 2) (dC (.int 3))) (aB 1)))) (aP (aB 2)) [some (.lst false ts),some (nT N),none] ts=.ok (wo N ts):=by
  have q:=pD (k:=2) (c:=kX (aU (aE pW (aE aQ (aB 2) (dC (.int 3))) (dC .non))) (aU (aE (inT true) (aE aQ (aB 2) (dC (.int 3))) (aB 1)))) (d:=aP (aB 2)) (ρ:=[some (.lst false ts),some (nT N),none]) (g:=id) (f:=id) (p:=kp N) (l:=ts) (λt ht=>by
   have hs:=h t ht;obtain⟨n1,_,_⟩:=kM hs.st;obtain⟨a,b,c,d,rfl,ha,hb,hd⟩:=hs;have i3:=@tF T;have na':=(tI ha).2.2.1;have nb':=(tI hb).2.2.1;have nd':cB d=true:=by rcases hd with rfl|⟨i,rfl⟩<;>rfl
   have iN:=ee5 hd N;have ek:kp N (.tup [a,b,.int c,d])=!(N.map λ(k:Nat)=>T.int (k:Int)).any λu=>tK u d:=rfl;rw[<-ek]at iN;refine⟨?_,λ_=>?_⟩
   . simp only[id];rcases hd with rfl|⟨i,rfl⟩
     . have e0:kp N (.tup [a,b,.int c,.non])=true:=by rw[ek];simp[tK,List.any_eq_false]
       rw[e0];clear h ht ha hb ek iN e0 no;walk_at "ev"
     . clear h ht ha hb ek no;walk_at "ev"
   . simp only[id];clear h ht ha hb hd ek iN no;walk_at "ev")
  rwa[List.map_id,List.map_id]at q
 have ls:(wo N ts).length<=sizeLine:=by have:=List.length_filter_le (kp N) ts;have:=D9;unfold wo;omega
 have nw:aW (wo N ts)=true:=fO λt ht=>(jY h t ht).st;clear h;walk_at "ev"
def fs0{f:Fm}(g:Gd f){ss:List Sd}(h:∀s∈ss,SdOk f s)(hl:ss.length<=1000)(N:List Nat):lN [bQ false f,.lst false (ss.map (dG false f)),nT N]=.ok (.lst true (wo N (cP f ss))):=by
 unfold lN nY;have aS:=pM h;have ks:=cx3 g h hl;have za:=jD false f;have na:=kC f;have zo:=rG false f ss;have no:=wJ f ss;have aT:=vM f ss;have cS:=lG aT;have nS:=fO aT;have lS:=aw4 g hl;obtain⟨nn,nc,nz⟩:=iM N;have hc:bY (aH 3) (aU (aE (inT true) (aE aQ (aB 3) (dC (.int 3))) (aB 2))) (aP (aB 3)) [some (bQ false f),some (.lst false (ss.map (dG false f))),some (nT N),none] (cP f ss)=.ok (wo N (cP f ss)):=by
  have q:=pD (k:=3) (c:=aU (aE (inT true) (aE aQ (aB 3) (dC (.int 3))) (aB 2))) (d:=aP (aB 3)) (ρ:=[some (bQ false f),some (.lst false (ss.map (dG false f))),some (nT N),none]) (g:=id) (f:=id) (p:=kp N) (l:=cP f ss) (λt ht=>by
   have hs:=aS t ht;obtain⟨n1,_,_⟩:=kM hs.st;obtain⟨a,b,c,d,rfl,ha,hb,hd⟩:=hs;have i3:=@tF T;have na':=(tI ha).2.2.1;have nb':=(tI hb).2.2.1;have nd':cB d=true:=by rcases hd with rfl|⟨i,rfl⟩<;>rfl
   have iN:=ee5 hd N;have ek:kp N (.tup [a,b,.int c,d])=!(N.map λ(k:Nat)=>T.int (k:Int)).any λu=>tK u d:=rfl;rw[<-ek]at iN;simp only[id];clear h ht ha hb hd ek ks aS zo no aT cS nS lS g hl;refine⟨?_,λ_=>?_⟩<;>walk_at "ev")
  rwa[List.map_id,List.map_id]at q
 have ls:(wo N (cP f ss)).length<=sizeLine:=by have:=List.length_filter_le (kp N) (cP f ss);have:=D9;unfold wo;omega
 have lz:(cP f ss).length<=sizeLine:=by have:=D9;omega
 clear aS aT lS g h;generalize cP f ss=S at*;walk_at "ev"
def gF(a m:Nat):List Nat:=(List.range (m-a)).map (a+ ·)
def gZ(m:Nat)(N:List Nat):List (List Nat):=(gF (match N.getLast? with|some k=>k+1|none=>0) m).map λk=>N++[k]
def T1(m:Nat):List (List Nat):=(List.range m).map λi=>[i]
def T2(m:Nat):List (List Nat):=(List.range m).flatMap λi=>(gF (i+1) m).map λj=>[i,j]
def ej8(m:Nat):[[]].flatMap (gZ m)=T1 m:=by simp[gZ,T1,gF]
def ek8(m:Nat):(T1 m).flatMap (gZ m)=T2 m:=by unfold T1 T2;rw[List.flatMap_map];rfl
def as8{a m:Nat}(ha:a<=100000)(hm:m<=100000):xS [.int (a:Int),.int (m:Int)]=.ok ((gF a m).map λ(k:Nat)=>T.int (k:Int)):=by rw[dm5,gH ⟨V8,V8,V8,V8⟩];unfold gM gF;rw[G5,show((m:Int)-(a:Int)).toNat=m-a by omega];congr 1
def bk8(a m:Nat):(gF a m).length<=m:=by unfold gF;rw[B5,L5];omega
theorem bc8{α β:Type}{g:α->List β}{m:Nat}:∀(L:List α),(∀x∈L,(g x).length<=m)->(L.flatMap g).length<=L.length*m
 |[],_=>by simp
 |x::L,h=>by have h1:=h x A7;have h2:=bc8 L λy hy=>h y (A5 _ hy);rw[List.flatMap_cons,E7,D8,Nat.succ_mul];omega
def bo8(m:Nat)(N:List Nat):(gZ m N).length<=m:=by unfold gZ;rw[B5];exact bk8 _ _
def jX(L:List (List Nat)):aW (L.map nT)=true/\bZ (L.map nT)=true/\frzs (L.map nT)=L.map nT:=
 ⟨fS (λN=>(iM N).1) L,jI (λN=>(iM N).2.1) L,rK (λN=>(iM N).2.2) L⟩
def bj3{α β:Type}{g:α->List β}{L:List α}{i:Nat}{x:α}(h:L[i]?=some x):(L.take (i+1)).flatMap g=(L.take i).flatMap g++g x:=by rw[List.take_add_one,h,List.flatMap_append];simp
def cu3{L:List (List Nat)}(hN:∀N∈L,N.length<=2/\∀k∈N,k<100)(hL:L.length<=100){m:Nat}(hm:m<=100):lT [.lst false (L.map nT),.int (m:Int)]=.ok (.lst true ((L.flatMap (gZ m)).map nT)):=by
 unfold lT oA;obtain⟨q1,q2,q3⟩:=jX L;have sz0:0<=sizeLine:=L7 _;walk_at "ev";generalize hL':cR _ _ _ _=o;obtain⟨ρ',rfl,o3,o4,o5,rfl⟩:=gY (λi ρ=>∃o3 o4 o5:Option T,ρ=[some (.lst false (L.map nT)),some (.int (m:Int)),some (.lst true (((L.take i).flatMap (gZ m)).map nT)),o3,o4,o5]) hL' ⟨_,_,_,rfl⟩ (by
  rintro i t ρ et ⟨o3,o4,o5,rfl⟩;rw[F7]at et;cases eg:L[i]? with
  |none=>rw[eg]at et;cases et
  |some N=>
   rw[eg]at et;have et:=(E8 et).symm;subst et;have hi:=(C7.mp eg).1;rw[bj3 eg];have l1:=bc8 (g:=gZ m) (m:=m) (L.take i) (λx _=>bo8 m x);have l2:=bo8 m N;have l3:(L.take i).length*m<=100*100:=Nat.mul_le_mul (by rw[M4];omega) hm;have ls:((L.take i).flatMap (gZ m)).length+(gZ m N).length<=sizeLine:=by have:=D9;omega
   obtain⟨h1,h2⟩:=hN N (C6 eg);generalize(L.take i).flatMap (gZ m)=G at*;clear l1 l3 eg hi hL' hN q1 q2 q3;rw[G0];have sz1:1<=sizeLine:=by have:=D9;omega
   match N,h1,h2 with
   |[],_,_=>
    have e0:gZ m []=(gF 0 m).map λk=>[k]:=rfl;rw[e0]at ls⊢;rw[B5]at ls;have r0:xS [.int 0,.int (m:Int)]=.ok ((gF 0 m).map λ(k:Nat)=>T.int (k:Int)):=as8 (a:=0) V8 V8;have eE:∀k:Nat,vU (nT []) (.tup [.int (k:Int)])=.ok (nT [k]):=λk=>by unfold nT vU;simp[aW,cB]
    have hc:∀y0 y2 y3:Option T,bY (aH 5) cG (aE vU (aB 3) (cD (aD (aP (aB 5)) aI))) [y0,some (.int (m:Int)),y2,some (nT []),y3,none] ((gF 0 m).map λ(k:Nat)=>T.int (k:Int))=.ok ((gF 0 m).map λk=>nT [k]):=λy0 y2 y3=>by refine cW λk _=>?_;have eE:=eE k;clear r0 ls e0;walk_at "ev"
    have ln:cI [nT []]=.ok (.int 0):=rfl;have t0:decide ((0:Int)<0)=false:=rfl;have lu:(gF 0 m).length<=sizeLine:=V8
    rw[G5];clear e0 eE h1 h2 hm hL;walk_at "ev";exact⟨_,_,_,rfl⟩
   |[k],_,h2=>
    have hk:k<100:=h2 k W0;have e0:gZ m [k]=(gF (k+1) m).map λj=>[k,j]:=rfl;rw[e0]at ls⊢;rw[B5]at ls;have r0:xS [.int ((k:Int)+1),.int (m:Int)]=.ok ((gF (k+1) m).map λ(k:Nat)=>T.int (k:Int)):=as8 (a:=k+1) V8 V8;have eE:∀j:Nat,vU (nT [k]) (.tup [.int (j:Int)])=.ok (nT [k,j]):=λj=>by have:vU (nT [k]) (.tup [.int (j:Int)])=bS (.tup [.int (k:Int)]) (.tup [.int (j:Int)]):=rfl;rw[this,be6,gH ⟨rfl,by have:=D9;simp;omega,rfl,rfl⟩];rfl
    have hc:∀y0 y2 y3:Option T,bY (aH 5) cG (aE vU (aB 3) (cD (aD (aP (aB 5)) aI))) [y0,some (.int (m:Int)),y2,some (nT [k]),y3,none] ((gF (k+1) m).map λ(k:Nat)=>T.int (k:Int))=.ok ((gF (k+1) m).map λj=>nT [k,j]):=λy0 y2 y3=>by refine cW λj _=>?_;have eE:=eE j;clear r0 ls e0;walk_at "ev"
    have ln:cI [nT [k]]=.ok (.int 1):=rfl;have ix:aQ (nT [k]) (.int (-1))=.ok (.int (k:Int)):=rfl;have t0:decide ((0:Int)<1)=true:=rfl;have lu:(gF (k+1) m).length<=sizeLine:=V8
    rw[G5];clear e0 eE h1 h2 hm hL hk;walk_at "ev";exact⟨_,_,_,rfl⟩
   |[i0,k],_,h2=>
    have hk:k<100:=h2 k W0;have e0:gZ m [i0,k]=(gF (k+1) m).map λj=>[i0,k,j]:=rfl;rw[e0]at ls⊢;rw[B5]at ls;have r0:xS [.int ((k:Int)+1),.int (m:Int)]=.ok ((gF (k+1) m).map λ(k:Nat)=>T.int (k:Int)):=as8 (a:=k+1) V8 V8;have eE:∀j:Nat,vU (nT [i0,k]) (.tup [.int (j:Int)])=.ok (nT [i0,k,j]):=λj=>by have:vU (nT [i0,k]) (.tup [.int (j:Int)])=bS (.tup [.int (i0:Int),.int (k:Int)]) (.tup [.int (j:Int)]):=rfl;rw[this,be6,gH ⟨rfl,by have:=D9;simp;omega,rfl,rfl⟩];rfl
    have hc:∀y0 y2 y3:Option T,bY (aH 5) cG (aE vU (aB 3) (cD (aD (aP (aB 5)) aI))) [y0,some (.int (m:Int)),y2,some (nT [i0,k]),y3,none] ((gF (k+1) m).map λ(k:Nat)=>T.int (k:Int))=.ok ((gF (k+1) m).map λj=>nT [i0,k,j]):=λy0 y2 y3=>by refine cW λj _=>?_;have eE:=eE j;clear r0 ls e0;walk_at "ev"
    have ln:cI [nT [i0,k]]=.ok (.int 2):=rfl;have ix:aQ (nT [i0,k]) (.int (-1))=.ok (.int (k:Int)):=rfl;have t0:decide ((0:Int)<2)=true:=rfl;have lu:(gF (k+1) m).length<=sizeLine:=V8
    rw[G5];clear e0 eE h1 h2 hm hL hk;walk_at "ev";exact⟨_,_,_,rfl⟩
   |_::_::_::_,h1,_=>exact B0 h1 W0)
 rw[B5,List.take_length];have cm:=(jX (L.flatMap (gZ m))).2.1;clear hN hL' q1 q2 q3;walk_at "ev"
def es7(m:Nat):gM 0 m=(List.range m).map λ(k:Nat)=>T.int (k:Int):=by unfold gM;exact List.map_congr_left λi _=>by rw[R5]
def dp4{m:Nat}(hm:m<=100000):kG [.int (m:Int)]=.ok ((List.range m).map λ(k:Nat)=>T.int (k:Int)):=by rw[ab9,gH ⟨V8,V8⟩,K0,es7]
def cg6(m:Int):iD [.int m,.int 0]=.ok (.lst true ([[]].map nT)):=by
 unfold iD mK;have sz:1<=sizeLine:=by have:=D9;omega
 have sz0:0<=sizeLine:=L7 _;have t0:((0:Int)==0)=true:=rfl;walk_at "ev";rfl
def cm7{m:Nat}(hm:m<=100):iD [.int (m:Int),.int 1]=.ok (.lst true ((T1 m).map nT)):=by
 unfold iD mK;have t0:((1:Int)==0)=false:=rfl;have t1:((1:Int)==1)=true:=rfl;have sz1:1<=sizeLine:=by have:=D9;omega
 have r:=dp4 (m:=m) V8;have hc:bY (aH 3) cG (cD (aD (aP (aB 3)) aI)) [some (.int (m:Int)),some (.int 1),none,none,none] ((List.range m).map λ(k:Nat)=>T.int (k:Int))=.ok ((List.range m).map λk=>nT [k]):=by refine cW λk _=>?_;have e:nT [k]=.tup [.int (k:Int)]:=rfl;rw[e];clear r;walk_at "ev"
 have lm:m<=sizeLine:=by have:=D9;omega
 have lr:(List.range m).length=m:=L5;unfold T1;rw[G5];walk_at "ev";rfl
def co5{m:Nat}(hm:m<=100):iD [.int (m:Int),.int 2]=.ok (.lst true ((T2 m).map nT)):=by
 unfold iD mK;have t0:((2:Int)==0)=false:=rfl;have t1:((2:Int)==1)=false:=rfl;have sz1:2<=sizeLine:=by have:=D9;omega
 have sz0:0<=sizeLine:=L7 _;have r:=dp4 (m:=m) V8;walk_at "ev";generalize hL':cR _ _ _ _=o;obtain⟨ρ',rfl,o3,o4,rfl⟩:=gY (λi ρ=>∃o3 o4:Option T,ρ=[some (.int (m:Int)),some (.int 2),some (.lst true ((((List.range m).take i).flatMap λi=>(gF (i+1) m).map λj=>[i,j]).map nT)),o3,o4]) hL' ⟨_,_,rfl⟩ (by
  rintro i t ρ et ⟨o3,o4,rfl⟩;rw[F7]at et;cases eg:(List.range m)[i]? with
  |none=>rw[eg]at et;cases et
  |some k=>
   rw[eg]at et;have et:=(E8 et).symm;subst et;have hk:k<m:=J0.mp (C6 eg);rw[bj3 eg];have l1:=bc8 (g:=λi=>(gF (i+1) m).map λj=>[i,j]) (m:=m) ((List.range m).take i) (λx _=>by rw[B5];exact bk8 _ _);have l2:=bk8 (k+1) m;have l3:((List.range m).take i).length*m<=100*100:=Nat.mul_le_mul (by rw[M4,L5];omega) hm;generalize((List.range m).take i).flatMap (λi=>(gF (i+1) m).map λj=>[i,j])=G at*;have ls:G.length+(gF (k+1) m).length<=sizeLine:=by have:=D9;omega
   have lu:(gF (k+1) m).length<=sizeLine:=V8
   have r0:xS [.int ((k:Int)+1),.int (m:Int)]=.ok ((gF (k+1) m).map λ(k:Nat)=>T.int (k:Int)):=as8 (a:=k+1) V8 V8;have hc:∀y2:Option T,bY (aH 4) cG (cD (aD (aP (aB 3)) (aD (aP (aB 4)) aI))) [some (.int (m:Int)),some (.int 2),y2,some (.int (k:Int)),none] ((gF (k+1) m).map λ(k:Nat)=>T.int (k:Int))=.ok ((gF (k+1) m).map λj=>nT [k,j]):=λy2=>by refine cW λj _=>?_;have e:nT [k,j]=.tup [.int (k:Int),.int (j:Int)]:=rfl;rw[e];clear r0 ls lu r hL' l1 l2 l3;walk_at "ev"
   have hc4:∀y2 x4:Option T,bY (aH 4) cG (cD (aD (aP (aB 3)) (aD (aP (aB 4)) aI))) [some (.int (m:Int)),some (.int 2),y2,some (.int (k:Int)),x4] ((gF (k+1) m).map λ(k:Nat)=>T.int (k:Int))=.ok ((gF (k+1) m).map λj=>nT [k,j]):=λy2 x4=>by refine cW λj _=>?_;have e:nT [k,j]=.tup [.int (k:Int),.int (j:Int)]:=rfl;rw[e];clear r0 ls lu r hL' l1 l2 l3 hc;walk_at "ev"
   rw[G0,G5];clear r hL' l1 l2 l3 eg hk;walk_at "ev";exact⟨_,_,rfl⟩)
 rw[B5,L5];have et:(List.range m).take m=List.range m:=N8 W0;rw[et];have eT:((List.range m).flatMap λi=>(gF (i+1) m).map λj=>[i,j])=T2 m:=rfl;rw[eT];clear hL' r;walk_at "ev"
noncomputable abbrev cbB:Fr->bO:=(aM (aY [] (yJ (aU (aE pW (aB 5) (dC .non))) (aP (aB 1)) (aP (aB 5))) (aH 9)) (aM (aY [] (yJ (aU (aE pW (aB 6) (dC .non))) (aP (aB 1)) (aP (aB 6))) (aH 10)) (cF (aU (aE vW (aE aQ (aB 2) (aB 10)) (aE bS (aE aQ (aB 2) (aB 9)) (aB 7)))) (aM (ai6 2 [] (aE bS (aE aQ (aB 2) (aB 9)) (aB 7)) cO (aB 10)) (aY [] (dC (.bl true)) (aH 4))) bJ)))
def dm4{n:Nat}{a:T}(h:Pl n a){i:Nat}{ρ:Fr}(h1:ρ[1]?=some (some (.int (n:Int))))(hi:ρ[i]?=some (some a)):yJ (aU (aE pW (aB i) (dC .non))) (aP (aB 1)) (aP (aB i)) ρ=.ok (.int ((pN n a:Nat):Int)):=by
 rcases h with rfl|⟨k,hk,rfl⟩
 . walk_at "ev";rfl
 . walk_at "ev";simp[pN]
def dk0{n:Nat}{ts:List T}(h:∀t∈ts,StepN n t){Y:List Int}(hy:Y.length=n+1)(a0 a3 o5 o6 o7 o8 o9 o10:Option T):
 ∃(Y':List Int)(ch:Bool),Y'.length=n+1/\(ch=false->∀t∈ts,gy Y' (cC n t)<=gy Y' (dI n t)+cN t)/\∃p5 p6 p7 p8 p9 p10,cR (eW (bC (aH 5) (bC (aH 6) (bC (aH 7) (bC (aH 8) eZ))))) cbB ts [a0,some (.int (n:Int)),some (.lst true (Y.map .int)),a3,some (.bl false),o5,o6,o7,o8,o9,o10]=.nx [a0,some (.int (n:Int)),some (.lst true (Y'.map .int)),a3,some (.bl ch),p5,p6,p7,p8,p9,p10]:=by
 generalize hL:cR _ _ _ _=o;obtain⟨ρ',rfl,Y',ch,ly,kp',p5,p6,p7,p8,p9,p10,rfl⟩:=gY (λi ρ=>∃(Y':List Int)(ch:Bool),Y'.length=n+1/\(ch=false->∀t∈ts.take i,gy Y' (cC n t)<=gy Y' (dI n t)+cN t)/\∃p5 p6 p7 p8 p9 p10:Option T,ρ=[a0,some (.int (n:Int)),some (.lst true (Y'.map .int)),a3,some (.bl ch),p5,p6,p7,p8,p9,p10]) hL ⟨Y,false,hy,λ_ t ht=>by simp at ht,_,_,_,_,_,_,rfl⟩ (by
  rintro i t ρ et ⟨Y',ch,ly,kp',p5,p6,p7,p8,p9,p10,rfl⟩;have tm:=C6 et;have es:ts.take (i+1)=ts.take i++[t]:=by rw[List.take_add_one,et];rfl
  obtain⟨a,b,c,d,rfl,ha,hb,hd⟩:=h t tm;have la:=(tI ha).1;have lb:=(tI hb).1;have qa:=ax7 (Y:=Y') (i:=pN n a) V8;have qb:=ax7 (Y:=Y') (i:=pN n b) V8;have bt:eW (bC (aH 5) (bC (aH 6) (bC (aH 7) (bC (aH 8) eZ)))) (.tup [a,b,.int c,d]) [a0,some (.int (n:Int)),some (.lst true (Y'.map .int)),a3,some (.bl ch),p5,p6,p7,p8,p9,p10]=some [a0,some (.int (n:Int)),some (.lst true (Y'.map .int)),a3,some (.bl ch),some a,some b,some (.int c),some d,p9,p10]:=rfl;rw[bt];have i1:=dm4 ha (i:=5) (ρ:=[a0,some (.int (n:Int)),some (.lst true (Y'.map .int)),a3,some (.bl ch),some a,some b,some (.int c),some d,p9,p10]) rfl rfl;have i2:=λx=>dm4 hb (i:=6) (ρ:=[a0,some (.int (n:Int)),some (.lst true (Y'.map .int)),a3,some (.bl ch),some a,some b,some (.int c),some d,x,p10]) rfl rfl;have x1:qG (n+1) ((pN n b:Nat):Int)=some (pN n b):=cy1 V8;have out:(gy Y' (pN n b)<=gy Y' (pN n a)+c)->∀q9 q10:Option T,∃(Y2:List Int)(ch2:Bool),Y2.length=n+1/\(ch2=false->∀t∈ts.take (i+1),gy Y2 (cC n t)<=gy Y2 (dI n t)+cN t)/\∃p5 p6 p7 p8 p9 p10:Option T,[a0,some (.int (n:Int)),some (.lst true (Y'.map .int)),a3,some (.bl ch),some a,some b,some (.int c),some d,q9,q10]=[a0,some (.int (n:Int)),some (.lst true (Y2.map .int)),a3,some (.bl ch2),p5,p6,p7,p8,p9,p10]:=λhk q9 q10=>by
   refine⟨Y',ch,ly,λhc u hu=>?_,_,_,_,_,_,_,rfl⟩;rw[es]at hu;rcases A3.mp hu with hu|hu
   . exact kp' hc u hu
   . rw[C5.mp hu];exact hk
  have out2:∀(v:Int)(q9 q10:Option T),∃(Y2:List Int)(ch2:Bool),Y2.length=n+1/\(ch2=false->∀t∈ts.take (i+1),gy Y2 (cC n t)<=gy Y2 (dI n t)+cN t)/\∃p5 p6 p7 p8 p9 p10:Option T,[a0,some (.int (n:Int)),some (.lst true ((Y'.map .int).set (pN n b) (.int v))),a3,some (.bl true),some a,some b,some (.int c),some d,q9,q10]=[a0,some (.int (n:Int)),some (.lst true (Y2.map .int)),a3,some (.bl ch2),p5,p6,p7,p8,p9,p10]:=λv q9 q10=>
   ⟨Y'.set (pN n b) v,true,by rw[O3];exact ly,(λz=>by cases z),_,_,_,_,_,_,by rw[dd5]⟩
  have lY:(Y'.map T.int).length=n+1:=by rw[B5,ly]
  show GoB _ cbB (some _);generalize gy Y' (pN n a)=A at*;generalize gy Y' (pN n b)=B at*;unfold cbB;generalize yJ (aU (aE pW (aB 5) (dC .non))) (aP (aB 1)) (aP (aB 5))=Z1 at*;generalize yJ (aU (aE pW (aB 6) (dC .non))) (aP (aB 1)) (aP (aB 6))=Z2 at*;clear hL et tm es ha hb hd h kp' la lb hy ly bt;generalize Y'.map T.int=L at*;cases e:decide (A+c<B)with
  |true=>have out2:=out2 (A+c);clear out;walk_at "ev"
  |false=>have out:=out (by have:=of_decide_eq_false e;omega);clear out2;walk_at "ev")
 rw[List.take_length]at kp';exact⟨Y',ch,ly,kp',_,_,_,_,_,_,rfl⟩
def dc4{n:Nat}{ts:List T}(h:∀t∈ts,StepN n t)(n8:n<=8)(hno:∀D:Nat->Int,¬∀t∈ts,D (cC n t)<=D (dI n t)+cN t):oR [.lst false ts,.int (n:Int)]=.ok (.bl false):=by
 unfold oR tP;have no:=fO λt ht=>(h t ht).st;have m1:sL (.lst true [T.int 0]) (.int ((n:Int)+1))=.ok (.lst true ((List.replicate (n+1) (0:Int)).map .int)):=by simp only[sL];rw[gH ⟨rfl,V8,V8,by simp;omega⟩,au1,U6];congr
 have rg:kG [.int ((n:Int)+2)]=.ok (gM 0 (n+2)):=by rw[ab9,gH ⟨V8,V8⟩];congr
 have sz1:1<=sizeLine:=by have:=D9;omega
 have lp:∀Y:List Int,Y.length=n+1->∃(Y':List Int)(q3 q4 q5 q6 q7 q8 q9 q10:Option T),cR (aH 3) (aM (aY [] (dC (.bl false)) (aH 4)) (aM (hV (gG rP (aB 0)) (eW (bC (aH 5) (bC (aH 6) (bC (aH 7) (bC (aH 8) eZ))))) cbB) (cF (eO (dS (aB 4))) (bE [] (dC (.bl true))) bJ))) (gM 0 (n+2)) [some (.lst false ts),some (.int (n:Int)),some (.lst true (Y.map .int)),none,none,none,none,none,none,none,none]=.nx [some (.lst false ts),some (.int (n:Int)),some (.lst true (Y'.map .int)),q3,q4,q5,q6,q7,q8,q9,q10]:=λY hy=>by
  generalize hL:cR _ _ _ _=o;obtain⟨ρ',rfl,Y',ly,q3,q4,q5,q6,q7,q8,q9,q10,rfl⟩:=gY (λi ρ=>∃(Y':List Int),Y'.length=n+1/\∃q3 q4 q5 q6 q7 q8 q9 q10:Option T,ρ=[some (.lst false ts),some (.int (n:Int)),some (.lst true (Y'.map .int)),q3,q4,q5,q6,q7,q8,q9,q10]) hL ⟨Y,hy,_,_,_,_,_,_,_,_,rfl⟩ (by
   rintro i t ρ et ⟨Y',ly,q3,q4,q5,q6,q7,q8,q9,q10,rfl⟩;obtain⟨Y2,ch,l2,k2,p5,p6,p7,p8,p9,p10,lp⟩:=dk0 h ly (some (.lst false ts)) (some t) q5 q6 q7 q8 q9 q10;have hc:ch=true:=by
    cases ch with
    |true=>rfl
    |false=>exact B0 (k2 rfl) (hno _)
   subst hc;have out:∃(Y3:List Int),Y3.length=n+1/\∃r3 r4 r5 r6 r7 r8 r9 r10:Option T,[some (T.lst false ts),some (.int (n:Int)),some (.lst true (Y2.map .int)),some t,some (.bl true),p5,p6,p7,p8,p9,p10]=[some (.lst false ts),some (.int (n:Int)),some (.lst true (Y3.map .int)),r3,r4,r5,r6,r7,r8,r9,r10]:=⟨Y2,l2,_,_,_,_,_,_,_,_,rfl⟩;generalize cbB=Z at*;clear hL et k2 h hno l2 ly;walk_at "ev")
  exact⟨Y',_,_,_,_,_,_,_,_,rfl⟩
 obtain⟨Y',q3,q4,q5,q6,q7,q8,q9,q10,lp⟩:=lp (List.replicate (n+1) 0) W0;clear h hno n8;generalize(List.replicate (n+1) (0:Int)).map T.int=L0 at*;walk_at "ev"
section
variable(W:List Nat->Str)(X:List Nat->List T)
def cL(o:Bool)(N:List Nat):T:=.tup [nT N,.lst o (X N)]
noncomputable abbrev ffB:Fr->bO:=(aM (aY [] (aX 2 gE (aD (aB 0) (aD (aX 3 lN (aD (aB 0) (aD (aB 1) (aD (aB 6) aI)))) aI))) (aH 7)) (aM (cF (aU (aE eV (aE aQ (aB 7) (dC (.int 0))) (dC (.str "dating")))) (bE [7,2] (cD (aD (dC (.str "drop")) (aD (aP (aB 6)) (aD (am1 7 1) (aD (aB 2) aI)))))) bJ) (gN 5 [7] cO (cD (aD (aP (aB 6)) (aD (am1 7 1) aI))))))
variable{W X}{f:Fm}{ss:List Sd}
def el0(g:Gd f)(h:∀s∈ss,SdOk f s)(hl:ss.length<=1000)(hW:∀N,gE [bQ false f,.lst false (wo N (cP f ss))]=.ok (.tup [.str (W N),.lst true (X N)])/\bZ (X N)=true)(N:List Nat)(rs fs:List T)(lf:fs.length<sizeLine)(a3 a4 a7:Option T):
 (W N="dating"->ffB [some (bQ false f),some (.lst false (ss.map (dG false f))),some (.lst true rs),a3,a4,some (.lst true fs),some (nT N),a7]=.rt (.tup [.str "drop",nT N,.lst true (X N),.lst true rs]))/\
 (W N≠"dating"->ffB [some (bQ false f),some (.lst false (ss.map (dG false f))),some (.lst true rs),a3,a4,some (.lst true fs),some (nT N),a7]=.nx [some (bQ false f),some (.lst false (ss.map (dG false f))),some (.lst true rs),a3,a4,some (.lst true (fs++[cL X true N])),some (nT N),none]):=by
 have aS:=pM h;have kw:=fs0 g h hl N;have zw:frzs (wo N (cP f ss))=wo N (cP f ss):=gL λt ht=>(jY aS t ht).st;have cw:bZ (wo N (cP f ss))=true:=lG λt ht=>(jY aS t ht).st;have nw:aW (wo N (cP f ss))=true:=fO λt ht=>(jY aS t ht).st;have za:=jD false f;have na:=kC f;have zo:=rG false f ss;have no:=wJ f ss;obtain⟨nn,nc,nz⟩:=iM N;obtain⟨ks,cx⟩:=hW N;have b0:=@iW T;have b1:=@iQ T;have sz4:4<=sizeLine:=by have:=D9;omega
 have sz2:2<=sizeLine:=V8
 unfold ffB;simp only[cL];clear aS h g hW;generalize wo N (cP f ss)=S at*;refine⟨λe=>?_,λe=>?_⟩
 . have t1:(W N==("dating":Str))=true:=by rw[e];exact L9 _
   clear e;walk_at "ev"
 . have t1:(W N==("dating":Str))=false:=G9.mpr e;clear e;walk_at "ev"
theorem cq1(g:Gd f)(h:∀s∈ss,SdOk f s)(hl:ss.length<=1000)(hW:∀N,gE [bQ false f,.lst false (wo N (cP f ss))]=.ok (.tup [.str (W N),.lst true (X N)])/\bZ (X N)=true)(rs:List T)(a3 a4:Option T):∀(L:List (List Nat))(Q:List (List Nat))(o6 o7:Option T),Q.length+L.length<=100000->
 (∃P N R,L=P++N::R/\(∀M∈P,W M≠"dating")/\W N="dating"/\cR (aH 6) ffB (L.map nT) [some (bQ false f),some (.lst false (ss.map (dG false f))),some (.lst true rs),a3,a4,some (.lst true (Q.map (cL X true))),o6,o7]=.rt (.tup [.str "drop",nT N,.lst true (X N),.lst true rs]))\/
 ((∀M∈L,W M≠"dating")/\∃p6 p7,cR (aH 6) ffB (L.map nT) [some (bQ false f),some (.lst false (ss.map (dG false f))),some (.lst true rs),a3,a4,some (.lst true (Q.map (cL X true))),o6,o7]=.nx [some (bQ false f),some (.lst false (ss.map (dG false f))),some (.lst true rs),a3,a4,some (.lst true ((Q++L).map (cL X true))),p6,p7])
 |[],Q,o6,o7,_=>.inr ⟨λ_ z=>(nomatch z),o6,o7,by rw[K3];rfl⟩
 |N::L,Q,o6,o7,hq=>by
  rw[D8]at hq;obtain⟨k1,k2⟩:=el0 g h hl hW N rs (Q.map (cL X true)) (by rw[B5];have:=D9;omega) a3 a4 o7;by_cases e:W N="dating"
  . refine .inl ⟨[],N,L,rfl,λ_ z=>(nomatch z),e,?_⟩;have k:=k1 e;simp only[List.map_cons,cR,aH,List.set_cons_succ,List.set_cons_zero,k]
  . have k:=k2 e;have eq:Q.map (cL X true)++[cL X true N]=(Q++[N]).map (cL X true):=by rw[G0];rfl
    rw[eq]at k;have ea:Q++N::L=(Q++[N])++L:=W0
    rcases cq1 g h hl hW rs a3 a4 L (Q++[N]) (some (nT N)) none (by rw[E7,List.length_singleton];omega)with⟨P,N',R,e1,e2,e3,e4⟩|⟨e1,p6,p7,e2⟩
    . refine .inl ⟨N::P,N',R,by rw[e1];rfl,λM hM=>?_,e3,?_⟩
      . rcases B9.mp hM with rfl|hM
        . exact e
        . exact e2 M hM
      . simp only[List.map_cons,cR,aH,List.set_cons_succ,List.set_cons_zero,k];exact e4
    . refine .inr ⟨λM hM=>?_,p6,p7,?_⟩
      . rcases B9.mp hM with rfl|hM
        . exact e
        . exact e1 M hM
      . rw[ea];simp only[List.map_cons,cR,aH,List.set_cons_succ,List.set_cons_zero,k];exact e2
end
def kR(m:Nat):List (List Nat):=[[]]++T1 m++T2 m
section
variable{W:List Nat->Str}{X:List Nat->List T}{f:Fm}{ss:List Sd}
noncomputable abbrev ffT:Fr->bO:=(aM (aY [] (eI aI) (aH 5)) (aM (λρ=>(hV (gG rP (aB 3)) (aH 6) ffB) (yZ 3 ρ)) (aM (zK 2 [5] ah1 cO (aD (aB 5) aI)) (aY [] (aX 2 lT (aD (aB 3) (aD (bN cI (aD (aB 1) aI)) aI))) (aH 3)))))
def bw0(g:Gd f)(h:∀s∈ss,SdOk f s)(hl:ss.length<=100)(hW:∀N,gE [bQ false f,.lst false (wo N (cP f ss))]=.ok (.tup [.str (W N),.lst true (X N)])/\bZ (X N)=true){Sm L:List (List Nat)}(hS:Sm.length<=1000)(hL:L.length<=100)(hN:∀N∈L,N.length<=2/\∀k∈N,k<100)(a4 o5 o6 o7:Option T):
 (∃P N R,L=P++N::R/\(∀M∈P,W M≠"dating")/\W N="dating"/\ffT [some (bQ false f),some (.lst false (ss.map (dG false f))),some (.lst true (Sm.map (cL X true))),some (.lst true (L.map nT)),a4,o5,o6,o7]=.rt (.tup [.str "drop",nT N,.lst true (X N),.lst true (Sm.map (cL X true))]))\/
 ((∀M∈L,W M≠"dating")/\∃p5 p6 p7,ffT [some (bQ false f),some (.lst false (ss.map (dG false f))),some (.lst true (Sm.map (cL X true))),some (.lst true (L.map nT)),a4,o5,o6,o7]=.nx [some (bQ false f),some (.lst false (ss.map (dG false f))),some (.lst true ((Sm++L).map (cL X true))),some (.lst true ((L.flatMap (gZ ss.length)).map nT)),a4,p5,p6,p7]):=by
 obtain⟨q1,q2,q3⟩:=jX L;have sz0:0<=sizeLine:=L7 _;have km:=cu3 (L:=L) hN hL (m:=ss.length) hl;have cm:=(jX (L.flatMap (gZ ss.length))).2.1;have ls:Sm.length+L.length<=sizeLine:=by have:=D9;omega
 have lo:cI [.lst false (ss.map (dG false f))]=.ok (.int (ss.length:Int)):=by rw[cl2,B5]
 have cut:=cq1 g h V8 hW (Sm.map (cL X true)) (some (.lst false (L.map nT))) a4 L [] o6 o7 (by simp;omega);have e0:([]:List (List Nat)).map (cL X true)=[]:=rfl;rw[e0]at cut;unfold ffT;generalize ffB=Z at*;rcases cut with⟨P,N,R,e1,e2,e3,lp⟩|⟨e1,p6,p7,lp⟩
 . refine .inl ⟨P,N,R,e1,e2,e3,?_⟩;clear e1 e2 e3 hW h g hN km;walk_at "ev"
 . refine .inr ⟨e1,none,p6,p7,?_⟩;rw[K7]at lp;rw[G0];clear e1 hW h g hN;walk_at "ev"
end
def ey2{a m k:Nat}(h:k∈gF a m):a<=k/\k<m:=by unfold gF at h;obtain⟨i,hi,rfl⟩:=K1.mp h;have:=J0.mp hi;omega
def cb8{m:Nat}{N:List Nat}(h:N∈T1 m):∃i,i<m/\N=[i]:=by obtain⟨i,hi,rfl⟩:=K1.mp h;exact⟨i,J0.mp hi,rfl⟩
def ch6{m:Nat}{N:List Nat}(h:N∈T2 m):∃i j,i<j/\j<m/\N=[i,j]:=by obtain⟨i,hi,h⟩:=P0.mp h;obtain⟨j,hj,rfl⟩:=K1.mp h;have:=ey2 hj;exact⟨i,j,V8,V8,rfl⟩
def bh5:∀m,m<=12->(T1 m).length<=12/\(T2 m).length<=100:=by
 intro m hm;have:∀m,m<13->(T1 m).length<=12/\(T2 m).length<=100:=V9
 exact this m V8
section
variable{W:List Nat->Str}{X:List Nat->List T}{f:Fm}{ss:List Sd}
def au8{o:bO}(lp:cR (aH 4) ffT [.int 0,.int 1,.int 2] [some (bQ false f),some (.lst false (ss.map (dG false f))),some (.lst true []),some (.lst true [nT []]),none,none,none,none]=o):
 (∀t,o=.rt t->dX [bQ false f,.lst false (ss.map (dG false f))]=.ok t)/\∀rs a3 a4 a5 a6 a7,o=.nx [some (bQ false f),some (.lst false (ss.map (dG false f))),some (.lst true rs),a3,a4,a5,a6,a7]->dX [bQ false f,.lst false (ss.map (dG false f))]=.ok (.tup [.str "more",.lst true rs]):=by
 have rg:kG [.int (2+1)]=.ok [.int 0,.int 1,.int 2]:=by rw[ab9,gH ⟨W1,W1⟩];rfl
 have sz0:0<=sizeLine:=L7 _;have sz1:1<=sizeLine:=by have:=D9;omega
 have sz2:2<=sizeLine:=by have:=D9;omega
 have e0:T.tup []=nT []:=rfl;unfold dX mC;have key:∀r,bU ((aM (aY [] (eI aI) (aH 2)) (aM (aY [] (eI (aD (cD aI) aI)) (aH 3)) (aM (hV (gQ kG (aD (aE bS (dC (.int 2)) (dC (.int 1))) aI)) (aH 4) ffT) (bE [2] (cD (aD (dC (.str "more")) (aD (aB 2) aI))))))) (cE 8 [bQ false f,.lst false (ss.map (dG false f))]))=r->bU (mC (cE 8 [bQ false f,.lst false (ss.map (dG false f))]))=r:=λr h=>h;refine⟨λt ht=>key _ ?_,λrs a3 a4 a5 a6 a7 ht=>key _ ?_⟩;all_goals
  clear key;subst ht;generalize ffT=Z at*;walk_at "ev"
def cw9(g:Gd f)(h:∀s∈ss,SdOk f s)(hl:ss.length<=12)(hW:∀N,gE [bQ false f,.lst false (wo N (cP f ss))]=.ok (.tup [.str (W N),.lst true (X N)])/\bZ (X N)=true):
 (∃Sm L P N R,((Sm=[]/\L=[[]])\/(Sm=[[]]/\L=T1 ss.length)\/(Sm=[[]]++T1 ss.length/\L=T2 ss.length))/\L=P++N::R/\(∀M∈Sm,W M≠"dating")/\(∀M∈P,W M≠"dating")/\W N="dating"/\dX [bQ false f,.lst false (ss.map (dG false f))]=.ok (.tup [.str "drop",nT N,.lst true (X N),.lst true (Sm.map (cL X true))]))\/
 ((∀M∈kR ss.length,W M≠"dating")/\dX [bQ false f,.lst false (ss.map (dG false f))]=.ok (.tup [.str "more",.lst true ((kR ss.length).map (cL X true))])):=by
 obtain⟨l1,l2⟩:=bh5 ss.length hl;have n0:∀N∈[([]:List Nat)],N.length<=2/\∀k∈N,k<100:=λN hN=>by rw[C5.mp hN];simp
 have n1:∀N∈T1 ss.length,N.length<=2/\∀k∈N,k<100:=λN hN=>by obtain⟨i,hi,rfl⟩:=cb8 hN;simp;omega
 have n2:∀N∈T2 ss.length,N.length<=2/\∀k∈N,k<100:=λN hN=>by obtain⟨i,j,hi,hj,rfl⟩:=ch6 hN;simp;omega
 have l0:([([]:List Nat)]).length<=100:=W1
 have t0:=bw0 g h V8 hW (Sm:=[]) (L:=[[]]) W1 l0 n0 (some (.int 0)) none none none;have em:([]:List (List Nat)).map (cL X true)=[]:=rfl;have eN:[([]:List Nat)].map nT=[nT []]:=rfl;rw[em,eN,ej8,K7]at t0;rcases t0 with⟨P,N,R,e1,e2,e3,k⟩|⟨d0,p5,p6,p7,k⟩
 . refine .inl ⟨[],[[]],P,N,R,.inl ⟨rfl,rfl⟩,e1,λ_ z=>(nomatch z),e2,e3,(au8 (o:=.rt _) ?_).1 _ rfl⟩;simp only[cR,aH,List.set_cons_succ,List.set_cons_zero,k];rfl
 have t1:=bw0 g h V8 hW (Sm:=[[]]) (L:=T1 ss.length) W1 V8 n1 (some (.int 1)) p5 p6 p7;rw[ek8]at t1;rcases t1 with⟨P,N,R,e1,e2,e3,k1⟩|⟨d1,q5,q6,q7,k1⟩
 . refine .inl ⟨[[]],T1 ss.length,P,N,R,.inr (.inl ⟨rfl,rfl⟩),e1,d0,e2,e3,(au8 (o:=.rt _) ?_).1 _ rfl⟩;simp only[cR,aH,List.set_cons_succ,List.set_cons_zero,k,k1]
 have t2:=bw0 g h V8 hW (Sm:=[[]]++T1 ss.length) (L:=T2 ss.length) (by simp;omega) l2 n2 (some (.int 2)) q5 q6 q7;rcases t2 with⟨P,N,R,e1,e2,e3,k2⟩|⟨d2,r5,r6,r7,k2⟩
 . refine .inl ⟨[[]]++T1 ss.length,T2 ss.length,P,N,R,.inr (.inr ⟨rfl,rfl⟩),e1,λM hM=>(A3.mp hM).elim (d0 M) (d1 M),e2,e3,(au8 (o:=.rt _) ?_).1 _ rfl⟩;simp only[cR,aH,List.set_cons_succ,List.set_cons_zero,k,k1,k2]
 . have lp:cR (aH 4) ffT [.int 0,.int 1,.int 2] [some (bQ false f),some (.lst false (ss.map (dG false f))),some (.lst true []),some (.lst true [nT []]),none,none,none,none]=.nx [some (bQ false f),some (.lst false (ss.map (dG false f))),some (.lst true (([[]]++T1 ss.length++T2 ss.length).map (cL X true))),some (.lst true (((T2 ss.length).flatMap (gZ ss.length)).map nT)),some (.int 2),r5,r6,r7]:=by simp only[cR,aH,List.set_cons_succ,List.set_cons_zero,k,k1,k2]
   refine .inr ⟨λM hM=>?_,(au8 lp).2 _ _ _ _ _ _ rfl⟩;rcases A3.mp hM with hM|hM
   . exact(A3.mp hM).elim (d0 M) (d1 M)
   . exact d2 M hM
end
theorem cu8(m:Nat):∀N:List Nat,oO m (N.map λ(k:Nat)=>T.int (k:Int)) (N.map λ(k:Nat)=>T.int (k:Int))=some (N.map λ_=>true)
 |[]=>ak6 m
 |k::N=>by rw[B8,sE,xY (.inr ⟨_,rfl⟩) (.inr ⟨_,rfl⟩),cu8 m N,oG (.inr ⟨_,rfl⟩)];rfl
def dy4(m:Nat)(N:List Nat):pX (m+1) (nT N) (nT N)=some true:=by unfold nT;rw[bk1,cu8];simp
def eh5(N:List Nat):mM (nT N) (nT N)=.ok (.bl false):=by have:pX cU (nT N) (nT N)=some true:=dy4 5 N;unfold mM;rw[E6 ⟨rfl,rfl⟩,this];rfl
section
variable{X:List Nat->List T}
def vJ(hX:∀N,aW (X N)=true)(N:List Nat):cB (cL X false N)=true:=by simp only[cL,cB,aW,(iM N).1,hX N];rfl
theorem bp2{α:Type}(p q:α->T):∀L:List α,kL (L.map p) (L.map q)=L.map λN=>T.tup [p N,q N]
 |[]=>rfl
 |a::L=>by have:=bp2 p q L;unfold kL at this⊢;rw[B8,B8,List.zipWith_cons_cons,this];rfl
def cb1{n:Nat}{ts:List T}(h:∀t∈ts,StepN n t)(hl:ts.length<=10000)(hX:∀N,aW (X N)=true){L:List (List Nat)}(lL:L.length<=1000)(hR:∀N∈L,cY [.lst false (X N),.lst false (wo N ts)]=.ok (.bl true)):qF [.lst false (L.map (cL X false)),.lst false (L.map nT),.lst false ts]=.ok (.bl true):=by
 unfold qF vB;have z1:aW (L.map (cL X false))=true:=fS (λN=>vJ hX N) L;have z2:aW (L.map nT)=true:=(jX L).1;have zp:=bp2 (cL X false) nT L;have hz:frzs ts=ts:=gL λt ht=>(h t ht).st;have lp:∃o3 o4:Option T,cR (eW (bC (aH 3) (bC (aH 4) eZ))) (aM (cF (kX (eO (dS (bN iE (aD (aB 3) (aD (dC (.ty "tuple")) aI))))) (kX (aU (aE mM (bN cI (aD (aB 3) aI)) (dC (.int 2)))) (aU (aE mM (aE aQ (aB 3) (dC (.int 0))) (aB 4))))) (bE [] (dC (.bl false))) bJ) (cF (eO (dS (aX 2 cY (aD (aE aQ (aB 3) (dC (.int 1))) (aD (aX 2 fU (aD (aB 2) (aD (aB 4) aI))) aI))))) (bE [] (dC (.bl false))) bJ)) (L.map λN=>T.tup [cL X false N,nT N]) [some (.lst false (L.map (cL X false))),some (.lst false (L.map nT)),some (.lst false ts),none,none]=.nx [some (.lst false (L.map (cL X false))),some (.lst false (L.map nT)),some (.lst false ts),o3,o4]:=by generalize hL:cR _ _ _ _=o;obtain⟨ρ',rfl,o3,o4,rfl⟩:=gY (λ_ ρ=>∃o3 o4:Option T,ρ=[some (.lst false (L.map (cL X false))),some (.lst false (L.map nT)),some (.lst false ts),o3,o4]) hL ⟨_,_,rfl⟩ (by rintro i t ρ et ⟨o3,o4,rfl⟩;have tm:=C6 et;obtain⟨N,hN,rfl⟩:=K1.mp tm;have kr:=hR N hN;have kw:=bi5 h hl N;obtain⟨nn,nc,nz⟩:=iM N;have cw:bZ (wo N ts)=true:=lG λt ht=>(jY h t ht).st;have zw:frzs (wo N ts)=wo N ts:=gL λt ht=>(jY h t ht).st;have zx:frzs (X N)=X N:=dR _ (hX N);have nx:=hX N;have kn:=eh5 N;have b0:=@iW T;have b1:=@iQ T;have t2:(((2:Nat):Int)==2)=true:=rfl;have no:=fO λt ht=>(h t ht).st;simp only[cL];generalize L.map (cL X false)=L1 at*;generalize L.map nT=L2 at*;clear hL et tm hN hR h z1 z2 zp;walk_at "ev";exact⟨_,_,rfl⟩);exact⟨_,_,rfl⟩
 obtain⟨o3,o4,lp⟩:=lp;have l1:(L.map (cL X false)).length=L.length:=B5 _;have l2:(L.map nT).length=L.length:=B5 _;have tl:((L.length:Int)==(L.length:Int))=true:=W0
 clear h hR hz;walk_at "ev"
end
def cc8{n:Nat}{Y:List Int}(hy:Y.length=n+1)(h0:gy Y n=0){a:T}(h:Pl n a):vX (Y.take n) a=gy Y (pN n a):=by
 rcases h with rfl|⟨i,hi,rfl⟩
 . exact h0.symm
 . simp only[vX,pN,gy,Int.toNat_natCast,List.getD_eq_getElem?_getD,List.getElem?_take_of_lt hi]
def dl9{n:Nat}{Y:List Int}(hy:Y.length=n+1)(h0:gy Y n=0){t:T}(h:StepN n t)(k:Kp (dI n) (cC n) cN Y t):kept (Y.take n) t=true:=by obtain⟨a,b,c,d,rfl,ha,hb,hd⟩:=h;simp only[kept];rw[cc8 hy h0 ha,cc8 hy h0 hb];exact F8 k
def bn6{n:Nat}{ts:List T}(h:∀u∈ts,StepN n u){ys:List Int}(yl:ys.length=n)(n8:n<=8)(hk:∀t∈ts,kept ys t=true):iT [.lst false (ys.map .int),.int (n:Int),.lst false ts]=.ok (.bl true):=by
 unfold iT nZ;have kh:=br9 (ys:=ys) (ts:=ts) (by rw[yl];exact h);have ek:ts.all (kept ys)=true:=J3.mpr hk;rw[ek]at kh;have zs:frzs ts=ts:=gL λt ht=>(h t ht).st;have hc:bY (aH 3) cG (aX 1 iB (aD (aB 3) aI)) [some (.lst false (ys.map .int)),some (.int n),some (.lst false ts),none] (ys.map .int)=.ok (ys.map λ_=>T.bl true):=by refine cW λy _=>?_;have kw:=uT y;clear kh;walk_at "ev"
 have al:=pK true ys;have ll:ys.length<=100000:=V8
 have nn:((n:Int)==(n:Int))=true:=W0
 clear h hk ek n8;subst yl;walk_at "ev"
def fv0(f:Fm):gy (Y0 f) f.n.length=0:=by unfold gy Y0;rw[A6,O9 W0];simp
def ea6{f:Fm}{ss:List Sd}{N:List Nat}{j:Nat}(hj:j<f.n.length):(T.tup [.int j,.non,.int (0-f.a),.non])∈wo N (cP f ss):=by refine O2.mpr ⟨B6 _ (P0.mpr ⟨j,J0.mpr hj,by simp[sp]⟩),?_⟩;unfold kp nm;simp[tK,List.any_eq_false]
def dj8{f:Fm}{ss:List Sd}{N:List Nat}:∀D,Dt (dI f.n.length) (cC f.n.length) cN (wo N (cP f ss)) f.n.length D->∀j,j<=f.n.length->gy (Y0 f) j<=D j:=λD h j hj=>by
 unfold gy Y0;by_cases e:j<f.n.length
 . rw[A6,V2 (by simpa using e),S5,E6 e];have q:=h.2 _ (ea6 (ss:=ss) (N:=N) e);simp only[cC,dI,cN,pN,Int.toNat_natCast]at q;have:=h.1;show f.a-1<=D j;omega
 . have:j=f.n.length:=V8
   subst this;rw[A6,O9 W0,h.1];simp
def do7{f:Fm}(g:Gd f){ss:List Sd}(h:∀s∈ss,SdOk f s)(N:List Nat):∃(w:Str)(xs:List T),gE [bQ false f,.lst false (wo N (cP f ss))]=.ok (.tup [.str w,.lst true xs])/\bZ xs=true/\aW xs=true/\xs.length<=100/\
 ((w="dating"/\iT [.lst false xs,.int (f.n.length:Int),.lst false (wo N (cP f ss))]=.ok (.bl true))\/(w="ring"/\cY [.lst false xs,.lst false (wo N (cP f ss))]=.ok (.bl true)/\∀D:Nat->Int,¬∀t∈wo N (cP f ss),D (cC f.n.length t)<=D (dI f.n.length t)+cN t)):=by
 have n8:=g.n8;have aS:=jY (N:=N) (pM h);have iv:=cp7 aS;have hb:∀t∈wo N (cP f ss),dI f.n.length t<=f.n.length/\cC f.n.length t<=f.n.length:=λt ht=>bl8 (aS t ht);rcases bn7 g aS with⟨hx,e⟩|⟨a0,P,k,hx,r,e⟩
 . have dt:=cq7 iv hx (fv0 f) dj8;have yl:=(bq1 f (wo N (cP f ss)) (f.n.length+1)).1;have tl:((dW f (wo N (cP f ss)) (f.n.length+1)).Y.take f.n.length).length=f.n.length:=by rw[M4];omega
   exact⟨_,_,e,qC _,lW _,by rw[B5,tl];omega,.inl ⟨rfl,bn6 aS tl n8 (λt ht=>dl9 yl dt.1 (aS t ht) (dt.2 t ht))⟩⟩
 . have flat:∀t∈(List.range k).map (dL f.n.length (dW f (wo N (cP f ss)) (f.n.length+1)).R P),StepN f.n.length t:=λt ht=>by obtain⟨m,_,rfl⟩:=K1.mp ht;obtain⟨u,eu,ut,_⟩:=r.df m;unfold dL;rw[ad3 eu];exact aS u ut
   refine⟨_,_,e,lG λt ht=>(flat t ht).st,fO λt ht=>(flat t ht).st,by rw[B5,L5];have:=r.kn;omega,.inr ⟨rfl,co3 aS n8 r,λD hD=>?_⟩⟩;have dt:Dt (dI f.n.length) (cC f.n.length) cN (wo N (cP f ss)) f.n.length (λj=>D j-D f.n.length):=⟨by show D _-D _=0;omega,λt ht=>by have:=hD t ht;show D _-D _<=D _-D _+_;omega⟩;have:=db8 hb iv dt;rw[hx]at this;cases this
theorem br8(m:Nat):∀M N:List Nat,∃es,oO m (M.map λ(k:Nat)=>T.int (k:Int)) (N.map λ(k:Nat)=>T.int (k:Int))=some es
 |[],[]=>⟨_,ak6 m⟩
 |[],_::_=>⟨[],by rw[K2,oO];intros;simp_all⟩
 |_::_,[]=>⟨[],by rw[K2,oO];intros;simp_all⟩
 |k::M,l::N=>by obtain⟨es,e⟩:=br8 m M N;exact⟨_,by rw[B8,B8,sE,xY (.inr ⟨_,rfl⟩) (.inr ⟨_,rfl⟩),e];rfl⟩
theorem cv8{N:List Nat}:∀L:List (List Nat),∃es,rJ (nT N) (L.map nT)=some es/\(N∈L->es.any id=true)
 |[]=>⟨[],rfl,λz=>(nomatch z)⟩
 |M::L=>by
  obtain⟨es,e1,e2⟩:=cv8 (N:=N) L;obtain⟨fs,e3⟩:=br8 5 M N;have e4:pX cU (nT M) (nT N)=some (fs.all id&&(M.map λ(k:Nat)=>T.int (k:Int)).length==(N.map λ(k:Nat)=>T.int (k:Int)).length):=by show pX (5+1) _ _=_;unfold nT;rw[bk1,e3];rfl
  refine⟨_,by rw[B8,rJ,e4,e1];rfl,λhm=>?_⟩;rw[List.any_cons];rcases B9.mp hm with rfl|hm
  . have:=dy4 5 N;have e5:pX cU (nT N) (nT N)=some true:=this;rw[e5]at e4;have:=E8 e4;rw[<-this];rfl
  . rw[e2 hm,Bool.or_true]
def dt9{N:List Nat}{L:List (List Nat)}(h:N∈L)(o:Bool):inT true (nT N) (.lst o (L.map nT))=.ok (.bl false):=by obtain⟨es,e1,e2⟩:=cv8 (N:=N) L;rw[inT.eq_1,e1];simp[e2 h]
def lt'(M N:List Nat):Bool:=HT.lexLt (M.map λ(k:Nat)=>(k:Int)) (N.map λ(k:Nat)=>(k:Int))
def ev6(M N:List Nat):ai1 (nT M) (nT N)=.ok (.bl (lt' M N)):=by
 have e:∀N,nT N=.tup ((N.map λ(k:Nat)=>(k:Int)).map .int):=λN=>by unfold nT;rw[G5];rfl
 rw[e,e,ee9];rfl
def ee4:∀m,m<=12->(T1 m).Pairwise (λa b=>lt' b a=false)/\(T2 m).Pairwise (λa b=>lt' b a=false):=by
 intro m hm;have:∀m,m<13->(T1 m).Pairwise (λa b=>lt' b a=false)/\(T2 m).Pairwise (λa b=>lt' b a=false):=V9
 exact this m V8
theorem cg1:∀N:List Nat,lt' N N=false
 |[]=>rfl
 |k::N=>by have:=cg1 N;unfold lt' at this⊢;rw[B8,HT.lexLt_cons,E6 rfl];exact this
def do3{L P R:List (List Nat)}{N M:List Nat}(hp:L.Pairwise (λa b=>lt' b a=false))(e:L=P++N::R)(hM:M∈L)(hl:lt' M N=true):M∈P:=by
 subst e;rcases A3.mp hM with q|q
 . exact q
 . rw[List.pairwise_append,List.pairwise_cons]at hp;rcases B9.mp q with rfl|q
   . rw[cg1]at hl;cases hl
   . have:=hp.2.1.1 M q;rw[this]at hl;cases hl
def dr0(m:Nat):(∀N∈T1 m,N.length=1)/\∀N∈T2 m,N.length=2:=
 ⟨λN h=>by obtain⟨i,_,rfl⟩:=cb8 h;rfl,λN h=>by obtain⟨i,j,_,_,rfl⟩:=ch6 h;rfl⟩
def de9{α:Type}{p:α->Bool}{l:List α}(h:∀x∈l,p x=true):l.filter p=l:=List.filter_eq_self.mpr h
def ab4{α:Type}{p:α->Bool}{l:List α}(h:∀x∈l,p x=false):l.filter p=[]:=List.filter_eq_nil_iff.mpr λx hx=>by rw[h x hx];decide
def Plc(m:Nat)(Sm L:List (List Nat)):Prop:=(Sm=[]/\L=[[]])\/(Sm=[[]]/\L=T1 m)\/(Sm=[[]]++T1 m/\L=T2 m)
def di1{m:Nat}{Sm L:List (List Nat)}(h:Plc m Sm L){N:List Nat}(hN:N∈L):(kR m).filter (λM=>decide (M.length<N.length))=Sm/\(∀M∈kR m,M.length=N.length->M∈L)/\N∈kR m:=by
 obtain⟨t1,t2⟩:=dr0 m;unfold kR;rw[List.filter_append,List.filter_append];rcases h with⟨rfl,rfl⟩|⟨rfl,rfl⟩|⟨rfl,rfl⟩
 . rw[C5.mp hN];refine⟨?_,λM hM e=>?_,W0⟩
   . rw[ab4 (l:=T1 m) W0,ab4 (l:=T2 m) W0];simp
   . rcases A3.mp hM with q|q
     . rcases A3.mp q with q|q
       . exact q
       . have:=t1 M q;simp at e;rw[e]at this;cases this
     . have:=t2 M q;simp at e;rw[e]at this;cases this
 . have l1:=t1 N hN;refine⟨?_,λM hM e=>?_,D7 _ (B6 _ hN)⟩
   . rw[l1,ab4 (l:=T1 m) (λx hx=>by rw[t1 x hx];rfl),ab4 (l:=T2 m) (λx hx=>by rw[t2 x hx];rfl)];simp
   . rw[l1]at e;rcases A3.mp hM with q|q
     . rcases A3.mp q with q|q
       . rw[C5.mp q]at e;cases e
       . exact q
     . rw[t2 M q]at e;cases e
 . have l2:=t2 N hN;refine⟨?_,λM hM e=>?_,B6 _ hN⟩
   . rw[l2,de9 (l:=T1 m) (λx hx=>by rw[t1 x hx];rfl),ab4 (l:=T2 m) (λx hx=>by rw[t2 x hx];rfl)];simp
   . rw[l2]at e;rcases A3.mp hM with q|q
     . rcases A3.mp q with q|q
       . rw[C5.mp q]at e;cases e
       . rw[t1 M q]at e;cases e
     . exact q
def dx9{m:Nat}(hm:m<=12){Sm L:List (List Nat)}(h:Plc m Sm L):L.Pairwise (λa b=>lt' b a=false):=by
 rcases h with⟨_,rfl⟩|⟨_,rfl⟩|⟨_,rfl⟩
 . simp
 . exact(ee4 m hm).1
 . exact(ee4 m hm).2
def be7(N:List Nat):cI [nT N]=.ok (.int (N.length:Int)):=by unfold nT;rw[ca3,B5]
def ea3(N:List Nat):iE [nT N,.ty "tuple"]=.ok (.bl true):=by unfold nT;rw[cl1]
def eq8(N:List Nat):jG (nT N)=.ok (N.map λ(k:Nat)=>T.int (k:Int)):=by unfold nT;rw[du4,E6 (fS (λ_=>rfl) _)]
def du9{α:Type}(o:Bool)(l:List α):jU true [.lst o (l.map λ_=>T.bl false)]=.ok (.bl false):=by
 have e:(l.map λ_=>T.bl false)=(l.map λ_=>false).map T.bl:=by rw[G5];rfl
 rw[e];simp only[jU,yF];simp
section
variable{W:List Nat->Str}{X:List Nat->List T}{n m:Nat}{S:List T}
def cs1(hm:m<=12):(kR m).length<=120:=by obtain⟨l1,l2⟩:=bh5 m hm;unfold kR;rw[E7,E7];simp;omega
def cz0(hm:m<=12):bS (.lst true ([[]].map nT)) (.lst true ((T1 m).map nT))=.ok (.lst true (([[]]++T1 m).map nT))/\bS (.lst true (([[]]++T1 m).map nT)) (.lst true ((T2 m).map nT))=.ok (.lst true ((kR m).map nT)):=by
 obtain⟨l1,l2⟩:=bh5 m hm;have hz:=D9;refine⟨?_,?_⟩
 . rw[ai8,gH ⟨by rw[(jX _).1,(jX _).1];rfl,by rw[B5,B5];simp;omega⟩,G0]
 . rw[ai8,gH ⟨by rw[(jX _).1,(jX _).1];rfl,by rw[B5,B5,E7];simp;omega⟩];unfold kR;rw[G0 (l₁:=[[]]++T1 m)]
def cb3(h:∀t∈S,StepN n t)(hl:S.length<=10000)(hm:m<=12)(hX:∀N,aW (X N)=true)(hR:∀M∈kR m,cY [.lst false (X M),.lst false (wo M S)]=.ok (.bl true)):gJ [.tup [.str "more",.lst false ((kR m).map (cL X false))],.lst false S,.int (n:Int),.int (m:Int)]=.ok (.bl true):=by
 unfold gJ qA;have k0:=cg6 (m:Int);have k1:=cm7 (m:=m) V8;have k2:=co5 (m:=m) V8;obtain⟨a1,a2⟩:=cz0 hm;have c0:=(jX [[]]).2.1;have c1:=(jX (T1 m)).2.1;have c2:=(jX (T2 m)).2.1;have zd:=(jX (kR m)).2.2;have hz:frzs S=S:=gL λt ht=>(h t ht).st;have kr:=cb1 h hl hX (L:=kR m) (by have:=cs1 hm;omega) hR;have zp:frzs ((kR m).map (cL X false))=(kR m).map (cL X false):=dR _ (fS (λN=>vJ hX N) _);have b0:=@iW T;have b1:=@iQ T;have e1:(("more":Str)==("more":Str))=true:=W1
 have t2:(((2:Nat):Int)==2)=true:=rfl;clear h hR hm hX;generalize [[]].map nT=D0 at*;generalize([[]]++T1 m).map nT=D01 at*;generalize(T1 m).map nT=D1 at*;generalize(T2 m).map nT=D2 at*;generalize(kR m).map nT=DD at*;walk_at "ev"
end
section
variable{X:List Nat->List T}{n m:Nat}{S:List T}{Sm L P R:List (List Nat)}{N:List Nat}
def cg4(h:∀t∈S,StepN n t)(hl:S.length<=10000)(n8:n<=8)(hm:m<=12)(hX:∀N,aW (X N)=true)(hp:Plc m Sm L)(eL:L=P++N::R)(hS:∀M∈Sm,cY [.lst false (X M),.lst false (wo M S)]=.ok (.bl true))(hP:∀M∈P,∀D:Nat->Int,¬∀t∈wo M S,D (cC n t)<=D (dI n t)+cN t)(kd:iT [.lst false (X N),.int (n:Int),.lst false (wo N S)]=.ok (.bl true)):
 gJ [.tup [.str "drop",nT N,.lst false (X N),.lst false (Sm.map (cL X false))],.lst false S,.int (n:Int),.int (m:Int)]=.ok (.bl true):=by
 unfold gJ qA;have hN:N∈L:=by rw[eL];simp
 obtain⟨eS,hsame,hd⟩:=di1 hp hN;have k0:=cg6 (m:Int);have k1:=cm7 (m:=m) V8;have k2:=co5 (m:=m) V8;obtain⟨a1,a2⟩:=cz0 hm;have c0:=(jX [[]]).2.1;have c1:=(jX (T1 m)).2.1;have c2:=(jX (T2 m)).2.1;have zd:=(jX (kR m)).2.2;have nd:=(jX (kR m)).1;have hz:frzs S=S:=gL λt ht=>(h t ht).st;have no:=fO λt ht=>(h t ht).st;have ld:=cs1 hm;have lS:Sm.length<=120:=by rw[<-eS];exact J2 (List.length_filter_le _ _) ld
 have kr:=cb1 h hl hX (L:=Sm) V8 hS;have zp:frzs (Sm.map (cL X false))=Sm.map (cL X false):=dR _ (fS (λN=>vJ hX N) _);have zs:=(jX Sm).2.2;obtain⟨nn,nc,nz⟩:=iM N;have kw:=bi5 h hl N;have cw:bZ (wo N S)=true:=lG λt ht=>(jY h t ht).st;have zw:frzs (wo N S)=wo N S:=gL λt ht=>(jY h t ht).st;have zx:frzs (X N)=X N:=dR _ (hX N);have ki:=dt9 hd true;have li:=be7 N;have ii:=ea3 N;have it:=eq8 N;have b0:=@iW T;have b1:=@iQ T;have b2:=@nW T;have b3:=@tF T;have e1:(("drop":Str)==("more":Str))=false:=W1
 have e2:(("drop":Str)==("drop":Str))=true:=W1
 have t4:((4:Int)==4)=true:=rfl;obtain⟨Fd,hF⟩:∃Fd,T.tup [.str "drop",nT N,.lst false (X N),.lst false (Sm.map (cL X false))]=Fd:=⟨_,rfl⟩;have f0:aQ Fd (.int 0)=.ok (.str "drop"):=by rw[<-hF,vD,iW]
 have f1:aQ Fd (.int 1)=.ok (nT N):=by rw[<-hF,vD,iQ]
 have f2:aQ Fd (.int 2)=.ok (.lst false (X N)):=by rw[<-hF,vD,nW]
 have f3:aQ Fd (.int 3)=.ok (.lst false (Sm.map (cL X false))):=by rw[<-hF,vD,tF]
 have f4:cI [Fd]=.ok (.int 4):=by rw[<-hF,ca3];rfl
 rw[hF];have h7:∀a4 a5 a6 a8:Option T,bY (aH 7) cG (aX 1 iB (aD (aB 7) aI)) [some Fd,some (.lst false S),some (.int (n:Int)),some (.int (m:Int)),a4,a5,a6,none,a8] (N.map λ(k:Nat)=>T.int (k:Int))=.ok (N.map λ_=>T.bl true):=λa4 a5 a6 a8=>by refine cW λk _=>?_;have kw:=uT (k:Int);clear hF f0 f1 f2 f3 f4 k0 k1 k2 kr kd hS hP h;walk_at "ev"
 have al:=pK true N;have h5:∀a4 a5 a6 a7:Option T,bY (aH 8) (aU (aE vN (bN cI (aD (aB 8) aI)) (bN cI (aD (aE aQ (aB 0) (dC (.int 1))) aI)))) (aP (aB 8)) [some Fd,some (.lst false S),some (.int (n:Int)),some (.int (m:Int)),a4,a5,a6,a7,none] ((kR m).map nT)=.ok (Sm.map nT):=λa4 a5 a6 a7=>by
  rw[<-eS];refine pD λM _=>?_;have lM:=be7 M;have nM:=(iM M).1;have ed:decide ((M.length:Int)<(N.length:Int))=decide (M.length<N.length):=W0
  clear hF f0 f2 f3 f4 k0 k1 k2 kr kd hS hP h eS;refine⟨?_,λ_=>?_⟩<;>walk_at "ev"
 have h6:∀a4 a5 a6 a7:Option T,bY (aH 8) (jT (aU (aE eV (bN cI (aD (aB 8) aI)) (bN cI (aD (aE aQ (aB 0) (dC (.int 1))) aI)))) (aU (aE ai1 (aB 8) (aE aQ (aB 0) (dC (.int 1)))))) (aP (aB 8)) [some Fd,some (.lst false S),some (.int (n:Int)),some (.int (m:Int)),a4,a5,a6,a7,none] ((kR m).map nT)=.ok (((kR m).filter λM=>((M.length:Int)==(N.length:Int))&&lt' M N).map nT):=λa4 a5 a6 a7=>by
  refine pD λM _=>?_;have lM:=be7 M;have nM:=(iM M).1;have kl:=ev6 M N;generalize ai1=LT at*;clear hF f0 f2 f3 f4 k0 k1 k2 kr kd hS hP h eS h5 h7;refine⟨?_,λ_=>?_⟩
  . cases q:((M.length:Int)==(N.length:Int))<;>walk_at "ev"
  . walk_at "ev"
 obtain⟨A,hA⟩:∃A,(kR m).filter (λM=>((M.length:Int)==(N.length:Int))&&lt' M N)=A:=⟨_,rfl⟩;have hAP:∀M∈A,M∈P:=λM hM=>by rw[<-hA]at hM;obtain⟨q1,q2⟩:=O2.mp hM;obtain⟨q2,q3⟩:=Bool.and_eq_true_iff.mp q2;exact do3 (dx9 hm hp) eL (hsame M q1 (by have:=Q5.mp q2;omega)) q3
 have lA:A.length<=120:=by rw[<-hA];exact J2 (List.length_filter_le _ _) ld
 rw[hA]at h6;have nA:=(jX A).1;have h8:∀a4 a5 a6 a7:Option T,bY (aH 8) cG (aX 2 oR (aD (aX 2 fU (aD (aB 1) (aD (aB 8) aI))) (aD (aB 2) aI))) [some Fd,some (.lst false S),some (.int (n:Int)),some (.int (m:Int)),a4,a5,a6,a7,none] (A.map nT)=.ok (A.map λ_=>T.bl false):=λa4 a5 a6 a7=>by refine cW λM hM=>?_;have kw:=bi5 h hl M;have kb:=dc4 (jY h) n8 (hP M (hAP M hM));obtain⟨mn,mc,mz⟩:=iM M;have cw:bZ (wo M S)=true:=lG λt ht=>(jY h t ht).st;have zw:frzs (wo M S)=wo M S:=gL λt ht=>(jY h t ht).st;clear hF f0 f1 f2 f3 f4 k0 k1 k2 kr kd hS hP h eS h5 h6 h7 hA hAP;walk_at "ev"
 have an:=du9 true A;have s1:Sm.length<=sizeLine:=by have:=D9;omega
 have s2:A.length<=sizeLine:=by have:=D9;omega
 have s3:(kR m).length<=sizeLine:=by have:=D9;omega
 have s4:N.length<=sizeLine:=by
  have:N.length<=2:=by
   rcases hp with⟨_,rfl⟩|⟨_,rfl⟩|⟨_,rfl⟩
   . rw[C5.mp hN];simp
   . rw[(dr0 m).1 N hN];omega
   . rw[(dr0 m).2 N hN];omega
  have:=D9;omega
 have ls1:(Sm.map nT).length=Sm.length:=B5 _;have ls2:(A.map nT).length=A.length:=B5 _;have ls3:((kR m).map nT).length=(kR m).length:=B5 _;clear h hS hP hX hp eL hN eS hsame hd hA hAP hF ld lS lA b0 b1 b2 b3;generalize [[]].map nT=D0 at*;generalize([[]]++T1 m).map nT=D01 at*;generalize(T1 m).map nT=D1 at*;generalize(T2 m).map nT=D2 at*;generalize(kR m).map nT=DD at*;generalize A.map nT=AA at*;generalize Sm.map nT=SS at*;walk_at "ev"
end
section
variable{X:List Nat->List T}{n:Nat}{S:List T}
def lB(X:List Nat->List T)(o:Bool):List (List Nat)->List T
 |[]=>[]
 |M::Q=>.tup [nT M,.lst o []]::Q.map (cL X o)
def bu3(Q:List (List Nat)):at6 (Q.map (cL X true))=some (lB X true Q):=by cases Q<;>rfl
theorem dy3(hX:∀N,aW (X N)=true)(o:Bool)(N:List Nat):frz (cL X o N)=cL X false N:=by simp only[cL,frz,frzs,(iM N).2.2,dR _ (hX N)]
theorem oX(hX:∀N,aW (X N)=true)(o:Bool):∀Q:List (List Nat),frzs (Q.map (cL X o))=Q.map (cL X false)
 |[]=>rfl
 |N::Q=>by simp only[List.map_cons,frzs,dy3 hX,oX hX o Q]
theorem by2(hX:∀N,aW (X N)=true)(Q:List (List Nat)):frzs (lB X true Q)=lB X false Q:=by
 cases Q with
 |nil=>rfl
 |cons M Q=>simp only[lB,frzs,frz,(iM M).2.2,oX hX]
theorem bm9(hX:∀N,aW (X N)=true)(Q:List (List Nat)):aW (lB X false Q)=true:=by
 cases Q with
 |nil=>rfl
 |cons M Q=>have:=fS (λN=>vJ hX N) Q;simp only[lB,aW,cB,(iM M).1,this];rfl
theorem cq6(Q:List (List Nat)):iI (lB X false Q) (some 1) none=Q.tail.map (cL X false):=by
 cases Q with
 |nil=>rfl
 |cons M Q=>unfold iI lB;simp[HT.sIx];exact N8 W0
def cv2(h:∀t∈S,StepN n t)(hl:S.length<=10000)(hX:∀N,aW (X N)=true){Q:List (List Nat)}(hR:∀M∈Q,cY [.lst false (X M),.lst false (wo M S)]=.ok (.bl true))(a0 a1 a2 a3 a4 a5 a6 a8 a11 a12:Option T):
 bY (eW (bC (aH 9) (bC (aH 10) eZ))) cG (aX 2 cY (aD (aB 10) (aD (aX 2 fU (aD (aB 7) (aD (aB 9) aI))) aI))) [a0,a1,a2,a3,a4,a5,a6,some (.lst true S),a8,none,none,a11,a12] (Q.map (cL X false))=.ok (Q.map λ_=>T.bl true):=by
 refine lZ λM hM=>?_;have kr:=hR M hM;have kw:=bi5 h hl M;obtain⟨nn,nc,nz⟩:=iM M;have cw:bZ (wo M S)=true:=lG λt ht=>(jY h t ht).st;have zw:frzs (wo M S)=wo M S:=gL λt ht=>(jY h t ht).st;have hz:frzs S=S:=gL λt ht=>(h t ht).st;have zx:frzs (X M)=X M:=dR _ (hX M);have bt:eW (bC (aH 9) (bC (aH 10) eZ)) (cL X false M) [a0,a1,a2,a3,a4,a5,a6,some (.lst true S),a8,none,none,a11,a12]=some [a0,a1,a2,a3,a4,a5,a6,some (.lst true S),a8,some (nT M),some (.lst false (X M)),a11,a12]:=rfl;rw[bt];clear h hR hX hM bt;walk_at "ev"
end
noncomputable abbrev kZ:Fr->Res T:=bN (jU false) (aD (dF [9,10] (gG jG (vY rQ (aE aQ (aB 8) (fV nR (dC (.int 1)))) (kK (dC (.int 1))) lD)) (eW (bC (aH 9) (bC (aH 10) eZ))) cG (aX 2 cY (aD (aB 10) (aD (aX 2 fU (aD (aB 7) (aD (aB 9) aI))) aI)))) aI)
section
variable{X:List Nat->List T}{n:Nat}{S:List T}
def dm1(w:Str)(Q:List (List Nat))(a0 a1 a2 a3 a4 a5 a6 a7 a11 a12:Option T):sF 8 9 10 [a0,a1,a2,a3,a4,a5,a6,a7,some (.tup [.str w,.lst true (Q.map (cL X true))]),none,none,a11,a12]=.nx [a0,a1,a2,a3,a4,a5,a6,a7,some (.tup [.str w,.lst true (lB X true Q)]),none,none,a11,a12]:=by
 have e:=bu3 (X:=X) Q;have u:sF 8 9 10 [a0,a1,a2,a3,a4,a5,a6,a7,some (.tup [.str w,.lst true (Q.map (cL X true))]),none,none,a11,a12]=(match at6 (Q.map (cL X true))with
  |some us'=>.nx [a0,a1,a2,a3,a4,a5,a6,a7,some (.tup [.str w,.lst true us']),none,none,a11,a12]
  |none=>.no):=rfl
 rw[u,e]
def dn1(N:List Nat)(Q:List (List Nat))(a0 a1 a2 a3 a4 a5 a6 a7 a11 a12:Option T):sF 8 9 10 [a0,a1,a2,a3,a4,a5,a6,a7,some (.tup [.str "drop",nT N,.lst true (X N),.lst true (Q.map (cL X true))]),none,none,a11,a12]=.nx [a0,a1,a2,a3,a4,a5,a6,a7,some (.tup [.str "drop",nT N,.lst true (X N),.lst true (lB X true Q)]),none,none,a11,a12]:=by
 have e:=bu3 (X:=X) Q;have u:sF 8 9 10 [a0,a1,a2,a3,a4,a5,a6,a7,some (.tup [.str "drop",nT N,.lst true (X N),.lst true (Q.map (cL X true))]),none,none,a11,a12]=(match at6 (Q.map (cL X true))with
  |some us'=>.nx [a0,a1,a2,a3,a4,a5,a6,a7,some (.tup [.str "drop",nT N,.lst true (X N),.lst true us']),none,none,a11,a12]
  |none=>.no):=rfl
 rw[u,e]
def cm1(h:∀t∈S,StepN n t)(hl:S.length<=10000)(hX:∀N,aW (X N)=true){Q:List (List Nat)}(lQ:Q.length<=1000)(hR:∀M∈Q,cY [.lst false (X M),.lst false (wo M S)]=.ok (.bl true)){Fd:T}(hF:aQ (frz Fd) (.int (-1))=.ok (.lst false (lB X false Q)))(a0 a1 a2 a3 a4 a5 a6 a11 a12:Option T):
 aa2 8 kZ [a0,a1,a2,a3,a4,a5,a6,some (.lst true S),some Fd,none,none,a11,a12]=.ok (.bl true):=by
 have nq:=bm9 hX Q;have cq:=cq6 (X:=X) Q;have hc:=λa8=>cv2 h hl hX (Q:=Q.tail) (λM hM=>hR M (List.mem_of_mem_tail hM)) a0 a1 a2 a3 a4 a5 a6 a8 a11 a12;have al:=pK true Q.tail;have np:=fS (λN=>vJ hX N) Q.tail;have lt:(Q.tail.map (cL X false)).length<=sizeLine:=by rw[B5,List.length_tail];have:=D9;omega
 have lt2:Q.tail.length<=sizeLine:=by rw[B5]at lt;exact lt
 have ef:yZ 8 [a0,a1,a2,a3,a4,a5,a6,some (.lst true S),some Fd,none,none,a11,a12]=[a0,a1,a2,a3,a4,a5,a6,some (.lst true S),some (frz Fd),none,none,a11,a12]:=rfl;have v:kZ [a0,a1,a2,a3,a4,a5,a6,some (.lst true S),some (frz Fd),none,none,a11,a12]=.ok (.bl true):=by generalize frz Fd=Fz at*;unfold kZ;clear h hR hX ef;walk_at "ev"
 simp only[aa2,ef,v]
end
noncomputable abbrev zA:Fr->bO:=gN 8 [] (pIx 8 cO (fV nR (dC (.int 1)))) (dC .non)
noncomputable abbrev zB:Fr->bO:=gN 8 [] (pIx 8 cO (dC (.int 2))) (dC (.int 0))
noncomputable abbrev zT2:Fr->bO:=(aM (sF 8 9 10) (aM (cF (eO (dS (aa2 8 kZ))) (bE [] (dC (.bl false))) bJ) (aM (cF (aU (aE vW (bN cI (aD (aB 4) aI)) (dC (.int 8)))) (bE [] (dC (.bl true))) bJ) (aM (aY [] (aP (aE aQ (aB 8) (dC (.int 0)))) (aH 11)) (aM (aY [] (cD aI) (aH 9)) (aM (cF (aU (aE eV (aB 11) (dC (.str "drop")))) (aM (aY [] (aP (aE aQ (aB 8) (dC (.int 1)))) (aH 9)) zB) bJ) (aM zA (aM (aY [] (aX 2 dX (aD (aB 5) (aD (aB 6) aI))) (aH 12)) (aM (cF (kX (aU (aE mM (aE aQ (aB 12) (dC (.int 0))) (aB 11))) (jT (aU (aE eV (aB 11) (dC (.str "drop")))) (aU (aE mM (aE aQ (aB 12) (dC (.int 1))) (aB 9))))) (bE [] (dC (.bl false))) bJ) (bE [] (aX 4 gJ (aD (aB 12) (aD (aB 7) (aD (bN cI (aD (aE aQ (aB 1) (dC (.int 2))) aI)) (aD (bN cI (aD (aB 4) aI)) aI)))))))))))))))
def dv9(w:Str)(us:List T)(hl:us.length<sizeLine)(a0 a1 a2 a3 a4 a5 a6 a7 a9 a10 a11 a12:Option T):zA [a0,a1,a2,a3,a4,a5,a6,a7,some (.tup [.str w,.lst true us]),a9,a10,a11,a12]=.nx [a0,a1,a2,a3,a4,a5,a6,a7,some (.tup [.str w,.lst true (us++[.non])]),a9,a10,a11,a12]:=by have e:pIx 8 cO (fV nR (dC (.int 1))) [a0,a1,a2,a3,a4,a5,a6,a7,some (.tup [.str w,.lst true us]),a9,a10,a11,a12]=.ok [1]:=rfl;have q:eX [1] (.tup [.str w,.lst true us])=some (.lst true us):=rfl;simp only[zA,gN,List.getElem?_cons_succ,List.getElem?_cons_zero,e,q,dC,hl,if_true,kills];rfl
section
variable{X:List Nat->List T}{f:Fm}{ss:List Sd}
theorem uO(hc:∀N,bZ (X N)=true)(Q:List (List Nat)):bZ (Q.map (cL X true))=true:=jI (λN=>by simp only[cL,cM,bZ,(iM N).2.1,hc N];rfl) Q
theorem bi6(o:Bool)(Q:List (List Nat)):(lB X o Q).length=Q.length:=by
 cases Q with
 |nil=>rfl
 |cons M Q=>simp[lB]
theorem ca7(g:Gd f)(h:∀s∈ss,SdOk f s)(hl:ss.length<=12)(hX:∀N,aW (X N)=true)(hc:∀N,bZ (X N)=true){Q:List (List Nat)}(lQ:Q.length<=1000)(hR:∀M∈Q,cY [.lst false (X M),.lst false (wo M (cP f ss))]=.ok (.bl true))(kf:dX [bQ false f,.lst false (ss.map (dG false f))]=.ok (.tup [.str "more",.lst true (Q.map (cL X true))]))(kr:gJ [.tup [.str "more",.lst false (Q.map (cL X false))],.lst false (cP f ss),.int (f.n.length:Int),.int (ss.length:Int)]=.ok (.bl true))(a0 a2 a3:Option T):
 zT2 [a0,some (eY true f),a2,a3,some (.lst true (ss.map (gK false))),some (bQ true f),some (.lst true (ss.map (dG false f))),some (.lst true (cP f ss)),some (.tup [.str "more",.lst true (Q.map (cL X true))]),none,none,none,none]=.rt (.bl true):=by
 have aS:=pM h;have c1:=dm1 (X:=X) "more" Q a0 (some (eY true f)) a2 a3 (some (.lst true (ss.map (gK false)))) (some (bQ true f)) (some (.lst true (ss.map (dG false f)))) (some (.lst true (cP f ss))) none none;have hF:aQ (frz (.tup [.str "more",.lst true (lB X true Q)])) (.int (-1))=.ok (.lst false (lB X false Q)):=by simp only[frz,frzs,by2 hX];rfl
 have c2:=cm1 aS (aw4 g V8) hX lQ hR hF a0 (some (eY true f)) a2 a3 (some (.lst true (ss.map (gK false)))) (some (bQ true f)) (some (.lst true (ss.map (dG false f)))) none none;have c3:=λa9 a10 a11 a12=>dv9 "more" (lB X true Q) (by rw[bi6];have:=D9;omega) a0 (some (eY true f)) a2 a3 (some (.lst true (ss.map (gK false)))) (some (bQ true f)) (some (.lst true (ss.map (dG false f)))) (some (.lst true (cP f ss))) a9 a10 a11 a12;have zq:=oX hX true Q;have cq:=uO hc Q;have ar:=jD true f;have zo:=rG false f ss;have zS:frzs (cP f ss)=cP f ss:=gL (vM f ss);have f2:aQ (eY true f) (.int 2)=.ok (.lst true (f.n.map .str)):=by simp only[eY,vD,nW]
 have b0:=@iW T;have e1:(("more":Str)==("drop":Str))=false:=W1
 have e2:(("more":Str)==("more":Str))=true:=W1
 have sz0:0<=sizeLine:=L7 _;unfold zT2;generalize aa2 8 kZ=ZZ at*;generalize zA=ZA at*;clear aS hF hR hX hc h g lQ;generalize Q.map (cL X true)=QT at*;generalize Q.map (cL X false)=QF at*;generalize lB X true Q=QC at*;generalize cP f ss=S at*;cases e8:decide (8<(ss.length:Int))with
 |true=>walk_at "ev"
 |false=>walk_at "ev"
end
def ee3(N:List Nat)(xs us:List T)(hl:xs.length<sizeLine)(a0 a1 a2 a3 a4 a5 a6 a7 a9 a10 a11 a12:Option T):zB [a0,a1,a2,a3,a4,a5,a6,a7,some (.tup [.str "drop",nT N,.lst true xs,.lst true us]),a9,a10,a11,a12]=.nx [a0,a1,a2,a3,a4,a5,a6,a7,some (.tup [.str "drop",nT N,.lst true (xs++[.int 0]),.lst true us]),a9,a10,a11,a12]:=by have e:pIx 8 cO (dC (.int 2)) [a0,a1,a2,a3,a4,a5,a6,a7,some (.tup [.str "drop",nT N,.lst true xs,.lst true us]),a9,a10,a11,a12]=.ok [2]:=rfl;have q:eX [2] (.tup [.str "drop",nT N,.lst true xs,.lst true us])=some (.lst true xs):=rfl;simp only[zB,gN,List.getElem?_cons_succ,List.getElem?_cons_zero,e,q,dC,hl,if_true,kills];rfl
def ds9(N:List Nat)(xs us:List T)(hl:us.length<sizeLine)(a0 a1 a2 a3 a4 a5 a6 a7 a9 a10 a11 a12:Option T):zA [a0,a1,a2,a3,a4,a5,a6,a7,some (.tup [.str "drop",nT N,.lst true xs,.lst true us]),a9,a10,a11,a12]=.nx [a0,a1,a2,a3,a4,a5,a6,a7,some (.tup [.str "drop",nT N,.lst true xs,.lst true (us++[.non])]),a9,a10,a11,a12]:=by have e:pIx 8 cO (fV nR (dC (.int 1))) [a0,a1,a2,a3,a4,a5,a6,a7,some (.tup [.str "drop",nT N,.lst true xs,.lst true us]),a9,a10,a11,a12]=.ok [3]:=rfl;have q:eX [3] (.tup [.str "drop",nT N,.lst true xs,.lst true us])=some (.lst true us):=rfl;simp only[zA,gN,List.getElem?_cons_succ,List.getElem?_cons_zero,e,q,dC,hl,if_true,kills];rfl
section
variable{X:List Nat->List T}{f:Fm}{ss:List Sd}
theorem tail_drop(g:Gd f)(h:∀s∈ss,SdOk f s)(hl:ss.length<=12)(hX:∀N,aW (X N)=true)(hc:∀N,bZ (X N)=true)(hx:∀N,(X N).length<=100){Q:List (List Nat)}{N:List Nat}(lQ:Q.length<=1000)(hR:∀M∈Q,cY [.lst false (X M),.lst false (wo M (cP f ss))]=.ok (.bl true))(kf:dX [bQ false f,.lst false (ss.map (dG false f))]=.ok (.tup [.str "drop",nT N,.lst true (X N),.lst true (Q.map (cL X true))]))(kr:gJ [.tup [.str "drop",nT N,.lst false (X N),.lst false (Q.map (cL X false))],.lst false (cP f ss),.int (f.n.length:Int),.int (ss.length:Int)]=.ok (.bl true))(a0 a2 a3:Option T):
 zT2 [a0,some (eY true f),a2,a3,some (.lst true (ss.map (gK false))),some (bQ true f),some (.lst true (ss.map (dG false f))),some (.lst true (cP f ss)),some (.tup [.str "drop",nT N,.lst true (X N),.lst true (Q.map (cL X true))]),none,none,none,none]=.rt (.bl true):=by
 have aS:=pM h;obtain⟨nn,nc,nz⟩:=iM N;have zx:frzs (X N)=X N:=dR _ (hX N);have c1:=dn1 (X:=X) N Q a0 (some (eY true f)) a2 a3 (some (.lst true (ss.map (gK false)))) (some (bQ true f)) (some (.lst true (ss.map (dG false f)))) (some (.lst true (cP f ss))) none none;have hF:aQ (frz (.tup [.str "drop",nT N,.lst true (X N),.lst true (lB X true Q)])) (.int (-1))=.ok (.lst false (lB X false Q)):=by simp only[frz,frzs,by2 hX];rfl
 have c2:=cm1 aS (aw4 g V8) hX lQ hR hF a0 (some (eY true f)) a2 a3 (some (.lst true (ss.map (gK false)))) (some (bQ true f)) (some (.lst true (ss.map (dG false f)))) none none;have hz:=D9;have c3:=λa9 a10 a11 a12=>ee3 N (X N) (lB X true Q) (by have:=hx N;omega) a0 (some (eY true f)) a2 a3 (some (.lst true (ss.map (gK false)))) (some (bQ true f)) (some (.lst true (ss.map (dG false f)))) (some (.lst true (cP f ss))) a9 a10 a11 a12;have c4:=λa9 a10 a11 a12=>ds9 N (X N++[.int 0]) (lB X true Q) (by rw[bi6];omega) a0 (some (eY true f)) a2 a3 (some (.lst true (ss.map (gK false)))) (some (bQ true f)) (some (.lst true (ss.map (dG false f)))) (some (.lst true (cP f ss))) a9 a10 a11 a12;have zq:=oX hX true Q;have cq:=uO hc Q;have cx:=hc N;have kn:=eh5 N;have ar:=jD true f;have zo:=rG false f ss;have zS:frzs (cP f ss)=cP f ss:=gL (vM f ss);have f2:aQ (eY true f) (.int 2)=.ok (.lst true (f.n.map .str)):=by simp only[eY,vD,nW]
 have b0:=@iW T;have b1:=@iQ T;have e2:(("drop":Str)==("drop":Str))=true:=W1
 have sz0:0<=sizeLine:=L7 _;unfold zT2;generalize aa2 8 kZ=ZZ at*;generalize zA=ZA at*;generalize zB=ZB at*;clear aS hF hR hX hc hx h g lQ hz;generalize Q.map (cL X true)=QT at*;generalize Q.map (cL X false)=QF at*;generalize lB X true Q=QC at*;generalize cP f ss=S at*;generalize X N=XN at*;cases e8:decide (8<(ss.length:Int))with
 |true=>walk_at "ev"
 |false=>walk_at "ev"
end
noncomputable abbrev zT1:Fr->bO:=(aM (aY [] (aX 2 dX (aD (aB 5) (aD (aB 6) aI))) (aH 8)) (aM (cF (kX (eO (dS (bN iE (aD (aB 8) (aD (dC (.ty "tuple")) aI))))) (eO (dS (aX 4 gJ (aD (aB 8) (aD (aB 7) (aD (bN cI (aD (aE aQ (aB 1) (dC (.int 2))) aI)) (aD (bN cI (aD (aB 4) aI)) aI)))))))) (bE [] (dC (.bl false))) bJ) zT2))
section
variable{f:Fm}{ss:List Sd}
def cj1(t t':T)(kf:dX [bQ false f,.lst false (ss.map (dG false f))]=.ok t)(ct:cM t=true)(zt:frz t=t')(ti:∃us,t=.tup us)(ti':∃us,t'=.tup us)(kr:gJ [t',.lst false (cP f ss),.int (f.n.length:Int),.int (ss.length:Int)]=.ok (.bl true))(a0 a2 a3:Option T)(k:zT2 [a0,some (eY true f),a2,a3,some (.lst true (ss.map (gK false))),some (bQ true f),some (.lst true (ss.map (dG false f))),some (.lst true (cP f ss)),some t,none,none,none,none]=.rt (.bl true)):
 zT1 [a0,some (eY true f),a2,a3,some (.lst true (ss.map (gK false))),some (bQ true f),some (.lst true (ss.map (dG false f))),some (.lst true (cP f ss)),none,none,none,none,none]=.rt (.bl true):=by
 obtain⟨us,rfl⟩:=ti;obtain⟨us',rfl⟩:=ti';simp only[cM]at ct;simp only[frz,T.tup.injEq]at zt;have ar:=jD true f;have zo:=rG false f ss;have zS:frzs (cP f ss)=cP f ss:=gL (vM f ss);have f2:aQ (eY true f) (.int 2)=.ok (.lst true (f.n.map .str)):=by simp only[eY,vD,nW]
 unfold zT1;generalize zT2=Z2 at*;generalize cP f ss=S at*;walk_at "ev"
def dd3(g:Gd f)(h:∀s∈ss,SdOk f s)(hl:ss.length<=12)(a0 a2 a3:Option T):
 zT1 [a0,some (eY true f),a2,a3,some (.lst true (ss.map (gK false))),some (bQ true f),some (.lst true (ss.map (dG false f))),some (.lst true (cP f ss)),none,none,none,none,none]=.rt (.bl true):=by
 obtain⟨W,hW⟩:=Classical.axiomOfChoice (do7 g h);obtain⟨X,hX⟩:=Classical.axiomOfChoice hW;have aS:=pM h;have lS:=aw4 g (ss:=ss) V8;have no:=λN=>(hX N).2.2.1;have cl:=λN=>(hX N).2.1;have lx:=λN=>(hX N).2.2.2.1;have ring:∀M,W M≠"dating"->cY [.lst false (X M),.lst false (wo M (cP f ss))]=.ok (.bl true)/\∀D:Nat->Int,¬∀t∈wo M (cP f ss),D (cC f.n.length t)<=D (dI f.n.length t)+cN t:=λM hM=>(hX M).2.2.2.2.elim (λq=>B0 q.1 hM) (λq=>q.2);have dat:∀M,W M="dating"->iT [.lst false (X M),.int (f.n.length:Int),.lst false (wo M (cP f ss))]=.ok (.bl true):=λM hM=>(hX M).2.2.2.2.elim (λq=>q.2) (λq=>B0 (q.1.symm.trans hM) W1);obtain⟨l1,l2⟩:=bh5 ss.length hl;rcases cw9 g h hl (W:=W) (X:=X) (λN=>⟨(hX N).1,(hX N).2.1⟩)with⟨Sm,L,P,N,R,hp,eL,hS,hP,hN,kf⟩|⟨hD,kf⟩
 . have kr:=cg4 aS lS g.n8 hl no hp eL (λM hM=>(ring M (hS M hM)).1) (λM hM=>(ring M (hP M hM)).2) (dat N hN);have lQ:Sm.length<=1000:=by rcases hp with⟨rfl,_⟩|⟨rfl,_⟩|⟨rfl,_⟩<;>simp<;>omega
   refine cj1 _ _ kf ?_ ?_ ⟨_,rfl⟩ ⟨_,rfl⟩ kr a0 a2 a3 (tail_drop g h hl no cl lx lQ (λM hM=>(ring M (hS M hM)).1) kf kr a0 a2 a3)
   . simp only[cM,bZ,(iM N).2.1,cl N,uO cl Sm];rfl
   . simp only[frz,frzs,(iM N).2.2,dR _ (no N),oX no true Sm]
 . have kr:=cb3 aS lS hl no (λM hM=>(ring M (hD M hM)).1);have lQ:(kR ss.length).length<=1000:=by simp only[kR,List.length_append];simp;omega
   refine cj1 _ _ kf ?_ ?_ ⟨_,rfl⟩ ⟨_,rfl⟩ kr a0 a2 a3 (ca7 g h hl no cl lQ (λM hM=>(ring M (hD M hM)).1) kf kr a0 a2 a3)
   . simp only[cM,bZ,uO cl (kR ss.length)];rfl
   . simp only[frz,frzs,oX no true (kR ss.length)]
end
def ec4(o:Bool)(f:Fm):frz (eY o f)=eY false f:=by simp only[eY,frz,frzs,yN,sG,uB]
def dl2(f:Fm):cM (eY true f)=true:=by simp only[eY,cM,bZ,zJ,zR,af7,Bool.and_self]
def di9{α β:Type}(g:α->β)(xs:List α)(lo hi:Option Int):iI (xs.map g) lo hi=(iI xs lo hi).map g:=by unfold iI;rw[B5,R9,List.map_drop]
def ds6{α:Type}(xs:List α)(m:Int)(h0:0<=m)(h:m<=12):(iI xs (some 2) (some (2+m))).length<=m.toNat:=by unfold iI;rw[M4,U8];simp only[HT.sIx];rw[E5 V8,E5 V8];omega
noncomputable abbrev zI:Fr->bO:=(cF (jT (aU (oS vN vN (dC (.int 0)) (bN cI (aD (aB 4) aI)) (dC (.int 8)))) (aU (aE eV (aE cK (aE iG (aX 2 fT (aD (aB 0) (aD (dC (.int 1)) aI))) (dC (.int 4))) (dC (.int 8))) (dC (.int 5))))) (aM (gN 4 [] cO (aP (aE aQ (aB 4) (dC (.int 0))))) (gN 6 [] cO (aP (aE aQ (aB 6) (dC (.int 0)))))) bJ)
theorem ew9{f:Fm}{ss:List Sd}(h:∀s∈ss,SdOk f s)(hl:ss.length<=12)(ns:List Int)(a1 a2 a3 a5:Option T):∃us:List Sd,(∀s∈us,SdOk f s)/\us.length<=12/\zI [some (.lst false (ns.map .int)),a1,a2,a3,some (.lst true (ss.map (gK false))),a5,some (.lst true (ss.map (dG false f))),none,none,none,none,none,none]=.nx [some (.lst false (ns.map .int)),a1,a2,a3,some (.lst true (us.map (gK false))),a5,some (.lst true (us.map (dG false f))),none,none,none,none,none,none]:=by
 have ec:fT [.lst false (ns.map .int),.int 1]=.ok (.int (ns.getD 1 0)):=bp7 false ns 1;have nn:=lW ns;have zz:=oJ ns;cases ss with
 |nil=>
  refine⟨[],h,hl,?_⟩;have d0:decide ((0:Int)<((0:Nat):Int))=false:=W1
  unfold zI;walk_at "ev"
 |cons s ss=>
  by_cases h8:((s::ss).length:Int)<8
  . by_cases h5:ns.getD 1 0/4%8=5
    . refine⟨(s::ss)++[s],λq hq=>(A3.mp hq).elim (h q) (λz=>by rw[C5.mp z];exact h s (A7 ..)),by simp at h8⊢;omega,?_⟩;have b0:=@iW T;have n1:cB (gK false s)=true:=by have:=ai2 (ss:=[s]) (λq hq=>by rw[C5.mp hq];exact h s (A7 ..));simpa[aW]using this
      have n2:cB (dG false f s)=true:=by have:=wJ f [s];simpa[aW]using this
      rw[D8]at h8;have l1:ss.length+1<sizeLine:=by have:=D9;omega
      have d0:decide ((0:Int)<((ss.length+1:Nat):Int))=true:=F8 V8;have d8:decide (((ss.length+1:Nat):Int)<8)=true:=F8 h8;have d5:(ns.getD 1 0/4%8==5)=true:=by rw[h5];rfl
      clear h5 h8 h hl;unfold zI;simp only[List.map_append,List.map_cons,List.map_nil];walk_at "ev"
    . refine⟨s::ss,h,hl,?_⟩;have g0:(0:Int)<((s::ss).length:Int):=by rw[D8];omega
      have d5:(ns.getD 1 0/4%8==5)=false:=by simpa using h5
      clear h5;unfold zI;generalize s::ss=ss at*;walk_at "ev"
  . refine⟨s::ss,h,hl,?_⟩;have g0:(0:Int)<((s::ss).length:Int):=by rw[D8];omega
    unfold zI;generalize s::ss=ss at*;walk_at "ev"
def main(ns:List Int)(h63:ns.length<=63)(hb:∀n∈ns,Builtin.Int.intBits n<=1048576):bj5 [.lst false (ns.map .int)]=.ok (.bl true):=by
 unfold bj5;show bU ((aM (aY [] (aX 2 qD (aD (aB 0) (aD (dC (.int 4)) aI))) (aH 1))
  (aM (aY [] (aP (aE aQ (eI (aD (dC (.int 8)) (aD (dC (.int 12)) aI))) (aE iG (aE cK (aE iG (aX 2 fT (aD (aB 0) (aD (dC (.int 1)) aI))) (dC (.int 4))) (dC (.int 8))) (dC (.int 7))))) (aH 2))
  (aM (aY [] (aX 2 oQ (aD (aE iG (aX 2 fT (aD (aB 0) (aD (dC (.int 1)) aI))) (dC (.int 32))) (aD (aB 1) aI))) (aH 3))
  (aM (aY [] (af1 (aX 4 nI (aD (vY rQ (aB 0) (kK (dC (.int 2))) (kK (aE bS (dC (.int 2)) (aB 2)))) (aD (aB 1) (aD (aE vW (aE cK (aX 2 fT (aD (aB 0) (aD (dC (.int 1)) aI))) (dC (.int 4))) (dC (.int 0))) (aD (aB 3) aI)))))) (aH 4))
  (aM (aY [] (aX 1 nH (aD (aB 1) aI)) (aH 5))
  (aM (aY [] (af1 (aX 2 tQ (aD (aB 5) (aD (aB 4) aI)))) (aH 6))
  (aM zI (aM (aY [] (aX 2 qI (aD (aB 1) (aD (aB 4) aI))) (aH 7)) zT1)))))))) (cE 13 [.lst false (ns.map .int)]))=_
 obtain⟨f,hf,g⟩:=db9 ns;have ec:fT [.lst false (ns.map .int),.int 1]=.ok (.int (ns.getD 1 0)):=bp7 false ns 1;obtain⟨hid,hh,hl,hhb⟩:=do1 (ns.getD 1 0/32) g;obtain⟨m,hm,m0,m1⟩:∃m:Int,atI [T.int 8,T.int 12] (ns.getD 1 0/4%8/7)=some (.int m)/\0<=m/\m<=12:=by
  have:ns.getD 1 0/4%8/7=0\/ns.getD 1 0/4%8/7=1:=V8
  rcases this with e|e<;>rw[e]
  . exact⟨8,rfl,V8,V8⟩
  . exact⟨12,rfl,V8,V8⟩
 have ct:=di9 T.int ns (some 2) (some (2+m));have ctl:=ds6 ns m m0 m1;obtain⟨ss,hs,sl,sok⟩:=cg7 g (iI ns (some 2) (some (2+m))) V8 (decide (0<ns.getD 1 0%4)) hid hl hhb;have s12:ss.length<=12:=V8
 have ka:=bg4 g;have kh:=es1 sok V8;obtain⟨us,uok,u12,kg⟩:=ew9 sok s12 ns (some (eY true f)) (some (.int m)) (some (.lst true (hid.map .int))) (some (bQ true f));have k1:=bz9 g uok V8;have kz:=dd3 g uok u12 (some (.lst false (ns.map .int))) (some (.int m)) (some (.lst true (hid.map .int)));have fm:=ec4 true f;have cf:=dl2 f;have ar:=jD true f;have ca:=ba6 f;have zs:=aj2 (f:=f) true sok;have zs0:=aj2 (f:=f) false sok;have zu0:=aj2 (f:=f) false uok;have cs:=am8 sok;have co:=cv3 f ss;have zo:=rG true f ss;have nn:=lW ns;have zh:=oJ hid;have zn:=oJ ns;have c1:=lG (vM f us);clear sok uok hb sl ctl hhb g hl s12 u12 h63 m0 m1;generalize cP f us=S1 at*;generalize zI=ZI at*;generalize zT1=ZT at*;walk_at "ev"
end Nk53
end
namespace PySem.W.Fast
def tw10068859206889543289:=Nat
def tw10072497214595104945:=Nat
def tw10076449243850487536:=Nat
def tw10135271792344011402:=Nat
def tw10153169290119140823:=Nat
def tw10153414931240896249:=Nat
def tw10177876542784649239:=Nat
def tw10238825734623575194:=Nat
def tw10239039971872625712:=Nat
def tw10249839629566949149:=Nat
def tw10356740776887866452:=Nat
def tw10402099411898387246:=Nat
def tw10485269665493073506:=Nat
def tw10533313927455698143:=Nat
def tw10550571866001607816:=Nat
def tw10562127397239052251:=Nat
def tw10598936260201373779:=Nat
def tw10619152380650499453:=Nat
def tw10641984885061004442:=Nat
def tw10714630504922558575:=Nat
def tw10724760222229446660:=Nat
def tw10766266819104615645:=Nat
def tw10769642302554012405:=Nat
def tw10795872929317281732:=Nat
def tw10814428336567977710:=Nat
def tw10831609901107796881:=Nat
def tw10833866260695010017:=Nat
def tw10874376688324866065:=Nat
def tw10988499047509718319:=Nat
def tw10990208307212742561:=Nat
def tw11007418051057512232:=Nat
def tw11077625562202718804:=Nat
def tw11115806887382606388:=Nat
def tw11123660550490693790:=Nat
def tw11163083265549626395:=Nat
def tw11177803929015681637:=Nat
def tw11229578849233376951:=Nat
def tw1124006648153111521:=Nat
def tw11268059561348843770:=Nat
def tw11275092752824593460:=Nat
def tw11320368849465615665:=Nat
def tw11350765706884933828:=Nat
def tw11350982899815854243:=Nat
def tw113515570854896560:=Nat
def tw11356824853035372403:=Nat
def tw1136813191108590118:=Nat
def tw11394873036497725020:=Nat
def tw11398166022615512743:=Nat
def tw11463708354732194501:=Nat
def tw11507299186719964437:=Nat
def tw11530682230775646901:=Nat
def tw1153156238989185219:=Nat
def tw11617055523519206475:=Nat
def tw1161985715664226765:=Nat
def tw11641847171703983103:=Nat
def tw11680991060617962445:=Nat
def tw11696758983071071121:=Nat
def tw11699132224212153611:=Nat
def tw11725442759030790197:=Nat
def tw11750561795321255533:=Nat
def tw1175299161190402001:=Nat
def tw11789096720135723889:=Nat
def tw1180387512807840619:=Nat
def tw11809234080323947080:=Nat
def tw1181532744882994760:=Nat
def tw1190098228770769896:=Nat
def tw11920069912271496035:=Nat
def tw11928647791855905367:=Nat
def tw11938141776303889934:=Nat
def tw11955227769980256364:=Nat
def tw11980106711381704112:=Nat
def tw12048727798410940093:=Nat
def tw12116610931740470043:=Nat
def tw12140204247039148669:=Nat
def tw12154742762018654876:=Nat
def tw12185014036854626887:=Nat
def tw12191191952020453660:=Nat
def tw12197227508328569818:=Nat
def tw1219904500387261247:=Nat
def tw12228194727778271798:=Nat
def tw12234434860699286312:=Nat
def tw1224071762601077788:=Nat
def tw12250755980379738273:=Nat
def tw12265714477132095349:=Nat
def tw12271436860252024494:=Nat
def tw1228208438663563588:=Nat
def tw12291626639851458025:=Nat
def tw12324824434587639922:=Nat
def tw12325909814535859175:=Nat
def tw12422886612466527689:=Nat
def tw12538836285332990102:=Nat
def tw12545764921885906762:=Nat
def tw12600447469914096315:=Nat
def tw12625380151297367852:=Nat
def tw12661619095213003041:=Nat
def tw12677579573242569549:=Nat
def tw12722699685789568474:=Nat
def tw12736099562650396538:=Nat
def tw12742555906762773731:=Nat
def tw12752935200311214843:=Nat
def tw12757839443471608366:=Nat
def tw12772659230246525215:=Nat
def tw12777336898000777480:=Nat
def tw1278060168009831722:=Nat
def tw12786744908908833191:=Nat
def tw12804965658984951280:=Nat
def tw12823985660301869072:=Nat
def tw12838567704451695439:=Nat
def tw12854271167830384874:=Nat
def tw12860219409377656449:=Nat
def tw12904411924841945624:=Nat
def tw12917323848587181590:=Nat
def tw12925328183936929540:=Nat
def tw12925670347624424606:=Nat
def tw12989108288232717360:=Nat
def tw13040080597428801714:=Nat
def tw13098145670005062858:=Nat
def tw13113765424543046061:=Nat
def tw131139503618982214:=Nat
def tw13144963006244818609:=Nat
def tw13147751120320604623:=Nat
def tw1323132543819965865:=Nat
def tw13284871298349274068:=Nat
def tw13297517627339779086:=Nat
def tw13310374725973865012:=Nat
def tw13348825673216248165:=Nat
def tw13389396629861761005:=Nat
def tw13424228569134912791:=Nat
def tw13613388035598275272:=Nat
def tw13615734814140750941:=Nat
def tw13666042605908365285:=Nat
def tw13671676102545858078:=Nat
def tw13685515742185907495:=Nat
def tw13736062633088949093:=Nat
def tw13786458722238139324:=Nat
def tw13792065679871014455:=Nat
def tw13809626809659193427:=Nat
def tw13819118470815242333:=Nat
def tw13830582150720527994:=Nat
def tw13840647893922449684:=Nat
def tw13888606019791155433:=Nat
def tw13989055217033441047:=Nat
def tw14026495581675504466:=Nat
def tw14073879062767823640:=Nat
def tw1408376393362695538:=Nat
def tw1410705679929448621:=Nat
def tw14117458164050586620:=Nat
def tw14133589185387712661:=Nat
def tw14186430497691608681:=Nat
def tw1418961421372550902:=Nat
def tw14225478933056279708:=Nat
def tw14227158297095589423:=Nat
def tw14252927392470978882:=Nat
def tw14294157577777336765:=Nat
def tw14340073677119363831:=Nat
def tw14346699105726088509:=Nat
def tw14383876910891695930:=Nat
def tw14515006836492398497:=Nat
def tw1454223181890590391:=Nat
def tw14556052212222480379:=Nat
def tw14564175216587116918:=Nat
def tw1460047182051340047:=Nat
def tw14664050382755226374:=Nat
def tw14674398417994393621:=Nat
def tw14704437885719945799:=Nat
def tw14706487010993437028:=Nat
def tw14741947399434490906:=Nat
def tw14777307119028530797:=Nat
def tw14788783044514711401:=Nat
def tw14792685316728476156:=Nat
def tw14801635587791296163:=Nat
def tw14805097607009768967:=Nat
def tw14822421862813950589:=Nat
def tw14825944676954210941:=Nat
def tw148501035791661714:=Nat
def tw1487449838362221180:=Nat
def tw14896424453581258266:=Nat
def tw14910783235109678669:=Nat
def tw14925839992534204364:=Nat
def tw14928125312182391763:=Nat
def tw14945983135513340060:=Nat
def tw14982901960870956824:=Nat
def tw15019231115821699516:=Nat
def tw15039240903063519220:=Nat
def tw15089664795812721556:=Nat
def tw15176481095751426675:=Nat
def tw15177490116569493443:=Nat
def tw15177649949718544741:=Nat
def tw15193064637099952765:=Nat
def tw15196968042337705937:=Nat
def tw15214063470706250369:=Nat
def tw15235491036663143214:=Nat
def tw15236720218212694046:=Nat
def tw15281950605057380158:=Nat
def tw15291842415818210839:=Nat
def tw15317710612958574759:=Nat
def tw15339632970838223677:=Nat
def tw15353931665076132857:=Nat
def tw15397876426310692757:=Nat
def tw15403827027808299266:=Nat
def tw15423073141568691665:=Nat
def tw15469221661224659371:=Nat
def tw15505598855857871523:=Nat
def tw1551326515221795906:=Nat
def tw15564836820353664522:=Nat
def tw15639524680552880496:=Nat
def tw15754878470579650610:=Nat
def tw15764535591061908254:=Nat
def tw15824333863487704284:=Nat
def tw15826383399382252912:=Nat
def tw15888349007910149547:=Nat
def tw15906185412421770082:=Nat
def tw15931935311306240806:=Nat
def tw15935080172432472247:=Nat
def tw15937254134711130283:=Nat
def tw15953292119171529109:=Nat
def tw15981412894437610586:=Nat
def tw15991962231296607105:=Nat
def tw15997372951799378636:=Nat
def tw16003273528858993824:=Nat
def tw1600854979991663881:=Nat
def tw16102073007675439740:=Nat
def tw16120793762650388412:=Nat
def tw1614797928950981384:=Nat
def tw16171851647653728247:=Nat
def tw16175329450803815785:=Nat
def tw16176714948306808449:=Nat
def tw16270617558883073498:=Nat
def tw1630800464801518956:=Nat
def tw16323111027731949656:=Nat
def tw16378610780603437213:=Nat
def tw16386409577741533576:=Nat
def tw16388287269108349977:=Nat
def tw16494198860790463075:=Nat
def tw16496345136812289346:=Nat
def tw16497609320495601482:=Nat
def tw16508025345545079745:=Nat
def tw16550574146840917145:=Nat
def tw1655688194086786214:=Nat
def tw16601129022647299783:=Nat
def tw16610240904716970788:=Nat
def tw16619880847817938546:=Nat
def tw16654164428161559693:=Nat
def tw16677230884112119266:=Nat
def tw16715194498228351276:=Nat
def tw16756503683718121796:=Nat
def tw16759214919286628422:=Nat
def tw16794057667328822775:=Nat
def tw16810411007401606883:=Nat
def tw1682839055824105164:=Nat
def tw16842633717357565682:=Nat
def tw16847084352132323918:=Nat
def tw1691620553191207067:=Nat
def tw1692629923217935983:=Nat
def tw16954062987546393061:=Nat
def tw16983773247637005490:=Nat
def tw16995735188387910812:=Nat
def tw17000928318611077587:=Nat
def tw1705837457120924986:=Nat
def tw17077219853294794575:=Nat
def tw17083161232805824646:=Nat
def tw17084590816507367283:=Nat
def tw17103051095603510615:=Nat
def tw17123240039330830563:=Nat
def tw17132622558222501206:=Nat
def tw17136339840799616716:=Nat
def tw17154880484919004221:=Nat
def tw17171393848927720985:=Nat
def tw17175097152974631849:=Nat
def tw17291267942912569096:=Nat
def tw17366513061733855378:=Nat
def tw17392810721143425311:=Nat
def tw17393973693586455304:=Nat
def tw17417488877705125089:=Nat
def tw17422671810830060375:=Nat
def tw17433840931976185456:=Nat
def tw17463563684528454121:=Nat
def tw1746983674187693845:=Nat
def tw17496805589208667294:=Nat
def tw17514119351521886767:=Nat
def tw17561694195473000297:=Nat
def tw17579137394498303885:=Nat
def tw17612295866295798923:=Nat
def tw17633670195678172792:=Nat
def tw17634951918993958705:=Nat
def tw17708807164903249304:=Nat
def tw17784402514982586685:=Nat
def tw17826475194194318965:=Nat
def tw17888364015944944014:=Nat
def tw17933726188011990206:=Nat
def tw17968960896223649261:=Nat
def tw17968992320831104650:=Nat
def tw17976678342422839259:=Nat
def tw17990241065776183072:=Nat
def tw18003652530668711089:=Nat
def tw18076769692263643847:=Nat
def tw18083251950654457033:=Nat
def tw18093951454733559428:=Nat
def tw18123335503049971068:=Nat
def tw18131392435279168032:=Nat
def tw18136382133951880573:=Nat
def tw18148338667621970372:=Nat
def tw1823300693679543836:=Nat
def tw18236728800089238899:=Nat
def tw18333031753539444842:=Nat
def tw18367640785116982055:=Nat
def tw18395223302153813323:=Nat
def tw18397526574127211289:=Nat
def tw1909824334264479903:=Nat
def tw1955362036776100281:=Nat
def tw1966369033265295731:=Nat
def tw1974004485275466753:=Nat
def tw2000453612089586390:=Nat
def tw2021591670455176126:=Nat
def tw2145342663088522003:=Nat
def tw215774148054134855:=Nat
def tw2221850404178856000:=Nat
def tw2322590794259180881:=Nat
def tw2330572366084429368:=Nat
def tw2350186055857288534:=Nat
def tw2375303385598411497:=Nat
def tw2394159643558131092:=Nat
def tw2441238558349260442:=Nat
def tw2449109744889468889:=Nat
def tw2504314366331113172:=Nat
def tw2504931516550260349:=Nat
def tw2524951647992726243:=Nat
def tw2526062648218512571:=Nat
def tw2612145906639051127:=Nat
def tw2643178743994944821:=Nat
def tw2679051868749323440:=Nat
def tw2695259421974832613:=Nat
def tw2767719314133005584:=Nat
def tw2802199061886912934:=Nat
def tw2808187545913816832:=Nat
def tw2823172685698006677:=Nat
def tw2864596185276018655:=Nat
def tw2935848930908031103:=Nat
def tw2964549094465919013:=Nat
def tw2985716760101240836:=Nat
def tw3028048459714724841:=Nat
def tw3095407254314538763:=Nat
def tw3114191711656422643:=Nat
def tw3146158664808803359:=Nat
def tw3147451415742271484:=Nat
def tw3163315206965353685:=Nat
def tw3213077350339094222:=Nat
def tw3221750948556360458:=Nat
def tw3267368719240750788:=Nat
def tw3273615335049343918:=Nat
def tw3275425883283252296:=Nat
def tw3277181273482990922:=Nat
def tw3287146522185121373:=Nat
def tw3295829283455349561:=Nat
def tw3314293651610188679:=Nat
def tw3326110288417884202:=Nat
def tw3328950793392203524:=Nat
def tw3330303006299486948:=Nat
def tw3370241834077022094:=Nat
def tw3371729119881181320:=Nat
def tw3390434716520565483:=Nat
def tw340201792817205148:=Nat
def tw3444016247890628933:=Nat
def tw348055362866034131:=Nat
def tw3514060656491588828:=Nat
def tw3526131910079645684:=Nat
def tw3532275492606563645:=Nat
def tw3542394444984123972:=Nat
def tw3596433705792956264:=Nat
def tw3663521942926282076:=Nat
def tw3728137887395250167:=Nat
def tw3735329320469578119:=Nat
def tw3746629464604098288:=Nat
def tw3794758672755102303:=Nat
def tw3799613709535076385:=Nat
def tw380298866577020566:=Nat
def tw3818316563916683765:=Nat
def tw3826531477060465363:=Nat
def tw3828338723449733889:=Nat
def tw3900112574348927665:=Nat
def tw3964814020582747180:=Nat
def tw3967366315287514136:=Nat
def tw3989670863523791895:=Nat
def tw4119571181227457752:=Nat
def tw4226916921027044822:=Nat
def tw4264617476153585411:=Nat
def tw4318791893854446838:=Nat
def tw4329483729932063939:=Nat
def tw4331012734284704479:=Nat
def tw4332323471229344615:=Nat
def tw436935163369130812:=Nat
def tw4427533381521891649:=Nat
def tw4445776653599513496:=Nat
def tw4488444508582369491:=Nat
def tw4533875914653707573:=Nat
def tw4543539012225847422:=Nat
def tw4553935222724211214:=Nat
def tw4569514736989269364:=Nat
def tw4595101191532647066:=Nat
def tw4641606193262394594:=Nat
def tw4641787765373700324:=Nat
def tw4690476211578908980:=Nat
def tw4714265592287429899:=Nat
def tw4746040242408014276:=Nat
def tw4769698225579073052:=Nat
def tw4781205579462736283:=Nat
def tw4896227557308473129:=Nat
def tw4947875740028822765:=Nat
def tw4989226680330474743:=Nat
def tw5008984022723261867:=Nat
def tw5017900681898199189:=Nat
def tw5021257800701162172:=Nat
def tw5033581979918064901:=Nat
def tw5034512821083361884:=Nat
def tw5056944456910684973:=Nat
def tw5070038771049812708:=Nat
def tw5104628553602534956:=Nat
def tw5111089709080570443:=Nat
def tw5133564961624489602:=Nat
def tw516075707362965684:=Nat
def tw5163277453400046728:=Nat
def tw5199740285182092222:=Nat
def tw5223433491073637881:=Nat
def tw5232505128906147280:=Nat
def tw5249687242689830978:=Nat
def tw5259002560570405509:=Nat
def tw5295898587274110161:=Nat
def tw5393179801945518589:=Nat
def tw5406808401017069846:=Nat
def tw5425399169519150433:=Nat
def tw5457639865369280507:=Nat
def tw546459612630853821:=Nat
def tw5466253143048804551:=Nat
def tw5511315324519604186:=Nat
def tw5525517401292261961:=Nat
def tw5540592573670127413:=Nat
def tw5553792546632081962:=Nat
def tw555769547083233537:=Nat
def tw5578870947078991922:=Nat
def tw5584295014107394178:=Nat
def tw55908098137417489:=Nat
def tw5596160458725695444:=Nat
def tw5608130099783404911:=Nat
def tw5624041738014606511:=Nat
def tw5661364406609299552:=Nat
def tw5670569248795159246:=Nat
def tw5706135326683847616:=Nat
def tw5724460239243267358:=Nat
def tw5727211025584766273:=Nat
def tw574788273906831149:=Nat
def tw5772906662804772584:=Nat
def tw5795221158390156100:=Nat
def tw58085494071789771:=Nat
def tw5839158919883593259:=Nat
def tw5840855522949901509:=Nat
def tw5874020580743000978:=Nat
def tw5906460210161885262:=Nat
def tw5914132869019072110:=Nat
def tw597077757532153152:=Nat
def tw5971733600989890087:=Nat
def tw6044526309555085797:=Nat
def tw606858939624016433:=Nat
def tw6095526514583227184:=Nat
def tw6149137850950172210:=Nat
def tw6151406499879583314:=Nat
def tw6200601670370445606:=Nat
def tw6210841269593971257:=Nat
def tw6240772088627006646:=Nat
def tw626504100433853820:=Nat
def tw6277859400362163273:=Nat
def tw6284502744228321735:=Nat
def tw6316829721248554378:=Nat
def tw6334135916473562804:=Nat
def tw636025030625846204:=Nat
def tw6382024943426818312:=Nat
def tw6420845251696517268:=Nat
def tw6421539548631962411:=Nat
def tw6456789324899959200:=Nat
def tw6473665095567718075:=Nat
def tw6484800699545156247:=Nat
def tw6495570326548343288:=Nat
def tw6507999219400924067:=Nat
def tw6530827739580153462:=Nat
def tw6567618300734148546:=Nat
def tw6576288140111499071:=Nat
def tw659206207246547598:=Nat
def tw6604987973493691412:=Nat
def tw6628187956855039850:=Nat
def tw6665566864964637987:=Nat
def tw6682906919048368510:=Nat
def tw6693840382344184083:=Nat
def tw6710599490571668738:=Nat
def tw6729259144097921644:=Nat
def tw6730437703208472547:=Nat
def tw6743261894705269344:=Nat
def tw6797626006016793707:=Nat
def tw6819723167345246333:=Nat
def tw6841004193389103360:=Nat
def tw6865433434717028636:=Nat
def tw6876746030877211389:=Nat
def tw6878005961669003738:=Nat
def tw6881902652355959718:=Nat
def tw6889878023210407651:=Nat
def tw6925644632587810498:=Nat
def tw6969350669078567703:=Nat
def tw6972331128433159170:=Nat
def tw6980257512034351987:=Nat
def tw6988442376479270742:=Nat
def tw6994715118137925540:=Nat
def tw7018519862518514030:=Nat
def tw7035999345596943106:=Nat
def tw7058611794650290020:=Nat
def tw7062028747660737441:=Nat
def tw7101367752584733900:=Nat
def tw71186857969447538:=Nat
def tw7120390438543595397:=Nat
def tw7176698491292676044:=Nat
def tw720930046079227081:=Nat
def tw7252893011202450130:=Nat
def tw725462873426850834:=Nat
def tw7275336474901423389:=Nat
def tw7308295843442675049:=Nat
def tw7316080464010903461:=Nat
def tw7339642461684548114:=Nat
def tw734312567569688819:=Nat
def tw7358657274573510781:=Nat
def tw7367894023470227676:=Nat
def tw7379391609895418612:=Nat
def tw7484438436352545549:=Nat
def tw7520223573219925248:=Nat
def tw7521033906549215764:=Nat
def tw7541443278300653757:=Nat
def tw7593204405518167670:=Nat
def tw763551142432305609:=Nat
def tw7638092779295000944:=Nat
def tw7639256399725493535:=Nat
def tw7653318975903935632:=Nat
def tw7669272924804186534:=Nat
def tw7670373563683108360:=Nat
def tw7676912233496455166:=Nat
def tw7729909776085103941:=Nat
def tw7761470681046523475:=Nat
def tw7806171755290533616:=Nat
def tw7820099829631508946:=Nat
def tw7862026419015133986:=Nat
def tw7882088868357812953:=Nat
def tw7894292343917892819:=Nat
def tw7933759004395873742:=Nat
def tw7937078842274031883:=Nat
def tw7975538934974036793:=Nat
def tw7995701542942253132:=Nat
def tw8023262462008283522:=Nat
def tw8041124794177625079:=Nat
def tw8123039204535325267:=Nat
def tw8151523522424726454:=Nat
def tw8169751247573846865:=Nat
def tw819258025845401477:=Nat
def tw8204197819647295715:=Nat
def tw8213164432184675313:=Nat
def tw824280817924368020:=Nat
def tw8312993409326655117:=Nat
def tw8318935544001703200:=Nat
def tw8327404524295842091:=Nat
def tw8329755612242733348:=Nat
def tw8338889504248620183:=Nat
def tw8380407572016529922:=Nat
def tw8409065405280245305:=Nat
def tw847917177112865681:=Nat
def tw8489778860966429281:=Nat
def tw850692854458903376:=Nat
def tw8531674157736021725:=Nat
def tw8538717064790928325:=Nat
def tw8552417309211712007:=Nat
def tw8584387016049101441:=Nat
def tw8586765595541855631:=Nat
def tw8591606040072767461:=Nat
def tw8600325786824623749:=Nat
def tw8620145990622553941:=Nat
def tw8642660745002583619:=Nat
def tw8669280177406740570:=Nat
def tw8682904217220453062:=Nat
def tw8703444057893579407:=Nat
def tw8722191453599624207:=Nat
def tw8726824552309318055:=Nat
def tw8779944756934561262:=Nat
def tw8785509117300664219:=Nat
def tw8809179417527701965:=Nat
def tw8892281066548354609:=Nat
def tw8921110960684811238:=Nat
def tw9038920395120512955:=Nat
def tw903924478478288168:=Nat
def tw9086867650038280117:=Nat
def tw9186582698315242975:=Nat
def tw9203347674252576028:=Nat
def tw9227838412639750088:=Nat
def tw9238672420809894513:=Nat
def tw9258600571165199975:=Nat
def tw9261364500042707688:=Nat
def tw9277001081121122677:=Nat
def tw9279696673543315680:=Nat
def tw9286138059435413292:=Nat
def tw9373659949109640815:=Nat
def tw9411645855573742557:=Nat
def tw9462156762139234877:=Nat
def tw9488141471684777951:=Nat
def tw952990300179052440:=Nat
def tw9551889664707904791:=Nat
def tw9628620336041309144:=Nat
def tw9631246201442627519:=Nat
def tw9631379535868126624:=Nat
def tw9708651149101430829:=Nat
def tw9708836811621788047:=Nat
def tw9753015644640194059:=Nat
def tw9777357364779036949:=Nat
def tw9815439915334007246:=Nat
def tw9816269271207778129:=Nat
def tw9883337370314328641:=Nat
def tw992157603909833124:=Nat
def tw9926010487753949675:=Nat
def tw9964116872666796254:=Nat
def tw9999025718242090101:=Nat
end PySem.W.Fast
open PySem PySem.W PyProof.Rows
set_option maxRecDepth 100000 in
set_option maxHeartbeats 0 in
theorem PySem.Challenge.cw_inkyears_k53_fewest_false_holds : PySem.Challenge.rw_inkyears_k53_fewest_false.Holds := by
 w_on;o_law;k_head;(case hw=>w_witness2)
 k_fill
 refine L2.dx1 (l:=PySem.Challenge.rw_inkyears_k53_fewest_false) (k:=8) (x:="_law_script") rfl rfl ⟨rfl,by decide,by decide⟩ (λw h Y=>PySem.W.kIn_of Y) ?F
 case F=>
  intro w mg fa h KX G hmg
  refine' Nk53.el1 (cn:=λx=>[(("Archive":Str),?c_Archive),(("Ink":Str),?c_Ink),(("Reign":Str),?c_Reign),(("Under":Str),?c_Under),(("Between":Str),?c_Between),(("After":Str),?c_After),(("Same":Str),?c_Same),(("Within":Str),?c_Within),(("Apart":Str),?c_Apart)].lookup x) (c_Archive:=?c_Archive) (c_Ink:=?c_Ink) (c_Reign:=?c_Reign) (c_Under:=?c_Under) (c_Between:=?c_Between) (c_After:=?c_After) (c_Same:=?c_Same) (c_Within:=?c_Within) (c_Apart:=?c_Apart) KX G hmg ?a0 ?l0 ?c0 ?k0 ⟨?T0,?T1,?T2,?T3,?T4,?T5,?T6,?T7,?T8,?T9,?T10,?T11,?T12,?T13,?T14,?T15,?T16,?T17,?T18,?T19,?T20,?T21,?T22,?T23,?T24,?T25,?T26,?T27,?T28,?T29,?T30,?T31,?T32,?T33,?T34,?T35,?T36,?T37,?T38,?T39,?T40,?T41,?T42,?T43,?T44,?T45,?T46,?T47,?T48,?T49,?T50,?T51,?T52,?T53,?T54,?T55,?T56,?T57,?T58,?T59,?T60,?T61,?T62,?T63,?T64,?T65,?T66,?T67,?T68,?T69,?T70,?T71,?T72,?T73,?T74,?T75,?T76,?T77,?T78,?T79,?T80,?T81,?T82,?T83,?T84,?T85,?T86,?T87,?T88,?t0,?t1,?t2,?t3,?t4,?t5,?t6,?t7,?t8,?t9,?t10,?t11,?t12,?t13,?t14,?t15,?t16,?t17,?t18,?t19,?t20,?t21,?t22,?t23,?t24,?t25,?t26,?t27,?t28,?t29,?t30,?t31,?t32,?t33,?t34,?t35,?t36,?t37,?t38,?t39,?t40,?t41,?t42,?t43,?t44,?t45,?t46,?t47,?t48,?t49,?t50,?t51,?t52,?t53,?t54,?t55,?t56,?t57,?t58,?t59,?t60,?t61,?t62,?t63,?t64,?t65,?t66,?t67,?t68,?t69,?t70,?t71,?t72,?t73,?t74,?t75,?t76,?t77,?t78,?t79,?t80,?t81,?t82,?t83,?t84,?t85,?t86,?t87,?t88,?t89,?t90,?t91,?t92,?t93,?t94⟩ Nk53.main
  (case a0=>k_is);(case l0=>k_is);(case c0=>k_is);(case k0=>k_is)
  all_goals try(refine' L2.ei4 KX G ?a ?l ?c ?k;(case a=>k_is);(case l=>k_is);(case c=>k_is);(case k=>k_is))
  all_goals try(refine' L2.dn8 KX G ?g ?mk ?a ?b ?kc ?l ?c ?k;(case g=>k_is);(case mk=>k_is);(case a=>k_is);(case b=>k_is);(case kc=>k_is);(case l=>k_is);(case c=>k_is);(case k=>k_is))
  all_goals try(refine' L2.dx8 ?a ?b ?l ?c ?k;(case a=>k_is);(case b=>k_is);(case l=>k_is);(case c=>k_is);(case k=>k_is))
  all_goals try exact PySem.W.mg_none_of KX G (by k_is)
  all_goals try(refine' L2.ej4 KX G ?a ?r;(case a=>k_is);(case r=>exact⟨_,rfl⟩))
  case t86=>(refine' L2.bi1 KX G ?g ?l ?r ?nd ?sm;(case g=>k_is);(case l=>k_is);(case r=>exact .cons (.cons (.cons (.cons (.cons (.cons (.cons (.cons (.nil)))))))));(case nd=>decide+kernel);(case sm=>rfl))
  case T30=>(refine' L2.bi1 KX G ?g ?l ?r ?nd ?sm;(case g=>k_is);(case l=>k_is);(case r=>exact .cons (.cons (.cons (.cons (.cons (.nil))))));(case nd=>decide+kernel);(case sm=>rfl))
  case T31=>exact .cons (TL.mF (by k_is) (.int (.int .nil)) (by decide)) (.cons (TL.mF (by k_is) (.int (.int .nil)) (by decide)) (.cons (TL.mF (by k_is) (.int (.int .nil)) (by decide)) (.cons (TL.mF (by k_is) (.int (.int .nil)) (by decide)) (.cons (TL.mF (by k_is) (.int (.int .nil)) (by decide)) (.nil)))))
  case T32=>(refine' L2.bi1 KX G ?g ?l ?r ?nd ?sm;(case g=>k_is);(case l=>k_is);(case r=>exact .cons (.cons (.cons (.cons (.cons (.cons (.cons (.cons (.nil)))))))));(case nd=>decide+kernel);(case sm=>rfl))
  case T33=>exact .cons (TL.mF (by k_is) (.str (.str (.str (.str .nil)))) (by decide)) (.cons (TL.mF (by k_is) (.str (.str (.str .nil))) (by decide)) (.cons (TL.mF (by k_is) (.str (.str .nil)) (by decide)) (.cons (TL.mF (by k_is) (.str (.str (.str .nil))) (by decide)) (.cons (TL.mF (by k_is) (.str (.str .nil)) (by decide)) (.cons (TL.mF (by k_is) (.str (.str .nil)) (by decide)) (.cons (TL.mF (by k_is) (.str (.str (.str .nil))) (by decide)) (.cons (TL.mF (by k_is) (.str (.str (.str (.str .nil)))) (by decide)) (.nil))))))))
  all_goals try exact L2.ed9 KX G (by k_is) rfl
  case T34=>rfl
  case T36=>rfl
  case T38=>rfl
  case T40=>rfl
  case T42=>rfl
  case T44=>rfl
  case T46=>rfl
  case T48=>rfl
  case T50=>rfl
  all_goals try(refine' L2.ef0 ?a ?b ?c ?d;(case a=>k_is);(case b=>k_is);(case c=>k_is);(case d=>k_is))
  all_goals try exact L2.et6 (by k_is)
